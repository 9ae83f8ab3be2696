/- A property appended to a row of the call's own; the document's has and put. -/
import Derived.Test.YtggbafkeogccjaaCalls
namespace Go.Proofs.Ytggbafkeogccjaa
open Go.RowKit

/-- Nothing that was there has turned but v's own row. -/
structure Grew (b : Nat) (v : Value) (W w' : World) : Prop where
  size : W.heap.size ≤ w'.heap.size
  below : ∀ B w0, B ≤ b → B ≤ W.heap.size → Below B w0 W → Below B w0 w'
  cell : ∀ p : Addr, p.block < W.heap.size → some p.block ≠ v.ownBlock → w'.cell? p = W.cell? p

theorem OwnP.of_own {w : World} {b n : Nat} {v : Value} {l : List Pr} (h : w.ownsRow b 36 2 v n (flat l)) (hn : n = l.length) : OwnP w b v l := by
  subst hn
  rcases h.2 with ⟨e, h0⟩ | ⟨g, cap, cur, e, _⟩
  · exact ⟨none, 0, by rw [e, h0], h⟩
  · exact ⟨some ⟨g, 0, none⟩, cap, e, h⟩
theorem OwnP.own {w : World} {b : Nat} {v : Value} {l : List Pr} (h : OwnP w b v l) : w.ownsRow b 36 2 v l.length (flat l) := by
  obtain ⟨_, _, _, h⟩ := h
  exact h
theorem OwnP.lt {w : World} {b : Nat} {v : Value} {l : List Pr} (h : OwnP w b v l) {j : Nat} (hj : v.ownBlock = some j) : b ≤ j ∧ j < w.heap.size := h.own.lt j hj
theorem OwnP.alloc {w : World} {b : Nat} {v : Value} {l : List Pr} (h : OwnP w b v l) (o : Obj) : OwnP (w.alloc o) b v l := h.below ((Below.refl _ _).alloc (Nat.le_refl _) o)

theorem wpList_append_P (W : World) {ops : Array Oper} {rest : List Oper} {o : Oper} {a : Act} {Q : Exit → Act → World → Prop} (hgd : o.guard = none) (s x : Operand)
    (ho : o.op = .call { callee := .builtin .append, args := #[s, x], argTypes := #[22, 22] })
    (b : Nat) (v : Value) (l : List Pr) (hs : a.eval s = v) (hO : OwnP W b v l) (k t : ByteArray) (g : Nat) (hg : g = W.heap.size) (hx : a.eval x = .slice (some ⟨g, 0, none⟩) 1 1) (hlen : l.length ≤ 1000) (hb : b ≤ W.heap.size)
    (hK : ∀ v' w', OwnP w' b v' (l ++ [(k, t)]) → Grew b v W w' → wpList Try.prog ops Q rest (a.put o.dst v') w') :
    wpList Try.prog ops Q (o :: rest) a (W.alloc (.cells #[.string k, .string t] 36)) := by
  subst hg
  obtain ⟨i0, hi, hz0, hz1, hz2⟩ := info_parts info36
  refine wpList_append_own _ hgd s x 22 ho b 36 i0 _ 2 32 Try.underlying22 hi hz0 hz1 hz2 rfl (by decide) v l.length (flat l) hs (hO.alloc _).own ⟨W.heap.size, 0, none⟩ 1 1 [.string k, .string t] hx rfl (cell_two_new _ _ _ _) (by simp [Value.oneCell'])
    (by unfold maxLen; omega) (by omega) (by simp; omega) (fun v' w' h1 h2 _ => hK v' w' (OwnP.of_own (n := l.length + 1) (by rw [flat_append]; exact h1) (by simp)) ?_)
  have hsz : (W.alloc (.cells #[.string k, .string t] 36)).heap.size = W.heap.size + 1 := by simp
  refine ⟨by have := h2.size; omega, fun B w0 hB hBW hb0 => (hb0.alloc hBW _).grown h2 (by omega) (fun j hj => Nat.le_trans hB (hO.lt hj).1), fun p hp hne => ?_⟩
  exact (World.cell?_of_block (h2.block p.block (by omega) hne)).trans (World.cell?_alloc_lt _ _ p hp)

theorem ret_slice {a b : Value} (h : a = b) : Ending.returned a = .returned b := by rw [h]

set_option maxHeartbeats 2000000 in
theorem rhas_any (A : Option Addr) (l : List Pr) (c : Nat) (k v : ByteArray) (w : World) (hl : l.length ≤ 1000) (hp : PL w w.heap.size A l) :
    Calls Try.prog 30 #[.slice A l.length c, .agg #[.string k, .string v]] w fun e w' => e = .returned (.bool (hasB l (k, v))) ∧ Below w.heap.size w w' := by
  have HP := hd hp
  clear hp
  have hbox : Below (w.heap.size + 1) (w.alloc (.cells #[.string k, .string v] 36)) (w.alloc (.cells #[.string k, .string v] 36)) := Below.refl _ _
  have HB : Hid (∀ wr, Below (w.heap.size + 1) (w.alloc (.cells #[.string k, .string v] 36)) wr → Below w.heap.size w wr ∧ wr.cell? ⟨w.heap.size, 0, none⟩ = some (.string k) ∧ wr.cell? ⟨w.heap.size, 1, none⟩ = some (.string v)) := hd fun wr h =>
    ⟨((Below.refl _ _).alloc (Nat.le_refl _) _).trans (h.mono (by omega)), two_kept (by simpa using h)⟩
  go_enter Try.func30, Try.ntmps30
  go_wp2
  go_loopw [9] (fun i wr => ∃ n : Nat, n ≤ l.length ∧ i = .int .i64 n ∧ Below (w.heap.size + 1) (w.alloc (.cells #[.string k, .string v] 36)) wr ∧ Hid (∀ j, j < n → samePr (k, v) (prAt l j) = false)) (fun i _ => l.length - (intOf i).toNat)
  case atStart => exact ⟨0, Nat.zero_le _, rfl, hbox, fun j hj => absurd hj (Nat.not_lt_zero _)⟩
  case round =>
    clear hbox
    obtain ⟨n, hn, rfl, hb, HA⟩ := hrel
    obtain ⟨hw, k1, k2⟩ := HB.out wr hb
    have hsz : w.heap.size < wr.heap.size := by have := hb.size; simp at this; omega
    by_cases hlt : n < l.length
    · obtain ⟨b, o, rfl, hlb, c1, c2⟩ := (HP.out.below hw).at_ hlt
      have heq := fun W => eql36 (prAt l n).1 (prAt l n).2 k v W
      have hgd := fun (x y : Operand) (op : BinOp) (W : World) => run_eqGuard_agg (P := Try.prog) W op 36 x y #[.string (prAt l n).1, .string (prAt l n).2] #[.string k, .string v] guard36
      have hsym : samePr (k, v) (prAt l n) = ((prAt l n).1.toList == k.toList && (prAt l n).2.toList == v.toList) := by
        rw [Bool.eq_iff_iff, samePr_iff]
        constructor
        · intro h; rw [← h]; simp
        · intro h
          simp only [Bool.and_eq_true, beq_iff_eq] at h
          exact (Prod.ext (toList_inj h.1) (toList_inj h.2) : prAt l n = (k, v)).symm
      cases hs : ((prAt l n).1.toList == k.toList && (prAt l n).2.toList == v.toList)
      · have HX := one_more (p := fun j => samePr (k, v) (prAt l j) = false) HA (by rw [hsym]; exact hs)
        simp only [hs] at heq
        clear hs hsym HA
        go_wp2
        go_roundw
        case rel => exact ⟨n + 1, by omega, by go_num, hb.alloc (by omega) _, HX⟩
        case measure => simp [intOf]; omega
      · have HX : Hid (hasB l (k, v) = true) := hd (by
          rw [hasB_iff]
          have e := (samePr_iff _ _).1 (hsym.trans hs)
          rw [e, prAt_eq l n hlt]; exact List.getElem_mem hlt)
        simp only [hs] at heq
        clear hs hsym HA
        go_wp2
        go_ret
        exact ⟨ret_bool HX.out.symm, hw.alloc hw.size _⟩
    · have HX : Hid (hasB l (k, v) = false) := hd (by
        unfold hasB
        rw [List.any_eq_false]
        intro p hp
        obtain ⟨j, hj, rfl⟩ := List.mem_iff_getElem.1 hp
        have := HA.out j (by omega)
        rw [prAt_eq l j hj] at this
        simp [this])
      clear HA
      go_wp2
      go_ret
      exact ⟨ret_bool HX.out.symm, hw⟩

end Go.Proofs.Ytggbafkeogccjaa
