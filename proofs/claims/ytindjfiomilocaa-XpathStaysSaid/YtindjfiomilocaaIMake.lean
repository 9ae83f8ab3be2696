/- Rows of the call's own_i: a copy, a path beside one; and the calls that tell a parent, the next one, the one back. -/
import Derived.Test.YtindjfiomilocaaIStand
import Derived.Laws.AppendOwnNone
namespace Go.Proofs.Ytindjfiomilocaa
open Go.RowKit
open Go.WideShapes (add_plain)

theorem intInfo : (Try.prog.info? 3).map (fun i => (i.zero, i.size, i.bytes)) = some (some (.int .i64 0), 1, 8) := by kernel_rfl

set_option maxRecDepth 4000 in
/-- A list's numbers appended to a row of the call's own_i. -/
theorem wpList_append_L (W : World) {ops : Array Oper} {rest : List Oper} {o : Oper} {a : Act} {Q : Exit → Act → World → Prop} (hgd : o.guard = none) (s x : Operand)
    (ho : o.op = .call { callee := .builtin .append, args := #[s, x], argTypes := #[22, 22] })
    (b : Nat) (v : Value) (k l : List Int) (hs : a.eval s = v) (hO : OwnI W b v k) (A : Option Addr) (n c B : Nat) (hx : a.eval x = .slice A n c) (hn : l.length = n) (hp : IL W B A l) (hlen : k.length + l.length ≤ 10000) (hb : b ≤ W.heap.size)
    (hK : ∀ v' w', OwnI w' b v' (k ++ l) → Grew b v W w' → wpList Try.prog ops Q rest (a.put o.dst v') w') :
    wpList Try.prog ops Q (o :: rest) a W := by
  subst hn
  obtain ⟨i0, hi, hz0, hz1, hz2⟩ := info_parts intInfo
  rcases A with _ | ad
  · have hl : l = [] := by
      rcases Classical.em (l = []) with h | h
      · exact h
      · obtain ⟨_, _, h, _⟩ := hp h; cases h
    subst hl
    refine wpList_append_none hgd s x 22 ho b 3 i0 1 Try.underlying22 hi v k.length (k.map (Value.int .i64)) hs hO.own c hx ?_
    exact hK v W (by rw [List.append_nil]; exact hO) (Grew.refl _ _ _)
  · have hc : ∀ j u, (l.map (Value.int .i64))[j]? = some u → W.cell? (ad.add j) = some u := by
      intro j u hj
      have hjl : j < l.length := by have := (List.getElem?_eq_some_iff.1 hj).1; simpa using this
      obtain ⟨b', o', e, _, h⟩ := hp (by rintro rfl; simp at hjl)
      injection e with e
      subst e
      rw [add_plain, h j hjl, ← hj]
      simp [iAt_eq l j hjl, hjl]
    refine wpList_append_own _ hgd s x 22 ho b 3 i0 _ 1 8 Try.underlying22 hi hz0 hz1 hz2 rfl (by decide) v k.length (k.map (Value.int .i64)) hs hO.own ad l.length c (l.map (Value.int .i64)) hx (by simp) hc (by simp [Value.oneCell'])
      (by unfold maxLen; omega) (by omega) hb (fun v' w' h1 h2 _ => hK v' w' (OwnI.of_own (n := k.length + l.length) (by rw [List.map_append]; exact h1) (by simp)) ?_)
    exact ⟨h2.size, fun B w0 hB hBW hb0 => hb0.grown h2 hBW (fun j hj => Nat.le_trans hB (hO.lt hj).1), fun p hp hne => World.cell?_of_block (h2.block p.block hp hne)⟩

def NewP (w : World) (l : List Int) (e : Ending) (w' : World) : Prop := ∃ v, e = .returned v ∧ OwnI w' w.heap.size v l ∧ Below w.heap.size w w'
def NewPE (w : World) (r : List Int × Int) (e : Ending) (w' : World) : Prop := ∃ v, e = .returned (.tuple #[v, .int .i64 r.2]) ∧ OwnI w' w.heap.size v r.1 ∧ Below w.heap.size w w'

set_option maxRecDepth 4000 in
theorem icopy_any (A : Option Addr) (l : List Int) (n c : Nat) (w : World) (hn : l.length = n) (hl : n ≤ 1000) (hp : IL w w.heap.size A l) :
    Calls Try.prog 11 #[.slice A n c] w (NewP w l) := by
  have HP := hd hp
  have HN := hd hn
  clear hp hn
  go_enter Try.func11, Try.ntmps11
  go_wp2_with (at_builtin; refine wpList_append_L w rfl _ _ rfl w.heap.size (.slice none 0 0) [] l rfl (OwnI.nil _ _) A n c w.heap.size rfl HN.out HP.out (by have := HN.out; simp; omega) (Nat.le_refl _) ?_; intro v' w1 ho1 hg1)
  go_ret
  exact ⟨v', rfl, by simpa using ho1, hg1.below _ _ (Nat.le_refl _) (Nat.le_refl _) (Below.refl _ _)⟩

set_option maxRecDepth 4000 in
theorem run_mk_int (n : Nat) (hn : n ≤ 10000) (w : World) : (Instr.makeSlice 22 (.int .i64 0) (.int .i64 (n : Int))).run Try.prog w = .ok (.slice (some ⟨w.heap.size, 0, none⟩) 0 n) (w.alloc (.cells (madeCells #[.int .i64 0] n) 3)) := by
  obtain ⟨i0, hi, hz0, hz1, hz2⟩ := info_parts intInfo
  have h := run_makeSlice (P := Try.prog) w 22 3 i0 _ Try.underlying22 hi hz0 .i64 .i64 0 (n : Int) (by omega) (by omega) (by rw [hz1]; simp; omega) (by rw [hz2]; omega) (by omega)
  rw [h, hz1]
  simp [Value.cells]
set_option maxRecDepth 4000 in
theorem OwnI.made (w : World) (b n : Nat) (hn : n ≤ 10000) (hb : b ≤ w.heap.size) : OwnI (w.alloc (.cells (madeCells #[.int .i64 0] n) 3)) b (.slice (some ⟨w.heap.size, 0, none⟩) 0 n) [] :=
  OwnI.of_own (World.ownsRow_made w _ n hb (by unfold maxLen; omega) (by rw [size_madeCells]; omega)) rfl

set_option maxRecDepth 4000 in
theorem ifresh_any (A : Option Addr) (l : List Int) (n c : Nat) (w : World) (hn : l.length = n) (hl : n ≤ 1000) (hp : IL w w.heap.size A l) :
    Calls Try.prog 34 #[.slice A n c] w (NewP w l) := by
  have HP := hd hp
  have HN := hd hn
  have hmk := fun W => run_mk_int n (by omega) W
  clear hp hn
  go_enter Try.func34, Try.ntmps34
  go_wp2_with (at_builtin; refine wpList_append_L _ rfl (.tmp 5) (.tmp 6) rfl w.heap.size (.slice (some ⟨w.heap.size, 0, none⟩) 0 n) [] l rfl (OwnI.made _ _ _ (by omega) (Nat.le_refl _)) A n c w.heap.size rfl HN.out (HP.out.below ((Below.refl _ _).alloc (Nat.le_refl _) _)) (by have := HN.out; simp; omega) (by simp) ?_; intro v' w1 ho1 hg1)
  go_ret
  exact ⟨v', rfl, by simpa using ho1, hg1.below _ _ (Nat.le_refl _) (by simp) ((Below.refl _ _).alloc (Nat.le_refl _) _)⟩

end Go.Proofs.Ytindjfiomilocaa
