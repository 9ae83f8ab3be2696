/- slices.Backward over operations: the iterator's contract. What is told stays told, whatever else is written: an operation's parts by their cells alone. Loads and stores of whole operations in a walk inside a fence. -/
import Derived.Test.YtdjajpookmmafaaBList
import Derived.RangeFuncNested
import Derived.RangeFuncBound
import Derived.RangeFuncCalls
import Derived.RangeFuncLeaves
import Derived.Shelf.Abstract
import Derived.Shelf.RegionOpen
import Derived.OwnWalkIn
import Derived.TacticsInMore
import Derived.LoopNIn
import Derived.LoopIn
import Derived.Great.BuildSlice
namespace Go.Proofs.Ytdjajpookmmafaa
open Go.RowKit Go.Shelf
attribute [local go_sem] Oper.semAt_some

theorem gdi_load {F : Fence} {n : Nat} {P : Program} {ops : Array Oper} {Q : Exit → Act → World → Prop} {dst : Option Nat} {ty : TypeId} {x : Operand} {t : TypeId} {pos : String} {af : Array Edge} {rest : List Oper} {a : Act} {w : World} (h : wpListIn F n P ops Q ({ dst := dst, op := .load ty x, type := t, pos := pos, after := af, guard := none } :: rest) a w) : wpListIn F n P ops Q ({ dst := dst, op := .load ty x, type := t, pos := pos, after := af, guard := none } :: rest) a w := h
set_option maxRecDepth 4000 in
theorem wpListIn_load_el {F : Fence} {n : Nat} {ops : Array Oper} {rest : List Oper} {op : Oper} {a : Act} {w : World} {Q : Exit → Act → World → Prop} {g off : Nat} {c : OC} (h : w.rangeAt g off c.row.toList)
    (x : Operand) (ho : op.op = .load 35 x) (hgd : op.guard = none) (hx : a.eval x = .pointer (some ⟨g, off, none⟩)) (hk : wpListIn F n Try.prog ops Q rest (a.put op.dst (.agg c.row)) w) : wpListIn F n Try.prog ops Q (op :: rest) a w := by
  refine wpListIn_plain hgd fun K hK => ?_
  have hr := exec_load_el h x ho hx
  unfold Oper.wpIn
  refine ⟨?_, ?_⟩
  · simp [Oper.about, ho]
  · rw [Oper.semAt_plain F _ _ (by rw [ho]; intro c hc; cases hc), hr]
    exact hK _ _ hk

/-- The k-th; beyond the end the zero one. -/
def ocAt (cs : List OC) (k : Nat) : OC := cs[k]?.getD OC.zero
/-- What has come when j rounds are over: from behind. -/
def dn (len j : Nat) : List Nat := (List.range j).map fun i => len - 1 - i
set_option maxRecDepth 4000 in
theorem dn_len (len j : Nat) : (dn len j).length = j := by simp [dn]
set_option maxRecDepth 4000 in
theorem dn_succ (len j : Nat) : dn len (j + 1) = dn len j ++ [len - 1 - j] := by simp [dn, List.range_succ]

/-- What a round keeps: all below n₀, and the iterator's own box. -/
def KpB (n₀ Bs : Nat) (W W' : World) : Prop := Below n₀ W W' ∧ W'.cell? ⟨Bs, 0, none⟩ = W.cell? ⟨Bs, 0, none⟩
set_option maxRecDepth 4000 in
theorem kpB_t {n₀ Bs : Nat} {A B C : World} (h : KpB n₀ Bs A B) (k : KpB n₀ Bs B C) : KpB n₀ Bs A C := ⟨h.1.trans k.1, k.2.trans h.2⟩
set_option maxRecDepth 4000 in
theorem kpB_b {n₀ Bs : Nat} {w : World} (hn : n₀ ≤ w.heap.size) (hB : Bs < w.heap.size) (W : World) (l : Nat) (o o' : Obj) (hl : w.heap.size ≤ l) (h : W.heap[l]? = some o) (h1 : o.isCells = false) (h2 : o.isWalk = false) : KpB n₀ Bs W (W.putObj l o') :=
  ⟨belowK_b hn W l o o' hl h h1 h2, World.cell?_of_block (World.putObj_heap_other (by show Bs ≠ l; omega))⟩
set_option maxRecDepth 100000 in
set_option maxHeartbeats 4000000 in
theorem back1_in (F : Fence) (n : Nat) (hf : F.fn 56) (hro : F.round = none) (hn : 1 ≤ n) (l Bs n₀ b off len cap : Nat) (cs : List OC) (hlen : cs.length = len) (h63 : len ≤ 9223372036854775807) (hb : b < n₀) (J Jx : List Nat → World → Prop)
    (hY : ∀ (pre : List Nat) (x : Nat) (W : World), J pre W → pre.length < len → YieldAt F (n - 1) Try.prog l #[.int .i64 (x : Int), .agg (ocAt cs x).row] W fun e W' =>
      (e = .returned (.bool true) ∧ J (pre ++ [x]) W' ∧ KpB n₀ Bs W W') ∨ (e = .returned (.bool false) ∧ Jx (pre ++ [x]) W'))
    (W : World) (hBs : W.cell? ⟨Bs, 0, none⟩ = some (.slice (some ⟨b, off, none⟩) len cap)) (hc : ∀ (k : Nat) (c : OC), cs[k]? = some c → W.rangeAt b (off + k * 21) c.row.toList) (h0 : J [] W) :
    CallsIn F n Try.prog 56 #[.func (.yield l) #[] #[], .pointer (some ⟨Bs, 0, none⟩)] W fun e W' => (∃ v, e = .returned v) ∧
      ((∃ ys, ys = dn len len ∧ J ys W') ∨ (∃ pre, (∃ k, k ≤ len ∧ pre = dn len k) ∧ Jx pre W')) := by
  refine callsIn_of_wp Try.func56 rfl hf ?_ hro
  simp only [Try.ntmps56, List.size_toArray, List.length_cons, List.length_nil, Nat.reduceAdd, Nat.reduceSub, Array.replicate_succ, Array.replicate_zero, List.push_toArray, List.append_toArray, List.nil_append, List.cons_append]
  gi_wp2
  gi_loopw [3] (fun i wr => ((i = .int .i64 (-1) ∧ J (dn len len) wr) ∨ ∃ k : Nat, k < len ∧ i = .int .i64 (k : Int) ∧ J (dn len (len - 1 - k)) wr) ∧ KpB n₀ Bs W wr)
    (fun i _ => (intOf i + 1).toNat)
  case atStart =>
    refine ⟨?_, Below.refl _ _, rfl⟩
    rcases Nat.eq_zero_or_pos len with e | e
    · subst e; exact .inl ⟨by rfl, h0⟩
    · exact .inr ⟨len - 1, by omega, by congr 1; omega, by rw [show len - 1 - (len - 1) = 0 by omega]; exact h0⟩
  case round =>
    obtain ⟨hrel, hnx⟩ := hrel
    rcases hrel with ⟨rfl, hJs⟩ | ⟨k, hk, rfl, hJs⟩
    · gi_wp2
      go_end0
      exact ⟨⟨_, rfl⟩, .inl ⟨_, rfl, hJs⟩⟩
    · have hck : cs[k]? = some cs[k] := List.getElem?_eq_getElem (by omega)
      have hbx : wr.cell? ⟨Bs, 0, none⟩ = some (.slice (some ⟨b, off, none⟩) len cap) := hnx.2.trans hBs
      have hrg : wr.rangeAt b (off + k * 21) (cs[k]).row.toList := fun j v hv => by
        rw [hnx.1.cell (p := ⟨b, off + k * 21 + j, none⟩) hb]; exact hc k _ hck j v hv
      have hcc : cs[k] = ocAt cs k := by unfold ocAt; rw [hck]; rfl
      rw [hcc] at hrg
      have HR := hd hrg
      have hsn : dn len (len - 1 - k) ++ [k] = dn len (len - k) := by
        have h := dn_succ len (len - 1 - k)
        rw [show len - 1 - (len - 1 - k) = k by omega, show len - 1 - k + 1 = len - k by omega] at h
        exact h.symm
      obtain ⟨fn, tmps, assign, body, hy, hR⟩ := hY _ k wr hJs (by rw [dn_len]; omega)
      obtain ⟨c, hce⟩ : ∃ c, ocAt cs k = c := ⟨_, rfl⟩
      rw [hce] at hy HR
      clear hrg hcc hce
      have HSN := hd hsn
      clear hck hsn
      gi_wp2_with ((with_reducible refine gdi_load (ty := 35) (x := .tmp 15) ?_); refine wpListIn_load_el HR.out _ rfl rfl rfl ?_)
      refine hR.mono ?_
      rintro e W3 (⟨rfl, hJ3, hk3⟩ | ⟨rfl, hJx3⟩)
      · gi_wp2
        go_roundw
        case rel =>
          refine ⟨?_, kpB_t hnx hk3⟩
          rw [HSN.out] at hJ3
          rcases Nat.eq_zero_or_pos k with e | e
          · subst e; exact .inl ⟨by rfl, hJ3⟩
          · exact .inr ⟨k - 1, by omega, by congr 1; omega, by rw [show len - 1 - (k - 1) = len - k by omega]; exact hJ3⟩
        case measure => simp [intOf]
      · gi_wp2
        refine bodyPost_ret (results_none rfl _ _ _) rfl ?_
        exact ⟨⟨_, rfl⟩, .inr ⟨_, ⟨len - k, by omega, HSN.out⟩, hJx3⟩⟩

set_option maxRecDepth 100000 in
set_option maxHeartbeats 1000000 in
/-- slices.Backward(s): the slice's value is boxed; the function's value captures the box. -/
theorem backward_in (F : Fence) (n : Nat) (hf : F.fn 38) (hro : F.round = none) (a : Option Addr) (len cap : Nat) (w : World) :
    CallsIn F n Try.prog 38 #[.slice a len cap] w fun e w' => e = .returned (.func (.func 56) #[] #[.pointer (some ⟨w.heap.size, 0, none⟩)]) ∧ w' = w.alloc (.cells #[.slice a len cap] 43) := by
  refine callsIn_of_wp Try.func38 rfl hf ?_ hro
  simp only [Try.ntmps38, List.size_toArray, List.length_cons, List.length_nil, Nat.reduceAdd, Nat.reduceSub, Array.replicate_succ, Array.replicate_zero, List.push_toArray, List.append_toArray, List.nil_append, List.cons_append]
  gi_wp2
  go_ret
  exact ⟨rfl, rfl⟩

set_option maxRecDepth 100000 in
set_option maxHeartbeats 1000000 in
/-- .. at the nil slice: no round. -/
theorem back1_nil_in (F : Fence) (n : Nat) (hf : F.fn 56) (hro : F.round = none) (l Bs cap : Nat) (J : List Nat → World → Prop) (W : World) (A : Option Addr) (hBs : W.cell? ⟨Bs, 0, none⟩ = some (.slice A 0 cap)) (h0 : J [] W) :
    CallsIn F n Try.prog 56 #[.func (.yield l) #[] #[], .pointer (some ⟨Bs, 0, none⟩)] W fun e W' => (∃ v, e = .returned v) ∧ J [] W' := by
  refine callsIn_of_wp Try.func56 rfl hf ?_ hro
  simp only [Try.ntmps56, List.size_toArray, List.length_cons, List.length_nil, Nat.reduceAdd, Nat.reduceSub, Array.replicate_succ, Array.replicate_zero, List.push_toArray, List.append_toArray, List.nil_append, List.cons_append]
  gi_wp2
  gi_loopw [3] (fun i wr => i = .int .i64 (-1) ∧ J [] wr) (fun _ _ => 0)
  case atStart => exact ⟨rfl, h0⟩
  case round =>
    obtain ⟨rfl, hJs⟩ := hrel
    gi_wp2
    go_end0
    exact ⟨⟨_, rfl⟩, hJs⟩
set_option maxRecDepth 4000 in
/-- What slices.Backward hands back: all from behind; or the first so many of them, where a round has said 'no more'. -/
theorem back_stops (F : Fence) (n : Nat) (hf : F.fn 56) (hro : F.round = none) (hn : 1 ≤ n) (Bs n₀ : Nat) (A : Option Addr) (cs : List OC) (len cap : Nat) (hlen : cs.length = len) (h63 : len ≤ 9223372036854775807) (w : World) (hBs : Bs < w.heap.size) (hn₀ : n₀ ≤ w.heap.size)
    (hc : w.cell? ⟨Bs, 0, none⟩ = some (.slice A len cap)) (hv : VL w n₀ A (cellsO cs)) :
    SeqStopsK F n Try.prog 56 #[.pointer (some ⟨Bs, 0, none⟩)] (fun x : Nat => #[Value.int .i64 (x : Int), .agg (ocAt cs x).row]) (KpB n₀ Bs) (fun ys => ys = dn len len)
      (fun pre => ∃ k, k ≤ len ∧ pre = dn len k) len w := fun l J Jx W hW _ _ hY h0 => by
  have hW' := hW.mono hn₀
  have hc' := (hW.cell (p := ⟨Bs, 0, none⟩) hBs).trans hc
  rcases Nat.eq_zero_or_pos len with e | e
  · subst e
    exact (back1_nil_in F n hf hro l Bs cap J W A hc' h0).mono fun e W' ⟨he, hj⟩ => ⟨he, .inl ⟨_, rfl, hj⟩⟩
  · obtain ⟨b, o, rfl, hb, hcs⟩ := hv (fun e2 => by have := cellsO_len cs; rw [e2] at this; simp at this; omega)
    exact back1_in F n hf hro hn l Bs n₀ b o len cap cs hlen h63 hb J Jx hY W hc' (fun k c hk j v hv => by
      rw [hW'.cell (p := ⟨b, o + k * 21 + j, none⟩) hb, Nat.add_assoc]; exact hcs _ _ (cellsO_at hk j v hv)) h0

end Go.Proofs.Ytdjajpookmmafaa

namespace Go.Proofs.Ytdjajpookmmafaa
open Go.RowKit

/-- Each cell of w holds the same in w'. -/
structure Has (w w' : World) : Prop where
  size : w.heap.size ≤ w'.heap.size
  cell : ∀ p v, w.cell? p = some v → w'.cell? p = some v
set_option maxRecDepth 4000 in
theorem Has.refl (w : World) : Has w w := ⟨Nat.le_refl _, fun _ _ h => h⟩
section
variable {w w' : World}
set_option maxRecDepth 4000 in
theorem VL.imp {A : Option Addr} {xs : List Value} (h : VL w w.heap.size A xs) (k : Has w w') : VL w' w'.heap.size A xs := fun hn => by
  obtain ⟨b, o, e, hb, hc⟩ := h hn
  exact ⟨b, o, e, Nat.lt_of_lt_of_le hb k.size, fun j u hj => k.cell _ _ (hc j u hj)⟩
set_option maxRecDepth 4000 in
theorem IL.imp {A : Option Addr} {l : List Int} (h : IL w w.heap.size A l) (k : Has w w') : IL w' w'.heap.size A l := fun hn => by
  obtain ⟨b, o, e, hb, hc⟩ := h hn
  exact ⟨b, o, e, Nat.lt_of_lt_of_le hb k.size, fun j hj => k.cell _ _ (hc j hj)⟩
set_option maxRecDepth 4000 in
theorem PL.imp {A : Option Addr} {l : List Pr} (h : PL w w.heap.size A l) (k : Has w w') : PL w' w'.heap.size A l := fun hn => by
  obtain ⟨b, o, e, hb, hc⟩ := h hn
  exact ⟨b, o, e, Nat.lt_of_lt_of_le hb k.size, fun j hj => ⟨k.cell _ _ (hc j hj).1, k.cell _ _ (hc j hj).2⟩⟩
set_option maxRecDepth 4000 in
theorem NodeAt.imp (k : Has w w') : ∀ {d : Nat} {v : Value} {n : NT}, NodeAt d w w.heap.size v n → NodeAt d w' w'.heap.size v n
  | 0, _, _, h => h
  | d + 1, _, _, ⟨PA, pc, TA, tc, KA, kc, e, hp, ht, hf, hks⟩ => ⟨PA, pc, TA, tc, KA, kc, e, hp.imp k, ht.imp k, hf, fun j m hm => by
      obtain ⟨b, o, u, e1, hb, hn, c0, c1, c2, c3, e2, h0, h1, h2, h3⟩ := hks j m hm
      exact ⟨b, o, u, e1, Nat.lt_of_lt_of_le hb k.size, hn.imp k, c0, c1, c2, c3, e2, k.cell _ _ h0, k.cell _ _ h1, k.cell _ _ h2, k.cell _ _ h3⟩⟩
set_option maxRecDepth 4000 in
theorem SelA.imp {is : Bool} {A : Option Addr} {n c : Nat} {x : Int} {B : Option Addr} {m d : Nat} {y : Int} {s : Sl} (h : SelA w is A n c x B m d y s) (k : Has w w') : SelA w' is A n c x B m d y s :=
  ⟨h.his, h.hx, h.hy, h.hn, h.hm, h.hc, h.hd, h.hmn, h.hmm, h.hA.imp k, h.hB.imp k⟩
set_option maxRecDepth 4000 in
theorem OkA.imp {c : OC} {o : OpP} (h : OkA w c o) (k : Has w w') : OkA w' c o :=
  { h with hq := h.hq.imp k, ht := h.ht.imp k, hn := (by obtain ⟨d, hn⟩ := h.hn; exact ⟨d, hn.imp k⟩), ho := h.ho.imp k, hw := h.hw.imp k, hx := h.hx.imp k, hf := h.hf.imp k, hg := h.hg.imp k }
end

theorem cell_spot2 {w : World} {a : Addr} {v : Value} (h : w.cell? a = some v) : a.block < w.heap.size := by
  rcases Nat.lt_or_ge a.block w.heap.size with h1 | h1
  · exact h1
  · simp [World.cell?, Array.getElem?_eq_none h1] at h
/-- The world w without what lies below lo. -/
def upper (lo : Nat) (w : World) : World := { w with heap := w.heap.mapIdx fun k o => if k < lo then .deferred none else o }
set_option maxRecDepth 4000 in
theorem upper_size (lo : Nat) (w : World) : (upper lo w).heap.size = w.heap.size := by simp [upper]
set_option maxRecDepth 4000 in
theorem upper_high (lo : Nat) (w : World) : High lo w (upper lo w) := ⟨by rw [upper_size]; exact Nat.le_refl _, fun k h1 h2 => by
  simp only [upper, Array.getElem?_mapIdx, Array.getElem?_eq_getElem h2, Option.map_some, if_neg (Nat.not_lt.2 h1)]⟩
set_option maxRecDepth 4000 in
theorem upper_cell {lo : Nat} {w : World} {p : Addr} {v : Value} (h : (upper lo w).cell? p = some v) : lo ≤ p.block ∧ p.block < w.heap.size ∧ w.cell? p = some v := by
  have hl := (cell_spot2 h)
  rw [upper_size] at hl
  rcases Nat.lt_or_ge p.block lo with h1 | h1
  · have e : (upper lo w).heap[p.block]? = some (.deferred none) := by simp only [upper, Array.getElem?_mapIdx, Array.getElem?_eq_getElem hl, Option.map_some, if_pos h1]
    simp [World.cell?, e] at h
  · refine ⟨h1, hl, ?_⟩
    rw [← World.cell?_of_block ((upper_high lo w).block _ h1 hl)]
    exact h

/-- The parts of what c holds, no matter what is written elsewhere: they lie at lo or beyond, and not in the row 'own'. -/
def Parts (lo : Nat) (own : Option Nat) (W : World) (c : OC) (a : OpP) : Prop := ∃ we, OkA we c a ∧ Has we W ∧ ∀ p v, we.cell? p = some v → lo ≤ p.block ∧ own ≠ some p.block
set_option maxRecDepth 4000 in
theorem Parts.ok {lo : Nat} {own : Option Nat} {W : World} {c : OC} {a : OpP} (h : Parts lo own W c a) : OkA W c a := by
  obtain ⟨we, h1, h2, _⟩ := h
  exact h1.imp h2
set_option maxRecDepth 4000 in
theorem Parts.grown {lo : Nat} {own row : Option Nat} {W W' : World} {c : OC} {a : OpP} (h : Parts lo own W c a) (hg : W.grownBy W' row) (hr : ∀ r, row = some r → r < lo ∨ own = some r ∨ ∃ o, W.heap[r]? = some o ∧ o.isCells = false) : Parts lo own W' c a := by
  obtain ⟨we, h1, h2, h3⟩ := h
  refine ⟨we, h1, ⟨Nat.le_trans h2.size hg.size, fun p v hv => ?_⟩, h3⟩
  have hc := h2.cell p v hv
  have hn : some p.block ≠ row := fun e => by
    rcases hr _ e.symm with h | h | ⟨o, ho, h⟩
    · have := (h3 p v hv).1; omega
    · exact (h3 p v hv).2 h
    · unfold World.cell? at hc
      rw [ho] at hc
      cases o with
      | cells cs t fr => simp [Obj.isCells] at h
      | _ => simp at hc
  exact (World.cell?_of_block (hg.block _ (cell_spot2 hc) hn)).trans hc
set_option maxRecDepth 4000 in
theorem Parts.turn {lo : Nat} {own own' : Option Nat} {W : World} {c : OC} {a : OpP} (h : Parts lo own W c a) (ho : own' = own ∨ ∃ g, own' = some g ∧ W.heap.size ≤ g) : Parts lo own' W c a := by
  obtain ⟨we, h1, h2, h3⟩ := h
  refine ⟨we, h1, h2, fun p v hv => ⟨(h3 p v hv).1, fun e => ?_⟩⟩
  rcases ho with h | ⟨g, h, hg⟩
  · exact (h3 p v hv).2 (h ▸ e)
  · have := cell_spot2 (h2.cell p v hv)
    rw [h] at e
    injection e with e
    omega
set_option maxRecDepth 4000 in
theorem Parts.below {lo : Nat} {own : Option Nat} {W W' : World} {c : OC} {a : OpP} (h : Parts lo own W c a) (hb : Below W.heap.size W W') : Parts lo own W' c a := by
  obtain ⟨we, h1, h2, h3⟩ := h
  refine ⟨we, h1, ⟨Nat.le_trans h2.size hb.size, fun p v hv => ?_⟩, h3⟩
  have hc := h2.cell p v hv
  exact (hb.cell (cell_spot2 hc)).trans hc
set_option maxRecDepth 4000 in
/-- What Inverse tells. -/
theorem parts_new {lo l0 : Nat} {own : Option Nat} {W : World} {c : OC} {a : OpP} (h : Stab l0 W (fun W' => OkA W' c a)) (hl : lo ≤ l0) (ho : ∀ g, own = some g → g < l0) : Parts lo own W c a :=
  ⟨upper l0 W, h _ (upper_high l0 W), ⟨by rw [upper_size]; exact Nat.le_refl _, fun p v hv => (upper_cell hv).2.2⟩, fun p v hv => ⟨by have := (upper_cell hv).1; omega, fun e => by have := ho _ e; have := (upper_cell hv).1; omega⟩⟩

end Go.Proofs.Ytdjajpookmmafaa

namespace Go.Proofs.Ytdjajpookmmafaa
open Go.RowKit Go.Shelf
attribute [local go_sem] Oper.semAt_some

theorem gdi_store {F : Fence} {n : Nat} {P : Program} {ops : Array Oper} {Q : Exit → Act → World → Prop} {dst : Option Nat} {ty : TypeId} {x y : Operand} {t : TypeId} {pos : String} {af : Array Edge} {rest : List Oper} {a : Act} {w : World} (h : wpListIn F n P ops Q ({ dst := dst, op := .store ty x y, type := t, pos := pos, after := af, guard := none } :: rest) a w) : wpListIn F n P ops Q ({ dst := dst, op := .store ty x y, type := t, pos := pos, after := af, guard := none } :: rest) a w := h
set_option maxRecDepth 4000 in
theorem wpListIn_load_oc {F : Fence} {n : Nat} {ops : Array Oper} {rest : List Oper} {op : Oper} {a : Act} {w : World} {Q : Exit → Act → World → Prop} {g : Nat} {c : OC} (h : VarO w g c)
    (x : Operand) (ho : op.op = .load 35 x) (hgd : op.guard = none) (hx : a.eval x = .pointer (some ⟨g, 0, none⟩)) (hk : wpListIn F n Try.prog ops Q rest (a.put op.dst (.agg c.row)) w) : wpListIn F n Try.prog ops Q (op :: rest) a w :=
  wpListIn_load_el h.range x ho hgd hx hk
set_option maxRecDepth 4000 in
theorem wpListIn_store_oc {F : Fence} {n : Nat} {ops : Array Oper} {rest : List Oper} {op : Oper} {a : Act} {W : World} {Q : Exit → Act → World → Prop} {g : Nat} {old : Array Value} {c : OC} (x y : Operand) (ho : op.op = .store 35 x y) (hgd : op.guard = none) (hd : op.dst = none) (hx : a.eval x = .pointer (some ⟨g, 0, none⟩)) (hy : a.eval y = .agg c.row) (hg : W.heap.size = g) (hold : old.size = 21)
    (hk : wpListIn F n Try.prog ops Q rest a (W.alloc (.cells c.row 35))) : wpListIn F n Try.prog ops Q (op :: rest) a (W.alloc (.cells old 35)) := by
  subst hg
  obtain ⟨d, h3, h4, h5⟩ := op_row
  have hrun := run_storeVar_row (P := Try.prog) (W.alloc (.cells old 35)) W.heap.size 35 35 old c.row (heap_alloc_new _ _) h5 hold c.one
  rw [setRow_new] at hrun
  refine wpListIn_plain hgd fun K hK => ?_
  unfold Oper.wpIn
  refine ⟨by simp [Oper.about, ho], ?_⟩
  rw [Oper.semAt_plain F _ _ (by rw [ho]; intro c hc; cases hc)]
  unfold execOp
  simp only [ho, hx, hy, Instr.storeAt, Instr.sureAddr, Sem.run_bind, Sem.run_pure, Result.andThen_ok, hrun]
  show K (a.put op.dst undef) _
  rw [hd]
  exact hK _ _ hk
set_option maxRecDepth 4000 in
theorem opInfo : (Try.prog.info? 35).map (fun i => (i.zero, i.size, i.bytes)) = some (some (.agg OC.zero.row), 21, 360) := by kernel_rfl
set_option maxRecDepth 4000 in
theorem opG : ElemG 43 35 21 360 := ⟨Try.underlying43, by
  obtain ⟨i0, hi, hz0, hz1, hz2⟩ := info_parts opInfo
  exact ⟨i0, _, hi, hz0, hz1, hz2, rfl⟩, by decide⟩
set_option maxRecDepth 4000 in
theorem run_mk_ops (n : Nat) (hn : n ≤ 10000) (w : World) : (Instr.makeSlice 43 (.int .i64 0) (.int .i64 (n : Int))).run Try.prog w = .ok (.slice (some ⟨w.heap.size, 0, none⟩) 0 n) (w.alloc (.cells (madeCells OC.zero.row (n * 21)) 35)) := by
  obtain ⟨i0, hi, hz0, hz1, hz2⟩ := info_parts opInfo
  have h := run_makeSlice (P := Try.prog) w 43 35 i0 _ Try.underlying43 hi hz0 .i64 .i64 0 (n : Int) (by omega) (by omega) (by rw [hz1]; simp; omega) (by rw [hz2]; omega) (by omega)
  rw [h, hz1]
  simp [Value.cells]

set_option maxRecDepth 4000 in
theorem new_cells_oc (X : World) (c : OC) : ∀ j u, c.row.toList[j]? = some u → (X.alloc (.cells c.row 35)).cell? ((⟨X.heap.size, 0, none⟩ : Addr).add j) = some u := fun j u hu => by
  rw [Go.WideShapes.add_plain, Nat.zero_add, World.cell?_alloc_at _ _ _ _ rfl]
  simpa using hu
set_option maxRecDepth 4000 in
/-- One operation appended to the call's own row. -/
theorem wpListIn_append_op {F : Fence} {n : Nat} {ops : Array Oper} {rest : List Oper} {o : Oper} {a : Act} {Q : Exit → Act → World → Prop} (X : World) (hg : o.guard = none) (s x : Operand)
    (hop : o.op = .call { callee := .builtin .append, args := #[s, x], argTypes := #[43, 43] }) (base : Nat) (v : Value) (k : Nat) (xs : List Value) (hs : a.eval s = v) (hown : X.ownsRow base 35 21 v k xs) (c : OC) (hx : a.eval x = .slice (some ⟨X.heap.size, 0, none⟩) 1 1) (hk : k ≤ 10000) (hb : base ≤ X.heap.size)
    (hK : ∀ g cap w', w'.ownsRow base 35 21 (.slice (some ⟨g, 0, none⟩) (k + 1) cap) (k + 1) (xs ++ c.row.toList) → (X.alloc (.cells c.row 35)).grownBy w' v.ownBlock → (v.ownBlock = some g ∨ g = X.heap.size + 1) → wpListIn F n Try.prog ops Q rest (a.put o.dst (.slice (some ⟨g, 0, none⟩) (k + 1) cap)) w') :
    wpListIn F n Try.prog ops Q (o :: rest) a (X.alloc (.cells c.row 35)) := by
  obtain ⟨i0, hi, hz0, hz1, hz2⟩ := info_parts opInfo
  refine wpListIn_plain hg fun K hK' => ?_
  obtain ⟨g, cap, w', hrun, r1, r2, r3, _⟩ := run_append_lies (P := Try.prog) (X.alloc (.cells c.row 35)) 43 o.type base 35 i0 _ 21 360 Try.underlying43 hi hz0 hz1 hz2 (by rfl) (by decide) v k xs (hown.alloc _) ⟨X.heap.size, 0, none⟩ 1 1 c.row.toList rfl (new_cells_oc X c)
    (fun u hu => by have := cellsO_all [c] u; rw [cellsO_one] at this; exact this hu) (by decide) (by unfold maxLen; omega) (by omega) (by simp; omega) (X.heap.size + 1) (by simp)
  unfold Oper.wpIn
  refine ⟨?_, ?_⟩
  · simp [Oper.about, hop, resolve, Target.leads, Sem.run_pure]
  · rw [Oper.semAt_plain F _ _ (by rw [hop]; intro c hc'; cases hc')]
    simp [execOp, hop, resolve, invoke, builtin, hs, hx, hrun, Result.andThen]
    exact hK' _ _ (hK g cap w' r1 r2 r3)

set_option maxRecDepth 4000 in
/-- A slice literal of one operation. -/
theorem fill_op (c : OC) (i0 : TypeInfo) (hz1 : i0.size = 21) : Instr.fill (fun i => some (i * i0.size, i0.size)) ((Array.range (1 * i0.size)).map ((Value.agg OC.zero.row).cells[· % (Value.agg OC.zero.row).cells.size]!)) #[(0, Value.agg c.row)].toList = some c.row := by
  rw [hz1]
  have h := Great.fill_whole (s := 21) (by omega) [Value.agg c.row] ((Array.range (1 * 21)).map ((Value.agg OC.zero.row).cells[· % (Value.agg OC.zero.row).cells.size]!)) (by intro v hv; simp at hv; subst hv; rfl) (by simp)
  exact h.trans (by simp [Value.cells])
set_option maxRecDepth 4000 in
theorem run_build_op (W : World) (c : OC) : (Instr.buildSlice 43 1 #[(0, .agg c.row)]).run Try.prog W = .ok (.slice (some ⟨W.heap.size, 0, none⟩) 1 1) (W.alloc (.cells c.row 35)) := by
  obtain ⟨i0, hi, hz0, hz1, hz2⟩ := info_parts opInfo
  exact run_buildSlice (P := Try.prog) W 43 35 1 #[(0, .agg c.row)] c.row i0 _ Try.underlying43 hi hz0 (by rw [hz1]; decide) (by rw [hz1]; decide) (fill_op c i0 hz1)
set_option maxRecDepth 4000 in
theorem gdi_build {F : Fence} {n : Nat} {P : Program} {ops : Array Oper} {Q : Exit → Act → World → Prop} {dst : Option Nat} {ty : TypeId} {k : Nat} {ps : Array (Nat × Operand)} {t : TypeId} {pos : String} {af : Array Edge} {rest : List Oper} {a : Act} {w : World} (h : wpListIn F n P ops Q ({ dst := dst, op := .buildSlice ty k ps, type := t, pos := pos, after := af, guard := none } :: rest) a w) : wpListIn F n P ops Q ({ dst := dst, op := .buildSlice ty k ps, type := t, pos := pos, after := af, guard := none } :: rest) a w := h
set_option maxRecDepth 4000 in
theorem gd_build {P : Program} {ops : Array Oper} {Q : Exit → Act → World → Prop} {dst : Option Nat} {ty : TypeId} {k : Nat} {ps : Array (Nat × Operand)} {t : TypeId} {pos : String} {af : Array Edge} {rest : List Oper} {a : Act} {w : World} (h : wpList P ops Q ({ dst := dst, op := .buildSlice ty k ps, type := t, pos := pos, after := af, guard := none } :: rest) a w) : wpList P ops Q ({ dst := dst, op := .buildSlice ty k ps, type := t, pos := pos, after := af, guard := none } :: rest) a w := h
set_option maxRecDepth 4000 in
theorem wpListIn_build_op {F : Fence} {n : Nat} {ops : Array Oper} {rest : List Oper} {o : Oper} {a : Act} {Q : Exit → Act → World → Prop} {W : World} {c : OC} (x : Operand) (ho : o.op = .buildSlice 43 1 #[(0, x)]) (hgd : o.guard = none) (hx : a.eval x = .agg c.row)
    (hk : wpListIn F n Try.prog ops Q rest (a.put o.dst (.slice (some ⟨W.heap.size, 0, none⟩) 1 1)) (W.alloc (.cells c.row 35))) : wpListIn F n Try.prog ops Q (o :: rest) a W := by
  refine wpListIn_plain hgd fun K hK => ?_
  unfold Oper.wpIn
  refine ⟨by simp [Oper.about, ho], ?_⟩
  rw [Oper.semAt_plain F _ _ (by rw [ho]; intro c hc; cases hc)]
  unfold execOp
  simp only [ho, List.map_toArray, List.map_cons, List.map_nil, hx, Sem.run_bind, run_build_op, Result.andThen_ok]
  exact hK _ _ hk
set_option maxRecDepth 4000 in
theorem wpList_build_op {ops : Array Oper} {rest : List Oper} {o : Oper} {a : Act} {Q : Exit → Act → World → Prop} {W : World} {c : OC} (x : Operand) (ho : o.op = .buildSlice 43 1 #[(0, x)]) (hgd : o.guard = none) (hx : a.eval x = .agg c.row)
    (hk : wpList Try.prog ops Q rest (a.put o.dst (.slice (some ⟨W.heap.size, 0, none⟩) 1 1)) (W.alloc (.cells c.row 35))) : wpList Try.prog ops Q (o :: rest) a W := by
  refine wpList_plain hgd fun K hK => ?_
  unfold Oper.wp execOp
  simp only [ho, List.map_toArray, List.map_cons, List.map_nil, hx, Sem.run_bind, run_build_op, Result.andThen_ok]
  exact hK _ _ hk
set_option maxRecDepth 4000 in
/-- .. and its append in a plain walk. -/
theorem wpList_append_op {ops : Array Oper} {rest : List Oper} {o : Oper} {a : Act} {Q : Exit → Act → World → Prop} (X : World) (hg : o.guard = none) (s x : Operand)
    (hop : o.op = .call { callee := .builtin .append, args := #[s, x], argTypes := #[43, 43] }) (base : Nat) (v : Value) (k : Nat) (xs : List Value) (hs : a.eval s = v) (hown : X.ownsRow base 35 21 v k xs) (c : OC) (hx : a.eval x = .slice (some ⟨X.heap.size, 0, none⟩) 1 1) (hk : k ≤ 10000) (hb : base ≤ X.heap.size)
    (hK : ∀ g cap w', w'.ownsRow base 35 21 (.slice (some ⟨g, 0, none⟩) (k + 1) cap) (k + 1) (xs ++ c.row.toList) → (X.alloc (.cells c.row 35)).grownBy w' v.ownBlock → (v.ownBlock = some g ∨ g = X.heap.size + 1) → wpList Try.prog ops Q rest (a.put o.dst (.slice (some ⟨g, 0, none⟩) (k + 1) cap)) w') :
    wpList Try.prog ops Q (o :: rest) a (X.alloc (.cells c.row 35)) := by
  obtain ⟨i0, hi, hz0, hz1, hz2⟩ := info_parts opInfo
  refine wpList_plain hg fun K hK' => ?_
  obtain ⟨g, cap, w', hrun, r1, r2, r3, _⟩ := run_append_lies (P := Try.prog) (X.alloc (.cells c.row 35)) 43 o.type base 35 i0 _ 21 360 Try.underlying43 hi hz0 hz1 hz2 (by rfl) (by decide) v k xs (hown.alloc _) ⟨X.heap.size, 0, none⟩ 1 1 c.row.toList rfl (new_cells_oc X c)
    (fun u hu => by have := cellsO_all [c] u; rw [cellsO_one] at this; exact this hu) (by decide) (by unfold maxLen; omega) (by omega) (by simp; omega) (X.heap.size + 1) (by simp)
  unfold Oper.wp
  simp [execOp, hop, resolve, invoke, builtin, hs, hx, hrun, Result.andThen]
  exact hK' _ _ (hK g cap w' r1 r2 r3)
set_option maxRecDepth 4000 in
theorem gdi_app {F : Fence} {n : Nat} {P : Program} {ops : Array Oper} {Q : Exit → Act → World → Prop} {dst : Option Nat} {xs : Array Operand} {ts : Array TypeId} {t : TypeId} {pos : String} {af : Array Edge} {rest : List Oper} {a : Act} {w : World} (h : wpListIn F n P ops Q ({ dst := dst, op := .call { callee := .builtin .append, args := xs, argTypes := ts }, type := t, pos := pos, after := af, guard := none } :: rest) a w) : wpListIn F n P ops Q ({ dst := dst, op := .call { callee := .builtin .append, args := xs, argTypes := ts }, type := t, pos := pos, after := af, guard := none } :: rest) a w := h
set_option maxRecDepth 4000 in
theorem gd_app {P : Program} {ops : Array Oper} {Q : Exit → Act → World → Prop} {dst : Option Nat} {xs : Array Operand} {ts : Array TypeId} {t : TypeId} {pos : String} {af : Array Edge} {rest : List Oper} {a : Act} {w : World} (h : wpList P ops Q ({ dst := dst, op := .call { callee := .builtin .append, args := xs, argTypes := ts }, type := t, pos := pos, after := af, guard := none } :: rest) a w) : wpList P ops Q ({ dst := dst, op := .call { callee := .builtin .append, args := xs, argTypes := ts }, type := t, pos := pos, after := af, guard := none } :: rest) a w := h
set_option maxRecDepth 4000 in
/-- A row grows: what lies in no row of it stays where it is. -/
theorem Parts.appended {lo : Nat} {own own' : Option Nat} {W W' : World} {c : OC} {a : OpP} (h : Parts lo own W c a) (hg : W.grownBy W' own) (ho : own = own' ∨ ∃ g, own' = some g ∧ W.heap.size ≤ g) : Parts lo own' W' c a := by
  obtain ⟨we, h1, h2, h3⟩ := h
  refine ⟨we, h1, ⟨Nat.le_trans h2.size hg.size, fun p v hv => ?_⟩, fun p v hv => ⟨(h3 p v hv).1, fun e => ?_⟩⟩
  · have hc := h2.cell p v hv
    exact (World.cell?_of_block (hg.block _ (cell_spot2 hc) (fun e => (h3 p v hv).2 e.symm))).trans hc
  · rcases ho with h | ⟨g, h, hg'⟩
    · exact (h3 p v hv).2 (h.trans e)
    · have := cell_spot2 (h2.cell p v hv)
      rw [h] at e
      injection e with e
      omega

set_option maxRecDepth 4000 in
/-- What an own row holds lies at its place. -/
theorem row_vl {w : World} {b n size : Nat} {v : Value} {t : TypeId} {xs : List Value} (h : w.ownsRow b t size v n xs) : ∃ A c, v = .slice A n c ∧ n ≤ c ∧ VL w w.heap.size A xs := by
  rcases h.2 with ⟨rfl, rfl⟩ | ⟨g, cap, cur, rfl, hbg, hg, hnc, _, hsz, hcur⟩
  · exact ⟨none, 0, rfl, Nat.le_refl _, fun hn => absurd (List.eq_nil_of_length_eq_zero (by have := h.1; omega)) hn⟩
  · refine ⟨some ⟨g, 0, none⟩, cap, rfl, hnc, fun _ => ⟨g, 0, rfl, (Array.getElem?_eq_some_iff.1 hg).1, fun k u hk => ?_⟩⟩
    rw [← hcur, List.getElem?_take] at hk
    split at hk
    · simp only [World.cell?, hg, Nat.zero_add]
      simpa using hk
    · cases hk

end Go.Proofs.Ytdjajpookmmafaa
