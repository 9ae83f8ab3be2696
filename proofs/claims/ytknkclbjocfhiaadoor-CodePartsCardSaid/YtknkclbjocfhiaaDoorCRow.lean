/- A row of the call's own, of elements of several cells: what it holds, one element more, a cell stored. -/
import Derived.Test.YtknkclbjocfhiaaDoorNFresh
import Derived.Test.YtknkclbjocfhiaaDoorCAny
import Derived.Deep.AppendLies
namespace Go.Proofs.YtknkclbjocfhiaaDoor
open Go.RowKit
open Go.WideShapes (add_plain)

theorem rowFree {t : TypeId} {size n : Nat} {v : Value} {xs : List Value} {w : World} {base : Nat} (h : w.ownsRow base t size v n xs) : ∃ A c, v = .slice A n c ∧ n ≤ c ∧ c ≤ maxLen ∧ ∀ k u, xs[k]? = some u → ∃ g, A = some ⟨g, 0, none⟩ ∧ base ≤ g ∧ g < w.heap.size ∧ Free w g k u := by
  rcases h.2 with ⟨e, h0⟩ | ⟨g, cap, cur, e, hb, hh, h1, h2, _⟩
  · refine ⟨none, 0, by rw [e, h0], by omega, by unfold maxLen; omega, fun k u hu => ?_⟩
    have := (List.getElem?_eq_some_iff.1 hu).1
    rw [h.1, h0] at this
    omega
  · refine ⟨some ⟨g, 0, none⟩, cap, e, h1, h2, fun k u hu => ⟨g, rfl, hb, lt_of_block hh, ?_, by simp [World.frozen?, hh]⟩⟩
    have := h.cells (g := g) (by rw [e]; rfl) k u hu
    rwa [add_plain, Nat.zero_add] at this
set_option maxRecDepth 4000 in
theorem rowVP {P : Nat → Prop} {t : TypeId} {size n c : Nat} {A : Option Addr} {xs : List Value} {w : World} {base : Nat} (h : w.ownsRow base t size (.slice A n c) n xs) (hP : ∀ g, (Value.slice A n c).ownBlock = some g → P g) : VP P w A xs := fun k u hu => by
  obtain ⟨A', c', e, _, _, hf⟩ := rowFree h
  injection e with e1 e2 e3
  subst e1
  obtain ⟨g, e, _, _, h4⟩ := hf k u hu
  subst e
  exact ⟨g, 0, rfl, hP g rfl, by rw [Nat.zero_add]; exact h4⟩
set_option maxRecDepth 4000 in
theorem row_cells {t : TypeId} {size n c : Nat} {g : Nat} {xs : List Value} {w : World} {base : Nat} (h : w.ownsRow base t size (.slice (some ⟨g, 0, none⟩) n c) n xs) {k : Nat} {u : Value} (hu : xs[k]? = some u) : w.cell? ⟨g, k, none⟩ = some u ∧ w.frozen? ⟨g, k, none⟩ = false := by
  have hc := h.cells (g := g) rfl k u hu
  exact ⟨by rwa [add_plain, Nat.zero_add] at hc, h.frozenAt k⟩
set_option maxRecDepth 4000 in
theorem new_cells' (W : World) (cs : List Value) (tb : TypeId) : ∀ j u, cs[j]? = some u → (W.alloc (.cells cs.toArray tb)).cell? ((⟨W.heap.size, 0, none⟩ : Addr).add j) = some u := fun j u hu => by
  rw [add_plain, Nat.zero_add, World.cell?_alloc_at _ _ _ _ rfl]
  simpa using hu
set_option maxRecDepth 4000 in
theorem wpList_app1 {ts te tb : TypeId} {size by_ : Nat} (E : ElemG ts te size by_) (W : World) {ops : Array Oper} {rest : List Oper} {o : Oper} {a : Act} {Q : Exit → Act → World → Prop} (hgd : o.guard = none) (s x : Operand)
    (ho : o.op = .call { callee := .builtin .append, args := #[s, x], argTypes := #[ts, ts] })
    (b : Nat) (v : Value) (n : Nat) (k cs : List Value) (hs : a.eval s = v) (hO : W.ownsRow b te size v n k) (hx : a.eval x = .slice (some ⟨W.heap.size, 0, none⟩) 1 1) (hn : cs.length = size) (h1 : ∀ u ∈ cs, u.oneCell' = true)
    (h63 : n ≤ 1000000) (hby : by_ ≤ 100) (hb : b ≤ W.heap.size)
    (hK : ∀ A' c' w', w'.ownsRow b te size (.slice A' (n + 1) c') (n + 1) (k ++ cs) → (W.alloc (.cells cs.toArray tb)).grownBy w' v.ownBlock → ((Value.slice A' (n + 1) c').ownBlock = v.ownBlock ∨ ∃ g, (Value.slice A' (n + 1) c').ownBlock = some g ∧ W.heap.size + 1 ≤ g) → wpList Tryd.prog ops Q rest (a.put o.dst (.slice A' (n + 1) c')) w') :
    wpList Tryd.prog ops Q (o :: rest) a (W.alloc (.cells cs.toArray tb)) := by
  obtain ⟨i0, z, hi, hz0, hz1, hz2, hz3⟩ := E.info
  have hsz := E.pos
  have hmul : (n + 1) * by_ ≤ 1000001 * 100 := Nat.mul_le_mul (by omega) hby
  refine wpList_plain hgd fun K hK2 => ?_
  refine wp_append_lies (W.alloc (.cells cs.toArray tb)) s x ts ho b te i0 z size by_ E.under hi hz0 hz1 hz2 hz3 hsz v n k hs (hO.alloc _) ⟨W.heap.size, 0, none⟩ 1 1 cs hx (by rw [hn, Nat.one_mul]) (new_cells' W cs tb) h1 (by omega) (by unfold maxLen; omega) (by omega) (by simp; omega) (W.heap.size + 1) (by simp) (fun g cap w' h1 h2 h3 _ => hK2 _ _ (hK _ cap w' h1 h2 ?_))
  rcases h3 with e | e
  · exact .inl (by rw [e]; rfl)
  · exact .inr ⟨g, rfl, by omega⟩
set_option maxRecDepth 4000 in
/-- As one operation of a region that draws. -/
theorem step_app1 {ts te tb : TypeId} {size by_ : Nat} (E : ElemG ts te size by_) (W : World) {ops : Array Oper} {o : Oper} {a : Act} {K : Act → World → Prop} {Q : Exit → Act → World → Prop} {F : Prop} (hgd : o.guard = none) (s x : Operand)
    (ho : o.op = .call { callee := .builtin .append, args := #[s, x], argTypes := #[ts, ts] })
    (b : Nat) (v : Value) (n : Nat) (k cs : List Value) (hs : a.eval s = v) (hO : W.ownsRow b te size v n k) (hx : a.eval x = .slice (some ⟨W.heap.size, 0, none⟩) 1 1) (hn : cs.length = size) (h1 : ∀ u ∈ cs, u.oneCell' = true)
    (h63 : n ≤ 1000000) (hby : by_ ≤ 100) (hb : b ≤ W.heap.size)
    (hK : ∀ A' c' w', w'.ownsRow b te size (.slice A' (n + 1) c') (n + 1) (k ++ cs) → (W.alloc (.cells cs.toArray tb)).grownBy w' v.ownBlock → ((Value.slice A' (n + 1) c').ownBlock = v.ownBlock ∨ ∃ g, (Value.slice A' (n + 1) c').ownBlock = some g ∧ W.heap.size + 1 ≤ g) → K (a.put o.dst (.slice A' (n + 1) c')) w') :
    if Region.wanted o (yielded ops a.tmps) = true then Oper.wp Tryd.prog o a (W.alloc (.cells cs.toArray tb)) K Q else F := by
  have hw : Region.wanted o (yielded ops a.tmps) = true := by simp [Region.wanted, hgd]
  rw [if_pos hw]
  obtain ⟨i0, z, hi, hz0, hz1, hz2, hz3⟩ := E.info
  have hsz := E.pos
  have hmul : (n + 1) * by_ ≤ 1000001 * 100 := Nat.mul_le_mul (by omega) hby
  refine wp_append_lies (W.alloc (.cells cs.toArray tb)) s x ts ho b te i0 z size by_ E.under hi hz0 hz1 hz2 hz3 hsz v n k hs (hO.alloc _) ⟨W.heap.size, 0, none⟩ 1 1 cs hx (by rw [hn, Nat.one_mul]) (new_cells' W cs tb) h1 (by omega) (by unfold maxLen; omega) (by omega) (by simp; omega) (W.heap.size + 1) (by simp) (fun g cap w' h1 h2 h3 _ => hK _ cap w' h1 h2 ?_)
  rcases h3 with e | e
  · exact .inl (by rw [e]; rfl)
  · exact .inr ⟨g, rfl, by omega⟩
set_option maxRecDepth 4000 in
/-- What a row that grew leaves of the others. -/
theorem grown_off {W w' : World} {o : Option Nat} {B R : Nat} (h : W.grownBy w' o) (hB : B ≤ W.heap.size) (ho : ∀ g, o = some g → B ≤ g) : ∀ k, k < B → k ≠ R → w'.heap[k]? = W.heap[k]? := fun k hk _ => h.block k (by omega) (fun e => by have := ho k e.symm; omega)

end Go.Proofs.YtknkclbjocfhiaaDoor
