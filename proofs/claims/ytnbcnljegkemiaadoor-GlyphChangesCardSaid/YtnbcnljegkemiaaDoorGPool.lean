/- What is written into rows of the call's own: runes stay runes, rows of slices stay as they are. -/
import Derived.Test.YtnbcnljegkemiaaDoorGRIns
import Derived.Test.YtnbcnljegkemiaaDoorGCuts
namespace Go.Proofs.YtnbcnljegkemiaaDoor
open Go.RowKit
open Go.WideShapes (add_plain)

theorem OwnV.vl {t : TypeId} {w : World} {b n c : Nat} {A : Option Addr} {xs : List Value} (h : OwnV t w b (.slice A n c) xs) : VL w w.heap.size A xs := by
  obtain ⟨A', c', e, _, _, h3⟩ := h.open_
  injection e with e
  subst e
  exact h3

/-- The slice at A, of n cells, lies in a block from B on that holds runes' numbers, whichever. -/
def WI (W : World) (B : Nat) (A : Option Addr) (n : Nat) : Prop :=
  0 < n → ∃ g cur, A = some ⟨g, 0, none⟩ ∧ B ≤ g ∧ W.heap[g]? = some (.cells cur 21 (0, 0)) ∧ ∀ j, j < n → ∃ x, cur[j]? = some (.int .i32 x)
theorem WI.of_own {w : World} {b n c B : Nat} {A : Option Addr} {l : List Int} (h : OwnV 21 w b (.slice A n c) (rv l)) (hB : B ≤ b) : WI w B A n := by
  intro hn
  obtain ⟨A', c', e, _, _, h3⟩ := h
  injection e with e1 e2 e3
  subst e1 e2 e3
  rcases h3.2 with ⟨_, h0⟩ | ⟨g, cap, cur, e2, hbg, hg, _, _, hcs, htk⟩
  · omega
  · injection e2 with e2 _ _
    subst e2
    refine ⟨g, cur, rfl, by omega, hg, fun j hj => ⟨atL l j, ?_⟩⟩
    have hj2 : j < l.length := by rw [rv_len] at hj; exact hj
    have : (cur.toList.take ((rv l).length * 1))[j]? = (rv l)[j]? := by rw [htk]
    rw [List.getElem?_take_of_lt (by omega)] at this
    rw [← Array.getElem?_toList, this]
    exact rv_at l j hj2
theorem WI.set {W : World} {B : Nat} {A : Option Addr} {n : Nat} (h : WI W B A n) (g j : Nat) (x : Int) : WI (W.setCell ⟨g, j, none⟩ (.int .i32 x)) B A n := by
  intro hn
  obtain ⟨g', cur, rfl, hB, hg, hc⟩ := h hn
  by_cases e : g' = g
  · subst e
    refine ⟨g', cur.setIfInBounds j (.int .i32 x), rfl, hB, heap_setCell_same W g' j cur _ _ hg, fun i hi => ?_⟩
    obtain ⟨y, hy⟩ := hc i hi
    rw [Array.getElem?_setIfInBounds]
    split
    · rename_i e2
      subst e2
      rw [if_pos (Array.getElem?_eq_some_iff.1 hy).1]
      exact ⟨x, rfl⟩
    · exact ⟨y, hy⟩
  · exact ⟨g', cur, rfl, hB, (heap_setCell_other W ⟨g, j, none⟩ g' _ e).trans hg, hc⟩
theorem WI.at_ {W : World} {B : Nat} {A : Option Addr} {n : Nat} (h : WI W B A n) {j : Nat} (hj : j < n) : ∃ g x, A = some ⟨g, 0, none⟩ ∧ B ≤ g ∧ (∃ cur, W.heap[g]? = some (.cells cur 21 (0, 0))) ∧ W.cell? ⟨g, j, none⟩ = some (.int .i32 x) ∧ W.frozen? ⟨g, j, none⟩ = false := by
  obtain ⟨g, cur, rfl, hB, hg, hc⟩ := h (by omega)
  obtain ⟨x, hx⟩ := hc j hj
  refine ⟨g, x, rfl, hB, ⟨cur, hg⟩, ?_, ?_⟩
  · rw [cell_of_row W g j cur _ (0, 0) hg]; exact hx
  · simp [World.frozen?, hg]
theorem WI.below {w w' : World} {B m : Nat} {A : Option Addr} (h : WI w B A m) (hb : Below w.heap.size w w') : WI w' B A m := by
  intro hm
  obtain ⟨g, cur, rfl, hB, hgg, hc⟩ := h hm
  exact ⟨g, cur, rfl, hB, (hb.block g (Array.getElem?_eq_some_iff.1 hgg).1).trans hgg, hc⟩

/-- Block g is just the slices vs, each of runes' numbers, from B on. -/
def Rows_ (W : World) (B g : Nat) (vs : List Value) : Prop :=
  W.heap[g]? = some (.cells vs.toArray 22 (0, 0)) ∧ ∀ (j : Nat) (u : Value), vs[j]? = some u → ∃ A n c, u = Value.slice A n c ∧ n ≤ 1000 ∧ WI W B A n
theorem Rows_.set {W : World} {B k : Nat} {vs : List Value} (h : Rows_ W B k vs) (g j : Nat) (x : Int) (hg : ∃ cur, W.heap[g]? = some (.cells cur 21 (0, 0))) : Rows_ (W.setCell ⟨g, j, none⟩ (.int .i32 x)) B k vs := by
  obtain ⟨h1, h2⟩ := h
  obtain ⟨cur, hg⟩ := hg
  refine ⟨(heap_setCell_other W ⟨g, j, none⟩ k _ (fun e2 => ?_)).trans h1, fun i u hu => ?_⟩
  · simp only at e2
    subst e2
    rw [hg] at h1
    injection h1 with h1
    injection h1 with _ h3
    exact absurd h3 (by decide)
  · obtain ⟨A, n, c, rfl, hn, hw⟩ := h2 i u hu
    exact ⟨A, n, c, rfl, hn, hw.set g j x⟩
theorem Rows_.wi {W : World} {B g : Nat} {vs : List Value} (h : Rows_ W B g vs) {j : Nat} {A : Option Addr} {m d : Nat} (hj : vs[j]? = some (.slice A m d)) : WI W B A m := by
  obtain ⟨A', m', d', e, _, hw⟩ := h.2 j _ hj
  injection e with e1 e2 e3
  subst e1 e2 e3
  exact hw
theorem Rows_.at_ {W : World} {B g : Nat} {vs : List Value} (h : Rows_ W B g vs) {j : Nat} (hj : j < vs.length) : ∃ A m d, W.cell? ⟨g, j, none⟩ = some (.slice A m d) ∧ m ≤ 1000 ∧ vs[j]? = some (.slice A m d) := by
  obtain ⟨h1, h2⟩ := h
  have hv : vs[j]? = some vs[j] := List.getElem?_eq_getElem hj
  obtain ⟨A, m, d, e, hm, _⟩ := h2 j _ hv
  rw [e] at hv
  refine ⟨A, m, d, ?_, hm, hv⟩
  rw [cell_of_row W g j _ _ (0, 0) h1]
  simpa using hv
theorem rows4 (W : World) (B : Nat) (A1 A2 A3 A4 : Option Addr) (n1 n2 n3 n4 c1 c2 c3 c4 : Nat) (h1 : WI W B A1 n1) (h2 : WI W B A2 n2) (h3 : WI W B A3 n3) (h4 : WI W B A4 n4) (m1 : n1 ≤ 1000) (m2 : n2 ≤ 1000) (m3 : n3 ≤ 1000) (m4 : n4 ≤ 1000) :
    Rows_ (W.alloc (.cells #[.slice A1 n1 c1, .slice A2 n2 c2, .slice A3 n3 c3, .slice A4 n4 c4] 22)) B W.heap.size [.slice A1 n1 c1, .slice A2 n2 c2, .slice A3 n3 c3, .slice A4 n4 c4] := by
  have hb : Below W.heap.size W (W.alloc (.cells #[.slice A1 n1 c1, .slice A2 n2 c2, .slice A3 n3 c3, .slice A4 n4 c4] 22)) := (Below.refl _ _).alloc (Nat.le_refl _) _
  refine ⟨heap_alloc_new W _, fun j u hu => ?_⟩
  match j, hu with
  | 0, hu => simp at hu; subst hu; exact ⟨_, _, _, rfl, m1, h1.below hb⟩
  | 1, hu => simp at hu; subst hu; exact ⟨_, _, _, rfl, m2, h2.below hb⟩
  | 2, hu => simp at hu; subst hu; exact ⟨_, _, _, rfl, m3, h3.below hb⟩
  | 3, hu => simp at hu; subst hu; exact ⟨_, _, _, rfl, m4, h4.below hb⟩
  | j + 4, hu => simp at hu

end Go.Proofs.YtnbcnljegkemiaaDoor
