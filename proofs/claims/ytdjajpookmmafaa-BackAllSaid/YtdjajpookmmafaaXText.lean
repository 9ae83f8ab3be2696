/- Where a path's node goes: plain functions and facts; no program is named here. -/
import Derived.Test.YtdjajpookmmafaaKPts
namespace Go.Proofs.Ytdjajpookmmafaa

/-- All numbers are such as a path may have. -/
def smallI (l : List Int) : Bool := l.all fun n => decide (0 ≤ n) && decide (n ≤ 1048576)
set_option maxRecDepth 4000 in
theorem smallI_iff (l : List Int) : smallI l = true ↔ ∀ k, k < l.length → 0 ≤ iAt l k ∧ iAt l k ≤ 1048576 := by
  unfold smallI
  simp only [List.all_eq_true, Bool.and_eq_true, decide_eq_true_iff]
  constructor
  · intro h k hk; rw [iAt_eq l k hk]; exact h _ (List.getElem_mem hk)
  · intro h x hx
    obtain ⟨k, hk, rfl⟩ := List.getElem_of_mem hx
    have := h k hk
    rwa [iAt_eq l k hk] at this
set_option maxRecDepth 4000 in
theorem smallI_no (l : List Int) (k : Nat) (hk : k < l.length) (h : ¬ (0 ≤ iAt l k ∧ iAt l k ≤ 1048576)) : smallI l = false := by
  cases e : smallI l
  · rfl
  · exact absurd ((smallI_iff l).1 e k hk) h
def smallN (n : Int) : Bool := decide (0 ≤ n) && decide (n ≤ 1048576)
set_option maxRecDepth 4000 in
theorem smallI_one (n : Int) : smallI [n] = smallN n := by simp [smallI, smallN]
set_option maxRecDepth 4000 in
theorem smallN_iff (n : Int) : smallN n = true ↔ 0 ≤ n ∧ n ≤ 1048576 := by simp [smallN]

/-- One number so much more. -/
def addL (l : List Int) (k : Nat) (v : Int) : List Int := l.set k (iAt l k + v)
set_option maxRecDepth 4000 in
theorem addL_len (l : List Int) (k : Nat) (v : Int) : (addL l k v).length = l.length := by simp [addL]
set_option maxRecDepth 4000 in
theorem addL_at (l : List Int) (k : Nat) (v : Int) (h : k < l.length) : iAt (addL l k v) k = iAt l k + v := by
  rw [iAt_eq _ k (by rw [addL_len]; exact h)]; simp [addL]
set_option maxRecDepth 4000 in
theorem addL_ne (l : List Int) (k j : Nat) (v : Int) (h : j ≠ k) : iAt (addL l k v) j = iAt l j := by
  unfold iAt addL
  rw [List.getD_eq_getElem?_getD, List.getD_eq_getElem?_getD, List.getElem?_set_ne (by omega)]
set_option maxRecDepth 4000 in
theorem iAt_ext {l m : List Int} (h : l.length = m.length) (h2 : ∀ k, k < l.length → iAt l k = iAt m k) : l = m := by
  apply List.ext_getElem h
  intro i h3 h4
  have := h2 i h3
  rwa [iAt_eq l i h3, iAt_eq m i h4] at this
set_option maxRecDepth 4000 in
theorem addL_back (l : List Int) (k : Nat) (v u : Int) (h : v + u = 0) : addL (addL l k v) k u = l := by
  refine iAt_ext (by simp [addL_len]) fun j hj => ?_
  by_cases e : j = k
  · subst e
    simp only [addL_len] at hj
    rw [addL_at _ _ _ (by rw [addL_len]; exact hj), addL_at _ _ _ hj]; omega
  · rw [addL_ne _ _ _ _ e, addL_ne _ _ _ _ e]
set_option maxRecDepth 4000 in
theorem addL_zero (l : List Int) (k : Nat) : addL l k 0 = l := by
  refine iAt_ext (by simp [addL_len]) fun j hj => ?_
  by_cases e : j = k
  · subst e; rw [addL_len] at hj; rw [addL_at _ _ _ hj]; omega
  · rw [addL_ne _ _ _ _ e]
/-- Numbers so much more, from a place on. -/
def plusL (l : List Int) (k : Nat) : List Int → List Int
  | [] => l
  | v :: by_ => plusL (addL l k v) (k + 1) by_
set_option maxRecDepth 4000 in
theorem plusL_len (by_ : List Int) : ∀ (l : List Int) (k : Nat), (plusL l k by_).length = l.length := by
  induction by_ with
  | nil => intro l k; rfl
  | cons v r ih => intro l k; rw [plusL, ih, addL_len]
set_option maxRecDepth 4000 in
theorem plusL_at (by_ : List Int) : ∀ (l : List Int) (k j : Nat), j < k → iAt (plusL l k by_) j = iAt l j := by
  induction by_ with
  | nil => intro l k j h; rfl
  | cons v r ih => intro l k j h; rw [plusL, ih _ _ _ (by omega), addL_ne _ _ _ _ (by omega)]
set_option maxRecDepth 4000 in
theorem plusL_snoc (r : List Int) (v : Int) : ∀ (l : List Int) (k : Nat), plusL l k (r ++ [v]) = addL (plusL l k r) (k + r.length) v := by
  induction r with
  | nil => intro l k; rfl
  | cons x r ih => intro l k; rw [List.cons_append, plusL, plusL, ih]; rw [show k + 1 + r.length = k + (x :: r).length by simp; omega]
set_option maxRecDepth 4000 in
theorem plusL_take (by_ : List Int) (l : List Int) (k n : Nat) (hn : n < by_.length) : plusL l k (by_.take (n + 1)) = addL (plusL l k (by_.take n)) (k + n) (iAt by_ n) := by
  rw [List.take_add_one, List.getElem?_eq_getElem hn]
  simp only [Option.toList_some]
  rw [plusL_snoc, iAt_eq by_ n hn]
  congr 2
  simp; omega
set_option maxRecDepth 4000 in
/-- The number that comes next, ahead of it there is nothing to be added. -/
theorem plusL_next (by_ : List Int) : ∀ (l : List Int) (k j : Nat), k + by_.length ≤ j → iAt (plusL l k by_) j = iAt l j := by
  induction by_ with
  | nil => intro l k j h; rfl
  | cons v r ih => intro l k j h; simp at h; rw [plusL, ih _ _ _ (by omega), addL_ne _ _ _ _ (by omega)]

/-- How a path stands to another one. -/
def standL (q p : List Int) : Int := if leftL q p then 1 else if samI q p then 2 else if aboveL q p then 3 else 0
set_option maxRecDepth 4000 in
theorem standL_left (q p : List Int) : standL q p = 1 ↔ leftL q p = true := by unfold standL; split <;> rename_i h <;> simp [h]; split <;> (try split) <;> simp
set_option maxRecDepth 4000 in
theorem same_left (p : List Int) : leftL p p = false := by
  cases h : leftL p p
  · rfl
  · rw [leftL_iff] at h; omega
set_option maxRecDepth 4000 in
theorem above_left {q p : List Int} (h : aboveL q p = true) : leftL q p = false := by
  cases h2 : leftL q p
  · rfl
  · rw [leftL_iff] at h2
    rw [aboveL_iff, ← alikeN_prefix] at h
    omega
set_option maxRecDepth 4000 in
theorem above_same {q p : List Int} (h : aboveL q p = true) : samI q p = false := by
  cases h2 : samI q p
  · rfl
  · unfold samI at h2
    rw [of_decide_eq_true h2] at h
    rw [aboveL_iff] at h
    omega
set_option maxRecDepth 4000 in
theorem standL_cases (q p : List Int) : (standL q p = 1 ∧ leftL q p = true ∧ samI q p = false ∧ aboveL q p = false) ∨ (standL q p = 2 ∧ leftL q p = false ∧ samI q p = true ∧ aboveL q p = false) ∨ (standL q p = 3 ∧ leftL q p = false ∧ samI q p = false ∧ aboveL q p = true) ∨ (standL q p = 0 ∧ leftL q p = false ∧ samI q p = false ∧ aboveL q p = false) := by
  unfold standL
  cases h1 : leftL q p
  · cases h2 : samI q p
    · cases h3 : aboveL q p
      · simp
      · simp
    · have : q = p := by unfold samI at h2; exact of_decide_eq_true h2
      subst this
      have : aboveL q q = false := by
        cases h3 : aboveL q q
        · rfl
        · rw [aboveL_iff] at h3; omega
      simp [this]
  · have h2 : samI q p = false := by
      cases h2 : samI q p
      · rfl
      · unfold samI at h2
        rw [of_decide_eq_true h2, same_left] at h1; cases h1
    have h3 : aboveL q p = false := by
      cases h3 : aboveL q p
      · rfl
      · rw [above_left h3] at h1; cases h1
    simp [h2, h3]

/-- What Move answers: a list, and whether it is told. -/
def noR : List Int × Bool := ([], false)
/-- By an operation at q that moves no node elsewhere, all numbers being small. -/
def moveB (k : Int) (q : List Int) (pos : Int) (p : List Int) : List Int × Bool :=
  if q.length = 0 then (p, true)
  else if k = 1 then (if standL q p = 0 then (p, true) else (plusL p (q.length - 1) [1], true))
  else if k = 2 then (if standL q p = 0 then (p, true) else if standL q p = 1 then (plusL p (q.length - 1) [-1], true) else noR)
  else if k = 3 then (if lastL q = 0 then noR else if standL q p = 0 then (p, true) else if standL q p = 3 then (plusL p (q.length - 1) [-1, pos], true) else (plusL p (q.length - 1) [-1], true))
  else if k = 4 then (if standL q p = 1 then (plusL p (q.length - 1) [1], true) else if standL q p = 3 ∧ pos ≤ iAt p q.length then (plusL p (q.length - 1) [1, -pos], true) else (p, true))
  else (p, true)
def moveL (k : Int) (q t : List Int) (pos : Int) (p : List Int) : List Int × Bool :=
  if smallI p && smallI q && smallI t && smallN pos then
    if k = 5 ∧ q.length ≠ 0 then (if standL q p = 2 ∨ standL q p = 3 then (t ++ p.drop q.length, true) else moveB 1 t 0 (moveB 2 q 0 p).1)
    else moveB k q pos p
  else noR

end Go.Proofs.Ytdjajpookmmafaa
