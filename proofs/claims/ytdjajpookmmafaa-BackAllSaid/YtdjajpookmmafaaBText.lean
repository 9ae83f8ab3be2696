/- Operations as plain data: the same or not, has one the fields of its kind, which one undoes it, which ones undo many. -/
import Derived.Test.YtdjajpookmmafaaKBase
import Derived.Test.YtdjajpookmmafaaXPlain
namespace Go.Proofs.Ytdjajpookmmafaa
open Go.RowKit

/-- An operation. -/
structure OpP where
  k : Int
  q : List Int
  t : List Int
  z : Int
  n : NT
  o : List Pr
  w : List Pr
  x : List Int
  f : Sl
  g : Sl
def zeroS : Sl := ⟨false, ([], 0), ([], 0)⟩
def zeroO : OpP := ⟨0, [], [], 0, zeroT, [], [], [], zeroS, zeroS⟩
noncomputable def eqO (a b : OpP) : Bool := @decide (a = b) (Classical.propDecidable _)
set_option maxRecDepth 4000 in
theorem eqO_self (a : OpP) : eqO a a = true := by unfold eqO; exact @decide_eq_true _ (Classical.propDecidable _) rfl
set_option maxRecDepth 4000 in
theorem eqO_yes {a b : OpP} (h : a = b) : eqO a b = true := by subst h; exact eqO_self a
set_option maxRecDepth 4000 in
theorem eqO_no {a b : OpP} (h : a ≠ b) : eqO a b = false := by unfold eqO; exact @decide_eq_false _ (Classical.propDecidable _) h
set_option maxRecDepth 4000 in
theorem eqO_eq {a b : OpP} (h : eqO a b = true) : a = b := by
  rcases Classical.em (a = b) with e | e
  · exact e
  · rw [eqO_no e] at h; cases h
set_option maxRecDepth 4000 in
theorem eqO_iff (a b : OpP) : eqO a b = true ↔ a = b := ⟨eqO_eq, eqO_yes⟩
set_option maxRecDepth 4000 in
theorem eqT_iff (a b : NT) : eqT a b = true ↔ a = b := ⟨fun h => Classical.byContradiction fun e => (by rw [eqT_no e] at h; cases h), eqT_yes⟩
set_option maxRecDepth 4000 in
theorem samS_iff (s t : Sl) : samS s t = true ↔ s = t := by
  obtain ⟨a, b, c⟩ := s
  obtain ⟨d, e, f⟩ := t
  simp [samS, samP, and_assoc]
set_option maxRecDepth 4000 in
theorem eqO_parts (a b : OpP) : eqO a b = (a.k == b.k && samI a.q b.q && samI a.t b.t && (a.z == b.z) && eqT a.n b.n && decide (a.o = b.o) && decide (a.w = b.w) && sameL a.x b.x && samS a.f b.f && samS a.g b.g) := by
  rw [Bool.eq_iff_iff, eqO_iff]
  simp only [Bool.and_eq_true, beq_iff_eq, eqT_iff, samS_iff, samI, sameL, decide_eq_true_iff]
  obtain ⟨a1, a2, a3, a4, a5, a6, a7, a8, a9, a10⟩ := a
  obtain ⟨b1, b2, b3, b4, b5, b6, b7, b8, b9, b10⟩ := b
  simp only [OpP.mk.injEq, and_assoc]

/-- Which kind undoes another one. -/
def undoK (k : Int) : Int := if k = 1 then 2 else if k = 2 then 1 else if k = 3 then 4 else if k = 4 then 3 else if k = 5 then 5 else if k = 6 then 6 else if k = 7 then 8 else if k = 8 then 7 else if k = 9 then 9 else 0
def kindB (k : Int) : Bool := decide (1 ≤ k) && decide (k ≤ 9)
set_option maxRecDepth 4000 in
theorem kinds {k : Int} (h : 1 ≤ k) (h2 : k ≤ 9) : k = 1 ∨ k = 2 ∨ k = 3 ∨ k = 4 ∨ k = 5 ∨ k = 6 ∨ k = 7 ∨ k = 8 ∨ k = 9 := by omega
set_option maxRecDepth 4000 in
theorem undoK_zero (k : Int) : undoK k = 0 ↔ kindB k = false := by
  by_cases h1 : 1 ≤ k
  · by_cases h2 : k ≤ 9
    · rcases kinds h1 h2 with rfl | rfl | rfl | rfl | rfl | rfl | rfl | rfl | rfl <;> decide
    · simp only [undoK, kindB, decide_eq_false h2, Bool.and_false, iff_true]
      rw [if_neg (by omega), if_neg (by omega), if_neg (by omega), if_neg (by omega), if_neg (by omega), if_neg (by omega), if_neg (by omega), if_neg (by omega), if_neg (by omega)]
  · simp only [undoK, kindB, decide_eq_false h1, Bool.false_and, iff_true]
    rw [if_neg (by omega), if_neg (by omega), if_neg (by omega), if_neg (by omega), if_neg (by omega), if_neg (by omega), if_neg (by omega), if_neg (by omega), if_neg (by omega)]
/-- Without the fields of its kind; with these alone. -/
def withoutO (o : OpP) : OpP :=
  if o.k = 1 then { o with q := [], n := zeroT } else if o.k = 2 then { o with q := [], n := zeroT } else if o.k = 3 then { o with q := [], z := 0, o := [] } else if o.k = 4 then { o with q := [], z := 0, w := [] } else
  if o.k = 5 then { o with q := [], t := [] } else if o.k = 6 then { o with q := [], o := [], w := [] } else if o.k = 7 then { o with q := [], z := 0, x := [] } else if o.k = 8 then { o with q := [], z := 0, x := [] } else if o.k = 9 then { o with f := zeroS, g := zeroS } else o
def fieldsO (o : OpP) : OpP :=
  if o.k = 1 then { zeroO with k := o.k, q := o.q, n := o.n } else if o.k = 2 then { zeroO with k := o.k, q := o.q, n := o.n } else if o.k = 3 then { zeroO with k := o.k, q := o.q, z := o.z, o := o.o } else if o.k = 4 then { zeroO with k := o.k, q := o.q, z := o.z, w := o.w } else
  if o.k = 5 then { zeroO with k := o.k, q := o.q, t := o.t } else if o.k = 6 then { zeroO with k := o.k, q := o.q, o := o.o, w := o.w } else if o.k = 7 then { zeroO with k := o.k, q := o.q, z := o.z, x := o.x } else if o.k = 8 then { zeroO with k := o.k, q := o.q, z := o.z, x := o.x } else if o.k = 9 then { zeroO with k := o.k, f := o.f, g := o.g } else { zeroO with k := o.k, q := o.q }
/-- Nothing but a kind. -/
noncomputable def bareB (o : OpP) : Bool := eqO o { zeroO with k := o.k }
noncomputable def formE (o : OpP) : Int := if undoK o.k = 0 then 1 else if bareB (withoutO o) = true then 0 else 1
set_option maxRecDepth 4000 in
theorem bare_fields (o : OpP) (h : kindB o.k = true) : bareB (withoutO o) = eqO (fieldsO o) o := by
  simp only [kindB, Bool.and_eq_true, decide_eq_true_iff] at h
  rw [Bool.eq_iff_iff, bareB, eqO_iff, eqO_iff]
  obtain ⟨k, q, t, z, n, o, w, x, f, g⟩ := o
  simp only at h
  rcases kinds h.1 h.2 with rfl | rfl | rfl | rfl | rfl | rfl | rfl | rfl | rfl <;> (constructor <;> (intro h; simp [withoutO, fieldsO, zeroO] at h ⊢; (try simp only [@eq_comm _ zeroS, @eq_comm _ zeroT, @eq_comm _ (0 : Int)] at h); simp [h]))
set_option maxRecDepth 4000 in
theorem formE_doc (o : OpP) : formE o = if (kindB o.k && eqO (fieldsO o) o) = true then 0 else 1 := by
  unfold formE
  cases h : kindB o.k
  · rw [if_pos ((undoK_zero _).2 h)]; rfl
  · rw [if_neg (fun e => by rw [(undoK_zero _).1 e] at h; cases h), bare_fields o h]; simp
set_option maxRecDepth 4000 in
theorem formE_cases (o : OpP) : formE o = 0 ∨ formE o = 1 := by unfold formE; split <;> (try split) <;> simp
set_option maxRecDepth 4000 in
theorem form_eq {o : OpP} (h : formE o = 0) : kindB o.k = true ∧ fieldsO o = o := by
  rw [formE_doc] at h
  split at h
  · rename_i hh
    rw [Bool.and_eq_true] at hh
    exact ⟨hh.1, eqO_eq hh.2⟩
  · cases h
set_option maxRecDepth 4000 in
theorem form_of {o : OpP} (h : kindB o.k = true) (h2 : fieldsO o = o) : formE o = 0 := by
  rw [formE_doc, h, eqO_yes h2]; rfl

/-- The one that undoes it. -/
def flipO (o : OpP) : OpP × Int :=
  if o.k = 3 then (if (backL o.q).2 = 0 then ({ o with k := 4, q := (backL o.q).1, o := o.w, w := o.o }, 0) else (zeroO, (backL o.q).2)) else
  if o.k = 4 then (if (nextL o.q).2 = 0 then ({ o with k := 3, q := (nextL o.q).1, o := o.w, w := o.o }, 0) else (zeroO, (nextL o.q).2)) else
  if o.k = 6 then ({ o with k := 6, o := o.w, w := o.o }, 0) else if o.k = 5 then ({ o with k := 5, q := o.t, t := o.q }, 0) else if o.k = 9 then ({ o with k := 9, f := o.g, g := o.f }, 0) else ({ o with k := undoK o.k }, 0)
noncomputable def invO (o : OpP) : OpP × Int := if formE o = 0 then flipO o else (zeroO, 1)
set_option maxRecDepth 4000 in
theorem flip_no {o : OpP} (h : (flipO o).2 ≠ 0) : (flipO o).1 = zeroO := by
  unfold flipO at h ⊢
  by_cases h3 : o.k = 3
  · rw [if_pos h3] at h ⊢
    by_cases hb : (backL o.q).2 = 0
    · rw [if_pos hb] at h; exact absurd rfl h
    · rw [if_neg hb]
  rw [if_neg h3] at h ⊢
  by_cases h4 : o.k = 4
  · rw [if_pos h4] at h ⊢
    by_cases hb : (nextL o.q).2 = 0
    · rw [if_pos hb] at h; exact absurd rfl h
    · rw [if_neg hb]
  rw [if_neg h4] at h ⊢
  by_cases h6 : o.k = 6
  · rw [if_pos h6] at h; exact absurd rfl h
  rw [if_neg h6] at h ⊢
  by_cases h5 : o.k = 5
  · rw [if_pos h5] at h; exact absurd rfl h
  rw [if_neg h5] at h ⊢
  by_cases h9 : o.k = 9
  · rw [if_pos h9] at h; exact absurd rfl h
  rw [if_neg h9] at h
  exact absurd rfl h
set_option maxRecDepth 4000 in
theorem inv_no {o : OpP} (h : (invO o).2 ≠ 0) : (invO o).1 = zeroO := by
  unfold invO at h ⊢
  by_cases hf : formE o = 0
  · rw [if_pos hf] at h ⊢; exact flip_no h
  · rw [if_neg hf]
/-- All of them, the last one's first. -/
noncomputable def invs : List OpP → List OpP × Int
  | [] => ([], 0)
  | o :: r => if (invO o).2 = 0 then (if (invs r).2 = 0 then ((invO o).1 :: (invs r).1, 0) else ([], (invs r).2)) else ([], (invO o).2)
noncomputable def allO (l : List OpP) : List OpP × Int := invs l.reverse

end Go.Proofs.Ytdjajpookmmafaa
