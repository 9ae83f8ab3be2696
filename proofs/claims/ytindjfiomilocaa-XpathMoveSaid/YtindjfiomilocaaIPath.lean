/- Paths as lists of numbers: plain functions and facts; no program is named here. -/
import Derived.Laws.Strings
namespace Go.Proofs.Ytindjfiomilocaa

def iAt (l : List Int) (k : Nat) : Int := l.getD k 0
set_option maxRecDepth 4000 in
theorem iAt_eq (l : List Int) (k : Nat) (hk : k < l.length) : iAt l k = l[k] := by
  unfold iAt; rw [List.getD_eq_getElem?_getD, List.getElem?_eq_getElem hk]; rfl

/-- How many numbers both begin with. -/
def alikeN : List Int → List Int → Nat
  | x :: a, y :: b => if x = y then alikeN a b + 1 else 0
  | _, _ => 0

set_option maxRecDepth 4000 in
theorem alikeN_le : ∀ a b : List Int, alikeN a b ≤ a.length ∧ alikeN a b ≤ b.length
  | [], _ => by simp [alikeN]
  | _ :: _, [] => by simp [alikeN]
  | x :: a, y :: b => by
    have := alikeN_le a b
    unfold alikeN
    split <;> simp <;> omega

set_option maxRecDepth 4000 in
theorem alikeN_same : ∀ (a b : List Int) (j : Nat), j < alikeN a b → iAt a j = iAt b j
  | [], _, j => by simp [alikeN]
  | _ :: _, [], j => by simp [alikeN]
  | x :: a, y :: b, j => by
    unfold alikeN
    split
    · rename_i h
      intro hj
      cases j with
      | zero => simpa [iAt] using h
      | succ j => simpa [iAt] using alikeN_same a b j (by omega)
    · intro hj; omega

set_option maxRecDepth 4000 in
theorem alikeN_of : ∀ (a b : List Int) (k : Nat), k ≤ a.length → k ≤ b.length → (∀ j, j < k → iAt a j = iAt b j) → (k < a.length → k < b.length → iAt a k ≠ iAt b k) → alikeN a b = k
  | [], b, k => by intro h; simp [alikeN] at *; omega
  | _ :: _, [], k => by intro _ h; simp [alikeN] at *; omega
  | x :: a, y :: b, k => by
    intro h1 h2 h3 h4
    unfold alikeN
    cases k with
    | zero => rw [if_neg (by simpa [iAt] using h4 (by simp) (by simp))]
    | succ k =>
      rw [if_pos (by simpa [iAt] using h3 0 (by omega))]
      rw [alikeN_of a b k (by simpa using h1) (by simpa using h2) (fun j hj => by simpa [iAt] using h3 (j + 1) (by omega)) (fun g1 g2 => by simpa [iAt] using h4 (by simpa using g1) (by simpa using g2))]

set_option maxRecDepth 4000 in
theorem alikeN_ne : ∀ a b : List Int, alikeN a b < a.length → alikeN a b < b.length → iAt a (alikeN a b) ≠ iAt b (alikeN a b)
  | [], _ => by simp [alikeN]
  | _ :: _, [] => by simp [alikeN]
  | x :: a, y :: b => by
    unfold alikeN
    split
    · rename_i h
      intro h1 h2
      simpa [iAt] using alikeN_ne a b (by simpa using h1) (by simpa using h2)
    · rename_i h
      intro _ _
      simpa [iAt] using h

set_option maxRecDepth 4000 in
theorem alikeN_comm (a b : List Int) : alikeN a b = alikeN b a :=
  alikeN_of a b _ (alikeN_le b a).2 (alikeN_le b a).1 (fun j hj => (alikeN_same b a j hj).symm) (fun h1 h2 => (alikeN_ne b a h2 h1).symm)

set_option maxRecDepth 4000 in
theorem alikeN_take (a b : List Int) : a.take (alikeN a b) = b.take (alikeN a b) := by
  have hl := alikeN_le a b
  apply List.ext_getElem
  · simp; omega
  · intro i h1 h2
    have hi : i < alikeN a b := by simp at h1; omega
    have := alikeN_same a b i hi
    rw [iAt_eq a i (by omega), iAt_eq b i (by omega)] at this
    simpa using this

set_option maxRecDepth 4000 in
theorem alikeN_prefix (a b : List Int) : alikeN a b = a.length ↔ a <+: b := by
  constructor
  · intro h
    have := alikeN_take a b
    rw [h, List.take_length] at this
    rw [this]
    exact List.take_prefix _ _
  · rintro ⟨c, rfl⟩
    refine alikeN_of a (a ++ c) _ (Nat.le_refl _) (by simp) (fun j hj => ?_) (fun h => absurd h (by omega))
    rw [iAt_eq a j hj, iAt_eq (a ++ c) j (by simp; omega), List.getElem_append_left hj]

set_option maxRecDepth 4000 in
theorem alikeN_eq (a b : List Int) (h : a.length = b.length) : alikeN a b = a.length ↔ a = b := by
  rw [alikeN_prefix]
  constructor
  · intro hp; exact hp.eq_of_length h
  · rintro rfl; exact List.prefix_refl _
set_option maxRecDepth 4000 in
theorem alikeN_self (a : List Int) : alikeN a a = a.length := (alikeN_prefix a a).2 (List.prefix_refl _)

def checkL (a : List Int) : Int := if a.all (fun n => decide (0 ≤ n)) then 0 else 5
def cmpI (a b : Int) : Int := if a < b then -1 else if b < a then 1 else 0
def cmpL : List Int → List Int → Int
  | [], [] => 0
  | [], _ :: _ => -1
  | _ :: _, [] => 1
  | x :: a, y :: b => if x < y then -1 else if y < x then 1 else cmpL a b
def samI (a b : List Int) : Bool := decide (a = b)
def aboveL (a b : List Int) : Bool := decide (a.length < b.length) && decide (alikeN a b = a.length)
def leftL (a b : List Int) : Bool := decide (alikeN a b + 1 = a.length) && decide (alikeN a b < b.length) && decide (iAt a (alikeN a b) < iAt b (alikeN a b))

set_option maxRecDepth 4000 in
theorem cmpL_in : ∀ a b : List Int, alikeN a b < a.length → alikeN a b < b.length → cmpL a b = cmpI (iAt a (alikeN a b)) (iAt b (alikeN a b))
  | [], _ => by simp [alikeN]
  | _ :: _, [] => by simp [alikeN]
  | x :: a, y :: b => by
    unfold alikeN cmpL
    split
    · rename_i h
      subst h
      intro h1 h2
      rw [if_neg (by omega), if_neg (by omega)]
      simpa [iAt] using cmpL_in a b (by simpa using h1) (by simpa using h2)
    · intro _ _
      simp only [cmpI, iAt, List.getD_cons_zero]
      split
      · rfl
      · rw [if_pos (by omega)]
        split
        · rfl
        · omega
set_option maxRecDepth 4000 in
theorem cmpL_out : ∀ a b : List Int, alikeN a b = a.length ∨ alikeN a b = b.length → cmpL a b = cmpI a.length b.length
  | [], [] => by simp [cmpL, cmpI]
  | [], y :: b => by intro _; simp [cmpL, cmpI]
  | x :: a, [] => by intro _; simp [cmpL, cmpI]; omega
  | x :: a, y :: b => by
    unfold alikeN cmpL
    split
    · rename_i h
      subst h
      intro h1
      rw [if_neg (by omega), if_neg (by omega), cmpL_out a b (by simpa using h1)]
      simp [cmpI]
    · intro h; simp at h

set_option maxRecDepth 4000 in
theorem cmpL_trans : ∀ a b c : List Int, cmpL a b ≤ 0 → cmpL b c ≤ 0 → cmpL a c ≤ 0
  | [], b, [] => by simp [cmpL]
  | [], b, z :: c => by intro _ _; simp [cmpL]
  | x :: a, [], c => by intro h; simp [cmpL] at h
  | x :: a, y :: b, [] => by intro _ h; simp [cmpL] at h
  | x :: a, y :: b, z :: c => by
    unfold cmpL
    intro h1 h2
    by_cases e1 : x < y
    · by_cases e2 : y < z
      · rw [if_pos (by omega)]; decide
      · rw [if_neg e2] at h2
        by_cases e3 : z < y
        · rw [if_pos e3] at h2; omega
        · rw [if_pos (by omega)]; decide
    · rw [if_neg e1] at h1
      by_cases e1' : y < x
      · rw [if_pos e1'] at h1; omega
      · rw [if_neg e1'] at h1
        by_cases e2 : y < z
        · rw [if_pos (by omega)]; decide
        · rw [if_neg e2] at h2
          by_cases e3 : z < y
          · rw [if_pos e3] at h2; omega
          · rw [if_neg e3] at h2
            rw [if_neg (by omega), if_neg (by omega)]
            exact cmpL_trans a b c h1 h2

set_option maxRecDepth 4000 in
theorem aboveL_iff (a b : List Int) : aboveL a b = true ↔ a.length < b.length ∧ a <+: b := by
  unfold aboveL; rw [Bool.and_eq_true, decide_eq_true_iff, decide_eq_true_iff, alikeN_prefix]
set_option maxRecDepth 4000 in
theorem aboveL_trans (a b c : List Int) (h1 : aboveL a b = true) (h2 : aboveL b c = true) : aboveL a c = true := by
  rw [aboveL_iff] at *
  exact ⟨by omega, h1.2.trans h2.2⟩
set_option maxRecDepth 4000 in
theorem leftL_iff (a b : List Int) : leftL a b = true ↔ alikeN a b + 1 = a.length ∧ alikeN a b < b.length ∧ iAt a (alikeN a b) < iAt b (alikeN a b) := by
  unfold leftL; simp only [Bool.and_eq_true, decide_eq_true_iff, and_assoc]
set_option maxRecDepth 4000 in
theorem prefix_at {a b : List Int} (h : a <+: b) {j : Nat} (hj : j < a.length) : iAt a j = iAt b j := by
  obtain ⟨c, rfl⟩ := h
  rw [iAt_eq a j hj, iAt_eq (a ++ c) j (by simp; omega), List.getElem_append_left hj]
set_option maxRecDepth 4000 in
theorem leftL_above (a b c : List Int) (h1 : leftL a b = true) (h2 : aboveL b c = true) : leftL a c = true := by
  rw [aboveL_iff] at h2
  obtain ⟨h3, h4⟩ := h2
  rw [leftL_iff] at *
  obtain ⟨g1, g2, g3⟩ := h1
  have e : alikeN a c = alikeN a b := alikeN_of a c _ (by omega) (by omega) (fun j hj => (alikeN_same a b j hj).trans (prefix_at h4 (by omega))) (fun _ _ => by rw [← prefix_at h4 g2]; omega)
  rw [e]
  exact ⟨g1, by omega, by rw [← prefix_at h4 g2]; exact g3⟩

/-- The path beside one, by its last number. -/
def sib (l : List Int) (v : Int) : List Int := l.set (l.length - 1) v
def lastL (l : List Int) : Int := iAt l (l.length - 1)
def parentL (l : List Int) : List Int × Int := if l.length = 0 then ([], 6) else (l.take (l.length - 1), 0)
def nextL (l : List Int) : List Int × Int := if l.length = 0 then ([], 6) else if lastL l = 9223372036854775807 then ([], 8) else (sib l (lastL l + 1), 0)
def backL (l : List Int) : List Int × Int := if l.length = 0 then ([], 6) else if lastL l ≤ 0 then ([], 8) else (sib l (lastL l - 1), 0)
def levelsL (l : List Int) : List (List Int) := (List.range (l.length + 1)).map fun n => l.take n

set_option maxRecDepth 4000 in
theorem sib_length (l : List Int) (v : Int) : (sib l v).length = l.length := by simp [sib]
set_option maxRecDepth 4000 in
theorem sib_last (l : List Int) (v : Int) (h : l.length ≠ 0) : lastL (sib l v) = v := by
  unfold lastL; rw [sib_length, iAt_eq _ _ (by rw [sib_length]; omega)]; simp [sib]
set_option maxRecDepth 4000 in
theorem sib_other (l : List Int) (v : Int) (j : Nat) (h : j + 1 < l.length) : iAt (sib l v) j = iAt l j := by
  rw [iAt_eq _ _ (by rw [sib_length]; omega), iAt_eq _ _ (by omega)]
  simp only [sib]
  rw [List.getElem_set_ne (by omega)]
set_option maxRecDepth 4000 in
theorem sib_take (l : List Int) (v : Int) : (sib l v).take (l.length - 1) = l.take (l.length - 1) := by
  unfold sib
  rw [List.take_set, List.set_eq_of_length_le (by simp)]
set_option maxRecDepth 4000 in
theorem sib_sib (l : List Int) (u v : Int) : sib (sib l u) v = sib l v := by
  unfold sib; rw [List.length_set, List.set_set]
set_option maxRecDepth 4000 in
theorem sib_self (l : List Int) : sib l (lastL l) = l := by
  unfold sib lastL
  apply List.ext_getElem
  · simp
  · intro i h1 h2
    by_cases e : l.length - 1 = i
    · subst e; rw [List.getElem_set_self, iAt_eq _ _ h2]
    · rw [List.getElem_set_ne e]
set_option maxRecDepth 4000 in
theorem left_sib (l : List Int) (v : Int) (h : l.length ≠ 0) (hv : lastL l < v) : leftL l (sib l v) = true := by
  have hs := sib_last l v h
  unfold lastL at hs hv
  rw [sib_length] at hs
  have e : alikeN l (sib l v) = l.length - 1 := alikeN_of _ _ _ (by omega) (by rw [sib_length]; omega) (fun j hj => (sib_other l v j (by omega)).symm) (fun _ _ => by rw [hs]; omega)
  rw [leftL_iff, e]
  exact ⟨by omega, by rw [sib_length]; omega, by rw [hs]; exact hv⟩

set_option maxRecDepth 4000 in
theorem take_above (l : List Int) (n : Nat) (h : n < l.length) : aboveL (l.take n) l = true := by
  rw [aboveL_iff]; exact ⟨by simp; omega, List.take_prefix _ _⟩
set_option maxRecDepth 4000 in
theorem levelsL_length (l : List Int) : (levelsL l).length = l.length + 1 := by simp [levelsL]

set_option maxRecDepth 4000 in
/-- How far a's levels are b's as well. -/
theorem level_is (a b : List Int) (n : Nat) (hn : n ≤ a.length) : (samI (a.take n) b || aboveL (a.take n) b) = decide (n ≤ alikeN a b) := by
  rw [Bool.eq_iff_iff, Bool.or_eq_true, decide_eq_true_iff, aboveL_iff]
  unfold samI
  rw [decide_eq_true_iff]
  have hl := alikeN_le a b
  constructor
  · intro h
    have hp : a.take n <+: b := by
      rcases h with h | h
      · rw [h]; exact List.prefix_refl _
      · exact h.2
    have h2 : n ≤ b.length := by have := hp.length_le; simp at this; omega
    rcases Nat.lt_or_ge (alikeN a b) n with hlt | hge
    · exfalso
      refine alikeN_ne a b (by omega) (by omega) ?_
      have := prefix_at hp (j := alikeN a b) (by simp; omega)
      rw [← this, iAt_eq (a.take n) (alikeN a b) (by simp; omega), iAt_eq a (alikeN a b) (by omega)]
      simp
    · exact hge
  · intro h
    have hp : a.take n <+: b := by
      have e : a.take n = b.take n := by
        have := congrArg (List.take n) (alikeN_take a b)
        simpa [List.take_take, Nat.min_eq_left h] using this
      rw [e]; exact List.take_prefix _ _
    by_cases e : n = b.length
    · left
      exact hp.eq_of_length (by simp; omega)
    · right
      exact ⟨by simp; omega, hp⟩

end Go.Proofs.Ytindjfiomilocaa
