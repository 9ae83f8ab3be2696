/- Points compared: plain functions and facts; no program is named here. -/
import Derived.Test.YtdjajpookmmafaaIBase
namespace Go.Proofs.Ytdjajpookmmafaa

theorem cmpL_neg : ∀ a b : List Int, cmpL b a = -cmpL a b
  | [], [] => rfl
  | [], _ :: _ => rfl
  | _ :: _, [] => rfl
  | x :: a, y :: b => by
    rw [cmpL, cmpL]
    split
    · rw [if_neg (by omega)]
      try rfl
    · split
      · rfl
      · exact cmpL_neg a b
set_option maxRecDepth 4000 in
theorem cmpL_eq : ∀ a b : List Int, cmpL a b = 0 → a = b
  | [], [] => fun _ => rfl
  | [], _ :: _ => fun h => by rw [cmpL] at h; omega
  | _ :: _, [] => fun h => by rw [cmpL] at h; omega
  | x :: a, y :: b => fun h => by
    rw [cmpL] at h
    split at h
    · omega
    · split at h
      · omega
      · rw [cmpL_eq a b h, show x = y by omega]
set_option maxRecDepth 4000 in
theorem cmpL_refl : ∀ a : List Int, cmpL a a = 0
  | [] => rfl
  | x :: a => by rw [cmpL, if_neg (by omega), if_neg (by omega)]; exact cmpL_refl a
set_option maxRecDepth 4000 in
theorem cmpL_three : ∀ a b : List Int, cmpL a b = -1 ∨ cmpL a b = 0 ∨ cmpL a b = 1
  | [], [] => .inr (.inl rfl)
  | [], _ :: _ => .inl rfl
  | _ :: _, [] => .inr (.inr rfl)
  | x :: a, y :: b => by
    rw [cmpL]
    split
    · exact .inl rfl
    · split
      · exact .inr (.inr rfl)
      · exact cmpL_three a b
set_option maxRecDepth 4000 in
theorem cmpL_both {a b : List Int} (h1 : cmpL a b ≤ 0) (h2 : cmpL b a ≤ 0) : a = b := by
  rw [cmpL_neg] at h2
  exact cmpL_eq a b (by omega)
set_option maxRecDepth 4000 in
theorem cmpL_cons (x : Int) (a b : List Int) : cmpL (x :: a) (x :: b) = cmpL a b := by rw [cmpL, if_neg (by omega), if_neg (by omega)]
set_option maxRecDepth 4000 in
theorem aboveL_cons (x : Int) (a b : List Int) : aboveL (x :: a) (x :: b) = aboveL a b := by
  unfold aboveL
  rw [alikeN, if_pos rfl]
  simp
set_option maxRecDepth 4000 in
theorem aboveL_ne {x y : Int} (a b : List Int) (h : x ≠ y) : aboveL (x :: a) (y :: b) = false := by
  unfold aboveL
  rw [alikeN, if_neg h]
  simp

/-- A point: its path, its Off. -/
def cmpP (a b : List Int × Int) : Int := if cmpL a.1 b.1 = 0 then cmpI a.2 b.2 else cmpL a.1 b.1
def samP (a b : List Int × Int) : Bool := decide (a = b)
/-! Points. -/
set_option maxRecDepth 4000 in
theorem cmpP_neg (a b : List Int × Int) : cmpP b a = -cmpP a b := by
  unfold cmpP
  rw [cmpL_neg a.1 b.1]
  by_cases h : cmpL a.1 b.1 = 0
  · rw [if_pos h, if_pos (by omega)]; unfold cmpI; split <;> split <;> first | rfl | omega
  · rw [if_neg h, if_neg (by omega)]
set_option maxRecDepth 4000 in
theorem cmpP_zero (a b : List Int × Int) : (cmpP a b = 0) ↔ a = b := by
  constructor
  · intro h
    unfold cmpP at h
    split at h
    · rename_i h0
      have h1 := cmpL_eq _ _ h0
      unfold cmpI at h
      split at h
      · omega
      · split at h
        · omega
        · exact Prod.ext h1 (by omega)
    · omega
  · rintro rfl
    unfold cmpP cmpI
    rw [if_pos (cmpL_refl _), if_neg (by omega), if_neg (by omega)]
set_option maxRecDepth 4000 in
theorem samP_is (a b : List Int × Int) : samP a b = decide (cmpP a b = 0) := by
  unfold samP
  rw [decide_eq_decide, cmpP_zero]
set_option maxRecDepth 4000 in
theorem cmpP_trans (a b c : List Int × Int) (h1 : cmpP a b ≤ 0) (h2 : cmpP b c ≤ 0) : cmpP a c ≤ 0 := by
  have g1 : cmpL a.1 b.1 ≤ 0 := by unfold cmpP at h1; split at h1 <;> omega
  have g2 : cmpL b.1 c.1 ≤ 0 := by unfold cmpP at h2; split at h2 <;> omega
  have g3 := cmpL_trans _ _ _ g1 g2
  unfold cmpP
  split
  · rename_i h0
    have e := cmpL_eq _ _ h0
    rw [← e] at g2
    have e1 := cmpL_both g1 g2
    unfold cmpP at h1 h2
    rw [← e, ← e1, if_pos (cmpL_refl _)] at h2
    rw [← e1, if_pos (cmpL_refl _)] at h1
    unfold cmpI at h1 h2 ⊢
    split at h1 <;> split at h2 <;> split <;> (try split) <;> omega
  · exact g3
set_option maxRecDepth 4000 in
theorem cmpP_three (a b : List Int × Int) : cmpP a b = -1 ∨ cmpP a b = 0 ∨ cmpP a b = 1 := by
  unfold cmpP
  split
  · unfold cmpI; split
    · exact .inl rfl
    · split
      · exact .inr (.inr rfl)
      · exact .inr (.inl rfl)
  · exact cmpL_three _ _
end Go.Proofs.Ytdjajpookmmafaa
