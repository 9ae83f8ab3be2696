/- The calls on single bytes and on keys and values answer what the plain functions say; the world stays as it was. -/
import Derived.Test.YtindjfiomilocaaGMem
import Derived.Test.YtindjfiomilocaaPSpec
namespace Go.Proofs.Ytindjfiomilocaa
open Go.RowKit
set_option maxRecDepth 4000 in
/-- What all bytes of a text meet, told place by place. -/
theorem all_take (p : UInt8 → Bool) (s : ByteArray) (h : ∀ j (hj : j < s.size), p s[j] = true) : s.data.toList.all p = true := by
  rw [List.all_eq_true]
  intro x hx
  obtain ⟨j, hj, rfl⟩ := List.mem_iff_getElem.1 hx
  exact h j (by simpa using hj)

set_option maxRecDepth 4000 in
theorem all_fails (p : UInt8 → Bool) (s : ByteArray) (j : Nat) (hj : j < s.size) (h : p s[j] = false) : s.data.toList.all p = false := by
  cases hh : s.data.toList.all p
  · rfl
  · rw [List.all_eq_true] at hh
    have hj' : j < s.data.toList.length := by simpa using hj
    have e : p s[j] = true := hh _ (List.getElem_mem hj')
    rw [h] at e
    cases e

set_option maxRecDepth 4000 in
theorem more (p : UInt8 → Bool) (s : ByteArray) (k : Nat) (hk : k < s.size) (h : Hid (∀ j (hj : j < s.size), j < k → p s[j] = true)) (hp : p s[k] = true) : Hid (∀ j (hj : j < s.size), j < k + 1 → p s[j] = true) := by
  intro j hj hl
  by_cases e : j = k
  · subst e; exact hp
  · exact h.out j hj (by omega)

set_option maxRecDepth 4000 in
theorem dec_no {p : Prop} [Decidable p] (h : ¬ p) : decide p = false := by simpa using h

set_option maxRecDepth 4000 in
theorem val_cases (c : UInt8) : isVal c = true ↔ ((97 ≤ (c.toNat : Int) ∧ (c.toNat : Int) ≤ 122) ∨ (48 ≤ (c.toNat : Int) ∧ (c.toNat : Int) ≤ 57) ∨ (c.toNat : Int) = 45) := by
  unfold isVal isLet isDig
  simp
  omega

set_option maxRecDepth 4000 in
theorem val_not {c : UInt8} (h : ¬ ((97 ≤ (c.toNat : Int) ∧ (c.toNat : Int) ≤ 122) ∨ (48 ≤ (c.toNat : Int) ∧ (c.toNat : Int) ≤ 57) ∨ (c.toNat : Int) = 45)) : isVal c = false := by
  cases hh : isVal c
  · rfl
  · exact absurd ((val_cases c).1 hh) h

end Go.Proofs.Ytindjfiomilocaa
