/- Calls that only read: runes and plain runes, Check, Same, slices.Equal, and the document's. -/
import Derived.Test.YtjolmnghoigggaaGMem
namespace Go.Proofs.Ytjolmnghoigggaa
open Go.RowKit

theorem isR_t {c : Int} (h : 0 ≤ c ∧ c ≤ 55295 ∨ 57344 ≤ c ∧ c ≤ 1114111) : isR c = true := (isR_iff c).2 h
set_option maxRecDepth 4000 in
theorem isR_f {c : Int} (h : ¬ (0 ≤ c ∧ c ≤ 55295 ∨ 57344 ≤ c ∧ c ≤ 1114111)) : isR c = false := decide_eq_false h
set_option maxRecDepth 4000 in
theorem isP_t {c : Int} (h : 32 ≤ c ∧ c ≤ 126 ∧ c ≠ 34 ∧ c ≠ 92) : isP c = true := (isP_iff c).2 h
set_option maxRecDepth 4000 in
theorem isP_f {c : Int} (h : ¬ (32 ≤ c ∧ c ≤ 126 ∧ c ≠ 34 ∧ c ≠ 92)) : isP c = false := decide_eq_false h

def Pure (v : Value) (w : World) (e : Ending) (w' : World) : Prop := e = .returned v ∧ w = w'
set_option maxRecDepth 4000 in
theorem pure_ret {v v' : Value} {w : World} (h : v' = v) : Pure v w (.returned v') w := ⟨by rw [h], rfl⟩
set_option maxRecDepth 4000 in
theorem Pure.quiet {v : Value} {w : World} {e : Ending} {w' : World} (h : Pure v w e w') : Quiet v w e w' := ⟨h.1, 0, h.2.symm⟩

set_option maxRecDepth 4000 in
theorem sameL_ne_len {l m : List Int} (h : l.length ≠ m.length) : sameL l m = false := by
  unfold sameL; exact decide_eq_false fun e => h (by rw [e])
set_option maxRecDepth 4000 in
theorem sameL_ne_at {l m : List Int} {k : Nat} (h : atL l k ≠ atL m k) : sameL l m = false := by
  unfold sameL; exact decide_eq_false fun e => h (by rw [e])
set_option maxRecDepth 4000 in
theorem sameL_yes {l m : List Int} (hl : l.length = m.length) (h : ∀ k, k < l.length → atL l k = atL m k) : sameL l m = true := by
  unfold sameL
  refine decide_eq_true (List.ext_getElem hl fun i h1 h2 => ?_)
  have := h i h1
  rwa [atL_eq l i h1, atL_eq m i h2] at this
set_option maxRecDepth 4000 in
theorem sameL_self (l : List Int) : sameL l l = true := decide_eq_true rfl

end Go.Proofs.Ytjolmnghoigggaa
