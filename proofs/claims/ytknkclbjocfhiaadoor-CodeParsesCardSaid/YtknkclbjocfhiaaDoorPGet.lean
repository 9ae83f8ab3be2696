/- Get answers the first property whose key is asked for; old memory stays as it was. -/
import Derived.Test.YtknkclbjocfhiaaDoorPChars
import Derived.Test.YtknkclbjocfhiaaDoorPMem
namespace Go.Proofs.YtknkclbjocfhiaaDoor
open Go.RowKit

theorem ret_get {a b : ByteArray} {p q : Bool} (h : a = b) (hp : p = q) : Ending.returned (.tuple #[.string a, .bool p]) = .returned (.tuple #[.string b, .bool q]) := by rw [h, hp]

set_option maxRecDepth 4000 in
theorem getF_hit (l : List Pr) (k : ByteArray) (n : Nat) (hn : n < l.length) (h0 : ∀ j, j < n → ((prAt l j).1.toList == k.toList) = false) (h : ((prAt l n).1.toList == k.toList) = true) : getF l k = some (prAt l n) := by
  unfold getF
  have e : l = (List.range l.length).map (prAt l) := by
    apply List.ext_getElem?
    intro i
    by_cases hi : i < l.length
    · simp [hi, prAt_eq l i hi]
    · simp [hi]
  have := find_first (prAt l) (fun p => p.1.toList == k.toList) l.length n hn h0 h
  rwa [← e] at this

set_option maxRecDepth 4000 in
theorem getF_miss (l : List Pr) (k : ByteArray) (h0 : ∀ j, j < l.length → ((prAt l j).1.toList == k.toList) = false) : getF l k = none := by
  unfold getF
  rw [List.find?_eq_none]
  intro p hp
  obtain ⟨j, hj, rfl⟩ := List.mem_iff_getElem.1 hp
  have := h0 j hj
  rw [prAt_eq l j hj] at this
  simpa using this

end Go.Proofs.YtknkclbjocfhiaaDoor
