/- The chapter's example. -/
import Derived.Test.YtknkclbjocfhiaaDoorGUnq2
namespace Go.Proofs.YtknkclbjocfhiaaDoor
open Go.RowKit

theorem live_str : quoR [97, 10, 34] = [34, 97, 92, 97, 59, 92, 50, 50, 59, 34] := by
  have h1 : hexL 10 = [97] := by rw [hexL_lt 10 (by omega)]; decide
  have h2 : hexL 34 = [50, 50] := by rw [hexL_ge 34 (by omega), hexL_lt (34 / 16) (by omega)]; decide
  have e : okR [97, 10, 34] = true := by decide
  unfold quoR
  rw [e]
  show 34 :: (bodyL [97, 10, 34] ++ [34]) = _
  have b1 : escL 97 = [97] := by decide
  have b2 : escL 10 = [92, 97, 59] := by
    unfold escL
    rw [if_neg (by decide), show (10 : Int).toNat = 10 from rfl, h1]; rfl
  have b3 : escL 34 = [92, 50, 50, 59] := by
    unfold escL
    rw [if_neg (by decide), show (34 : Int).toNat = 34 from rfl, h2]; rfl
  rw [bodyL_cons, bodyL_cons, bodyL_cons, b1, b2, b3]
  rfl

end Go.Proofs.YtknkclbjocfhiaaDoor
