/- The chapter's example. -/
import Derived.Test.YtnbcnljegkemiaaDoorGUnq2
namespace Go.Proofs.YtnbcnljegkemiaaDoor
open Go.RowKit

theorem live_str : quoR [97, 10, 34] = [34, 97, 92, 97, 59, 92, 50, 50, 59, 34] := by
  have h1 : hexL 10 = [97] := by rw [hexL_lt 10 (by omega)]; decide
  have h2 : hexL 34 = [50, 50] := by rw [hexL_ge 34 (by omega), hexL_lt (34 / 16) (by omega)]; decide
  have e : okR [97, 10, 34] = true := by decide
  unfold quoR
  rw [e]
  show 34 :: (bodyL [97, 10, 34] ++ [34]) = _
  have b1 : escL 97 = [97] := by decide
  have b2 : escL 10 = [92, 97, 59] := by
    unfold escL
    rw [if_neg (by decide), show (10 : Int).toNat = 10 from rfl, h1]; rfl
  have b3 : escL 34 = [92, 50, 50, 59] := by
    unfold escL
    rw [if_neg (by decide), show (34 : Int).toNat = 34 from rfl, h2]; rfl
  rw [bodyL_cons, bodyL_cons, bodyL_cons, b1, b2, b3]
  rfl

theorem live_any (w : World) (hT : Hid (Tab w)) : Calls Tryd.prog 9 #[] w (Still (.bool true) w) := by
  have hb1 : Below w.heap.size w (w.alloc (.cells (rv [97, 10, 34]).toArray 21)) := (Below.refl _ _).alloc (Nat.le_refl _) _
  have HT1 := hd (hT.out.below hb1)
  have hv := VL_new w 21 (rv [97, 10, 34])
  have HC := hd (quote_any (some ⟨w.heap.size, 0, none⟩) [97, 10, 34] 3 3 (w.alloc (.cells (rv [97, 10, 34]).toArray 21)) HT1 rfl (by omega) (hv.more (by simp)))
  clear hv
  go_enter Tryd.func9, Tryd.ntmps9
  go_wp2_with fail
  refine HC.out.mono ?_
  intro e w' hq
  obtain ⟨he, hb2⟩ := hq
  rw [live_str, show chkL [97, 10, 34] = 0 by decide] at he
  subst he
  have hb3 : Below w.heap.size w w' := hb1.trans (hb2.mono (by simp))
  have hs : (bs [34, 97, 92, 97, 59, 92, 50, 50, 59, 34]).toList = [34, 97, 92, 97, 59, 92, 50, 50, 59, 34] := bs_toList _
  go_wp2
  go_ret
  exact ⟨rfl, hb3⟩

end Go.Proofs.YtnbcnljegkemiaaDoor
