/- All rules in a row: the program's (slices.Concat), the document's and the law's (append). -/
import Derived.Test.YtegaapeaeffgoaaJARules
import Derived.Test.YtegaapeaeffgoaaJAForm2
import Derived.Test.YtegaapeaeffgoaaAForm
import Derived.Test.YtegaapeaeffgoaaJASeek
import Derived.Test.YtegaapeaeffgoaaJAOpen2
import Derived.Test.YtegaapeaeffgoaaJPSpec
import Derived.Test.YtegaapeaeffgoaaJATextWW
import Derived.Deep.MidRow
import Derived.ProofKit
import Derived.Deep.Slices
import Derived.Laws.Strings
import Derived.IntWalk
import Derived.Laws.AppendOwnNone
import Derived.Lib.AppendZeros
import Derived.Lib.SliceRun
import Derived.StillTailTactics
import Derived.Deep.Cut
import Derived.Deep.RegionHeld3
import Derived.Deep.RegionLaw
import Derived.BigRegion
import Derived.Laws.Tables
import Derived.Shelf.Abstract
import Derived.BigQuiet
import Derived.Deep.QuietTactic
import Derived.Laws.IdiomStrings
import Derived.Deep.AppendLies
import Derived.Deep.DeepCutAuto
import Derived.Deep.CutBlock
import Derived.OrdersHeld
import Derived.Great.BuildSlice
import Derived.Great.FillDense
namespace Go.Proofs.Ytegaapeaeffgoaa
open Go.RowKit
/-! The document's and the law's: append(append(nil, ..), ..). -/
set_option maxRecDepth 100000 in
set_option maxHeartbeats 8000000 in
theorem lall15_any {w : World} {c : ScC} {s : SchT} (h : ScAt w c s) (hby : (s.rules.length + 1) * 112 ≤ 140737488355328) : Calls Try.prog 14 #[.agg c.row] w (NewU w (allT s)) := by
  obtain ⟨R, nr, cr, e, o1, o2, o3, o4, o5, o6, cap⟩ := c
  have hb : Below w.heap.size w (w.alloc (.cells (ScC.mk R nr cr e o1 o2 o3 o4 o5 o6 cap).row 30)) := (Below.refl _ _).alloc (Nat.le_refl _) _
  have hv := VarR.new w 30 (ScC.mk R nr cr e o1 o2 o3 o4 o5 o6 cap).row
  obtain ⟨W0, hW⟩ : ∃ W0, w.alloc (.cells (ScC.mk R nr cr e o1 o2 o3 o4 o5 o6 cap).row 30) = W0 := ⟨_, rfl⟩
  rw [hW] at hb hv
  obtain ⟨cs, hcs⟩ := h.rules
  have hN : s.rules.length = nr := h.len
  have HL := hd hcs
  have HE := hd (show RuAt w e s.els from h.els)
  have HN := hd hN
  have hby2 : (nr + 1) * 112 ≤ 140737488355328 := hN ▸ hby
  have HW := hd hW
  have HSS := hd (show Below w.heap.size w W0.drew ∧ VarR 30 W0.drew w.heap.size (ScC.mk R nr cr e o1 o2 o3 o4 o5 o6 cap).row from ⟨hb.drew, hv⟩)
  clear h hby hb hv hW hcs hN
  go_enter Try.func14, Try.ntmps14
  go_upto_region 1 with fail
  rw [HW.out]
  refine Y_start (S := fun W' => Below w.heap.size w W' ∧ VarR 30 W' w.heap.size (ScC.mk R nr cr e o1 o2 o3 o4 o5 o6 cap).row) (z := fun i => decide (7 ≤ i)) (by kernel_rfl) ?_
  refine Y_take (i := 0) (n := 7) (.pointer (some ⟨w.heap.size, 0, none⟩)) rfl (by kernel_rfl) (by kernel_rfl) (by kernel_rfl) (by kernel_rfl) (fun _ _ _ h => h) (by rfl) (fun W9 hW9 => ?_) HSS.out ?_
  · go_simp
  simp only [Act.put, List.setIfInBounds_toArray, List.set_cons_succ, List.set_cons_zero, List.getElem_toArray, List.getElem_cons_zero]
  refine Y_take (i := 1) (n := 6) (.slice R nr cr) rfl (by kernel_rfl) (by kernel_rfl) (by kernel_rfl) (by kernel_rfl) (fun _ _ _ h => h) (by rfl) (fun W9 hW9 => ?_) HSS.out ?_
  · have l0 : W9.cell? ⟨w.heap.size, 0, none⟩ = some (.slice R nr cr) := hW9.2.cell 0 _ rfl
    clear hW9
    go_simp
  simp only [Act.put, List.setIfInBounds_toArray, List.set_cons_succ, List.set_cons_zero, List.getElem_toArray, List.getElem_cons_succ, List.getElem_cons_zero]
  refine Y_take (i := 3) (n := 5) (.pointer (some ⟨w.heap.size, 1, none⟩)) rfl (by kernel_rfl) (by kernel_rfl) (by kernel_rfl) (by kernel_rfl) (fun _ _ _ h => h) (by rfl) (fun W9 hW9 => ?_) HSS.out ?_
  · go_simp
  simp only [Act.put, List.setIfInBounds_toArray, List.set_cons_succ, List.set_cons_zero, List.getElem_toArray, List.getElem_cons_succ, List.getElem_cons_zero]
  refine Y_take (i := 4) (n := 4) (.agg e.row) rfl (by kernel_rfl) (by kernel_rfl) (by kernel_rfl) (by kernel_rfl) (fun _ _ _ h => h) (by rfl) (fun W9 hW9 => ?_) HSS.out ?_
  · exact exec_load_at rowT_rule (hW9.2.range 1 _ (ScC.els_at ⟨R, nr, cr, e, o1, o2, o3, o4, o5, o6, cap⟩)) rfl _ rfl rfl
  simp only [Act.put, List.setIfInBounds_toArray, List.set_cons_succ, List.set_cons_zero, List.getElem_toArray, List.getElem_cons_succ, List.getElem_cons_zero]
  refine Y_two (i := 2) (j := 5) (n := 3) (by kernel_rfl) rfl rfl (fun K hK => ?_) (fun K hK => ?_)
  · refine step_append_G0 ruleG _ rfl _ _ rfl w.heap.size rfl R nr cr _ (cellsU cs) rfl (by rw [cellsU_len, HL.out.hl, HN.out]) (HL.out.later HSS.out.1).hv (cellsU_all _) (by unfold maxLen; omega) (by omega) HSS.out.1.size (fun A1 c1 w1 o1 b1 at1 => ?_)
    have HS := hd (step_b HSS.out.1 b1)
    have HV2 := hd (HSS.out.2.keep b1)
    have HLT := hd (show w.heap.size < W0.drew.heap.size from HSS.out.2.lt)
    refine hK _ _ (fun _ => ⟨HS.out, HV2.out⟩) ?_
    clear hK K
    simp only [Act.put, List.setIfInBounds_toArray, List.set_cons_succ, List.set_cons_zero, List.getElem_toArray, List.getElem_cons_succ, List.getElem_cons_zero]
    refine Y_one (i := 5) (n := 2) (by kernel_rfl) rfl (fun K hK => ?_)
    refine step_build_rule (c := e) _ rfl rfl rfl ?_
    have o1 := o1.alloc (.cells e.row 27)
    have hvo := one_rule w1 e
    have HS := hd (HS.out.alloc HS.out.size (.cells e.row 27))
    have HV2 := hd (HV2.out.alloc (.cells e.row 27))
    refine hK _ _ (fun _ => ⟨HS.out, HV2.out⟩) ?_
    clear hK K
    simp only [Act.put, List.setIfInBounds_toArray, List.set_cons_succ, List.set_cons_zero, List.getElem_toArray, List.getElem_cons_succ, List.getElem_cons_zero]
    refine Y_one (i := 6) (n := 1) (by kernel_rfl) rfl (fun K hK => ?_)
    refine step_append_GX ruleG _ rfl _ _ rfl w.heap.size (.slice A1 nr c1) nr (cellsU cs) rfl o1 _ 1 1 _ (cellsU [e]) rfl (by rw [cellsU_len]; rfl) hvo (cellsU_all _) (by unfold maxLen; omega) (by omega) HS.out.size (fun A2 c2 w2 o2 g2 at2 => ?_)
    have HS2 := hd (show Below w.heap.size w w2 from agrown_below HS.out g2 (fun j hj => (o1.lt j hj).1))
    have HV := hd (arow_vl o2)
    refine hK _ _ (fun _ => ⟨HS2.out, (g2.block _ HV2.out.lt (fun e => by
      rcases at1 with h | ⟨q, h, hq⟩
      · rw [h] at e; cases e
      · rw [h] at e
        injection e with e
        have h3 := HLT.out
        omega)).trans HV2.out⟩) ?_
    clear hK K o1 o2 g2 at2 hvo
    simp only [Act.put, List.setIfInBounds_toArray, List.set_cons_succ, List.set_cons_zero, List.getElem_toArray, List.getElem_cons_succ, List.getElem_cons_zero]
    refine Y_one (i := 7) (n := 0) (by kernel_rfl) rfl (fun K hK => ?_)
    rw [if_pos (by rfl)]
    go_simp
    refine hK _ _ (fun h => by cases h) (Y_done (by kernel_rfl) ?_)
    clear hK K
    go_wp2_with fail
    go_ret
    refine ⟨A2, nr + 1, c2, cs ++ [e], rfl, by simp [allT, HN.out], ?_, HS2.out⟩
    exact (HL.out.later HS2.out).more (HE.out.later HS2.out) (by rw [cellsU_app]; exact HV.out.2)
  · refine step_build_rule (c := e) _ rfl rfl rfl ?_
    have HS := hd (HSS.out.1.alloc HSS.out.1.size (.cells e.row 27))
    have HV2 := hd (HSS.out.2.alloc (.cells e.row 27))
    have hvo := one_rule W0.drew e
    refine hK _ _ (fun _ => ⟨HS.out, HV2.out⟩) ?_
    clear hK K
    simp only [Act.put, List.setIfInBounds_toArray, List.set_cons_succ, List.set_cons_zero, List.getElem_toArray, List.getElem_cons_succ, List.getElem_cons_zero]
    refine Y_one (i := 2) (n := 2) (by kernel_rfl) rfl (fun K hK => ?_)
    refine step_append_G0 ruleG _ rfl _ _ rfl w.heap.size rfl R nr cr _ (cellsU cs) rfl (by rw [cellsU_len, HL.out.hl, HN.out]) (HL.out.later HS.out).hv (cellsU_all _) (by unfold maxLen; omega) (by omega) HS.out.size (fun A1 c1 w1 o1 b1 at1 => ?_)
    have HS := hd (step_b HS.out b1)
    have hvo := hvo.later b1
    have HLT := hd (show w.heap.size < (W0.drew.alloc (.cells e.row 27)).heap.size from HV2.out.lt)
    have HV2 := hd (HV2.out.keep b1)
    refine hK _ _ (fun _ => ⟨HS.out, HV2.out⟩) ?_
    clear hK K
    simp only [Act.put, List.setIfInBounds_toArray, List.set_cons_succ, List.set_cons_zero, List.getElem_toArray, List.getElem_cons_succ, List.getElem_cons_zero]
    refine Y_one (i := 6) (n := 1) (by kernel_rfl) rfl (fun K hK => ?_)
    refine step_append_GX ruleG _ rfl _ _ rfl w.heap.size (.slice A1 nr c1) nr (cellsU cs) rfl o1 _ 1 1 _ (cellsU [e]) rfl (by rw [cellsU_len]; rfl) hvo (cellsU_all _) (by unfold maxLen; omega) (by omega) HS.out.size (fun A2 c2 w2 o2 g2 at2 => ?_)
    have HS2 := hd (show Below w.heap.size w w2 from agrown_below HS.out g2 (fun j hj => (o1.lt j hj).1))
    have HV := hd (arow_vl o2)
    refine hK _ _ (fun _ => ⟨HS2.out, (g2.block _ HV2.out.lt (fun e => by
      rcases at1 with h | ⟨q, h, hq⟩
      · rw [h] at e; cases e
      · rw [h] at e
        injection e with e
        have h3 := HLT.out
        omega)).trans HV2.out⟩) ?_
    clear hK K o1 o2 g2 at2 hvo
    simp only [Act.put, List.setIfInBounds_toArray, List.set_cons_succ, List.set_cons_zero, List.getElem_toArray, List.getElem_cons_succ, List.getElem_cons_zero]
    refine Y_one (i := 7) (n := 0) (by kernel_rfl) rfl (fun K hK => ?_)
    rw [if_pos (by rfl)]
    go_simp
    refine hK _ _ (fun h => by cases h) (Y_done (by kernel_rfl) ?_)
    clear hK K
    go_wp2_with fail
    go_ret
    refine ⟨A2, nr + 1, c2, cs ++ [e], rfl, by simp [allT, HN.out], ?_, HS2.out⟩
    exact (HL.out.later HS2.out).more (HE.out.later HS2.out) (by rw [cellsU_app]; exact HV.out.2)

end Go.Proofs.Ytegaapeaeffgoaa
