/- The document's Fills. TableChecks answers true. -/
import Derived.Test.YtegaapeaeffgoaaARCheckWC
import Derived.Test.YtegaapeaeffgoaaJANames
import Derived.Test.YtegaapeaeffgoaaJARules
import Derived.Test.YtegaapeaeffgoaaJAForm2
import Derived.Test.YtegaapeaeffgoaaJAFormed2
import Derived.Test.YtegaapeaeffgoaaJAFew
import Derived.Test.YtegaapeaeffgoaaJAAsk2
import Derived.Test.YtegaapeaeffgoaaAForm
import Derived.Test.YtegaapeaeffgoaaJASeek
import Derived.Test.YtegaapeaeffgoaaJATextWC
import Derived.Test.YtegaapeaeffgoaaJPSpec
import Derived.Test.YtegaapeaeffgoaaProg
import Derived.WalkKit
import Derived.WalkLawsBesides
import Derived.WalkSpells
import Derived.LoopTactic
import Derived.Outline
import Derived.Deep.Draws
import Derived.Deep.QuietTactic
import Derived.BigQuiet
import Derived.Below
import Derived.Laws.OwnMore
import Derived.Laws.MakeOwn
import Derived.Maps.AppendAt
import Derived.Deep.AppendLies
import Derived.RegionTactic
import Derived.OwnWalk
import Derived.WideShapes
import Derived.IntWalk
import Derived.OrdersHeld
import Derived.Great.BuildSlice
import Derived.Great.FillDense
import Derived.Lib.AppendZeros
import Derived.Maps.OwnSet
import Derived.Maps.OwnOps
import Derived.Maps.StringElems
import Derived.Maps.RangeWalk
import Derived.Shelf.Lays
import Derived.Shelf.Sort.Plain
import Derived.Sort.OwnSorted
import Derived.Sort.KeysCollected
import Derived.Lib.MinMax
namespace Go.Proofs.Ytegaapeaeffgoaa
open Go.RowKit

set_option maxRecDepth 100000 in
set_option maxHeartbeats 8000000 in
theorem dfills_any {w : World} {c : ScC} {s : SchT} (h : ScAt w c s) (hfit : ∀ r ∈ allT s, FitR r) (hby : (s.rules.length + 1) * 112 ≤ 140737488355328) : Calls Try.prog 10 #[.agg c.row] w (Still (ansF s) w) := by
  have hb : Below w.heap.size w (w.alloc (.cells c.row 30)) := (Below.refl _ _).alloc (Nat.le_refl _) _
  have hv := VarR.new w 30 c.row
  obtain ⟨W0, hW⟩ : ∃ W0, w.alloc (.cells c.row 30) = W0 := ⟨_, rfl⟩
  rw [hW] at hb hv
  have HC := hd (rcheck_any (h.later hb) hfit hby)
  have HS := hd h
  have HBY := hd hby
  have HW := hd hW
  have HB := hd hb
  have V1 := hd hv
  clear h hfit hby hb hv hW
  cases hok : okSch s with
  | false =>
    have HX := hd (ans_no hok)
    rw [show ansE s = 12 by unfold ansE; rw [hok]; rfl] at HC
    clear hok
    go_enter Try.func10, Try.ntmps10
    go_upto_region 1 with fail
    rw [HW.out]
    go_wp2_with (first
      | ((with_reducible refine gd_load (ty := 30) (x := .tmp 1) ?_); refine wpList_load_row rowT_sch V1.out rfl _ rfl rfl rfl ?_)
      | (go_at_call 12; refine HC.out.mono ?_; rintro e9 w1 ⟨rfl, b9⟩; have HB := hd (step_b HB.out b9); clear b9))
    go_ret2
    exact ⟨tuple_ret HX.out.symm, HB.out⟩
  | true =>
    have HOK := hd hok
    rw [show ansE s = 0 by unfold ansE; rw [hok]; rfl] at HC
    have hA : okSchA s = true := by unfold okSch at hok; rw [Bool.and_eq_true] at hok; exact hok.1
    have hl := okA_rules hA
    have HAL := fun (W : World) (hb : Below w.heap.size w W) => hd (rall15_any (HS.out.later hb) HBY.out)
    clear hok hA
    go_enter Try.func10, Try.ntmps10
    go_upto_region 1 with fail
    rw [HW.out]
    go_wp2_with (first
      | ((with_reducible refine gd_load (ty := 30) (x := .tmp 1) ?_); refine wpList_load_row rowT_sch V1.out rfl _ rfl rfl rfl ?_)
      | (go_at_call 12; refine HC.out.mono ?_; rintro e9 w1 ⟨rfl, b9⟩; have V1 := hd (V1.out.keep b9); have HB := hd (step_b HB.out b9); clear b9)
      | (go_at_call 19; refine (HAL _ HB.out).out.mono ?_; rintro e9 w4 ⟨A4, n4, c4, ds, rfl, hn4, hu4, b9⟩; have HU := hd hu4; have HN4 := hd hn4; have V1 := hd (V1.out.keep b9); have HB := hd (step_b HB.out b9); clear hn4 hu4 b9))
    have hn33 : n4 ≤ 33 := by have h1 := HN4.out; simp [allT] at h1; omega
    go_loopw [5, 18] (fun v i wr => ∃ k : Nat, k ≤ n4 ∧ i = .int .i64 k ∧ v = .int .i64 (most0 s ((allT s).take k)) ∧ Hid (Below w4.heap.size w4 wr)) (fun _ i _ => n4 - (intOf i).toNat)
    case atStart => exact ⟨0, Nat.zero_le _, rfl, rfl, hd (Below.refl _ _)⟩
    case round =>
      obtain ⟨k, hk1, rfl, rfl, HB4⟩ := hrel
      have V1 := hd (V1.out.keep HB4.out)
      have HB := hd (step_b HB.out HB4.out)
      by_cases hlt : k < n4
      · have hlt2 : k < (allT s).length := by rw [HN4.out]; exact hlt
        have HRU := hd ((HU.out.later HB4.out).ru hlt2)
        obtain ⟨b, o, hR, hbl, hrg⟩ := (rowA_rules HN4.out (HU.out.later HB4.out)).2 k hlt
        obtain rfl : A4 = some ⟨b, o, none⟩ := hR
        obtain ⟨p, hp⟩ : ∃ p, ruAt ds k = p := ⟨_, rfl⟩
        simp only [hp] at hrg
        rw [hp] at HRU
        have HRG := hd hrg
        obtain ⟨x, hx⟩ := (check_fill HOK.out (show rulAt (allT s) k ∈ allT s by rw [rulAt_mem hlt2]; exact List.getElem_mem _)).2
        obtain ⟨W2, hW2⟩ : ∃ W2, wr.alloc (.cells p.row 27) = W2 := ⟨_, rfl⟩
        obtain ⟨g, hg⟩ : ∃ g, wr.heap.size = g := ⟨_, rfl⟩
        have hb2 : Below wr.heap.size wr W2 := hW2 ▸ (Below.refl _ _).alloc (Nat.le_refl _) _
        have V6 := hd (show VarR 27 W2 g p.row by rw [← hW2, ← hg]; exact VarR.new wr _ _)
        have V1 := hd (V1.out.keep hb2)
        have HB := hd (step_b HB.out hb2)
        have HBQ := hd (step_b HB4.out hb2)
        have HC := hd (show Calls Try.prog 24 #[.agg c.row, .agg p.row] W2 (Still (.tuple #[.int .i64 (x : Int), .bool true]) W2) from rfills_any (HS.out.later HB.out) (HRU.out.later hb2) (by omega) hx)
        have HW2 := hd hW2
        have HG := hd hg
        obtain ⟨M, hM⟩ : ∃ M, most0 s ((allT s).take k) = M := ⟨_, rfl⟩
        have HMX := hd (show most0 s ((allT s).take (k + 1)) = max M x by rw [most0_step hlt2, hM, hx]; rfl)
        rw [hM]
        clear hrg hb2 hW2 hg hbl hp hx hM
        go_upto_region 8 with (first
          | ((with_reducible refine gd_load (ty := 27) (x := .tmp 20) ?_); refine wpList_load_at rowT_rule (r := p.row) HRG.out rfl _ rfl rfl rfl ?_)
          | ((with_reducible refine gd_store (ty := 27) (x := .tmp 7) ?_); refine wpList_store_new rowT_rule (r := p.row) rfl rfl p.one _ _ rfl rfl rfl rfl rfl rfl ?_))
        rw [HW2.out, HG.out]
        go_wp2_with (first
          | ((with_reducible refine gd_load (ty := 30) (x := .tmp 1) ?_); refine wpList_load_row rowT_sch V1.out rfl _ rfl rfl rfl ?_)
          | ((with_reducible refine gd_load (ty := 27) (x := .tmp 7) ?_); refine wpList_load_row rowT_rule V6.out rfl _ rfl rfl rfl ?_)
          | (go_at_call 24; refine HC.out.mono ?_; rintro e9 w7 ⟨rfl, b9⟩; have HBQ := hd (step_b HBQ.out b9); clear b9))
        all_goals go_roundw
        all_goals first | exact ⟨k + 1, by omega, by go_num, int_eq (by rw [HMX.out]; omega), HBQ⟩ | (simp [intOf]; omega)
      · obtain rfl : k = n4 := by omega
        have HX := hd (show ansF s = .tuple #[.int .i64 (most0 s ((allT s).take k)), .int .i64 0] by
          rw [ans_yes HOK.out, List.take_of_length_le (by rw [HN4.out]; exact Nat.le_refl _)]
          rfl)
        go_wp2_with fail
        go_ret2
        exact ⟨tuple_ret HX.out.symm, HB.out⟩

end Go.Proofs.Ytegaapeaeffgoaa

namespace Go.Proofs.Ytegaapeaeffgoaa
open Go.RowKit

set_option maxRecDepth 100000 in
set_option maxHeartbeats 8000000 in
theorem checks_law {w : World} {c : ScC} {s : SchT} (h : ScAt w c s) (hfit : ∀ r ∈ allT s, FitR r) (hby : (s.rules.length + 1) * 112 ≤ 140737488355328) : Calls Try.prog 3 #[.agg c.row] w (AllTrue w) := by
  have hb : Below w.heap.size w (w.alloc (.cells c.row 30)) := (Below.refl _ _).alloc (Nat.le_refl _) _
  have hv := VarR.new w 30 c.row
  obtain ⟨W0, hW⟩ : ∃ W0, w.alloc (.cells c.row 30) = W0 := ⟨_, rfl⟩
  rw [hW] at hb hv
  obtain ⟨m, x, hF⟩ : ∃ m x : Int, ansF s = .tuple #[.int .i64 m, .int .i64 x] := ⟨_, _, rfl⟩
  obtain ⟨E, hE⟩ : ∃ E, ansE s = E := ⟨_, rfl⟩
  have HFW := fun (W : World) (hb : Below w.heap.size w W) => hd (few15_any (h.later hb) hby)
  have HFI := fun (W : World) (hb : Below w.heap.size w W) => hd (fills_any (h.later hb) hfit)
  have HFD := fun (W : World) (hb : Below w.heap.size w W) => hd (dfills_any (h.later hb) hfit hby)
  have HCK := fun (W : World) (hb : Below w.heap.size w W) => hd (check_any15 (h.later hb) hfit)
  have HCD := fun (W : World) (hb : Below w.heap.size w W) => hd (rcheck_any (h.later hb) hfit hby)
  simp only [hF] at HFI HFD
  simp only [hE] at HCK HCD
  have HW := hd hW
  have HB := hd hb
  have V1 := hd hv
  clear h hfit hby hb hv hW hF hE
  go_enter Try.func3, Try.ntmps3
  go_upto_region 1 with fail
  rw [HW.out]
  go_upto_region 7 with (first
    | (go_at_call 7; refine (live15_any _).mono ?_; rintro e9 w1 ⟨rfl, b9⟩; have V1 := hd (V1.out.keep b9); have HB := hd (step_b HB.out b9); clear b9)
    | ((with_reducible refine gd_load (ty := 30) (x := .tmp 1) ?_); refine wpList_load_row rowT_sch V1.out rfl _ rfl rfl rfl ?_)
    | (go_at_call 8; refine (HFW _ HB.out).out.mono ?_; rintro e9 w2 ⟨B, rfl, b9⟩; have V1 := hd (V1.out.keep b9); have HB := hd (step_b HB.out b9); clear b9)
    | (go_at_call 9; refine (HFI _ HB.out).out.mono ?_; rintro e9 w3 ⟨rfl, b9⟩; have V1 := hd (V1.out.keep b9); have HB := hd (step_b HB.out b9); clear b9)
    | (go_at_call 10; refine (HFD _ HB.out).out.mono ?_; rintro e9 w4 ⟨rfl, b9⟩; have V1 := hd (V1.out.keep b9); have HB := hd (step_b HB.out b9); clear b9))
  · go_ret
    exact ⟨rfl, HB.out⟩
  · have HV := hd (later_row V1.out)
    have HK1 := fun u : Later w4.heap.size w4 => HCK u.1 (step_b HB.out u.2)
    have HK2 := fun u : Later w4.heap.size w4 => HCD u.1 (step_b HB.out u.2)
    refine wp_region_later w4.heap.size (by kernel_rfl) (by kernel_rfl) ?_
    repeat (first
      | (go_big_quiet_want; (with_reducible refine gq_load (ty := 30) (x := .tmp 1) ?_); refine quiet_load rowT_sch (r := c.row) HV.out rfl _ rfl rfl ?_; go_big_quiet_on; simp only [Act.put, List.setIfInBounds_toArray, List.set_cons_succ, List.set_cons_zero])
      | go_big_quiet_step (first
          | (go_at_call 11; exact later_in (Nat.le_refl _) (HK1 _).out)
          | (go_at_call 12; exact later_in (Nat.le_refl _) (HK2 _).out)))
    refine wpQuiet_nil ?_
    intro w9 hu
    obtain ⟨⟨w10, hw10⟩, hw9⟩ := hu
    have e9 : w10 = w9 := hw9.symm
    subst e9
    have HB := hd (step_b HB.out hw10)
    clear hw9 hw10 HV HK1 HK2
    go_wp2_with fail
    all_goals (go_ret; exact ⟨rfl, HB.out⟩)

end Go.Proofs.Ytegaapeaeffgoaa
