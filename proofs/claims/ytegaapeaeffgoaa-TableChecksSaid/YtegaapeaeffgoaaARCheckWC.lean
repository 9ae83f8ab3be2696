/- The document's Check. -/
import Derived.Test.YtegaapeaeffgoaaARWrapsWC
import Derived.Test.YtegaapeaeffgoaaJANames
import Derived.Test.YtegaapeaeffgoaaJARules
import Derived.Test.YtegaapeaeffgoaaJAForm2
import Derived.Test.YtegaapeaeffgoaaJAFormed2
import Derived.Test.YtegaapeaeffgoaaJAAsk2
import Derived.Test.YtegaapeaeffgoaaAForm
import Derived.Test.YtegaapeaeffgoaaJASeek
import Derived.Test.YtegaapeaeffgoaaJATextWC
import Derived.Test.YtegaapeaeffgoaaJPSpec
import Derived.Test.YtegaapeaeffgoaaProg
import Derived.WalkKit
import Derived.WalkLawsBesides
import Derived.WalkSpells
import Derived.LoopTactic
import Derived.Outline
import Derived.Deep.Draws
import Derived.Deep.QuietTactic
import Derived.BigQuiet
import Derived.Below
import Derived.Laws.OwnMore
import Derived.Laws.MakeOwn
import Derived.Maps.AppendAt
import Derived.Deep.AppendLies
import Derived.RegionTactic
import Derived.OwnWalk
import Derived.WideShapes
import Derived.IntWalk
import Derived.OrdersHeld
import Derived.Great.BuildSlice
import Derived.Great.FillDense
import Derived.Lib.AppendZeros
import Derived.Maps.OwnSet
import Derived.Maps.OwnOps
import Derived.Maps.StringElems
import Derived.Maps.RangeWalk
import Derived.Shelf.Lays
import Derived.Shelf.Sort.Plain
import Derived.Sort.OwnSorted
import Derived.Sort.KeysCollected
import Derived.Lib.MinMax
namespace Go.Proofs.Ytegaapeaeffgoaa
open Go.RowKit

theorem ansA_no15 {s : SchT} (h : okSchA s = false) : ansE s = 12 := by unfold ansE okSch; rw [h]; rfl
set_option maxRecDepth 4000 in
theorem ansZ_no15 {s : SchT} (h : okSchZ s = false) : ansE s = 12 := by unfold ansE okSch; rw [h, Bool.and_false]; rfl
set_option maxRecDepth 4000 in
theorem ans_yes15 {s : SchT} (h : okSchA s = true) (hz : okSchZ s = true) : ansE s = 0 := by unfold ansE okSch; rw [h, hz]; rfl
set_option maxRecDepth 4000 in
theorem ret_int15 {a b : Int} (h : a = b) : Ending.returned (.int .i64 a) = Ending.returned (.int .i64 b) := by rw [h]
set_option maxRecDepth 4000 in
theorem rowT_arr : RowT 28 6 := ⟨.array 6 3, by kernel_rfl, rfl, by kernel_rfl⟩
def arrQ (c : ScC) : Array Value := #[.int .i64 (ordQ c 0), .int .i64 (ordQ c 1), .int .i64 (ordQ c 2), .int .i64 (ordQ c 3), .int .i64 (ordQ c 4), .int .i64 (ordQ c 5)]
set_option maxRecDepth 4000 in
theorem arr_at {w : World} {g : Nat} {c : ScC} (h : VarR 30 w g c.row) : w.rangeAt g 9 (arrQ c).toList := fun j v hj => by
  match j, hj with
  | 0, hj => cases hj; exact ordQ_cell h (k := 0) (by omega)
  | 1, hj => cases hj; exact ordQ_cell h (k := 1) (by omega)
  | 2, hj => cases hj; exact ordQ_cell h (k := 2) (by omega)
  | 3, hj => cases hj; exact ordQ_cell h (k := 3) (by omega)
  | 4, hj => cases hj; exact ordQ_cell h (k := 4) (by omega)
  | 5, hj => cases hj; exact ordQ_cell h (k := 5) (by omega)
  | n + 6, hj => simp [arrQ] at hj
set_option maxRecDepth 100000 in
theorem run_index6 (c : ScC) {j : Nat} (hj : j < 6) (W : World) : (Instr.index 28 (.agg (arrQ c)) (.int .i64 (j : Int))).run Try.prog W = .ok (.int .i64 (ordQ c j)) W := by
  match j, hj with
  | 0, _ => rfl
  | 1, _ => rfl
  | 2, _ => rfl
  | 3, _ => rfl
  | 4, _ => rfl
  | 5, _ => rfl
set_option maxRecDepth 4000 in
theorem count_step {l : List Int} {c : ScC} (h : l = [ordQ c 0, ordQ c 1, ordQ c 2, ordQ c 3, ordQ c 4, ordQ c 5]) {j : Nat} (hj : j < 6) (k : Int) : (l.take (j + 1)).count k = (l.take j).count k + if (ordQ c j == k) = true then 1 else 0 := by
  have hg : l[j]? = some (ordQ c j) := by
    rw [h]
    match j, hj with
    | 0, _ => rfl
    | 1, _ => rfl
    | 2, _ => rfl
    | 3, _ => rfl
    | 4, _ => rfl
    | 5, _ => rfl
  rw [List.take_add_one, hg, List.count_append]
  simp [List.count_cons]
set_option maxRecDepth 4000 in
theorem order_no15 {l : List Int} {k : Nat} (h1 : 1 ≤ k) (h6 : k ≤ 6) (h : l.count (k : Int) ≠ 1) : orderT l = false := by
  have hm : (k : Int) ∈ ([1, 2, 3, 4, 5, 6] : List Int) := by
    have : k = 1 ∨ k = 2 ∨ k = 3 ∨ k = 4 ∨ k = 5 ∨ k = 6 := by omega
    rcases this with rfl | rfl | rfl | rfl | rfl | rfl <;> simp
  exact all_failsW hm (by simpa using h)
set_option maxRecDepth 4000 in
theorem order_yes15 {l : List Int} (h : ∀ j : Nat, j < 7 → (1 ≤ j → l.count (j : Int) = 1)) : orderT l = true := by
  have h1 := h 1 (by omega) (by omega)
  have h2 := h 2 (by omega) (by omega)
  have h3 := h 3 (by omega) (by omega)
  have h4 := h 4 (by omega) (by omega)
  have h5 := h 5 (by omega) (by omega)
  have h6 := h 6 (by omega) (by omega)
  unfold orderT
  simp only [List.all_cons, List.all_nil, Bool.and_true, Bool.and_eq_true, beq_iff_eq]
  exact ⟨h1, h2, h3, h4, h5, h6⟩
set_option maxRecDepth 4000 in
theorem rules_fails {l : List RuleT} {k : Nat} (hk : k < l.length) (h : stepN l k = false) : rulesOk l = false := all_failsW (List.mem_range.2 hk) h
set_option maxRecDepth 4000 in
theorem rules_all {l : List RuleT} (h : ∀ j, j < l.length → stepN l j = true) : rulesOk l = true := List.all_eq_true.2 fun j hj => h j (List.mem_range.1 hj)
set_option maxRecDepth 100000 in
set_option maxHeartbeats 16000000 in
theorem rcheck_any {w : World} {c : ScC} {s : SchT} (h : ScAt w c s) (hfit : ∀ r ∈ allT s, FitR r) (hby : (s.rules.length + 1) * 112 ≤ 140737488355328) : Calls Try.prog 12 #[.agg c.row] w (Still (.int .i64 (ansE s)) w) := by
  obtain ⟨R, nr, cr, e, o1, o2, o3, o4, o5, o6, cap⟩ := c
  obtain ⟨C, hC⟩ : ∃ C, C = ScC.mk R nr cr e o1 o2 o3 o4 o5 o6 cap := ⟨_, rfl⟩
  rw [← hC] at h ⊢
  have hb : Below w.heap.size w (w.alloc (.cells C.row 30)) := (Below.refl _ _).alloc (Nat.le_refl _) _
  have hv := VarR.new w 30 C.row
  obtain ⟨W0, hW⟩ : ∃ W0, w.alloc (.cells C.row 30) = W0 := ⟨_, rfl⟩
  rw [hW] at hb hv
  have HC := hd hC
  have HS := hd h
  have HBY := hd hby
  have HN := hd (show s.rules.length = nr by rw [h.len, hC])
  have HORD := hd (show s.order = [ordQ C 0, ordQ C 1, ordQ C 2, ordQ C 3, ordQ C 4, ordQ C 5] from h.hord)
  have HCAP := hd (show s.cap = cap by rw [h.hcap, hC])
  have HEL := hd (show s.els.ty = e.ty by rw [h.els.hty, hC])
  obtain ⟨cs, hcs⟩ := h.rules
  have HCS := hd (show LU w R cs s.rules by rw [hC] at hcs; exact hcs)
  have HFIT := hd hfit
  have HW := hd hW
  have HB := hd hb
  have V1 := hd hv
  have l0 : W0.cell? ⟨w.heap.size, 0, none⟩ = some (.slice R nr cr) := hv.cell 0 _ (by rw [hC]; rfl)
  have l1 : W0.cell? ⟨w.heap.size, 1, none⟩ = some (.string e.ty) := hv.cell 1 _ (by rw [hC]; rfl)
  have l15 : W0.cell? ⟨w.heap.size, 15, none⟩ = some (.int .i64 cap) := hv.cell 15 _ (by rw [hC]; rfl)
  clear h hfit hby hb hv hW hcs hC
  by_cases h32 : (32 : Int) < (nr : Int)
  · have HX := hd (ansA_no15 (s := s) (by unfold okSchA; rw [HN.out, dec_no (show ¬ nr ≤ 32 by omega)]; rfl))
    go_enter Try.func12, Try.ntmps12
    go_upto_region 1 with fail
    rw [HW.out]
    go_wp2_with fail
    all_goals (go_ret; exact ⟨ret_int15 HX.out.symm, HB.out⟩)
  · have d32 : decide ((32 : Int) < (nr : Int)) = false := dec_no h32
    by_cases hx0 : e.ty = noN
    · have HE0 := hd (show emptyN s.els.ty = true by rw [HEL.out, hx0]; unfold emptyN; rw [noN_list]; rfl)
      have l1b : W0.cell? ⟨w.heap.size, 1, none⟩ = some (.string ⟨#[]⟩) := by rw [show (⟨#[]⟩ : Nm) = e.ty from hx0.symm]; exact l1
      clear hx0 l1
      by_cases hc1 : cap < 1
      · have HX := hd (ansA_no15 (s := s) (by unfold okSchA; rw [HCAP.out, dec_no (show ¬ 1 ≤ cap by omega)]; simp))
        go_enter Try.func12, Try.ntmps12
        go_upto_region 1 with fail
        rw [HW.out]
        go_wp2_with fail
        all_goals (go_ret; exact ⟨ret_int15 HX.out.symm, HB.out⟩)
      · have dc1 : decide (cap < 1) = false := dec_no hc1
        by_cases hc2 : 1048576 < cap
        · have HX := hd (ansA_no15 (s := s) (by unfold okSchA; rw [HCAP.out, dec_no (show ¬ cap ≤ 1048576 by omega)]; simp))
          go_enter Try.func12, Try.ntmps12
          go_upto_region 1 with fail
          rw [HW.out]
          go_wp2_with fail
          all_goals (go_ret; exact ⟨ret_int15 HX.out.symm, HB.out⟩)
        · have dc2 : decide (1048576 < cap) = false := dec_no hc2
          have HOA := hd (show okSchA s = (orderT s.order && (rulesOk s.rules && (allT s).all ruleOk)) by
            unfold okSchA
            rw [HE0.out, HCAP.out, HN.out, decide_eq_true (show nr ≤ 32 by omega), decide_eq_true (show 1 ≤ cap by omega), decide_eq_true (show cap ≤ 1048576 by omega)]
            rfl)
          have hnr : nr ≤ 32 := by omega
          go_enter Try.func12, Try.ntmps12
          go_upto_region 1 with fail
          rw [HW.out]
          go_wp2_with fail
          clear l0 l1b l15 hc1 hc2 h32 d32 dc1 dc2
          go_loopw [3] (fun v wr => ∃ k : Nat, 1 ≤ k ∧ k ≤ 7 ∧ v = .int .i64 k ∧ Hid (∀ j, j < k → (1 ≤ j → s.order.count (j : Int) = 1)) ∧ Hid (Below W0.heap.size W0 wr)) (fun v _ => 7 - (intOf v).toNat)
          case atStart => exact ⟨1, by omega, by omega, rfl, hd (fun j h1 h2 => by omega), hd (Below.refl _ _)⟩
          case round =>
            obtain ⟨k, hk1, hk7, rfl, HA, HBR⟩ := hrel
            by_cases hlt : k ≤ 6
            · have HARR := hd (arr_at (V1.out.keep HBR.out))
              go_wp2_with ((with_reducible refine gd_load (ty := 28) (x := .tmp 39) ?_); refine wpList_load_at rowT_arr (r := arrQ C) HARR.out rfl _ rfl rfl rfl ?_)
              clear HARR
              go_loopw [4, 41] (fun v i wz => ∃ j : Nat, j ≤ 6 ∧ i = .int .i64 j ∧ v = .int .i64 (((s.order.take j).count (k : Int) : Nat) : Int) ∧ Hid (Below W0.heap.size W0 wz)) (fun _ i _ => 6 - (intOf i).toNat)
              case atStart => exact ⟨0, by omega, rfl, rfl, HBR⟩
              case round =>
                obtain ⟨j, hj1, rfl, rfl, HBz⟩ := hrel
                clear HBR
                obtain ⟨M, hM⟩ : ∃ M, (s.order.take j).count (k : Int) = M := ⟨_, rfl⟩
                have hM6 : M ≤ 6 := by
                  rw [← hM]
                  refine Nat.le_trans List.count_le_length ?_
                  rw [List.length_take]
                  omega
                by_cases hj : j < 6
                · have hix := run_index6 C hj wr
                  have hct := count_step HORD.out hj (k : Int)
                  rw [hM] at hct ⊢
                  cases he : (ordQ C j == (k : Int))
                  · have HC1 := hd (show (s.order.take (j + 1)).count (k : Int) = M by rw [hct, he]; rfl)
                    clear hct hM
                    go_wp2_with fail
                    go_roundw
                    case rel => exact ⟨j + 1, by omega, by go_num, by rw [HC1.out], HBz⟩
                    case measure => simp [intOf]; omega
                  · have HC1 := hd (show (s.order.take (j + 1)).count (k : Int) = M + 1 by rw [hct, he]; rfl)
                    clear hct hM
                    go_wp2_with fail
                    go_roundw
                    case rel => exact ⟨j + 1, by omega, by go_num, by rw [HC1.out]; go_num, HBz⟩
                    case measure => simp [intOf]; omega
                · obtain rfl : j = 6 := by omega
                  have HM := hd (show s.order.count (k : Int) = M by
                    rw [← hM, List.take_of_length_le (by rw [HORD.out]; exact Nat.le_refl _)])
                  rw [hM]
                  clear hM
                  by_cases hm1 : M = 1
                  · subst hm1
                    have HA1 := one_more (p := fun j => 1 ≤ j → s.order.count (j : Int) = 1) HA (fun _ => HM.out)
                    clear HA
                    go_wp2_with fail
                    go_roundw
                    case rel => exact ⟨k + 1, by omega, by omega, by go_num, HA1, HBz⟩
                    case measure => simp [intOf]; omega
                  · have e1 : ((M : Int) == 1) = false := by simp; omega
                    have HX := hd (ansA_no15 (s := s) (by rw [HOA.out, order_no15 hk1 hlt (by rw [HM.out]; exact hm1)]; rfl))
                    go_wp2_with fail
                    go_ret
                    exact ⟨ret_int15 HX.out.symm, step_b HB.out HBz.out⟩
            · obtain rfl : k = 7 := by omega
              have HOT := hd (order_yes15 HA.out)
              rw [HOT.out, Bool.true_and] at HOA
              have l0 : wr.cell? ⟨w.heap.size, 0, none⟩ = some (.slice R nr cr) := (V1.out.keep HBR.out).cell 0 _ (by rw [HC.out]; rfl)
              clear HA HOT
              go_wp2_with fail
              clear l0
              go_loopw [55] (fun i wr => ∃ k : Nat, k ≤ nr ∧ i = .int .i64 k ∧ Hid (∀ j, j < k → stepN s.rules j = true) ∧ Hid (Below W0.heap.size W0 wr)) (fun i _ => nr - (intOf i).toNat)
              case atStart => exact ⟨0, Nat.zero_le _, rfl, hd (fun j hj => absurd hj (Nat.not_lt_zero _)), HBR⟩
              case round =>
                clear HBR
                obtain ⟨k, hk1, rfl, HA, HBR⟩ := hrel
                by_cases hlt : k < nr
                · have hlt2 : k < s.rules.length := by rw [HN.out]; exact hlt
                  have HBF := hd (step_b HB.out HBR.out)
                  have HRU := hd ((HCS.out.later HBF.out).ru hlt2)
                  obtain ⟨b, o, hR, hbl, hrg⟩ := (rowA_rules HN.out (HCS.out.later HBF.out)).2 k hlt
                  subst hR
                  obtain ⟨p, hp⟩ : ∃ p, ruAt cs k = p := ⟨_, rfl⟩
                  simp only [hp] at hrg
                  rw [hp] at HRU
                  have HRG := hd hrg
                  have HP := hd (show (rulAt s.rules k).ty = p.ty from HRU.out.hty)
                  have HFT := hd (show FitN1 p.ty by have := HRU.out.fit.ty; rw [HP.out] at this; exact this)
                  obtain ⟨W2, hW2⟩ : ∃ W2, wr.alloc (.cells p.row 27) = W2 := ⟨_, rfl⟩
                  have hb2 : Below wr.heap.size wr W2 := hW2 ▸ (Below.refl _ _).alloc (Nat.le_refl _) _
                  have hv2 : VarR 27 W2 wr.heap.size p.row := hW2 ▸ VarR.new wr 27 p.row
                  have HBR := hd (step_b HBR.out hb2)
                  have V1q := V1.out.keep HBR.out
                  have u0 := later_cell (hv2.cell 0 (.string p.ty) rfl)
                  have u5 := later_cell (V1q.cell 0 (.slice (some ⟨b, o, none⟩) nr cr) (by rw [HC.out]; rfl))
                  have HW2 := hd hW2
                  obtain ⟨v, hnm⟩ : ∃ v, nameT p.ty = v := ⟨_, rfl⟩
                  have HNM := hd hnm
                  clear hp hv2 hW2 hrg V1q
                  cases v with
                  | false =>
                    have HX := hd (ansA_no15 (s := s) (by rw [HOA.out, rules_fails hlt2 (by unfold stepN; rw [HP.out, hnm]; rfl)]; rfl))
                    clear hnm HA hb2 hbl
                    go_upto_region 18 with (first
                      | ((with_reducible refine gd_load (ty := 27) (x := .tmp 58) ?_); refine wpList_load_at rowT_rule (r := p.row) HRG.out rfl _ rfl rfl rfl ?_)
                      | ((with_reducible refine gd_store (ty := 27) (x := .tmp 8) ?_); refine wpList_store_new rowT_rule (r := p.row) rfl rfl p.one _ _ rfl rfl rfl rfl rfl rfl ?_))
                    rw [HW2.out]
                    refine wp_region_later W2.heap.size (by kernel_rfl) (by kernel_rfl) ?_
                    repeat (go_big_quiet_step (first
                      | (go_at_call 25; exact later_in (Nat.le_refl _) (rname_any HFT.out HNM.out _))))
                    refine wpQuiet_nil ?_
                    intro w9 hu
                    obtain ⟨⟨w10, hw10⟩, hw9⟩ := hu
                    have e9 : w10 = w9 := hw9.symm
                    subst e9
                    have HBR := hd (step_b HBR.out hw10)
                    clear hw9 hw10 u0 u5
                    go_wp2_with fail
                    go_ret
                    exact ⟨ret_int15 HX.out.symm, step_b HB.out HBR.out⟩
                  | true =>
                    by_cases h0 : 0 < k
                    · obtain ⟨b', o', e', hbl', hr'⟩ := (rowA_rules HN.out (HCS.out.later (step_b HB.out HBR.out))).2 (k - 1) (by omega)
                      obtain ⟨rfl, rfl⟩ : b = b' ∧ o = o' := by simpa using e'
                      have HPP := hd (show (rulAt s.rules (k - 1)).ty = (ruAt cs (k - 1)).ty from ((HCS.out.later HBF.out).ru (k := k - 1) (by omega)).hty)
                      obtain ⟨pt, hpt⟩ : ∃ pt, (ruAt cs (k - 1)).ty = pt := ⟨_, rfl⟩
                      rw [hpt] at HPP
                      have up := later_cell (show W2.cell? ⟨b, o + (k - 1) * 8, none⟩ = some (.string pt) from by have := hr' 0 _ rfl; rw [Nat.add_zero] at this; rw [← hpt]; exact this)
                      have h0i : (0 : Int) < (k : Int) := by omega
                      clear e' hr' hbl' hpt
                      cases hle : (Op.bytesLess p.ty.toList pt.toList || p.ty.toList == pt.toList)
                      · have HX := one_more (p := fun j => stepN s.rules j = true) HA (by show (nameT (rulAt s.rules k).ty && !(decide (0 < k) && leB (rulAt s.rules k).ty (rulAt s.rules (k - 1)).ty)) = true; unfold leB; rw [HP.out, HPP.out, hnm, hle]; simp)
                        clear hnm HA hb2 hbl
                        go_upto_region 18 with (first
                          | ((with_reducible refine gd_load (ty := 27) (x := .tmp 58) ?_); refine wpList_load_at rowT_rule (r := p.row) HRG.out rfl _ rfl rfl rfl ?_)
                          | ((with_reducible refine gd_store (ty := 27) (x := .tmp 8) ?_); refine wpList_store_new rowT_rule (r := p.row) rfl rfl p.one _ _ rfl rfl rfl rfl rfl rfl ?_))
                        rw [HW2.out]
                        refine wp_region_later W2.heap.size (by kernel_rfl) (by kernel_rfl) ?_
                        repeat (go_big_quiet_step (first
                          | (go_at_call 25; exact later_in (Nat.le_refl _) (rname_any HFT.out HNM.out _))))
                        refine wpQuiet_nil ?_
                        intro w9 hu
                        obtain ⟨⟨w10, hw10⟩, hw9⟩ := hu
                        have e9 : w10 = w9 := hw9.symm
                        subst e9
                        have HBR := hd (step_b HBR.out hw10)
                        clear hw9 hw10 u0 u5
                        go_wp2_with fail
                        refine ⟨?_, ?measure⟩
                        (repeat apply Exists.intro)
                        refine ⟨?rel, rfl⟩
                        case rel => exact ⟨k + 1, by omega, by go_num, HX, HBR⟩
                        case measure => simp [intOf]; omega
                      · have HX := hd (ansA_no15 (s := s) (by rw [HOA.out, rules_fails hlt2 (by unfold stepN leB; rw [HP.out, HPP.out, hnm, hle, decide_eq_true h0]; rfl)]; rfl))
                        clear hnm HA hb2 hbl
                        go_upto_region 18 with (first
                          | ((with_reducible refine gd_load (ty := 27) (x := .tmp 58) ?_); refine wpList_load_at rowT_rule (r := p.row) HRG.out rfl _ rfl rfl rfl ?_)
                          | ((with_reducible refine gd_store (ty := 27) (x := .tmp 8) ?_); refine wpList_store_new rowT_rule (r := p.row) rfl rfl p.one _ _ rfl rfl rfl rfl rfl rfl ?_))
                        rw [HW2.out]
                        refine wp_region_later W2.heap.size (by kernel_rfl) (by kernel_rfl) ?_
                        repeat (go_big_quiet_step (first
                          | (go_at_call 25; exact later_in (Nat.le_refl _) (rname_any HFT.out HNM.out _))))
                        refine wpQuiet_nil ?_
                        intro w9 hu
                        obtain ⟨⟨w10, hw10⟩, hw9⟩ := hu
                        have e9 : w10 = w9 := hw9.symm
                        subst e9
                        have HBR := hd (step_b HBR.out hw10)
                        clear hw9 hw10 u0 u5
                        go_wp2_with fail
                        go_ret
                        exact ⟨ret_int15 HX.out.symm, step_b HB.out HBR.out⟩
                    · have h0i : decide ((0 : Int) < (k : Int)) = false := dec_no (by omega)
                      have HX := one_more (p := fun j => stepN s.rules j = true) HA (by show (nameT (rulAt s.rules k).ty && !(decide (0 < k) && _)) = true; rw [HP.out, hnm, dec_no h0]; rfl)
                      clear hnm HA hb2 hbl
                      go_upto_region 18 with (first
                        | ((with_reducible refine gd_load (ty := 27) (x := .tmp 58) ?_); refine wpList_load_at rowT_rule (r := p.row) HRG.out rfl _ rfl rfl rfl ?_)
                        | ((with_reducible refine gd_store (ty := 27) (x := .tmp 8) ?_); refine wpList_store_new rowT_rule (r := p.row) rfl rfl p.one _ _ rfl rfl rfl rfl rfl rfl ?_))
                      rw [HW2.out]
                      refine wp_region_later W2.heap.size (by kernel_rfl) (by kernel_rfl) ?_
                      repeat (go_big_quiet_step (first
                        | (go_at_call 25; exact later_in (Nat.le_refl _) (rname_any HFT.out HNM.out _))))
                      refine wpQuiet_nil ?_
                      intro w9 hu
                      obtain ⟨⟨w10, hw10⟩, hw9⟩ := hu
                      have e9 : w10 = w9 := hw9.symm
                      subst e9
                      have HBR := hd (step_b HBR.out hw10)
                      clear hw9 hw10 u0 u5
                      go_wp2_with fail
                      refine ⟨?_, ?measure⟩
                      (repeat apply Exists.intro)
                      refine ⟨?rel, rfl⟩
                      case rel => exact ⟨k + 1, by omega, by go_num, HX, HBR⟩
                      case measure => simp [intOf]; omega
                · obtain rfl : nr = k := by omega
                  have HRO := hd (rules_all (fun j hj => HA.out j (by rw [← HN.out]; exact hj)))
                  rw [HRO.out, Bool.true_and] at HOA
                  clear HA HRO
                  have HAL := fun (W : World) (hb : Below w.heap.size w W) => hd (rall15_any (HS.out.later hb) HBY.out)
                  have HBF := hd (step_b HB.out HBR.out)
                  have V1r := hd (V1.out.keep HBR.out)
                  have hlen : (allT s).length = nr + 1 := by rw [← HN.out]; simp [allT]
                  have HLN := hd hlen
                  clear hlen
                  go_wp2_with (first
                    | ((with_reducible refine gd_load (ty := 30) (x := .tmp 1) ?_); refine wpList_load_row rowT_sch V1r.out rfl _ rfl rfl rfl ?_)
                    | (go_at_call 19; refine (HAL _ HBF.out).out.mono ?_; rintro e9 w4 ⟨A4, n4, c4, ds, rfl, hn4, hu4, b9⟩; have HU := hd hu4; have HN4 := hd hn4; have V1r := hd (V1r.out.keep b9); have HBF := hd (step_b HBF.out b9); clear hn4 hu4 b9))
                  have hn33 : n4 ≤ 33 := by have h1 := HN4.out; have h2 := HLN.out; omega
                  clear HCS HBR V1 HB
                  go_loopw [84] (fun i wr => ∃ k : Nat, k ≤ n4 ∧ i = .int .i64 k ∧ Hid (∀ j, j < k → ruleOk (rulAt (allT s) j) = true) ∧ Hid (Below w4.heap.size w4 wr)) (fun i _ => n4 - (intOf i).toNat)
                  case atStart => exact ⟨0, Nat.zero_le _, rfl, hd (fun j hj => absurd hj (Nat.not_lt_zero _)), hd (Below.refl _ _)⟩
                  case round =>
                    obtain ⟨k, hk1, rfl, HA, HBR⟩ := hrel
                    have V1r := hd (V1r.out.keep HBR.out)
                    have HBF := hd (step_b HBF.out HBR.out)
                    by_cases hlt : k < n4
                    · have hlt2 : k < (allT s).length := by rw [HN4.out]; exact hlt
                      have HRR := hd ((HU.out.later HBR.out).ru hlt2)
                      obtain ⟨b, o, hR, hbl, hrg⟩ := (rowA_rules HN4.out (HU.out.later HBR.out)).2 k hlt
                      subst hR
                      obtain ⟨p, hp⟩ : ∃ p, ruAt ds k = p := ⟨_, rfl⟩
                      simp only [hp] at hrg
                      rw [hp] at HRR
                      have HRG := hd hrg
                      obtain ⟨B, hB⟩ : ∃ B, ruleOk (rulAt (allT s) k) = B := ⟨_, rfl⟩
                      obtain ⟨W2, hW2⟩ : ∃ W2, wr.alloc (.cells p.row 27) = W2 := ⟨_, rfl⟩
                      obtain ⟨g, hg⟩ : ∃ g, wr.heap.size = g := ⟨_, rfl⟩
                      have hb2 : Below wr.heap.size wr W2 := hW2 ▸ (Below.refl _ _).alloc (Nat.le_refl _) _
                      have V6 := hd (show VarR 27 W2 g p.row by rw [← hW2, ← hg]; exact VarR.new wr _ _)
                      have HRL := hd (rrule_any (HRR.out.later hb2) hB)
                      have HBR := hd (step_b HBR.out hb2)
                      have HBF := hd (step_b HBF.out hb2)
                      have HW2 := hd hW2
                      have HG := hd hg
                      clear hp hrg hbl hb2 hW2 hg
                      cases B with
                      | false =>
                        have HX := hd (ansA_no15 (s := s) (by rw [HOA.out]; exact all_failsW (show rulAt (allT s) k ∈ allT s by rw [rulAt_mem hlt2]; exact List.getElem_mem _) hB))
                        clear hB HA
                        go_upto_region 24 with (first
                          | ((with_reducible refine gd_load (ty := 27) (x := .tmp 86) ?_); refine wpList_load_at rowT_rule (r := p.row) HRG.out rfl _ rfl rfl rfl ?_)
                          | ((with_reducible refine gd_store (ty := 27) (x := .tmp 10) ?_); refine wpList_store_new rowT_rule (r := p.row) rfl rfl p.one _ _ rfl rfl rfl rfl rfl rfl ?_))
                        rw [HW2.out, HG.out]
                        go_wp2_with (first
                          | ((with_reducible refine gd_load (ty := 27) (x := .tmp 10) ?_); refine wpList_load_row rowT_rule V6.out rfl _ rfl rfl rfl ?_)
                          | (go_at_call 26; refine HRL.out.mono ?_; rintro e9 w5 ⟨rfl, b9⟩; have HBF := hd (step_b HBF.out b9); clear b9))
                        go_ret
                        exact ⟨ret_int15 HX.out.symm, HBF.out⟩
                      | true =>
                        have HX := one_more (p := fun j => ruleOk (rulAt (allT s) j) = true) HA hB
                        clear hB HA
                        go_upto_region 24 with (first
                          | ((with_reducible refine gd_load (ty := 27) (x := .tmp 86) ?_); refine wpList_load_at rowT_rule (r := p.row) HRG.out rfl _ rfl rfl rfl ?_)
                          | ((with_reducible refine gd_store (ty := 27) (x := .tmp 10) ?_); refine wpList_store_new rowT_rule (r := p.row) rfl rfl p.one _ _ rfl rfl rfl rfl rfl rfl ?_))
                        rw [HW2.out, HG.out]
                        go_wp2_with (first
                          | ((with_reducible refine gd_load (ty := 27) (x := .tmp 10) ?_); refine wpList_load_row rowT_rule V6.out rfl _ rfl rfl rfl ?_)
                          | (go_at_call 26; refine HRL.out.mono ?_; rintro e9 w5 ⟨rfl, b9⟩; have HBR := hd (step_b HBR.out b9); clear b9))
                        go_roundw
                        case rel => exact ⟨k + 1, by omega, by go_num, HX, HBR⟩
                        case measure => simp [intOf]; omega
                    · obtain rfl : k = n4 := by omega
                      have HALL := hd (show (allT s).all ruleOk = true from List.all_eq_true.2 fun r hr => by
                        obtain ⟨i, hi, rfl⟩ := List.getElem_of_mem hr
                        have h1 := HA.out i (by rw [← HN4.out]; exact hi)
                        rwa [rulAt_mem hi] at h1)
                      have HOK := hd (HOA.out.trans HALL.out)
                      have HKS := hd (fun (r : RuleT) (hr : r ∈ allT s) => show r.kids.length ≤ 32 by
                        have h1 := List.all_eq_true.1 HALL.out r hr
                        simp only [ruleOk, Bool.and_eq_true, decide_eq_true_eq] at h1
                        exact h1.1)
                      have HL32 := hd (show s.rules.length ≤ 32 by rw [HN.out]; exact hnr)
                      clear HA HALL HOA HU HN4 HBR
                      go_wp2_with (first
                        | ((with_reducible refine gd_load (ty := 30) (x := .tmp 1) ?_); refine wpList_load_row rowT_sch V1r.out rfl _ rfl rfl rfl ?_)
                        | (go_at_call 19; refine (HAL _ HBF.out).out.mono ?_; rintro e9 w6 ⟨A5, n5, c5, fs, rfl, hn5, hu5, b9⟩; have HU := hd hu5; have HN5 := hd hn5; have V1r := hd (V1r.out.keep b9); have HBF := hd (step_b HBF.out b9); clear hn5 hu5 b9))
                      have hn34 : n5 ≤ 33 := by have h1 := HN5.out; have h2 := HLN.out; omega
                      go_loopw [95] (fun i wr => ∃ k : Nat, k ≤ n5 ∧ i = .int .i64 k ∧ Hid (∀ j, j < k → (wrapsT s (rulAt (allT s) j) && (filledT (rulAt (allT s) j) && (fillsT s (rulAt (allT s) j)).isSome)) = true) ∧ Hid (Below w6.heap.size w6 wr)) (fun i _ => n5 - (intOf i).toNat)
                      case atStart => exact ⟨0, Nat.zero_le _, rfl, hd (fun j hj => absurd hj (Nat.not_lt_zero _)), hd (Below.refl _ _)⟩
                      case round =>
                        obtain ⟨k, hk1, rfl, HA, HBR⟩ := hrel
                        have V1r := hd (V1r.out.keep HBR.out)
                        have HBF := hd (step_b HBF.out HBR.out)
                        by_cases hlt : k < n5
                        · have hlt2 : k < (allT s).length := by rw [HN5.out]; exact hlt
                          have HRR := hd ((HU.out.later HBR.out).ru hlt2)
                          obtain ⟨b, o, hR, hbl, hrg⟩ := (rowA_rules HN5.out (HU.out.later HBR.out)).2 k hlt
                          subst hR
                          obtain ⟨p, hp⟩ : ∃ p, ruAt fs k = p := ⟨_, rfl⟩
                          simp only [hp] at hrg
                          rw [hp] at HRR
                          have HRG := hd hrg
                          obtain ⟨r, hr⟩ : ∃ r, rulAt (allT s) k = r := ⟨_, rfl⟩
                          rw [hr] at HRR
                          have hmem : r ∈ allT s := by rw [← hr, rulAt_mem hlt2]; exact List.getElem_mem _
                          have HM := hd hmem
                          have HRE := hd hr
                          have hk32 := HKS.out r hmem
                          obtain ⟨W2, hW2⟩ : ∃ W2, wr.alloc (.cells p.row 27) = W2 := ⟨_, rfl⟩
                          obtain ⟨g, hg⟩ : ∃ g, wr.heap.size = g := ⟨_, rfl⟩
                          have hb2 : Below wr.heap.size wr W2 := hW2 ▸ (Below.refl _ _).alloc (Nat.le_refl _) _
                          have V6 := hd (show VarR 27 W2 g p.row by rw [← hW2, ← hg]; exact VarR.new wr _ _)
                          have HBR := hd (step_b HBR.out hb2)
                          have HBF := hd (step_b HBF.out hb2)
                          have V1r := hd (V1r.out.keep hb2)
                          have HRX := hd (HRR.out.later hb2)
                          obtain ⟨B, hB⟩ : ∃ B, wrapsT s r = B := ⟨_, rfl⟩
                          have HWR := hd (rwraps_any (HS.out.later HBF.out) HRX.out HBY.out HL32.out HKS.out (by omega) hB)
                          have HKE := fun (W : World) (hb : Below W2.heap.size W2 W) => hd (rkeeps_any (HRX.out.later hb) (by omega) (k := p.fty) rfl)
                          have HFL := fun (W : World) (hb : Below W2.heap.size W2 W) (F : Option Nat) (hF : fillsT s r = F) => hd (rfills_any (HS.out.later (step_b HBF.out hb)) (HRX.out.later hb) (by have := HL32.out; omega) hF)
                          have HB0 := hd (Below.refl W2.heap.size W2)
                          have HW2 := hd hW2
                          have HG := hd hg
                          clear hp hr hrg hbl hb2 hW2 hg hmem
                          cases B with
                          | false =>
                            have HX := hd (ansZ_no15 (s := s) (all_failsW HM.out (by rw [hB]; rfl)))
                            clear hB HA HKE HFL
                            go_upto_region 30 with (first
                              | ((with_reducible refine gd_load (ty := 27) (x := .tmp 97) ?_); refine wpList_load_at rowT_rule (r := p.row) HRG.out rfl _ rfl rfl rfl ?_)
                              | ((with_reducible refine gd_store (ty := 27) (x := .tmp 12) ?_); refine wpList_store_new rowT_rule (r := p.row) rfl rfl p.one _ _ rfl rfl rfl rfl rfl rfl ?_))
                            rw [HW2.out, HG.out]
                            go_wp2_with (first
                              | ((with_reducible refine gd_load (ty := 30) (x := .tmp 1) ?_); refine wpList_load_row rowT_sch V1r.out rfl _ rfl rfl rfl ?_)
                              | ((with_reducible refine gd_load (ty := 27) (x := .tmp 12) ?_); refine wpList_load_row rowT_rule V6.out rfl _ rfl rfl rfl ?_)
                              | (go_at_call 27; refine HWR.out.mono ?_; rintro e9 w7 ⟨rfl, b9⟩; have HBF := hd (step_b HBF.out b9); clear b9))
                            go_ret
                            exact ⟨ret_int15 HX.out.symm, HBF.out⟩
                          | true =>
                            have hpf : r.fill = p.fill := HRX.out.hfill
                            have hpt : r.fty = p.fty := HRX.out.hfty
                            have hpa : r.text.act = p.td := by rw [HRX.out.htext]
                            have HKX := fun (W : World) (hb : Below W2.heap.size W2 W) (D : Bool) (hD : keepsT r p.fty = D) => hd (show Calls Try.prog 28 #[.agg p.row, .string p.fty] W (Still (.bool D) W) from by rw [← hD]; exact (HKE W hb).out)
                            clear HKE
                            by_cases f1 : p.fill = 1
                            · have HPF := hd f1
                              have hfd : filledT r = (p.td == 1) := by unfold filledT; rw [hpf, if_pos f1, hpa]
                              clear f1
                              cases e1 : (p.td == 1)
                              · have HX := hd (ansZ_no15 (s := s) (all_failsW HM.out (by rw [hB, hfd, e1]; rfl)))
                                have e2 : (p.td != 1) = true := by rw [bne, e1]; rfl
                                have HPT := hd (show p.td = p.td from rfl)
                                clear hB HA HFL hfd hpf hpt hpa HKX
                                go_upto_region 30 with (first
                                  | ((with_reducible refine gd_load (ty := 27) (x := .tmp 97) ?_); refine wpList_load_at rowT_rule (r := p.row) HRG.out rfl _ rfl rfl rfl ?_)
                                  | ((with_reducible refine gd_store (ty := 27) (x := .tmp 12) ?_); refine wpList_store_new rowT_rule (r := p.row) rfl rfl p.one _ _ rfl rfl rfl rfl rfl rfl ?_))
                                rw [HW2.out, HG.out]
                                go_wp2_with (first
                                  | ((with_reducible refine gd_load (ty := 30) (x := .tmp 1) ?_); refine wpList_load_row rowT_sch V1r.out rfl _ rfl rfl rfl ?_)
                                  | ((with_reducible refine gd_load (ty := 27) (x := .tmp 12) ?_); refine wpList_load_row rowT_rule V6.out rfl _ rfl rfl rfl ?_)
                                  | ((with_reducible refine gd_loadg (ty := 27) (x := .tmp 12) ?_); refine wpList_load_rowg rowT_rule V6.out rfl _ rfl (by rfl) rfl ?_)
                                  | (go_at_call 27; refine HWR.out.mono ?_; rintro e9 w7 ⟨rfl, b9⟩; have V1r := hd (V1r.out.keep b9); have V6 := hd (V6.out.keep b9); have HBF := hd (step_b HBF.out b9); have HBR := hd (step_b HBR.out b9); have HB0 := hd (step_b HB0.out b9); have y6 : w7.cell? ⟨g, 6, none⟩ = some (.int .i64 (1)) := (by have h9 := V6.out.cell 6 (.int .i64 p.fill) rfl; rw [HPF.out] at h9; exact h9); have y1 : w7.cell? ⟨g, 1, none⟩ = some (.int .i64 (p.td)) := (by have h9 := V6.out.cell 1 (.int .i64 p.td) rfl; rw [HPT.out] at h9; exact h9); have y7 : w7.cell? ⟨g, 7, none⟩ = some (.string p.fty) := V6.out.cell 7 _ rfl; clear b9)
                                  | (go_at_call 28; refine (HKC _ HB0.out).out.mono ?_; rintro e9 w8 ⟨rfl, b9⟩; clear y6 y1 y7; have V1r := hd (V1r.out.keep b9); have V6 := hd (V6.out.keep b9); have HBF := hd (step_b HBF.out b9); have HBR := hd (step_b HBR.out b9); have HB0 := hd (step_b HB0.out b9); clear b9)
                                  | (go_at_call 24; refine (HFX _ HB0.out).out.mono ?_; rintro e9 w9 ⟨rfl, b9⟩; have HBF := hd (step_b HBF.out b9); have HBR := hd (step_b HBR.out b9); clear b9))
                                go_ret
                                exact ⟨ret_int15 HX.out.symm, HBF.out⟩
                              · have HPT := hd (show p.td = 1 by simpa using e1)
                                clear HKX
                                cases hF : fillsT s r with
                                | none =>
                                  have HFX := fun (W : World) (hb : Below W2.heap.size W2 W) => hd (show Calls Try.prog 24 #[.agg C.row, .agg p.row] W (Still (.tuple #[.int .i64 0, .bool false]) W) from (HFL W hb none hF).out)
                                  have HX := hd (ansZ_no15 (s := s) (all_failsW HM.out (by rw [hF]; simp)))
                                  clear hB HA HFL hfd hpf hpt hpa hF
                                  go_upto_region 30 with (first
                                    | ((with_reducible refine gd_load (ty := 27) (x := .tmp 97) ?_); refine wpList_load_at rowT_rule (r := p.row) HRG.out rfl _ rfl rfl rfl ?_)
                                    | ((with_reducible refine gd_store (ty := 27) (x := .tmp 12) ?_); refine wpList_store_new rowT_rule (r := p.row) rfl rfl p.one _ _ rfl rfl rfl rfl rfl rfl ?_))
                                  rw [HW2.out, HG.out]
                                  go_wp2_with (first
                                    | ((with_reducible refine gd_load (ty := 30) (x := .tmp 1) ?_); refine wpList_load_row rowT_sch V1r.out rfl _ rfl rfl rfl ?_)
                                    | ((with_reducible refine gd_load (ty := 27) (x := .tmp 12) ?_); refine wpList_load_row rowT_rule V6.out rfl _ rfl rfl rfl ?_)
                                    | ((with_reducible refine gd_loadg (ty := 27) (x := .tmp 12) ?_); refine wpList_load_rowg rowT_rule V6.out rfl _ rfl (by rfl) rfl ?_)
                                    | (go_at_call 27; refine HWR.out.mono ?_; rintro e9 w7 ⟨rfl, b9⟩; have V1r := hd (V1r.out.keep b9); have V6 := hd (V6.out.keep b9); have HBF := hd (step_b HBF.out b9); have HBR := hd (step_b HBR.out b9); have HB0 := hd (step_b HB0.out b9); have y6 : w7.cell? ⟨g, 6, none⟩ = some (.int .i64 (1)) := (by have h9 := V6.out.cell 6 (.int .i64 p.fill) rfl; rw [HPF.out] at h9; exact h9); have y1 : w7.cell? ⟨g, 1, none⟩ = some (.int .i64 (1)) := (by have h9 := V6.out.cell 1 (.int .i64 p.td) rfl; rw [HPT.out] at h9; exact h9); have y7 : w7.cell? ⟨g, 7, none⟩ = some (.string p.fty) := V6.out.cell 7 _ rfl; clear b9)
                                    | (go_at_call 28; refine (HKC _ HB0.out).out.mono ?_; rintro e9 w8 ⟨rfl, b9⟩; clear y6 y1 y7; have V1r := hd (V1r.out.keep b9); have V6 := hd (V6.out.keep b9); have HBF := hd (step_b HBF.out b9); have HBR := hd (step_b HBR.out b9); have HB0 := hd (step_b HB0.out b9); clear b9)
                                    | (go_at_call 24; refine (HFX _ HB0.out).out.mono ?_; rintro e9 w9 ⟨rfl, b9⟩; have HBF := hd (step_b HBF.out b9); have HBR := hd (step_b HBR.out b9); clear b9))
                                  go_ret
                                  exact ⟨ret_int15 HX.out.symm, HBF.out⟩
                                | some x =>
                                  have HFX := fun (W : World) (hb : Below W2.heap.size W2 W) => hd (show Calls Try.prog 24 #[.agg C.row, .agg p.row] W (Still (.tuple #[.int .i64 (x : Int), .bool true]) W) from (HFL W hb (some x) hF).out)
                                  have HX := one_more (p := fun j => (wrapsT s (rulAt (allT s) j) && (filledT (rulAt (allT s) j) && (fillsT s (rulAt (allT s) j)).isSome)) = true) HA (by show (wrapsT s (rulAt (allT s) k) && (filledT (rulAt (allT s) k) && (fillsT s (rulAt (allT s) k)).isSome)) = true; rw [HRE.out, hB, hfd, hF]; first | rfl | (rw [e1]; rfl))
                                  clear hB HA HFL hfd hpf hpt hpa hF
                                  go_upto_region 30 with (first
                                    | ((with_reducible refine gd_load (ty := 27) (x := .tmp 97) ?_); refine wpList_load_at rowT_rule (r := p.row) HRG.out rfl _ rfl rfl rfl ?_)
                                    | ((with_reducible refine gd_store (ty := 27) (x := .tmp 12) ?_); refine wpList_store_new rowT_rule (r := p.row) rfl rfl p.one _ _ rfl rfl rfl rfl rfl rfl ?_))
                                  rw [HW2.out, HG.out]
                                  go_wp2_with (first
                                    | ((with_reducible refine gd_load (ty := 30) (x := .tmp 1) ?_); refine wpList_load_row rowT_sch V1r.out rfl _ rfl rfl rfl ?_)
                                    | ((with_reducible refine gd_load (ty := 27) (x := .tmp 12) ?_); refine wpList_load_row rowT_rule V6.out rfl _ rfl rfl rfl ?_)
                                    | ((with_reducible refine gd_loadg (ty := 27) (x := .tmp 12) ?_); refine wpList_load_rowg rowT_rule V6.out rfl _ rfl (by rfl) rfl ?_)
                                    | (go_at_call 27; refine HWR.out.mono ?_; rintro e9 w7 ⟨rfl, b9⟩; have V1r := hd (V1r.out.keep b9); have V6 := hd (V6.out.keep b9); have HBF := hd (step_b HBF.out b9); have HBR := hd (step_b HBR.out b9); have HB0 := hd (step_b HB0.out b9); have y6 : w7.cell? ⟨g, 6, none⟩ = some (.int .i64 (1)) := (by have h9 := V6.out.cell 6 (.int .i64 p.fill) rfl; rw [HPF.out] at h9; exact h9); have y1 : w7.cell? ⟨g, 1, none⟩ = some (.int .i64 (1)) := (by have h9 := V6.out.cell 1 (.int .i64 p.td) rfl; rw [HPT.out] at h9; exact h9); have y7 : w7.cell? ⟨g, 7, none⟩ = some (.string p.fty) := V6.out.cell 7 _ rfl; clear b9)
                                    | (go_at_call 28; refine (HKC _ HB0.out).out.mono ?_; rintro e9 w8 ⟨rfl, b9⟩; clear y6 y1 y7; have V1r := hd (V1r.out.keep b9); have V6 := hd (V6.out.keep b9); have HBF := hd (step_b HBF.out b9); have HBR := hd (step_b HBR.out b9); have HB0 := hd (step_b HB0.out b9); clear b9)
                                    | (go_at_call 24; refine (HFX _ HB0.out).out.mono ?_; rintro e9 w9 ⟨rfl, b9⟩; have HBF := hd (step_b HBF.out b9); have HBR := hd (step_b HBR.out b9); clear b9))
                                  go_roundw
                                  case rel => exact ⟨k + 1, by omega, by go_num, HX, HBR⟩
                                  case measure => simp [intOf]; omega
                            · by_cases f2 : p.fill = 2
                              · have HPF := hd f2
                                have hfd : filledT r = keepsT r p.fty := by unfold filledT; rw [hpf, hpt, if_neg f1, if_pos f2]
                                have HPT := hd (show p.td = p.td from rfl)
                                clear f1 f2
                                cases e1 : keepsT r p.fty
                                · have HX := hd (ansZ_no15 (s := s) (all_failsW HM.out (by rw [hB, hfd, e1]; rfl)))
                                  have HKC := fun (W : World) (hb : Below W2.heap.size W2 W) => HKX W hb false e1
                                  clear hB HA HFL hfd hpf hpt hpa HKX e1
                                  go_upto_region 30 with (first
                                    | ((with_reducible refine gd_load (ty := 27) (x := .tmp 97) ?_); refine wpList_load_at rowT_rule (r := p.row) HRG.out rfl _ rfl rfl rfl ?_)
                                    | ((with_reducible refine gd_store (ty := 27) (x := .tmp 12) ?_); refine wpList_store_new rowT_rule (r := p.row) rfl rfl p.one _ _ rfl rfl rfl rfl rfl rfl ?_))
                                  rw [HW2.out, HG.out]
                                  go_wp2_with (first
                                    | ((with_reducible refine gd_load (ty := 30) (x := .tmp 1) ?_); refine wpList_load_row rowT_sch V1r.out rfl _ rfl rfl rfl ?_)
                                    | ((with_reducible refine gd_load (ty := 27) (x := .tmp 12) ?_); refine wpList_load_row rowT_rule V6.out rfl _ rfl rfl rfl ?_)
                                    | ((with_reducible refine gd_loadg (ty := 27) (x := .tmp 12) ?_); refine wpList_load_rowg rowT_rule V6.out rfl _ rfl (by rfl) rfl ?_)
                                    | (go_at_call 27; refine HWR.out.mono ?_; rintro e9 w7 ⟨rfl, b9⟩; have V1r := hd (V1r.out.keep b9); have V6 := hd (V6.out.keep b9); have HBF := hd (step_b HBF.out b9); have HBR := hd (step_b HBR.out b9); have HB0 := hd (step_b HB0.out b9); have y6 : w7.cell? ⟨g, 6, none⟩ = some (.int .i64 (2)) := (by have h9 := V6.out.cell 6 (.int .i64 p.fill) rfl; rw [HPF.out] at h9; exact h9); have y1 : w7.cell? ⟨g, 1, none⟩ = some (.int .i64 (p.td)) := (by have h9 := V6.out.cell 1 (.int .i64 p.td) rfl; rw [HPT.out] at h9; exact h9); have y7 : w7.cell? ⟨g, 7, none⟩ = some (.string p.fty) := V6.out.cell 7 _ rfl; clear b9)
                                    | (go_at_call 28; refine (HKC _ HB0.out).out.mono ?_; rintro e9 w8 ⟨rfl, b9⟩; clear y6 y1 y7; have V1r := hd (V1r.out.keep b9); have V6 := hd (V6.out.keep b9); have HBF := hd (step_b HBF.out b9); have HBR := hd (step_b HBR.out b9); have HB0 := hd (step_b HB0.out b9); clear b9)
                                    | (go_at_call 24; refine (HFX _ HB0.out).out.mono ?_; rintro e9 w9 ⟨rfl, b9⟩; have HBF := hd (step_b HBF.out b9); have HBR := hd (step_b HBR.out b9); clear b9))
                                  go_ret
                                  exact ⟨ret_int15 HX.out.symm, HBF.out⟩
                                · have HKC := fun (W : World) (hb : Below W2.heap.size W2 W) => HKX W hb true e1
                                  clear HKX
                                  cases hF : fillsT s r with
                                  | none =>
                                    have HFX := fun (W : World) (hb : Below W2.heap.size W2 W) => hd (show Calls Try.prog 24 #[.agg C.row, .agg p.row] W (Still (.tuple #[.int .i64 0, .bool false]) W) from (HFL W hb none hF).out)
                                    have HX := hd (ansZ_no15 (s := s) (all_failsW HM.out (by rw [hF]; simp)))
                                    clear hB HA HFL hfd hpf hpt hpa hF
                                    go_upto_region 30 with (first
                                      | ((with_reducible refine gd_load (ty := 27) (x := .tmp 97) ?_); refine wpList_load_at rowT_rule (r := p.row) HRG.out rfl _ rfl rfl rfl ?_)
                                      | ((with_reducible refine gd_store (ty := 27) (x := .tmp 12) ?_); refine wpList_store_new rowT_rule (r := p.row) rfl rfl p.one _ _ rfl rfl rfl rfl rfl rfl ?_))
                                    rw [HW2.out, HG.out]
                                    go_wp2_with (first
                                      | ((with_reducible refine gd_load (ty := 30) (x := .tmp 1) ?_); refine wpList_load_row rowT_sch V1r.out rfl _ rfl rfl rfl ?_)
                                      | ((with_reducible refine gd_load (ty := 27) (x := .tmp 12) ?_); refine wpList_load_row rowT_rule V6.out rfl _ rfl rfl rfl ?_)
                                      | ((with_reducible refine gd_loadg (ty := 27) (x := .tmp 12) ?_); refine wpList_load_rowg rowT_rule V6.out rfl _ rfl (by rfl) rfl ?_)
                                      | (go_at_call 27; refine HWR.out.mono ?_; rintro e9 w7 ⟨rfl, b9⟩; have V1r := hd (V1r.out.keep b9); have V6 := hd (V6.out.keep b9); have HBF := hd (step_b HBF.out b9); have HBR := hd (step_b HBR.out b9); have HB0 := hd (step_b HB0.out b9); have y6 : w7.cell? ⟨g, 6, none⟩ = some (.int .i64 (2)) := (by have h9 := V6.out.cell 6 (.int .i64 p.fill) rfl; rw [HPF.out] at h9; exact h9); have y1 : w7.cell? ⟨g, 1, none⟩ = some (.int .i64 (p.td)) := (by have h9 := V6.out.cell 1 (.int .i64 p.td) rfl; rw [HPT.out] at h9; exact h9); have y7 : w7.cell? ⟨g, 7, none⟩ = some (.string p.fty) := V6.out.cell 7 _ rfl; clear b9)
                                      | (go_at_call 28; refine (HKC _ HB0.out).out.mono ?_; rintro e9 w8 ⟨rfl, b9⟩; clear y6 y1 y7; have V1r := hd (V1r.out.keep b9); have V6 := hd (V6.out.keep b9); have HBF := hd (step_b HBF.out b9); have HBR := hd (step_b HBR.out b9); have HB0 := hd (step_b HB0.out b9); clear b9)
                                      | (go_at_call 24; refine (HFX _ HB0.out).out.mono ?_; rintro e9 w9 ⟨rfl, b9⟩; have HBF := hd (step_b HBF.out b9); have HBR := hd (step_b HBR.out b9); clear b9))
                                    go_ret
                                    exact ⟨ret_int15 HX.out.symm, HBF.out⟩
                                  | some x =>
                                    have HFX := fun (W : World) (hb : Below W2.heap.size W2 W) => hd (show Calls Try.prog 24 #[.agg C.row, .agg p.row] W (Still (.tuple #[.int .i64 (x : Int), .bool true]) W) from (HFL W hb (some x) hF).out)
                                    have HX := one_more (p := fun j => (wrapsT s (rulAt (allT s) j) && (filledT (rulAt (allT s) j) && (fillsT s (rulAt (allT s) j)).isSome)) = true) HA (by show (wrapsT s (rulAt (allT s) k) && (filledT (rulAt (allT s) k) && (fillsT s (rulAt (allT s) k)).isSome)) = true; rw [HRE.out, hB, hfd, hF]; first | rfl | (rw [e1]; rfl))
                                    clear hB HA HFL hfd hpf hpt hpa hF
                                    go_upto_region 30 with (first
                                      | ((with_reducible refine gd_load (ty := 27) (x := .tmp 97) ?_); refine wpList_load_at rowT_rule (r := p.row) HRG.out rfl _ rfl rfl rfl ?_)
                                      | ((with_reducible refine gd_store (ty := 27) (x := .tmp 12) ?_); refine wpList_store_new rowT_rule (r := p.row) rfl rfl p.one _ _ rfl rfl rfl rfl rfl rfl ?_))
                                    rw [HW2.out, HG.out]
                                    go_wp2_with (first
                                      | ((with_reducible refine gd_load (ty := 30) (x := .tmp 1) ?_); refine wpList_load_row rowT_sch V1r.out rfl _ rfl rfl rfl ?_)
                                      | ((with_reducible refine gd_load (ty := 27) (x := .tmp 12) ?_); refine wpList_load_row rowT_rule V6.out rfl _ rfl rfl rfl ?_)
                                      | ((with_reducible refine gd_loadg (ty := 27) (x := .tmp 12) ?_); refine wpList_load_rowg rowT_rule V6.out rfl _ rfl (by rfl) rfl ?_)
                                      | (go_at_call 27; refine HWR.out.mono ?_; rintro e9 w7 ⟨rfl, b9⟩; have V1r := hd (V1r.out.keep b9); have V6 := hd (V6.out.keep b9); have HBF := hd (step_b HBF.out b9); have HBR := hd (step_b HBR.out b9); have HB0 := hd (step_b HB0.out b9); have y6 : w7.cell? ⟨g, 6, none⟩ = some (.int .i64 (2)) := (by have h9 := V6.out.cell 6 (.int .i64 p.fill) rfl; rw [HPF.out] at h9; exact h9); have y1 : w7.cell? ⟨g, 1, none⟩ = some (.int .i64 (p.td)) := (by have h9 := V6.out.cell 1 (.int .i64 p.td) rfl; rw [HPT.out] at h9; exact h9); have y7 : w7.cell? ⟨g, 7, none⟩ = some (.string p.fty) := V6.out.cell 7 _ rfl; clear b9)
                                      | (go_at_call 28; refine (HKC _ HB0.out).out.mono ?_; rintro e9 w8 ⟨rfl, b9⟩; clear y6 y1 y7; have V1r := hd (V1r.out.keep b9); have V6 := hd (V6.out.keep b9); have HBF := hd (step_b HBF.out b9); have HBR := hd (step_b HBR.out b9); have HB0 := hd (step_b HB0.out b9); clear b9)
                                      | (go_at_call 24; refine (HFX _ HB0.out).out.mono ?_; rintro e9 w9 ⟨rfl, b9⟩; have HBF := hd (step_b HBF.out b9); have HBR := hd (step_b HBR.out b9); clear b9))
                                    go_roundw
                                    case rel => exact ⟨k + 1, by omega, by go_num, HX, HBR⟩
                                    case measure => simp [intOf]; omega
                              · have g1 : (p.fill == 1) = false := by simpa using f1
                                have g2 : (p.fill == 2) = false := by simpa using f2
                                have HPF := hd (show p.fill = p.fill from rfl)
                                have HPT := hd (show p.td = p.td from rfl)
                                have e1 : true = true := rfl
                                have hfd : filledT r = true := by unfold filledT; rw [hpf, if_neg f1, if_neg f2]
                                clear f1 f2 HKX
                                cases hF : fillsT s r with
                                | none =>
                                  have HFX := fun (W : World) (hb : Below W2.heap.size W2 W) => hd (show Calls Try.prog 24 #[.agg C.row, .agg p.row] W (Still (.tuple #[.int .i64 0, .bool false]) W) from (HFL W hb none hF).out)
                                  have HX := hd (ansZ_no15 (s := s) (all_failsW HM.out (by rw [hF]; simp)))
                                  clear hB HA HFL hfd hpf hpt hpa hF
                                  go_upto_region 30 with (first
                                    | ((with_reducible refine gd_load (ty := 27) (x := .tmp 97) ?_); refine wpList_load_at rowT_rule (r := p.row) HRG.out rfl _ rfl rfl rfl ?_)
                                    | ((with_reducible refine gd_store (ty := 27) (x := .tmp 12) ?_); refine wpList_store_new rowT_rule (r := p.row) rfl rfl p.one _ _ rfl rfl rfl rfl rfl rfl ?_))
                                  rw [HW2.out, HG.out]
                                  go_wp2_with (first
                                    | ((with_reducible refine gd_load (ty := 30) (x := .tmp 1) ?_); refine wpList_load_row rowT_sch V1r.out rfl _ rfl rfl rfl ?_)
                                    | ((with_reducible refine gd_load (ty := 27) (x := .tmp 12) ?_); refine wpList_load_row rowT_rule V6.out rfl _ rfl rfl rfl ?_)
                                    | ((with_reducible refine gd_loadg (ty := 27) (x := .tmp 12) ?_); refine wpList_load_rowg rowT_rule V6.out rfl _ rfl (by rfl) rfl ?_)
                                    | (go_at_call 27; refine HWR.out.mono ?_; rintro e9 w7 ⟨rfl, b9⟩; have V1r := hd (V1r.out.keep b9); have V6 := hd (V6.out.keep b9); have HBF := hd (step_b HBF.out b9); have HBR := hd (step_b HBR.out b9); have HB0 := hd (step_b HB0.out b9); have y6 : w7.cell? ⟨g, 6, none⟩ = some (.int .i64 (p.fill)) := (by have h9 := V6.out.cell 6 (.int .i64 p.fill) rfl; rw [HPF.out] at h9; exact h9); have y1 : w7.cell? ⟨g, 1, none⟩ = some (.int .i64 (p.td)) := (by have h9 := V6.out.cell 1 (.int .i64 p.td) rfl; rw [HPT.out] at h9; exact h9); have y7 : w7.cell? ⟨g, 7, none⟩ = some (.string p.fty) := V6.out.cell 7 _ rfl; clear b9)
                                    | (go_at_call 28; refine (HKC _ HB0.out).out.mono ?_; rintro e9 w8 ⟨rfl, b9⟩; clear y6 y1 y7; have V1r := hd (V1r.out.keep b9); have V6 := hd (V6.out.keep b9); have HBF := hd (step_b HBF.out b9); have HBR := hd (step_b HBR.out b9); have HB0 := hd (step_b HB0.out b9); clear b9)
                                    | (go_at_call 24; refine (HFX _ HB0.out).out.mono ?_; rintro e9 w9 ⟨rfl, b9⟩; have HBF := hd (step_b HBF.out b9); have HBR := hd (step_b HBR.out b9); clear b9))
                                  go_ret
                                  exact ⟨ret_int15 HX.out.symm, HBF.out⟩
                                | some x =>
                                  have HFX := fun (W : World) (hb : Below W2.heap.size W2 W) => hd (show Calls Try.prog 24 #[.agg C.row, .agg p.row] W (Still (.tuple #[.int .i64 (x : Int), .bool true]) W) from (HFL W hb (some x) hF).out)
                                  have HX := one_more (p := fun j => (wrapsT s (rulAt (allT s) j) && (filledT (rulAt (allT s) j) && (fillsT s (rulAt (allT s) j)).isSome)) = true) HA (by show (wrapsT s (rulAt (allT s) k) && (filledT (rulAt (allT s) k) && (fillsT s (rulAt (allT s) k)).isSome)) = true; rw [HRE.out, hB, hfd, hF]; first | rfl | (rw [e1]; rfl))
                                  clear hB HA HFL hfd hpf hpt hpa hF
                                  go_upto_region 30 with (first
                                    | ((with_reducible refine gd_load (ty := 27) (x := .tmp 97) ?_); refine wpList_load_at rowT_rule (r := p.row) HRG.out rfl _ rfl rfl rfl ?_)
                                    | ((with_reducible refine gd_store (ty := 27) (x := .tmp 12) ?_); refine wpList_store_new rowT_rule (r := p.row) rfl rfl p.one _ _ rfl rfl rfl rfl rfl rfl ?_))
                                  rw [HW2.out, HG.out]
                                  go_wp2_with (first
                                    | ((with_reducible refine gd_load (ty := 30) (x := .tmp 1) ?_); refine wpList_load_row rowT_sch V1r.out rfl _ rfl rfl rfl ?_)
                                    | ((with_reducible refine gd_load (ty := 27) (x := .tmp 12) ?_); refine wpList_load_row rowT_rule V6.out rfl _ rfl rfl rfl ?_)
                                    | ((with_reducible refine gd_loadg (ty := 27) (x := .tmp 12) ?_); refine wpList_load_rowg rowT_rule V6.out rfl _ rfl (by rfl) rfl ?_)
                                    | (go_at_call 27; refine HWR.out.mono ?_; rintro e9 w7 ⟨rfl, b9⟩; have V1r := hd (V1r.out.keep b9); have V6 := hd (V6.out.keep b9); have HBF := hd (step_b HBF.out b9); have HBR := hd (step_b HBR.out b9); have HB0 := hd (step_b HB0.out b9); have y6 : w7.cell? ⟨g, 6, none⟩ = some (.int .i64 (p.fill)) := (by have h9 := V6.out.cell 6 (.int .i64 p.fill) rfl; rw [HPF.out] at h9; exact h9); have y1 : w7.cell? ⟨g, 1, none⟩ = some (.int .i64 (p.td)) := (by have h9 := V6.out.cell 1 (.int .i64 p.td) rfl; rw [HPT.out] at h9; exact h9); have y7 : w7.cell? ⟨g, 7, none⟩ = some (.string p.fty) := V6.out.cell 7 _ rfl; clear b9)
                                    | (go_at_call 28; refine (HKC _ HB0.out).out.mono ?_; rintro e9 w8 ⟨rfl, b9⟩; clear y6 y1 y7; have V1r := hd (V1r.out.keep b9); have V6 := hd (V6.out.keep b9); have HBF := hd (step_b HBF.out b9); have HBR := hd (step_b HBR.out b9); have HB0 := hd (step_b HB0.out b9); clear b9)
                                    | (go_at_call 24; refine (HFX _ HB0.out).out.mono ?_; rintro e9 w9 ⟨rfl, b9⟩; have HBF := hd (step_b HBF.out b9); have HBR := hd (step_b HBR.out b9); clear b9))
                                  go_roundw
                                  case rel => exact ⟨k + 1, by omega, by go_num, HX, HBR⟩
                                  case measure => simp [intOf]; omega
                        · obtain rfl : k = n5 := by omega
                          have HX := hd (ans_yes15 HOK.out (List.all_eq_true.2 fun r hr => by
                            obtain ⟨i, hi, rfl⟩ := List.getElem_of_mem hr
                            have h1 := HA.out i (by rw [← HN5.out]; exact hi)
                            rwa [rulAt_mem hi] at h1))
                          clear HA
                          go_wp2_with fail
                          go_ret
                          exact ⟨ret_int15 HX.out.symm, HBF.out⟩
    · have hx1 : e.ty.toList ≠ [] := fun h => hx0 (nm_inj (by rw [h, noN_list]))
      have hx2 : e.ty.toList.isEmpty = false := by
        cases h : e.ty.toList with
        | nil => exact absurd h hx1
        | cons => rfl
      have HX := hd (ansA_no15 (s := s) (by
        have h1 : emptyN s.els.ty = false := by rw [HEL.out]; exact hx2
        unfold okSchA
        rw [h1]
        simp))
      clear hx0
      go_enter Try.func12, Try.ntmps12
      go_upto_region 1 with fail
      rw [HW.out]
      go_wp2_with fail
      all_goals (go_ret; exact ⟨ret_int15 HX.out.symm, HB.out⟩)

end Go.Proofs.Ytegaapeaeffgoaa
