/- The document's form of a rule. -/
import Derived.Test.YtegaapeaeffgoaaJAForm2
import Derived.Test.YtegaapeaeffgoaaAForm
import Derived.Test.YtegaapeaeffgoaaJASeek
import Derived.Test.YtegaapeaeffgoaaJATextWC
import Derived.Test.YtegaapeaeffgoaaJAFormed2
namespace Go.Proofs.Ytegaapeaeffgoaa
open Go.RowKit

theorem kids_fails {l : List PairT} {k : Nat} (hk : k < l.length) (h : stepK l k = false) : kidsOk l = false := by
  cases e : kidsOk l
  · rfl
  · have := List.all_eq_true.1 e k (List.mem_range.2 hk)
    rw [h] at this; cases this
set_option maxRecDepth 4000 in
theorem kids_all {l : List PairT} (h : ∀ j, j < l.length → stepK l j = true) : kidsOk l = true := List.all_eq_true.2 fun j hj => h j (List.mem_range.1 hj)
set_option maxRecDepth 100000 in
set_option maxHeartbeats 16000000 in
theorem rrule_any {w : World} {c : RuC} {r : RuleT} (h : RuAt w c r) {E : Bool} (hE : ruleOk r = E) : Calls Try.prog 26 #[.agg c.row] w (Still (.bool E) w) := by
  obtain ⟨ty, td, tt, od, ot, K, nk, ck, fill, fty⟩ := c
  have hb : Below w.heap.size w (w.alloc (.cells (RuC.mk ty td tt od ot K nk ck fill fty).row 27)) := (Below.refl _ _).alloc (Nat.le_refl _) _
  have hv := VarR.new w 27 (RuC.mk ty td tt od ot K nk ck fill fty).row
  obtain ⟨W0, hW⟩ : ∃ W0, w.alloc (.cells (RuC.mk ty td tt od ot K nk ck fill fty).row 27) = W0 := ⟨_, rfl⟩
  rw [hW] at hb hv
  have hN : r.kids.length = nk := h.len
  have hT : r.text = ⟨td, tt⟩ := h.htext
  have hO : r.other = ⟨od, ot⟩ := h.hother
  have hFi : r.fill = fill := h.hfill
  have hFt : r.fty = fty := h.hfty
  have fit := h.fit
  have hmx : nk ≤ 9223372036854775807 := h.max
  have HR := hd h
  unfold ruleOk at hE
  rw [hN, hT, hO] at hE
  obtain ⟨B, hB⟩ : ∃ B, formT ⟨td, tt⟩ = B := ⟨_, rfl⟩
  obtain ⟨C, hC⟩ : ∃ C, formT ⟨od, ot⟩ = C := ⟨_, rfl⟩
  rw [hB, hC] at hE
  have HC2 := fun W => hd (rformed_any (a := ⟨td, tt⟩) (by have := fit.tt; rw [hT] at this; exact this) (E := B) hB W)
  have HC3 := fun W => hd (rformed_any (a := ⟨od, ot⟩) (by have := fit.ot; rw [hO] at this; exact this) (E := C) hC W)
  have HE := hd hE
  have HW := hd hW
  have HB := hd hb
  have V1 := hd hv
  have l5 : W0.cell? ⟨w.heap.size, 5, none⟩ = some (.slice K nk ck) := hv.cell 5 _ rfl
  have l1 : W0.cell? ⟨w.heap.size, 1, none⟩ = some (.int .i64 td) := hv.cell 1 _ rfl
  by_cases h32 : (32 : Int) < (nk : Int)
  · clear h hb hv hN hT hO hFi hFt fit HR hE hB hC hW HC2 HC3
    go_enter Try.func26, Try.ntmps26
    go_upto_region 1 with fail
    rw [HW.out]
    go_wp2_with fail
    go_ret
    exact ⟨ret_bool (by have e1 := HE.out; rw [dec_no (show ¬ nk ≤ 32 by omega)] at e1; simpa using e1), HB.out⟩
  · have HE2 := hd (show (B && (td != 3 && (C && (kidsOk r.kids && fillT r)))) = E by
      have e1 := HE.out
      rw [decide_eq_true (show nk ≤ 32 by omega)] at e1
      exact e1)
    have hnk32 : nk ≤ 32 := by omega
    have HN := hd hN
    have HFI := hd hFi
    have HFT0 := hd hFt
    have HFIT := hd fit
    clear h hb hv hN hT hO hFi hFt fit hE hB hC hW HE
    by_cases h3 : td = 3
    · have e3 : (td == 3) = true := by simpa using h3
      have HE3 := hd (show false = E by rw [← HE2.out, h3]; simp)
      clear h3
      go_enter Try.func26, Try.ntmps26
      go_upto_region 1 with fail
      rw [HW.out]
      go_wp2_with (first
        | ((with_reducible refine gd_loadg (ty := 24) (x := .tmp 10) ?_); refine wpList_load_atg rowT_act (r := #[.int .i64 td, .string tt]) (V1.out.two 1 rfl rfl) rfl _ rfl (by rfl) rfl ?_)
        | (go_at_call 50; have g2 := HC2; clear HC2; refine (g2 _).out.mono ?_; clear g2; rintro e9 w2 ⟨rfl, b9⟩; clear l1 l5; have V1 := hd (V1.out.keep b9); have l1 : w2.cell? ⟨w.heap.size, 1, none⟩ = some (.int .i64 td) := V1.out.cell 1 _ rfl; have HB := hd (step_b HB.out b9); clear b9))
      all_goals (go_ret; exact ⟨ret_bool HE3.out, HB.out⟩)
    · have e3 : (td == 3) = false := by simpa using h3
      have e4 : (td != 3) = true := by simpa using h3
      rw [e4] at HE2
      clear h3 e4
      cases B with
      | false =>
        have HE3 := hd (show false = E from HE2.out)
        go_enter Try.func26, Try.ntmps26
        go_upto_region 1 with fail
        rw [HW.out]
        go_wp2_with (first
          | ((with_reducible refine gd_loadg (ty := 24) (x := .tmp 10) ?_); refine wpList_load_atg rowT_act (r := #[.int .i64 td, .string tt]) (V1.out.two 1 rfl rfl) rfl _ rfl (by rfl) rfl ?_)
          | (go_at_call 50; have g2 := HC2; clear HC2; refine (g2 _).out.mono ?_; clear g2; rintro e9 w2 ⟨rfl, b9⟩; have HB := hd (step_b HB.out b9); clear b9))
        go_ret
        exact ⟨ret_bool HE3.out, HB.out⟩
      | true =>
        cases C with
        | false =>
          have HE3 := hd (show false = E from HE2.out)
          go_enter Try.func26, Try.ntmps26
          go_upto_region 1 with fail
          rw [HW.out]
          go_wp2_with (first
            | ((with_reducible refine gd_loadg (ty := 24) (x := .tmp 10) ?_); refine wpList_load_atg rowT_act (r := #[.int .i64 td, .string tt]) (V1.out.two 1 rfl rfl) rfl _ rfl (by rfl) rfl ?_)
            | ((with_reducible refine gd_loadg (ty := 24) (x := .tmp 22) ?_); refine wpList_load_atg rowT_act (r := #[.int .i64 od, .string ot]) (V1.out.two 3 rfl rfl) rfl _ rfl (by rfl) rfl ?_)
            | (go_at_call 50; have g2 := HC2; clear HC2; refine (g2 _).out.mono ?_; clear g2; rintro e9 w2 ⟨rfl, b9⟩; clear l1 l5; have V1 := hd (V1.out.keep b9); have l1 : w2.cell? ⟨w.heap.size, 1, none⟩ = some (.int .i64 td) := V1.out.cell 1 _ rfl; have HB := hd (step_b HB.out b9); clear b9)
            | (go_at_call 50; refine (HC3 _).out.mono ?_; rintro e9 w3 ⟨rfl, b9⟩; clear l1; have V1 := hd (V1.out.keep b9); have l1 : w3.cell? ⟨w.heap.size, 1, none⟩ = some (.int .i64 td) := V1.out.cell 1 _ rfl; have l5 : w3.cell? ⟨w.heap.size, 5, none⟩ = some (.slice K nk ck) := V1.out.cell 5 _ rfl; have HB := hd (step_b HB.out b9); clear b9))
          go_ret
          exact ⟨ret_bool HE3.out, HB.out⟩
        | true =>
          have HE3 := hd (show (kidsOk r.kids && fillT r) = E from HE2.out)
          clear HE2
          go_enter Try.func26, Try.ntmps26
          go_upto_region 1 with fail
          rw [HW.out]
          go_upto_region 3 with (first
            | ((with_reducible refine gd_loadg (ty := 24) (x := .tmp 10) ?_); refine wpList_load_atg rowT_act (r := #[.int .i64 td, .string tt]) (V1.out.two 1 rfl rfl) rfl _ rfl (by rfl) rfl ?_)
            | ((with_reducible refine gd_loadg (ty := 24) (x := .tmp 22) ?_); refine wpList_load_atg rowT_act (r := #[.int .i64 od, .string ot]) (V1.out.two 3 rfl rfl) rfl _ rfl (by rfl) rfl ?_)
            | (go_at_call 50; have g2 := HC2; clear HC2; refine (g2 _).out.mono ?_; clear g2; rintro e9 w2 ⟨rfl, b9⟩; clear l1 l5; have V1 := hd (V1.out.keep b9); have l1 : w2.cell? ⟨w.heap.size, 1, none⟩ = some (.int .i64 td) := V1.out.cell 1 _ rfl; have HB := hd (step_b HB.out b9); clear b9)
            | (go_at_call 50; refine (HC3 _).out.mono ?_; rintro e9 w3 ⟨rfl, b9⟩; clear l1; have V1 := hd (V1.out.keep b9); have l1 : w3.cell? ⟨w.heap.size, 1, none⟩ = some (.int .i64 td) := V1.out.cell 1 _ rfl; have l5 : w3.cell? ⟨w.heap.size, 5, none⟩ = some (.slice K nk ck) := V1.out.cell 5 _ rfl; have HB := hd (step_b HB.out b9); clear b9))
          clear l1
          have HBR := hd (Below.refl w3.heap.size w3)
          go_wp2_with fail
          clear l5
          go_loopw [30] (fun i wr => ∃ k : Nat, k ≤ nk ∧ i = .int .i64 k ∧ Hid (∀ j, j < k → stepK r.kids j = true) ∧ Hid (Below w3.heap.size w3 wr)) (fun i _ => nk - (intOf i).toNat)
          case atStart => exact ⟨0, Nat.zero_le _, rfl, hd (fun j hj => absurd hj (Nat.not_lt_zero _)), HBR⟩
          case round =>
            obtain ⟨k, hk1, rfl, HA, HBR⟩ := hrel
            have V1 := hd (V1.out.keep HBR.out)
            have HB := hd (step_b HB.out HBR.out)
            by_cases hlt : k < nk
            · have hlt2 : k < r.kids.length := by rw [HN.out]; exact hlt
              obtain ⟨b, o, hK, hbl, hr⟩ := (HR.out.later HB.out).kid hlt2
              obtain rfl : K = some ⟨b, o, none⟩ := hK
              have hf := HFIT.out.kids (kidAt r.kids k) (by rw [kidAt_mem hlt2]; exact List.getElem_mem _)
              obtain ⟨p, hp⟩ : ∃ p, kidAt r.kids k = p := ⟨_, rfl⟩
              rw [hp] at hr hf
              have HRG := hd hr
              have HP := hd hp
              obtain ⟨pty, ⟨pa, pat⟩⟩ := p
              have HFT := hd (show FitN1 pty from hf.1)
              have HFA := hd (show FitN1 pat from hf.2)
              obtain ⟨W2, hW2⟩ : ∃ W2, wr.alloc (.cells (PairT.mk pty ⟨pa, pat⟩).row 52) = W2 := ⟨_, rfl⟩
              have hb2 : Below wr.heap.size wr W2 := hW2 ▸ (Below.refl _ _).alloc (Nat.le_refl _) _
              have hv2 : VarR 52 W2 wr.heap.size (PairT.mk pty ⟨pa, pat⟩).row := hW2 ▸ VarR.new wr 52 (PairT.mk pty ⟨pa, pat⟩).row
              have V1 := hd (V1.out.keep hb2)
              have HB := hd (step_b HB.out hb2)
              have HBR := hd (step_b HBR.out hb2)
              have u0 := later_cell (hv2.cell 0 (.string pty) rfl)
              have u5 := later_cell (V1.out.cell 5 (.slice (some ⟨b, o, none⟩) nk ck) rfl)
              have HVA := hd (later_range (hv2.two 1 (x := .int .i64 pa) (y := .string pat) rfl rfl) hv2.lt)
              have HW2 := hd hW2
              obtain ⟨v, hnm⟩ : ∃ v, nameT pty = v := ⟨_, rfl⟩
              obtain ⟨f, hfm⟩ : ∃ f, formT ⟨pa, pat⟩ = f := ⟨_, rfl⟩
              have HNM := hd hnm
              have HFM := hd hfm
              clear hr hf hp hv2 hW2
              cases v with
              | false =>
                have HX := hd (show false = E by rw [← HE3.out, kids_fails hlt2 (by unfold stepK; rw [HP.out, hnm]; rfl)]; rfl)
                clear hnm hfm HA hb2
                go_upto_region 6 with (first
                  | ((with_reducible refine gd_load (ty := 52) (x := .tmp 33) ?_); refine wpList_load_at rowT_pair (r := (PairT.mk pty ⟨pa, pat⟩).row) HRG.out rfl _ rfl rfl rfl ?_)
                  | ((with_reducible refine gd_store (ty := 52) (x := .tmp 4) ?_); refine wpList_store_new rowT_pair (r := (PairT.mk pty ⟨pa, pat⟩).row) rfl rfl (PairT.one _) _ _ rfl rfl rfl rfl rfl rfl ?_))
                rw [HW2.out]
                refine wp_region_later W2.heap.size (by kernel_rfl) (by kernel_rfl) ?_
                repeat (first
                  | (go_big_quiet_want; (with_reducible refine gq_load (ty := 24) (x := .tmp 56) ?_); refine quiet_load rowT_act (r := #[.int .i64 pa, .string pat]) HVA.out rfl _ rfl rfl ?_; go_big_quiet_on; simp only [Act.put, List.setIfInBounds_toArray, List.set_cons_succ, List.set_cons_zero])
                  | go_big_quiet_step (first
                      | (go_at_call 25; exact later_in (Nat.le_refl _) (rname_any HFT.out HNM.out _))
                      | (go_at_call 50; exact later_in (Nat.le_refl _) (rformed_any (a := ⟨pa, pat⟩) HFA.out HFM.out _))))
                refine wpQuiet_nil ?_
                intro w9 hu
                obtain ⟨⟨w10, hw10⟩, hw9⟩ := hu
                have e9 : w10 = w9 := hw9.symm
                subst e9
                have HB := hd (step_b HB.out hw10)
                have HBR := hd (step_b HBR.out hw10)
                have V1 := hd (V1.out.keep hw10)
                clear hw9 hw10 u0 u5 HVA
                go_wp2_with fail
                go_ret
                exact ⟨ret_bool HX.out, HB.out⟩
              | true =>
                by_cases h0 : 0 < k
                · obtain ⟨b', o', e', hbl', hr'⟩ := ((HR.out.later HB.out)).kid (k := k - 1) (by omega)
                  obtain ⟨rfl, rfl⟩ : b = b' ∧ o = o' := by simpa using e'
                  have up := later_cell (show W2.cell? ⟨b, o + (k - 1) * 3, none⟩ = some (.string (kidAt r.kids (k - 1)).ty) from by have := hr' 0 _ rfl; rwa [Nat.add_zero] at this)
                  have h0i : (0 : Int) < (k : Int) := by omega
                  clear e' hr' hbl'
                  cases hle : (Op.bytesLess pty.toList (kidAt r.kids (k - 1)).ty.toList || pty.toList == (kidAt r.kids (k - 1)).ty.toList)
                  · cases f with
                    | false =>
                      have HX := hd (show false = E by rw [← HE3.out, kids_fails hlt2 (by unfold stepK; rw [HP.out, hfm]; simp)]; rfl)
                      clear hnm hfm HA hb2
                      go_upto_region 6 with (first
                        | ((with_reducible refine gd_load (ty := 52) (x := .tmp 33) ?_); refine wpList_load_at rowT_pair (r := (PairT.mk pty ⟨pa, pat⟩).row) HRG.out rfl _ rfl rfl rfl ?_)
                        | ((with_reducible refine gd_store (ty := 52) (x := .tmp 4) ?_); refine wpList_store_new rowT_pair (r := (PairT.mk pty ⟨pa, pat⟩).row) rfl rfl (PairT.one _) _ _ rfl rfl rfl rfl rfl rfl ?_))
                      rw [HW2.out]
                      refine wp_region_later W2.heap.size (by kernel_rfl) (by kernel_rfl) ?_
                      repeat (first
                        | (go_big_quiet_want; (with_reducible refine gq_load (ty := 24) (x := .tmp 56) ?_); refine quiet_load rowT_act (r := #[.int .i64 pa, .string pat]) HVA.out rfl _ rfl rfl ?_; go_big_quiet_on; simp only [Act.put, List.setIfInBounds_toArray, List.set_cons_succ, List.set_cons_zero])
                        | go_big_quiet_step (first
                            | (go_at_call 25; exact later_in (Nat.le_refl _) (rname_any HFT.out HNM.out _))
                            | (go_at_call 50; exact later_in (Nat.le_refl _) (rformed_any (a := ⟨pa, pat⟩) HFA.out HFM.out _))))
                      refine wpQuiet_nil ?_
                      intro w9 hu
                      obtain ⟨⟨w10, hw10⟩, hw9⟩ := hu
                      have e9 : w10 = w9 := hw9.symm
                      subst e9
                      have HB := hd (step_b HB.out hw10)
                      have HBR := hd (step_b HBR.out hw10)
                      have V1 := hd (V1.out.keep hw10)
                      clear hw9 hw10 u0 u5 HVA
                      go_wp2_with fail
                      go_ret
                      exact ⟨ret_bool HX.out, HB.out⟩
                    | true =>
                      have HX := one_more (p := fun j => stepK r.kids j = true) HA (by show (nameT (kidAt r.kids k).ty && (!(decide (0 < k) && leB (kidAt r.kids k).ty (kidAt r.kids (k - 1)).ty) && formT (kidAt r.kids k).act)) = true; unfold leB; rw [HP.out, hnm, hfm, hle]; simp)
                      clear hnm hfm HA hb2
                      go_upto_region 6 with (first
                        | ((with_reducible refine gd_load (ty := 52) (x := .tmp 33) ?_); refine wpList_load_at rowT_pair (r := (PairT.mk pty ⟨pa, pat⟩).row) HRG.out rfl _ rfl rfl rfl ?_)
                        | ((with_reducible refine gd_store (ty := 52) (x := .tmp 4) ?_); refine wpList_store_new rowT_pair (r := (PairT.mk pty ⟨pa, pat⟩).row) rfl rfl (PairT.one _) _ _ rfl rfl rfl rfl rfl rfl ?_))
                      rw [HW2.out]
                      refine wp_region_later W2.heap.size (by kernel_rfl) (by kernel_rfl) ?_
                      repeat (first
                        | (go_big_quiet_want; (with_reducible refine gq_load (ty := 24) (x := .tmp 56) ?_); refine quiet_load rowT_act (r := #[.int .i64 pa, .string pat]) HVA.out rfl _ rfl rfl ?_; go_big_quiet_on; simp only [Act.put, List.setIfInBounds_toArray, List.set_cons_succ, List.set_cons_zero])
                        | go_big_quiet_step (first
                            | (go_at_call 25; exact later_in (Nat.le_refl _) (rname_any HFT.out HNM.out _))
                            | (go_at_call 50; exact later_in (Nat.le_refl _) (rformed_any (a := ⟨pa, pat⟩) HFA.out HFM.out _))))
                      refine wpQuiet_nil ?_
                      intro w9 hu
                      obtain ⟨⟨w10, hw10⟩, hw9⟩ := hu
                      have e9 : w10 = w9 := hw9.symm
                      subst e9
                      have HB := hd (step_b HB.out hw10)
                      have HBR := hd (step_b HBR.out hw10)
                      have V1 := hd (V1.out.keep hw10)
                      clear hw9 hw10 u0 u5 HVA
                      go_wp2_with fail
                      go_roundw
                      case rel => exact ⟨k + 1, by omega, by go_num, HX, HBR⟩
                      case measure => simp [intOf]; omega
                  · have HX := hd (show false = E by rw [← HE3.out, kids_fails hlt2 (by unfold stepK leB; rw [HP.out, hnm, hle, decide_eq_true h0]; rfl)]; rfl)
                    clear hnm hfm HA hb2
                    go_upto_region 6 with (first
                      | ((with_reducible refine gd_load (ty := 52) (x := .tmp 33) ?_); refine wpList_load_at rowT_pair (r := (PairT.mk pty ⟨pa, pat⟩).row) HRG.out rfl _ rfl rfl rfl ?_)
                      | ((with_reducible refine gd_store (ty := 52) (x := .tmp 4) ?_); refine wpList_store_new rowT_pair (r := (PairT.mk pty ⟨pa, pat⟩).row) rfl rfl (PairT.one _) _ _ rfl rfl rfl rfl rfl rfl ?_))
                    rw [HW2.out]
                    refine wp_region_later W2.heap.size (by kernel_rfl) (by kernel_rfl) ?_
                    repeat (first
                      | (go_big_quiet_want; (with_reducible refine gq_load (ty := 24) (x := .tmp 56) ?_); refine quiet_load rowT_act (r := #[.int .i64 pa, .string pat]) HVA.out rfl _ rfl rfl ?_; go_big_quiet_on; simp only [Act.put, List.setIfInBounds_toArray, List.set_cons_succ, List.set_cons_zero])
                      | go_big_quiet_step (first
                          | (go_at_call 25; exact later_in (Nat.le_refl _) (rname_any HFT.out HNM.out _))
                          | (go_at_call 50; exact later_in (Nat.le_refl _) (rformed_any (a := ⟨pa, pat⟩) HFA.out HFM.out _))))
                    refine wpQuiet_nil ?_
                    intro w9 hu
                    obtain ⟨⟨w10, hw10⟩, hw9⟩ := hu
                    have e9 : w10 = w9 := hw9.symm
                    subst e9
                    have HB := hd (step_b HB.out hw10)
                    have HBR := hd (step_b HBR.out hw10)
                    have V1 := hd (V1.out.keep hw10)
                    clear hw9 hw10 u0 u5 HVA
                    go_wp2_with fail
                    go_ret
                    exact ⟨ret_bool HX.out, HB.out⟩
                · have h0i : decide ((0 : Int) < (k : Int)) = false := dec_no (by omega)
                  cases f with
                  | false =>
                    have HX := hd (show false = E by rw [← HE3.out, kids_fails hlt2 (by unfold stepK; rw [HP.out, hfm]; simp)]; rfl)
                    clear hnm hfm HA hb2
                    go_upto_region 6 with (first
                      | ((with_reducible refine gd_load (ty := 52) (x := .tmp 33) ?_); refine wpList_load_at rowT_pair (r := (PairT.mk pty ⟨pa, pat⟩).row) HRG.out rfl _ rfl rfl rfl ?_)
                      | ((with_reducible refine gd_store (ty := 52) (x := .tmp 4) ?_); refine wpList_store_new rowT_pair (r := (PairT.mk pty ⟨pa, pat⟩).row) rfl rfl (PairT.one _) _ _ rfl rfl rfl rfl rfl rfl ?_))
                    rw [HW2.out]
                    refine wp_region_later W2.heap.size (by kernel_rfl) (by kernel_rfl) ?_
                    repeat (first
                      | (go_big_quiet_want; (with_reducible refine gq_load (ty := 24) (x := .tmp 56) ?_); refine quiet_load rowT_act (r := #[.int .i64 pa, .string pat]) HVA.out rfl _ rfl rfl ?_; go_big_quiet_on; simp only [Act.put, List.setIfInBounds_toArray, List.set_cons_succ, List.set_cons_zero])
                      | go_big_quiet_step (first
                          | (go_at_call 25; exact later_in (Nat.le_refl _) (rname_any HFT.out HNM.out _))
                          | (go_at_call 50; exact later_in (Nat.le_refl _) (rformed_any (a := ⟨pa, pat⟩) HFA.out HFM.out _))))
                    refine wpQuiet_nil ?_
                    intro w9 hu
                    obtain ⟨⟨w10, hw10⟩, hw9⟩ := hu
                    have e9 : w10 = w9 := hw9.symm
                    subst e9
                    have HB := hd (step_b HB.out hw10)
                    have HBR := hd (step_b HBR.out hw10)
                    have V1 := hd (V1.out.keep hw10)
                    clear hw9 hw10 u0 u5 HVA
                    go_wp2_with fail
                    go_ret
                    exact ⟨ret_bool HX.out, HB.out⟩
                  | true =>
                    have HX := one_more (p := fun j => stepK r.kids j = true) HA (by show (nameT (kidAt r.kids k).ty && (!(decide (0 < k) && _) && formT (kidAt r.kids k).act)) = true; rw [HP.out, hnm, hfm, dec_no h0]; rfl)
                    clear hnm hfm HA hb2
                    go_upto_region 6 with (first
                      | ((with_reducible refine gd_load (ty := 52) (x := .tmp 33) ?_); refine wpList_load_at rowT_pair (r := (PairT.mk pty ⟨pa, pat⟩).row) HRG.out rfl _ rfl rfl rfl ?_)
                      | ((with_reducible refine gd_store (ty := 52) (x := .tmp 4) ?_); refine wpList_store_new rowT_pair (r := (PairT.mk pty ⟨pa, pat⟩).row) rfl rfl (PairT.one _) _ _ rfl rfl rfl rfl rfl rfl ?_))
                    rw [HW2.out]
                    refine wp_region_later W2.heap.size (by kernel_rfl) (by kernel_rfl) ?_
                    repeat (first
                      | (go_big_quiet_want; (with_reducible refine gq_load (ty := 24) (x := .tmp 56) ?_); refine quiet_load rowT_act (r := #[.int .i64 pa, .string pat]) HVA.out rfl _ rfl rfl ?_; go_big_quiet_on; simp only [Act.put, List.setIfInBounds_toArray, List.set_cons_succ, List.set_cons_zero])
                      | go_big_quiet_step (first
                          | (go_at_call 25; exact later_in (Nat.le_refl _) (rname_any HFT.out HNM.out _))
                          | (go_at_call 50; exact later_in (Nat.le_refl _) (rformed_any (a := ⟨pa, pat⟩) HFA.out HFM.out _))))
                    refine wpQuiet_nil ?_
                    intro w9 hu
                    obtain ⟨⟨w10, hw10⟩, hw9⟩ := hu
                    have e9 : w10 = w9 := hw9.symm
                    subst e9
                    have HB := hd (step_b HB.out hw10)
                    have HBR := hd (step_b HBR.out hw10)
                    have V1 := hd (V1.out.keep hw10)
                    clear hw9 hw10 u0 u5 HVA
                    go_wp2_with fail
                    go_roundw
                    case rel => exact ⟨k + 1, by omega, by go_num, HX, HBR⟩
                    case measure => simp [intOf]; omega
            · obtain rfl : k = nk := by omega
              have HX := hd (show fillT r = E by
                rw [← HE3.out, kids_all (fun j hj => HA.out j (by rw [← HN.out]; exact hj))]; rfl)
              have hX := HX.out
              unfold fillT at hX
              rw [HFI.out, HFT0.out] at hX
              have l6 : wr.cell? ⟨w.heap.size, 6, none⟩ = some (.int .i64 fill) := V1.out.cell 6 _ rfl
              have l7 : wr.cell? ⟨w.heap.size, 7, none⟩ = some (.string fty) := V1.out.cell 7 _ rfl
              have hft : FitN1 fty := by have := HFIT.out.fty; rw [HFT0.out] at this; exact this
              have hem : (emptyN fty = true ∧ fty.toList = [] ∧ fty.toList.isEmpty = true) ∨ (emptyN fty = false ∧ fty.toList ≠ [] ∧ fty.toList.isEmpty = false) := by
                unfold emptyN
                cases h : fty.toList with
                | nil => exact .inl ⟨rfl, rfl, rfl⟩
                | cons x l => exact .inr ⟨rfl, by simp, rfl⟩
              clear HA
              by_cases f0 : fill = 0
              · subst f0
                rw [if_pos (.inl rfl)] at hX
                rcases hem with ⟨z, y0, y1⟩ | ⟨z, y0, y1⟩
                · rw [z] at hX
                  have HZ := hd hX
                  clear hX z
                  go_wp2_with fail
                  go_ret
                  exact ⟨ret_bool HZ.out, HB.out⟩
                · rw [z] at hX
                  have HZ := hd hX
                  clear hX z
                  go_wp2_with fail
                  go_ret
                  exact ⟨ret_bool HZ.out, HB.out⟩
              · have g0 : (fill == 0) = false := by simpa using f0
                by_cases f1 : fill = 1
                · subst f1
                  rw [if_pos (.inr rfl)] at hX
                  rcases hem with ⟨z, y0, y1⟩ | ⟨z, y0, y1⟩
                  · rw [z] at hX
                    have HZ := hd hX
                    clear hX z
                    go_wp2_with fail
                    go_ret
                    exact ⟨ret_bool HZ.out, HB.out⟩
                  · rw [z] at hX
                    have HZ := hd hX
                    clear hX z
                    go_wp2_with fail
                    go_ret
                    exact ⟨ret_bool HZ.out, HB.out⟩
                · have g1 : (fill == 1) = false := by simpa using f1
                  rw [if_neg (by omega)] at hX
                  by_cases f2 : fill = 2
                  · subst f2
                    rw [if_pos rfl] at hX
                    have HC5 := hd (rname_any hft hX wr)
                    clear hX hem hft
                    go_wp2_with (go_at_call 25; refine HC5.out.mono ?_; rintro e9 w8 ⟨rfl, b9⟩; have HB := hd (step_b HB.out b9); clear b9)
                    go_ret
                    exact ⟨rfl, HB.out⟩
                  · have g2 : (fill == 2) = false := by simpa using f2
                    rw [if_neg f2] at hX
                    have HZ := hd hX
                    clear hX hem hft
                    go_wp2_with fail
                    go_ret
                    exact ⟨ret_bool HZ.out, HB.out⟩

end Go.Proofs.Ytegaapeaeffgoaa
