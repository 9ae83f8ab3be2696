/- BackTwice answers true. -/
import Derived.Test.YtdjajpookmmafaaBAll
import Derived.Test.YtdjajpookmmafaaICheck
namespace Go.Proofs.Ytdjajpookmmafaa
open Go.RowKit

theorem few_all {us : List OpP} {m : Int} (h : fewAllO us m = true) : (∀ (k : Nat) (a : OpP), us[k]? = some a → Tiny a) ∧ (us.length : Int) ≤ m := by
  unfold fewAllO at h
  rw [Bool.and_eq_true, List.all_eq_true, decide_eq_true_iff] at h
  exact ⟨fun k a hk => fewO_tiny (h.1 a (List.mem_of_getElem? hk)), h.2⟩
set_option maxRecDepth 4000 in
theorem icheck_at {A : Option Addr} {l : List Int} {n c : Nat} {w : World} {E : Int} (hE : checkL l = E) (hn : l.length = n) (hl : n ≤ 9223372036854775807) (hp : IL w w.heap.size A l) :
    Calls Try.prog 20 #[.slice A n c] w (Still (.int .i64 E) w) := by
  subst hn
  subst hE
  exact calls_still (icheck_any A l c w hl hp)
set_option maxRecDepth 100000 in
set_option maxHeartbeats 8000000 in
theorem btwice_0 (w : World) (A : Option Addr) (us : List OpP) (n cap : Nat) (ds : List OC) (h : LO w A ds us) (hn : us.length = n) (h63 : n ≤ 9223372036854775807) (hf : fewAllO us 20 = false) : Calls Try.prog 5 #[.slice A n cap] w (AllTrue w) := by
  have HL := hd h
  have HN := hd hn
  have HF := hd hf
  clear h hn hf
  go_enter Try.func5, Try.ntmps5
  go_wp2_with (first
    | (go_at_call 9; refine Calls.mono (live11_any _) ?_; rintro e w1 ⟨rfl, b9⟩; have HB := hd b9; clear b9)
    | (go_at_call 16; refine Calls.mono (fewall_at (HL.out.later HB.out) HN.out h63 20) ?_; rw [HF.out]; rintro e w2 ⟨rfl, b9⟩; have HB := hd (step_b HB.out b9); clear b9))
  go_ret
  exact ⟨rfl, HB.out⟩
set_option maxRecDepth 100000 in
set_option maxHeartbeats 8000000 in
theorem btwice_1 (w : World) (A : Option Addr) (us : List OpP) (n cap : Nat) (ds : List OC) (h : LO w A ds us) (hn : us.length = n) (hcap : n ≤ cap) (hf : fewAllO us 20 = true) : Calls Try.prog 5 #[.slice A n cap] w (AllTrue w) := by
  have HT := hd (few_all hf).1
  have h20 : n ≤ 20 := by have := (few_all hf).2; omega
  have HL := hd h
  have HN := hd hn
  have HF := hd hf
  clear h hn hf
  go_enter Try.func5, Try.ntmps5
  go_wp2_with (first
    | (go_at_call 9; refine Calls.mono (live11_any _) ?_; rintro e w1 ⟨rfl, b9⟩; have HB := hd b9; clear b9)
    | (go_at_call 16; refine Calls.mono (fewall_at (HL.out.later HB.out) HN.out (by omega) 20) ?_; rw [HF.out]; rintro e w2 ⟨rfl, b9⟩; have HB := hd (step_b HB.out b9); clear b9))
  have HB2 := hd HB.out
  clear HB
  go_loopw [22] (fun i wr => ∃ k : Nat, k ≤ n ∧ i = .int .i64 k ∧ Hid (∀ (j : Nat) (a : OpP), j < k → us[j]? = some a → checkL a.q = 0) ∧ Hid (Below w.heap.size w wr)) (fun i _ => n - (intOf i).toNat)
  case atStart => exact ⟨0, Nat.zero_le _, rfl, hd (fun j a hj => absurd hj (Nat.not_lt_zero _)), HB2⟩
  case round =>
    obtain ⟨k, hk1, rfl, HA, HB⟩ := hrel
    by_cases hlt : k < n
    · obtain ⟨b, o, c, a, rfl, hb, hc, ha, hok, hrg⟩ := (HL.out.later HB.out).at_ (k := k) (by rw [HN.out]; exact hlt)
      have HO := hd hok
      have HR := hd hrg
      have HAk := hd ha
      have hlq : c.lq ≤ 9223372036854775807 := hok.hmq
      clear hb hc ha hok hrg
      obtain ⟨E, hE⟩ : ∃ E, checkL a.q = E := ⟨_, rfl⟩
      by_cases hz : E = 0
      · subst hz
        have HE := hd hE
        have HA2 := hd (show ∀ (j : Nat) (a : OpP), j < k + 1 → us[j]? = some a → checkL a.q = 0 from fun j x hj hx => by
          rcases Nat.lt_or_ge j k with h1 | h1
          · exact HA.out j x h1 hx
          · obtain rfl : j = k := by omega
            rw [HAk.out] at hx
            injection hx with hx
            subst hx
            exact hE)
        clear hE HA
        go_wp2_with (first
          | ((with_reducible refine gd_load (ty := 35) (x := .tmp 24) ?_); refine wpList_load_el HR.out _ rfl rfl rfl ?_)
          | ((with_reducible refine gd_store (ty := 35) (x := .tmp 4) ?_); refine wpList_store_oc (c := c) _ _ rfl rfl rfl rfl rfl rfl rfl ?_; have hb9 := new_below wr (.cells (OC.row c) 35); have HV := hd (VarO.new wr c); have HO := hd (HO.out.later hb9); have HB := hd (step_b HB.out hb9); clear hb9)
          | ((with_reducible refine gd_load (ty := 22) (x := .tmp 26) ?_); refine wpList_load_f1 HV.out (j := 1) (v := .slice c.Q c.lq c.cq) _ rfl rfl rfl rfl Try.underlying22 rfl ?_)
          | (go_at_call 20; refine Calls.mono (icheck_at HE.out HO.out.hlq hlq HO.out.hq) ?_; rintro e w3 ⟨rfl, b9⟩; have HB := hd (step_b HB.out b9); clear b9))
        go_roundw
        case rel => exact ⟨k + 1, by omega, by go_num, HA2, HB⟩
        case measure => simp [intOf]; omega
      · have HE := hd hE
        have hne : (E != 0) = true := by simpa using hz
        have heq : (E == 0) = false := by simpa using hz
        clear hE HA hz
        go_wp2_with (first
          | ((with_reducible refine gd_load (ty := 35) (x := .tmp 24) ?_); refine wpList_load_el HR.out _ rfl rfl rfl ?_)
          | ((with_reducible refine gd_store (ty := 35) (x := .tmp 4) ?_); refine wpList_store_oc (c := c) _ _ rfl rfl rfl rfl rfl rfl rfl ?_; have hb9 := new_below wr (.cells (OC.row c) 35); have HV := hd (VarO.new wr c); have HO := hd (HO.out.later hb9); have HB := hd (step_b HB.out hb9); clear hb9)
          | ((with_reducible refine gd_load (ty := 22) (x := .tmp 26) ?_); refine wpList_load_f1 HV.out (j := 1) (v := .slice c.Q c.lq c.cq) _ rfl rfl rfl rfl Try.underlying22 rfl ?_)
          | (go_at_call 20; refine Calls.mono (icheck_at HE.out HO.out.hlq hlq HO.out.hq) ?_; rintro e w3 ⟨rfl, b9⟩; have HB := hd (step_b HB.out b9); clear b9))
        go_ret
        exact ⟨rfl, HB.out⟩
    · have ekn : n = k := by omega
      subst ekn
      have HCK := hd (show ∀ (j : Nat) (a : OpP), us[j]? = some a → InI a.q ∧ checkL a.q = 0 from fun j a hj => by
        have hjl := (List.getElem?_eq_some_iff.1 hj).1
        have hjd : j < ds.length := by rw [HL.out.hl]; exact hjl
        exact ⟨(HL.out.ha j _ a (List.getElem?_eq_getElem hjd) hj).hiq, HA.out j a (by rw [← HN.out]; exact hjl) hj⟩)
      clear HA hk1 hlt
      go_wp2_with fail
      have HB2 := hd HB.out
      clear HB
      go_loopw [33] (fun i wr => ∃ k : Nat, k ≤ n ∧ i = .int .i64 k ∧ Hid (Below w.heap.size w wr)) (fun i _ => n - (intOf i).toNat)
      case atStart => exact ⟨0, Nat.zero_le _, rfl, HB2⟩
      case round =>
        obtain ⟨k, hk1, rfl, HB⟩ := hrel
        by_cases hlt : k < n
        · obtain ⟨b, o, c, a, rfl, hb, hc, ha, hok, hrg⟩ := (HL.out.later HB.out).at_ (k := k) (by rw [HN.out]; exact hlt)
          obtain ⟨⟨x, er⟩, hin⟩ : ∃ r, invO a = r := ⟨_, rfl⟩
          have HO := hd hok
          have HR := hd hrg
          have hta := HT.out k a ha
          have HTA := hd hta
          have HTX := hd (show Tiny x by have h := inv_tiny hta; rw [hin] at h; exact h)
          have HCC := hd (HCK.out k a ha)
          have HIN := hd hin
          clear hb hc ha hok hrg hta hin
          go_upto_region 15 with (first
            | ((with_reducible refine gd_load (ty := 35) (x := .tmp 35) ?_); refine wpList_load_el HR.out _ rfl rfl rfl ?_)
            | ((with_reducible refine gd_store (ty := 35) (x := .tmp 6) ?_); refine wpList_store_oc (c := c) _ _ rfl rfl rfl rfl rfl rfl rfl ?_; have hb9 := new_below wr (.cells (OC.row c) 35); have HV6 := hd (VarO.new wr c); have HO := hd (HO.out.later hb9); have HB := hd (step_b HB.out hb9); clear hb9)
            | ((with_reducible refine gd_load (ty := 35) (x := .tmp 6) ?_); refine wpList_load_oc HV6.out _ rfl rfl rfl ?_)
            | (go_at_call 11; refine (inverse_at _ c a HO.out HTA.out).mono ?_; rintro e w3 ⟨cx, rfl, hs, b9⟩; have HX := hd hs.now; have HO := hd (HO.out.later b9); have HV6 := hd (HV6.out.keep b9); have HB := hd (step_b HB.out b9); clear hs b9; rw [HIN.out]; dsimp only; rw [HIN.out] at HX)
            | ((with_reducible refine gd_store (ty := 35) (x := .tmp 7) ?_); refine wpList_store_oc (c := cx) _ _ rfl rfl rfl rfl rfl rfl rfl ?_; have hb9 := new_below w3 (.cells (OC.row cx) 35); have HV7 := hd (VarO.new w3 cx); have HX := hd (HX.out.later hb9); have HV6 := hd (HV6.out.keep hb9); have HO := hd (HO.out.later hb9); have HB := hd (step_b HB.out hb9); clear hb9))
          obtain ⟨g6, hg6⟩ : ∃ g, wr.heap.size = g := ⟨_, rfl⟩
          obtain ⟨g7, hg7⟩ : ∃ g, w3.heap.size = g := ⟨_, rfl⟩
          rw [hg6] at HV6
          rw [hg7] at HV7
          try rw [hg6]
          try rw [hg7]
          obtain ⟨W, hWW⟩ : ∃ W, w3.alloc (.cells cx.row 35) = W := ⟨_, rfl⟩
          rw [hWW] at HV6 HV7 HX HO HB
          rw [hWW]
          clear hWW hg7 hg6
          by_cases hz : er = 0
          · subst hz
            have hii := inv_inv (a := a) (by rw [HIN.out]) HCC.out.1 HCC.out.2
            rw [HIN.out] at hii
            have HFX := hd hii.1
            have HI2 := hd hii.2
            have HSA := hd (eqO_self a)
            clear hii
            go_upto_region 19 with (first
              | ((with_reducible refine gd_load (ty := 35) (x := .tmp 7) ?_); refine wpList_load_oc HV7.out _ rfl rfl rfl ?_)
              | (go_at_call 11; refine (inverse_at _ cx x HX.out HTX.out).mono ?_; rintro e w4 ⟨cy, rfl, hs, b9⟩; have HY := hd hs.now; have HX := hd (HX.out.later b9); have HO := hd (HO.out.later b9); have HV6 := hd (HV6.out.keep b9); have HV7 := hd (HV7.out.keep b9); have HB := hd (step_b HB.out b9); clear hs b9; rw [HI2.out]; dsimp only; rw [HI2.out] at HY)
              | ((with_reducible refine gd_store (ty := 35) (x := .tmp 9) ?_); refine wpList_store_oc (c := cy) _ _ rfl rfl rfl rfl rfl rfl rfl ?_; have hb9 := new_below w4 (.cells (OC.row cy) 35); have HV9 := hd (VarO.new w4 cy); have HY := hd (HY.out.later hb9); have HX := hd (HX.out.later hb9); have HV6 := hd (HV6.out.keep hb9); have HV7 := hd (HV7.out.keep hb9); have HO := hd (HO.out.later hb9); have HB := hd (step_b HB.out hb9); clear hb9))
            obtain ⟨g9, hg9⟩ : ∃ g, w4.heap.size = g := ⟨_, rfl⟩
            rw [hg9] at HV9
            try rw [hg9]
            obtain ⟨W4, hW4⟩ : ∃ W, w4.alloc (.cells cy.row 35) = W := ⟨_, rfl⟩
            rw [hW4] at HV6 HV7 HV9 HX HY HO HB
            rw [hW4]
            clear hW4 hg9
            go_wp2_with (first
              | ((with_reducible refine gd_loadg (ty := 35) (x := .tmp 9) ?_); refine wpList_load_ocg HV9.out _ rfl (by rfl) rfl ?_)
              | ((with_reducible refine gd_loadg (ty := 35) (x := .tmp 6) ?_); refine wpList_load_ocg HV6.out _ rfl (by rfl) rfl ?_)
              | (go_at_call 13; refine Calls.mono (rsameop_at HY.out HO.out HTA.out HTA.out HSA.out) ?_; rintro e w5 ⟨rfl, b9⟩; have HX := hd (HX.out.later b9); have HV7 := hd (HV7.out.keep b9); have HB := hd (step_b HB.out b9); clear b9)
              | ((with_reducible refine gd_loadg (ty := 35) (x := .tmp 7) ?_); refine wpList_load_ocg HV7.out _ rfl (by rfl) rfl ?_)
              | (go_at_call 14; refine Calls.mono (form_at HX.out HTX.out HFX.out) ?_; rintro e w6 ⟨rfl, b9⟩; have HB := hd (step_b HB.out b9); clear b9))
            go_roundw
            case rel => exact ⟨k + 1, by omega, by go_num, HB⟩
            case measure => simp [intOf]; omega
          · have hx0 := inv_no (o := a) (by rw [HIN.out]; exact hz)
            rw [HIN.out] at hx0
            have hne : (er != 0) = true := by simpa using hz
            have heq : (er == 0) = false := by simpa using hz
            obtain rfl : x = zeroO := hx0
            have HZO := hd (fun W9 : World => (show OkA W9 (OC.mk 0 none 0 0 none 0 0 0 false none 0 0 none 0 0 none 0 0 none 0 0 none 0 0 none 0 0 false none 0 0 0 none 0 0 0 false none 0 0 0 none 0 0 0) zeroO from OkA.zero W9))
            have HSA := hd (eqO_self zeroO)
            clear hz
            go_wp2_with (first
              | ((with_reducible refine gd_load (ty := 35) (x := .tmp 7) ?_); refine wpList_load_oc HV7.out _ rfl rfl rfl ?_)
              | (go_at_call 13; refine Calls.mono (rsameop_at (d := (OC.mk 0 none 0 0 none 0 0 0 false none 0 0 none 0 0 none 0 0 none 0 0 none 0 0 none 0 0 false none 0 0 0 none 0 0 0 false none 0 0 0 none 0 0 0)) HX.out (HZO.out _) HTX.out HTX.out HSA.out) ?_; rintro e w5 ⟨rfl, b9⟩; have HB := hd (step_b HB.out b9); clear b9))
            go_roundw
            case rel => exact ⟨k + 1, by omega, by go_num, HB⟩
            case measure => simp [intOf]; omega
        · have ekn : n = k := by omega
          subst ekn
          clear hk1 hlt
          obtain ⟨⟨ys, er⟩, hall⟩ : ∃ r, allO us = r := ⟨_, rfl⟩
          have HALL := hd hall
          by_cases hz : er = 0
          · subst hz
            have h0 : (allO us).2 = 0 := by rw [hall]
            have hyl : ys.length = n := by have := all_len h0; rw [hall] at this; exact this.trans HN.out
            have HYT := hd (all_tiny HT.out (fun a => inv_tiny))
            have hback := all_all h0 (fun a ha => by obtain ⟨j, hj⟩ := List.getElem?_of_mem ha; exact HCK.out j a hj)
            rw [hall] at hback
            rw [hall] at HYT
            have HBK := hd hback
            have HYL := hd hyl
            have HSS := hd (sameAllO_yes (us := us) rfl)
            clear hall h0 hyl hback
            go_upto_region 25 with (go_at_call 17; refine Calls.mono (ball_at (HL.out.later HB.out) HN.out (by omega) HT.out) ?_; rintro e w5 ⟨A5, c5, d5, rfl, hc5, hl5, b9⟩; have HB := hd (step_b HB.out b9); clear b9; rw [HALL.out] at hc5 hl5 ⊢; dsimp only at hc5 hl5 ⊢; have HL5 := hd hl5; clear hl5; rw [HYL.out] at hc5 ⊢)
            go_upto_region 26 with (go_at_call 17; refine Calls.mono (ball_at HL5.out HYL.out (by omega) HYT.out) ?_; rintro e w6 ⟨A6, c6, d6, rfl, hc6, hl6, b9⟩; have HB := hd (step_b HB.out b9); clear b9; rw [HBK.out] at hc6 hl6 ⊢; dsimp only at hc6 hl6 ⊢; have HL6 := hd hl6; clear hl6; rw [HN.out] at hc6 ⊢)
            go_wp2_with (go_at_call 19; refine Calls.mono (sameall_at HL6.out (HL.out.later HB.out) HN.out HN.out (by omega) hc6 hcap HT.out HT.out HSS.out) ?_; rintro e w7 ⟨rfl, b9⟩; have HB := hd (step_b HB.out b9); clear b9)
            go_ret
            exact ⟨rfl, HB.out⟩
          · have hno := all_no (l := us) (by rw [hall]; exact hz)
            rw [hall] at hno
            obtain rfl : ys = [] := hno
            have hne : (er != 0) = true := by simpa using hz
            have heq : (er == 0) = false := by simpa using hz
            clear hz hall
            go_wp2_with (go_at_call 17; refine Calls.mono (ball_at (HL.out.later HB.out) HN.out (by omega) HT.out) ?_; rintro e w5 ⟨A5, c5, d5, rfl, hc5, hl5, b9⟩; have HB := hd (step_b HB.out b9); clear b9 hl5 hc5; rw [HALL.out]; dsimp only)
            go_ret
            exact ⟨rfl, HB.out⟩
set_option maxRecDepth 4000 in
theorem btwice_law (w : World) (A : Option Addr) (us : List OpP) (cap : Nat) (hcap : us.length ≤ cap) (h63 : us.length ≤ 9223372036854775807) (h : ∃ ds, LO w A ds us) : Calls Try.prog 5 #[.slice A us.length cap] w (AllTrue w) := by
  obtain ⟨ds, h⟩ := h
  cases hf : fewAllO us 20
  · exact btwice_0 w A us _ cap ds h rfl h63 hf
  · exact btwice_1 w A us _ cap ds h rfl hcap hf

end Go.Proofs.Ytdjajpookmmafaa
