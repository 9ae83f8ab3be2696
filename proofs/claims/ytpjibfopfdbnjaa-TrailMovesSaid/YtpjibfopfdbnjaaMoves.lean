/- The walk of TrailMoves: whatever the input, it answers true, and old memory stays as it was. -/
import Derived.Test.YtpjibfopfdbnjaaPool
namespace Go.Proofs.Ytpjibfopfdbnjaa
open Go.RowKit

theorem fst_len {r : List Int × Int} {l : List Int} {e : Int} {n : Nat} (h : r = (l, e)) (hr : r.1.length ≤ n) : l.length ≤ n := by subst h; exact hr
theorem parentL_len (l : List Int) : (parentL l).1.length ≤ l.length := by unfold parentL; split <;> simp
theorem nextL_len (l : List Int) : (nextL l).1.length ≤ l.length := by
  by_cases h : l.length = 0
  · simp [nextL, h]
  · by_cases h2 : lastL l = 9223372036854775807
    · simp [nextL, h, h2]
    · simp [nextL, h, h2, sib_length]
theorem backL_len (l : List Int) : (backL l).1.length ≤ l.length := by
  by_cases h : l.length = 0
  · simp [backL, h]
  · by_cases h2 : lastL l ≤ 0
    · simp [backL, h, h2]
    · simp [backL, h, h2, sib_length]
theorem lev_short (l : List Int) (n : Nat) (h : l.length ≤ n) (k : Nat) (hk : k < (levelsL l).length) : (lAt (levelsL l) k).length ≤ n := by
  rw [levelsL_length] at hk
  rw [lAt_levels l k (by omega)]
  simp; omega

set_option maxRecDepth 100000 in
set_option maxHeartbeats 16000000 in
theorem moves_any (A B : Option Addr) (l m : List Int) (c d : Nat) (w : World) (hl : l.length ≤ 9223372036854775807) (hm : m.length ≤ 9223372036854775807) (hc : l.length ≤ c) (hd1 : m.length ≤ d) (hW : Ints l) (hp : IL w w.heap.size A l) (hq : IL w w.heap.size B m) :
    Calls Try.prog 4 #[.slice A l.length c, .slice B m.length d] w (AllTrue w) := by
  have HP := hd hp
  have HQ := hd hq
  have HW := hd hW
  clear hp hq hW
  cases hs : shortB 2 (two l m)
  · have HS := hd hs
    clear hs
    go_enter Try.func4, Try.ntmps4
    go_wp2_with fail
    refine (live_any _).mono ?_
    rintro e w1 ⟨rfl, hb1⟩
    go_wp2_with fail
    refine (short2 A B l m c d w1 hl hm _ HS.out).mono ?_
    rintro e w2 ⟨rfl, hb2⟩
    go_wp2_with fail
    go_ret
    exact ⟨rfl, hb1.trans (hb2.mono hb1.size)⟩
  · have HS := hd hs
    have s1 : l.length ≤ 100 := (shortB_iff _ _).1 hs 0 (by omega)
    have s2 : m.length ≤ 100 := (shortB_iff _ _).1 hs 1 (by omega)
    clear hs
    obtain ⟨pl, pe, hpe⟩ : ∃ pl pe, parentL l = (pl, pe) := ⟨_, _, rfl⟩
    obtain ⟨nl, ne, hne⟩ : ∃ nl ne, nextL l = (nl, ne) := ⟨_, _, rfl⟩
    obtain ⟨bl, be, hbe⟩ : ∃ bl be, backL l = (bl, be) := ⟨_, _, rfl⟩
    have z1 := fst_len hpe (parentL_len l)
    have z2 := fst_len hne (nextL_len l)
    have z3 := fst_len hbe (backL_len l)
    have HPe := hd hpe
    have HNe := hd hne
    have HBe := hd hbe
    clear hpe hne hbe
    go_enter Try.func4, Try.ntmps4
    go_wp2_with fail
    refine (live_any _).mono ?_
    rintro e w1 ⟨rfl, hb1⟩
    go_wp2_with fail
    refine (short2 A B l m c d w1 hl hm _ HS.out).mono ?_
    rintro e w2 ⟨rfl, hb2⟩
    have hb2 := hb1.trans (hb2.mono hb1.size)
    replace HP := hd (HP.out.later hb2)
    replace HQ := hd (HQ.out.later hb2)
    clear hb1 HS
    go_wp2_with fail
    refine (copy_any A l l.length c w2 rfl (by omega) HP.out).mono ?_
    intro e w3 h
    obtain ⟨A3, c3, rfl, hwas, g3⟩ := h.own l.length rfl
    have HW3 := hd hwas.il
    replace HP := hd (HP.out.later g3)
    replace HQ := hd (HQ.out.later g3)
    have HP3 := hd HP.out
    have hb30 := hb2.trans (g3.mono hb2.size)
    have hb3 : Below w3.heap.size w3 w3 := Below.refl _ _
    clear h hwas g3 hb2
    go_wp2_with fail
    refine (parent_any A l l.length c w3 rfl (by omega) hc HP.out).mono ?_
    intro e w4 h
    obtain ⟨Ap, cp, rfl, O, g4⟩ := h.own pl pe pl.length HPe.out rfl
    have Op := hd O
    clear O h
    have hz4 := hb3.size
    replace HP := hd (HP.out.later g4)
    replace HQ := hd (HQ.out.later g4)
    have hb4 := hb3.trans (g4.mono hb3.size)
    clear g4 hb3
    go_wp2_with fail
    refine (rparent_any A l l.length c w4 rfl (by omega) hc HP.out).mono ?_
    intro e w5 h
    obtain ⟨Aq, cq, rfl, O, g5⟩ := h.own pl pe pl.length HPe.out rfl
    have Oq := hd O
    clear O h
    replace Op := hd (Op.out.below g5)
    replace HP := hd (HP.out.later g5)
    replace HQ := hd (HQ.out.later g5)
    have hb5 := hb4.trans (g5.mono hb4.size)
    clear g5 hb4
    go_wp2_with fail
    refine (next_any A l l.length c w5 rfl (by omega) HW.out HP.out).mono ?_
    intro e w6 h
    obtain ⟨An, cn, rfl, O, g6⟩ := h.own nl ne nl.length HNe.out rfl
    have On := hd O
    clear O h
    replace Op := hd (Op.out.below g6)
    replace Oq := hd (Oq.out.below g6)
    replace HP := hd (HP.out.later g6)
    replace HQ := hd (HQ.out.later g6)
    have hb6 := hb5.trans (g6.mono hb5.size)
    clear g6 hb5
    go_wp2_with fail
    refine (rnext_any A l l.length c w6 rfl (by omega) HW.out HP.out).mono ?_
    intro e w7 h
    obtain ⟨Am, cm, rfl, O, g7⟩ := h.own nl ne nl.length HNe.out rfl
    have Om := hd O
    clear O h
    replace Op := hd (Op.out.below g7)
    replace Oq := hd (Oq.out.below g7)
    replace On := hd (On.out.below g7)
    replace HP := hd (HP.out.later g7)
    replace HQ := hd (HQ.out.later g7)
    have hb7 := hb6.trans (g7.mono hb6.size)
    clear g7 hb6
    go_wp2_with fail
    refine (back_any A l l.length c w7 rfl (by omega) HW.out HP.out).mono ?_
    intro e w8 h
    obtain ⟨As, cs, rfl, O, g8⟩ := h.own bl be bl.length HBe.out rfl
    have Os := hd O
    clear O h
    replace Op := hd (Op.out.below g8)
    replace Oq := hd (Oq.out.below g8)
    replace On := hd (On.out.below g8)
    replace Om := hd (Om.out.below g8)
    replace HP := hd (HP.out.later g8)
    replace HQ := hd (HQ.out.later g8)
    have hb8 := hb7.trans (g8.mono hb7.size)
    clear g8 hb7
    go_wp2_with fail
    refine (rback_any A l l.length c w8 rfl (by omega) HW.out HP.out).mono ?_
    intro e w9 h
    obtain ⟨At, ct, rfl, O, g9⟩ := h.own bl be bl.length HBe.out rfl
    have Ot := hd O
    clear O h
    replace Op := hd (Op.out.below g9)
    replace Oq := hd (Oq.out.below g9)
    replace On := hd (On.out.below g9)
    replace Om := hd (Om.out.below g9)
    replace Os := hd (Os.out.below g9)
    replace HP := hd (HP.out.later g9)
    replace HQ := hd (HQ.out.later g9)
    have hb9 := hb8.trans (g9.mono hb8.size)
    clear g9 hb8
    have hz9 := hb9.size
    have hcl := commonL_length l m
    have hal := alikeN_le l m
    obtain ⟨cl, hcle⟩ : ∃ cl, cl = commonL l m := ⟨_, rfl⟩
    have hcl2 : cl.length ≤ 100 := by rw [hcle]; omega
    have HCl := hd hcle
    clear hcle hcl hal
    go_wp2_with fail
    refine (common_any A B l m c d w9 (by omega) (by omega) hc HP.out HQ.out).mono ?_
    rw [← HCl.out]
    intro e w10 h
    obtain ⟨Ac, cc, rfl, O, g10⟩ := h.own cl.length rfl
    have Oc := hd O
    clear O h
    replace Op := hd (Op.out.below g10)
    replace Oq := hd (Oq.out.below g10)
    replace On := hd (On.out.below g10)
    replace Om := hd (Om.out.below g10)
    replace Os := hd (Os.out.below g10)
    replace Ot := hd (Ot.out.below g10)
    replace HP := hd (HP.out.later g10)
    replace HQ := hd (HQ.out.later g10)
    have hb10 := hb9.trans (g10.mono hb9.size)
    clear g10 hb9
    have hz10 := hb10.size
    go_wp2_with fail
    refine (levels_any A l c w10 (by omega) hc HP.out).mono ?_
    intro e w11 h
    obtain ⟨Al, cL, rfl, O, g11⟩ := h.own (l.length + 1) (levelsL_length l)
    have Ol := hd O
    clear O h
    replace Op := hd (Op.out.below g11)
    replace Oq := hd (Oq.out.below g11)
    replace On := hd (On.out.below g11)
    replace Om := hd (Om.out.below g11)
    replace Os := hd (Os.out.below g11)
    replace Ot := hd (Ot.out.below g11)
    replace Oc := hd (Oc.out.below g11)
    replace HP := hd (HP.out.later g11)
    replace HQ := hd (HQ.out.later g11)
    have hb11 := hb10.trans (g11.mono hb10.size)
    clear g11 hb10
    go_wp2_with fail
    refine (calls_still (rsame_is Ap Aq pl pl pl.length pl.length cp cq true (by unfold sameL; simp) w11 rfl rfl (by omega) (by omega) Op.out.il Oq.out.il)).mono ?_
    rintro e w12 ⟨rfl, g12⟩
    replace Op := hd (Op.out.below g12)
    replace On := hd (On.out.below g12)
    replace Om := hd (Om.out.below g12)
    replace Os := hd (Os.out.below g12)
    replace Ot := hd (Ot.out.below g12)
    replace Oc := hd (Oc.out.below g12)
    replace Ol := hd (Ol.out.below g12)
    replace HP := hd (HP.out.later g12)
    replace HQ := hd (HQ.out.later g12)
    have hb12 := hb11.trans (g12.mono hb11.size)
    clear g12 hb11
    go_wp2_with fail
    refine (calls_still (rsame_is An Am nl nl nl.length nl.length cn cm true (by unfold sameL; simp) w12 rfl rfl (by omega) (by omega) On.out.il Om.out.il)).mono ?_
    rintro e w13 ⟨rfl, g13⟩
    replace Op := hd (Op.out.below g13)
    replace Os := hd (Os.out.below g13)
    replace Ot := hd (Ot.out.below g13)
    replace Oc := hd (Oc.out.below g13)
    replace Ol := hd (Ol.out.below g13)
    replace HP := hd (HP.out.later g13)
    replace HQ := hd (HQ.out.later g13)
    have hb13 := hb12.trans (g13.mono hb12.size)
    clear g13 hb12
    go_wp2_with fail
    refine (calls_still (rsame_is As At bl bl bl.length bl.length cs ct true (by unfold sameL; simp) w13 rfl rfl (by omega) (by omega) Os.out.il Ot.out.il)).mono ?_
    rintro e w14 ⟨rfl, g14⟩
    replace Op := hd (Op.out.below g14)
    replace Oc := hd (Oc.out.below g14)
    replace Ol := hd (Ol.out.below g14)
    replace HP := hd (HP.out.later g14)
    replace HQ := hd (HQ.out.later g14)
    have hb14 := hb13.trans (g14.mono hb13.size)
    clear g14 hb13
    go_wp2_with fail
    refine (rcommon_any A B l m c d w14 (by omega) (by omega) HP.out HQ.out).mono ?_
    rw [← HCl.out]
    intro e w15 h
    obtain ⟨Ad, cd, rfl, O, g15⟩ := h.own cl.length rfl
    have Od := hd O
    clear O h
    replace Op := hd (Op.out.below g15)
    replace Oc := hd (Oc.out.below g15)
    replace Ol := hd (Ol.out.below g15)
    replace HP := hd (HP.out.later g15)
    replace HQ := hd (HQ.out.later g15)
    have hb15 := hb14.trans (g15.mono hb14.size)
    clear g15 hb14
    go_wp2_with fail
    refine (calls_still (rsame_is Ac Ad cl cl cl.length cl.length cc cd true (by unfold sameL; simp) w15 rfl rfl (by omega) (by omega) Oc.out.il Od.out.il)).mono ?_
    rintro e w16 ⟨rfl, g16⟩
    replace Op := hd (Op.out.below g16)
    replace Oc := hd (Oc.out.below g16)
    replace Ol := hd (Ol.out.below g16)
    replace HP := hd (HP.out.later g16)
    replace HQ := hd (HQ.out.later g16)
    have hb16 := hb15.trans (g16.mono hb15.size)
    clear g16 hb15
    go_wp2_with fail
    refine (rlevels_any A l c w16 (by omega) hc HP.out).mono ?_
    intro e w17 h
    obtain ⟨Am', cM, rfl, O, g17⟩ := h.own (l.length + 1) (levelsL_length l)
    have Om' := hd O
    clear O h
    replace Op := hd (Op.out.below g17)
    replace Oc := hd (Oc.out.below g17)
    replace Ol := hd (Ol.out.below g17)
    replace HP := hd (HP.out.later g17)
    replace HQ := hd (HQ.out.later g17)
    have hb17 := hb16.trans (g17.mono hb16.size)
    clear g17 hb16
    have hsa : Calls Try.prog 30 #[.slice Al (l.length + 1) cL, .slice Am' (l.length + 1) cM] w17 (Still (.bool true) w17) := by
      have h := sameAll_any Al Am' (levelsL l) (levelsL l) cL cM w17 (by rw [levelsL_length]; omega) (by rw [levelsL_length]; omega) (lev_short l 10000 (by omega)) (lev_short l 10000 (by omega)) Ol.out.rl Om'.out.rl
      rw [levelsL_length, decide_eq_true rfl] at h
      exact calls_still h
    have HSA := hd hsa
    clear hsa
    go_wp2_with fail
    refine HSA.out.mono ?_
    rintro e w18 ⟨rfl, g18⟩
    clear HSA
    replace Op := hd (Op.out.below g18)
    replace Oc := hd (Oc.out.below g18)
    replace Ol := hd (Ol.out.below g18)
    replace HP := hd (HP.out.later g18)
    replace HQ := hd (HQ.out.later g18)
    have hb18 := hb17.trans (g18.mono hb17.size)
    clear g18 hb17
    have hw1 := WI.of_own (B := w3.heap.size) Op.out (Nat.le_refl _)
    have hw2 := WI.of_own (B := w3.heap.size) Oc.out hz9
    obtain ⟨vs, hvl, hrw⟩ := Rows_.of_own (B := w3.heap.size) Ol.out hz10 (lev_short l 1000 (by omega))
    rw [levelsL_length] at hvl
    have HVl := hd hvl
    have HW1 := hd hw1
    have HW2 := hd hw2
    have HRw := hd hrw
    clear hvl hw1 hw2 hrw Op Oq On Om Os Ot Oc Od Ol Om' HP HQ HPe HNe HBe HW
    clear z2 z3 hm hd1
    go_wp2_with fail
    go_loopw [112] (fun i wr => ∃ n : Nat, n ≤ cl.length ∧ i = .int .i64 n ∧ Below w3.heap.size w3 wr ∧ WI wr w3.heap.size Ac cl.length ∧ WI wr w3.heap.size Ap pl.length ∧ Rows_ wr w3.heap.size (.slice Al (l.length + 1) cL) vs) (fun i _ => cl.length - (intOf i).toNat)
    case atStart => exact ⟨0, Nat.zero_le _, rfl, hb18, HW2.out, HW1.out, HRw.out⟩
    case round =>
      obtain ⟨n, hn, rfl, hb, hw2, hw1, hrw⟩ := hrel
      by_cases h1 : n < cl.length
      · obtain ⟨g, x, rfl, hB, hcur, hcell, hfz⟩ := hw2.at_ h1
        have HCur := hd hcur
        clear hcur
        go_wp2_with fail
        go_roundw
        case rel => exact ⟨n + 1, by omega, by go_num, hb.setCell hB _, hw2.set g n _, hw1.set g n _, hrw.set g n _ HCur.out⟩
        case measure => simp [intOf]; omega
      · have hbs := hb.size
        have hvl5 : vs.length ≤ 5000 := by have := HVl.out; omega
        have HV5 := hd hvl5
        have HZ1 := hd (show pl.length ≤ 1000 by omega)
        clear hvl5
        go_wp2_with (at_builtin; refine wpList_append_W wr rfl (.tmp 122) (.tmp 124) rfl w3.heap.size (.slice Al (l.length + 1) cL) vs Ap pl.length cp rfl hrw hw1 HZ1.out _ rfl rfl HV5.out hbs ?_; intro v' w19 hr2 hg2; obtain ⟨g2, c2, rfl⟩ := hr2.open_at (l.length + 2) (by have := HVl.out; simp; omega) (by omega))
        have hb19 := hg2.below w3.heap.size w3 (Nat.le_refl _) hbs hb
        obtain ⟨us, hus⟩ : ∃ us, us = vs ++ [Value.slice Ap pl.length cp] := ⟨_, rfl⟩
        rw [← hus] at hr2
        have HUl := hd (show us.length = l.length + 2 by rw [hus]; have := HVl.out; simp; omega)
        have HR2 := hd hr2
        clear hus hr2 hg2 hrw hw1 hw2 hb
        go_loopw [127] (fun i wr => ∃ n : Nat, n ≤ l.length + 2 ∧ i = .int .i64 n ∧ Below w3.heap.size w3 wr ∧ Rows_ wr w3.heap.size (.slice (some ⟨g2, 0, none⟩) (l.length + 2) c2) us) (fun i _ => l.length + 2 - (intOf i).toNat)
        case atStart => exact ⟨0, Nat.zero_le _, rfl, hb19, HR2.out⟩
        case round =>
          obtain ⟨q, hq, rfl, hb, hrw⟩ := hrel
          by_cases h2 : q < l.length + 2
          · obtain ⟨Aj, mj, dj, hcell, hmj, hat⟩ := hrw.at_ (j := q) (by have := HUl.out; omega)
            have h2' : (q : Int) < (l.length : Int) + 2 := by omega
            have HAt := hd hat
            clear hat
            go_wp2_with fail
            obtain ⟨wo, hwo⟩ : ∃ wo : World, wo = wr := ⟨_, rfl⟩
            subst hwo
            go_loopw [133] (fun i wr => ∃ n : Nat, n ≤ mj ∧ i = .int .i64 n ∧ Below w3.heap.size w3 wr ∧ Rows_ wr w3.heap.size (.slice (some ⟨g2, 0, none⟩) (l.length + 2) c2) us) (fun i _ => mj - (intOf i).toNat)
            case atStart => exact ⟨0, Nat.zero_le _, rfl, hb, hrw⟩
            case round =>
              obtain ⟨n, hn, rfl, hb3, hrw3⟩ := hrel
              by_cases h1 : n < mj
              · obtain ⟨g, x, rfl, hB, hcur, hcell3, hfz⟩ := (hrw3.wi HAt.out).at_ h1
                have HCur := hd hcur
                clear hcur hcell
                go_wp2_with fail
                go_roundw
                case rel => exact ⟨n + 1, by omega, by go_num, hb3.setCell hB _, hrw3.set g n _ HCur.out⟩
                case measure => simp [intOf]; omega
              · go_wp2_with fail
                go_roundw
                case rel => exact ⟨q + 1, by omega, by go_num, hb3, hrw3⟩
                case measure => simp [intOf]; omega
          · have h2' : ¬ (q : Int) < (l.length : Int) + 2 := by omega
            have HPe2 := hd ((HP3.out.below hb).more hb.size)
            have HWa := hd ((HW3.out.below hb).more hb.size)
            go_wp2_with fail
            refine (calls_still (rsame_is A A3 l l l.length l.length c c3 true (by unfold sameL; simp) wr rfl rfl hl hl HPe2.out HWa.out)).mono ?_
            rintro e w20 ⟨rfl, g20⟩
            go_wp2_with fail
            go_ret
            exact ⟨rfl, hb30.trans ((hb.trans (g20.mono hb.size)).mono hb30.size)⟩

end Go.Proofs.Ytpjibfopfdbnjaa
