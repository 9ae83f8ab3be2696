/- The walk of PropNone: whatever the input, it answers true, and old memory stays as it was. -/
import Derived.Test.YtggbafkeogccjaaCalls
namespace Go.Proofs.Ytggbafkeogccjaa
open Go.RowKit

theorem fit_nil : Fit [] := ⟨by decide, by simp⟩
theorem pe_none (l : List Pr) : PE l [] [] = chk l := by
  by_cases h : chk l = 0
  · rw [can_iff.2 (can_none h).1, h]
  · unfold PE chk3
    rw [if_neg h, if_neg h]
theorem pl_none {l : List Pr} (h : chk l = 0) : PLs l [] [] = l := by rw [(can_none h).1.list]; exact (can_none h).2
theorem pl_bad {l old new : List Pr} {E : Int} (h : PE l old new = E) (h0 : E ≠ 0) : PLs l old new = [] := by unfold PLs; rw [h, if_neg h0]

set_option maxHeartbeats 4000000 in
theorem none_short (A B : Option Addr) (l m : List Pr) (c d : Nat) (w : World) (hW : Wide l) (hV : Wide m) (hp : PL w w.heap.size A l) (hq : PL w w.heap.size B m) (hs : shortB 2 (two l m) = false) :
    Calls Try.prog 8 #[.slice A l.length c, .slice B m.length d] w (AllTrue w) := by
  have HP := hd hp
  have HQ := hd hq
  have HW := hd hW
  have HV := hd hV
  have HS := hd hs
  clear hp hq hW hV hs
  go_enter Try.func8, Try.ntmps8
  go_wp2_with fail
  refine (live_any _).mono ?_
  rintro e w1 ⟨rfl, hb1⟩
  go_wp2_with fail
  refine (short2 A B l m c d w1 HW.out HV.out (HP.out.later hb1) (HQ.out.later hb1) _ HS.out).mono ?_
  rintro e w2 ⟨rfl, hb2⟩
  go_wp2_with fail
  go_ret
  exact ⟨rfl, hb1.trans (hb2.mono hb1.size)⟩

set_option maxHeartbeats 4000000 in
theorem none_bad (A B : Option Addr) (l m : List Pr) (c d : Nat) (w : World) (hW : Wide l) (hV : Wide m) (hp : PL w w.heap.size A l) (hq : PL w w.heap.size B m) (hs : shortB 2 (two l m) = true) (F : Int) (hF : chk l = F) (hF0 : (F != 0) = true) :
    Calls Try.prog 8 #[.slice A l.length c, .slice B m.length d] w (AllTrue w) := by
  have HP := hd hp
  have HQ := hd hq
  have HS := hd hs
  have HF := hd (fits2 hs).1
  have HG := hd (fits2 hs).2
  have HW := hd hW
  have HV := hd hV
  have l60 := HF.out.1
  have m60 := HG.out.1
  have hF1 : (F == 0) = false := by simpa using hF0
  have HE : Hid (chk2 l m = F) := hd (by unfold chk2; rw [hF, if_neg (by simpa using hF0)])
  have HPE : Hid (PE l [] [] = F) := hd (by rw [pe_none]; exact hF)
  have HPL := hd (pl_bad HPE.out (by simpa using hF0))
  have HC := hd hF
  clear hF
  clear hp hq hs hW hV
  go_enter Try.func8, Try.ntmps8
  go_wp2_with fail
  refine (live_any _).mono ?_
  rintro e w1 ⟨rfl, hb1⟩
  go_wp2_with fail
  refine (short2 A B l m c d w1 HW.out HV.out (HP.out.later hb1) (HQ.out.later hb1) _ HS.out).mono ?_
  rintro e w2 ⟨rfl, hb2⟩
  have hw2 := hb1.trans (hb2.mono hb1.size)
  go_wp2_with fail
  refine (diff_no A B l m c d w2 HF.out HG.out (HP.out.later hw2) (HQ.out.later hw2) F HE.out hF0).mono ?_
  rintro e w3 ⟨v1, v2, rfl, hO1, hO2, hb3⟩
  have hw3 := hw2.trans (hb3.mono hw2.size)
  go_wp2_with fail
  refine (patch_is A none none l [] [] c 0 0 w3 HF.out fit_nil fit_nil (HP.out.later hw3) (PL.nil _ _ _) (PL.nil _ _ _) F HPE.out [] HPL.out).mono ?_
  rintro e w5 ⟨v, rfl, hO, hb5⟩
  have hw5 := hw3.trans (hb5.mono hw3.size)
  obtain ⟨A5, c5, rfl, p5⟩ := hO.PL
  clear hO p5
  go_wp2_with fail
  refine (check_is A l c w5 HF.out (HP.out.later hw5) F HC.out).mono ?_
  rintro e w6 ⟨rfl, hb6⟩
  go_wp2_with fail
  go_ret
  exact ⟨by simp, hw5.trans (hb6.mono hw5.size)⟩

set_option maxHeartbeats 4000000 in
theorem none_other (A B : Option Addr) (l m : List Pr) (c d : Nat) (w : World) (hW : Wide l) (hV : Wide m) (hp : PL w w.heap.size A l) (hq : PL w w.heap.size B m) (hs : shortB 2 (two l m) = true) (hl0 : chk l = 0) (E : Int) (hE : chk m = E) (hE0 : (E != 0) = true) :
    Calls Try.prog 8 #[.slice A l.length c, .slice B m.length d] w (AllTrue w) := by
  have HP := hd hp
  have HQ := hd hq
  have HS := hd hs
  have HF := hd (fits2 hs).1
  have HG := hd (fits2 hs).2
  have HW := hd hW
  have HV := hd hV
  have l60 := HF.out.1
  have m60 := HG.out.1
  have hE1 : (E == 0) = false := by simpa using hE0
  have HE : Hid (chk2 l m = E) := hd (by unfold chk2; rw [if_pos hl0]; exact hE)
  clear hE
  have HPE : Hid (PE l [] [] = 0) := hd (by rw [pe_none]; exact hl0)
  have HPL := hd (pl_none hl0)
  have HC := hd hl0
  clear hl0
  clear hp hq hs hW hV
  go_enter Try.func8, Try.ntmps8
  go_wp2_with fail
  refine (live_any _).mono ?_
  rintro e w1 ⟨rfl, hb1⟩
  go_wp2_with fail
  refine (short2 A B l m c d w1 HW.out HV.out (HP.out.later hb1) (HQ.out.later hb1) _ HS.out).mono ?_
  rintro e w2 ⟨rfl, hb2⟩
  have hw2 := hb1.trans (hb2.mono hb1.size)
  go_wp2_with fail
  refine (diff_no A B l m c d w2 HF.out HG.out (HP.out.later hw2) (HQ.out.later hw2) E HE.out hE0).mono ?_
  rintro e w3 ⟨v1, v2, rfl, hO1, hO2, hb3⟩
  have hw3 := hw2.trans (hb3.mono hw2.size)
  go_wp2_with fail
  refine (patch_is A none none l [] [] c 0 0 w3 HF.out fit_nil fit_nil (HP.out.later hw3) (PL.nil _ _ _) (PL.nil _ _ _) 0 HPE.out l HPL.out).mono ?_
  rintro e w5 ⟨v, rfl, hO, hb5⟩
  have hw5 := hw3.trans (hb5.mono hw3.size)
  obtain ⟨A5, c5, rfl, p5⟩ := hO.PL
  have P5 := hd p5
  clear hO p5
  go_wp2_with fail
  refine (check_is A l c w5 HF.out (HP.out.later hw5) 0 HC.out).mono ?_
  rintro e w6 ⟨rfl, hb6⟩
  have hw6 := hw5.trans (hb6.mono hw5.size)
  go_wp2_with fail
  refine (same_is A5 A l l c5 c true (decide_eq_true rfl) w6 (by omega) (by omega) (P5.out.later hb6) (HP.out.later hw6)).mono ?_
  rintro e w7 ⟨rfl, hb7⟩
  go_wp2_with fail
  go_ret
  exact ⟨rfl, hw6.trans (hb7.mono hw6.size)⟩

set_option maxHeartbeats 4000000 in
theorem none_same (A B : Option Addr) (l m : List Pr) (c d : Nat) (w : World) (hW : Wide l) (hV : Wide m) (hp : PL w w.heap.size A l) (hq : PL w w.heap.size B m) (hs : shortB 2 (two l m) = true) (hl0 : chk l = 0) (hm0 : chk m = 0) (hz : (minus l m).length + (minus m l).length = 0) :
    Calls Try.prog 8 #[.slice A l.length c, .slice B m.length d] w (AllTrue w) := by
  have HP := hd hp
  have HQ := hd hq
  have HS := hd hs
  have HF := hd (fits2 hs).1
  have HG := hd (fits2 hs).2
  have HW := hd hW
  have HV := hd hV
  have l60 := HF.out.1
  have m60 := HG.out.1
  have HD : Hid (chk2 l m = 0) := hd (by unfold chk2; rw [if_pos hl0]; exact hm0)
  have HR : Hid (decide (l = m) = true) := hd (by rw [none_differs hl0 hm0]; simpa using hz)
  have hb1z := minus_len l m
  have hb2z := minus_len m l
  have hz1 : (((minus l m).length : Int) + ((minus m l).length : Int) == 0) = true := by simp; omega
  clear hz hm0
  have HPE : Hid (PE l [] [] = 0) := hd (by rw [pe_none]; exact hl0)
  have HPL := hd (pl_none hl0)
  have HC := hd hl0
  clear hl0
  clear hp hq hs hW hV
  go_enter Try.func8, Try.ntmps8
  go_wp2_with fail
  refine (live_any _).mono ?_
  rintro e w1 ⟨rfl, hb1⟩
  go_wp2_with fail
  refine (short2 A B l m c d w1 HW.out HV.out (HP.out.later hb1) (HQ.out.later hb1) _ HS.out).mono ?_
  rintro e w2 ⟨rfl, hb2⟩
  have hw2 := hb1.trans (hb2.mono hb1.size)
  go_wp2_with fail
  refine (diff_yes A B l m c d w2 HD.out (HP.out.later hw2) (HQ.out.later hw2)).mono ?_
  rintro e w3 ⟨v1, v2, rfl, hO1, hO2, hb3⟩
  have hw3 := hw2.trans (hb3.mono hw2.size)
  obtain ⟨A1, c1, rfl, p1⟩ := hO1.PL
  obtain ⟨A2, c2, rfl, p2⟩ := hO2.PL
  clear hO1 hO2 p1 p2
  go_wp2_with fail
  refine (same_is A B l m c d true HR.out w3 (by omega) (by omega) (HP.out.later hw3) (HQ.out.later hw3)).mono ?_
  rintro e w4 ⟨rfl, hb4⟩
  have hw3 := hw3.trans (hb4.mono hw3.size)
  go_wp2_with fail
  refine (patch_is A none none l [] [] c 0 0 w4 HF.out fit_nil fit_nil (HP.out.later hw3) (PL.nil _ _ _) (PL.nil _ _ _) 0 HPE.out l HPL.out).mono ?_
  rintro e w5 ⟨v, rfl, hO, hb5⟩
  have hw5 := hw3.trans (hb5.mono hw3.size)
  obtain ⟨A5, c5, rfl, p5⟩ := hO.PL
  have P5 := hd p5
  clear hO p5
  go_wp2_with fail
  refine (check_is A l c w5 HF.out (HP.out.later hw5) 0 HC.out).mono ?_
  rintro e w6 ⟨rfl, hb6⟩
  have hw6 := hw5.trans (hb6.mono hw5.size)
  go_wp2_with fail
  refine (same_is A5 A l l c5 c true (decide_eq_true rfl) w6 (by omega) (by omega) (P5.out.later hb6) (HP.out.later hw6)).mono ?_
  rintro e w7 ⟨rfl, hb7⟩
  go_wp2_with fail
  go_ret
  exact ⟨rfl, hw6.trans (hb7.mono hw6.size)⟩

set_option maxHeartbeats 4000000 in
theorem none_differ (A B : Option Addr) (l m : List Pr) (c d : Nat) (w : World) (hW : Wide l) (hV : Wide m) (hp : PL w w.heap.size A l) (hq : PL w w.heap.size B m) (hs : shortB 2 (two l m) = true) (hl0 : chk l = 0) (hm0 : chk m = 0) (hz : ¬ (minus l m).length + (minus m l).length = 0) :
    Calls Try.prog 8 #[.slice A l.length c, .slice B m.length d] w (AllTrue w) := by
  have HP := hd hp
  have HQ := hd hq
  have HS := hd hs
  have HF := hd (fits2 hs).1
  have HG := hd (fits2 hs).2
  have HW := hd hW
  have HV := hd hV
  have l60 := HF.out.1
  have m60 := HG.out.1
  have HD : Hid (chk2 l m = 0) := hd (by unfold chk2; rw [if_pos hl0]; exact hm0)
  have HR : Hid (decide (l = m) = false) := hd (by rw [none_differs hl0 hm0]; simpa using hz)
  have hb1z := minus_len l m
  have hb2z := minus_len m l
  have hz1 : (((minus l m).length : Int) + ((minus m l).length : Int) == 0) = false := by simp; omega
  clear hz hm0
  have HPE : Hid (PE l [] [] = 0) := hd (by rw [pe_none]; exact hl0)
  have HPL := hd (pl_none hl0)
  have HC := hd hl0
  clear hl0
  clear hp hq hs hW hV
  go_enter Try.func8, Try.ntmps8
  go_wp2_with fail
  refine (live_any _).mono ?_
  rintro e w1 ⟨rfl, hb1⟩
  go_wp2_with fail
  refine (short2 A B l m c d w1 HW.out HV.out (HP.out.later hb1) (HQ.out.later hb1) _ HS.out).mono ?_
  rintro e w2 ⟨rfl, hb2⟩
  have hw2 := hb1.trans (hb2.mono hb1.size)
  go_wp2_with fail
  refine (diff_yes A B l m c d w2 HD.out (HP.out.later hw2) (HQ.out.later hw2)).mono ?_
  rintro e w3 ⟨v1, v2, rfl, hO1, hO2, hb3⟩
  have hw3 := hw2.trans (hb3.mono hw2.size)
  obtain ⟨A1, c1, rfl, p1⟩ := hO1.PL
  obtain ⟨A2, c2, rfl, p2⟩ := hO2.PL
  clear hO1 hO2 p1 p2
  go_wp2_with fail
  refine (same_is A B l m c d false HR.out w3 (by omega) (by omega) (HP.out.later hw3) (HQ.out.later hw3)).mono ?_
  rintro e w4 ⟨rfl, hb4⟩
  have hw3 := hw3.trans (hb4.mono hw3.size)
  go_wp2_with fail
  refine (patch_is A none none l [] [] c 0 0 w4 HF.out fit_nil fit_nil (HP.out.later hw3) (PL.nil _ _ _) (PL.nil _ _ _) 0 HPE.out l HPL.out).mono ?_
  rintro e w5 ⟨v, rfl, hO, hb5⟩
  have hw5 := hw3.trans (hb5.mono hw3.size)
  obtain ⟨A5, c5, rfl, p5⟩ := hO.PL
  have P5 := hd p5
  clear hO p5
  go_wp2_with fail
  refine (check_is A l c w5 HF.out (HP.out.later hw5) 0 HC.out).mono ?_
  rintro e w6 ⟨rfl, hb6⟩
  have hw6 := hw5.trans (hb6.mono hw5.size)
  go_wp2_with fail
  refine (same_is A5 A l l c5 c true (decide_eq_true rfl) w6 (by omega) (by omega) (P5.out.later hb6) (HP.out.later hw6)).mono ?_
  rintro e w7 ⟨rfl, hb7⟩
  go_wp2_with fail
  go_ret
  exact ⟨rfl, hw6.trans (hb7.mono hw6.size)⟩

theorem none_any (A B : Option Addr) (l m : List Pr) (c d : Nat) (w : World) (hW : Wide l) (hV : Wide m) (hp : PL w w.heap.size A l) (hq : PL w w.heap.size B m) :
    Calls Try.prog 8 #[.slice A l.length c, .slice B m.length d] w (AllTrue w) := by
  cases hs : shortB 2 (two l m)
  · exact none_short A B l m c d w hW hV hp hq hs
  · by_cases h1 : chk l = 0
    · by_cases h2 : chk m = 0
      · by_cases h3 : (minus l m).length + (minus m l).length = 0
        · exact none_same A B l m c d w hW hV hp hq hs h1 h2 h3
        · exact none_differ A B l m c d w hW hV hp hq hs h1 h2 h3
      · exact none_other A B l m c d w hW hV hp hq hs h1 _ rfl (by simpa using h2)
    · exact none_bad A B l m c d w hW hV hp hq hs _ rfl (by simpa using h1)

end Go.Proofs.Ytggbafkeogccjaa
