/- The walk of PropBack: whatever the input, it answers true, and old memory stays as it was. -/
import Derived.Test.YtggbafkeogccjaaNone
namespace Go.Proofs.Ytggbafkeogccjaa
open Go.RowKit

set_option maxHeartbeats 4000000 in
theorem back_short (A B : Option Addr) (l m : List Pr) (c d : Nat) (w : World) (hW : Wide l) (hV : Wide m) (hp : PL w w.heap.size A l) (hq : PL w w.heap.size B m) (hs : shortB 2 (two l m) = false) :
    Calls Try.prog 5 #[.slice A l.length c, .slice B m.length d] w (AllTrue w) := by
  have HP := hd hp
  have HQ := hd hq
  have HS := hd hs
  have HW := hd hW
  have HV := hd hV
  clear hp hq hs hW hV
  go_enter Try.func5, Try.ntmps5
  go_wp2_with fail
  refine (live_any _).mono ?_
  rintro e w1 ⟨rfl, hb1⟩
  go_wp2_with fail
  refine (short2 A B l m c d w1 HW.out HV.out (HP.out.later hb1) (HQ.out.later hb1) _ HS.out).mono ?_
  rintro e w2 ⟨rfl, hb2⟩
  have hw2 := hb1.trans (hb2.mono hb1.size)
  go_wp2_with fail
  go_ret
  exact ⟨rfl, hw2⟩

set_option maxHeartbeats 4000000 in
theorem back_bad (A B : Option Addr) (l m : List Pr) (c d : Nat) (w : World) (hW : Wide l) (hV : Wide m) (hp : PL w w.heap.size A l) (hq : PL w w.heap.size B m) (hs : shortB 2 (two l m) = true) (F : Int) (hF : chk l = F) (hF0 : (F != 0) = true) :
    Calls Try.prog 5 #[.slice A l.length c, .slice B m.length d] w (AllTrue w) := by
  have HP := hd hp
  have HQ := hd hq
  have HS := hd hs
  have HW := hd hW
  have HV := hd hV
  have HF := hd (fits2 hs).1
  have HG := hd (fits2 hs).2
  have l60 := HF.out.1
  have m60 := HG.out.1
  have hF1 : (F == 0) = false := by simpa using hF0
  have HE : Hid (chk2 l m = F) := hd (by unfold chk2; rw [hF, if_neg (by simpa using hF0)])
  have HC := hd hF
  clear hF
  clear hp hq hs hW hV
  go_enter Try.func5, Try.ntmps5
  go_wp2_with fail
  refine (live_any _).mono ?_
  rintro e w1 ⟨rfl, hb1⟩
  go_wp2_with fail
  refine (short2 A B l m c d w1 HW.out HV.out (HP.out.later hb1) (HQ.out.later hb1) _ HS.out).mono ?_
  rintro e w2 ⟨rfl, hb2⟩
  have hw2 := hb1.trans (hb2.mono hb1.size)
  go_wp2_with fail
  refine (diff_no A B l m c d w2 HF.out HG.out (HP.out.later hw2) (HQ.out.later hw2) F HE.out hF0).mono ?_
  rintro e w3 ⟨v1, v2, rfl, hO1, hO2, hb3⟩
  have hw3 := hw2.trans (hb3.mono hw2.size)
  obtain ⟨A1, c1, rfl, p1⟩ := hO1.PL
  obtain ⟨A2, c2, rfl, p2⟩ := hO2.PL
  clear hO1 hO2 p1 p2
  go_wp2_with fail
  refine (check_is A l c w3 HF.out (HP.out.later hw3) F HC.out).mono ?_
  rintro e w4 ⟨rfl, hb4⟩
  go_wp2_with fail
  go_ret
  exact ⟨by simp, hw3.trans (hb4.mono hw3.size)⟩

set_option maxHeartbeats 4000000 in
theorem back_other (A B : Option Addr) (l m : List Pr) (c d : Nat) (w : World) (hW : Wide l) (hV : Wide m) (hp : PL w w.heap.size A l) (hq : PL w w.heap.size B m) (hs : shortB 2 (two l m) = true) (hl0 : chk l = 0) (E : Int) (hE : chk m = E) (hE0 : (E != 0) = true) :
    Calls Try.prog 5 #[.slice A l.length c, .slice B m.length d] w (AllTrue w) := by
  have HP := hd hp
  have HQ := hd hq
  have HS := hd hs
  have HW := hd hW
  have HV := hd hV
  have HF := hd (fits2 hs).1
  have HG := hd (fits2 hs).2
  have l60 := HF.out.1
  have m60 := HG.out.1
  have hE1 : (E == 0) = false := by simpa using hE0
  have HE : Hid (chk2 l m = E) := hd (by unfold chk2; rw [if_pos hl0]; exact hE)
  have HC := hd hl0
  have HD := hd hE
  clear hE hl0
  clear hp hq hs hW hV
  go_enter Try.func5, Try.ntmps5
  go_wp2_with fail
  refine (live_any _).mono ?_
  rintro e w1 ⟨rfl, hb1⟩
  go_wp2_with fail
  refine (short2 A B l m c d w1 HW.out HV.out (HP.out.later hb1) (HQ.out.later hb1) _ HS.out).mono ?_
  rintro e w2 ⟨rfl, hb2⟩
  have hw2 := hb1.trans (hb2.mono hb1.size)
  go_wp2_with fail
  refine (diff_no A B l m c d w2 HF.out HG.out (HP.out.later hw2) (HQ.out.later hw2) E HE.out hE0).mono ?_
  rintro e w3 ⟨v1, v2, rfl, hO1, hO2, hb3⟩
  have hw3 := hw2.trans (hb3.mono hw2.size)
  obtain ⟨A1, c1, rfl, p1⟩ := hO1.PL
  obtain ⟨A2, c2, rfl, p2⟩ := hO2.PL
  clear hO1 hO2 p1 p2
  go_wp2_with fail
  refine (check_is A l c w3 HF.out (HP.out.later hw3) 0 HC.out).mono ?_
  rintro e w4 ⟨rfl, hb4⟩
  have hw4 := hw3.trans (hb4.mono hw3.size)
  go_wp2_with fail
  refine (check_is B m d w4 HG.out (HQ.out.later hw4) E HD.out).mono ?_
  rintro e w5 ⟨rfl, hb5⟩
  go_wp2_with fail
  go_ret
  exact ⟨by simp, hw4.trans (hb5.mono hw4.size)⟩

set_option maxHeartbeats 4000000 in
theorem back_good (A B : Option Addr) (l m : List Pr) (c d : Nat) (w : World) (hW : Wide l) (hV : Wide m) (hp : PL w w.heap.size A l) (hq : PL w w.heap.size B m) (hs : shortB 2 (two l m) = true) (hl0 : chk l = 0) (hm0 : chk m = 0) :
    Calls Try.prog 5 #[.slice A l.length c, .slice B m.length d] w (AllTrue w) := by
  have HP := hd hp
  have HQ := hd hq
  have HS := hd hs
  have HW := hd hW
  have HV := hd hV
  have HF := hd (fits2 hs).1
  have HG := hd (fits2 hs).2
  have l60 := HF.out.1
  have m60 := HG.out.1
  have HD : Hid (chk2 l m = 0) := hd (by unfold chk2; rw [if_pos hl0]; exact hm0)
  have H1 := hd (can_diff hl0 hm0)
  have H2 := hd (can_diff hm0 hl0)
  have HE1 := hd (can_iff.2 H1.out.1)
  have HL1 := hd (H1.out.1.list.trans H1.out.2)
  have HE2 := hd (can_iff.2 H2.out.1)
  have HL2 := hd (H2.out.1.list.trans H2.out.2)
  have HX := hd (fit_of_chk (chk_minus hl0 m))
  have HY := hd (fit_of_chk (chk_minus hm0 l))
  clear hl0 hm0 H1 H2
  clear hp hq hs hW hV
  go_enter Try.func5, Try.ntmps5
  go_wp2_with fail
  refine (live_any _).mono ?_
  rintro e w1 ⟨rfl, hb1⟩
  go_wp2_with fail
  refine (short2 A B l m c d w1 HW.out HV.out (HP.out.later hb1) (HQ.out.later hb1) _ HS.out).mono ?_
  rintro e w2 ⟨rfl, hb2⟩
  have hw2 := hb1.trans (hb2.mono hb1.size)
  go_wp2_with fail
  refine (diff_yes A B l m c d w2 HD.out (HP.out.later hw2) (HQ.out.later hw2)).mono ?_
  rintro e w3 ⟨v1, v2, rfl, hO1, hO2, hb3⟩
  have hw3 := hw2.trans (hb3.mono hw2.size)
  generalize minus l m = x at hO1 HE1 HL1 HE2 HL2 HX
  generalize minus m l = y at hO2 HE1 HL1 HE2 HL2 HY
  obtain ⟨A1, c1, rfl, p1⟩ := hO1.PL
  obtain ⟨A2, c2, rfl, p2⟩ := hO2.PL
  have P1 := hd p1
  have P2 := hd p2
  clear hO1 hO2 p1 p2
  go_wp2_with fail
  refine (patch_is A A1 A2 l x y c c1 c2 w3 HF.out HX.out HY.out (HP.out.later hw3) P1.out P2.out 0 HE1.out m HL1.out).mono ?_
  rintro e w4 ⟨v, rfl, hO, hb4⟩
  have hw4 := hw3.trans (hb4.mono hw3.size)
  obtain ⟨A4, c4, rfl, p4⟩ := hO.PL
  have P4 := hd p4
  have P1b := hd (P1.out.later hb4)
  have P2b := hd (P2.out.later hb4)
  clear hO p4
  go_wp2_with fail
  refine (patch_is B A2 A1 m y x d c2 c1 w4 HG.out HY.out HX.out (HQ.out.later hw4) P2b.out P1b.out 0 HE2.out l HL2.out).mono ?_
  rintro e w5 ⟨v, rfl, hO, hb5⟩
  have hw5 := hw4.trans (hb5.mono hw4.size)
  obtain ⟨A5, c5, rfl, p5⟩ := hO.PL
  have P5 := hd p5
  clear hO p5
  go_wp2_with fail
  refine (same_is A4 B m m c4 d true (decide_eq_true rfl) w5 (by omega) (by omega) (P4.out.later hb5) (HQ.out.later hw5)).mono ?_
  rintro e w6 ⟨rfl, hb6⟩
  have hw6 := hw5.trans (hb6.mono hw5.size)
  go_wp2_with fail
  refine (same_is A5 A l l c5 c true (decide_eq_true rfl) w6 (by omega) (by omega) (P5.out.later hb6) (HP.out.later hw6)).mono ?_
  rintro e w7 ⟨rfl, hb7⟩
  go_wp2_with fail
  go_ret
  exact ⟨rfl, hw6.trans (hb7.mono hw6.size)⟩

theorem back_any (A B : Option Addr) (l m : List Pr) (c d : Nat) (w : World) (hW : Wide l) (hV : Wide m) (hp : PL w w.heap.size A l) (hq : PL w w.heap.size B m) :
    Calls Try.prog 5 #[.slice A l.length c, .slice B m.length d] w (AllTrue w) := by
  cases hs : shortB 2 (two l m)
  · exact back_short A B l m c d w hW hV hp hq hs
  · by_cases h1 : chk l = 0
    · by_cases h2 : chk m = 0
      · exact back_good A B l m c d w hW hV hp hq hs h1 h2
      · exact back_other A B l m c d w hW hV hp hq hs h1 _ rfl (by simpa using h2)
    · exact back_bad A B l m c d w hW hV hp hq hs _ rfl (by simpa using h1)

end Go.Proofs.Ytggbafkeogccjaa
