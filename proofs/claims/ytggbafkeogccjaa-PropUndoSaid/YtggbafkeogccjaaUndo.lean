/- The walk of PropUndo: whatever the input, it answers true, and old memory stays as it was. -/
import Derived.Test.YtggbafkeogccjaaNone
namespace Go.Proofs.Ytggbafkeogccjaa
open Go.RowKit

set_option maxHeartbeats 4000000 in
theorem undo_short (A B C : Option Addr) (l old new : List Pr) (c d f : Nat) (w : World) (hW : Wide l) (hV : Wide old) (hU : Wide new) (hp : PL w w.heap.size A l) (hq : PL w w.heap.size B old) (hr : PL w w.heap.size C new) (hs : shortB 3 (three l old new) = false) :
    Calls Try.prog 6 #[.slice A l.length c, .slice B old.length d, .slice C new.length f] w (AllTrue w) := by
  have HP := hd hp
  have HQ := hd hq
  have HR := hd hr
  have HS := hd hs
  have HW := hd hW
  have HV := hd hV
  have HU := hd hU
  clear hp hq hr hs hW hV hU
  go_enter Try.func6, Try.ntmps6
  go_wp2_with fail
  refine (live_any _).mono ?_
  rintro e w1 ⟨rfl, hb1⟩
  go_wp2_with fail
  refine (short3 A B C l old new c d f w1 HW.out HV.out HU.out (HP.out.later hb1) (HQ.out.later hb1) (HR.out.later hb1) _ HS.out).mono ?_
  rintro e w2 ⟨rfl, hb2⟩
  have hw2 := hb1.trans (hb2.mono hb1.size)
  go_wp2_with fail
  go_ret
  exact ⟨rfl, hw2⟩

set_option maxHeartbeats 4000000 in
theorem undo_bad (A B C : Option Addr) (l old new : List Pr) (c d f : Nat) (w : World) (hW : Wide l) (hV : Wide old) (hU : Wide new) (hp : PL w w.heap.size A l) (hq : PL w w.heap.size B old) (hr : PL w w.heap.size C new) (hs : shortB 3 (three l old new) = true) (E : Int) (hE : PE l old new = E) (hE0 : (E != 0) = true) :
    Calls Try.prog 6 #[.slice A l.length c, .slice B old.length d, .slice C new.length f] w (AllTrue w) := by
  have HP := hd hp
  have HQ := hd hq
  have HR := hd hr
  have HS := hd hs
  have HW := hd hW
  have HV := hd hV
  have HU := hd hU
  have HF := hd (fits3 hs).1
  have HG := hd (fits3 hs).2.1
  have HH := hd (fits3 hs).2.2
  have l60 := HF.out.1
  have o60 := HG.out.1
  have n60 := HH.out.1
  have hE1 : (E == 0) = false := by simpa using hE0
  have HPE := hd hE
  have HPL := hd (pl_bad hE (by simpa using hE0))
  clear hE
  clear hp hq hr hs hW hV hU
  go_enter Try.func6, Try.ntmps6
  go_wp2_with fail
  refine (live_any _).mono ?_
  rintro e w1 ⟨rfl, hb1⟩
  go_wp2_with fail
  refine (short3 A B C l old new c d f w1 HW.out HV.out HU.out (HP.out.later hb1) (HQ.out.later hb1) (HR.out.later hb1) _ HS.out).mono ?_
  rintro e w2 ⟨rfl, hb2⟩
  have hw2 := hb1.trans (hb2.mono hb1.size)
  go_wp2_with fail
  refine (patch_is A B C l old new c d f w2 HF.out HG.out HH.out (HP.out.later hw2) (HQ.out.later hw2) (HR.out.later hw2) E HPE.out [] HPL.out).mono ?_
  rintro e w3 ⟨v, rfl, hO, hb3⟩
  have hw3 := hw2.trans (hb3.mono hw2.size)
  obtain ⟨A3, c3, rfl, p3⟩ := hO.PL
  have P3 := hd p3
  clear hO p3
  go_wp2_with fail
  go_ret
  exact ⟨by simp, hw3⟩

set_option maxHeartbeats 4000000 in
theorem undo_good (A B C : Option Addr) (l old new : List Pr) (c d f : Nat) (w : World) (hW : Wide l) (hV : Wide old) (hU : Wide new) (hp : PL w w.heap.size A l) (hq : PL w w.heap.size B old) (hr : PL w w.heap.size C new) (hs : shortB 3 (three l old new) = true) (hC : Can l old new) :
    Calls Try.prog 6 #[.slice A l.length c, .slice B old.length d, .slice C new.length f] w (AllTrue w) := by
  have HP := hd hp
  have HQ := hd hq
  have HR := hd hr
  have HS := hd hs
  have HW := hd hW
  have HV := hd hV
  have HU := hd hU
  have HF := hd (fits3 hs).1
  have HG := hd (fits3 hs).2.1
  have HH := hd (fits3 hs).2.2
  have l60 := HF.out.1
  have o60 := HG.out.1
  have n60 := HH.out.1
  have HPE := hd (can_iff.2 hC)
  have HPL := hd hC.list
  have HQE := hd (can_iff.2 hC.back.1)
  have HQL := hd (hC.back.1.list.trans hC.back.2)
  have HA0 := hd hC.may
  have HAF := hd (fit_of_chk hC.may)
  clear hC
  clear hp hq hr hs hW hV hU
  go_enter Try.func6, Try.ntmps6
  go_wp2_with fail
  refine (live_any _).mono ?_
  rintro e w1 ⟨rfl, hb1⟩
  go_wp2_with fail
  refine (short3 A B C l old new c d f w1 HW.out HV.out HU.out (HP.out.later hb1) (HQ.out.later hb1) (HR.out.later hb1) _ HS.out).mono ?_
  rintro e w2 ⟨rfl, hb2⟩
  have hw2 := hb1.trans (hb2.mono hb1.size)
  go_wp2_with fail
  refine (patch_is A B C l old new c d f w2 HF.out HG.out HH.out (HP.out.later hw2) (HQ.out.later hw2) (HR.out.later hw2) 0 HPE.out (patchL l old new) HPL.out).mono ?_
  rintro e w3 ⟨v, rfl, hO, hb3⟩
  have hw3 := hw2.trans (hb3.mono hw2.size)
  generalize patchL l old new = a at hO HA0 HAF HQE HQL
  obtain ⟨A3, c3, rfl, p3⟩ := hO.PL
  have P3 := hd p3
  have a60 := HAF.out.1
  clear hO p3 HPE HPL
  go_wp2_with fail
  refine (patch_is A3 C B a new old c3 f d w3 HAF.out HH.out HG.out P3.out (HR.out.later hw3) (HQ.out.later hw3) 0 HQE.out l HQL.out).mono ?_
  rintro e w4 ⟨v, rfl, hO, hb4⟩
  have hw4 := hw3.trans (hb4.mono hw3.size)
  obtain ⟨A4, c4, rfl, p4⟩ := hO.PL
  have P4 := hd p4
  clear hO p4
  go_wp2_with fail
  refine (check_is A3 a c3 w4 HAF.out (P3.out.later hb4) 0 HA0.out).mono ?_
  rintro e w5 ⟨rfl, hb5⟩
  have hw5 := hw4.trans (hb5.mono hw4.size)
  go_wp2_with fail
  refine (same_is A4 A l l c4 c true (decide_eq_true rfl) w5 (by omega) (by omega) (P4.out.later hb5) (HP.out.later hw5)).mono ?_
  rintro e w6 ⟨rfl, hb6⟩
  go_wp2_with fail
  go_ret
  exact ⟨rfl, hw5.trans (hb6.mono hw5.size)⟩

theorem undo_any (A B C : Option Addr) (l old new : List Pr) (c d f : Nat) (w : World) (hW : Wide l) (hV : Wide old) (hU : Wide new) (hp : PL w w.heap.size A l) (hq : PL w w.heap.size B old) (hr : PL w w.heap.size C new) :
    Calls Try.prog 6 #[.slice A l.length c, .slice B old.length d, .slice C new.length f] w (AllTrue w) := by
  cases hs : shortB 3 (three l old new)
  · exact undo_short A B C l old new c d f w hW hV hU hp hq hr hs
  · by_cases h1 : PE l old new = 0
    · exact undo_good A B C l old new c d f w hW hV hU hp hq hr hs (can_iff.1 h1)
    · exact undo_bad A B C l old new c d f w hW hV hU hp hq hr hs _ rfl (by simpa using h1)

end Go.Proofs.Ytggbafkeogccjaa
