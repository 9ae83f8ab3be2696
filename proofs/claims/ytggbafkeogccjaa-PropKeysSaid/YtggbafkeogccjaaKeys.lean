/- The walk of PropKeys: whatever the input, it answers true, and old memory stays as it was. -/
import Derived.Test.YtggbafkeogccjaaNone
namespace Go.Proofs.Ytggbafkeogccjaa
open Go.RowKit

set_option maxHeartbeats 4000000 in
theorem keys_short (A B C : Option Addr) (l old new : List Pr) (c d f : Nat) (k : ByteArray) (w : World) (hW : Wide l) (hV : Wide old) (hU : Wide new) (hp : PL w w.heap.size A l) (hq : PL w w.heap.size B old) (hr : PL w w.heap.size C new) (hs : shortB 3 (three l old new) = false) :
    Calls Try.prog 7 #[.slice A l.length c, .slice B old.length d, .slice C new.length f, .string k] w (AllTrue w) := by
  have HP := hd hp
  have HQ := hd hq
  have HR := hd hr
  have HS := hd hs
  have HW := hd hW
  have HV := hd hV
  have HU := hd hU
  clear hp hq hr hs hW hV hU
  go_enter Try.func7, Try.ntmps7
  go_wp2_with fail
  refine (live_any _).mono ?_
  rintro e w1 ⟨rfl, hb1⟩
  go_wp2_with fail
  refine (short3 A B C l old new c d f w1 HW.out HV.out HU.out (HP.out.later hb1) (HQ.out.later hb1) (HR.out.later hb1) _ HS.out).mono ?_
  rintro e w2 ⟨rfl, hb2⟩
  have hw2 := hb1.trans (hb2.mono hb1.size)
  go_wp2_with fail
  go_ret
  exact ⟨rfl, hw2⟩

set_option maxHeartbeats 4000000 in
theorem keys_bad (A B C : Option Addr) (l old new : List Pr) (c d f : Nat) (k : ByteArray) (w : World) (hW : Wide l) (hV : Wide old) (hU : Wide new) (hp : PL w w.heap.size A l) (hq : PL w w.heap.size B old) (hr : PL w w.heap.size C new) (hs : shortB 3 (three l old new) = true) (E : Int) (hE : PE l old new = E) (hE0 : (E != 0) = true) :
    Calls Try.prog 7 #[.slice A l.length c, .slice B old.length d, .slice C new.length f, .string k] w (AllTrue w) := by
  have HP := hd hp
  have HQ := hd hq
  have HR := hd hr
  have HS := hd hs
  have HW := hd hW
  have HV := hd hV
  have HU := hd hU
  have HF := hd (fits3 hs).1
  have HG := hd (fits3 hs).2.1
  have HH := hd (fits3 hs).2.2
  have l60 := HF.out.1
  have o60 := HG.out.1
  have n60 := HH.out.1
  have hE1 : (E == 0) = false := by simpa using hE0
  have HPE := hd hE
  have HPL := hd (pl_bad hE (by simpa using hE0))
  clear hE
  clear hp hq hr hs hW hV hU
  go_enter Try.func7, Try.ntmps7
  go_wp2_with fail
  refine (live_any _).mono ?_
  rintro e w1 ⟨rfl, hb1⟩
  go_wp2_with fail
  refine (short3 A B C l old new c d f w1 HW.out HV.out HU.out (HP.out.later hb1) (HQ.out.later hb1) (HR.out.later hb1) _ HS.out).mono ?_
  rintro e w2 ⟨rfl, hb2⟩
  have hw2 := hb1.trans (hb2.mono hb1.size)
  go_wp2_with fail
  refine (patch_is A B C l old new c d f w2 HF.out HG.out HH.out (HP.out.later hw2) (HQ.out.later hw2) (HR.out.later hw2) E HPE.out [] HPL.out).mono ?_
  rintro e w3 ⟨v, rfl, hO, hb3⟩
  have hw3 := hw2.trans (hb3.mono hw2.size)
  obtain ⟨A3, c3, rfl, p3⟩ := hO.PL
  have P3 := hd p3
  clear hO p3
  go_wp2_with fail
  go_ret
  exact ⟨by simp, hw3⟩

theorem get_is (A : Option Addr) (l : List Pr) (c : Nat) (k v : ByteArray) (b : Bool) (hv : getV l k = v) (hb : getB l k = b) (w : World) (hl : l.length ≤ 200) (hp : PL w w.heap.size A l) :
    Calls Try.prog 11 #[.slice A l.length c, .string k] w fun e w' => e = .returned (.tuple #[.string v, .bool b]) ∧ Below w.heap.size w w' := by
  subst hv hb
  exact get_any A l c k w (by omega) hp
theorem getV_of {l m : List Pr} {k : ByteArray} (h : getF l k = getF m k) : getV l k = getV m k ∧ getB l k = getB m k := by unfold getV getB; rw [h]; exact ⟨rfl, rfl⟩

set_option maxHeartbeats 4000000 in
theorem keys_new (A B C : Option Addr) (l old new : List Pr) (c d f : Nat) (k : ByteArray) (w : World) (hW : Wide l) (hV : Wide old) (hU : Wide new) (hp : PL w w.heap.size A l) (hq : PL w w.heap.size B old) (hr : PL w w.heap.size C new) (hs : shortB 3 (three l old new) = true) (hC : Can l old new) (hn : getB new k = true) :
    Calls Try.prog 7 #[.slice A l.length c, .slice B old.length d, .slice C new.length f, .string k] w (AllTrue w) := by
  have HP := hd hp
  have HQ := hd hq
  have HR := hd hr
  have HS := hd hs
  have HW := hd hW
  have HV := hd hV
  have HU := hd hU
  have HF := hd (fits3 hs).1
  have HG := hd (fits3 hs).2.1
  have HH := hd (fits3 hs).2.2
  have l60 := HF.out.1
  have o60 := HG.out.1
  have n60 := HH.out.1
  have HPE := hd (can_iff.2 hC)
  have HPL := hd hC.list
  have HKK := hd (hC.key k)
  have HA0 := hd (fit_of_chk hC.may)
  have HV1 : Hid (getV (patchL l old new) k = getV new k) := hd (getV_of (by rw [HKK.out, if_pos hn])).1
  have HV2 : Hid (getB (patchL l old new) k = true) := hd (by rw [(getV_of (m := new) (by rw [HKK.out, if_pos hn])).2]; exact hn)
  have HN := hd hn
  clear hn
  clear hC
  clear hp hq hr hs hW hV hU
  go_enter Try.func7, Try.ntmps7
  go_wp2_with fail
  refine (live_any _).mono ?_
  rintro e w1 ⟨rfl, hb1⟩
  go_wp2_with fail
  refine (short3 A B C l old new c d f w1 HW.out HV.out HU.out (HP.out.later hb1) (HQ.out.later hb1) (HR.out.later hb1) _ HS.out).mono ?_
  rintro e w2 ⟨rfl, hb2⟩
  have hw2 := hb1.trans (hb2.mono hb1.size)
  go_wp2_with fail
  refine (patch_is A B C l old new c d f w2 HF.out HG.out HH.out (HP.out.later hw2) (HQ.out.later hw2) (HR.out.later hw2) 0 HPE.out (patchL l old new) HPL.out).mono ?_
  rintro e w3 ⟨v, rfl, hO, hb3⟩
  have hw3 := hw2.trans (hb3.mono hw2.size)
  generalize patchL l old new = a at hO HA0 HPL HV1 HV2
  obtain ⟨A3, c3, rfl, p3⟩ := hO.PL
  have P3 := hd p3
  have a60 := HA0.out.1
  clear hO p3 HPE HPL HKK
  go_wp2_with fail
  refine (get_is A3 a c3 k _ _ HV1.out HV2.out w3 (by omega) P3.out).mono ?_
  rintro e w4 ⟨rfl, hb4⟩
  have hw4 := hw3.trans (hb4.mono hw3.size)
  go_wp2_with fail
  refine (get_is C new f k _ _ rfl HN.out w4 (by omega) (HR.out.later hw4)).mono ?_
  rintro e w5 ⟨rfl, hb5⟩
  have hw5 := hw4.trans (hb5.mono hw4.size)
  go_wp2_with fail
  go_ret
  exact ⟨by simp, hw5⟩

set_option maxHeartbeats 4000000 in
theorem keys_old (A B C : Option Addr) (l old new : List Pr) (c d f : Nat) (k : ByteArray) (w : World) (hW : Wide l) (hV : Wide old) (hU : Wide new) (hp : PL w w.heap.size A l) (hq : PL w w.heap.size B old) (hr : PL w w.heap.size C new) (hs : shortB 3 (three l old new) = true) (hC : Can l old new) (hn : getB new k = false) (ho : getB old k = true) :
    Calls Try.prog 7 #[.slice A l.length c, .slice B old.length d, .slice C new.length f, .string k] w (AllTrue w) := by
  have HP := hd hp
  have HQ := hd hq
  have HR := hd hr
  have HS := hd hs
  have HW := hd hW
  have HV := hd hV
  have HU := hd hU
  have HF := hd (fits3 hs).1
  have HG := hd (fits3 hs).2.1
  have HH := hd (fits3 hs).2.2
  have l60 := HF.out.1
  have o60 := HG.out.1
  have n60 := HH.out.1
  have HPE := hd (can_iff.2 hC)
  have HPL := hd hC.list
  have HKK := hd (hC.key k)
  have HA0 := hd (fit_of_chk hC.may)
  have HV0 : Hid (getF (patchL l old new) k = none) := hd (by rw [HKK.out, if_neg (by simp [hn]), if_pos ho])
  have HV1 : Hid (getV (patchL l old new) k = ByteArray.empty) := hd (by unfold getV; rw [HV0.out]; rfl)
  have HV2 : Hid (getB (patchL l old new) k = false) := hd (by unfold getB; rw [HV0.out]; rfl)
  have HN := hd hn
  have HO := hd ho
  clear hn ho HV0
  clear hC
  clear hp hq hr hs hW hV hU
  go_enter Try.func7, Try.ntmps7
  go_wp2_with fail
  refine (live_any _).mono ?_
  rintro e w1 ⟨rfl, hb1⟩
  go_wp2_with fail
  refine (short3 A B C l old new c d f w1 HW.out HV.out HU.out (HP.out.later hb1) (HQ.out.later hb1) (HR.out.later hb1) _ HS.out).mono ?_
  rintro e w2 ⟨rfl, hb2⟩
  have hw2 := hb1.trans (hb2.mono hb1.size)
  go_wp2_with fail
  refine (patch_is A B C l old new c d f w2 HF.out HG.out HH.out (HP.out.later hw2) (HQ.out.later hw2) (HR.out.later hw2) 0 HPE.out (patchL l old new) HPL.out).mono ?_
  rintro e w3 ⟨v, rfl, hO, hb3⟩
  have hw3 := hw2.trans (hb3.mono hw2.size)
  generalize patchL l old new = a at hO HA0 HPL HV1 HV2
  obtain ⟨A3, c3, rfl, p3⟩ := hO.PL
  have P3 := hd p3
  have a60 := HA0.out.1
  clear hO p3 HPE HPL HKK
  go_wp2_with fail
  refine (get_is A3 a c3 k _ _ HV1.out HV2.out w3 (by omega) P3.out).mono ?_
  rintro e w4 ⟨rfl, hb4⟩
  have hw4 := hw3.trans (hb4.mono hw3.size)
  go_wp2_with fail
  refine (get_is C new f k _ _ rfl HN.out w4 (by omega) (HR.out.later hw4)).mono ?_
  rintro e w5 ⟨rfl, hb5⟩
  have hw5 := hw4.trans (hb5.mono hw4.size)
  go_wp2_with fail
  refine (get_is B old d k _ _ rfl HO.out w5 (by omega) (HQ.out.later hw5)).mono ?_
  rintro e w6 ⟨rfl, hb6⟩
  have hw6 := hw5.trans (hb6.mono hw5.size)
  go_wp2_with fail
  go_ret
  exact ⟨by simp, hw6⟩

set_option maxHeartbeats 4000000 in
theorem keys_had (A B C : Option Addr) (l old new : List Pr) (c d f : Nat) (k : ByteArray) (w : World) (hW : Wide l) (hV : Wide old) (hU : Wide new) (hp : PL w w.heap.size A l) (hq : PL w w.heap.size B old) (hr : PL w w.heap.size C new) (hs : shortB 3 (three l old new) = true) (hC : Can l old new) (hn : getB new k = false) (ho : getB old k = false) :
    Calls Try.prog 7 #[.slice A l.length c, .slice B old.length d, .slice C new.length f, .string k] w (AllTrue w) := by
  have HP := hd hp
  have HQ := hd hq
  have HR := hd hr
  have HS := hd hs
  have HW := hd hW
  have HV := hd hV
  have HU := hd hU
  have HF := hd (fits3 hs).1
  have HG := hd (fits3 hs).2.1
  have HH := hd (fits3 hs).2.2
  have l60 := HF.out.1
  have o60 := HG.out.1
  have n60 := HH.out.1
  have HPE := hd (can_iff.2 hC)
  have HPL := hd hC.list
  have HKK := hd (hC.key k)
  have HA0 := hd (fit_of_chk hC.may)
  have HV1 : Hid (getV (patchL l old new) k = getV l k) := hd (getV_of (by rw [HKK.out, if_neg (by simp [hn]), if_neg (by simp [ho])])).1
  have HV2 : Hid (getB (patchL l old new) k = getB l k) := hd (getV_of (by rw [HKK.out, if_neg (by simp [hn]), if_neg (by simp [ho])])).2
  have HN := hd hn
  have HO := hd ho
  clear hn ho
  clear hC
  clear hp hq hr hs hW hV hU
  go_enter Try.func7, Try.ntmps7
  go_wp2_with fail
  refine (live_any _).mono ?_
  rintro e w1 ⟨rfl, hb1⟩
  go_wp2_with fail
  refine (short3 A B C l old new c d f w1 HW.out HV.out HU.out (HP.out.later hb1) (HQ.out.later hb1) (HR.out.later hb1) _ HS.out).mono ?_
  rintro e w2 ⟨rfl, hb2⟩
  have hw2 := hb1.trans (hb2.mono hb1.size)
  go_wp2_with fail
  refine (patch_is A B C l old new c d f w2 HF.out HG.out HH.out (HP.out.later hw2) (HQ.out.later hw2) (HR.out.later hw2) 0 HPE.out (patchL l old new) HPL.out).mono ?_
  rintro e w3 ⟨v, rfl, hO, hb3⟩
  have hw3 := hw2.trans (hb3.mono hw2.size)
  generalize patchL l old new = a at hO HA0 HPL HV1 HV2
  obtain ⟨A3, c3, rfl, p3⟩ := hO.PL
  have P3 := hd p3
  have a60 := HA0.out.1
  clear hO p3 HPE HPL HKK
  go_wp2_with fail
  refine (get_is A3 a c3 k _ _ HV1.out HV2.out w3 (by omega) P3.out).mono ?_
  rintro e w4 ⟨rfl, hb4⟩
  have hw4 := hw3.trans (hb4.mono hw3.size)
  go_wp2_with fail
  refine (get_is C new f k _ _ rfl HN.out w4 (by omega) (HR.out.later hw4)).mono ?_
  rintro e w5 ⟨rfl, hb5⟩
  have hw5 := hw4.trans (hb5.mono hw4.size)
  go_wp2_with fail
  refine (get_is B old d k _ _ rfl HO.out w5 (by omega) (HQ.out.later hw5)).mono ?_
  rintro e w6 ⟨rfl, hb6⟩
  have hw6 := hw5.trans (hb6.mono hw5.size)
  go_wp2_with fail
  refine (get_is A l c k _ _ rfl rfl w6 (by omega) (HP.out.later hw6)).mono ?_
  rintro e w7 ⟨rfl, hb7⟩
  have hw7 := hw6.trans (hb7.mono hw6.size)
  go_wp2_with fail
  go_ret
  exact ⟨by simp, hw7⟩

theorem keys_any (A B C : Option Addr) (l old new : List Pr) (c d f : Nat) (k : ByteArray) (w : World) (hW : Wide l) (hV : Wide old) (hU : Wide new) (hp : PL w w.heap.size A l) (hq : PL w w.heap.size B old) (hr : PL w w.heap.size C new) :
    Calls Try.prog 7 #[.slice A l.length c, .slice B old.length d, .slice C new.length f, .string k] w (AllTrue w) := by
  cases hs : shortB 3 (three l old new)
  · exact keys_short A B C l old new c d f k w hW hV hU hp hq hr hs
  · by_cases h1 : PE l old new = 0
    · cases h2 : getB new k
      · cases h3 : getB old k
        · exact keys_had A B C l old new c d f k w hW hV hU hp hq hr hs (can_iff.1 h1) h2 h3
        · exact keys_old A B C l old new c d f k w hW hV hU hp hq hr hs (can_iff.1 h1) h2 h3
      · exact keys_new A B C l old new c d f k w hW hV hU hp hq hr hs (can_iff.1 h1) h2
    · exact keys_bad A B C l old new c d f k w hW hV hU hp hq hr hs _ rfl (by simpa using h1)

end Go.Proofs.Ytggbafkeogccjaa
