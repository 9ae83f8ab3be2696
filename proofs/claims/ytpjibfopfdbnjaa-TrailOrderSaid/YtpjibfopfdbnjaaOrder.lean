/- The walk of TrailOrder: whatever the input, it answers true, and old memory stays as it was. -/
import Derived.Test.YtpjibfopfdbnjaaTells
import Derived.Deep.DeepCutAuto
namespace Go.Proofs.Ytpjibfopfdbnjaa
open Go.RowKit

theorem cmp3 (l m n : List Int) (h1 : cmpL l m ≤ 0) (h2 : cmpL m n ≤ 0) : cmpL l n ≤ 0 := cmpL_trans l m n h1 h2

set_option maxHeartbeats 8000000 in
theorem order_any (A B C : Option Addr) (l m n : List Int) (c d f : Nat) (w : World) (hl : l.length ≤ 9223372036854775807) (hm : m.length ≤ 9223372036854775807) (hn : n.length ≤ 9223372036854775807) (hp : IL w w.heap.size A l) (hq : IL w w.heap.size B m) (hr : IL w w.heap.size C n) :
    Calls Try.prog 5 #[.slice A l.length c, .slice B m.length d, .slice C n.length f] w (AllTrue w) := by
  have HP := hd hp
  have HQ := hd hq
  have HR := hd hr
  clear hp hq hr
  cases hs : shortB 3 (three l m n)
  · have HS := hd hs
    clear hs
    go_enter Try.func5, Try.ntmps5
    go_wp2_with fail
    refine (live_any _).mono ?_
    rintro e w1 ⟨rfl, hb1⟩
    go_wp2_with fail
    refine (short3 A B C l m n c d f w1 hl hm hn _ HS.out).mono ?_
    rintro e w2 ⟨rfl, hb2⟩
    go_wp2_with fail
    go_ret
    exact ⟨rfl, hb1.trans (hb2.mono hb1.size)⟩
  · have HS := hd hs
    clear hs
    go_enter Try.func5, Try.ntmps5
    go_wp2_with fail
    refine (live_any _).mono ?_
    rintro e w1 ⟨rfl, hb1⟩
    go_wp2_with fail
    refine (short3 A B C l m n c d f w1 hl hm hn _ HS.out).mono ?_
    rintro e w2 ⟨rfl, hb2⟩
    have hb2 := hb1.trans (hb2.mono hb1.size)
    clear hb1 HS
    go_upto_region 5 with fail
    go_cut [30] (fun s wx => s = .bool false ∧ Below w.heap.size w wx)
    case first =>
      by_cases h1 : cmpL l m ≤ 0
      · by_cases h2 : cmpL m n ≤ 0
        · have h3 := cmp3 l m n h1 h2
          go_wp2_with fail
          refine (calls_still (compare_any A B l m c d w2 hl hm (HP.out.later hb2) (HQ.out.later hb2))).mono ?_
          rintro e w3 ⟨rfl, hb3⟩
          have hb3 := hb2.trans (hb3.mono hb2.size)
          go_wp2_with fail
          refine (calls_still (compare_any B C m n d f w3 hm hn (HQ.out.later hb3) (HR.out.later hb3))).mono ?_
          rintro e w4 ⟨rfl, hb4⟩
          have hb4 := hb3.trans (hb4.mono hb3.size)
          go_wp2_with fail
          refine (calls_still (compare_any A C l n c f w4 hl hn (HP.out.later hb4) (HR.out.later hb4))).mono ?_
          rintro e w5 ⟨rfl, hb5⟩
          have hb5 := hb4.trans (hb5.mono hb4.size)
          go_wp2_with fail
          go_meet
          exact ⟨bool_eq (decide_eq_false (by omega)), hb5⟩
        · have h3 : decide (cmpL m n ≤ 0) = false := decide_eq_false h2
          clear h2
          go_wp2_with fail
          refine (calls_still (compare_any A B l m c d w2 hl hm (HP.out.later hb2) (HQ.out.later hb2))).mono ?_
          rintro e w3 ⟨rfl, hb3⟩
          have hb3 := hb2.trans (hb3.mono hb2.size)
          go_wp2_with fail
          refine (calls_still (compare_any B C m n d f w3 hm hn (HQ.out.later hb3) (HR.out.later hb3))).mono ?_
          rintro e w4 ⟨rfl, hb4⟩
          have hb4 := hb3.trans (hb4.mono hb3.size)
          go_wp2_with fail
          go_meet
          exact ⟨rfl, hb4⟩
      · have h3 : decide (cmpL l m ≤ 0) = false := decide_eq_false h1
        clear h1
        go_wp2_with fail
        refine (calls_still (compare_any A B l m c d w2 hl hm (HP.out.later hb2) (HQ.out.later hb2))).mono ?_
        rintro e w3 ⟨rfl, hb3⟩
        have hb3 := hb2.trans (hb3.mono hb2.size)
        go_wp2_with fail
        go_meet
        exact ⟨rfl, hb3⟩
    case rest =>
      obtain ⟨rfl, hb5⟩ := hcut
      obtain ⟨w5, hw5⟩ : ∃ w5, w5 = wc := ⟨_, rfl⟩
      subst hw5
      clear hb2
      go_upto_region 7 with fail
      go_cut [44] (fun s wx => s = .bool false ∧ Below w.heap.size w wx)
      case first =>
        cases h1 : aboveL l m
        · go_wp2_with fail
          refine (calls_still (above_any A B l m c d w5 hl hm (HP.out.later hb5) (HQ.out.later hb5))).mono ?_
          rintro e w6 ⟨rfl, hb6⟩
          have hb6 := hb5.trans (hb6.mono hb5.size)
          go_wp2_with fail
          go_meet
          exact ⟨rfl, hb6⟩
        · cases h2 : aboveL m n
          · go_wp2_with fail
            refine (calls_still (above_any A B l m c d w5 hl hm (HP.out.later hb5) (HQ.out.later hb5))).mono ?_
            rintro e w6 ⟨rfl, hb6⟩
            have hb6 := hb5.trans (hb6.mono hb5.size)
            go_wp2_with fail
            refine (calls_still (above_any B C m n d f w6 hm hn (HQ.out.later hb6) (HR.out.later hb6))).mono ?_
            rintro e w7 ⟨rfl, hb7⟩
            have hb7 := hb6.trans (hb7.mono hb6.size)
            go_wp2_with fail
            go_meet
            exact ⟨rfl, hb7⟩
          · have h3 := aboveL_trans l m n h1 h2
            go_wp2_with fail
            refine (calls_still (above_any A B l m c d w5 hl hm (HP.out.later hb5) (HQ.out.later hb5))).mono ?_
            rintro e w6 ⟨rfl, hb6⟩
            have hb6 := hb5.trans (hb6.mono hb5.size)
            go_wp2_with fail
            refine (calls_still (above_any B C m n d f w6 hm hn (HQ.out.later hb6) (HR.out.later hb6))).mono ?_
            rintro e w7 ⟨rfl, hb7⟩
            have hb7 := hb6.trans (hb7.mono hb6.size)
            go_wp2_with fail
            refine (calls_still (above_any A C l n c f w7 hl hn (HP.out.later hb7) (HR.out.later hb7))).mono ?_
            rintro e w8 ⟨rfl, hb8⟩
            have hb8 := hb7.trans (hb8.mono hb7.size)
            go_wp2_with fail
            go_meet
            exact ⟨rfl, hb8⟩
      case rest =>
        obtain ⟨rfl, hb9⟩ := hcut
        obtain ⟨w9, hw9⟩ : ∃ w9, w9 = wc := ⟨_, rfl⟩
        subst hw9
        clear hb5
        cases h1 : leftL l m
        · go_wp2_with fail
          refine (calls_still (left_any A B l m c d w9 hl hm (HP.out.later hb9) (HQ.out.later hb9))).mono ?_
          rintro e w10 ⟨rfl, hb10⟩
          have hb10 := hb9.trans (hb10.mono hb9.size)
          go_wp2_with fail
          go_ret
          exact ⟨rfl, hb10⟩
        · cases h2 : aboveL m n
          · go_wp2_with fail
            refine (calls_still (left_any A B l m c d w9 hl hm (HP.out.later hb9) (HQ.out.later hb9))).mono ?_
            rintro e w10 ⟨rfl, hb10⟩
            have hb10 := hb9.trans (hb10.mono hb9.size)
            go_wp2_with fail
            refine (calls_still (above_any B C m n d f w10 hm hn (HQ.out.later hb10) (HR.out.later hb10))).mono ?_
            rintro e w11 ⟨rfl, hb11⟩
            have hb11 := hb10.trans (hb11.mono hb10.size)
            go_wp2_with fail
            go_ret
            exact ⟨rfl, hb11⟩
          · have h3 := leftL_above l m n h1 h2
            go_wp2_with fail
            refine (calls_still (left_any A B l m c d w9 hl hm (HP.out.later hb9) (HQ.out.later hb9))).mono ?_
            rintro e w10 ⟨rfl, hb10⟩
            have hb10 := hb9.trans (hb10.mono hb9.size)
            go_wp2_with fail
            refine (calls_still (above_any B C m n d f w10 hm hn (HQ.out.later hb10) (HR.out.later hb10))).mono ?_
            rintro e w11 ⟨rfl, hb11⟩
            have hb11 := hb10.trans (hb11.mono hb10.size)
            go_wp2_with fail
            refine (calls_still (left_any A C l n c f w11 hl hn (HP.out.later hb11) (HR.out.later hb11))).mono ?_
            rintro e w12 ⟨rfl, hb12⟩
            have hb12 := hb11.trans (hb12.mono hb11.size)
            go_wp2_with fail
            go_ret
            exact ⟨rfl, hb12⟩

end Go.Proofs.Ytpjibfopfdbnjaa
