/- The walk of GlyphBack: whatever the input, it answers true, and old memory stays as it was. -/
import Derived.Test.YtnbcnljegkemiaaDoorGEnds
namespace Go.Proofs.YtnbcnljegkemiaaDoor
open Go.RowKit

theorem bodyL_ge (l : List Int) : l.length ≤ (bodyL l).length := by
  induction l with
  | nil => simp
  | cons c l ih =>
    have := escL_pos c
    rw [bodyL_cons]; simp; omega
theorem chkL_no {l : List Int} (h : okR l = false) : chkL l = 4 := by unfold chkL; rw [h]; rfl
theorem chkL_yes {l : List Int} (h : okR l = true) : chkL l = 0 := by unfold chkL; rw [h]; rfl
theorem quoR_no {l : List Int} (h : okR l = false) : quoR l = [] := by unfold quoR; rw [h]; rfl
theorem quoR_yes {l : List Int} (h : okR l = true) : quoR l = quoL l := by unfold quoR; rw [h]; rfl
/-- Quote, with what it answers named. -/
theorem quote_is (A : Option Addr) (l : List Int) (n c : Nat) (S : ByteArray) (e : Int) (hS : bs (quoR l) = S) (he : chkL l = e) (w : World) (hT : Hid (Tab w)) (hn : l.length = n) (hl : n ≤ 1000) (hp : VL w w.heap.size A (rv l)) :
    Calls Tryd.prog 21 #[.slice A n c] w (Still (.tuple #[.string S, .int .i64 e]) w) := by
  subst hS he
  exact quote_any A l n c w hT hn hl hp

set_option maxRecDepth 100000 in
set_option maxHeartbeats 16000000 in
theorem back_any (A : Option Addr) (l : List Int) (n c : Nat) (s : ByteArray) (w : World) (hT : Hid (Tab w)) (hn : l.length = n) (hl : n ≤ 9223372036854775807) (hs : s.size ≤ 9223372036854775807) (hp : VL w w.heap.size A (rv l)) :
    Calls Tryd.prog 5 #[.slice A n c, .string s] w (AllTrue w) := by
  have HP := hd hp
  have HN := hd hn
  clear hp hn
  by_cases hlong : 200 < n
  · go_enter Tryd.func5, Tryd.ntmps5
    go_wp2_with fail
    refine (live_any _ hT).mono ?_
    rintro e w1 ⟨rfl, hb1⟩
    go_wp2
    go_ret
    exact ⟨rfl, hb1⟩
  · have hl200 : n ≤ 200 := by omega
    clear hlong
    by_cases hlong : 400 < s.size
    · go_enter Tryd.func5, Tryd.ntmps5
      go_wp2_with fail
      refine (live_any _ hT).mono ?_
      rintro e w1 ⟨rfl, hb1⟩
      go_wp2
      go_ret
      exact ⟨rfl, hb1⟩
    · have hs400 : s.size ≤ 400 := by omega
      clear hlong
      obtain ⟨xr, pr, er, hr⟩ : ∃ x p e, unqL s.data.toList = (x, p, e) := ⟨_, _, _, rfl⟩
      cases hk : okR l
      · have HQ := hd (show bs (quoR l) = bs [] by rw [quoR_no hk])
        have HG := hd (chkL_no hk)
        have HC : Hid (∀ W : World, VL W W.heap.size A (rv l) → Calls Tryd.prog 18 #[.slice A n c] W (Pure (.int .i64 4) W)) := hd (fun W hv => by
          rw [← chkL_no hk]
          exact check_any A l n c W HN.out (by omega) hv)
        have hz : (bs []).toList = [] := bs_toList []
        clear hk
        go_enter Tryd.func5, Tryd.ntmps5
        go_wp2_with fail
        refine (live_any _ hT).mono ?_
        rintro e w1 ⟨rfl, hb1⟩
        have HT1 := hd (hT.out.below hb1)
        go_wp2_with fail
        refine (quote_is A l n c (bs []) 4 HQ.out HG.out w1 HT1 HN.out (by omega) (HP.out.later hb1)).mono ?_
        rintro e w2 ⟨rfl, hb2⟩
        have hb2 := hb1.trans (hb2.mono hb1.size)
        go_wp2_with fail
        refine (HC.out w2 (HP.out.later hb2)).mono ?_
        rintro e w3 ⟨rfl, rfl⟩
        obtain ⟨w3, hw3⟩ : ∃ w3, w3 = w2 := ⟨_, rfl⟩
        subst hw3
        have hb3 := hb2
        clear hb2 hb1
        cases he : decide (er = 0)
        · have he0 : er ≠ 0 := of_decide_eq_false he
          obtain ⟨q1, q2, q3, q4⟩ := unqL_err _ _ _ _ hr he0
          subst q1 q2
          rw [data_len] at q4
          have HR := hd hr
          clear hr he he0
          go_wp2_with fail
          refine (unquote_any s w3 (by omega)).mono ?_
          intro e w4 h4
          obtain ⟨A4, c4, rfl, _, v4, hb4⟩ := h4.own [] pr 11 0 HR.out rfl
          have hb4 := hb3.trans (hb4.mono hb3.size)
          go_wp2
          go_ret
          exact ⟨rfl, hb4⟩
        · have he0 : er = 0 := of_decide_eq_true he
          subst he0
          obtain ⟨q1, q2, q3⟩ := unqL_inv _ _ _ hr
          subst q2
          have hql : (quoL xr).length ≤ 400 := by rw [← q3, data_len]; exact hs400
          have hxl : xr.length ≤ 400 := by
            have := bodyL_ge xr
            rw [quoL_len] at hql
            omega
          have HR := hd hr
          have HS := hd (show bs (quoR xr) = s by rw [quoR_yes q1, ← q3]; exact bs_of s)
          have HG := hd (chkL_yes q1)
          obtain ⟨m, hm⟩ : ∃ m, xr.length = m := ⟨_, rfl⟩
          rw [hm] at hxl
          have HM := hd hm
          clear hr he hql q1 q3 hm
          go_wp2_with fail
          refine (unquote_any s w3 (by omega)).mono ?_
          intro e w4 h4
          obtain ⟨A4, c4, rfl, _, v4, hb4⟩ := h4.own xr 0 0 m HR.out HM.out
          have hb4 := hb3.trans (hb4.mono hb3.size)
          have HT4 := hd (hT.out.below hb4)
          have HV4 := hd v4
          clear v4
          go_wp2_with fail
          refine (quote_is A4 xr m c4 s 0 HS.out HG.out w4 HT4 HM.out (by omega) HV4.out).mono ?_
          rintro e w5 ⟨rfl, hb5⟩
          have hb5 := hb4.trans (hb5.mono hb4.size)
          go_wp2
          go_ret
          exact ⟨rfl, hb5⟩
      · have HQ := hd (show bs (quoR l) = bs (quoL l) by rw [quoR_yes hk])
        have HG := hd (chkL_yes hk)
        have hql : (quoL l).length ≤ 2000 := by
          have := bodyL_len l hk
          have := HN.out
          rw [quoL_len]; omega
        have HU := hd (fun W => unq_call (quoL l) W _ (unqL_quo l hk) (by omega))
        have HSe := hd (sameL_self l)
        obtain ⟨S, hS⟩ : ∃ S, S = bs (quoL l) := ⟨_, rfl⟩
        rw [← hS] at HQ HU
        clear hk hS hql
        go_enter Tryd.func5, Tryd.ntmps5
        go_wp2_with fail
        refine (live_any _ hT).mono ?_
        rintro e w1 ⟨rfl, hb1⟩
        have HT1 := hd (hT.out.below hb1)
        go_wp2_with fail
        refine (quote_is A l n c S 0 HQ.out HG.out w1 HT1 HN.out (by omega) (HP.out.later hb1)).mono ?_
        rintro e w2 ⟨rfl, hb2⟩
        have hb2 := hb1.trans (hb2.mono hb1.size)
        go_wp2_with fail
        refine (HU.out w2).mono ?_
        intro e w2b h2b
        obtain ⟨A2, c2, rfl, _, v2, hb2b⟩ := h2b.own l 0 0 n rfl HN.out
        have hb2b := hb2.trans (hb2b.mono hb2.size)
        have HV2 := hd v2
        clear v2
        go_wp2_with fail
        refine (calls_still (rsame_any A2 A l l n n c2 c true HSe.out w2b HN.out HN.out hl hl HV2.out (HP.out.later hb2b))).mono ?_
        rintro e w3 ⟨rfl, hb3⟩
        have hb3 := hb2b.trans (hb3.mono hb2b.size)
        clear hb2 hb1 hb2b
        cases he : decide (er = 0)
        · have he0 : er ≠ 0 := of_decide_eq_false he
          obtain ⟨q1, q2, q3, q4⟩ := unqL_err _ _ _ _ hr he0
          subst q1 q2
          rw [data_len] at q4
          have HR := hd hr
          clear hr he he0
          go_wp2_with fail
          refine (unquote_any s w3 (by omega)).mono ?_
          intro e w4 h4
          obtain ⟨A4, c4, rfl, _, v4, hb4⟩ := h4.own [] pr 11 0 HR.out rfl
          have hb4 := hb3.trans (hb4.mono hb3.size)
          go_wp2
          go_ret
          exact ⟨rfl, hb4⟩
        · have he0 : er = 0 := of_decide_eq_true he
          subst he0
          obtain ⟨q1, q2, q3⟩ := unqL_inv _ _ _ hr
          subst q2
          have hql : (quoL xr).length ≤ 400 := by rw [← q3, data_len]; exact hs400
          have hxl : xr.length ≤ 400 := by
            have := bodyL_ge xr
            rw [quoL_len] at hql
            omega
          have HR := hd hr
          have HS := hd (show bs (quoR xr) = s by rw [quoR_yes q1, ← q3]; exact bs_of s)
          have HG := hd (chkL_yes q1)
          obtain ⟨m, hm⟩ : ∃ m, xr.length = m := ⟨_, rfl⟩
          rw [hm] at hxl
          have HM := hd hm
          clear hr he hql q1 q3 hm
          go_wp2_with fail
          refine (unquote_any s w3 (by omega)).mono ?_
          intro e w4 h4
          obtain ⟨A4, c4, rfl, _, v4, hb4⟩ := h4.own xr 0 0 m HR.out HM.out
          have hb4 := hb3.trans (hb4.mono hb3.size)
          have HT4 := hd (hT.out.below hb4)
          have HV4 := hd v4
          clear v4
          go_wp2_with fail
          refine (quote_is A4 xr m c4 s 0 HS.out HG.out w4 HT4 HM.out (by omega) HV4.out).mono ?_
          rintro e w5 ⟨rfl, hb5⟩
          have hb5 := hb4.trans (hb5.mono hb4.size)
          go_wp2
          go_ret
          exact ⟨rfl, hb5⟩

end Go.Proofs.YtnbcnljegkemiaaDoor
