/- The walk of GlyphUndo: whatever the input, it answers true, and old memory stays as it was. -/
import Derived.Test.YtnbcnljegkemiaaDoorGIns
namespace Go.Proofs.YtnbcnljegkemiaaDoor
open Go.RowKit

theorem rem_len (r : List Int) (p : Int) (s l : List Int) (h : remL r p s = (l, 0)) : l.length ≤ r.length := by
  unfold remL at h
  split at h
  · split at h
    · split at h
      · simp only [Prod.mk.injEq, and_true] at h
        subst h
        simp; omega
      · simp at h
    · simp at h
  · simp at h

set_option maxRecDepth 100000 in
set_option maxHeartbeats 16000000 in
theorem undo_any (A B : Option Addr) (l m : List Int) (a b c d : Nat) (p : Int) (w : World) (hT : Hid (Tab w)) (ha : l.length = a) (hb : m.length = b) (hl : a ≤ 9223372036854775807) (hm : b ≤ 9223372036854775807) (hac : a ≤ c) (hbd : b ≤ d) (hp : VL w w.heap.size A (rv l)) (hq : VL w w.heap.size B (rv m)) :
    Calls Tryd.prog 6 #[.slice A a c, .int .i64 p, .slice B b d] w (AllTrue w) := by
  have HP := hd hp
  have HQ := hd hq
  have HA := hd ha
  have HB := hd hb
  clear hp hq ha hb
  by_cases hlong : 200 < a
  · go_enter Tryd.func6, Tryd.ntmps6
    go_wp2_with fail
    refine (live_any _ hT).mono ?_
    rintro e w1 ⟨rfl, hb1⟩
    go_wp2
    go_ret
    exact ⟨rfl, hb1⟩
  · have hl200 : a ≤ 200 := by omega
    clear hlong
    by_cases hlong : 200 < b
    · go_enter Tryd.func6, Tryd.ntmps6
      go_wp2_with fail
      refine (live_any _ hT).mono ?_
      rintro e w1 ⟨rfl, hb1⟩
      go_wp2
      go_ret
      exact ⟨rfl, hb1⟩
    · have hm200 : b ≤ 200 := by omega
      clear hlong
      have HSe := hd (sameL_self l)
      obtain ⟨x, e1, hr1⟩ : ∃ x e, insL l p m = (x, e) := ⟨_, _, rfl⟩
      obtain ⟨y, e2, hr2⟩ : ∃ x e, remL l p m = (x, e) := ⟨_, _, rfl⟩
      by_cases he1 : e1 = 0
      · subst he1
        have hri := rem_ins l p m x hr1
        have HR1 := hd hr1
        have HI1 := hd hri.1
        obtain ⟨nx, hnx⟩ : ∃ n, x.length = n := ⟨_, rfl⟩
        have hxl : nx = a + b := by have h1 := hri.2; have h2 := HA.out; have h3 := HB.out; omega
        have HNx := hd (hnx.trans hxl)
        clear hr1 hri hnx hxl
        go_enter Tryd.func6, Tryd.ntmps6
        go_wp2_with fail
        refine (live_any _ hT).mono ?_
        rintro e w1 ⟨rfl, hb1⟩
        go_wp2_with fail
        refine (insert_any A B l m a b c d p w1 HA.out HB.out (by omega) (by omega) hac hbd (HP.out.later hb1) (HQ.out.later hb1)).mono ?_
        intro e w2 h2
        obtain ⟨A2, c2, rfl, q2, v2, _, hb2⟩ := h2.own x 0 (a + b) HR1.out HNx.out
        have HV2 := hd v2
        have hb2 := hb1.trans (hb2.mono hb1.size)
        clear v2 h2
        go_wp2_with fail
        refine (remove_any A2 B x m (a + b) b c2 d p w2 HNx.out HB.out (by omega) (by omega) q2 hbd HV2.out (HQ.out.later hb2)).mono ?_
        intro e w3 h3
        obtain ⟨A3, c3, rfl, q3, v3, _, hb3⟩ := h3.own l 0 a HI1.out HA.out
        have HV3 := hd v3
        have hb3 := hb2.trans (hb3.mono hb2.size)
        clear v3 h3
        go_wp2_with fail
        refine (calls_still (rsame_any A3 A l l a a c3 c true HSe.out w3 HA.out HA.out hl hl HV3.out (HP.out.later hb3))).mono ?_
        rintro e w5 ⟨rfl, hb5⟩
        have hb5 := hb3.trans (hb5.mono hb3.size)
        clear hb1 hb2 hb3
        cases he : decide (e2 = 0)
        · have he0 : e2 ≠ 0 := of_decide_eq_false he
          have hy : y = [] := by have := remL_err l p m (by rw [hr2]; exact he0); rw [hr2] at this; exact this
          subst hy
          have HR := hd hr2
          have g1 : (e2 == 0) = false := by simpa using he0
          have g2 : (e2 != 0) = true := by simpa using he0
          clear hr2 he he0
          go_wp2_with fail
          refine (remove_any A B l m a b c d p w5 HA.out HB.out (by omega) (by omega) hac hbd (HP.out.later hb5) (HQ.out.later hb5)).mono ?_
          intro e w6 h6
          obtain ⟨A6, c6, rfl, _, v6, _, hb6⟩ := h6.own [] e2 0 HR.out rfl
          have hb6 := hb5.trans (hb6.mono hb5.size)
          go_wp2
          go_ret
          exact ⟨rfl, hb6⟩
        · have he0 : e2 = 0 := of_decide_eq_true he
          subst he0
          have HI := hd (ins_rem l p m y hr2)
          obtain ⟨ny, hny⟩ : ∃ n, y.length = n := ⟨_, rfl⟩
          have hyl : ny ≤ 200 := by
            have h1 := (rem_len l p m y hr2)
            have h2 := HA.out
            omega
          have HNy := hd hny
          have HR := hd hr2
          clear hr2 he hny
          go_wp2_with fail
          refine (remove_any A B l m a b c d p w5 HA.out HB.out (by omega) (by omega) hac hbd (HP.out.later hb5) (HQ.out.later hb5)).mono ?_
          intro e w6 h6
          obtain ⟨A6, c6, rfl, q6, v6, _, hb6⟩ := h6.own y 0 ny HR.out HNy.out
          have HV6 := hd v6
          have hb6 := hb5.trans (hb6.mono hb5.size)
          clear v6 h6
          go_wp2_with fail
          refine (insert_any A6 B y m ny b c6 d p w6 HNy.out HB.out (by omega) (by omega) q6 hbd HV6.out (HQ.out.later hb6)).mono ?_
          intro e w7 h7
          obtain ⟨A7, c7, rfl, q7, v7, _, hb7⟩ := h7.own l 0 a HI.out HA.out
          have HV7 := hd v7
          have hb7 := hb6.trans (hb7.mono hb6.size)
          clear v7 h7
          go_wp2_with fail
          refine (calls_still (rsame_any A7 A l l a a c7 c true HSe.out w7 HA.out HA.out hl hl HV7.out (HP.out.later hb7))).mono ?_
          rintro e w8 ⟨rfl, hb8⟩
          have hb8 := hb7.trans (hb8.mono hb7.size)
          go_wp2
          go_ret
          exact ⟨rfl, hb8⟩
      · have hx : x = [] := by have := insL_err l p m (by rw [hr1]; exact he1); rw [hr1] at this; exact this
        subst hx
        have HR1 := hd hr1
        have k1 : (e1 == 0) = false := by simpa using he1
        have k2 : (e1 != 0) = true := by simpa using he1
        clear hr1 he1
        go_enter Tryd.func6, Tryd.ntmps6
        go_wp2_with fail
        refine (live_any _ hT).mono ?_
        rintro e w1 ⟨rfl, hb1⟩
        go_wp2_with fail
        refine (insert_any A B l m a b c d p w1 HA.out HB.out (by omega) (by omega) hac hbd (HP.out.later hb1) (HQ.out.later hb1)).mono ?_
        intro e w5 h5
        obtain ⟨A5, c5, rfl, q5, v5, _, hb5⟩ := h5.own [] e1 0 HR1.out rfl
        have hb5 := hb1.trans (hb5.mono hb1.size)
        clear v5 h5 hb1
        cases he : decide (e2 = 0)
        · have he0 : e2 ≠ 0 := of_decide_eq_false he
          have hy : y = [] := by have := remL_err l p m (by rw [hr2]; exact he0); rw [hr2] at this; exact this
          subst hy
          have HR := hd hr2
          have g1 : (e2 == 0) = false := by simpa using he0
          have g2 : (e2 != 0) = true := by simpa using he0
          clear hr2 he he0
          go_wp2_with fail
          refine (remove_any A B l m a b c d p w5 HA.out HB.out (by omega) (by omega) hac hbd (HP.out.later hb5) (HQ.out.later hb5)).mono ?_
          intro e w6 h6
          obtain ⟨A6, c6, rfl, _, v6, _, hb6⟩ := h6.own [] e2 0 HR.out rfl
          have hb6 := hb5.trans (hb6.mono hb5.size)
          go_wp2
          go_ret
          exact ⟨rfl, hb6⟩
        · have he0 : e2 = 0 := of_decide_eq_true he
          subst he0
          have HI := hd (ins_rem l p m y hr2)
          obtain ⟨ny, hny⟩ : ∃ n, y.length = n := ⟨_, rfl⟩
          have hyl : ny ≤ 200 := by
            have h1 := (rem_len l p m y hr2)
            have h2 := HA.out
            omega
          have HNy := hd hny
          have HR := hd hr2
          clear hr2 he hny
          go_wp2_with fail
          refine (remove_any A B l m a b c d p w5 HA.out HB.out (by omega) (by omega) hac hbd (HP.out.later hb5) (HQ.out.later hb5)).mono ?_
          intro e w6 h6
          obtain ⟨A6, c6, rfl, q6, v6, _, hb6⟩ := h6.own y 0 ny HR.out HNy.out
          have HV6 := hd v6
          have hb6 := hb5.trans (hb6.mono hb5.size)
          clear v6 h6
          go_wp2_with fail
          refine (insert_any A6 B y m ny b c6 d p w6 HNy.out HB.out (by omega) (by omega) q6 hbd HV6.out (HQ.out.later hb6)).mono ?_
          intro e w7 h7
          obtain ⟨A7, c7, rfl, q7, v7, _, hb7⟩ := h7.own l 0 a HI.out HA.out
          have HV7 := hd v7
          have hb7 := hb6.trans (hb7.mono hb6.size)
          clear v7 h7
          go_wp2_with fail
          refine (calls_still (rsame_any A7 A l l a a c7 c true HSe.out w7 HA.out HA.out hl hl HV7.out (HP.out.later hb7))).mono ?_
          rintro e w8 ⟨rfl, hb8⟩
          have hb8 := hb7.trans (hb8.mono hb7.size)
          go_wp2
          go_ret
          exact ⟨rfl, hb8⟩

end Go.Proofs.YtnbcnljegkemiaaDoor
