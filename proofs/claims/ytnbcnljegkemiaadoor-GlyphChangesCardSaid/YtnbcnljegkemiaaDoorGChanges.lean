/- The walk of GlyphChanges: whatever the input, it answers true, and old memory stays as it was. -/
import Derived.Test.YtnbcnljegkemiaaDoorGPool
import Derived.Deep.DeepCutAuto
namespace Go.Proofs.YtnbcnljegkemiaaDoor
open Go.RowKit

theorem insL_len (r : List Int) (p : Int) (s : List Int) : (insL r p s).1.length ≤ r.length + s.length := by
  unfold insL
  split
  · split
    · simp; omega
    · simp
  · simp
theorem remL_len (r : List Int) (p : Int) (s : List Int) : (remL r p s).1.length ≤ r.length := by
  unfold remL
  split
  · split
    · split
      · simp; omega
      · simp
    · simp
  · simp
theorem cutL_len (r : List Int) (p : Int) : (cutL r p).1.1.length ≤ r.length ∧ (cutL r p).1.2.length ≤ r.length := by
  unfold cutL
  split
  · split
    · simp; omega
    · simp
  · simp

set_option maxRecDepth 100000 in
set_option maxHeartbeats 32000000 in
theorem changes_any (A B : Option Addr) (l m : List Int) (a b c d : Nat) (p : Int) (w : World) (hT : Hid (Tab w)) (ha : l.length = a) (hb : m.length = b) (hl : a ≤ 9223372036854775807) (hm : b ≤ 9223372036854775807) (hac : a ≤ c) (hbd : b ≤ d) (hp : VL w w.heap.size A (rv l)) (hq : VL w w.heap.size B (rv m)) :
    Calls Tryd.prog 3 #[.slice A a c, .int .i64 p, .slice B b d] w (AllTrue w) := by
  have HP := hd hp
  have HQ := hd hq
  have HA := hd ha
  have HB := hd hb
  clear hp hq ha hb
  by_cases hlong : 200 < a
  · go_enter Tryd.func3, Tryd.ntmps3
    go_wp2_with fail
    refine (live_any _ hT).mono ?_
    rintro e w1 ⟨rfl, hb1⟩
    go_wp2
    go_ret
    exact ⟨rfl, hb1⟩
  · have hl200 : a ≤ 200 := by omega
    clear hlong
    by_cases hlong : 200 < b
    · go_enter Tryd.func3, Tryd.ntmps3
      go_wp2_with fail
      refine (live_any _ hT).mono ?_
      rintro e w1 ⟨rfl, hb1⟩
      go_wp2
      go_ret
      exact ⟨rfl, hb1⟩
    · have hm200 : b ≤ 200 := by omega
      clear hlong
      obtain ⟨x, e1, hr1⟩ : ∃ x e, insL l p m = (x, e) := ⟨_, _, rfl⟩
      obtain ⟨y, e2, hr2⟩ : ∃ x e, remL l p m = (x, e) := ⟨_, _, rfl⟩
      obtain ⟨u, v, e3, hr3⟩ : ∃ x y e, cutL l p = ((x, y), e) := ⟨_, _, _, rfl⟩
      obtain ⟨nx, hnx⟩ : ∃ n, x.length = n := ⟨_, rfl⟩
      obtain ⟨ny, hny⟩ : ∃ n, y.length = n := ⟨_, rfl⟩
      obtain ⟨nu, hnu⟩ : ∃ n, u.length = n := ⟨_, rfl⟩
      obtain ⟨nv, hnv⟩ : ∃ n, v.length = n := ⟨_, rfl⟩
      have bx : nx ≤ 400 := by have := insL_len l p m; rw [hr1, HA.out, HB.out, hnx] at this; omega
      have by_ : ny ≤ 400 := by have := remL_len l p m; rw [hr2, HA.out, hny] at this; omega
      have bu : nu ≤ 400 := by have := (cutL_len l p).1; rw [hr3, HA.out, hnu] at this; omega
      have bv_ : nv ≤ 400 := by have := (cutL_len l p).2; rw [hr3, HA.out, hnv] at this; omega
      have R1 := hd hr1
      have R2 := hd hr2
      have R3 := hd hr3
      have NX := hd hnx
      have NY := hd hny
      have NU := hd hnu
      have NV := hd hnv
      have SX := hd (sameL_self x)
      have SY := hd (sameL_self y)
      have SU := hd (sameL_self u)
      have SV := hd (sameL_self v)
      have SL := hd (sameL_self l)
      obtain ⟨sb, hsb⟩ : ∃ r, sameL l m = r := ⟨_, rfl⟩
      have SM := hd hsb
      obtain ⟨q, hq⟩ : ∃ q, chkL l = q := ⟨_, rfl⟩
      have HCk : Hid (∀ W : World, VL W W.heap.size A (rv l) → Calls Tryd.prog 18 #[.slice A a c] W (Pure (.int .i64 q) W)) := hd (fun W hv => by rw [← hq]; exact check_any A l a c W HA.out (by omega) hv)
      have HCr : Hid (∀ W : World, VL W W.heap.size A (rv l) → Calls Tryd.prog 19 #[.slice A a c] W (Pure (.int .i64 q) W)) := hd (fun W hv => by rw [← hq]; exact rcheck_any A l a c W HA.out (by omega) hv)
      clear hr1 hr2 hr3 hnx hny hnu hnv hsb hq
      go_enter Tryd.func3, Tryd.ntmps3
      go_wp2_with fail
      refine (live_any _ hT).mono ?_
      rintro e w1 ⟨rfl, hb1⟩
      go_wp2_with fail
      refine (copy_any A l a c w1 HA.out (by omega) (HP.out.later hb1)).mono ?_
      intro e w2 h
      obtain ⟨A0, c0, rfl, _, v0, _, g2⟩ := h.own a HA.out
      have HW := hd v0
      have hb2 := hb1.trans (g2.mono hb1.size)
      have k2 := Below.refl w2.heap.size w2
      clear h v0
      go_wp2_with fail
      refine (insert_any A B l m a b c d p w2 HA.out HB.out (by omega) (by omega) hac hbd (HP.out.later hb2) (HQ.out.later hb2)).mono ?_
      intro e w3 h
      obtain ⟨A3, c3, rfl, _, _, o3, g3⟩ := h.own x e1 nx R1.out NX.out
      have O3 := hd o3
      clear h o3
      have hb3 := hb2.trans (g3.mono hb2.size)
      have k3 := k2.trans (g3.mono k2.size)
      have z3 : w2.heap.size ≤ w3.heap.size := k3.size
      go_wp2_with fail
      refine (rinsert_any A B l m a b c d p w3 HA.out HB.out (by omega) (by omega) hac hbd (HP.out.later hb3) (HQ.out.later hb3)).mono ?_
      intro e w4 h
      obtain ⟨A4, c4, rfl, _, _, o4, g4⟩ := h.own x e1 nx R1.out NX.out
      have O4 := hd o4
      clear h o4
      have O3 := hd (O3.out.below g4)
      have hb4 := hb3.trans (g4.mono hb3.size)
      have k4 := k3.trans (g4.mono k3.size)
      have z4 : w2.heap.size ≤ w4.heap.size := k4.size
      go_wp2_with fail
      refine (remove_any A B l m a b c d p w4 HA.out HB.out (by omega) (by omega) hac hbd (HP.out.later hb4) (HQ.out.later hb4)).mono ?_
      intro e w5 h
      obtain ⟨A5, c5, rfl, _, _, o5, g5⟩ := h.own y e2 ny R2.out NY.out
      have O5 := hd o5
      clear h o5
      have O3 := hd (O3.out.below g5)
      have O4 := hd (O4.out.below g5)
      have hb5 := hb4.trans (g5.mono hb4.size)
      have k5 := k4.trans (g5.mono k4.size)
      have z5 : w2.heap.size ≤ w5.heap.size := k5.size
      go_wp2_with fail
      refine (rremove_any A B l m a b c d p w5 HA.out HB.out (by omega) (by omega) hac hbd (HP.out.later hb5) (HQ.out.later hb5)).mono ?_
      intro e w6 h
      obtain ⟨A6, c6, rfl, _, _, o6, g6⟩ := h.own y e2 ny R2.out NY.out
      have O6 := hd o6
      clear h o6
      have O3 := hd (O3.out.below g6)
      have O4 := hd (O4.out.below g6)
      have O5 := hd (O5.out.below g6)
      have hb6 := hb5.trans (g6.mono hb5.size)
      have k6 := k5.trans (g6.mono k5.size)
      have z6 : w2.heap.size ≤ w6.heap.size := k6.size
      go_wp2_with fail
      refine (cut_any A l a c p w6 HA.out (by omega) hac (HP.out.later hb6)).mono ?_
      intro e w7 h
      obtain ⟨A7, c7, B7, d7, rfl, _, _, _, _, o7, r7, g7⟩ := h.own u v e3 nu nv R3.out NU.out NV.out
      have O7 := hd o7
      have O7b := hd r7
      clear h o7 r7
      have O3 := hd (O3.out.below g7)
      have O4 := hd (O4.out.below g7)
      have O5 := hd (O5.out.below g7)
      have O6 := hd (O6.out.below g7)
      have hb7 := hb6.trans (g7.mono hb6.size)
      have k7 := k6.trans (g7.mono k6.size)
      have z7 : w2.heap.size ≤ w7.heap.size := k7.size
      go_wp2_with fail
      refine (rcut_any A l a c p w7 HA.out (by omega) hac (HP.out.later hb7)).mono ?_
      intro e w8 h
      obtain ⟨A8, c8, B8, d8, rfl, _, _, _, _, o8, r8, g8⟩ := h.own u v e3 nu nv R3.out NU.out NV.out
      have O8 := hd o8
      have O8b := hd r8
      clear h o8 r8
      have O3 := hd (O3.out.below g8)
      have O4 := hd (O4.out.below g8)
      have O5 := hd (O5.out.below g8)
      have O6 := hd (O6.out.below g8)
      have O7 := hd (O7.out.below g8)
      have O7b := hd (O7b.out.below g8)
      have hb8 := hb7.trans (g8.mono hb7.size)
      have k8 := k7.trans (g8.mono k7.size)
      have z8 : w2.heap.size ≤ w8.heap.size := k8.size
      clear g2 g3 g4 g5 g6 g7 g8 hb1 hb3 hb4 hb5 hb6 hb7 k3 k4 k5 k6 k7
      go_wp2_with fail
      refine (calls_still (rsame_any A3 A4 x x nx nx c3 c4 true SX.out w8 NX.out NX.out (by omega) (by omega) O3.out.vl O4.out.vl)).mono ?_
      rintro e w9 ⟨rfl, g9⟩
      have O3 := hd (O3.out.below g9)
      have O5 := hd (O5.out.below g9)
      have O6 := hd (O6.out.below g9)
      have O7 := hd (O7.out.below g9)
      have O7b := hd (O7b.out.below g9)
      have O8 := hd (O8.out.below g9)
      have O8b := hd (O8b.out.below g9)
      have hb9 := hb8.trans (g9.mono hb8.size)
      have k9 := k8.trans (g9.mono k8.size)
      have z9 : w2.heap.size ≤ w9.heap.size := k9.size
      go_wp2_with fail
      refine (calls_still (rsame_any A5 A6 y y ny ny c5 c6 true SY.out w9 NY.out NY.out (by omega) (by omega) O5.out.vl O6.out.vl)).mono ?_
      rintro e w10 ⟨rfl, g10⟩
      have O3 := hd (O3.out.below g10)
      have O5 := hd (O5.out.below g10)
      have O7 := hd (O7.out.below g10)
      have O7b := hd (O7b.out.below g10)
      have O8 := hd (O8.out.below g10)
      have O8b := hd (O8b.out.below g10)
      have hb10 := hb9.trans (g10.mono hb9.size)
      have k10 := k9.trans (g10.mono k9.size)
      have z10 : w2.heap.size ≤ w10.heap.size := k10.size
      go_wp2_with fail
      refine (calls_still (rsame_any A7 A8 u u nu nu c7 c8 true SU.out w10 NU.out NU.out (by omega) (by omega) O7.out.vl O8.out.vl)).mono ?_
      rintro e w11 ⟨rfl, g11⟩
      have O3 := hd (O3.out.below g11)
      have O5 := hd (O5.out.below g11)
      have O7 := hd (O7.out.below g11)
      have O7b := hd (O7b.out.below g11)
      have O8b := hd (O8b.out.below g11)
      have hb11 := hb10.trans (g11.mono hb10.size)
      have k11 := k10.trans (g11.mono k10.size)
      have z11 : w2.heap.size ≤ w11.heap.size := k11.size
      go_wp2_with fail
      refine (calls_still (rsame_any B7 B8 v v nv nv d7 d8 true SV.out w11 NV.out NV.out (by omega) (by omega) O7b.out.vl O8b.out.vl)).mono ?_
      rintro e w12 ⟨rfl, g12⟩
      have O3 := hd (O3.out.below g12)
      have O5 := hd (O5.out.below g12)
      have O7 := hd (O7.out.below g12)
      have O7b := hd (O7b.out.below g12)
      have hb12 := hb11.trans (g12.mono hb11.size)
      have k12 := k11.trans (g12.mono k11.size)
      have z12 : w2.heap.size ≤ w12.heap.size := k12.size
      clear O4 O6 O8 O8b g9 g10 g11 g12 hb8 hb9 hb10 hb11 k8 k9 k10 k11
      go_wp2_with fail
      refine (HCk.out w12 (HP.out.later hb12)).mono ?_
      rintro e w' ⟨rfl, rfl⟩
      go_wp2_with fail
      refine (HCr.out w12 (HP.out.later hb12)).mono ?_
      rintro e w' ⟨rfl, rfl⟩
      go_wp2_with fail
      refine (calls_still (same_any A B l m a b c d sb SM.out w12 HA.out HB.out (by omega) (by omega) (HP.out.later hb12) (HQ.out.later hb12))).mono ?_
      rintro e w13 ⟨rfl, g13⟩
      have O3 := hd (O3.out.below g13)
      have O5 := hd (O5.out.below g13)
      have O7 := hd (O7.out.below g13)
      have O7b := hd (O7b.out.below g13)
      have hb13 := hb12.trans (g13.mono hb12.size)
      have k13 := k12.trans (g13.mono k12.size)
      have z13 : w2.heap.size ≤ w13.heap.size := k13.size
      go_wp2_with fail
      refine (calls_still (rsame_any A B l m a b c d sb SM.out w13 HA.out HB.out (by omega) (by omega) (HP.out.later hb13) (HQ.out.later hb13))).mono ?_
      rintro e w14 ⟨rfl, g14⟩
      have O3 := hd (O3.out.below g14)
      have O5 := hd (O5.out.below g14)
      have O7 := hd (O7.out.below g14)
      have O7b := hd (O7b.out.below g14)
      have hb14 := hb13.trans (g14.mono hb13.size)
      have k14 := k13.trans (g14.mono k13.size)
      have z14 : w2.heap.size ≤ w14.heap.size := k14.size
      have hrows := (rows4 w14 w2.heap.size A3 A5 A7 B7 nx ny nu nv c3 c5 c7 d7 (WI.of_own O3.out (Nat.le_refl _)) (WI.of_own O5.out z4) (WI.of_own O7.out z6) (WI.of_own O7b.out z6) (by omega) (by omega) (by omega) (by omega))
      have hk14 := k14.alloc k14.size (.cells #[.slice A3 nx c3, .slice A5 ny c5, .slice A7 nu c7, .slice B7 nv d7] 22)
      have hz14 : w2.heap.size ≤ w14.heap.size := k14.size
      clear O3 O5 O7 O7b g13 g14 hb12 hb13 k12 k13 z3 z4 z5 z6 z7 z8 z9 z10 z11 z12 z13 z14 R1 R2 R3 NX NY NU NV SX SY SU SV HCk HCr
      obtain ⟨vs, hvl, hrw⟩ : ∃ vs : List Value, vs.length = 4 ∧ Rows_ (w14.alloc (.cells #[.slice A3 nx c3, .slice A5 ny c5, .slice A7 nu c7, .slice B7 nv d7] 22)) w2.heap.size w14.heap.size vs := ⟨_, rfl, hrows⟩
      have HRw := hd hrw
      have HVl := hd hvl
      clear hvl hrw hrows
      have HW14 := hd HW.out
      have hb2s := hb2.size
      cases sb
      all_goals
        go_wp2_with fail
        go_loopw [135] (fun i wr => ∃ j : Nat, j ≤ 4 ∧ i = .int .i64 j ∧ Below w2.heap.size w2 wr ∧ Hid (Rows_ wr w2.heap.size w14.heap.size vs)) (fun i _ => 4 - (intOf i).toNat)
        case atStart => exact ⟨0, Nat.zero_le _, rfl, hk14, HRw⟩
        case round =>
          obtain ⟨j, hj, rfl, hbr, hrw⟩ := hrel
          by_cases h2 : j < 4
          · obtain ⟨Aj, mj, dj, hcell, hmj, hat⟩ := hrw.out.at_ (j := j) (by have := HVl.out; omega)
            have h2' : (j : Int) < 4 := by omega
            have HAt := hd hat
            clear hat
            go_wp2_with fail
            obtain ⟨wo, hwo⟩ : ∃ wo : World, wo = wr := ⟨_, rfl⟩
            subst hwo
            go_loopw [141] (fun i wr => ∃ n : Nat, n ≤ mj ∧ i = .int .i64 n ∧ Below w2.heap.size w2 wr ∧ Hid (Rows_ wr w2.heap.size w14.heap.size vs)) (fun i _ => mj - (intOf i).toNat)
            case atStart => exact ⟨0, Nat.zero_le _, rfl, hbr, hrw⟩
            case round =>
              obtain ⟨n, hn, rfl, hb3, hrw3⟩ := hrel
              by_cases h1 : n < mj
              · obtain ⟨g, x, rfl, hB, hcur, hcell3, hfz⟩ := (hrw3.out.wi HAt.out).at_ h1
                have HCur := hd hcur
                clear hcur hcell
                go_wp2_with fail
                go_roundw
                case rel => exact ⟨n + 1, by omega, by go_num, hb3.setCell hB _, hd (hrw3.out.set g n _ HCur.out)⟩
                case measure => simp [intOf]; omega
              · go_wp2_with fail
                go_roundw
                case rel => exact ⟨j + 1, by omega, by go_num, hb3, hrw3⟩
                case measure => simp [intOf]; omega
          · have h2' : ¬ (j : Int) < 4 := by omega
            have hbe : Below w.heap.size w wr := hb2.trans (hbr.mono hb2s)
            have HPe := hd (HP.out.later hbe)
            have HWe := hd ((HW14.out.below hbr).more hbr.size)
            go_wp2_with fail
            refine (calls_still (rsame_any A A0 l l a a c c0 true SL.out wr HA.out HA.out hl hl HPe.out HWe.out)).mono ?_
            rintro e w20 ⟨rfl, g20⟩
            go_wp2_with fail
            go_ret
            exact ⟨rfl, hbe.trans (g20.mono hbe.size)⟩

end Go.Proofs.YtnbcnljegkemiaaDoor
