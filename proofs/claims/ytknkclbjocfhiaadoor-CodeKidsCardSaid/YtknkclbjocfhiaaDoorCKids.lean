/- CodeKids answers true. -/
import Derived.Test.YtknkclbjocfhiaaDoorCLaw
namespace Go.Proofs.YtknkclbjocfhiaaDoor
open Go.RowKit

/-- An element that holds two nodes. -/
theorem pair_at {d d' : Nat} {X : World} {B : Nat} {a b : NT} {lf1 lf2 : Bool} {PA1 TA1 KA1 PA2 TA2 KA2 : Option Addr} {np1 pc1 nt1 tc1 nk1 kc1 np2 pc2 nt2 tc2 nk2 kc2 : Nat}
    (ha : NodeAt d X X.heap.size (.agg #[.bool lf1, .slice PA1 np1 pc1, .slice TA1 nt1 tc1, .slice KA1 nk1 kc1]) a) (hb : NodeAt d' X X.heap.size (.agg #[.bool lf2, .slice PA2 np2 pc2, .slice TA2 nt2 tc2, .slice KA2 nk2 kc2]) b)
    (hB : B = X.heap.size) :
    NodeAt (max d d' + 1) (X.alloc (.cells #[.bool lf1, .slice PA1 np1 pc1, .slice TA1 nt1 tc1, .slice KA1 nk1 kc1, .bool lf2, .slice PA2 np2 pc2, .slice TA2 nt2 tc2, .slice KA2 nk2 kc2] 26)) (X.alloc (.cells #[.bool lf1, .slice PA1 np1 pc1, .slice TA1 nt1 tc1, .slice KA1 nk1 kc1, .bool lf2, .slice PA2 np2 pc2, .slice TA2 nt2 tc2, .slice KA2 nk2 kc2] 26)).heap.size (.agg #[.bool false, .slice none 0 0, .slice none 0 0, .slice (some ⟨B, 0, none⟩) 2 2]) (.mk false [] [] [a, b]) := by
  subst hB
  obtain ⟨Y, hY⟩ : ∃ Y, Y = X.alloc (.cells #[.bool lf1, .slice PA1 np1 pc1, .slice TA1 nt1 tc1, .slice KA1 nk1 kc1, .bool lf2, .slice PA2 np2 pc2, .slice TA2 nt2 tc2, .slice KA2 nk2 kc2] 26) := ⟨_, rfl⟩
  have hxy : Below X.heap.size X Y := hY ▸ (Below.refl _ _).alloc (Nat.le_refl _) _
  have hs : Y.heap.size = X.heap.size + 1 := by rw [hY]; simp
  have hblk : Y.heap[X.heap.size]? = some (.cells #[.bool lf1, .slice PA1 np1 pc1, .slice TA1 nt1 tc1, .slice KA1 nk1 kc1, .bool lf2, .slice PA2 np2 pc2, .slice TA2 nt2 tc2, .slice KA2 nk2 kc2] 26 (0, 0)) := hY ▸ newBlkAt X _ _
  have hc : ∀ k u, #[Value.bool lf1, .slice PA1 np1 pc1, .slice TA1 nt1 tc1, .slice KA1 nk1 kc1, .bool lf2, .slice PA2 np2 pc2, .slice TA2 nt2 tc2, .slice KA2 nk2 kc2][k]? = some u → Y.cell? ⟨X.heap.size, k, none⟩ = some u := fun k u h => by rw [Lib.cell_of_heap hblk]; exact h
  rw [← hY]
  refine NodeAt.shut rfl rfl rfl (PL.nil _ _ _) (VL.nil _ _ _) ⟨⟨by simp, by simp⟩, by simp, by simp, by simp, by simp, by simp, by simp⟩ (fun k m hk => ?_)
  match k, hk with
  | 0, hk =>
    simp at hk
    subst hk
    exact ⟨X.heap.size, 0, _, rfl, by omega, nodeAt_deep (Nat.le_max_left _ _) (ha.later hxy), _, _, _, _, rfl, hc 0 _ rfl, hc 1 _ rfl, hc 2 _ rfl, hc 3 _ rfl⟩
  | 1, hk =>
    simp at hk
    subst hk
    exact ⟨X.heap.size, 0, _, rfl, by omega, nodeAt_deep (Nat.le_max_right _ _) (hb.later hxy), _, _, _, _, rfl, hc 4 _ rfl, hc 5 _ rfl, hc 6 _ rfl, hc 7 _ rfl⟩
  | k + 2, hk => simp at hk

def weightM (a b M : NT) : Prop := weighT M = 1 + weighT a + weighT b
set_option maxRecDepth 4000 in
theorem weightM.out {a b M : NT} (h : weightM a b M) : weighT M = 1 + weighT a + weighT b := h
set_option maxRecDepth 4000 in
set_option maxHeartbeats 16000000 in
theorem ckids_any (d d' : Nat) (w : World) (v v' : Value) (a b : NT) (hT : Hid (Tab w)) (hn : NodeAt d w w.heap.size v a) (hn' : NodeAt d' w w.heap.size v' b) : Calls Tryd.prog 6 #[v, v'] w (Still (.bool true) w) := by
  obtain ⟨lf1, PA1, np1, pc1, TA1, nt1, tc1, KA1, nk1, kc1, rfl⟩ := hn.val
  obtain ⟨lf2, PA2, np2, pc2, TA2, nt2, tc2, KA2, nk2, kc2, rfl⟩ := hn'.val
  obtain ⟨W1, hW1⟩ : ∃ W1, W1 = (w.alloc (.cells #[.bool lf1, .slice PA1 np1 pc1, .slice TA1 nt1 tc1, .slice KA1 nk1 kc1] 26)).alloc (.cells #[.bool lf2, .slice PA2 np2 pc2, .slice TA2 nt2 tc2, .slice KA2 nk2 kc2] 26) := ⟨_, rfl⟩
  have HB1 := hd (hW1 ▸ below_v4 (below_v4 (Below.refl w.heap.size w) #[.bool lf1, .slice PA1 np1 pc1, .slice TA1 nt1 tc1, .slice KA1 nk1 kc1] 26) #[.bool lf2, .slice PA2 np2 pc2, .slice TA2 nt2 tc2, .slice KA2 nk2 kc2] 26)
  have HU1 := hd (hW1 ▸ (V4.new w (.bool lf1) (.slice PA1 np1 pc1) (.slice TA1 nt1 tc1) (.slice KA1 nk1 kc1)).below ((Below.refl _ _).alloc (Nat.le_refl _) (.cells #[.bool lf2, .slice PA2 np2 pc2, .slice TA2 nt2 tc2, .slice KA2 nk2 kc2] 26)))
  have HV1 := hd (show V4 (w.heap.size + 1) (.bool lf2) (.slice PA2 np2 pc2) (.slice TA2 nt2 tc2) (.slice KA2 nk2 kc2) W1 by
    have := V4.new (w.alloc (.cells #[.bool lf1, .slice PA1 np1 pc1, .slice TA1 nt1 tc1, .slice KA1 nk1 kc1] 26)) (.bool lf2) (.slice PA2 np2 pc2) (.slice TA2 nt2 tc2) (.slice KA2 nk2 kc2)
    rw [← hW1] at this
    simpa using this)
  have HN := hd hn
  have HN' := hd hn'
  have HL := hd (live6_any W1 (hd (hT.out.below HB1.out)))
  obtain ⟨F, hF⟩ : ∃ F, fewB 100 a = F := ⟨_, rfl⟩
  obtain ⟨F', hF'⟩ : ∃ F', fewB 100 b = F' := ⟨_, rfl⟩
  have HF := hd hF
  have HF' := hd hF'
  have HC2 := fun (X : World) (hb : Below w.heap.size w X) => hd (hF ▸ few_any d X _ a 100 (by unfold In64; omega) (HN.out.later hb))
  have HC2' := fun (X : World) (hb : Below w.heap.size w X) => hd (hF' ▸ few_any d' X _ b 100 (by unfold In64; omega) (HN'.out.later hb))
  clear hn hn' hF hF'
  subst hW1
  go_enter Tryd.func6, Tryd.ntmps6
  go_wp2_with fail
  refine HL.out.mono ?_
  rintro e w2 ⟨rfl, b2⟩
  have HU2 := hd (HU1.out.below b2)
  have HV2 := hd (HV1.out.below b2)
  have HB2 := hd (HB1.out.trans (b2.mono HB1.out.size))
  have HC3 := HC2 w2 HB2.out
  obtain ⟨x0, x1, x2, x3⟩ := HU2.out.cells
  clear b2
  go_wp2_with fail
  refine HC3.out.mono ?_
  rintro e w3 ⟨rfl, b3⟩
  have HU3 := hd (HU2.out.below b3)
  have HV3 := hd (HV2.out.below b3)
  have HB3 := hd (HB2.out.trans (b3.mono HB2.out.size))
  have HC4 := HC2' w3 HB3.out
  clear b3 x0 x1 x2 x3 HC2 HC3 HC2'
  cases F
  · go_wp2
    go_ret
    exact ⟨rfl, HB3.out⟩
  obtain ⟨x0, x1, x2, x3⟩ := HV3.out.cells
  go_wp2_with fail
  refine HC4.out.mono ?_
  rintro e w4 ⟨rfl, b4⟩
  have HU4 := hd (HU3.out.below b4)
  have HV4 := hd (HV3.out.below b4)
  have HB4 := hd (HB3.out.trans (b4.mono HB3.out.size))
  clear b4 x0 x1 x2 x3 HC4
  cases F'
  · go_wp2
    go_ret
    exact ⟨rfl, HB4.out⟩
  have hwa : chkT a = 0 → weighT a ≤ 100 := fun hc => by
    have := of_few HN.out.fit hc (by omega) (by omega) HF.out
    omega
  have hwb : chkT b = 0 → weighT b ≤ 100 := fun hc => by
    have := of_few HN'.out.fit hc (by omega) (by omega) HF'.out
    omega
  have HP1 := hd (print_w d w4 _ a (hd (hT.out.below HB4.out)) (HN.out.later HB4.out) (fun hc => by have := hwa hc; omega))
  have HP2 := fun (X : World) (hb : Below w.heap.size w X) => hd (print_w d' X _ b (hd (hT.out.below hb)) (HN'.out.later hb) (fun hc => by have := hwb hc; omega))
  obtain ⟨S, hS⟩ : ∃ S, bs (printS a) = S := ⟨_, rfl⟩
  obtain ⟨E, hE⟩ : ∃ E, checkT a = E := ⟨_, rfl⟩
  obtain ⟨S', hS'⟩ : ∃ S', bs (printS b) = S' := ⟨_, rfl⟩
  obtain ⟨E', hE'⟩ : ∃ E', checkT b = E' := ⟨_, rfl⟩
  have HS := hd hS
  have HE := hd hE
  have HS' := hd hS'
  have HE' := hd hE'
  obtain ⟨x0, x1, x2, x3⟩ := HU4.out.cells
  go_wp2_with fail
  refine HP1.out.mono ?_
  intro e w5 h5
  obtain ⟨he, b5⟩ := h5
  rw [HS.out, HE.out] at he
  subst he
  have HU5 := hd (HU4.out.below b5)
  have HV5 := hd (HV4.out.below b5)
  have HB5 := hd (HB4.out.trans (b5.mono HB4.out.size))
  have HP3 := HP2 w5 HB5.out
  clear b5 x0 x1 x2 x3 HP1 HP2
  obtain ⟨x0, x1, x2, x3⟩ := HV5.out.cells
  go_upto_region 7 with (refine HP3.out.mono ?_; intro e w6 h6; obtain ⟨he, b6⟩ := h6; rw [HS'.out, HE'.out] at he; subst he)
  have HU6 := hd (HU5.out.below b6)
  have HV6 := hd (HV5.out.below b6)
  have HB6 := hd (HB5.out.trans (b6.mono HB5.out.size))
  clear b6 x0 x1 x2 x3 HP3
  by_cases h0 : E = 0
  · have hca := checkT_zero (hE.trans h0)
    have hSd : S.data.toList = txtT a := by rw [← hS]; exact print_bytes (hE.trans h0)
    have hSz : S.size = (txtT a).length := by rw [← hSd, data_size]
    have hpa := txtT_pos a
    have hne : S.toList.isEmpty = false := by rw [isEmpty_of]; exact decide_eq_false (by omega)
    have hb0 : (E != 0) = false := by simp [h0]
    by_cases h0' : E' = 0
    · have hcb := checkT_zero (hE'.trans h0')
      have hSd' : S'.data.toList = txtT b := by rw [← hS']; exact print_bytes (hE'.trans h0')
      have hSz' : S'.size = (txtT b).length := by rw [← hSd', data_size]
      have hpb := txtT_pos b
      have hb0' : (E' != 0) = false := by simp [h0']
      have hla := txt_weigh a hca
      have hlb := txt_weigh b hcb
      have hxa := hwa hca
      have hxb := hwb hcb
      obtain ⟨M, hM⟩ : ∃ M, M = NT.mk false [] [] [a, b] := ⟨_, rfl⟩
      have hkM : chkT M = 0 := by
        have hk : chkK [a, b] = 0 := by rw [chkK, if_neg (by simp [hca]), chkK, if_neg (by simp [hcb]), chkK]
        rw [hM, chkT, if_neg, hk]
        simp [oneE, chk, firstE, chkL, okR]
      have hwM : weightM a b M := by unfold weightM; rw [hM]; simp [weighT, weighK]; omega
      have hp3 := parse_kids hca hcb
      rw [← hM] at hp3
      have hp2 := parse_two (rest := txtT b) hca (fun e => by rw [e] at hpb; simp at hpb)
      have hp1 := parse_open hca hcb
      obtain ⟨A1, hA1⟩ : ∃ A1, (⟨#[91]⟩ : ByteArray) ++ S = A1 := ⟨_, rfl⟩
      obtain ⟨A2, hA2⟩ : ∃ A2, A1 ++ S' = A2 := ⟨_, rfl⟩
      obtain ⟨A3, hA3⟩ : ∃ A3, A2 ++ (⟨#[93]⟩ : ByteArray) = A3 := ⟨_, rfl⟩
      obtain ⟨B1, hB1⟩ : ∃ B1, S ++ S' = B1 := ⟨_, rfl⟩
      have eb : ∀ X Y : ByteArray, (X ++ Y).data.toList = X.data.toList ++ Y.data.toList := fun X Y => by rw [bs_str X, bs_str Y, bs_append]; rfl
      have d1 : A1.data.toList = 91 :: txtT a := by rw [← hA1, eb, hSd]; rfl
      have d2 : A2.data.toList = 91 :: (txtT a ++ txtT b) := by rw [← hA2, eb, d1, hSd']; rfl
      have d3 : A3.data.toList = 91 :: (txtT a ++ (txtT b ++ [93])) := by rw [← hA3, eb, d2]; simp
      have d4 : B1.data.toList = txtT a ++ txtT b := by rw [← hB1, eb, hSd, hSd']
      have z1 : A1.size = S.size + 1 := by rw [← data_size, d1, List.length_cons, hSz]
      have z2 : A2.size = S.size + S'.size + 1 := by rw [← data_size, d2, List.length_cons, List.length_append, hSz, hSz']
      have z3 : A3.size = S.size + S'.size + 2 := by rw [← data_size, d3]; simp; omega
      have z4 : B1.size = S.size + S'.size := by rw [← data_size, d4, List.length_append, hSz, hSz']
      have s91 : (⟨#[91]⟩ : ByteArray).size = 1 := rfl
      have s93 : (⟨#[93]⟩ : ByteArray).size = 1 := rfl
      have s1 : ¬ ((⟨#[91]⟩ : ByteArray).size + S.size > 9223372036854775807) := by omega
      have s2 : ¬ (A1.size + S'.size > 9223372036854775807) := by omega
      have s3 : ¬ (A2.size + (⟨#[93]⟩ : ByteArray).size > 9223372036854775807) := by omega
      have s4 : ¬ (S.size + S'.size > 9223372036854775807) := by omega
      have HQ3 := hd (fun (X : World) => parse_call A3 _ d3 M 0 0 0 hp3 rfl (by omega) X)
      have HQ1 := hd (fun (X : World) => parse_call B1 _ d4 noT (txtT a).length (S.size : Int) 11 hp2 (by omega) (by omega) X)
      have HQ2 := hd (fun (X : World) => parse_call A2 _ d2 noT (1 + (txtT a).length + (txtT b).length) (1 + (S.size : Int) + (S'.size : Int)) 11 hp1 (by omega) (by omega) X)
      have HFM := hd (fun (X : FitT M) => few_of (m := 250) X hkM (by omega) (by omega) (by have := hwM.out; omega))
      have HMM := hd hM
      have hsl1 : (S.size : Int) ≤ 9000000 := by omega
      have hsl2 : (S'.size : Int) ≤ 9000000 := by omega
      clear hwM hkM hM hp3 hp2 hp1 eb d1 d2 d3 d4 z1 z2 z3 z4 s91 s93 hla hlb hxa hxb hwa hwb hS hE hS' hE' hSd hSd' hSz hSz' hpa hpb hca hcb
      subst h0 h0'
      go_wp2_with fail
      refine (HQ3.out _).mono ?_
      intro e w7 h7
      obtain ⟨lf7, PA7, np7, pc7, TA7, nt7, tc7, KA7, nk7, kc7, d7, rfl, hn7, b7⟩ := h7
      have HU7 := hd (HU6.out.below b7)
      have HV7 := hd (HV6.out.below b7)
      have HB7 := hd (HB6.out.trans (b7.mono HB6.out.size))
      have HN7 := hd hn7
      clear hn7 b7
      go_upto_region 10 with fail
      generalize hWx : World.alloc w7 _ = w8
      have hbx : Below w7.heap.size w7 w8 := hWx ▸ (Below.refl _ _).alloc (Nat.le_refl _) _
      have HXx := hd (hWx ▸ V4.new w7 (.bool lf7) (.slice PA7 np7 pc7) (.slice TA7 nt7 tc7) (.slice KA7 nk7 kc7))
      obtain ⟨g8, hgx⟩ : ∃ g8, g8 = w7.heap.size := ⟨_, rfl⟩
      rw [← hgx] at HXx ⊢
      clear hgx hWx
      have HU8 := hd (HU7.out.below hbx)
      have HV8 := hd (HV7.out.below hbx)
      have HB8 := hd (HB7.out.trans (hbx.mono HB7.out.size))
      have HN8 := hd (HN7.out.later hbx)
      have HX8 := hd HXx.out
      clear hbx HXx
      have HFW := hd (HFM.out HN8.out.fit ▸ few_any d7 w8 _ M 250 (by unfold In64; omega) HN8.out)
      obtain ⟨x0, x1, x2, x3⟩ := HX8.out.cells
      go_wp2_with fail
      refine HFW.out.mono ?_
      rintro e w9 ⟨rfl, b9⟩
      have HU9 := hd (HU8.out.below b9)
      have HV9 := hd (HV8.out.below b9)
      have HX9 := hd (HX8.out.below b9)
      have HB9 := hd (HB8.out.trans (b9.mono HB8.out.size))
      have HN9 := hd (HN8.out.later b9)
      clear b9 x0 x1 x2 x3 HFW
      obtain ⟨x0, x1, x2, x3⟩ := HU9.out.cells
      obtain ⟨y0, y1, y2, y3⟩ := HV9.out.cells
      obtain ⟨k0, k1, k2, k3⟩ := HX9.out.cells
      go_wp2_with fail
      have hpr := pair_at (HN.out.later HB9.out) (HN'.out.later HB9.out) rfl
      rw [← HMM.out] at hpr
      have hbx : Below w9.heap.size w9 (w9.alloc (.cells #[.bool lf1, .slice PA1 np1 pc1, .slice TA1 nt1 tc1, .slice KA1 nk1 kc1, .bool lf2, .slice PA2 np2 pc2, .slice TA2 nt2 tc2, .slice KA2 nk2 kc2] 26)) := (Below.refl _ _).alloc (Nat.le_refl _) _
      have HSM := hd (nsame_any _ _ _ _ _ M M (HN9.out.later hbx) hpr)
      rw [eqT_self] at HSM
      have HBx := hd hbx
      clear hpr hbx x0 x1 x2 x3 y0 y1 y2 y3 k0 k1 k2 k3
      refine HSM.out.mono ?_
      rintro e w11 ⟨rfl, b11⟩
      have hb11 := HBx.out.trans (b11.mono HBx.out.size)
      have HB11 := hd (HB9.out.trans (hb11.mono HB9.out.size))
      clear b11 hb11 HSM HBx
      go_wp2_with fail
      refine (HQ1.out _).mono ?_
      intro e w12 h12
      obtain ⟨lf12, PA12, np12, pc12, TA12, nt12, tc12, KA12, nk12, kc12, d12, rfl, _, b12⟩ := h12
      have HB12 := hd (HB11.out.trans (b12.mono HB11.out.size))
      clear b12
      go_upto_region 13 with fail
      generalize hWx : World.alloc w12 _ = w13
      have hbx : Below w12.heap.size w12 w13 := hWx ▸ (Below.refl _ _).alloc (Nat.le_refl _) _
      have HXx := hd (hWx ▸ V4.new w12 (.bool lf12) (.slice PA12 np12 pc12) (.slice TA12 nt12 tc12) (.slice KA12 nk12 kc12))
      obtain ⟨g13, hgx⟩ : ∃ g13, g13 = w12.heap.size := ⟨_, rfl⟩
      rw [← hgx] at HXx ⊢
      clear hgx hWx
      have HB13 := hd (HB12.out.trans (hbx.mono HB12.out.size))
      clear hbx HXx
      go_wp2_with fail
      refine (HQ2.out _).mono ?_
      intro e w14 h14
      obtain ⟨lf14, PA14, np14, pc14, TA14, nt14, tc14, KA14, nk14, kc14, d14, rfl, _, b14⟩ := h14
      have HB14 := hd (HB13.out.trans (b14.mono HB13.out.size))
      clear b14
      go_upto_region 14 with fail
      generalize hWx : World.alloc w14 _ = w15
      have hbx : Below w14.heap.size w14 w15 := hWx ▸ (Below.refl _ _).alloc (Nat.le_refl _) _
      have HXx := hd (hWx ▸ V4.new w14 (.bool lf14) (.slice PA14 np14 pc14) (.slice TA14 nt14 tc14) (.slice KA14 nk14 kc14))
      obtain ⟨g15, hgx⟩ : ∃ g15, g15 = w14.heap.size := ⟨_, rfl⟩
      rw [← hgx] at HXx ⊢
      clear hgx hWx
      have HB15 := hd (HB14.out.trans (hbx.mono HB14.out.size))
      clear hbx HXx
      have hs1 : ((S.size : Int) == (S.size : Int)) = true := by simp
      have hs2 : (1 + (S.size : Int) + (S'.size : Int) == 1 + (S.size : Int) + (S'.size : Int)) = true := by simp
      go_wp2
      go_ret
      exact ⟨rfl, HB15.out⟩
    · have hP := print_none (n := b) (by rw [hE']; exact h0')
      have hSe : S' = ⟨#[]⟩ := by rw [← hS']; exact hP
      have hb0' : (E' != 0) = true := by simpa using h0'
      subst hSe
      clear hP hwa hwb hS hE hS' hE' h0 h0' hSz hSd hpa hca
      go_wp2
      go_ret
      exact ⟨rfl, HB6.out⟩
  · have hP := print_none (n := a) (by rw [hE]; exact h0)
    have hSe : S = ⟨#[]⟩ := by rw [← hS]; exact hP
    have hb0 : (E != 0) = true := by simpa using h0
    subst hSe
    clear hP hwa hwb hS hE hS' hE' h0
    go_wp2
    go_ret
    exact ⟨rfl, HB6.out⟩

end Go.Proofs.YtknkclbjocfhiaaDoor
