/- CodeBack answers true. -/
import Derived.Test.YtknkclbjocfhiaaDoorCLaw
namespace Go.Proofs.YtknkclbjocfhiaaDoor
open Go.RowKit

/-- The second half: a text read, and what is read written. -/
def weightM (M : NT) : Nat := weighT M
set_option maxRecDepth 4000 in
set_option maxHeartbeats 16000000 in
theorem cback_any (d : Nat) (w : World) (v : Value) (n : NT) (s : ByteArray) (hT : Hid (Tab w)) (hn : NodeAt d w w.heap.size v n) (hsz : s.size ≤ 9223372036854775807) : Calls Tryd.prog 5 #[v, .string s] w (Still (.bool true) w) := by
  obtain ⟨lf, PA, np, pc, TA, nt, tc, KA, nk, kc, rfl⟩ := hn.val
  obtain ⟨W1, hW1⟩ : ∃ W1, W1 = w.alloc (.cells #[.bool lf, .slice PA np pc, .slice TA nt tc, .slice KA nk kc] 26) := ⟨_, rfl⟩
  have HB1 := hd (hW1 ▸ below_v4 (Below.refl w.heap.size w) #[.bool lf, .slice PA np pc, .slice TA nt tc, .slice KA nk kc] 26)
  have HV1 := hd (hW1 ▸ V4.new w (.bool lf) (.slice PA np pc) (.slice TA nt tc) (.slice KA nk kc))
  have HN := hd hn
  have HL := hd (live6_any W1 (hd (hT.out.below HB1.out)))
  obtain ⟨F, hF⟩ : ∃ F, fewB 200 n = F := ⟨_, rfl⟩
  have HF := hd hF
  have HC2 := fun (X : World) (hb : Below w.heap.size w X) => hd (hF ▸ few_any d X _ n 200 (by unfold In64; omega) (HN.out.later hb))
  clear hn hF
  subst hW1
  go_enter Tryd.func5, Tryd.ntmps5
  go_wp2_with fail
  refine HL.out.mono ?_
  rintro e w2 ⟨rfl, b2⟩
  have HV2 := hd (HV1.out.below b2)
  have HB2 := hd (HB1.out.trans (b2.mono HB1.out.size))
  have HC3 := HC2 w2 HB2.out
  obtain ⟨x0, x1, x2, x3⟩ := HV2.out.cells
  clear b2
  go_wp2_with fail
  refine HC3.out.mono ?_
  rintro e w3 ⟨rfl, b3⟩
  have HV3 := hd (HV2.out.below b3)
  have HB3 := hd (HB2.out.trans (b3.mono HB2.out.size))
  clear b3 x0 x1 x2 x3 HC2 HC3
  cases F
  · go_wp2
    go_ret
    exact ⟨rfl, HB3.out⟩
  by_cases h300 : 300 < s.size
  · have h3 : (300 : Int) < (s.size : Int) := by omega
    go_wp2
    go_ret
    exact ⟨rfl, HB3.out⟩
  have h3 : decide (300 < s.size) = false := decide_eq_false h300
  have hs3 : s.size ≤ 300 := by omega
  have hwt : chkT n = 0 → weighT n ≤ 200 := fun hc => by
    have := of_few HN.out.fit hc (by omega) (by omega) HF.out
    omega
  have HC4 := hd (print_w d w3 _ n (hd (hT.out.below HB3.out)) (HN.out.later HB3.out) (fun hc => by have := hwt hc; omega))
  obtain ⟨S, hS⟩ : ∃ S, bs (printS n) = S := ⟨_, rfl⟩
  obtain ⟨E, hE⟩ : ∃ E, checkT n = E := ⟨_, rfl⟩
  have HS := hd hS
  have HE := hd hE
  obtain ⟨x0, x1, x2, x3⟩ := HV3.out.cells
  clear hsz h300
  go_wp2_with fail
  refine HC4.out.mono ?_
  intro e w4 h4
  obtain ⟨he, b4⟩ := h4
  rw [HS.out, HE.out] at he
  subst he
  have HV4 := hd (HV3.out.below b4)
  have HB4 := hd (HB3.out.trans (b4.mono HB3.out.size))
  clear b4 x0 x1 x2 x3 HC4
  by_cases h0 : E = 0
  · have hc0 := checkT_zero (hE.trans h0)
    have hSd : S.data.toList = txtT n := by rw [← hS]; exact print_bytes (hE.trans h0)
    have hSz : S.size = (txtT n).length := by rw [← hSd, data_size]
    have hlen := txt_weigh n hc0
    have hw := hwt hc0
    have HP1 := hd (parse_call S _ hSd n 0 0 0 (parse_text hc0) rfl (by omega) w4)
    have hbe : (E == 0) = true := by simp [h0]
    clear hwt hS hE hSd hSz hlen hw hc0
    subst h0
    go_wp2_with fail
    refine HP1.out.mono ?_
    intro e w5 h5
    obtain ⟨lf5, PA5, np5, pc5, TA5, nt5, tc5, KA5, nk5, kc5, d5, rfl, hn5, b5⟩ := h5
    have HV5 := hd (HV4.out.below b5)
    have HB5 := hd (HB4.out.trans (b5.mono HB4.out.size))
    have HN5 := hd hn5
    clear hn5 b5
    go_upto_region 8 with fail
    generalize hWx : World.alloc w5 _ = w6
    have hbx : Below w5.heap.size w5 w6 := hWx ▸ (Below.refl _ _).alloc (Nat.le_refl _) _
    have HXx := hd (hWx ▸ V4.new w5 (.bool lf5) (.slice PA5 np5 pc5) (.slice TA5 nt5 tc5) (.slice KA5 nk5 kc5))
    obtain ⟨g6, hgx⟩ : ∃ g6, g6 = w5.heap.size := ⟨_, rfl⟩
    rw [← hgx] at HXx ⊢
    clear hgx hWx
    have HV6 := hd (HV5.out.below hbx)
    have HB6 := hd (HB5.out.trans (hbx.mono HB5.out.size))
    have HN6 := hd (HN5.out.later hbx)
    have HX6 := hd HXx.out
    clear hbx HXx
    have HFW := hd (HF.out ▸ few_any d5 w6 _ n 200 (by unfold In64; omega) HN6.out)
    obtain ⟨x0, x1, x2, x3⟩ := HX6.out.cells
    go_wp2_with fail
    refine HFW.out.mono ?_
    rintro e w7 ⟨rfl, b7⟩
    have HV7 := hd (HV6.out.below b7)
    have HX7 := hd (HX6.out.below b7)
    have HB7 := hd (HB6.out.trans (b7.mono HB6.out.size))
    have HN7 := hd (HN6.out.later b7)
    have HSM := hd (nsame_any _ _ w7 _ _ n n HN7.out (HN.out.later HB7.out))
    rw [eqT_self] at HSM
    clear b7 x0 x1 x2 x3 HFW
    obtain ⟨x0, x1, x2, x3⟩ := HX7.out.cells
    obtain ⟨y0, y1, y2, y3⟩ := HV7.out.cells
    go_wp2_with fail
    refine HSM.out.mono ?_
    rintro e wh ⟨rfl, b8⟩
    have HBh := hd (HB7.out.trans (b8.mono HB7.out.size))
    clear b8 x0 x1 x2 x3 y0 y1 y2 y3 HSM HN5 HN6 HN7 HV5 HV6 HV7 HX6 HX7 HP1
    obtain ⟨M, q, er, hr⟩ : ∃ M q er, parseL s.data.toList = (M, q, er) := ⟨_, _, _, rfl⟩
    have HQ := hd (parse_call s _ rfl M q (q : Int) er hr rfl (by omega) wh)
    by_cases he : er = 0
    · subst he
      obtain ⟨i1, i2, i3⟩ := parse_inv hr
      subst i3
      have hwM := weigh_txt M i2
      have hln : (txtT M).length ≤ 300 := by rw [i1, data_size]; omega
      have hck : checkT M = 0 := by
        have h1 := size_weigh M
        rw [checkT_small (by omega)]
        exact i2
      have hps : bs (printS M) = s := by
        have := print_bytes hck
        rw [i1] at this
        rw [bs_str s, bs_str (bs (printS M)), this]
      have HFM := hd (fun (X : FitT M) => few_of (m := 1000) X i2 (by omega) (by omega) (by omega))
      have HPS := hd hps
      have HCK := hd hck
      have HI2 := hd i2
      have hwM2 : weightM M ≤ 1000 := by unfold weightM; omega
      have HWM := hd hwM2
      clear hr i1 i2 hwM hln hck hps hwM2
      go_wp2_with fail
      refine HQ.out.mono ?_
      intro e w7 h7
      obtain ⟨lf7, PA7, np7, pc7, TA7, nt7, tc7, KA7, nk7, kc7, d7, rfl, hn7, b7⟩ := h7
      have HB7 := hd (HBh.out.trans (b7.mono HBh.out.size))
      have HN7 := hd hn7
      clear hn7 b7
      go_upto_region 13 with fail
      generalize hWx : World.alloc w7 _ = w8
      have hbx : Below w7.heap.size w7 w8 := hWx ▸ (Below.refl _ _).alloc (Nat.le_refl _) _
      have HXx := hd (hWx ▸ V4.new w7 (.bool lf7) (.slice PA7 np7 pc7) (.slice TA7 nt7 tc7) (.slice KA7 nk7 kc7))
      obtain ⟨g8, hgx⟩ : ∃ g8, g8 = w7.heap.size := ⟨_, rfl⟩
      rw [← hgx] at HXx ⊢
      clear hgx hWx
      have HB8 := hd (HB7.out.trans (hbx.mono HB7.out.size))
      have HN8 := hd (HN7.out.later hbx)
      have HX8 := hd HXx.out
      clear hbx HXx
      have HFW := hd (HFM.out HN8.out.fit ▸ few_any d7 w8 _ M 1000 (by unfold In64; omega) HN8.out)
      obtain ⟨x0, x1, x2, x3⟩ := HX8.out.cells
      go_wp2_with fail
      refine HFW.out.mono ?_
      rintro e w9 ⟨rfl, b9⟩
      have HX9 := hd (HX8.out.below b9)
      have HB9 := hd (HB8.out.trans (b9.mono HB8.out.size))
      have HN9 := hd (HN8.out.later b9)
      clear b9 x0 x1 x2 x3 HFW
      obtain ⟨x0, x1, x2, x3⟩ := HX9.out.cells
      have HCW := hd (ncheck_any d7 w9 _ M HN9.out)
      rw [HCK.out] at HCW
      have HCW := hd HCW.out
      go_wp2_with fail
      refine HCW.out.mono ?_
      rintro e w10 ⟨rfl, b10⟩
      have HX10 := hd (HX9.out.below b10)
      have HB10 := hd (HB9.out.trans (b10.mono HB9.out.size))
      have HN10 := hd (HN9.out.later b10)
      clear b10 x0 x1 x2 x3 HCW
      obtain ⟨x0, x1, x2, x3⟩ := HX10.out.cells
      have HPW := hd (print_w d7 w10 _ M (hd (hT.out.below HB10.out)) HN10.out (fun _ => HWM.out))
      go_wp2_with fail
      refine HPW.out.mono ?_
      intro e w11 h11
      obtain ⟨he, b11⟩ := h11
      rw [HPS.out, HCK.out] at he
      subst he
      have HB11 := hd (HB10.out.trans (b11.mono HB10.out.size))
      have hss : (s.toList == s.toList) = true := by simp
      clear b11 x0 x1 x2 x3
      go_wp2
      go_ret
      exact ⟨rfl, HB11.out⟩
    · obtain ⟨i1, i2⟩ := parse_no hr he
      subst i1
      rw [data_size] at i2
      have hb : (er != 0) = true := by simpa using he
      have hq0 : (0 : Int) ≤ (q : Int) := by omega
      have hq1 : (q : Int) ≤ (s.size : Int) := by omega
      clear hr he
      go_wp2_with fail
      refine HQ.out.mono ?_
      intro e w7 h7
      obtain ⟨lf7, PA7, np7, pc7, TA7, nt7, tc7, KA7, nk7, kc7, d7, rfl, hn7, b7⟩ := h7
      have HB7 := hd (HBh.out.trans (b7.mono HBh.out.size))
      have HN7 := hd hn7
      clear hn7 b7
      go_upto_region 13 with fail
      generalize hWx : World.alloc w7 _ = w8
      have hbx : Below w7.heap.size w7 w8 := hWx ▸ (Below.refl _ _).alloc (Nat.le_refl _) _
      have HXx := hd (hWx ▸ V4.new w7 (.bool lf7) (.slice PA7 np7 pc7) (.slice TA7 nt7 tc7) (.slice KA7 nk7 kc7))
      obtain ⟨g8, hgx⟩ : ∃ g8, g8 = w7.heap.size := ⟨_, rfl⟩
      rw [← hgx] at HXx ⊢
      clear hgx hWx
      have HB8 := hd (HB7.out.trans (hbx.mono HB7.out.size))
      have HN8 := hd (HN7.out.later hbx)
      have HX8 := hd HXx.out
      clear hbx HXx
      obtain ⟨x0, x1, x2, x3⟩ := HX8.out.cells
      have HC10 := hd (rnsame_any d7 1 w8 _ _ noT noT HN8.out (noT_at w8 _))
      rw [eqT_self] at HC10
      go_wp2_with fail
      refine HC10.out.mono ?_
      rintro e w9 ⟨rfl, b9⟩
      have HB9 := hd (HB8.out.trans (b9.mono HB8.out.size))
      clear b9 x0 x1 x2 x3
      go_wp2
      go_ret
      exact ⟨rfl, HB9.out⟩
  · have hP := print_none (n := n) (by rw [hE]; exact h0)
    have hSe : S = ⟨#[]⟩ := by rw [← hS]; exact hP
    have hbe : (E == 0) = false := by simpa using h0
    have hcc : (E != E) = false := by simp
    subst hSe
    clear hP hwt hS hE h0
    have HCN := hd (ncheck_any d w4 _ n (HN.out.later HB4.out))
    rw [HE.out] at HCN
    have HCN := hd HCN.out
    obtain ⟨x0, x1, x2, x3⟩ := HV4.out.cells
    go_wp2_with fail
    refine HCN.out.mono ?_
    rintro e wh ⟨rfl, b5⟩
    have HBh := hd (HB4.out.trans (b5.mono HB4.out.size))
    clear b5 x0 x1 x2 x3 HCN HV4
    obtain ⟨M, q, er, hr⟩ : ∃ M q er, parseL s.data.toList = (M, q, er) := ⟨_, _, _, rfl⟩
    have HQ := hd (parse_call s _ rfl M q (q : Int) er hr rfl (by omega) wh)
    by_cases he : er = 0
    · subst he
      obtain ⟨i1, i2, i3⟩ := parse_inv hr
      subst i3
      have hwM := weigh_txt M i2
      have hln : (txtT M).length ≤ 300 := by rw [i1, data_size]; omega
      have hck : checkT M = 0 := by
        have h1 := size_weigh M
        rw [checkT_small (by omega)]
        exact i2
      have hps : bs (printS M) = s := by
        have := print_bytes hck
        rw [i1] at this
        rw [bs_str s, bs_str (bs (printS M)), this]
      have HFM := hd (fun (X : FitT M) => few_of (m := 1000) X i2 (by omega) (by omega) (by omega))
      have HPS := hd hps
      have HCK := hd hck
      have HI2 := hd i2
      have hwM2 : weightM M ≤ 1000 := by unfold weightM; omega
      have HWM := hd hwM2
      clear hr i1 i2 hwM hln hck hps hwM2
      go_wp2_with fail
      refine HQ.out.mono ?_
      intro e w7 h7
      obtain ⟨lf7, PA7, np7, pc7, TA7, nt7, tc7, KA7, nk7, kc7, d7, rfl, hn7, b7⟩ := h7
      have HB7 := hd (HBh.out.trans (b7.mono HBh.out.size))
      have HN7 := hd hn7
      clear hn7 b7
      go_upto_region 13 with fail
      generalize hWx : World.alloc w7 _ = w8
      have hbx : Below w7.heap.size w7 w8 := hWx ▸ (Below.refl _ _).alloc (Nat.le_refl _) _
      have HXx := hd (hWx ▸ V4.new w7 (.bool lf7) (.slice PA7 np7 pc7) (.slice TA7 nt7 tc7) (.slice KA7 nk7 kc7))
      obtain ⟨g8, hgx⟩ : ∃ g8, g8 = w7.heap.size := ⟨_, rfl⟩
      rw [← hgx] at HXx ⊢
      clear hgx hWx
      have HB8 := hd (HB7.out.trans (hbx.mono HB7.out.size))
      have HN8 := hd (HN7.out.later hbx)
      have HX8 := hd HXx.out
      clear hbx HXx
      have HFW := hd (HFM.out HN8.out.fit ▸ few_any d7 w8 _ M 1000 (by unfold In64; omega) HN8.out)
      obtain ⟨x0, x1, x2, x3⟩ := HX8.out.cells
      go_wp2_with fail
      refine HFW.out.mono ?_
      rintro e w9 ⟨rfl, b9⟩
      have HX9 := hd (HX8.out.below b9)
      have HB9 := hd (HB8.out.trans (b9.mono HB8.out.size))
      have HN9 := hd (HN8.out.later b9)
      clear b9 x0 x1 x2 x3 HFW
      obtain ⟨x0, x1, x2, x3⟩ := HX9.out.cells
      have HCW := hd (ncheck_any d7 w9 _ M HN9.out)
      rw [HCK.out] at HCW
      have HCW := hd HCW.out
      go_wp2_with fail
      refine HCW.out.mono ?_
      rintro e w10 ⟨rfl, b10⟩
      have HX10 := hd (HX9.out.below b10)
      have HB10 := hd (HB9.out.trans (b10.mono HB9.out.size))
      have HN10 := hd (HN9.out.later b10)
      clear b10 x0 x1 x2 x3 HCW
      obtain ⟨x0, x1, x2, x3⟩ := HX10.out.cells
      have HPW := hd (print_w d7 w10 _ M (hd (hT.out.below HB10.out)) HN10.out (fun _ => HWM.out))
      go_wp2_with fail
      refine HPW.out.mono ?_
      intro e w11 h11
      obtain ⟨he, b11⟩ := h11
      rw [HPS.out, HCK.out] at he
      subst he
      have HB11 := hd (HB10.out.trans (b11.mono HB10.out.size))
      have hss : (s.toList == s.toList) = true := by simp
      clear b11 x0 x1 x2 x3
      go_wp2
      go_ret
      exact ⟨rfl, HB11.out⟩
    · obtain ⟨i1, i2⟩ := parse_no hr he
      subst i1
      rw [data_size] at i2
      have hb : (er != 0) = true := by simpa using he
      have hq0 : (0 : Int) ≤ (q : Int) := by omega
      have hq1 : (q : Int) ≤ (s.size : Int) := by omega
      clear hr he
      go_wp2_with fail
      refine HQ.out.mono ?_
      intro e w7 h7
      obtain ⟨lf7, PA7, np7, pc7, TA7, nt7, tc7, KA7, nk7, kc7, d7, rfl, hn7, b7⟩ := h7
      have HB7 := hd (HBh.out.trans (b7.mono HBh.out.size))
      have HN7 := hd hn7
      clear hn7 b7
      go_upto_region 13 with fail
      generalize hWx : World.alloc w7 _ = w8
      have hbx : Below w7.heap.size w7 w8 := hWx ▸ (Below.refl _ _).alloc (Nat.le_refl _) _
      have HXx := hd (hWx ▸ V4.new w7 (.bool lf7) (.slice PA7 np7 pc7) (.slice TA7 nt7 tc7) (.slice KA7 nk7 kc7))
      obtain ⟨g8, hgx⟩ : ∃ g8, g8 = w7.heap.size := ⟨_, rfl⟩
      rw [← hgx] at HXx ⊢
      clear hgx hWx
      have HB8 := hd (HB7.out.trans (hbx.mono HB7.out.size))
      have HN8 := hd (HN7.out.later hbx)
      have HX8 := hd HXx.out
      clear hbx HXx
      obtain ⟨x0, x1, x2, x3⟩ := HX8.out.cells
      have HC10 := hd (rnsame_any d7 1 w8 _ _ noT noT HN8.out (noT_at w8 _))
      rw [eqT_self] at HC10
      go_wp2_with fail
      refine HC10.out.mono ?_
      rintro e w9 ⟨rfl, b9⟩
      have HB9 := hd (HB8.out.trans (b9.mono HB8.out.size))
      clear b9 x0 x1 x2 x3
      go_wp2
      go_ret
      exact ⟨rfl, HB9.out⟩

end Go.Proofs.YtknkclbjocfhiaaDoor
