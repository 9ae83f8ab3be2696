/- CodeCuts answers true. -/
import Derived.Test.YtknkclbjocfhiaaDoorCLaw
namespace Go.Proofs.YtknkclbjocfhiaaDoor
open Go.RowKit

set_option maxHeartbeats 8000000 in
theorem ccuts_any (d : Nat) (w : World) (v : Value) (n : NT) (B : UInt8) (hT : Hid (Tab w)) (hn : NodeAt d w w.heap.size v n) : Calls Tryd.prog 7 #[v, .int .u8 B.toNat] w (Still (.bool true) w) := by
  obtain ⟨lf, PA, np, pc, TA, nt, tc, KA, nk, kc, rfl⟩ := hn.val
  obtain ⟨W1, hW1⟩ : ∃ W1, W1 = w.alloc (.cells #[.bool lf, .slice PA np pc, .slice TA nt tc, .slice KA nk kc] 26) := ⟨_, rfl⟩
  have HB1 := hd (hW1 ▸ below_v4 (Below.refl w.heap.size w) #[.bool lf, .slice PA np pc, .slice TA nt tc, .slice KA nk kc] 26)
  have HV1 := hd (hW1 ▸ V4.new w (.bool lf) (.slice PA np pc) (.slice TA nt tc) (.slice KA nk kc))
  have HN := hd hn
  have HL := hd (live6_any W1 (hd (hT.out.below HB1.out)))
  obtain ⟨F, hF⟩ : ∃ F, fewB 150 n = F := ⟨_, rfl⟩
  have HF := hd hF
  have HC2 := fun (X : World) (hb : Below w.heap.size w X) => hd (hF ▸ few_any d X _ n 150 (by unfold In64; omega) (HN.out.later hb))
  clear hn hF
  subst hW1
  go_enter Tryd.func7, Tryd.ntmps7
  go_wp2_with fail
  refine HL.out.mono ?_
  rintro e w2 ⟨rfl, b2⟩
  have HV2 := hd (HV1.out.below b2)
  have HB2 := hd (HB1.out.trans (b2.mono HB1.out.size))
  have HC3 := HC2 w2 HB2.out
  obtain ⟨x0, x1, x2, x3⟩ := HV2.out.cells
  clear b2
  go_wp2_with fail
  refine HC3.out.mono ?_
  rintro e w3 ⟨rfl, b3⟩
  have HV3 := hd (HV2.out.below b3)
  have HB3 := hd (HB2.out.trans (b3.mono HB2.out.size))
  clear b3 x0 x1 x2 x3 HC2 HC3
  cases F
  · go_wp2
    go_ret
    exact ⟨rfl, HB3.out⟩
  · obtain ⟨x0, x1, x2, x3⟩ := HV3.out.cells
    have hwt : chkT n = 0 → weighT n ≤ 150 := fun hc => by
      have := of_few HN.out.fit hc (by omega) (by omega) HF.out
      omega
    have HC4 := hd (print_w d w3 _ n (hd (hT.out.below HB3.out)) (HN.out.later HB3.out) (fun hc => by have := hwt hc; omega))
    obtain ⟨S, hS⟩ : ∃ S, bs (printS n) = S := ⟨_, rfl⟩
    obtain ⟨E, hE⟩ : ∃ E, checkT n = E := ⟨_, rfl⟩
    have HS := hd hS
    have HE := hd hE
    by_cases h0 : E = 0
    · have hc0 := checkT_zero (hE.trans h0)
      have hSd : S.data.toList = txtT n := by rw [← hS]; exact print_bytes (hE.trans h0)
      have hSz : S.size = (txtT n).length := by rw [← hSd, data_size]
      have hpos := txtT_pos n
      have hlen := txt_weigh n hc0
      have hw := hwt hc0
      have hcut := parse_cut hc0
      have hby := parse_byte hc0 B
      obtain ⟨S1, hS1⟩ : ∃ S1, S1 = S.extract 0 (S.size - 1) := ⟨_, rfl⟩
      obtain ⟨S2, hS2⟩ : ∃ S2, S2 = S ++ bs [B] := ⟨_, rfl⟩
      have hS1z : S1.size = S.size - 1 := by rw [hS1, ex_mk, mkB_cut_size _ _ _ (by omega)]; omega
      have hS2z : S2.size = S.size + 1 := by rw [hS2, ByteArray.size_append, bs_size]; rfl
      have HP1 := hd (fun (X : World) => parse_call S1 _ (by rw [hS1, ex_data, hSd, hSz]; unfold cutS; rw [List.drop_zero]) noT ((txtT n).length - 1) ((S.size : Int) - 1) 11 hcut (by omega) (by omega) X)
      have HP2 := hd (fun (X : World) => parse_call S2 _ (by
        have e : S2.data.toList = S.data.toList ++ [B] := by rw [hS2, bs_str S, bs_append]; rfl
        rw [e, hSd]) noT (txtT n).length (S.size : Int) 11 hby (by omega) (by omega) X)
      have hne : S.toList.isEmpty = false := by rw [isEmpty_of]; exact decide_eq_false (by omega)
      have h1 : (1 : Int) ≤ (S.size : Int) := by omega
      have HS1 := hd hS1.symm
      have HS2 := hd hS2.symm
      have hSl : ¬ (S.size + (bs [B]).size > 9223372036854775807) := by rw [bs_size]; simp; omega
      have hby2 := fun W => byte_str B W
      subst h0
      clear hwt hS hE hSd hSz hpos hlen hw hcut hby hS1 hS2 hS1z hS2z hc0
      go_wp2_with fail
      refine HC4.out.mono ?_
      intro e w4 h4
      obtain ⟨he, b4⟩ := h4
      rw [HS.out, HE.out] at he
      subst he
      have HV4 := hd (HV3.out.below b4)
      have HB4 := hd (HB3.out.trans (b4.mono HB3.out.size))
      clear b4 x0 x1 x2 x3
      go_wp2_with fail
      rw [HS1.out]
      refine (HP1.out _).mono ?_
      intro e w5 h5
      obtain ⟨lf5, PA5, np5, pc5, TA5, nt5, tc5, KA5, nk5, kc5, d5, rfl, hn5, b5⟩ := h5
      have HB5 := hd (HB4.out.trans (b5.mono HB4.out.size))
      have HN5 := hd hn5
      clear hn5 b5
      go_upto_region 9 with fail
      generalize hW6 : World.alloc w5 _ = w6
      have hb6 : Below w5.heap.size w5 w6 := hW6 ▸ (Below.refl _ _).alloc (Nat.le_refl _) _
      have HV6 := hd (hW6 ▸ V4.new w5 (.bool lf5) (.slice PA5 np5 pc5) (.slice TA5 nt5 tc5) (.slice KA5 nk5 kc5))
      have HB6 := hd (HB5.out.trans (hb6.mono HB5.out.size))
      have HN6 := hd (HN5.out.later hb6)
      obtain ⟨g6, hg6⟩ : ∃ g6, g6 = w5.heap.size := ⟨_, rfl⟩
      rw [← hg6] at HV6 ⊢
      clear hg6 hW6 hb6
      go_wp2_with fail
      rw [HS2.out]
      have hb7 : Below w6.heap.size w6 (w6.alloc (.cells #[.int .u8 B.toNat] 5)) := (Below.refl _ _).alloc (Nat.le_refl _) _
      refine (HP2.out _).mono ?_
      intro e w8 h8
      obtain ⟨lf8, PA8, np8, pc8, TA8, nt8, tc8, KA8, nk8, kc8, d8, rfl, hn8, b8⟩ := h8
      have hb8 := hb7.trans (b8.mono hb7.size)
      have HB8 := hd (HB6.out.trans (hb8.mono HB6.out.size))
      have HV8 := hd (HV6.out.below hb8)
      have HN8 := hd (HN6.out.later hb8)
      have HM8 := hd hn8
      clear hn8 b8 hb7 hb8
      go_upto_region 10 with fail
      generalize hW9 : World.alloc w8 _ = w9
      have hb9 : Below w8.heap.size w8 w9 := hW9 ▸ (Below.refl _ _).alloc (Nat.le_refl _) _
      have HX9 := hd (hW9 ▸ V4.new w8 (.bool lf8) (.slice PA8 np8 pc8) (.slice TA8 nt8 tc8) (.slice KA8 nk8 kc8))
      have HV9 := hd (HV8.out.below hb9)
      have HB9 := hd (HB8.out.trans (hb9.mono HB8.out.size))
      have HN9 := hd (HN8.out.later hb9)
      have HM9 := hd (HM8.out.later hb9)
      obtain ⟨g9, hg9⟩ : ∃ g9, g9 = w8.heap.size := ⟨_, rfl⟩
      rw [← hg9] at HX9 ⊢
      clear hg9 hW9 hb9
      obtain ⟨x0, x1, x2, x3⟩ := HV9.out.cells
      have HC10 := hd (rnsame_any d5 1 w9 _ _ noT noT HN9.out (noT_at w9 _))
      rw [eqT_self] at HC10
      have hs1 : ((S.size : Int) - 1 == (S.size : Int) - 1) = true := by simp
      have hs2 : ((S.size : Int) == (S.size : Int)) = true := by simp
      go_wp2_with fail
      refine HC10.out.mono ?_
      rintro e w10 ⟨rfl, b10⟩
      have HX10 := hd (HX9.out.below b10)
      have HB10 := hd (HB9.out.trans (b10.mono HB9.out.size))
      have HC11 := hd (rnsame_any d8 1 w10 _ _ noT noT (HM9.out.later b10) (noT_at w10 _))
      rw [eqT_self] at HC11
      clear b10 x0 x1 x2 x3
      obtain ⟨x0, x1, x2, x3⟩ := HX10.out.cells
      go_wp2_with fail
      refine HC11.out.mono ?_
      rintro e w11 ⟨rfl, b11⟩
      have HB11 := hd (HB10.out.trans (b11.mono HB10.out.size))
      clear b11 x0 x1 x2 x3
      go_wp2
      go_ret
      exact ⟨rfl, HB11.out⟩
    · have hP := print_none (n := n) (by rw [hE]; exact h0)
      have hSe : S = ⟨#[]⟩ := by rw [← hS]; exact hP
      have hb1 : (E != 0) = true := by simpa using h0
      subst hSe
      clear hP hwt hS hE h0
      go_wp2_with fail
      refine HC4.out.mono ?_
      intro e w4 h4
      obtain ⟨he, b4⟩ := h4
      rw [HS.out, HE.out] at he
      subst he
      have HB4 := hd (HB3.out.trans (b4.mono HB3.out.size))
      clear b4 x0 x1 x2 x3
      go_wp2
      go_ret
      exact ⟨rfl, HB4.out⟩

end Go.Proofs.YtknkclbjocfhiaaDoor
