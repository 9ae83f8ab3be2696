/- CodeParts answers true. -/
import Derived.Test.YtknkclbjocfhiaaDoorCLaw
import Derived.Test.YtknkclbjocfhiaaDoorCSpotsAll
import Derived.Test.YtknkclbjocfhiaaDoorTPaths
namespace Go.Proofs.YtknkclbjocfhiaaDoor
open Go.RowKit

theorem checkT_of {m : NT} (h : chkT m = 0) (hs : sizeT m ≤ 1000) : checkT m = 0 := by
  obtain ⟨z, hz⟩ : ∃ z : Int, z = (sizeT m : Int) := ⟨_, rfl⟩
  have e : wrap64 z = z := wrap_id _ (by omega) (by omega)
  have h2 : ¬ (1048576 < wrap64 z) := by rw [e]; omega
  rw [hz] at h2
  unfold checkT
  rw [if_neg h2, h]
set_option maxRecDepth 4000 in
set_option maxHeartbeats 8000000 in
theorem cparts_any (d : Nat) (w : World) (v : Value) (n : NT) (hT : Hid (Tab w)) (hn : NodeAt d w w.heap.size v n) : Calls Tryd.prog 8 #[v] w (Still (.bool true) w) := by
  obtain ⟨lf, PA, np, pc, TA, nt, tc, KA, nk, kc, rfl⟩ := hn.val
  obtain ⟨W1, hW1⟩ : ∃ W1, W1 = w.alloc (.cells #[.bool lf, .slice PA np pc, .slice TA nt tc, .slice KA nk kc] 26) := ⟨_, rfl⟩
  have HB1 := hd (hW1 ▸ below_v4 (Below.refl w.heap.size w) #[.bool lf, .slice PA np pc, .slice TA nt tc, .slice KA nk kc] 26)
  have HV1 := hd (hW1 ▸ V4.new w (.bool lf) (.slice PA np pc) (.slice TA nt tc) (.slice KA nk kc))
  have HN := hd hn
  have HL := hd (live6_any W1 (hd (hT.out.below HB1.out)))
  obtain ⟨F, hF⟩ : ∃ F, fewB 120 n = F := ⟨_, rfl⟩
  have HF := hd hF
  have HC2 := fun (X : World) (hb : Below w.heap.size w X) => hd (hF ▸ few_any d X _ n 120 (by unfold In64; omega) (HN.out.later hb))
  clear hn hF
  subst hW1
  go_enter Tryd.func8, Tryd.ntmps8
  go_wp2_with fail
  refine HL.out.mono ?_
  rintro e w2 ⟨rfl, b2⟩
  have HV2 := hd (HV1.out.below b2)
  have HB2 := hd (HB1.out.trans (b2.mono HB1.out.size))
  have HC3 := HC2 w2 HB2.out
  obtain ⟨x0, x1, x2, x3⟩ := HV2.out.cells
  clear b2
  go_wp2_with fail
  refine HC3.out.mono ?_
  rintro e w3 ⟨rfl, b3⟩
  have HV3 := hd (HV2.out.below b3)
  have HB3 := hd (HB2.out.trans (b3.mono HB2.out.size))
  clear b3 x0 x1 x2 x3 HC2 HC3
  cases F
  · go_wp2
    go_ret
    exact ⟨rfl, HB3.out⟩
  obtain ⟨x0, x1, x2, x3⟩ := HV3.out.cells
  have hwt : chkT n = 0 → weighT n ≤ 120 := fun hc => by
    have := of_few HN.out.fit hc (by omega) (by omega) HF.out
    omega
  have HC4 := hd (print_w d w3 _ n (hd (hT.out.below HB3.out)) (HN.out.later HB3.out) (fun hc => by have := hwt hc; omega))
  obtain ⟨S, hS⟩ : ∃ S, bs (printS n) = S := ⟨_, rfl⟩
  obtain ⟨E, hE⟩ : ∃ E, checkT n = E := ⟨_, rfl⟩
  have HS := hd hS
  have HE := hd hE
  by_cases h0 : E = 0
  · have hc0 := checkT_zero (hE.trans h0)
    have hSd : S.data.toList = txtT n := by rw [← hS]; exact print_bytes (hE.trans h0)
    have hSz : S.size = (txtT n).length := by rw [← hSd, data_size]
    have hlen := txt_weigh n hc0
    have hw := hwt hc0
    have HSP := hd (spots_tree n)
    have HSD := hd hSd
    have HSZ := hd hSz
    have HC0 := hd hc0
    clear hwt hS hE hSd hSz hc0 x0 x1 x2 x3
    obtain ⟨x0, x1, x2, x3⟩ := HV3.out.cells
    subst h0
    go_wp2_with fail
    refine HC4.out.mono ?_
    intro e w4 h4
    obtain ⟨he, b4⟩ := h4
    rw [HS.out, HE.out] at he
    subst he
    have HV4 := hd (HV3.out.below b4)
    have HB4 := hd (HB3.out.trans (b4.mono HB3.out.size))
    clear b4 x0 x1 x2 x3 HC4
    obtain ⟨x0, x1, x2, x3⟩ := HV4.out.cells
    go_upto_region 9 with fail
    have hsz := size_weigh n
    have HPW := hd (wpaths_any d w4 _ n (HN.out.later HB4.out) (by omega))
    go_wp2_with fail
    refine HPW.out.mono ?_
    rintro e w5 ⟨A5, c5, rfl, hq5, b5⟩
    obtain ⟨L, hL⟩ : ∃ L, pathsN false n [] = L := ⟨_, rfl⟩
    rw [hL] at hq5 ⊢
    obtain ⟨N, hN⟩ : ∃ N, L.length = N := ⟨_, rfl⟩
    rw [hN] at hq5 ⊢
    have hNl : N ≤ 120 := by have := pathsN_len false n []; rw [hL, hN] at this; omega
    have HP5 := hd hq5.rl
    have HB5 := hd (HB4.out.trans (b5.mono HB4.out.size))
    have HV5 := hd (HV4.out.below b5)
    have HPL := hd (fun (p : List Int) (hp : p ∈ L) => (show p.length ≤ 120 by have := pathsN_each false n [] p (by rw [hL]; exact hp); simp at this; omega))
    have HL := hd hL
    have HNL := hd hN
    clear hq5 b5 hL hN x0 x1 x2 x3 HPW
    go_wp2_with fail
    go_loopw [5, 32] (fun f i wr => ∃ a k : Nat, f = .int .i64 a ∧ i = .int .i64 k ∧ k ≤ N ∧ a ≤ S.size ∧ Hid (Spots (txtT n) a (txtT n).length (((subsN n).drop k).map txtT)) ∧ Hid (Below w5.heap.size w5 wr)) (fun _ i _ => N - (intOf i).toNat)
    case atStart => exact ⟨0, 0, rfl, rfl, Nat.zero_le _, Nat.zero_le _, HSP, hd (Below.refl _ _)⟩
    case round =>
      obtain ⟨a, k, rfl, rfl, hkN, haS, HSK, HBR⟩ := hrel
      by_cases hkl : k < N
      · have hkL : k < L.length := by rw [HNL.out]; exact hkl
        have HBwr := hd (HB5.out.trans (HBR.out.mono HB5.out.size))
        obtain ⟨p, hp⟩ : ∃ p, lAt L k = p := ⟨_, rfl⟩
        have hpm : L[k]? = some p := by rw [List.getElem?_eq_getElem hkL, ← lAt_eq L k hkL, hp]
        obtain ⟨gb, go, Ak, ck, rfl, hgb, hcell, hck, hIL⟩ := (HP5.out.later HBR.out).at_ hkL
        rw [hp] at hcell hck hIL
        obtain ⟨m, hm1, hm2, hm3, hm4, hm5⟩ := part_at HC0.out (by rw [HL.out]; exact hpm)
        have hl120 := HPL.out p (List.mem_of_getElem? hpm)
        obtain ⟨lp, hlp⟩ : ∃ lp, p.length = lp := ⟨_, rfl⟩
        have hge : getE n p = (m, 0) := by unfold getE; rw [hm1]
        have HCG := hd (tget_any d wr _ n Ak p lp ck hlp (by omega) (HN.out.later HBwr.out) hIL)
        rw [hge] at HCG
        rw [hlp] at hcell hck hl120
        have hcm : checkT m = 0 := checkT_of hm3 (by omega)
        have HM2 := hd hm2
        have HM3 := hd hm3
        have HCM := hd hcm
        clear hp hpm hm1 hm2 hm3 hge hcm hlp hkL
        obtain ⟨x0, x1, x2, x3⟩ := (HV5.out.below HBR.out).cells
        have hkN' : (k : Int) < (N : Int) := by omega
        go_wp2_with fail
        refine HCG.out.mono ?_
        intro e w6 h6
        obtain ⟨lfm, PAm, npm, pcm, TAm, ntm, tcm, KAm, nkm, kcm, rfl, ⟨dm, hAt⟩, b6⟩ := NewN.opn h6
        have HB6 := hd (HBwr.out.trans (b6.mono HBwr.out.size))
        have HBR6 := hd (HBR.out.trans (b6.mono HBR.out.size))
        have HN6 := hd hAt
        clear hAt b6 x0 x1 x2 x3 HCG hcell hIL hgb hck
        go_upto_region 13 with fail
        generalize hWx : World.alloc w6 _ = w7
        have hbx : Below w6.heap.size w6 w7 := hWx ▸ (Below.refl _ _).alloc (Nat.le_refl _) _
        have HXx := hd (hWx ▸ V4.new w6 (.bool lfm) (.slice PAm npm pcm) (.slice TAm ntm tcm) (.slice KAm nkm kcm))
        obtain ⟨g7, hgx⟩ : ∃ g7, g7 = w6.heap.size := ⟨_, rfl⟩
        rw [← hgx] at HXx ⊢
        clear hgx hWx
        have HB7 := hd (HB6.out.trans (hbx.mono HB6.out.size))
        have HBR7 := hd (HBR6.out.trans (hbx.mono HBR6.out.size))
        have HN7 := hd (HN6.out.later hbx)
        have HX7 := hd HXx.out
        clear hbx HXx
        have HCP := hd (print_w dm w7 _ m (hd (hT.out.below HB7.out)) HN7.out (fun _ => by omega))
        obtain ⟨T, hTm⟩ : ∃ T, bs (printS m) = T := ⟨_, rfl⟩
        have hTd : T.data.toList = txtT m := by rw [← hTm]; exact print_bytes HCM.out
        have hTz : T.size = (txtT m).length := by rw [← hTd, data_size]
        have hpos := txtT_pos m
        have HTM := hd hTm
        have HTD := hd hTd
        have HTZ := hd hTz
        clear hTm hTd
        obtain ⟨x0, x1, x2, x3⟩ := HX7.out.cells
        go_wp2_with fail
        refine HCP.out.mono ?_
        intro e w8 h8
        obtain ⟨he, b8⟩ := h8
        rw [HTM.out, HCM.out] at he
        subst he
        have HB8 := hd (HB7.out.trans (b8.mono HB7.out.size))
        have HBR8 := hd (HBR7.out.trans (b8.mono HBR7.out.size))
        have HX8 := hd (HX7.out.below b8)
        have HN8 := hd (HN7.out.later b8)
        clear b8 x0 x1 x2 x3 HCP
        obtain ⟨x0, x1, x2, x3⟩ := HX8.out.cells
        have hTe : T.toList.isEmpty = false := by rw [isEmpty_of]; exact decide_eq_false (by omega)
        have HSM := hd (show Spots (txtT n) a (txtT n).length (txtT m :: ((subsN n).drop (k + 1)).map txtT) by have := HSK.out; rw [HM2.out] at this; exact this)
        cases lfm
        · go_upto_region 20 with fail
          have HS6 := hd (show S.size ≤ 6000 by have := HSZ.out; omega)
          clear hTz x0 x1 x2 x3
          go_wp2_with fail
          go_loopw [14] (fun x wi => ∃ b : Nat, x = .int .i64 b ∧ a ≤ b ∧ Hid (wi = w8) ∧ Hid (∀ o, a ≤ o → ((txtT n).drop o).take (txtT m).length = txtT m → b ≤ o)) (fun x _ => S.size + 1 - (intOf x).toNat)
          case atStart => exact ⟨a, rfl, Nat.le_refl _, hd rfl, hd fun o h _ => h⟩
          case round =>
            obtain ⟨b, rfl, hab, HWI, HMIN⟩ := hrel
            obtain rfl := HWI.out
            have hbS : b + T.size ≤ S.size := by
              obtain ⟨o, h1, h2, h3, _⟩ := HSM.out
              have := HMIN.out o h1 h3
              have := HSZ.out
              have := HTZ.out
              omega
            have hS6 : S.size ≤ 6000 := HS6.out
            have hbi : (b : Int) + (T.size : Int) ≤ (S.size : Int) := by omega
            have hcut : (S.extract b (b + T.size)).data.toList = ((txtT n).drop b).take T.size := by
              rw [ex_data, HSD.out]; unfold cutS; rw [List.drop_take]; congr 1; omega
            have HCU := hd hcut
            clear hcut
            cases hst : ((S.extract b (b + T.size)).toList == T.toList)
            · have HST := hd hst
              go_wp2
              have hne : ((txtT n).drop b).take (txtT m).length ≠ txtT m := by
                intro hX
                have h1 := HST.out
                rw [ByteArray.toList_eq, ByteArray.toList_eq, HCU.out, HTZ.out, HTD.out, hX] at h1
                simp at h1
              refine ⟨⟨b + 1, by simp, by omega, hd (by trivial), hd ?_⟩, ?_⟩
              · intro o h1 h2
                have h3 := HMIN.out o h1 h2
                rcases Nat.lt_or_eq_of_le h3 with h4 | h4
                · omega
                · exact absurd (h4 ▸ h2) hne
              · simp only [intOf]; omega
            · have HST := hd hst
              go_wp2
              refine ⟨⟨b, k + 1, rfl, by simp, by omega, by omega, hd ?_, HBR8⟩, ?_⟩
              · exact Spots.first HSM.out HMIN.out
              · simp only [intOf]; omega
        · obtain ⟨dk, lf', ps', tx', ks', PA', pc', TA', tc', KA', kc', _, hm0, hv, _, htx, _, _⟩ := HN8.out.open_
          simp at hv
          obtain ⟨rfl, _, ⟨rfl, hnt, rfl⟩, _⟩ := hv
          have hone : oneE true ps' tx' ks'.length = 0 := by
            have h1 := HM3.out
            rw [hm0, chkT] at h1
            by_cases h2 : oneE true ps' tx' ks'.length = 0
            · exact h2
            · rw [if_pos h2] at h1; exact absurd h1 h2
          obtain ⟨_, p2, _, _⟩ := oneE_parts hone
          have hmt : txtT m = propsT ps' ++ quoL tx' := by rw [hm0, txtT]; simp
          have hnt1 : ntm ≤ 1000 := by rw [hm0, weighT] at hm5; omega
          have hq := quoR_yes' p2
          have hck : chkL tx' = 0 := by unfold chkL; rw [p2]; rfl
          have HCQ := hd (quote_any TAm tx' ntm tcm w8 (hd (hT.out.below HB8.out)) hnt.symm hnt1 htx)
          have HQE := hd hq
          have HCK := hd hck
          have HMT := hd hmt
          obtain ⟨Q, hQ⟩ : ∃ Q, bs (quoL tx') = Q := ⟨_, rfl⟩
          have HQQ := hd hQ
          have HQZ := hd (show Q.size = (quoL tx').length by rw [← hQ, bs_size])
          clear hm0 hnt hone p2 hmt hq hck htx hQ
          go_wp2_with fail
          refine HCQ.out.mono ?_
          intro e w9 h9
          obtain ⟨he, b9⟩ := h9
          rw [HQE.out, HCK.out, HQQ.out] at he
          subst he
          have HB9 := hd (HB8.out.trans (b9.mono HB8.out.size))
          have HBR9 := hd (HBR8.out.trans (b9.mono HBR8.out.size))
          have HS6 := hd (show S.size ≤ 6000 by have := HSZ.out; omega)
          have hqT : Q.size ≤ T.size := by rw [HQZ.out, HTZ.out, HMT.out, List.length_append]; omega
          have hT6 : T.size ≤ 6000 := by
            obtain ⟨o, h1, h2, h3, _⟩ := HSM.out
            have := HSZ.out
            have := HTZ.out
            omega
          clear hTz x0 x1 x2 x3 b9 HCQ
          have hlt : decide (T.size < Q.size) = false := decide_eq_false (by omega)
          have hlt2 : ¬ (T.size < Q.size) := by omega
          have hst : ((T.extract (T.size - Q.size) T.size).toList == Q.toList) = true := by
            rw [ByteArray.toList_eq, ByteArray.toList_eq, ex_data, HTD.out, HMT.out]
            have e1 : T.size - Q.size = (propsT ps').length := by rw [HTZ.out, HQZ.out, HMT.out, List.length_append]; omega
            have e2 : T.size = (propsT ps' ++ quoL tx').length := by rw [HTZ.out, HMT.out]
            rw [e1, e2]
            unfold cutS
            rw [List.take_length, List.drop_left, ← HQQ.out]
            simp [bs]
          go_upto_region 20 with fail
          clear hlt hlt2 hst hqT hT6
          go_wp2_with fail
          go_loopw [14] (fun x wi => ∃ b : Nat, x = .int .i64 b ∧ a ≤ b ∧ Hid (wi = w9) ∧ Hid (∀ o, a ≤ o → ((txtT n).drop o).take (txtT m).length = txtT m → b ≤ o)) (fun x _ => S.size + 1 - (intOf x).toNat)
          case atStart => exact ⟨a, rfl, Nat.le_refl _, hd rfl, hd fun o h _ => h⟩
          case round =>
            obtain ⟨b, rfl, hab, HWI, HMIN⟩ := hrel
            obtain rfl := HWI.out
            have hbS : b + T.size ≤ S.size := by
              obtain ⟨o, h1, h2, h3, _⟩ := HSM.out
              have := HMIN.out o h1 h3
              have := HSZ.out
              have := HTZ.out
              omega
            have hS6 : S.size ≤ 6000 := HS6.out
            have hbi : (b : Int) + (T.size : Int) ≤ (S.size : Int) := by omega
            have hcut : (S.extract b (b + T.size)).data.toList = ((txtT n).drop b).take T.size := by
              rw [ex_data, HSD.out]; unfold cutS; rw [List.drop_take]; congr 1; omega
            have HCU := hd hcut
            clear hcut
            cases hst : ((S.extract b (b + T.size)).toList == T.toList)
            · have HST := hd hst
              go_wp2
              have hne : ((txtT n).drop b).take (txtT m).length ≠ txtT m := by
                intro hX
                have h1 := HST.out
                rw [ByteArray.toList_eq, ByteArray.toList_eq, HCU.out, HTZ.out, HTD.out, hX] at h1
                simp at h1
              refine ⟨⟨b + 1, by simp, by omega, hd (by trivial), hd ?_⟩, ?_⟩
              · intro o h1 h2
                have h3 := HMIN.out o h1 h2
                rcases Nat.lt_or_eq_of_le h3 with h4 | h4
                · omega
                · exact absurd (h4 ▸ h2) hne
              · simp only [intOf]; omega
            · have HST := hd hst
              go_wp2
              refine ⟨⟨b, k + 1, rfl, by simp, by omega, by omega, hd ?_, HBR9⟩, ?_⟩
              · exact Spots.first HSM.out HMIN.out
              · simp only [intOf]; omega
      · have hkd : decide (k < N) = false := decide_eq_false hkl
        go_wp2
        go_ret
        exact ⟨rfl, HB5.out.trans (HBR.out.mono HB5.out.size)⟩
  · have hP := print_none (n := n) (by rw [hE]; exact h0)
    have hSe : S = ⟨#[]⟩ := by rw [← hS]; exact hP
    have hbe : (E != 0) = true := by simpa using h0
    subst hSe
    clear hP hwt hS hE h0
    go_wp2_with fail
    refine HC4.out.mono ?_
    intro e w4 h4
    obtain ⟨he, b4⟩ := h4
    rw [HS.out, HE.out] at he
    subst he
    have HB4 := hd (HB3.out.trans (b4.mono HB3.out.size))
    clear b4 x0 x1 x2 x3 HC4
    go_wp2
    go_ret
    exact ⟨rfl, HB4.out⟩

end Go.Proofs.YtknkclbjocfhiaaDoor
