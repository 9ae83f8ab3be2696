/- The document's text of a tree, and its Print. -/
import Derived.Test.YtknkclbjocfhiaaDoorCWritten
import Derived.Test.YtknkclbjocfhiaaDoorGDoc
import Derived.Test.YtknkclbjocfhiaaDoorNCheck
namespace Go.Proofs.YtknkclbjocfhiaaDoor
open Go.RowKit

theorem bs_str (s : ByteArray) : s = bs s.data.toList := rfl
set_option maxRecDepth 4000 in
theorem ret_s {a : ByteArray} {l : List UInt8} (h : a = bs l) : Ending.returned (.string a) = .returned (.string (bs l)) := by rw [h]
set_option maxRecDepth 4000 in
/-- One property more: the texts that are put behind one another. -/
theorem add_prop (ps : List Pr) (k : Nat) (h : k < ps.length) (S H S1 Y1 Y2 : ByteArray) (K V : ByteArray) (hK : K = (prAt ps k).1) (hV : V = (prAt ps k).2) (hS : S = bs (prT 123 (ps.take k))) (hH : H = bs [ahd k]) (h1 : S1 = S ++ H) (h2 : Y1 = K ++ bs [58]) (h3 : Y2 = Y1 ++ V) :
    S1 ++ Y2 = bs (prT 123 (ps.take (k + 1))) := by
  rw [prT_take ps k h, h1, h3, h2, hS, hH, ← hK, ← hV]
  rw [bs_str K, bs_str V, bs_append, bs_append, bs_append, bs_append]
  simp [bs_data]

set_option maxRecDepth 4000 in
set_option maxHeartbeats 8000000 in
theorem dtext_any : ∀ (d : Nat) (w : World) (v : Value) (n : NT), NodeAt d w w.heap.size v n → chkT n = 0 → sizeT n ≤ 1000 → (txtT n).length ≤ 900000 →
      Calls Tryd.prog 27 #[v] w (Still (.string (bs (txtT n))) w) := by
  intro d
  induction d with
  | zero => intro w v n h; exact h.elim
  | succ d ih =>
    intro w v n hn hc hs hlen
    obtain ⟨d1, lf, ps, tx, ks, PA, pc, TA, tc, KA, kc, hd1, rfl, rfl, hp, ht, hf, hks⟩ := hn.open_
    obtain rfl : d = d1 := by omega
    obtain ⟨e1, e2⟩ := chkT_zero hc
    obtain ⟨p1, p2, p3, p4⟩ := oneE_parts e1
    have p16 := chk_len p1
    have hl2 := hf.2.2.1
    have hl3 := hf.2.2.2.1
    simp only [sizeT] at hs
    obtain ⟨W1, hW1⟩ : ∃ W1, W1 = w.alloc (.cells #[.bool lf, .slice PA ps.length pc, .slice TA tx.length tc, .slice KA ks.length kc] 26) := ⟨_, rfl⟩
    have hb1 : Below w.heap.size w W1 := hW1 ▸ (Below.refl _ _).alloc (Nat.le_refl _) _
    have HX1 := hd (hW1 ▸ boxAt w #[.bool lf, .slice PA ps.length pc, .slice TA tx.length tc, .slice KA ks.length kc] 26)
    have hz1 : W1.heap.size = w.heap.size + 1 := by rw [hW1]; simp
    have HB1 := hd hb1
    have HKS := hd hks
    have HT := hd ht
    have HP := hd hp
    have hlp : (propsT ps).length ≤ 900000 := by rw [txtT, List.length_append] at hlen; omega
    have hL : ∀ k, (prT 123 (ps.take k)).length ≤ (propsT ps).length := fun k => by
      have h1 := prT_len ps k
      have h2 : (prT 123 ps).length ≤ (propsT ps).length := by
        cases ps with
        | nil => simp [prT]
        | cons p r => rw [propsT, List.length_append]; omega
      omega
    have HL := hd hL
    have HN := hd (⟨e1, e2, p1, p2, p3, p4⟩ : oneE lf ps tx ks.length = 0 ∧ chkK ks = 0 ∧ chk ps = 0 ∧ okR tx = true ∧ (lf = true → ks.length = 0) ∧ (lf = false → tx = []))
    have H0 := hd (show (⟨#[]⟩ : ByteArray) = bs (prT 123 (ps.take 0)) from rfl)
    clear hn hc hb1 hks ht hp hf hL e1 e2 p1 p2 p3 p4 hd1
    rw [hW1] at HB1 hz1
    go_enter Tryd.func27, Tryd.ntmps27
    go_wp2
    rw [← hW1]
    rw [← hW1] at HB1 hz1
    go_loopw [3, 13] (fun x i wr => ∃ (k : Nat) (S : ByteArray), k ≤ ps.length ∧ i = .int .i64 k ∧ x = .string S ∧ Hid (S = bs (prT 123 (ps.take k))) ∧ Hid (Below W1.heap.size W1 wr)) (fun _ i _ => ps.length - (intOf i).toNat)
    case atStart => exact ⟨0, _, Nat.zero_le _, rfl, rfl, H0, Below.refl _ _⟩
    case round =>
      obtain ⟨k, S, hk, rfl, rfl, HS, HR⟩ := hrel
      have hb := HB1.out.trans (HR.out.mono (by omega))
      have hsz := HR.out.size
      have hlk := HL.out k
      have hSz : S.size ≤ 900000 := by rw [HS.out, bs_size]; omega
      by_cases hlt : k < ps.length
      · obtain ⟨g, o, rfl, hlb, c1, c2⟩ := (HP.out.below hb).at_ hlt
        have hg : g < wr.heap.size := by omega
        have hlk2 := HL.out (k + 1)
        have hT := prT_take ps k hlt
        rw [hT] at hlk2
        obtain ⟨K, hK⟩ : ∃ K, K = (prAt ps k).1 := ⟨_, rfl⟩
        obtain ⟨V, hV⟩ : ∃ V, V = (prAt ps k).2 := ⟨_, rfl⟩
        rw [← hK, ← hV] at hlk2
        rw [← hK] at c1
        rw [← hV] at c2
        have dK := data_size K
        have dV := data_size V
        simp only [List.length_append, List.length_cons, dK, dV] at hlk2
        obtain ⟨H, hH⟩ : ∃ H, H = bs [ahd k] := ⟨_, rfl⟩
        obtain ⟨S1, h1⟩ : ∃ S1, S1 = S ++ H := ⟨_, rfl⟩
        obtain ⟨C, hC⟩ : ∃ C : ByteArray, C = ⟨#[58]⟩ := ⟨_, rfl⟩
        obtain ⟨Y1, h2⟩ : ∃ Y1, Y1 = K ++ C := ⟨_, rfl⟩
        obtain ⟨Y2, h3⟩ : ∃ Y2, Y2 = Y1 ++ V := ⟨_, rfl⟩
        have HS2 := hd (add_prop ps k hlt S H S1 Y1 Y2 K V hK hV HS.out hH h1 (by rw [h2, hC]; rfl) h3)
        have hHs : H.size = 1 := by rw [hH, bs_size]; rfl
        have hCs : C.size = 1 := by rw [hC]; rfl
        have z1 : S1.size = S.size + 1 := by rw [h1, ByteArray.size_append, hHs]
        have z2 : Y1.size = K.size + 1 := by rw [h2, ByteArray.size_append, hCs]
        have z3 : Y2.size = K.size + 1 + V.size := by rw [h3, ByteArray.size_append, z2]
        have s1 : ¬ (S.size + H.size > 9223372036854775807) := by omega
        have s2 : ¬ (K.size + C.size > 9223372036854775807) := by omega
        have s3 : ¬ (Y1.size + V.size > 9223372036854775807) := by omega
        have s4 : ¬ (S1.size + Y2.size > 9223372036854775807) := by omega
        have q1 := h1.symm
        have q2 := h2.symm
        have q3 := h3.symm
        have HRa := hd (HR.out.alloc (by omega) (.cells #[.string K, .string V] 50))
        clear hT hK hV dK dV h1 h2 h3 hHs hCs z1 z2 z3 hSz hlk hlk2
        rcases Nat.eq_zero_or_pos k with h0 | h0
        · have k0 : ((k : Int) == 0) = true := by simp [h0]
          have hHv : H = ⟨#[123]⟩ := by rw [hH, h0]; rfl
          clear h0 hH
          subst hHv hC
          go_wp2
          go_roundw
          case rel => exact ⟨k + 1, _, by omega, by go_num, rfl, HS2, HRa⟩
          case measure => simp [intOf]; omega
        · have k0 : ((k : Int) == 0) = false := by rw [beq_eq_false_iff_ne]; omega
          have hHv : H = ⟨#[44]⟩ := by rw [hH]; unfold ahd; rw [if_neg (by omega)]; rfl
          clear h0 hH
          subst hHv hC
          go_wp2
          go_roundw
          case rel => exact ⟨k + 1, _, by omega, by go_num, rfl, HS2, HRa⟩
          case measure => simp [intOf]; omega
      · have hX2 := (HR.out.block _ (by omega)).trans HX1.out
        obtain ⟨x0, x1, x2, x3⟩ := cell4 hX2
        obtain ⟨e1, e2, p1, p2, p3, p4⟩ := HN.out
        obtain ⟨S2, hS2⟩ : ∃ S2, S2 = bs (propsT ps) := ⟨_, rfl⟩
        have hS2z : S2.size ≤ 900000 := by rw [hS2, bs_size]; omega
        have HE := hd (show ps.take k = ps from List.take_of_length_le (by omega))
        rw [HE.out] at HS
        have HX2 := hd hX2
        have HS2 := hd hS2
        have HBR := hd hb
        clear e1 p1 hX2 hlk hb
        cases lf
        · have h0t : tx = [] := p4 rfl
          have hlt2 := txtT_elem ps tx ks
          have HE2 := hd (show txtT (.mk false ps tx ks) = (propsT ps ++ [91]) ++ txtK ks ++ [93] by rw [txtT]; simp)
          have HLk := hd (fun k => txtK_len ks k)
          rw [hlt2] at hlen
          have HCK := hd (fun (k : Nat) (m : NT) (hm : ks[k]? = some m) => (⟨chkK_at e2 hm, by have := sizeK_mem hm; omega⟩ : chkT m = 0 ∧ sizeT m ≤ 1000))
          have HTK := hd (fun (k : Nat) (m : NT) (hm : ks[k]? = some m) => txtK_take hm)
          obtain ⟨S3, hS3⟩ : ∃ S3, S3 = bs (propsT ps ++ [91]) := ⟨_, rfl⟩
          have hS23 : S2 ++ (⟨#[91]⟩ : ByteArray) = S3 := by rw [HS2.out, hS3]; exact bs_append _ _
          have hS3z : S3.size = (propsT ps).length + 1 := by rw [hS3, bs_size]; simp
          have s5 : ¬ (S2.size + (⟨#[91]⟩ : ByteArray).size > 9223372036854775807) := by
            have : (⟨#[91]⟩ : ByteArray).size = 1 := rfl
            omega
          have HS3 := hd (show S3 = bs (propsT ps ++ [91] ++ txtK (ks.take 0)) by rw [hS3, List.take_zero, txtK, List.append_nil])
          have HB3 := HBR
          have k01 : Hid ((ps.length = 0 ∧ S = S2) ∨ (0 < ps.length ∧ S ++ (⟨#[125]⟩ : ByteArray) = S2)) := by
            rcases Nat.eq_zero_or_pos ps.length with h0 | h0
            · exact .inl ⟨h0, by rw [HS.out, HS2.out, List.eq_nil_of_length_eq_zero h0]; rfl⟩
            · exact .inr ⟨h0, by rw [HS.out, HS2.out, propsT_eq ps h0]; exact bs_append _ _⟩
          clear p2 p3 p4 e2 hlt2 h0t hS2 hS3 HX1 HX2 HT H0
          have HC := HB3
          rcases k01.out with ⟨h0, hS0⟩ | ⟨h0, hSe⟩
          · have k0 : decide ((0 : Int) < (ps.length : Int)) = false := by simp [h0]
            have k1 : decide (0 < ps.length) = false := by simp [h0]
            clear k01 hS2z hSz h0
            subst hS0
            go_wp2
            clear x0 x1 x2 x3 hS23 s5 k0 k1
            obtain ⟨w0, hw0⟩ : ∃ w0 : World, w0 = wr := ⟨_, rfl⟩
            subst hw0
            obtain ⟨T0, hT0⟩ : ∃ T0, T0 = S3 := ⟨_, rfl⟩
            subst hT0
            obtain ⟨k', hk'⟩ : ∃ k', k' = k := ⟨_, rfl⟩
            subst hk'
            go_loopw [3, 55] (fun x i wr => ∃ (k : Nat) (S : ByteArray), k ≤ ks.length ∧ i = .int .i64 k ∧ x = .string S ∧ Hid (S = bs (propsT ps ++ [91] ++ txtK (ks.take k))) ∧ Hid (Below w.heap.size w wr)) (fun _ i _ => ks.length - (intOf i).toNat)
            case atStart => exact ⟨0, _, Nat.zero_le _, rfl, rfl, HS3, HB3⟩
            case round =>
              obtain ⟨k, S, hk, rfl, rfl, HS, HR⟩ := hrel
              have hsz := HR.out.size
              have hk2 := HLk.out k
              have hSz : S.size = (propsT ps).length + 1 + (txtK (ks.take k)).length := by rw [HS.out, bs_size]; simp; omega
              by_cases hlt : k < ks.length
              · obtain ⟨n1, g, o, lf1, PA1, np1, pc1, TA1, nt1, tc1, KA1, nk1, kc1, hn1, rfl, hbg, hnm, c0, c1, c2, c3⟩ := (HKS.out.below HR.out).at_ hlt
                obtain ⟨wk, hwk⟩ : ∃ wk, wk = wr.alloc (.cells #[.bool lf1, .slice PA1 np1 pc1, .slice TA1 nt1 tc1, .slice KA1 nk1 kc1] 26) := ⟨_, rfl⟩
                have hbk : Below w.heap.size w wk := hwk ▸ HR.out.alloc (by omega) _
                have hbk2 : Below wr.heap.size wr wk := hwk ▸ (Below.refl _ _).alloc (Nat.le_refl _) _
                have HY := hd (HTK.out k n1 hn1)
                obtain ⟨q1, q3⟩ := HCK.out k n1 hn1
                have hk4 := HLk.out (k + 1)
                rw [HY.out, List.length_append] at hk4
                have HCc := hd (ih wk _ n1 (((hnm.more hsz).below hbk2).more hbk2.size) q1 q3 (by omega))
                have HK2 := hd hbk
                obtain ⟨Z, hZ⟩ : ∃ Z, Z = bs (txtT n1) := ⟨_, rfl⟩
                have hZz : Z.size = (txtT n1).length := by rw [hZ, bs_size]
                rw [← hZ] at HCc
                have s7 : ¬ (S.size + Z.size > 9223372036854775807) := by omega
                have HS4 := hd (show S ++ Z = bs (propsT ps ++ [91] ++ txtK (ks.take (k + 1))) by rw [HS.out, hZ, bs_append, HY.out, List.append_assoc])
                subst hwk
                clear hn1 hnm hbk hbk2 q1 hZ hZz hSz
                go_wp2_with fail
                refine HCc.out.mono ?_
                rintro e w4 ⟨rfl, hb5⟩
                have HB5 := hd (HK2.out.trans (hb5.mono HK2.out.size))
                go_wp2
                go_roundw
                case rel => exact ⟨k + 1, S ++ Z, by omega, by go_num, rfl, HS4, HB5⟩
                case measure => simp [intOf]; omega
              · have HE := hd (show ks.take k = ks from List.take_of_length_le (by omega))
                rw [HE.out] at HS hk2 hSz
                have s7 : ¬ (S.size + (⟨#[93]⟩ : ByteArray).size > 9223372036854775807) := by
                  have : (⟨#[93]⟩ : ByteArray).size = 1 := rfl
                  omega
                have HF := hd (show S ++ (⟨#[93]⟩ : ByteArray) = bs (propsT ps ++ [91] ++ txtK ks ++ [93]) by rw [HS.out]; exact bs_append _ _)
                clear hSz HS
                go_wp2
                go_ret
                exact ⟨ret_s (HF.out.trans (by rw [HE2.out])), HR.out⟩
          · have k0 : decide ((0 : Int) < (ps.length : Int)) = true := by simp; omega
            have k1 : decide (0 < ps.length) = true := by simp; omega
            have s6 : ¬ (S.size + (⟨#[125]⟩ : ByteArray).size > 9223372036854775807) := by
              have : (⟨#[125]⟩ : ByteArray).size = 1 := rfl
              omega
            clear k01 hS2z hSz h0
            go_wp2
            clear x0 x1 x2 x3 hS23 s5 k0 k1
            obtain ⟨w0, hw0⟩ : ∃ w0 : World, w0 = wr := ⟨_, rfl⟩
            subst hw0
            obtain ⟨T0, hT0⟩ : ∃ T0, T0 = S3 := ⟨_, rfl⟩
            subst hT0
            obtain ⟨k', hk'⟩ : ∃ k', k' = k := ⟨_, rfl⟩
            subst hk'
            go_loopw [3, 55] (fun x i wr => ∃ (k : Nat) (S : ByteArray), k ≤ ks.length ∧ i = .int .i64 k ∧ x = .string S ∧ Hid (S = bs (propsT ps ++ [91] ++ txtK (ks.take k))) ∧ Hid (Below w.heap.size w wr)) (fun _ i _ => ks.length - (intOf i).toNat)
            case atStart => exact ⟨0, _, Nat.zero_le _, rfl, rfl, HS3, HB3⟩
            case round =>
              obtain ⟨k, S, hk, rfl, rfl, HS, HR⟩ := hrel
              have hsz := HR.out.size
              have hk2 := HLk.out k
              have hSz : S.size = (propsT ps).length + 1 + (txtK (ks.take k)).length := by rw [HS.out, bs_size]; simp; omega
              by_cases hlt : k < ks.length
              · obtain ⟨n1, g, o, lf1, PA1, np1, pc1, TA1, nt1, tc1, KA1, nk1, kc1, hn1, rfl, hbg, hnm, c0, c1, c2, c3⟩ := (HKS.out.below HR.out).at_ hlt
                obtain ⟨wk, hwk⟩ : ∃ wk, wk = wr.alloc (.cells #[.bool lf1, .slice PA1 np1 pc1, .slice TA1 nt1 tc1, .slice KA1 nk1 kc1] 26) := ⟨_, rfl⟩
                have hbk : Below w.heap.size w wk := hwk ▸ HR.out.alloc (by omega) _
                have hbk2 : Below wr.heap.size wr wk := hwk ▸ (Below.refl _ _).alloc (Nat.le_refl _) _
                have HY := hd (HTK.out k n1 hn1)
                obtain ⟨q1, q3⟩ := HCK.out k n1 hn1
                have hk4 := HLk.out (k + 1)
                rw [HY.out, List.length_append] at hk4
                have HCc := hd (ih wk _ n1 (((hnm.more hsz).below hbk2).more hbk2.size) q1 q3 (by omega))
                have HK2 := hd hbk
                obtain ⟨Z, hZ⟩ : ∃ Z, Z = bs (txtT n1) := ⟨_, rfl⟩
                have hZz : Z.size = (txtT n1).length := by rw [hZ, bs_size]
                rw [← hZ] at HCc
                have s7 : ¬ (S.size + Z.size > 9223372036854775807) := by omega
                have HS4 := hd (show S ++ Z = bs (propsT ps ++ [91] ++ txtK (ks.take (k + 1))) by rw [HS.out, hZ, bs_append, HY.out, List.append_assoc])
                subst hwk
                clear hn1 hnm hbk hbk2 q1 hZ hZz hSz
                go_wp2_with fail
                refine HCc.out.mono ?_
                rintro e w4 ⟨rfl, hb5⟩
                have HB5 := hd (HK2.out.trans (hb5.mono HK2.out.size))
                go_wp2
                go_roundw
                case rel => exact ⟨k + 1, S ++ Z, by omega, by go_num, rfl, HS4, HB5⟩
                case measure => simp [intOf]; omega
              · have HE := hd (show ks.take k = ks from List.take_of_length_le (by omega))
                rw [HE.out] at HS hk2 hSz
                have s7 : ¬ (S.size + (⟨#[93]⟩ : ByteArray).size > 9223372036854775807) := by
                  have : (⟨#[93]⟩ : ByteArray).size = 1 := rfl
                  omega
                have HF := hd (show S ++ (⟨#[93]⟩ : ByteArray) = bs (propsT ps ++ [91] ++ txtK ks ++ [93]) by rw [HS.out]; exact bs_append _ _)
                clear hSz HS
                go_wp2
                go_ret
                exact ⟨ret_s (HF.out.trans (by rw [HE2.out])), HR.out⟩
        · have hk : ks = [] := List.eq_nil_of_length_eq_zero (p3 rfl)
          subst hk
          have HQ := hd (show quoR tx = quoL tx from quoR_yes' p2)
          have HK := hd (show chkL tx = 0 by unfold chkL; rw [p2]; rfl)
          have hql : (txtT (.mk true ps tx [])).length = (propsT ps).length + (quoL tx).length := by rw [txtT]; simp
          have HF := hd (show txtT (.mk true ps tx []) = propsT ps ++ quoL tx by rw [txtT]; simp)
          have hz2 : (bs (quoL tx)).size ≤ 900000 := by rw [bs_size]; omega
          have s5 : ¬ (S2.size + (bs (quoL tx)).size > 9223372036854775807) := by omega
          clear p2 p3 p4 e2 hql
          by_cases h0 : ps.length = 0
          · have hS0 : S = S2 := by rw [HS.out, hS2, List.eq_nil_of_length_eq_zero h0]; rfl
            have k0 : decide ((0 : Int) < (ps.length : Int)) = false := by simp [h0]
            have k1 : decide (0 < ps.length) = false := by simp [h0]
            have HQc := hd (rquote_any TA tx tx.length tc wr rfl (by omega) ((HT.out.below HBR.out).more (by omega)))
            clear hS2 hS2z hSz h0
            subst hS0
            go_wp2_with fail
            refine HQc.out.mono ?_
            intro e w3 h3
            obtain ⟨he, h3⟩ := h3
            rw [HQ.out, HK.out] at he
            subst he
            go_wp2
            go_ret
            exact ⟨ret_s (by rw [HF.out, HS2.out, bs_append]), HBR.out.trans (h3.mono HBR.out.size)⟩
          · have HSe := hd (show S ++ (⟨#[125]⟩ : ByteArray) = S2 by rw [HS.out, hS2, propsT_eq ps (by omega)]; exact bs_append _ _)
            have k0 : decide ((0 : Int) < (ps.length : Int)) = true := by simp; omega
            have k1 : decide (0 < ps.length) = true := by simp; omega
            have hSe := HSe.out
            have s6 : ¬ (S.size + (⟨#[125]⟩ : ByteArray).size > 9223372036854775807) := by
              have : (⟨#[125]⟩ : ByteArray).size = 1 := rfl
              omega
            have HQc := hd (rquote_any TA tx tx.length tc wr rfl (by omega) ((HT.out.below HBR.out).more (by omega)))
            clear hS2 hS2z hSz h0
            go_wp2_with fail
            refine HQc.out.mono ?_
            intro e w3 h3
            obtain ⟨he, h3⟩ := h3
            rw [HQ.out, HK.out] at he
            subst he
            go_wp2
            go_ret
            exact ⟨ret_s (by rw [HF.out, HS2.out, bs_append]), HBR.out.trans (h3.mono HBR.out.size)⟩

set_option maxRecDepth 4000 in
set_option maxHeartbeats 4000000 in
theorem dprint_any (d : Nat) (w : World) (v : Value) (n : NT) (hn : NodeAt d w w.heap.size v n) (hf : fewB 200 n = true) :
    Calls Tryd.prog 12 #[v] w (PrintOk n w) := by
  obtain ⟨d1, lf, ps, tx, ks, PA, pc, TA, tc, KA, kc, hd1, hn0, rfl, _, _, _, _⟩ := hn.open_
  have hN := hn.fit
  have HN := hd hn
  have HC := fun (X : World) (hb : Below w.heap.size w X) => hd (rncheck_any d X _ n (HN.out.later hb))
  obtain ⟨E, hE⟩ : ∃ E, checkT n = E := ⟨_, rfl⟩
  obtain ⟨W1, hW1⟩ : ∃ W1, W1 = w.alloc (.cells #[.bool lf, .slice PA ps.length pc, .slice TA tx.length tc, .slice KA ks.length kc] 26) := ⟨_, rfl⟩
  have hb1 : Below w.heap.size w W1 := hW1 ▸ (Below.refl _ _).alloc (Nat.le_refl _) _
  have HX1 := hd (hW1 ▸ boxAt w #[.bool lf, .slice PA ps.length pc, .slice TA tx.length tc, .slice KA ks.length kc] 26)
  have hz1 : W1.heap.size = w.heap.size + 1 := by rw [hW1]; simp
  have HC1 := HC W1 hb1
  rw [hE] at HC1
  have HB1 := hd hb1
  have HE := hd hE
  clear hb1 hn
  by_cases h0 : E = 0
  · have hc0 := checkT_zero (hE.trans h0)
    have hw := of_few hN hc0 (by omega) (by omega) hf
    have h50 := txt_weigh n hc0
    have hsw := size_weigh n
    have HP := hd (show printS n = txtT n by unfold printS; rw [if_pos (hE.trans h0)])
    have h0b : (E == 0) = true := by simp [h0]
    have h0c : (E != 0) = false := by simp [h0]
    have HK := hd hc0
    have H0 := hd h0
    clear hE hc0 hn0 hf hd1 hN h0
    subst hW1
    go_enter Tryd.func12, Tryd.ntmps12
    go_wp2_with fail
    refine HC1.out.mono ?_
    rintro e w2 ⟨rfl, hb2⟩
    have hb2' := HB1.out.trans (hb2.mono HB1.out.size)
    have hX2 : w2.heap[w.heap.size]? = some (.cells #[.bool lf, .slice PA ps.length pc, .slice TA tx.length tc, .slice KA ks.length kc] 26 (0, 0)) := (hb2.block _ (by omega)).trans HX1.out
    obtain ⟨x0, x1, x2, x3⟩ := cell4 hX2
    have HW := hd (dtext_any d w2 _ n (HN.out.later hb2') HK.out (by omega) (by omega))
    have HB2 := hd hb2'
    clear hb2 hb2' hX2
    go_wp2_with fail
    refine HW.out.mono ?_
    rintro e w4 ⟨rfl, hb4⟩
    go_wp2
    go_ret2
    exact ⟨by rw [HP.out, HE.out, H0.out]; rfl, HB2.out.trans (hb4.mono HB2.out.size)⟩
  · have HP := hd (show printS n = [] by unfold printS; rw [if_neg (by rw [hE]; exact h0)])
    have h0b : (E == 0) = false := by simp [h0]
    have h0c : (E != 0) = true := by simp [h0]
    clear hE hn0 hf hd1 hN h0
    subst hW1
    go_enter Tryd.func12, Tryd.ntmps12
    go_wp2_with fail
    refine HC1.out.mono ?_
    rintro e w2 ⟨rfl, hb2⟩
    have hb2' := HB1.out.trans (hb2.mono HB1.out.size)
    go_wp2
    go_ret2
    exact ⟨by rw [HP.out, HE.out]; rfl, hb2'⟩

end Go.Proofs.YtknkclbjocfhiaaDoor
