/- Copy, once more: its walk. The document's Copy, once more: what it makes owns its three rows. -/
import Derived.Test.YtmglnjmnabjjgaaJTCopyWA
import Derived.Test.YtmglnjmnabjjgaaJKCmp
namespace Go.Proofs.Ytmglnjmnabjjgaa
open Go.RowKit

set_option maxRecDepth 100000 in
set_option maxHeartbeats 8000000 in
theorem wholeO_any (g : Nat) : ∀ (d : Nat) (w : World) (v : Value) (n : NT), w.cell? ⟨g, 0, none⟩ = some (.func (.func 76) #[] #[.pointer (some ⟨g, 0, none⟩)]) → NodeAt d w w.heap.size v n →
      Calls Try.prog 76 #[v, .pointer (some ⟨g, 0, none⟩)] w (CopiedO (d - 1) n w) := by
  intro d
  induction d with
  | zero => intro w v n _ h; exact h.elim
  | succ d ih =>
    have ih2 : ∀ (w : World) (v : Value) (n : NT), w.cell? ⟨g, 0, none⟩ = some (.func (.func 76) #[] #[.pointer (some ⟨g, 0, none⟩)]) → NodeAt d w w.heap.size v n → Calls Try.prog 76 #[v, .pointer (some ⟨g, 0, none⟩)] w (Copied d n w) := by
      intro w v n h1 h2
      cases d with
      | zero => exact h2.elim
      | succ d0 => exact (ih w v n h1 h2).mono fun e w' hh => hh.copied
    clear ih
    intro w v n hg hn
    obtain ⟨d1, lf, ps, tx, ks, PA, pc, TA, tc, KA, kc, hd1, rfl, rfl, hp, ht, hf, hks⟩ := hn.open_
    obtain rfl : d = d1 := by omega
    obtain ⟨wb, hwb⟩ : ∃ wb, wb = (w.alloc (.cells #[.bool lf, .slice PA ps.length pc, .slice TA tx.length tc, .slice KA ks.length kc] 26)).alloc (.cells #[.bool false, .slice none 0 0, .slice none 0 0, .slice none 0 0] 26) := ⟨_, rfl⟩
    have hb1 : Below w.heap.size w wb := hwb ▸ below_mono2 (Below.refl _ _) (Nat.le_refl _)
    have X := (Box.new w (.bool lf) (.slice PA ps.length pc) (.slice TA tx.length tc) (.slice KA ks.length kc) 26).alloc (.cells #[.bool false, .slice none 0 0, .slice none 0 0, .slice none 0 0] 26)
    rw [← hwb] at X
    have HP := fun (w' : World) (hb0 : Below wb.heap.size wb w') => hd (freshpO_any PA ps pc w' hf.2.1 ((hp.below (hb1.trans (hb0.mono hb1.size))).more (hb1.trans (hb0.mono hb1.size)).size))
    have HT := fun (w' : World) (hb0 : Below wb.heap.size wb w') => hd (freshrO_any TA tx tc w' hf.2.2.1 ((ht.below (hb1.trans (hb0.mono hb1.size))).more (hb1.trans (hb0.mono hb1.size)).size))
    have HRES := hd (show wb.heap[w.heap.size + 1]? = some (.cells #[.bool false, .slice none 0 0, .slice none 0 0, .slice none 0 0] 26) by rw [hwb, ← sz1 (w := w) (A := (.cells #[.bool lf, .slice PA ps.length pc, .slice TA tx.length tc, .slice KA ks.length kc] 26))]; exact heap_alloc_new _ _)
    obtain ⟨cs, hcs, hmk⟩ := run_mk_G nodeG ks.length (by have := hf.2.2.2.1; omega) (by have := hf.2.2.2.1; omega)
    have HCS := hd hcs
    have HKS := hd hks
    have HG := hd hg
    have HF := hd hf
    have HB := hd hb1
    have HX := hd X
    have hl3 := hf.2.2.2.1
    obtain ⟨x0, x1, x2, x3⟩ := X
    subst hwb
    clear hn hp ht hf hks hd1 hb1 hg hcs
    go_enter Try.func76, Try.ntmps76
    go_wp2_with fail
    go_upto_region 1 with fail
    go_cut [4] (fun s4 wx => OutAtO w lf ps tx (.slice KA ks.length kc) s4 wx)
    case first =>
      go_region_held3 (fun w' => Below ((w.alloc (.cells #[.bool lf, .slice PA ps.length pc, .slice TA tx.length tc, .slice KA ks.length kc] 26)).alloc (.cells #[.bool false, .slice none 0 0, .slice none 0 0, .slice none 0 0] 26)).heap.size ((w.alloc (.cells #[.bool lf, .slice PA ps.length pc, .slice TA tx.length tc, .slice KA ks.length kc] 26)).alloc (.cells #[.bool false, .slice none 0 0, .slice none 0 0, .slice none 0 0] 26)) w' ∧ w'.cell? ⟨w.heap.size, 0, none⟩ = some (.bool lf) ∧ w'.cell? ⟨w.heap.size, 1, none⟩ = some (.slice PA ps.length pc) ∧ w'.cell? ⟨w.heap.size, 2, none⟩ = some (.slice TA tx.length tc) ∧ w'.cell? ⟨w.heap.size, 3, none⟩ = some (.slice KA ks.length kc))
        (first
          | assumption
          | exact ⟨(Below.refl _ _).drew, x0, x1, x2, x3⟩
          | exact keepS ‹_› ((Below.refl _ _).alloc (Nat.le_refl _) _)
          | exact keepSet ‹_› (by simp; omega) (by first | exact hS2.1.size | simp))
        (first
          | (go_at_call 77; refine Calls.mono (HP _ ?hh).out ?_; (case hh => (go_split_ands; assumption)); intro e w2 h2; obtain ⟨gp, cp, rfl, vp, b2, hcp, op2⟩ := h2.vp; have hS2 := keepS ‹_› b2; have HVP := hd vp; have HOP := hd op2; clear op2; (first | have hO2 := hd (newBlk3 (w := w) (Z := (.cells #[.bool false, .slice none 0 0, .slice none 0 0, .slice none 0 0] 26)) b2) | skip); clear h2 vp)
          | (go_at_call 78; refine Calls.mono (HT _ ?hh).out ?_; (case hh => (go_split_ands; assumption)); intro e w3 h3; obtain ⟨gt, ct, rfl, vt, b3, hct, ot3⟩ := h3.vp; have hS3 := keepS ‹_› b3; have HVT := hd vt; have HOT := hd ot3; clear ot3; (first | (have hO3 := hd (keepBlk hO2.out b3); have hq3 := blkCells hO3.out; obtain ⟨q0, q1, q2, q3, q4, q5, q6, q7⟩ := hq3) | (have hO3 := hd (newBlk (W0 := w2) (o := (.cells #[.bool false, .slice none 0 0, .slice none 0 0, .slice none 0 0] 26)) b3 (g := w2.heap.size) rfl); have hq3 := blkCells hO3.out; obtain ⟨q0, q1, q2, q3, q4, q5, q6, q7⟩ := hq3) | skip); clear h3 vt))
      · go_wp2_with fail
        go_meet
        exact outAt_out (w3 := w3) (outAt_new hcp hct HB.out HRES.out hS3 HVP.out HVT.out b3 (by rw [sz2]; exact Nat.le_refl _) (by have h := b2.size; rw [sz2] at h; omega) (by have h := b2.size; rw [sz2] at h; have := b3.size; omega)) rfl (heap_alloc_new _ _) (pt_rows HOP.out HOT.out b3 (by rw [sz2]; exact Nat.le_refl _) (by have h := b2.size; rw [sz2] at h; omega)) (KeepN.of_below ((Below.refl _ _).alloc (Nat.le_refl _) _))
      · go_wp2_with fail
        go_meet
        exact outAt_out (w3 := w3) (outAt_set hcp hct HB.out HRES.out hS3 HVP.out HVT.out (ex_below b3) hO3.out (by have h := b2.size; rw [sz2] at h; omega) (by rw [sz2]; exact Nat.le_refl _) (by rw [sz1]; have h := b2.size; rw [sz2] at h; omega) (fun b _ h => by omega) (fun b h => by rw [sz1] at h; omega)) rfl (set4_block hO3.out) (pt_rows HOP.out HOT.out (ex_below b3) (by rw [sz2]; exact Nat.le_refl _) (by rw [sz1]; have h := b2.size; rw [sz2] at h; omega)) (keepN_set4 hO3.out)
      · go_wp2_with fail
        go_meet
        exact outAt_out (w3 := w3) (outAt_set hcp hct HB.out HRES.out hS3 HVP.out HVT.out b3 hO3.out (by omega) (by rw [sz3]; omega) (by have h := b2.size; rw [sz3] at h; omega) (fun b h _ => by rw [sz3] at h; omega) (fun b h => by have h2 := b2.size; rw [sz3] at h2; omega)) rfl (set4_block hO3.out) (pt_rows HOP.out HOT.out b3 (by rw [sz3]; omega) (by have h := b2.size; rw [sz3] at h; omega)) (keepN_set4 hO3.out)
    case rest =>
      obtain ⟨gO, gp, cp, gt, ct, rfl, HB4, hr4, hgO, k3, hO, HVP, HVT, hcp, hct, hpt⟩ := hcut
      have HPT := hd hpt
      clear hpt
      obtain ⟨o0, o1, o2, o3, f0, f1, f2, f3⟩ := blkCells hO
      have hOl := lt_of_block hO
      have HO := hd hO
      have HB5 := hd HB4
      have HVP := hd HVP
      have HVT := hd HVT
      have hk3 : ((wc.setCell ⟨gO, 3, none⟩ (.slice (some ⟨wc.heap.size, 0, none⟩) 0 ks.length)).alloc (.cells cs 26)).cell? ⟨w.heap.size, 3, none⟩ = some (.slice KA ks.length kc) := by
        rw [World.cell?_alloc_lt _ _ _ (by have := cell_in k3; simpa using this), World.cell?_setCell_other _ _ _ _ (by simp; try omega)]; exact k3
      have HL0 := hd (show CopyLoopO w d lf ps tx ks gO gp cp gt ct 0 wc.heap.size ks.length [] _ from ⟨copy_start (d := d) (ks := ks) hgO hO HB4 hr4 HVP.out HVT.out HCS.out hl3, HPT.out.keep ((KeepN.of_but hO (fun b hb _ => Below.heap_setCell wc (a := ⟨gO, 3, none⟩) (.slice (some ⟨wc.heap.size, 0, none⟩) 0 ks.length) b (by simpa using hb))).trans (KeepN.of_below ((Below.refl _ _).alloc (Nat.le_refl _) _)) (by simp))⟩)
      clear HPT
      clear hO HB4 hr4 HP HT x0 x1 x2 x3 HX HB HVP HVT HRES
      go_wp2_with fail
      clear hk3 k3 o0 o1 o2 o3 f0 f1 f2 f3 hmk
      go_loopw [24] (fun i wr => ∃ (k gk cap : Nat) (us : List Value), k ≤ ks.length ∧ i = .int .i64 k ∧ Hid (CopyLoopO w d lf ps tx ks gO gp cp gt ct k gk cap us wr)) (fun i _ => ks.length - (intOf i).toNat)
      case atStart => exact ⟨0, _, _, _, Nat.zero_le _, rfl, HL0⟩
      case round =>
        obtain ⟨k, gk, cap, us, hk, rfl, HL⟩ := hrel
        clear HL0
        have hbr := HL.out.loop.below
        by_cases hlt : k < ks.length
        · obtain ⟨m, b, o, lf1, PA1, np1, pc1, TA1, nt1, tc1, KA1, nk1, kc1, hm, rfl, hbg, hnm, c0, c1, c2, c3⟩ := (HKS.out.below hbr).at_ hlt
          have hsz := hbr.size
          have hOr := HL.out.loop.out
          have hOlt := lt_of_block hOr
          have HM := hd hm
          obtain ⟨p0, p1, p2, p3, g0, g1, g2, g3⟩ := blkCells hOr
          have hgc : wr.cell? ⟨g, 0, none⟩ = some (.func (.func 76) #[] #[.pointer (some ⟨g, 0, none⟩)]) := (hbr.cell (cell_in HG.out)).trans HG.out
          have hgl := cell_in hgc
          obtain ⟨wk, hwk⟩ : ∃ wk, wk = (wr.alloc (.cells #[.bool lf1, .slice PA1 np1 pc1, .slice TA1 nt1 tc1, .slice KA1 nk1 kc1] 26)).drew := ⟨_, rfl⟩
          have hbk : Below wr.heap.size wr wk := hwk ▸ ((Below.refl _ _).alloc (Nat.le_refl _) _).drew
          have HC := hd (ih2 wk _ m ((hbk.cell (cell_in hgc)).trans hgc) (((hnm.more hsz).below hbk).more hbk.size))
          have HBK := hd hbk
          have hOk : wk.heap[gO]? = _ := (hbk.block _ hOlt).trans hOr
          have HOK := hd hOk
          have hks := hd (show wk.heap.size = wr.heap.size + 1 by rw [hwk]; exact sz1)
          have hgw := cell_in HG.out
          have hgkb := HL.out.loop.row.lt gk rfl
          have hgkO := HL.out.loop.apart
          obtain ⟨i0, hi, hz0, hz1, hz2⟩ := info_parts nodeInfo
          subst hwk
          clear hnm hbk hm hOr hbr hOk
          go_upto_block 1 with fail
          go_cut [24] (fun s wx => s = .int .i64 k ∧ ∃ (g6 cap6 : Nat) (us6 : List Value), Hid (CopyLoopO w d lf ps tx ks gO gp cp gt ct (k + 1) g6 cap6 us6 wx))
          case first =>
            go_wp2_with fail
            go_region_law (first
                | ((go_simp; go_at_call 76; refine HC.out.mono ?_; intro e w4 h4; obtain ⟨v4, rfl, ht4, hb4⟩ := h4; obtain ⟨lf4, PA4, np4, pc4, TA4, nt4, tc4, KA4, nk4, kc4, rfl⟩ := (ht4.at_ (B := w4.heap.size) (fun b hb => hb.2)).val; obtain ⟨hs4, hbl4⟩ := call_row hb4; have hO4 := hd ((hbl4 gO hOlt).trans HL.out.loop.out); obtain ⟨r0, r1, r2, r3, r4, r5, r6, r7⟩ := blkCells hO4.out; have hOl4 : gO < w4.heap.size := (by omega); have hrow4 := hd (ownsRow_far HL.out.loop.row hbl4); have HBL4 := hd hbl4; clear hbl4; have HB4 := hd hb4; have HT4 := hd ht4; clear ht4 hb4))
                | ((refine step_append_lies _ (by rfl) (.tmp 29) (.tmp 33) _ (by rfl) (w.heap.size + 2) 26 i0 _ 4 80 Try.underlying24 hi hz0 hz1 hz2 rfl (by omega) (.slice (some ⟨gk, 0, none⟩) k cap) k (us.flatMap fun u => u.cells.toList) (by first | rfl | simp [Act.eval]) (hrow4.out.alloc _) ⟨w4.heap.size, 0, none⟩ 1 1 [.bool lf4, .slice PA4 np4 pc4, .slice TA4 nt4 tc4, .slice KA4 nk4 kc4] (by first | rfl | simp [Act.eval]) (by rfl) (World.news_of_block (cs := #[.bool lf4, .slice PA4 np4 pc4, .slice TA4 nt4 tc4, .slice KA4 nk4 kc4]) (t := 26) (fr := (0, 0)) (heap_alloc_new w4 _)) (by simp [Value.oneCell']) (by omega) (by unfold maxLen; omega) (by omega) (by simp; omega) (w4.heap.size + 1) (by simp) ?_; intro g6 cap6 w6 hown6 hgrow6 hat6 hlt6; have hO6 := hd (app_block hgrow6 hO4.out hgkO); obtain ⟨s0, s1, s2, s3, s4, s5, s6, s7⟩ := blkCells hO6.out; have hOl6 := lt_of_block hO6.out)))
            all_goals
              have HST := hd (copyO_step HL.out HB4.out hgrow6 (copy_step HL.out.loop HM.out HB4.out HT4.out hgrow6 hown6 hat6))
              clear hgrow6 hown6 hat6 s0 s1 s2 s3 s4 s5 s6 s7 r0 r1 r2 r3 r4 r5 r6 r7 hrow4 hO4 hO6 HBL4 HB4 HT4 p0 p1 p2 p3 g0 g1 g2 g3 c0 c1 c2 c3
              go_wp2_with fail
              go_meet
              exact ⟨rfl, g6, cap6, _, HST⟩
          case rest =>
            obtain ⟨rfl, g6, cap6, us6, HST⟩ := hcut
            clear p0 p1 p2 p3 g0 g1 g2 g3 c0 c1 c2 c3
            go_wp2
            go_roundw
            case rel => exact ⟨k + 1, g6, cap6, us6, by omega, by go_num, HST⟩
            case measure => simp [intOf]; omega
        · obtain rfl : k = ks.length := by omega
          have hO8 := HL.out.loop.out
          have hO8l := lt_of_block hO8
          obtain ⟨p0, p1, p2, p3, _, _, _, _⟩ := blkCells hO8
          clear hO8
          obtain ⟨q0, q1, q2, q3, q4, q5, q6, q7⟩ := blkCells HL.out.loop.res
          have HRS := hd HL.out.loop.res
          have hbr := HL.out.loop.below
          go_wp2
          have h7 := set4_block (a := .bool lf) (b := .slice (some ⟨gp, 0, none⟩) ps.length cp) (c := .slice (some ⟨gt, 0, none⟩) tx.length ct) (d := .slice (some ⟨gk, 0, none⟩) ks.length cap) HRS.out
          obtain ⟨t0, t1, t2, t3, _, _, _, _⟩ := blkCells h7
          refine bodyPost_ret (v := .agg #[.bool lf, .slice (some ⟨gp, 0, none⟩) ps.length cp, .slice (some ⟨gt, 0, none⟩) tx.length ct, .slice (some ⟨gk, 0, none⟩) ks.length cap]) (by simp [results, Try.results76, go_sem, t0, t1, t2, t3]) rfl ⟨_, rfl, copyO_end HL.out ⟨HF.out.1, HF.out.2.1, HF.out.2.2.1, HF.out.2.2.2.1, hcp, hct⟩ (by simp) (fun b hb => ?_), ?_⟩
          · iterate 4 rw [Below.heap_setCell _ _ _ _ (by simpa using hb)]
          · exact (((hbr.setCell (by show _ ≤ w.heap.size + 1; omega) _).setCell (by show _ ≤ w.heap.size + 1; omega) _).setCell (by show _ ≤ w.heap.size + 1; omega) _).setCell (by show _ ≤ w.heap.size + 1; omega) _

set_option maxRecDepth 4000 in
set_option maxHeartbeats 2000000 in
theorem copyO_any (d : Nat) (w : World) (v : Value) (n : NT) (hn : NodeAt d w w.heap.size v n) : Calls Try.prog 70 #[v] w (CopiedO (d - 1) n w) := by
  have hn0 := hn
  obtain ⟨lf, PA, np, pc, TA, nt, tc, KA, nk, kc, rfl⟩ := hn.val
  obtain ⟨f0, hf0⟩ : ∃ f : Value, f = .func (.func 76) #[] #[.pointer (some ⟨w.heap.size + 1 + 1, 0, none⟩)] := ⟨_, rfl⟩
  obtain ⟨wa, hwa⟩ : ∃ wa, wa = ((w.alloc (.cells #[.bool lf, .slice PA np pc, .slice TA nt tc, .slice KA nk kc] 26)).alloc (.cells #[.bool false, .slice none 0 0, .slice none 0 0, .slice none 0 0] 26)).alloc (.cells #[f0] 89) := ⟨_, rfl⟩
  have hba : Below w.heap.size w wa := hwa ▸ (below_mono2 (Below.refl _ _) (Nat.le_refl _)).alloc (by simp; omega) _
  have hca : wa.cell? ⟨w.heap.size + 1 + 1, 0, none⟩ = some f0 := by rw [hwa, World.cell?_alloc_at _ _ _ _ (by simp)]; rfl
  have hsa : wa.heap.size = w.heap.size + 3 := by rw [hwa]; simp
  have hra : wa.heap[w.heap.size + 1]? = some (.cells #[.bool false, .slice none 0 0, .slice none 0 0, .slice none 0 0] 26) := by
    rw [hwa, Below.heap_alloc _ _ _ (by simp)]
    rw [← sz1 (w := w) (A := .cells #[.bool lf, .slice PA np pc, .slice TA nt tc, .slice KA nk kc] 26)]; exact heap_alloc_new _ _
  have HC := hd (wholeO_any (w.heap.size + 1 + 1) d wa _ _ (hf0 ▸ hca) (hn0.later hba))
  have HB := hd hba
  have HR := hd hra
  have HS := hd hsa
  subst hwa hf0
  clear hn hn0 hba hca hra hsa
  go_enter Try.func70, Try.ntmps70
  go_wp2_with (first | (refine HC.out.mono ?_; intro e w' h4; obtain ⟨v4, rfl, ht4, hb4⟩ := h4; obtain ⟨lf4, PA4, np4, pc4, TA4, nt4, tc4, KA4, nk4, kc4, rfl⟩ := ht4.val; have HR4 := hd ((hb4.block (w.heap.size + 1) (by rw [HS.out]; omega)).trans HR.out); obtain ⟨r0, r1, r2, r3, r4, r5, r6, r7⟩ := blkCells HR4.out; have HT4 := hd ht4; have HB4 := hd hb4; clear ht4 hb4))
  have h7 := set4_block (a := .bool lf4) (b := .slice PA4 np4 pc4) (c := .slice TA4 nt4 tc4) (d := .slice KA4 nk4 kc4) HR4.out
  obtain ⟨t0, t1, t2, t3, _, _, _, _⟩ := blkCells h7
  have hsz := HB4.out.size
  rw [HS.out] at hsz
  have hT4 := HT4.out
  rw [HS.out] at hT4
  have hb7 : Below w.heap.size w w' := HB.out.trans (HB4.out.mono (by rw [HS.out]; omega))
  refine bodyPost_ret (v := .agg #[.bool lf4, .slice PA4 np4 pc4, .slice TA4 nt4 tc4, .slice KA4 nk4 kc4]) (by simp [results, Try.results70, go_sem, t0, t1, t2, t3]) rfl ⟨_, rfl, (hT4.keep (by simp) (fun b h1 _ => ?_)).base (by omega), ?_⟩
  · have hne : b ≠ w.heap.size + 1 := by omega
    iterate 4 rw [Below.heap_setCell _ _ _ _ (by simpa using hne)]
  · exact (((hb7.setCell (by show _ ≤ w.heap.size + 1; omega) _).setCell (by show _ ≤ w.heap.size + 1; omega) _).setCell (by show _ ≤ w.heap.size + 1; omega) _).setCell (by show _ ≤ w.heap.size + 1; omega) _

end Go.Proofs.Ytmglnjmnabjjgaa

namespace Go.Proofs.Ytmglnjmnabjjgaa
open Go.RowKit
open Go.WideShapes (add_plain)

/-- A list that is made anew, its row its own. -/
def NewVO (t : TypeId) (size n : Nat) (xs : List Value) (w : World) (e : Ending) (w' : World) : Prop :=
  ∃ A c, e = .returned (.slice A n c) ∧ VP (fun b => w.heap.size ≤ b ∧ b < w'.heap.size) w' A xs ∧ Below w.heap.size w w' ∧ n ≤ c ∧ w'.ownsRow w.heap.size t size (.slice A n c) n xs
set_option maxRecDepth 4000 in
set_option maxHeartbeats 1000000 in
theorem r3copyO_any (A : Option Addr) (l : List Int) (n c : Nat) (w : World) (hn : l.length = n) (hl : n ≤ 35184372088832) (hp : VL w w.heap.size A (rv l)) :
    Calls Try.prog 65 #[.slice A n c] w (NewVO 21 1 n (rv l) w) := by
  have HP := hd hp
  have HN := hd hn
  clear hp hn
  go_enter Try.func65, Try.ntmps65
  go_wp2_with (at_builtin; refine wpList_append_nilG runeG w rfl _ _ rfl rfl A n c w.heap.size (rv l) rfl (by rw [rv_len, HN.out, Nat.mul_one]) HP.out (rv_one l) (by unfold maxLen; omega) (by omega) ?_; intro A' c' w1 ho1 hg1)
  go_ret
  exact ⟨A', c', rfl, own_vp ho1, grown_none hg1, own_cap ho1, ho1⟩
def OutNO (w : World) (lf : Bool) (ps : List Pr) (tx : List Int) (kids : Value) (s4 : Value) (wx : World) : Prop :=
  ∃ (gO : Nat) (gp : Option Addr) (cp : Nat) (gt : Option Addr) (ct : Nat), s4 = .pointer (some ⟨gO, 0, none⟩) ∧ Below w.heap.size w wx ∧ wx.heap[w.heap.size + 1]? = some (.cells #[.bool false, .slice none 0 0, .slice none 0 0, .slice none 0 0] 26) ∧ w.heap.size + 2 ≤ gO ∧ wx.cell? ⟨w.heap.size, 3, none⟩ = some kids ∧
    wx.heap[gO]? = some (.cells #[.bool lf, .slice gp ps.length cp, .slice gt tx.length ct, .slice none 0 0] 26 (0, 0)) ∧
    VP (fun b => w.heap.size + 2 ≤ b ∧ b < wx.heap.size ∧ b ≠ gO) wx gp (pv ps) ∧ VP (fun b => w.heap.size + 2 ≤ b ∧ b < wx.heap.size ∧ b ≠ gO) wx gt (rv tx) ∧ ps.length ≤ cp ∧ tx.length ≤ ct ∧ PT wx (w.heap.size + 2) gp cp gt ct ps tx
set_option maxRecDepth 4000 in
theorem outN_out {w : World} {lf : Bool} {ps : List Pr} {tx : List Int} {kids s4 : Value} {wx w3 : World} {gO : Nat} {gp : Option Addr} {cp : Nat} {gt : Option Addr} {ct : Nat} {k0 : Value} {fr : Nat × Nat} (h : OutN w lf ps tx kids s4 wx) (e : s4 = .pointer (some ⟨gO, 0, none⟩)) (hO : wx.heap[gO]? = some (.cells #[.bool lf, .slice gp ps.length cp, .slice gt tx.length ct, k0] 26 fr)) (hpt : PT w3 (w.heap.size + 2) gp cp gt ct ps tx) (hk : KeepN w3 wx) : OutNO w lf ps tx kids s4 wx := by
  obtain ⟨gO', gp', cp', gt', ct', e', h2, h3, h4, h5, h6, h7, h8, h9, h10⟩ := h
  have eO : gO' = gO := by rw [e] at e'; injection e' with e'; injection e' with e'; injection e' with e'; exact e'.symm
  subst eO
  rw [hO] at h6
  simp only [Option.some.injEq, Obj.cells.injEq, Array.mk.injEq, List.cons.injEq, Value.slice.injEq, and_true, true_and] at h6
  obtain ⟨⟨⟨e1, e2⟩, ⟨e3, e4⟩, e5⟩, e6⟩ := h6
  subst e1 e2 e3 e4 e5 e6
  exact ⟨_, _, _, _, _, e, h2, h3, h4, h5, hO, h7, h8, h9, h10, hpt.keep hk⟩
set_option maxRecDepth 4000 in
theorem ptN_two {w W W' w2 w3 : World} {ps : List Pr} {tx : List Int} {gp : Option Addr} {cp : Nat} {gt : Option Addr} {ct : Nat} (op : w2.ownsRow W.heap.size 74 2 (.slice gp ps.length cp) ps.length (pv ps)) (ot : w3.ownsRow W'.heap.size 21 1 (.slice gt tx.length ct) tx.length (rv tx)) (hb : Below w2.heap.size w2 w3) (hW : w.heap.size + 2 ≤ W.heap.size) (hW' : w.heap.size + 2 ≤ W'.heap.size) : PT w3 (w.heap.size + 2) gp cp gt ct ps tx :=
  ⟨ownsRow_base (ownsRow_far2 op fun b _ hl => hb.block b hl) hW, ownsRow_base ot hW'⟩
/-- What is built, and both rows. -/
structure BuildO (P : Nat → Prop) (wb : World) (base d : Nat) (lf : Bool) (ps : List Pr) (tx : List Int) (gO : Nat) (PA : Option Addr) (pc : Nat) (TA : Option Addr) (tc : Nat) (vK : Value) (n : Nat) (us : List Value) (ks : List NT) (wr : World) : Prop where
  b : Build P wb base d lf ps tx gO PA pc TA tc vK n us ks wr
  pt : PT wr base PA pc TA tc ps tx
set_option maxRecDepth 4000 in
theorem own_node {w : World} {base : Nat} {size n : Nat} {v : Value} {xs : List Value} (h : w.ownsRow base 26 size v n xs) {g : Nat} (hg : v.ownBlock = some g) : ∃ cs fr, w.heap[g]? = some (.cells cs 26 fr) := by
  rcases h.2 with ⟨e, _⟩ | ⟨g', cap, cur, e, _, hh, _⟩
  · rw [e] at hg; cases hg
  · rw [e] at hg
    injection hg with hg
    exact ⟨cur, (0, 0), hg ▸ hh⟩
set_option maxRecDepth 4000 in
theorem buildO_step {P : Nat → Prop} {wb wr w4 w6 : World} {base d : Nat} {lf : Bool} {ps : List Pr} {tx : List Int} {gO : Nat} {PA : Option Addr} {pc : Nat} {TA : Option Addr} {tc : Nat} {vK vK6 : Value} {n n6 : Nat} {us us6 : List Value} {ks ks6 : List NT} {o o1 : Obj} {x : Value}
    (h : BuildO P wb base d lf ps tx gO PA pc TA tc vK n us ks wr) (hb4 : Below (wr.alloc o).drew.heap.size (wr.alloc o).drew w4) (hgrow : (w4.alloc o1).grownBy w6 vK.ownBlock) (hst : Build P wb base d lf ps tx gO PA pc TA tc vK6 n6 us6 ks6 (w6.setCell ⟨gO, 3, none⟩ x)) : BuildO P wb base d lf ps tx gO PA pc TA tc vK6 n6 us6 ks6 (w6.setCell ⟨gO, 3, none⟩ x) := by
  refine ⟨hst, h.pt.keep fun b hb hn => ?_⟩
  obtain ⟨hs4, hbl4⟩ := call_row hb4
  have e5 : (w4.alloc o1).heap.size = w4.heap.size + 1 := sz1
  have hne : b ≠ gO := fun e => hn _ _ (e ▸ h.b.out)
  rw [Below.heap_setCell _ _ _ _ (by simpa using hne), hgrow.block b (by rw [e5]; omega) (by intro e; obtain ⟨cs, fr, h1⟩ := own_node h.b.row e.symm; exact hn _ _ h1), Below.heap_alloc _ _ _ (by omega), hbl4 b hb]
set_option maxRecDepth 4000 in
theorem buildO_end {P : Nat → Prop} {wb wr w7 : World} {base d : Nat} {lf : Bool} {ps : List Pr} {tx : List Int} {gO : Nat} {PA : Option Addr} {pc : Nat} {TA : Option Addr} {tc : Nat} {A : Option Addr} {cap : Nat} {n : Nat} {us : List Value} {ks : List NT}
    (hh : BuildO P wb base d lf ps tx gO PA pc TA tc (.slice A n cap) n us ks wr) (hP : ∀ b, P b → base ≤ b) (hf : Wide ps ∧ ps.length ≤ 4398046511104 ∧ tx.length ≤ 35184372088832 ∧ ks.length ≤ 1759218604441 ∧ ps.length ≤ pc ∧ tx.length ≤ tc) (hs : wr.heap.size ≤ w7.heap.size) (h7 : ∀ b, base ≤ b → b < wr.heap.size → w7.heap[b]? = wr.heap[b]?) :
    TopO base d w7 (.agg #[.bool lf, .slice PA ps.length pc, .slice TA tx.length tc, .slice A n cap]) (.mk lf ps tx ks) := by
  have h := hh.b
  have hrow := ownsRow_far2 h.row h7
  have hn : ks.length = n := h.num
  have hob : (Value.slice A 0 0).ownBlock = (Value.slice A n cap).ownBlock := by cases A <;> rfl
  refine ⟨PA, pc, TA, tc, A, cap, us, by rw [← hn]; rfl, ownsRow_far2 hh.pt.p h7, ownsRow_far2 hh.pt.t h7, ?_, ⟨hf.1, hf.2.1, hf.2.2.1, hf.2.2.2.1, hf.2.2.2.2.1, hf.2.2.2.2.2, ?_⟩, h.len.trans hn.symm, fun j m hm => ?_⟩
  · show w7.ownsRow base _ 4 (.slice A ks.length cap) ks.length _
    rw [hn]; exact hrow
  · show ks.length ≤ cap
    rw [hn]; exact own_cap hrow
  · obtain ⟨u, hu, ht⟩ := h.kids j m hm
    exact ⟨u, hu, ht.keep (fun b hb => ⟨hP b hb.1, by have := hb.2.1; omega, by rw [hob]; exact hb.2.2.2⟩) (fun p hp => ⟨World.cell?_of_block (h7 _ (hP _ hp.1) hp.2.1), World.frozen?_of_block (h7 _ (hP _ hp.1) hp.2.1)⟩)⟩

set_option maxRecDepth 100000 in
set_option maxHeartbeats 8000000 in
theorem rncopyO_any : ∀ (d : Nat) (w : World) (v : Value) (n : NT), NodeAt d w w.heap.size v n → Calls Try.prog 50 #[v] w (CopiedO (d - 1) n w) := by
  intro d
  induction d with
  | zero => intro w v n h; exact h.elim
  | succ d ih =>
    have ih2 : ∀ (w : World) (v : Value) (n : NT), NodeAt d w w.heap.size v n → Calls Try.prog 50 #[v] w (Copied d n w) := by
      intro w v n h2
      cases d with
      | zero => exact h2.elim
      | succ d0 => exact (ih w v n h2).mono fun e w' hh => hh.copied
    clear ih
    intro w v n hn
    obtain ⟨d1, lf, ps, tx, ks, PA, pc, TA, tc, KA, kc, hd1, rfl, rfl, hp, ht, hf, hks⟩ := hn.open_
    obtain rfl : d = d1 := by omega
    obtain ⟨wb, hwb⟩ : ∃ wb, wb = (w.alloc (.cells #[.bool lf, .slice PA ps.length pc, .slice TA tx.length tc, .slice KA ks.length kc] 26)).alloc (.cells #[.bool false, .slice none 0 0, .slice none 0 0, .slice none 0 0] 26) := ⟨_, rfl⟩
    have hb1 : Below w.heap.size w wb := hwb ▸ below_mono2 (Below.refl _ _) (Nat.le_refl _)
    have X := (Box.new w (.bool lf) (.slice PA ps.length pc) (.slice TA tx.length tc) (.slice KA ks.length kc) 26).alloc (.cells #[.bool false, .slice none 0 0, .slice none 0 0, .slice none 0 0] 26)
    rw [← hwb] at X
    have hsb : wb.heap.size = w.heap.size + 2 := by rw [hwb]; simp
    have HP := hd hp
    have HT := hd ht
    have HKS := hd hks
    have HF := hd hf
    have HB := hd hb1
    have HX := hd X
    have HSB := hd hsb
    have HRES := hd (show wb.heap[w.heap.size + 1]? = some (.cells #[.bool false, .slice none 0 0, .slice none 0 0, .slice none 0 0] 26) by rw [hwb, ← sz1 (w := w) (A := (.cells #[.bool lf, .slice PA ps.length pc, .slice TA tx.length tc, .slice KA ks.length kc] 26))]; exact heap_alloc_new _ _)
    have hl1 := hf.2.1
    have hl2 := hf.2.2.1
    have hl3 := hf.2.2.2.1
    obtain ⟨x0, x1, x2, x3⟩ := X
    subst hwb
    clear hn hp ht hf hks hd1 hb1 hsb
    go_enter Try.func50, Try.ntmps50
    go_wp2_with fail
    have HPV := fun (w' : World) (hb0 : Below ((w.alloc (.cells #[.bool lf, .slice PA ps.length pc, .slice TA tx.length tc, .slice KA ks.length kc] 26)).alloc (.cells #[.bool false, .slice none 0 0, .slice none 0 0, .slice none 0 0] 26)).heap.size ((w.alloc (.cells #[.bool lf, .slice PA ps.length pc, .slice TA tx.length tc, .slice KA ks.length kc] 26)).alloc (.cells #[.bool false, .slice none 0 0, .slice none 0 0, .slice none 0 0] 26)) w') => hd (HP.out.vl.below (HB.out.trans (hb0.mono HB.out.size)))
    have HTV := fun (w' : World) (hb0 : Below ((w.alloc (.cells #[.bool lf, .slice PA ps.length pc, .slice TA tx.length tc, .slice KA ks.length kc] 26)).alloc (.cells #[.bool false, .slice none 0 0, .slice none 0 0, .slice none 0 0] 26)).heap.size ((w.alloc (.cells #[.bool lf, .slice PA ps.length pc, .slice TA tx.length tc, .slice KA ks.length kc] 26)).alloc (.cells #[.bool false, .slice none 0 0, .slice none 0 0, .slice none 0 0] 26)) w') => hd (r3copyO_any TA tx tx.length tc w' rfl (by omega) (HT.out.later (HB.out.trans (hb0.mono HB.out.size))))
    go_upto_region 1 with fail
    go_cut [3] (fun s3 wx => OutNO w lf ps tx (.slice KA ks.length kc) s3 wx)
    case first =>
      go_region_held3 (fun w' => Below ((w.alloc (.cells #[.bool lf, .slice PA ps.length pc, .slice TA tx.length tc, .slice KA ks.length kc] 26)).alloc (.cells #[.bool false, .slice none 0 0, .slice none 0 0, .slice none 0 0] 26)).heap.size ((w.alloc (.cells #[.bool lf, .slice PA ps.length pc, .slice TA tx.length tc, .slice KA ks.length kc] 26)).alloc (.cells #[.bool false, .slice none 0 0, .slice none 0 0, .slice none 0 0] 26)) w' ∧ w'.cell? ⟨w.heap.size, 0, none⟩ = some (.bool lf) ∧ w'.cell? ⟨w.heap.size, 1, none⟩ = some (.slice PA ps.length pc) ∧ w'.cell? ⟨w.heap.size, 2, none⟩ = some (.slice TA tx.length tc) ∧ w'.cell? ⟨w.heap.size, 3, none⟩ = some (.slice KA ks.length kc))
        (first
          | assumption
          | exact ⟨(Below.refl _ _).drew, x0, x1, x2, x3⟩
          | exact keepS ‹_› ((Below.refl _ _).alloc (Nat.le_refl _) _)
          | exact keepSet ‹_› (by simp; omega) (by first | exact hS2.1.size | simp))
        (first
          | (go_at_call 65; refine Calls.mono (HTV _ ?hh).out ?_; (case hh => (go_split_ands; assumption)); intro e w3 h3; obtain ⟨gt, ct, rfl, vt, b3, hct, ot3⟩ := h3; have HOT := hd ot3; clear ot3; have hS3 := keepS ‹_› b3; have HVT := hd vt; (first | (have hOc := hd (keepBlk hOa.out b3)) | (have hOc := hd (newBlk3 (w := w) (Z := (.cells #[.bool false, .slice none 0 0, .slice none 0 0, .slice none 0 0] 26)) b3)) | (have hOc := hd (newBlk (W0 := w2) (o := (.cells #[.bool false, .slice none 0 0, .slice none 0 0, .slice none 0 0] 26)) b3 (g := w2.heap.size) rfl)) | skip); (first | (have hqc := blkCells hOc.out; obtain ⟨c0, c1, c2, c3, c4, c5, c6, c7⟩ := hqc) | skip))
          | (refine step_append_nilG propG _ rfl _ _ rfl rfl PA ps.length pc w.heap.size (pv ps) rfl (by rw [pv_len]) (HPV _ (by go_split_ands; assumption)).out (pv_one ps) (by unfold maxLen; omega) (by omega) ?_; intro gp cp w2 ho2 hg2; have b2 := grown_none hg2; have hS2 := keepS ‹_› b2; have HVP := hd (own_vp ho2); have HOP := hd ho2; have hcp := own_cap ho2; (first | (have hOa := hd (keepBlk hOc.out b2)) | (have hOa := hd (newBlk3 (w := w) (Z := (.cells #[.bool false, .slice none 0 0, .slice none 0 0, .slice none 0 0] 26)) b2)) | (have hOa := hd (newBlk (W0 := w3) (o := (.cells #[.bool false, .slice none 0 0, .slice none 0 0, .slice none 0 0] 26)) b2 (g := w3.heap.size) rfl)) | skip); (first | (have hqa := blkCells hOa.out; obtain ⟨a0, a1, a2, a3, a4, a5, a6, a7⟩ := hqa) | skip)))
      · go_wp2_with fail
        go_meet
        exact outN_out (w3 := w3) (outN_new hcp hct HB.out HRES.out hS3 HVP.out HVT.out b3 (by rw [sz2]; exact Nat.le_refl _) (by have h := b2.size; rw [sz2] at h; omega) (by have h := b2.size; rw [sz2] at h; have := b3.size; omega)) rfl (heap_alloc_new _ _) (ptN_two HOP.out HOT.out b3 (by rw [sz2]; exact Nat.le_refl _) (by have h := b2.size; rw [sz2] at h; omega)) (KeepN.of_below ((Below.refl _ _).alloc (Nat.le_refl _) _))
      · go_wp2_with fail
        go_meet
        exact outN_out (w3 := w3) (outN_set hcp hct HB.out HRES.out hS3 HVP.out HVT.out (ex_below b3) hOc.out (by have h := b2.size; rw [sz2] at h; omega) (by rw [sz2]; exact Nat.le_refl _) (by rw [sz1]; have h := b2.size; rw [sz2] at h; omega) (fun b _ h => by omega) (fun b h => by rw [sz1] at h; omega)) rfl (set4_block hOc.out) (ptN_two HOP.out HOT.out (ex_below b3) (by rw [sz2]; exact Nat.le_refl _) (by rw [sz1]; have h := b2.size; rw [sz2] at h; omega)) (keepN_set4 hOc.out)
      · go_wp2_with fail
        go_meet
        exact outN_out (w3 := w3) (outN_set hcp hct HB.out HRES.out hS3 HVP.out HVT.out b3 hOc.out (by omega) (by rw [sz3]; omega) (by have h := b2.size; rw [sz3] at h; omega) (fun b h _ => by rw [sz3] at h; omega) (fun b h => by have h2 := b2.size; rw [sz3] at h2; omega)) rfl (set4_block hOc.out) (ptN_two HOP.out HOT.out b3 (by rw [sz3]; omega) (by have h := b2.size; rw [sz3] at h; omega)) (keepN_set4 hOc.out)
    case rest =>
      obtain ⟨gO, gp, cp, gt, ct, rfl, HB4, hr4, hgO, k3, hO, HVP, HVT, hcp, hct, hpt⟩ := hcut
      have hb0 := build_start (P := fun b => w.heap.size + 2 ≤ b) (d := d) (base := w.heap.size + 2) (by have := HB4.size; have := cell_in k3; have := lt_of_block hr4; simp at *; omega) hgO (fun _ h => h) hO (HVP.keep (fun _ h => h) (fun _ _ => ⟨rfl, rfl⟩)) (HVT.keep (fun _ h => h) (fun _ _ => ⟨rfl, rfl⟩))
      have HBB := hd (show BuildO (fun b => w.heap.size + 2 ≤ b) wc (w.heap.size + 2) d lf ps tx gO gp cp gt ct (.slice none 0 0) 0 [] [] wc from ⟨hb0, hpt⟩)
      clear hpt
      have HB5 := hd HB4
      have HR5 := hd hr4
      have HK5 := hd k3
      clear hO HVP HVT HB4 hr4 x0 x1 x2 x3 HX HB HP HT HPV HTV HRES HSB hb0
      go_wp2_with fail
      clear k3
      go_loopw [18] (fun i wr => ∃ (k : Nat) (vK : Value) (us : List Value), k ≤ ks.length ∧ i = .int .i64 k ∧ Hid (BuildO (fun b => w.heap.size + 2 ≤ b) wc (w.heap.size + 2) d lf ps tx gO gp cp gt ct vK k us (ks.take k) wr)) (fun i _ => ks.length - (intOf i).toNat)
      case atStart => exact ⟨0, _, _, Nat.zero_le _, rfl, HBB⟩
      case round =>
        obtain ⟨k, vK, us, hk, rfl, HL⟩ := hrel
        clear HBB
        have hbr := HB5.out.trans (HL.out.b.below.mono (by omega))
        by_cases hlt : k < ks.length
        · obtain ⟨m, b, o, lf1, PA1, np1, pc1, TA1, nt1, tc1, KA1, nk1, kc1, hm, rfl, hbg, hnm, c0, c1, c2, c3⟩ := (HKS.out.below hbr).at_ hlt
          have hsz := hbr.size
          have hOr := HL.out.b.out
          have hOlt := lt_of_block hOr
          have HM := hd hm
          obtain ⟨A, cap, rfl, hkc, hcm, _⟩ := own_free HL.out.b.row
          obtain ⟨p0, p1, p2, p3, g0, g1, g2, g3⟩ := blkCells hOr
          obtain ⟨wk, hwk⟩ : ∃ wk, wk = (wr.alloc (.cells #[.bool lf1, .slice PA1 np1 pc1, .slice TA1 nt1 tc1, .slice KA1 nk1 kc1] 26)).drew := ⟨_, rfl⟩
          have hbk : Below wr.heap.size wr wk := hwk ▸ ((Below.refl _ _).alloc (Nat.le_refl _) _).drew
          have HC := hd (ih2 wk _ m (((hnm.more hsz).below hbk).more hbk.size))
          have HBK := hd hbk
          have hgkO := HL.out.b.apart
          have hbs := HL.out.b.bs
          have hbl := HL.out.b.below.size
          have HTK := hd (take_one hm)
          obtain ⟨i0, hi, hz0, hz1, hz2⟩ := info_parts nodeInfo
          subst hwk
          clear hnm hbk hm hOr hbr
          go_upto_block 1 with fail
          go_cut [18] (fun s wx => s = .int .i64 k ∧ ∃ (vK6 : Value) (us6 : List Value), Hid (BuildO (fun b => w.heap.size + 2 ≤ b) wc (w.heap.size + 2) d lf ps tx gO gp cp gt ct vK6 (k + 1) us6 (ks.take (k + 1)) wx))
          case first =>
            go_wp2_with fail
            go_region_law (first
                | ((go_simp; go_at_call 50; refine HC.out.mono ?_; intro e w4 h4; obtain ⟨v4, rfl, ht4, hb4⟩ := h4; obtain ⟨lf4, PA4, np4, pc4, TA4, nt4, tc4, KA4, nk4, kc4, rfl⟩ := (ht4.at_ (B := w4.heap.size) (fun b hb => hb.2)).val; obtain ⟨hs4, hbl4⟩ := call_row hb4; have hO4 := hd ((hbl4 gO hOlt).trans HL.out.b.out); obtain ⟨r0, r1, r2, r3, r4, r5, r6, r7⟩ := blkCells hO4.out; have hOl4 : gO < w4.heap.size := (by omega); have hrow4 := hd (ownsRow_far HL.out.b.row hbl4); have HBL4 := hd hbl4; clear hbl4; have HB4 := hd hb4; have HT4 := hd ht4; clear ht4 hb4))
                | ((refine step_append_lies _ (by rfl) (.tmp 23) (.tmp 26) _ (by rfl) (w.heap.size + 2) 26 i0 _ 4 80 Try.underlying24 hi hz0 hz1 hz2 rfl (by omega) (.slice A k cap) k (us.flatMap fun u => u.cells.toList) (by first | rfl | simp [Act.eval]) (hrow4.out.alloc _) ⟨w4.heap.size, 0, none⟩ 1 1 [.bool lf4, .slice PA4 np4 pc4, .slice TA4 nt4 tc4, .slice KA4 nk4 kc4] (by first | rfl | simp [Act.eval]) (by rfl) (World.news_of_block (cs := #[.bool lf4, .slice PA4 np4 pc4, .slice TA4 nt4 tc4, .slice KA4 nk4 kc4]) (t := 26) (fr := (0, 0)) (heap_alloc_new w4 _)) (by simp [Value.oneCell']) (by omega) (by unfold maxLen; omega) (by omega) (by simp; omega) (w4.heap.size + 1) (by simp) ?_; intro g6 cap6 w6 hown6 hgrow6 hat6 hlt6; have hO6 := hd (app_far hgrow6 hO4.out hgkO); obtain ⟨s0, s1, s2, s3, s4, s5, s6, s7⟩ := blkCells hO6.out; have hOl6 := lt_of_block hO6.out)))
            all_goals
              have hst := build_step HL.out.b HBK.out HB4.out HT4.out hgrow6 hown6 hat6
              rw [← HTK.out] at hst
              have HST := hd (buildO_step HL.out HB4.out hgrow6 hst)
              clear hst
              clear hgrow6 hown6 hat6 s0 s1 s2 s3 s4 s5 s6 s7 r0 r1 r2 r3 r4 r5 r6 r7 hrow4 hO4 hO6 HBL4 HB4 HT4 p0 p1 p2 p3 g0 g1 g2 g3 c0 c1 c2 c3
              go_wp2_with fail
              go_meet
              exact ⟨rfl, _, _, HST⟩
          case rest =>
            obtain ⟨rfl, vK6, us6, HST⟩ := hcut
            clear p0 p1 p2 p3 g0 g1 g2 g3 c0 c1 c2 c3
            go_wp2
            go_roundw
            case rel => exact ⟨k + 1, vK6, us6, by omega, by go_num, HST⟩
            case measure => simp [intOf]; omega
        · obtain rfl : k = ks.length := by omega
          have hO8 := HL.out.b.out
          have hO8l := lt_of_block hO8
          obtain ⟨A, cap, rfl, _⟩ := own_free HL.out.b.row
          obtain ⟨p0, p1, p2, p3, _, _, _, _⟩ := blkCells hO8
          clear hO8
          have hres : wr.heap[w.heap.size + 1]? = some (.cells #[.bool false, .slice none 0 0, .slice none 0 0, .slice none 0 0] 26) := (HL.out.b.below.block _ (by omega)).trans HR5.out
          obtain ⟨q0, q1, q2, q3, q4, q5, q6, q7⟩ := blkCells hres
          have HRS := hd hres
          have HBR := hd hbr
          clear hres hbr
          go_wp2
          have h7 := set4_block (a := .bool lf) (b := .slice gp ps.length cp) (c := .slice gt tx.length ct) (d := .slice A ks.length cap) HRS.out
          obtain ⟨t0, t1, t2, t3, _, _, _, _⟩ := blkCells h7
          have hend := fun w7 hs h7 => buildO_end (w7 := w7) HL.out (fun _ h => h) (by rw [List.take_length]; exact ⟨HF.out.1, HF.out.2.1, HF.out.2.2.1, HF.out.2.2.2.1, hcp, hct⟩) hs h7
          rw [List.take_length] at hend
          refine bodyPost_ret (v := .agg #[.bool lf, .slice gp ps.length cp, .slice gt tx.length ct, .slice A ks.length cap]) (by simp [results, Try.results50, go_sem, t0, t1, t2, t3]) rfl ⟨_, rfl, (hend _ (by simp) (fun b hb _ => ?_)).base (by omega), ?_⟩
          · iterate 4 rw [Below.heap_setCell _ _ _ _ (by show _ ≠ w.heap.size + 1; omega)]
          · exact (((HBR.out.setCell (by show _ ≤ w.heap.size + 1; omega) _).setCell (by show _ ≤ w.heap.size + 1; omega) _).setCell (by show _ ≤ w.heap.size + 1; omega) _).setCell (by show _ ≤ w.heap.size + 1; omega) _

end Go.Proofs.Ytmglnjmnabjjgaa
