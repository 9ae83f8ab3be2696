/- The document's Put. -/
import Derived.Test.YtggapngibkeodaaTTight
namespace Go.Proofs.Ytggapngibkeodaa
open Go.RowKit

theorem Below.row4 {B gk q : Nat} {w0 w : World} {c0 c1 c2 c3 : Value} (h : Below B w0 w) (hg : B ≤ gk) : Below B w0 ((((w.setCell ⟨gk, q, none⟩ c0).setCell ⟨gk, q + 1, none⟩ c1).setCell ⟨gk, q + 2, none⟩ c2).setCell ⟨gk, q + 3, none⟩ c3) :=
  (((h.setCell (by show B ≤ gk; exact hg) _).setCell (by show B ≤ gk; exact hg) _).setCell (by show B ≤ gk; exact hg) _).setCell (by show B ≤ gk; exact hg) _
theorem row4_size {w : World} {gk q : Nat} {c0 c1 c2 c3 : Value} : ((((w.setCell ⟨gk, q, none⟩ c0).setCell ⟨gk, q + 1, none⟩ c1).setCell ⟨gk, q + 2, none⟩ c2).setCell ⟨gk, q + 3, none⟩ c3).heap.size = w.heap.size := by simp

set_option maxRecDepth 100000 in
set_option maxHeartbeats 8000000 in
theorem rput_any :
    ∀ (p : List Int) (d dm : Nat) (w : World) (v u : Value) (n m : NT) (A : Option Addr) (lp c : Nat), p.length = lp → lp ≤ 1000000 → lp ≤ c → NodeAt d w w.heap.size v n → NodeAt dm w w.heap.size u m → IL w w.heap.size A p →
      Calls Try.prog 15 #[v, .slice A lp c, u] w (NewN (putE n p m) w) := by
  intro p
  induction p with
  | nil =>
    intro d dm w v u n m A lp c hlp hl hc hn hm hp
    obtain rfl : lp = 0 := hlp.symm
    obtain ⟨lf, PA, np, pc, TA, nt, tc, KA, nk, kc, rfl⟩ := hn.val
    obtain ⟨lf1, PA1, np1, pc1, TA1, nt1, tc1, KA1, nk1, kc1, rfl⟩ := hm.val
    obtain ⟨wb, hwb⟩ : ∃ wb, wb = ((w.alloc (.cells #[.bool lf, .slice PA np pc, .slice TA nt tc, .slice KA nk kc] 26)).alloc (.cells #[.bool lf1, .slice PA1 np1 pc1, .slice TA1 nt1 tc1, .slice KA1 nk1 kc1] 26)).alloc (.cells #[.bool false, .slice none 0 0, .slice none 0 0, .slice none 0 0] 26) := ⟨_, rfl⟩
    have hb0 : Below w.heap.size w wb := hwb ▸ (below_mono2 (Below.refl _ _) (Nat.le_refl _)).alloc (by simp; omega) _
    have hsb : wb.heap.size = w.heap.size + 3 := by rw [hwb]; simp
    have hmb : wb.heap[w.heap.size + 1]? = some (.cells #[.bool lf1, .slice PA1 np1 pc1, .slice TA1 nt1 tc1, .slice KA1 nk1 kc1] 26 (0, 0)) := by
      rw [hwb, Below.heap_alloc _ _ _ (by simp)]; exact (two_boxes w _ _ _ _ _ _ _ _ _ _).2
    have hrb : wb.heap[w.heap.size + 2]? = some (.cells #[.bool false, .slice none 0 0, .slice none 0 0, .slice none 0 0] 26 (0, 0)) := by
      rw [hwb]
      have e : ∀ (A B : Obj), w.heap.size + 2 = ((w.alloc A).alloc B).heap.size := fun A B => by simp
      rw [e]; exact heap_alloc_new _ _
    have HC := hd (rncopy_any dm wb _ m (hm.later hb0))
    have HB := hd hb0
    have HS := hd hsb
    have HRB := hd hrb
    obtain ⟨y0, y1, y2, y3, -⟩ := blkCells hmb
    clear hn hm hp hb0 hsb hmb hrb hlp
    go_enter Try.func15, Try.ntmps15
    subst hwb
    go_wp2_with (first | (go_at_call 11; refine HC.out.mono ?_; intro e w1 h1; obtain ⟨v1, rfl, ht1, hb1⟩ := h1.copied; obtain ⟨lf4, PA4, np4, pc4, TA4, nt4, tc4, KA4, nk4, kc4, rfl⟩ := (ht1.at_ (B := w1.heap.size) (fun b hb => hb.2)).val; have HR1 := hd (keepBlk HRB.out hb1); obtain ⟨r0, r1, r2, r3, r4, r5, r6, r7⟩ := blkCells HR1.out; have HT1 := hd ht1; have HB1 := hd hb1; have hz1 := hb1.size; rw [HS.out] at hz1; clear ht1 hb1 h1))
    have h7 := set4_block (a := .bool lf4) (b := .slice PA4 np4 pc4) (c := .slice TA4 nt4 tc4) (d := .slice KA4 nk4 kc4) HR1.out
    obtain ⟨t0, t1, t2, t3, -⟩ := blkCells h7
    have hS := HS.out
    have hW : Below w.heap.size w w1 := HB.out.trans (HB1.out.mono (by omega))
    exact bodyPost_ret (v := .tuple #[.agg #[.bool lf4, .slice PA4 np4 pc4, .slice TA4 nt4 tc4, .slice KA4 nk4 kc4], .int .i64 0]) (by simp [results, Try.results15, go_sem, t0, t1, t2, t3]) rfl (newN_ret (r := putE n [] m) rfl (HT1.out.block_keep (fun b h1 h2 => by rw [set4_size]; omega) (fun b h1 h2 => set4_other (by omega))) (Below.set4 hW (by omega)))
  | cons i r ih =>
    intro d dm w v u n m A lp c hlp hl hc hn hm hp
    obtain ⟨k, rfl⟩ : ∃ k, lp = k + 1 := ⟨r.length, by rw [← hlp]; simp⟩
    have hrk : r.length = k := by simpa using hlp
    obtain ⟨d', lf, ps, tx, ks, PA, pc, TA, tc, KA, kc, hd', hn', rfl, hps, htx, hf, hks⟩ := hn.open_
    obtain ⟨lf1, PA1, np1, pc1, TA1, nt1, tc1, KA1, nk1, kc1, rfl⟩ := hm.val
    obtain ⟨wb, hwb⟩ : ∃ wb, wb = ((w.alloc (.cells #[.bool lf, .slice PA ps.length pc, .slice TA tx.length tc, .slice KA ks.length kc] 26)).alloc (.cells #[.bool lf1, .slice PA1 np1 pc1, .slice TA1 nt1 tc1, .slice KA1 nk1 kc1] 26)).alloc (.cells #[.bool false, .slice none 0 0, .slice none 0 0, .slice none 0 0] 26) := ⟨_, rfl⟩
    have hb0 : Below w.heap.size w wb := hwb ▸ (below_mono2 (Below.refl _ _) (Nat.le_refl _)).alloc (by simp; omega) _
    have hsb : wb.heap.size = w.heap.size + 3 := by rw [hwb]; simp
    have hnb : wb.heap[w.heap.size]? = some (.cells #[.bool lf, .slice PA ps.length pc, .slice TA tx.length tc, .slice KA ks.length kc] 26 (0, 0)) := by
      rw [hwb, Below.heap_alloc _ _ _ (by simp; omega)]; exact (two_boxes w _ _ _ _ _ _ _ _ _ _).1
    have hmb : wb.heap[w.heap.size + 1]? = some (.cells #[.bool lf1, .slice PA1 np1 pc1, .slice TA1 nt1 tc1, .slice KA1 nk1 kc1] 26 (0, 0)) := by
      rw [hwb, Below.heap_alloc _ _ _ (by simp)]; exact (two_boxes w _ _ _ _ _ _ _ _ _ _).2
    have hrb : wb.heap[w.heap.size + 2]? = some (.cells #[.bool false, .slice none 0 0, .slice none 0 0, .slice none 0 0] 26 (0, 0)) := by
      rw [hwb]
      have e : ∀ (A B : Obj), w.heap.size + 2 = ((w.alloc A).alloc B).heap.size := fun A B => by simp
      rw [e]; exact heap_alloc_new _ _
    have hz : ((k : Int) + 1 == 0) = false := by simp; omega
    obtain ⟨b, o, rfl, hbl, hc0⟩ := hp.at_ (k := 0) (by simp)
    have e0 : iAt (i :: r) 0 = i := rfl
    rw [e0, Nat.add_zero] at hc0
    obtain ⟨D, hD, _, hrun⟩ := tailI_run (some ⟨b, o, none⟩) k c hc
    have HD := hd (hD w _ i r hp hrk)
    have hl3 := hf.2.2.2.1
    have hpc := (hb0.cell (p := ⟨b, o, none⟩) hbl).trans hc0
    have HN := hd hn
    have HM := hd hm
    have HKS := hd hks
    have HB := hd hb0
    have HS := hd hsb
    have HNB := hd hnb
    have HMB := hd hmb
    have HRB := hd hrb
    have HRK := hd hrk
    have HN' := hd hn'
    have HIH := hd ih
    obtain ⟨x0, x1, x2, x3, -⟩ := blkCells hnb
    obtain ⟨y0, y1, y2, y3, -⟩ := blkCells hmb
    obtain ⟨r0, r1, r2, r3, r4, r5, r6, r7⟩ := blkCells hrb
    have hnk : n.ks.length = ks.length := by rw [hn']; rfl
    have hcases : i < 0 ∨ 0 ≤ i ∧ (ks.length : Int) ≤ i ∨ 0 ≤ i ∧ i < ks.length := by omega
    have hS := hsb
    rcases hcases with h1 | ⟨h1, h2⟩ | ⟨h1, h2⟩
    case inl =>
      have HF := hd (show putE n (i :: r) m = (zeroT, 5) from (chg_cons_none (f := putF m) (r := r) (kid_none (n := n) (i := i) (Bool.eq_false_iff.2 fun hb => by have := hasB_iff.1 hb; omega))).1)
      have HREF := hd (Below.refl wb.heap.size wb)
      clear hn hm hps htx hf hks hd' hb0 hsb hnb hmb hrb hp hlp hD hrk hn' ih hc0 hnk
      go_enter Try.func15, Try.ntmps15
      subst hwb
      go_wp2_with fail
      go_quiet (fail)
      go_wp2
      have h7 := set4_block (a := .bool false) (b := .slice none 0 0) (c := .slice none 0 0) (d := .slice none 0 0) (keepBlk HRB.out (below_drewN HREF.out nq))
      obtain ⟨t0, t1, t2, t3, -⟩ := blkCells h7
      exact bodyPost_ret (v := .tuple #[.agg #[.bool false, .slice none 0 0, .slice none 0 0, .slice none 0 0], .int .i64 5]) (by simp [results, Try.results15, go_sem, t0, t1, t2, t3]) rfl (newN_ret HF.out (zero_tree _ 0 _) (Below.set4 (below_drewN HB.out nq) (by omega)))
    case inr.inl =>
      have HF := hd (show putE n (i :: r) m = (zeroT, 5) from (chg_cons_none (f := putF m) (r := r) (kid_none (n := n) (i := i) (Bool.eq_false_iff.2 fun hb => by have := hasB_iff.1 hb; omega))).1)
      have HREF := hd (Below.refl wb.heap.size wb)
      clear hn hm hps htx hf hks hd' hb0 hsb hnb hmb hrb hp hlp hD hrk hn' ih hc0 hnk
      go_enter Try.func15, Try.ntmps15
      subst hwb
      go_wp2_with fail
      go_quiet (fail)
      go_wp2
      have h7 := set4_block (a := .bool false) (b := .slice none 0 0) (c := .slice none 0 0) (d := .slice none 0 0) (keepBlk HRB.out (below_drewN HREF.out nq))
      obtain ⟨t0, t1, t2, t3, -⟩ := blkCells h7
      exact bodyPost_ret (v := .tuple #[.agg #[.bool false, .slice none 0 0, .slice none 0 0, .slice none 0 0], .int .i64 5]) (by simp [results, Try.results15, go_sem, t0, t1, t2, t3]) rfl (newN_ret HF.out (zero_tree _ 0 _) (Below.set4 (below_drewN HB.out nq) (by omega)))
    case inr.inr =>
      have hb1 : hasB n i = true := hasB_iff.2 ⟨h1, by rw [hnk]; exact h2⟩
      obtain ⟨kid, hkid⟩ := kid_some hb1
      obtain ⟨hk1, hk2, hk3⟩ := kid_has hkid
      have HF := hd (show putE n (i :: r) m = _ from (chg_cons_some (f := putF m) (r := r) hkid).1)
      obtain ⟨j, hj⟩ : ∃ j : Nat, i = (j : Int) := ⟨i.toNat, by omega⟩
      subst hj
      have hj1 : j < ks.length := by omega
      have HJN := hd (show j < n.ks.length by omega)
      have HNK := hd hnk
      have HK3 := hd (show ks[j]? = some kid by have := hk3; rw [hn'] at this; simpa [NT.ks] using this)
      have HREF := hd (Below.refl wb.heap.size wb)
      have HPC := hd hpc
      clear hn hm hps htx hf hks hd' hb0 hsb hnb hmb hrb hp hlp hD hrk hn' ih hc0 hnk hkid hk1 hk2 hk3 hb1
      go_enter Try.func15, Try.ntmps15
      subst hwb
      go_wp2_with fail
      go_quiet (fail)
      generalize hw2 : World.drewN _ nq = w2
      have hw2b := below_drewN HB.out nq
      have hw2c := below_drewN HREF.out nq
      rw [hw2] at hw2b hw2c
      have HB2 := hd hw2b
      have HZ2 := hd hw2c.size
      have hz2 := hw2c.size
      rw [hS] at hz2
      have HNB2 := hd (keepBlk HNB.out hw2c)
      have HMB2 := hd (keepBlk HMB.out hw2c)
      have HRB2 := hd (keepBlk HRB.out hw2c)
      have hpc2 := (hw2c.cell (cell_in HPC.out)).trans HPC.out
      clear hw2 hw2b hw2c HNB HMB HRB HB x0 x1 x2 x3 y0 y1 y2 y3 r0 r1 r2 r3 r4 r5 r6 r7 hpc HPC HREF HS hS
      obtain ⟨m2, b', o', lf2, PA2, np2, pc2, TA2, nt2, tc2, KA2, nk2, kc2, hm2, rfl, hbg2, hnm2, c0, c1, c2, c3⟩ := (HKS.out.below HB2.out).at_ hj1
      have hmk : m2 = kid := by have := HK3.out; rw [hm2] at this; injection this
      subst hmk
      have HN2 := hd hnm2
      obtain ⟨x0, x1, x2, x3, -⟩ := blkCells HNB2.out
      obtain ⟨y0, y1, y2, y3, -⟩ := blkCells HMB2.out
      clear hm2 hnm2
      have HCH := fun (w' : World) (hb : Below w2.heap.size w2 w') => hd (Calls.mono (HIH.out d' dm w' _ _ m2 m D k (c - 1) HRK.out (by omega) (by omega) ((HN2.out.below (hb.mono (by omega))).more (by have := hb.size; omega)) (HM.out.later (HB2.out.trans (hb.mono (by omega)))) ((HD.out.below (HB2.out.trans (hb.mono (by omega)))).more (by have := hb.size; omega))) (fun e w3 h => NewN.newO h (g := w.heap.size + 2) (by have := hb.size; omega)))
      obtain ⟨FR, hFR⟩ : ∃ FR, FR = putE m2 r m := ⟨_, rfl⟩
      have HFR := hd hFR
      rw [← hFR] at HCH
      clear hFR
      have HMK := hd (show ∀ W, Off (w.heap.size + 2) w2 W → (Off (w.heap.size + 2) w2 W ∧ W.cell? ⟨w.heap.size, 3, none⟩ = some (.slice (some ⟨b', o', none⟩) ks.length kc) ∧ W.cell? ⟨b, o, none⟩ = some (.int .i64 j) ∧ W.cell? ⟨b', o' + j * 4, none⟩ = some (.bool lf2) ∧ W.cell? ⟨b', o' + j * 4 + 1, none⟩ = some (.slice PA2 np2 pc2) ∧ W.cell? ⟨b', o' + j * 4 + 2, none⟩ = some (.slice TA2 nt2 tc2) ∧ W.cell? ⟨b', o' + j * 4 + 3, none⟩ = some (.slice KA2 nk2 kc2) ∧ W.cell? ⟨w.heap.size + 1, 0, none⟩ = some (.bool lf1) ∧ W.cell? ⟨w.heap.size + 1, 1, none⟩ = some (.slice PA1 np1 pc1) ∧ W.cell? ⟨w.heap.size + 1, 2, none⟩ = some (.slice TA1 nt1 tc1) ∧ W.cell? ⟨w.heap.size + 1, 3, none⟩ = some (.slice KA1 nk1 kc1)) from fun W h =>
        ⟨h, (h.cell (p := ⟨w.heap.size, 3, none⟩) (by show w.heap.size < _; omega) (by show w.heap.size ≠ w.heap.size + 2; omega)).trans x3, (h.cell (p := ⟨b, o, none⟩) (by show b < _; omega) (by show b ≠ w.heap.size + 2; omega)).trans hpc2, (h.cell (cell_in c0) (by show b' ≠ w.heap.size + 2; omega)).trans c0, (h.cell (cell_in c1) (by show b' ≠ w.heap.size + 2; omega)).trans c1, (h.cell (cell_in c2) (by show b' ≠ w.heap.size + 2; omega)).trans c2, (h.cell (cell_in c3) (by show b' ≠ w.heap.size + 2; omega)).trans c3,
          (h.cell (cell_in y0) (by show w.heap.size + 1 ≠ w.heap.size + 2; omega)).trans y0, (h.cell (cell_in y1) (by show w.heap.size + 1 ≠ w.heap.size + 2; omega)).trans y1, (h.cell (cell_in y2) (by show w.heap.size + 1 ≠ w.heap.size + 2; omega)).trans y2, (h.cell (cell_in y3) (by show w.heap.size + 1 ≠ w.heap.size + 2; omega)).trans y3⟩)
      go_upto_region 5 with fail
      go_cut [8, 9] (fun s8 s9 wx => KidAt (w.heap.size + 2) w2 FR none s8 s9 wx)
      case first =>
        go_region_held3 (fun W => Off (w.heap.size + 2) w2 W ∧ W.cell? ⟨w.heap.size, 3, none⟩ = some (.slice (some ⟨b', o', none⟩) ks.length kc) ∧ W.cell? ⟨b, o, none⟩ = some (.int .i64 j) ∧ W.cell? ⟨b', o' + j * 4, none⟩ = some (.bool lf2) ∧ W.cell? ⟨b', o' + j * 4 + 1, none⟩ = some (.slice PA2 np2 pc2) ∧ W.cell? ⟨b', o' + j * 4 + 2, none⟩ = some (.slice TA2 nt2 tc2) ∧ W.cell? ⟨b', o' + j * 4 + 3, none⟩ = some (.slice KA2 nk2 kc2) ∧ W.cell? ⟨w.heap.size + 1, 0, none⟩ = some (.bool lf1) ∧ W.cell? ⟨w.heap.size + 1, 1, none⟩ = some (.slice PA1 np1 pc1) ∧ W.cell? ⟨w.heap.size + 1, 2, none⟩ = some (.slice TA1 nt1 tc1) ∧ W.cell? ⟨w.heap.size + 1, 3, none⟩ = some (.slice KA1 nk1 kc1))
          (first
            | assumption
            | exact HMK.out _ (Off.refl _ _).drew
            | (go_split_ands; exact HMK.out _ (Off.alloc (by assumption) _))
            | (go_split_ands; exact HMK.out _ (Off.set4 (by assumption) (.inl (by first | exact Nat.le_refl _ | omega)))))
          (first
            | (go_at_call 15; refine Calls.mono (HCH _ ?hh).out ?_; (case hh => first | exact (Below.refl _ _).drew | exact ((Below.refl _ _).drew.alloc (Nat.le_refl _) _)); intro e w3 h3; obtain ⟨v3, d3, rfl, ht3, ho3, hl3'⟩ := h3; obtain ⟨lf4, PA4, np4, pc4, TA4, nt4, tc4, KA4, nk4, kc4, rfl⟩ := (ht3.at_ (B := w3.heap.size) (fun b hb => hb.2)).val; have hS3 := HMK.out w3 (Off.trans (by go_split_ands; assumption) ho3); have HT3 := hd ht3; have HO3 := hd ho3; have HL3 := hd hl3'; (first | (have hOc := hd ((ho3.block w2.heap.size (by show w2.heap.size < (World.heap _).size; simp) (by omega)).trans (heap_alloc_new (World.drew w2) _)); obtain ⟨q0, q1, q2, q3, q4, q5, q6, q7⟩ := blkCells hOc.out) | skip); have hz3 := ho3.size; clear ht3 ho3 hl3'))
        · go_wp2_with fail
          go_meet
          exact kid_new (Below.refl _ _).drew (by omega) HT3.out HO3.out HL3.out
        · go_wp2_with fail
          go_meet
          exact kid_set ((Below.refl _ _).drew.alloc (Nat.le_refl _) _) (by omega) (Nat.le_refl _) (by simp) hOc.out HT3.out HO3.out HL3.out
      case rest =>
        obtain ⟨g8, lf8, PA8, np8, pc8, TA8, nt8, tc8, KA8, nk8, kc8, d8, rfl, rfl, hg8, hO8, ht8, ho8, hl8⟩ := hcut
        obtain ⟨F1, F2⟩ := FR
        have hb8 := ho8.drop hl8
        have hz8 := hb8.size
        have HT8 := hd ht8
        have HK8 := hd hO8
        have HV8 := hd (keepBlk HNB2.out hb8)
        have HR8 := hd (keepBlk HRB2.out hb8)
        have hp8 := (hb8.cell (p := ⟨b, o, none⟩) (by show b < _; omega)).trans hpc2
        have HB8 := hd (show Below w.heap.size w wc from HB2.out.trans (hb8.mono (by omega)))
        have hlg8 := lt_of_block hO8
        clear x0 x1 x2 x3 y0 y1 y2 y3 c0 c1 c2 c3 hpc2 hO8 ht8 ho8 hl8 hb8 HMK HCH hrun
        obtain ⟨x0, x1, x2, x3, -⟩ := blkCells HV8.out
        obtain ⟨r0, r1, r2, r3, r4, r5, r6, r7⟩ := blkCells HR8.out
        obtain ⟨k0, k1, k2, k3, -⟩ := blkCells HK8.out
        rcases Classical.em (F2 = 0) with h0 | h0
        · subst h0
          have HE := hd (show putE n ((j : Int) :: r) m = (setK n j F1, 0) by rw [HF.out, show chgT (putF m) m2 r = (F1, 0) from HFR.out.symm]; rfl)
          have HC := hd (rncopy_any d wc _ n (HN.out.later HB8.out))
          go_wp2_with (first | (go_at_call 11; refine HC.out.mono ?_; intro e w9 h9; obtain ⟨v9, rfl, ht9, hb9⟩ := h9; obtain ⟨gk, PA9, pc9, TA9, tc9, kc9, z0, z1, z2, z3, e9, hgk, a0, a1, a2, a3, hfz⟩ := ht9.row HJN.out; rw [HNK.out] at e9; subst e9; have HT9 := hd ht9; have HB9 := hd hb9; have hz9 := hb9.size; have HK9 := hd (keepBlk HK8.out hb9); have HR9 := hd (keepBlk HR8.out hb9); have hp9 := (hb9.cell (cell_in hp8)).trans hp8; obtain ⟨q0, q1, q2, q3, -⟩ := blkCells HK9.out; have HGK := hd hgk; have HFZ := hd hfz; clear ht9 hb9 hgk hfz))
          generalize hw10 : World.alloc w9 _ = w10
          have hb10 : Below w9.heap.size w9 w10 := hw10 ▸ (Below.refl _ _).alloc (Nat.le_refl _) _
          have hx10 : w10.heap[w9.heap.size]? = some (.cells #[.bool n.lf, .slice PA9 n.ps.length pc9, .slice TA9 n.tx.length tc9, .slice (some ⟨gk, 0, none⟩) ks.length kc9] 26 (0, 0)) := hw10 ▸ heap_alloc_new w9 _
          have hz10 : w10.heap.size = w9.heap.size + 1 := by rw [← hw10]; simp
          have hgk := HGK.out
          have hgl : gk < w9.heap.size := hgk.2
          have hk10 := keepBlk HK9.out hb10
          have hr10 := keepBlk HR9.out hb10
          have hp10 := (hb10.cell (cell_in hp9)).trans hp9
          have HX10 := hd hx10
          have HR10 := hd hr10
          have HB10 := hd (show Below w.heap.size w w10 from HB8.out.trans ((HB9.out.mono (by omega)).trans (hb10.mono (by omega))))
          have hneq : gk ≠ w.heap.size + 2 := by omega
          have ht9 : TopP (fun b => w2.heap.size ≤ b ∧ b < w9.heap.size) d w10.drew (.agg #[.bool n.lf, .slice PA9 n.ps.length pc9, .slice TA9 n.tx.length tc9, .slice (some ⟨gk, 0, none⟩) ks.length kc9]) n := HT9.out.keep (fun b hb => ⟨by omega, hb.2⟩) (fun p hp => ⟨hb10.drew.cell hp.2, hb10.drew.frozen hp.2⟩)
          have ht8 : TreeP (fun b => w2.heap.size ≤ b ∧ b < w9.heap.size ∧ b ≠ gk) d8 w10.drew (.agg #[.bool lf8, .slice PA8 np8 pc8, .slice TA8 nt8 tc8, .slice KA8 nk8 kc8]) F1 := HT8.out.keep (fun b hb => ⟨hb.1, by omega, by omega⟩) (fun p hp => ⟨(hb10.drew.cell (show p.block < w9.heap.size by omega)).trans (HB9.out.cell hp.2.1), (hb10.drew.frozen (show p.block < w9.heap.size by omega)).trans (HB9.out.frozen hp.2.1)⟩)
          obtain ⟨D, HTS⟩ := top_set ht9 HJN.out ht8
          clear ht9 ht8
          have HTD := hd HTS
          clear HTS q0 q1 q2 q3 hp9 x0 x1 x2 x3 r0 r1 r2 r3 r4 r5 r6 r7 k0 k1 k2 k3 hp8 hw10 HT9 HT8
          obtain ⟨x0, x1, x2, x3, -⟩ := blkCells hx10
          obtain ⟨k0, k1, k2, k3, -⟩ := blkCells hk10
          clear hx10 hk10 hr10
          go_still_tail 7, (by kernel_rfl)
          show wpList _ _ _ _ _ w10.drew
          have hbd := hb10.drew
          have htd := HTD.out
          generalize hwd : w10.drew = wd at hbd htd
          have hbx : Below w10.heap.size w10 wd := hwd ▸ (Below.refl _ _).drew
          have hsd : wd.heap.size = w10.heap.size := by rw [← hwd]; rfl
          have hOX := (row_other (w := wd) (gk := gk) (q := j * 4) (b := w9.heap.size) (c0 := .bool lf8) (c1 := .slice PA8 np8 pc8) (c2 := .slice TA8 nt8 tc8) (c3 := .slice KA8 nk8 kc8) (by omega)).trans (keepBlk HX10.out hbx)
          have hRX := (row_other (w := wd) (gk := gk) (q := j * 4) (b := w.heap.size + 2) (c0 := .bool lf8) (c1 := .slice PA8 np8 pc8) (c2 := .slice TA8 nt8 tc8) (c3 := .slice KA8 nk8 kc8) (by omega)).trans (keepBlk HR10.out hbx)
          have hBX : Below w.heap.size w _ := Below.row4 (gk := gk) (q := j * 4) (c0 := .bool lf8) (c1 := .slice PA8 np8 pc8) (c2 := .slice TA8 nt8 tc8) (c3 := .slice KA8 nk8 kc8) (HB10.out.trans (hbx.mono (by omega))) (by omega)
          clear x0 x1 x2 x3 k0 k1 k2 k3 hp10
          have b0 := (hbd.cell (p := ⟨gk, j * 4, none⟩) hgl).trans a0
          have b1 := (hbd.cell (p := ⟨gk, j * 4 + 1, none⟩) hgl).trans a1
          have b2 := (hbd.cell (p := ⟨gk, j * 4 + 2, none⟩) hgl).trans a2
          have b3 := (hbd.cell (p := ⟨gk, j * 4 + 3, none⟩) hgl).trans a3
          have f0 := (hbd.frozen (p := ⟨gk, j * 4, none⟩) hgl).trans (HFZ.out 0 (by omega))
          have f1 := (hbd.frozen (p := ⟨gk, j * 4 + 1, none⟩) hgl).trans (HFZ.out 1 (by omega))
          have f2 := (hbd.frozen (p := ⟨gk, j * 4 + 2, none⟩) hgl).trans (HFZ.out 2 (by omega))
          have f3 := (hbd.frozen (p := ⟨gk, j * 4 + 3, none⟩) hgl).trans (HFZ.out 3 (by omega))
          clear a0 a1 a2 a3
          obtain ⟨x0, x1, x2, x3, -⟩ := blkCells hOX
          obtain ⟨r0, r1, r2, r3, r4, r5, r6, r7⟩ := blkCells hRX
          have HRX := hd hRX
          have HBX := hd hBX
          have HTX := hd htd
          clear hwd hOX hRX hBX htd hbx hbd hb10
          go_wp2
          have h7 := set4_block (a := .bool n.lf) (b := .slice PA9 n.ps.length pc9) (c := .slice TA9 n.tx.length tc9) (d := .slice (some ⟨gk, 0, none⟩) ks.length kc9) HRX.out
          obtain ⟨t0, t1, t2, t3, -⟩ := blkCells h7
          exact bodyPost_ret (v := .tuple #[.agg #[.bool n.lf, .slice PA9 n.ps.length pc9, .slice TA9 n.tx.length tc9, .slice (some ⟨gk, 0, none⟩) ks.length kc9], .int .i64 0]) (by simp [results, Try.results15, go_sem, t0, t1, t2, t3]) rfl (newN_ret HE.out (HTX.out.block_keep (fun b h1 h2 => by rw [set4_size, row4_size]; omega) (fun b h1 h2 => set4_other (by omega))) (Below.set4 HBX.out (by omega)))
        · have g1 : (F2 == 0) = false := by simp [h0]
          have g2 : (F2 != 0) = true := by simp [h0]
          have HE := hd (show putE n ((j : Int) :: r) m = (zeroT, F2) by rw [HF.out, show chgT (putF m) m2 r = (F1, F2) from HFR.out.symm]; simp [h0])
          clear h0
          go_wp2
          have h7 := set4_block (a := .bool false) (b := .slice none 0 0) (c := .slice none 0 0) (d := .slice none 0 0) HR8.out
          obtain ⟨t0, t1, t2, t3, -⟩ := blkCells h7
          exact bodyPost_ret (v := .tuple #[.agg #[.bool false, .slice none 0 0, .slice none 0 0, .slice none 0 0], .int .i64 F2]) (by simp [results, Try.results15, go_sem, t0, t1, t2, t3]) rfl (newN_ret HE.out (zero_tree _ 0 _) (Below.set4 HB8.out (by omega)))

end Go.Proofs.Ytggapngibkeodaa
