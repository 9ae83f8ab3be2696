/- The document's Cut. -/
import Derived.Test.YtggapngibkeodaaTRAdd
namespace Go.Proofs.Ytggapngibkeodaa
open Go.RowKit
open Go.WideShapes (add_plain)

theorem newC_zero {w W : World} {g1 g2 : Nat} {er : Int} {a b c d a' b' c' d' : Value} (h1 : w.heap.size ≤ g1) (h2 : w.heap.size ≤ g2) (hW : Below w.heap.size w W) :
    NewC zeroT zeroT er w (.returned (.tuple #[.agg #[.bool false, .slice none 0 0, .slice none 0 0, .slice none 0 0], .agg #[.bool false, .slice none 0 0, .slice none 0 0, .slice none 0 0], .int .i64 er])) ((((((((W.setCell ⟨g1, 0, none⟩ a).setCell ⟨g1, 1, none⟩ b).setCell ⟨g1, 2, none⟩ c).setCell ⟨g1, 3, none⟩ d).setCell ⟨g2, 0, none⟩ a').setCell ⟨g2, 1, none⟩ b').setCell ⟨g2, 2, none⟩ c').setCell ⟨g2, 3, none⟩ d') :=
  newC_ret (zero_tree _ 0 _) (zero_tree _ 0 _) (Below.set4 (Below.set4 hW h1) h2)

set_option maxRecDepth 100000 in
set_option maxHeartbeats 8000000 in
theorem rcut_root (w : World) (v : Value) (n : NT) (A : Option Addr) (p : List Int) (lp c : Nat) (hlp : p.length = lp) (hl : lp ≤ 1000) (hc1 : lp ≤ c) (hn : At w v n) (hp : IL w w.heap.size A p) (hpar : parentL p = ([], 6)) (lu : Nat) (hlu : (([] : List Int)).length = lu) (_hlu5 : lu ≤ 1000) :
    Calls Try.prog 19 #[v, .slice A lp c] w (NewC zeroT zeroT 6 w) := by
  obtain ⟨lf, PA, np, pc, TA, nt, tc, KA, nk, kc, rfl⟩ := hn.val
  obtain ⟨wb, hwb⟩ : ∃ wb, wb = ((w.alloc (.cells #[.bool lf, .slice PA np pc, .slice TA nt tc, .slice KA nk kc] 26)).alloc (.cells #[.bool false, .slice none 0 0, .slice none 0 0, .slice none 0 0] 26)).alloc (.cells #[.bool false, .slice none 0 0, .slice none 0 0, .slice none 0 0] 26) := ⟨_, rfl⟩
  have hb0 : Below w.heap.size w wb := hwb ▸ (below_mono2 (Below.refl _ _) (Nat.le_refl _)).alloc (by simp; omega) _
  have hsb : wb.heap.size = w.heap.size + 3 := by rw [hwb]; simp
  have HX := hd (show Holds [(w.heap.size + 2, .cells #[.bool false, .slice none 0 0, .slice none 0 0, .slice none 0 0] 26), (w.heap.size + 1, .cells #[.bool false, .slice none 0 0, .slice none 0 0, .slice none 0 0] 26), (w.heap.size, .cells #[.bool lf, .slice PA np pc, .slice TA nt tc, .slice KA nk kc] 26)] wb from hwb ▸ holds3 w _ _ _)
  have HB := hd hb0
  have HS := hd hsb
  have HLP := hd hlp
  have HA := hd (((Ats.nil w).add hn).keep hb0)
  have HI := hd (((Ils.nil w).add hp).keep hb0)
  have HPAR := hd hpar
  have HUL := hd hlu
  clear hn hp hb0 hlp hpar hlu hsb
  go_enter Try.func19, Try.ntmps19
  subst hwb
  go_wp2_with (first
    | (go_at_call 43; refine Calls.mono (rpar_l HPAR.out HLP.out (by omega) hc1 (HI.out.hd)) ?_; intro e w1 hc1'; obtain ⟨Au, cu, rfl, hcu, hIu, hb1⟩ := hc1'.opnL HUL.out; have HB1 := hd (HB.out.trans (hb1.mono HB.out.size)); have HX1 := hd (HX.out.keep hb1); have HA1 := hd (HA.out.keep hb1); have HI1 := hd ((HI.out.keep hb1).add hIu); have hz1 := hb1.size; rw [HS.out] at hz1; clear hIu hb1 ; obtain ⟨r0, r1, r2, r3, r4, r5, r6, r7⟩ := blkCells (HX1.out.tl.hd); obtain ⟨s0, s1, s2, s3, s4, s5, s6, s7⟩ := blkCells (HX1.out.hd)))
  have h7 := set4_block (a := .bool false) (b := .slice none 0 0) (c := .slice none 0 0) (d := .slice none 0 0) (HX1.out.tl.hd)
  have h8 := (set4_other (g := w.heap.size + 1) (k := w.heap.size + 2) (a := .bool false) (b := .slice none 0 0) (c := .slice none 0 0) (d := .slice none 0 0) (by omega)).trans (HX1.out.hd)
  have h9 := set4_block (a := .bool false) (b := .slice none 0 0) (c := .slice none 0 0) (d := .slice none 0 0) h8
  have h10 := (set4_other (g := w.heap.size + 2) (k := w.heap.size + 1) (a := .bool false) (b := .slice none 0 0) (c := .slice none 0 0) (d := .slice none 0 0) (by omega)).trans h7
  obtain ⟨t0, t1, t2, t3, -⟩ := blkCells h9
  obtain ⟨q0, q1, q2, q3, -⟩ := blkCells h10
  exact bodyPost_ret (v := .tuple #[.agg #[.bool false, .slice none 0 0, .slice none 0 0, .slice none 0 0], .agg #[.bool false, .slice none 0 0, .slice none 0 0, .slice none 0 0], .int .i64 6]) (by simp [results, Try.results19, go_sem, t0, t1, t2, t3, q0, q1, q2, q3]) rfl (newC_zero (by omega) (by omega) HB1.out)

set_option maxRecDepth 100000 in
set_option maxHeartbeats 8000000 in
theorem rcut_path (w : World) (v : Value) (n : NT) (A : Option Addr) (p : List Int) (lp c : Nat) (hlp : p.length = lp) (hl : lp ≤ 1000) (hc1 : lp ≤ c) (hn : At w v n) (hp : IL w w.heap.size A p) (hpar : parentL p = (upP p, 0)) (lu : Nat) (hlu : (upP p).length = lu) (_hlu5 : lu ≤ 1000) (hgm : getE n p = (zeroT, 5)) :
    Calls Try.prog 19 #[v, .slice A lp c] w (NewC zeroT zeroT 5 w) := by
  obtain ⟨lf, PA, np, pc, TA, nt, tc, KA, nk, kc, rfl⟩ := hn.val
  obtain ⟨wb, hwb⟩ : ∃ wb, wb = ((w.alloc (.cells #[.bool lf, .slice PA np pc, .slice TA nt tc, .slice KA nk kc] 26)).alloc (.cells #[.bool false, .slice none 0 0, .slice none 0 0, .slice none 0 0] 26)).alloc (.cells #[.bool false, .slice none 0 0, .slice none 0 0, .slice none 0 0] 26) := ⟨_, rfl⟩
  have hb0 : Below w.heap.size w wb := hwb ▸ (below_mono2 (Below.refl _ _) (Nat.le_refl _)).alloc (by simp; omega) _
  have hsb : wb.heap.size = w.heap.size + 3 := by rw [hwb]; simp
  have HX := hd (show Holds [(w.heap.size + 2, .cells #[.bool false, .slice none 0 0, .slice none 0 0, .slice none 0 0] 26), (w.heap.size + 1, .cells #[.bool false, .slice none 0 0, .slice none 0 0, .slice none 0 0] 26), (w.heap.size, .cells #[.bool lf, .slice PA np pc, .slice TA nt tc, .slice KA nk kc] 26)] wb from hwb ▸ holds3 w _ _ _)
  have HB := hd hb0
  have HS := hd hsb
  have HLP := hd hlp
  have HA := hd (((Ats.nil w).add hn).keep hb0)
  have HI := hd (((Ils.nil w).add hp).keep hb0)
  have HPAR := hd hpar
  have HUL := hd hlu
  have HGM := hd hgm
  clear hn hp hb0 hlp hpar hlu hsb hgm
  go_enter Try.func19, Try.ntmps19
  subst hwb
  go_wp2_with (first
    | (go_at_call 13; have _g := HB1; clear _g; refine Calls.mono (rget_l HGM.out HLP.out (by omega) (HA1.out.hd) (HI1.out.tl.hd)) ?_; intro e w2 h2; obtain ⟨v2, d2, rfl, ht2, hb2⟩ := h2; obtain ⟨lf2, PA2, np2, pc2, TA2, nt2, tc2, KA2, nk2, kc2, rfl⟩ := (ht2.at_ (B := w2.heap.size) (fun b hb => hb.2)).val; have hz2 := hb2.size; have hB2 := HB1.out.trans (hb2.mono HB1.out.size); have HB2 := hd (hB2.alloc hB2.size (.cells #[.bool lf2, .slice PA2 np2 pc2, .slice TA2 nt2 tc2, .slice KA2 nk2 kc2] 26)); have HX2 := hd ((HX1.out.keep hb2).add (.cells #[.bool lf2, .slice PA2 np2 pc2, .slice TA2 nt2 tc2, .slice KA2 nk2 kc2] 26)); have HA2 := hd ((HA1.out.keep hb2).keep (alloc_below _ (.cells #[.bool lf2, .slice PA2 np2 pc2, .slice TA2 nt2 tc2, .slice KA2 nk2 kc2] 26))); have HI2 := hd ((HI1.out.keep hb2).keep (alloc_below _ (.cells #[.bool lf2, .slice PA2 np2 pc2, .slice TA2 nt2 tc2, .slice KA2 nk2 kc2] 26))); have HT2 := hd ht2; clear ht2 hb2 hB2 n0 n1 n2 n3; obtain ⟨r0, r1, r2, r3, r4, r5, r6, r7⟩ := blkCells (HX2.out.tl.tl.hd); obtain ⟨s0, s1, s2, s3, s4, s5, s6, s7⟩ := blkCells (HX2.out.tl.hd))
    | (go_at_call 43; refine Calls.mono (rpar_l HPAR.out HLP.out (by omega) hc1 (HI.out.hd)) ?_; intro e w1 hc1'; obtain ⟨Au, cu, rfl, hcu, hIu, hb1⟩ := hc1'.opnL HUL.out; have HB1 := hd (HB.out.trans (hb1.mono HB.out.size)); have HX1 := hd (HX.out.keep hb1); have HA1 := hd (HA.out.keep hb1); have HI1 := hd ((HI.out.keep hb1).add hIu); have hz1 := hb1.size; rw [HS.out] at hz1; clear hIu hb1 ; obtain ⟨n0, n1, n2, n3, -⟩ := blkCells (HX1.out.tl.tl.hd)))
  have h7 := set4_block (a := .bool false) (b := .slice none 0 0) (c := .slice none 0 0) (d := .slice none 0 0) (HX2.out.tl.tl.hd)
  have h8 := (set4_other (g := w.heap.size + 1) (k := w.heap.size + 2) (a := .bool false) (b := .slice none 0 0) (c := .slice none 0 0) (d := .slice none 0 0) (by omega)).trans (HX2.out.tl.hd)
  have h9 := set4_block (a := .bool false) (b := .slice none 0 0) (c := .slice none 0 0) (d := .slice none 0 0) h8
  have h10 := (set4_other (g := w.heap.size + 2) (k := w.heap.size + 1) (a := .bool false) (b := .slice none 0 0) (c := .slice none 0 0) (d := .slice none 0 0) (by omega)).trans h7
  obtain ⟨t0, t1, t2, t3, -⟩ := blkCells h9
  obtain ⟨q0, q1, q2, q3, -⟩ := blkCells h10
  exact bodyPost_ret (v := .tuple #[.agg #[.bool false, .slice none 0 0, .slice none 0 0, .slice none 0 0], .agg #[.bool false, .slice none 0 0, .slice none 0 0, .slice none 0 0], .int .i64 5]) (by simp [results, Try.results19, go_sem, t0, t1, t2, t3, q0, q1, q2, q3]) rfl (newC_zero (by omega) (by omega) HB2.out)

set_option maxRecDepth 100000 in
set_option maxHeartbeats 8000000 in
theorem rcut_ok (w : World) (v : Value) (n : NT) (A : Option Addr) (p : List Int) (lp c : Nat) (hlp : p.length = lp) (hl : lp ≤ 1000) (hc1 : lp ≤ c) (hn : At w v n) (hp : IL w w.heap.size A p) (hpar : parentL p = (upP p, 0)) (lu : Nat) (hlu : (upP p).length = lu) (hlu5 : lu ≤ 1000) (x y : NT) (k kx j : Nat) (hk : lp = k + 1) (hgm : getE n p = (y, 0)) (hg : getE n (upP p) = (x, 0)) (hkx : x.ks.length = kx) (hi : iAt p k = (j : Int)) (hjk : j < kx) (z : NT) (hput : putE n (upP p) (splT x j 1 []) = (z, 0)) :
    Calls Try.prog 19 #[v, .slice A lp c] w (NewC z y 0 w) := by
  obtain ⟨lf, PA, np, pc, TA, nt, tc, KA, nk, kc, rfl⟩ := hn.val
  obtain ⟨wb, hwb⟩ : ∃ wb, wb = ((w.alloc (.cells #[.bool lf, .slice PA np pc, .slice TA nt tc, .slice KA nk kc] 26)).alloc (.cells #[.bool false, .slice none 0 0, .slice none 0 0, .slice none 0 0] 26)).alloc (.cells #[.bool false, .slice none 0 0, .slice none 0 0, .slice none 0 0] 26) := ⟨_, rfl⟩
  have hb0 : Below w.heap.size w wb := hwb ▸ (below_mono2 (Below.refl _ _) (Nat.le_refl _)).alloc (by simp; omega) _
  have hsb : wb.heap.size = w.heap.size + 3 := by rw [hwb]; simp
  have HX := hd (show Holds [(w.heap.size + 2, .cells #[.bool false, .slice none 0 0, .slice none 0 0, .slice none 0 0] 26), (w.heap.size + 1, .cells #[.bool false, .slice none 0 0, .slice none 0 0, .slice none 0 0] 26), (w.heap.size, .cells #[.bool lf, .slice PA np pc, .slice TA nt tc, .slice KA nk kc] 26)] wb from hwb ▸ holds3 w _ _ _)
  have HB := hd hb0
  have HS := hd hsb
  have HLP := hd hlp
  have HA := hd (((Ats.nil w).add hn).keep hb0)
  have HI := hd (((Ils.nil w).add hp).keep hb0)
  subst hk
  have HPAR := hd hpar
  have HUL := hd hlu
  have HG := hd hg
  have HGM := hd hgm
  have HKL := hd hkx
  have HJ := hd hi
  have HPUT := hd hput
  have HKP := hd (show k < p.length by omega)
  obtain ⟨b, o, rfl, hbl, -⟩ := hp.at_ (k := k) HKP.out
  clear hn hp hb0 hlp hpar hlu hsb hg hgm hkx hi hput
  go_enter Try.func19, Try.ntmps19
  subst hwb
  go_upto_region 9 with (first
    | (go_at_call 13; have _g := HB2; clear _g; refine Calls.mono (rget_l HG.out HUL.out (by omega) (HA2.out.hd) (HI2.out.hd)) ?_; intro e w3 hc3; obtain ⟨lf3, PA3, np3, pc3, TA3, nt3, tc3, KA3, nk3, kc3, rfl, ht3, hb3⟩ := hc3.opn; have hz3 := hb3.size; have HB3 := hd (HB2.out.trans (hb3.mono HB2.out.size)); have HX3 := hd (HX2.out.keep hb3); have HA3 := hd (HA2.out.keep hb3); have HT3 := hd ht3; have HI3 := hd (HI2.out.keep hb3); have HBB3 := hd hb3; have hb3a := alloc_below w3 (.cells #[.bool lf3, .slice PA3 np3 pc3, .slice TA3 nt3 tc3, .slice KA3 nk3 kc3] 26); have hpl := (il_cell ((HI3.out.tl.hd).later hb3a) HKP.out).2; rw [HJ.out] at hpl; clear hb3 hb3a ht3 n0 n1 n2 n3)
    | (go_at_call 13; have _g := HB1; clear _g; refine Calls.mono (rget_l HGM.out HLP.out (by omega) (HA1.out.hd) (HI1.out.tl.hd)) ?_; intro e w2 h2; obtain ⟨v2, d2, rfl, ht2, hb2⟩ := h2; obtain ⟨lf2, PA2, np2, pc2, TA2, nt2, tc2, KA2, nk2, kc2, rfl⟩ := (ht2.at_ (B := w2.heap.size) (fun b hb => hb.2)).val; have hz2 := hb2.size; have hB2 := HB1.out.trans (hb2.mono HB1.out.size); have HB2 := hd (hB2.alloc hB2.size (.cells #[.bool lf2, .slice PA2 np2 pc2, .slice TA2 nt2 tc2, .slice KA2 nk2 kc2] 26)); have HX2 := hd ((HX1.out.keep hb2).add (.cells #[.bool lf2, .slice PA2 np2 pc2, .slice TA2 nt2 tc2, .slice KA2 nk2 kc2] 26)); have HA2 := hd ((HA1.out.keep hb2).keep (alloc_below _ (.cells #[.bool lf2, .slice PA2 np2 pc2, .slice TA2 nt2 tc2, .slice KA2 nk2 kc2] 26))); have HI2 := hd ((HI1.out.keep hb2).keep (alloc_below _ (.cells #[.bool lf2, .slice PA2 np2 pc2, .slice TA2 nt2 tc2, .slice KA2 nk2 kc2] 26))); have HT2 := hd ht2; clear ht2 hb2 hB2 n0 n1 n2 n3; obtain ⟨n0, n1, n2, n3, -⟩ := blkCells (HX2.out.tl.tl.tl.hd))
    | (go_at_call 43; refine Calls.mono (rpar_l HPAR.out HLP.out (by omega) hc1 (HI.out.hd)) ?_; intro e w1 hc1'; obtain ⟨Au, cu, rfl, hcu, hIu, hb1⟩ := hc1'.opnL HUL.out; have HB1 := hd (HB.out.trans (hb1.mono HB.out.size)); have HX1 := hd (HX.out.keep hb1); have HA1 := hd (HA.out.keep hb1); have HI1 := hd ((HI.out.keep hb1).add hIu); have hz1 := hb1.size; rw [HS.out] at hz1; clear hIu hb1 ; obtain ⟨n0, n1, n2, n3, -⟩ := blkCells (HX1.out.tl.tl.hd)))
  obtain ⟨dx, hx⟩ := HT3.out
  obtain ⟨d', lfx, ps, tx, ks, PAx, pcx, TAx, tcx, KAx, kcx, hdx, rfl, ev, hps, htx, hf, hks⟩ := hx.open_
  simp only [Value.agg.injEq, Array.mk.injEq, List.cons.injEq, Value.bool.injEq, Value.slice.injEq, and_true] at ev
  obtain ⟨rfl, ⟨rfl, rfl, rfl⟩, ⟨rfl, rfl, rfl⟩, rfl, hkk0, rfl⟩ := ev
  have hkk1 : kx = nk3 := by rw [hkk0]; exact HKL.out.symm
  subst hkk1
  have hkc : kx ≤ kc3 := by have := hf.2.2.2.2.2.2; omega
  have hkl : kx ≤ 1759218604441 := by have := hf.2.2.2.1; omega
  obtain ⟨D, hD, hrunB0⟩ := cutN_run KA3 kx kc3 (j + 1) (by omega) hkc
  have hrunB : ∀ W : World, (Instr.slice 24 (.slice KA3 kx kc3) (some (.int .i64 ((j : Int) + 1))) none none).run Try.prog W = .ok (.slice D (kx - (j + 1)) (kc3 - (j + 1))) W := fun W => by
    have := hrunB0 W
    rwa [Int.natCast_add] at this
  have hrunA := takeN_run KA3 kx kc3 j (by omega)
  have hwr : IntKind.i64.wrap ((j : Int) + 1) = (j : Int) + 1 := IntWalk.i64_in _ (by omega)
  obtain ⟨us1, hv1, hl1⟩ := Kids.vals (show Kids d' w3 w3.heap.size KA3 (ks.take j) from fun q z hz => hks q z (by rw [List.getElem?_take] at hz; split at hz <;> first | exact hz | cases hz))
  obtain ⟨us2, hv2, hl2⟩ := (hD d' w3 w3.heap.size ks hks hkk0.symm).vals
  have HV1 := hd hl1
  have HV2 := hd hl2
  have HF1 := hd (show (flatV us1).length = j * 4 ∧ ∀ c ∈ flatV us1, c.oneCell' = true from ⟨by rw [hv1.flat.1, List.length_take]; congr 1; omega, hv1.flat.2⟩)
  have HF2 := hd (show (flatV us2).length = (kx - (j + 1)) * 4 ∧ ∀ c ∈ flatV us2, c.oneCell' = true from ⟨by rw [hv2.flat.1, List.length_drop, ← hkk0], hv2.flat.2⟩)
  have HVS1 := hd hv1
  have HVS2 := hd hv2
  have HPS := hd hps
  have HTX := hd htx
  have HFT := hd hf
  have HKK := hd hkk0
  have HBX := hd (heap_alloc_new w3 (.cells #[.bool lf3, .slice PA3 ps.length pc3, .slice TA3 tx.length tc3, .slice KA3 kx kc3] 26))
  clear hx hps htx hf hks hD hrunB0 hv1 hl1 hv2 hl2 hpl hkk0 hdx
  obtain ⟨a0, a1, a2, a3, a4, a5, a6, a7⟩ := blkCells HBX.out
  go_region_law (first
    | (refine step_append_GX nodeG _ rfl (.tmp 52) (.tmp 57) rfl w3.heap.size (.slice A5 j c5) j (flatV us1) rfl HW5.out D (kx - (j + 1)) (kc3 - (j + 1)) w3.heap.size (flatV us2) rfl HF2.out.1 (HV2.out.below HB5.out) HF2.out.2 (by unfold maxLen; omega) (by omega) (by omega) ?_; intro A6 c6 w6 hown6 hgrow6 hat6; have HB6 := hd (HB5.out.grown hgrow6 (by omega) HR5.out); have HW6 := hd hown6; have ho6 := (hgrow6.block w3.heap.size (by omega) (fun e => HP5.out e.symm)).trans HO5.out; have HO6 := hd ho6; have HP6 := hd (apart_step HP5.out (by omega) hat6); have hz6 := hgrow6.size; obtain ⟨e0, e1, e2, e3, e4, e5, e6, e7⟩ := blkCells ho6; clear hown6 hgrow6 hat6 ho6)
    | (refine step_append_G0 nodeG _ rfl (.const (.slice none 0 0)) (.tmp 51) rfl w3.heap.size rfl KA3 j kc3 w3.heap.size (flatV us1) rfl HF1.out.1 (HV1.out.below (alloc_below w3 _).drew) HF1.out.2 (by unfold maxLen; omega) (by omega) (by simp) ?_; intro A5 c5 w5 hown5 hgrow5 hat5; have hb5 : Below w3.heap.size w3 w5 := (alloc_below w3 _).drew.trans (hgrow5.mono (by simp)); have HB5 := hd hb5; have HW5 := hd hown5; have ho5 := keepBlk (W := (w3.alloc _).drew) HBX.out hgrow5; have hl5 := lt_of_block ho5; have HO5 := hd ho5; have HP5 := hd (apart_step (g := w3.heap.size) (by simp) (by simp) hat5); have HR5 := hd (fun b e => (hown5.lt b e).1); have hz5 := hb5.size; obtain ⟨b0, b1, b2, b3, b4, b5, b6, b7⟩ := blkCells ho5; clear hb5 hown5 hgrow5 hat5 ho5))
  all_goals
    generalize hW7 : World.setCell w6 _ _ = w7
    have hb7 : Below w3.heap.size w3 w7 := hW7 ▸ HB6.out.setCell (Nat.le_refl _) _
    have hbox7 : w7.heap[w3.heap.size]? = some (.cells #[.bool lf3, .slice PA3 ps.length pc3, .slice TA3 tx.length tc3, .slice A6 (j + (kx - (j + 1))) c6] 26 (0, 0)) := by rw [← hW7, setCell_block HO6.out]; rfl
    have hown7 := ownsRow_setCell_other (a := ⟨w3.heap.size, 3, none⟩) HW6.out HP6.out (.slice A6 (j + (kx - (j + 1))) c6)
    rw [hW7] at hown7
    clear a0 a1 a2 a3 a4 a5 a6 a7 b0 b1 b2 b3 b4 b5 b6 b7 e0 e1 e2 e3 e4 e5 e6 e7 hW7 hrunA hrunB hwr
    obtain ⟨a0, a1, a2, a3, -⟩ := blkCells hbox7
    obtain ⟨n0, n1, n2, n3, -⟩ := blkCells (keepBlk (HX3.out.tl.tl.tl.hd) hb7)
    have HX7 := hd (HX3.out.keep hb7)
    have hkk := HKK.out
    have hvs : Vals d' w7 w7.heap.size (us1 ++ us2) (spl ks j 1 []) := by
      have := ((HVS1.out.below hb7).more hb7.size).append ((HVS2.out.below hb7).more hb7.size)
      unfold spl; rw [List.append_nil]; exact this
    have hkids := row_kids (ks := spl ks j 1 []) (d := d') (us := us1 ++ us2) (by rw [flatV_append]; exact hown7) hvs
    have hsl : (spl ks j 1 []).length = j + (kx - (j + 1)) := by
      have h9 := spl_len (ks := ks) (i := j) (many := 1) (o := []) (by omega)
      simp at h9; omega
    have hy7 : NodeAt (d' + 1) w7 w7.heap.size (.agg #[.bool lf3, .slice PA3 ps.length pc3, .slice TA3 tx.length tc3, .slice A6 (j + (kx - (j + 1))) c6]) (splT (.mk lf3 ps tx ks) j 1 []) :=
      node_row ((HPS.out.below hb7).more hb7.size) (HTX.out.later hb7) HFT.out hsl (by omega) (own_cap hown7) hkids
    obtain ⟨dn, hn7⟩ := HA3.out.hd
    have HPU := hd (rput_any (upP p) dn (d' + 1) w7 _ _ n _ Au lu cu HUL.out (by omega) hcu (hn7.later hb7) hy7 ((HI3.out.hd).later hb7))
    rw [HPUT.out] at HPU
    have HB7 := hd (HB3.out.trans (hb7.mono HB3.out.size))
    have HBT := hd (HBB3.out.trans (hb7.mono HBB3.out.size))
    have hz37 := hb7.size
    have hz13 := HB3.out.size
    clear hbox7 hown7 hvs hkids hsl hy7 hn7 hkk hb7
    go_upto_region 11 with (first
      | (go_at_call 15; refine Calls.mono HPU.out ?_; intro e w8 h8; obtain ⟨v8, d8, rfl, ht8, hb8⟩ := h8; obtain ⟨lf8, PA8, np8, pc8, TA8, nt8, tc8, KA8, nk8, kc8, rfl⟩ := (ht8.at_ (B := w8.heap.size) (fun b hb => hb.2)).val; have HT8 := hd ht8; have HBB8 := hd hb8; have HB8 := hd (HB7.out.trans (hb8.mono HB7.out.size)); have HX8 := hd (HX7.out.keep hb8); have hz8 := hb8.size; clear ht8 hb8 n0 n1 n2 n3 a0 a1 a2 a3))
    generalize hW9 : World.alloc w8 _ = w9
    have hb9 : Below w8.heap.size w8 w9 := hW9 ▸ alloc_below w8 _
    have hbox9 : w9.heap[w8.heap.size]? = some (.cells #[.bool lf8, .slice PA8 np8 pc8, .slice TA8 nt8 tc8, .slice KA8 nk8 kc8] 26 (0, 0)) := hW9 ▸ heap_alloc_new w8 _
    have HX9 := hd (HX8.out.keep hb9)
    have hz9 := hb9.size
    have HB9 := hd (HB8.out.trans (hb9.mono HB8.out.size))
    have h89 := fun (b : Nat) (h : b < w8.heap.size) => hb9.block b h
    have hz2a := HBT.out.size
    rw [sz1] at hz2a
    have hT2 : TreeP (fun b => w.heap.size + 3 ≤ b ∧ b < w9.heap.size) d2 w9 (.agg #[.bool lf2, .slice PA2 np2 pc2, .slice TA2 nt2 tc2, .slice KA2 nk2 kc2]) y :=
      HT2.out.block_keep (fun b h1 h2 => ⟨by omega, by omega⟩) (fun b h1 h2 => (h89 b (by omega)).trans ((HBB8.out.block b (by omega)).trans ((HBT.out.block b (by rw [sz1]; omega)).trans (Below.heap_alloc _ _ _ h2))))
    have hT8 : TreeP (fun b => w.heap.size + 3 ≤ b ∧ b < w9.heap.size) d8 w9 (.agg #[.bool lf8, .slice PA8 np8 pc8, .slice TA8 nt8 tc8, .slice KA8 nk8 kc8]) z :=
      HT8.out.block_keep (fun b h1 h2 => ⟨by omega, by omega⟩) (fun b h1 h2 => h89 b h2)
    have HT29 := hd hT2
    have HT89 := hd hT8
    clear hW9 hb9 h89 hT2 hT8
    obtain ⟨g0, g1, g2, g3, -⟩ := blkCells hbox9
    obtain ⟨m0, m1, m2, m3, -⟩ := blkCells (HX9.out.hd)
    obtain ⟨r0, r1, r2, r3, r4, r5, r6, r7⟩ := blkCells (HX9.out.tl.tl.hd)
    obtain ⟨s0, s1, s2, s3, s4, s5, s6, s7⟩ := blkCells (HX9.out.tl.hd)
    clear hbox9
    go_region
    go_wp2
    have h9 := set4_block (a := .bool lf8) (b := .slice PA8 np8 pc8) (c := .slice TA8 nt8 tc8) (d := .slice KA8 nk8 kc8) (HX9.out.tl.tl.hd)
    have h10 := (set4_other (w := w9) (g := w.heap.size + 1) (k := w.heap.size + 2) (a := .bool lf8) (b := .slice PA8 np8 pc8) (c := .slice TA8 nt8 tc8) (d := .slice KA8 nk8 kc8) (by omega)).trans (HX9.out.tl.hd)
    have h11 := set4_block (a := .bool lf2) (b := .slice PA2 np2 pc2) (c := .slice TA2 nt2 tc2) (d := .slice KA2 nk2 kc2) h10
    have h12 := (set4_other (g := w.heap.size + 2) (k := w.heap.size + 1) (a := .bool lf2) (b := .slice PA2 np2 pc2) (c := .slice TA2 nt2 tc2) (d := .slice KA2 nk2 kc2) (by omega)).trans h9
    obtain ⟨t0, t1, t2, t3, -⟩ := blkCells h11
    obtain ⟨q0, q1, q2, q3, -⟩ := blkCells h12
    exact bodyPost_ret (v := .tuple #[.agg #[.bool lf8, .slice PA8 np8 pc8, .slice TA8 nt8 tc8, .slice KA8 nk8 kc8], .agg #[.bool lf2, .slice PA2 np2 pc2, .slice TA2 nt2 tc2, .slice KA2 nk2 kc2], .int .i64 0]) (by simp [results, Try.results19, go_sem, t0, t1, t2, t3, q0, q1, q2, q3]) rfl
      (cut_out (lo := w.heap.size + 3) (g1 := w.heap.size + 1) (g2 := w.heap.size + 1 + 1) (by omega) (by omega) (by omega) (by omega) rfl (fun q h1 h2 => rfl) HT89.out HT29.out HB9.out)

end Go.Proofs.Ytggapngibkeodaa
