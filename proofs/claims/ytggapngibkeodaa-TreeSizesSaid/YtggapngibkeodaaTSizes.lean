/- TreeSizes answers true. -/
import Derived.Test.YtggapngibkeodaaTBack
namespace Go.Proofs.Ytggapngibkeodaa
open Go.RowKit

theorem par_l {w : World} {A : Option Addr} {p l : List Int} {er : Int} {lp c : Nat} (hr : parentL p = (l, er)) (hlp : p.length = lp) (hl : lp ≤ 1000) (hc : lp ≤ c) (hp : IL w w.heap.size A p) : Calls Try.prog 33 #[.slice A lp c] w (NewPE w (l, er)) := by
  subst hlp; exact par_is hr hl hc hp
theorem NewPE.opnL {l : List Int} {lu : Nat} {er : Int} {w w' : World} {e : Ending} (h : NewPE w (l, er) e w') (hlu : l.length = lu) : ∃ A c, e = .returned (.tuple #[.slice A lu c, .int .i64 er]) ∧ lu ≤ c ∧ IL w' w'.heap.size A l ∧ Below w.heap.size w w' := by
  subst hlu; exact h.opn

set_option maxRecDepth 100000 in
set_option maxHeartbeats 8000000 in
theorem tsizes_root (w : World) (v u : Value) (n m : NT) (A : Option Addr) (p : List Int) (lp c : Nat) (hlp : p.length = lp) (hp50 : lp ≤ 50) (hc1 : lp ≤ c) (hF : (fewB 100 n && fewB 60 m && decide (lp ≤ 50)) = true) (hn : At w v n) (hm : At w u m) (hp : IL w w.heap.size A p) (hbd : ∀ x, getO n (upP p) = some x → x.ks.length < 1759218604441) (ha : addE n p m = (zeroT, 6)) (hpar : parentL p = ([], 6)) (lu : Nat) (hlu : (([] : List Int)).length = lu) (hlu5 : lu ≤ 50) :
    Calls Try.prog 8 #[v, .slice A lp c, u] w (Still (.bool true) w) := by
  have hl1 : lp ≤ 9223372036854775807 := by omega
  have HLP := hd hlp
  have HBD := hd hbd
  have HFEW := hd hF
  obtain ⟨lf, PA, np, pc, TA, nt, tc, KA, nk, kc, rfl⟩ := hn.val
  obtain ⟨lf', PA', np', pc', TA', nt', tc', KA', nk', kc', rfl⟩ := hm.val
  obtain ⟨wb, hwb⟩ : ∃ wb, wb = (w.alloc (.cells #[.bool lf, .slice PA np pc, .slice TA nt tc, .slice KA nk kc] 26)).alloc (.cells #[.bool lf', .slice PA' np' pc', .slice TA' nt' tc', .slice KA' nk' kc'] 26) := ⟨_, rfl⟩
  have hb0 : Below w.heap.size w wb := hwb ▸ below_mono2 (Below.refl _ _) (Nat.le_refl _)
  have HB := hd hb0
  have HX := hd (show Holds [(w.heap.size + 1, .cells #[.bool lf', .slice PA' np' pc', .slice TA' nt' tc', .slice KA' nk' kc'] 26), (w.heap.size, .cells #[.bool lf, .slice PA np pc, .slice TA nt tc, .slice KA nk kc] 26)] wb from hwb ▸ holds2 w _ _)
  have HA := hd (((((Ats.nil w).add hn).add hm)).keep hb0)
  have HI := hd (((Ils.nil w).add hp).keep hb0)
  have HE := hd ha
  have HPAR := hd hpar
  have HUL := hd hlu
  have HG := hd (show getE n [] = (n, 0) from rfl)
  clear ha hpar hlu
  clear hn hm hp hb0 hlp hbd hF
  obtain ⟨n0, n1, n2, n3, -⟩ := blkCells (HX.out.tl.hd)
  obtain ⟨m0, m1, m2, m3, -⟩ := blkCells (HX.out.hd)
  go_enter Try.func8, Try.ntmps8
  subst hwb
  go_wp2_with (first
    | (go_at_call 12; have _g := HBc4; clear _g; refine Calls.mono (get_l HG.out HUL.out (by omega) (HAc4.out.tl.tl.hd) (HIc4.out.hd)) ?_; intro e wc5 hc5; obtain ⟨lfc5, PAc5, npc5, pcc5, TAc5, ntc5, tcc5, KAc5, nkc5, kcc5, rfl, hTc5, hbc5⟩ := hc5.opn; have hic5 := hbc5.trans ((alloc_below _ (.cells #[.bool lfc5, .slice PAc5 npc5 pcc5, .slice TAc5 ntc5 tcc5, .slice KAc5 nkc5 kcc5] 26)).mono hbc5.size); have hBc5 := HBc4.out.trans (hbc5.mono HBc4.out.size); have HBc5 := hd (hBc5.alloc hBc5.size (.cells #[.bool lfc5, .slice PAc5 npc5 pcc5, .slice TAc5 ntc5 tcc5, .slice KAc5 nkc5 kcc5] 26)); have HXc5 := hd ((HXc4.out.keep hbc5).add (.cells #[.bool lfc5, .slice PAc5 npc5 pcc5, .slice TAc5 ntc5 tcc5, .slice KAc5 nkc5 kcc5] 26)); have HAc5 := hd (((HAc4.out.keep hbc5).add hTc5).keep (alloc_below _ (.cells #[.bool lfc5, .slice PAc5 npc5 pcc5, .slice TAc5 ntc5 tcc5, .slice KAc5 nkc5 kcc5] 26))); clear hTc5 hBc5 hbc5; have HIc5 := hd (HIc4.out.keep hic5); clear hic5; clear n0 n1 n2 n3)
    | (go_at_call 33; have _g := HBc3; clear _g; refine Calls.mono (par_l HPAR.out HLP.out (by omega) hc1 (HIc3.out.hd)) ?_; intro e wc4 hc4; obtain ⟨Ac4, cc4, rfl, hcc4, hIc4, hbc4⟩ := hc4.opnL HUL.out; have HIc4 := hd ((HIc3.out.keep hbc4).add hIc4); have HBc4 := hd (HBc3.out.trans (hbc4.mono HBc3.out.size)); have HXc4 := hd (HXc3.out.keep hbc4); have HAc4 := hd (HAc3.out.keep hbc4); clear hIc4 hbc4; obtain ⟨n0, n1, n2, n3, -⟩ := blkCells (HXc4.out.tl.tl.hd))
    | (go_at_call 16; have _g := HBc2; clear _g; refine Calls.mono (add_l HE.out HLP.out (by omega) hc1 (HAc2.out.tl.hd) (HAc2.out.hd) (HIc2.out.hd) HBD.out) ?_; intro e wc3 hc3; obtain ⟨lfc3, PAc3, npc3, pcc3, TAc3, ntc3, tcc3, KAc3, nkc3, kcc3, rfl, hTc3, hbc3⟩ := hc3.opn; have hic3 := hbc3.trans ((alloc_below _ (.cells #[.bool lfc3, .slice PAc3 npc3 pcc3, .slice TAc3 ntc3 tcc3, .slice KAc3 nkc3 kcc3] 26)).mono hbc3.size); have hBc3 := HBc2.out.trans (hbc3.mono HBc2.out.size); have HBc3 := hd (hBc3.alloc hBc3.size (.cells #[.bool lfc3, .slice PAc3 npc3 pcc3, .slice TAc3 ntc3 tcc3, .slice KAc3 nkc3 kcc3] 26)); have HXc3 := hd ((HXc2.out.keep hbc3).add (.cells #[.bool lfc3, .slice PAc3 npc3 pcc3, .slice TAc3 ntc3 tcc3, .slice KAc3 nkc3 kcc3] 26)); have HAc3 := hd (((HAc2.out.keep hbc3).add hTc3).keep (alloc_below _ (.cells #[.bool lfc3, .slice PAc3 npc3 pcc3, .slice TAc3 ntc3 tcc3, .slice KAc3 nkc3 kcc3] 26))); clear hTc3 hBc3 hbc3; have HIc3 := hd (HIc2.out.keep hic3); clear hic3; clear n0 n1 n2 n3 m0 m1 m2 m3)
    | (go_at_call 10; have _g := HBc1; clear _g; refine Calls.mono (few_at HFEW.out hl1 (HAc1.out.tl.hd) (HAc1.out.hd)) ?_; rintro e wc2 ⟨rfl, hbc2⟩; have hic2 := hbc2; have HBc2 := hd (HBc1.out.trans (hbc2.mono HBc1.out.size)); have HXc2 := hd (HXc1.out.keep hbc2); have HAc2 := hd (HAc1.out.keep hbc2); clear hbc2; have HIc2 := hd (HIc1.out.keep hic2); clear hic2; clear n0 n1 n2 n3 m0 m1 m2 m3; obtain ⟨n0, n1, n2, n3, -⟩ := blkCells (HXc2.out.tl.hd); obtain ⟨m0, m1, m2, m3, -⟩ := blkCells (HXc2.out.hd))
    | (go_at_call 9; have _g := HB; clear _g; refine Calls.mono (live5_any _) ?_; rintro e wc1 ⟨rfl, hbc1⟩; have hic1 := hbc1; have HBc1 := hd (HB.out.trans (hbc1.mono HB.out.size)); have HXc1 := hd (HX.out.keep hbc1); have HAc1 := hd (HA.out.keep hbc1); clear hbc1; have HIc1 := hd (HI.out.keep hic1); clear hic1; clear n0 n1 n2 n3 m0 m1 m2 m3; obtain ⟨n0, n1, n2, n3, -⟩ := blkCells (HXc1.out.tl.hd); obtain ⟨m0, m1, m2, m3, -⟩ := blkCells (HXc1.out.hd)))
  go_ret
  exact ⟨rfl, HBc5.out⟩

set_option maxRecDepth 100000 in
set_option maxHeartbeats 8000000 in
theorem tsizes_path (w : World) (v u : Value) (n m : NT) (A : Option Addr) (p : List Int) (lp c : Nat) (hlp : p.length = lp) (hp50 : lp ≤ 50) (hc1 : lp ≤ c) (hF : (fewB 100 n && fewB 60 m && decide (lp ≤ 50)) = true) (hn : At w v n) (hm : At w u m) (hp : IL w w.heap.size A p) (hbd : ∀ x, getO n (upP p) = some x → x.ks.length < 1759218604441) (ha : addE n p m = (zeroT, 5)) (hpar : parentL p = (upP p, 0)) (lu : Nat) (hlu : (upP p).length = lu) (hlu5 : lu ≤ 50) (hg : getE n (upP p) = (zeroT, 5)) :
    Calls Try.prog 8 #[v, .slice A lp c, u] w (Still (.bool true) w) := by
  have hl1 : lp ≤ 9223372036854775807 := by omega
  have HLP := hd hlp
  have HBD := hd hbd
  have HFEW := hd hF
  obtain ⟨lf, PA, np, pc, TA, nt, tc, KA, nk, kc, rfl⟩ := hn.val
  obtain ⟨lf', PA', np', pc', TA', nt', tc', KA', nk', kc', rfl⟩ := hm.val
  obtain ⟨wb, hwb⟩ : ∃ wb, wb = (w.alloc (.cells #[.bool lf, .slice PA np pc, .slice TA nt tc, .slice KA nk kc] 26)).alloc (.cells #[.bool lf', .slice PA' np' pc', .slice TA' nt' tc', .slice KA' nk' kc'] 26) := ⟨_, rfl⟩
  have hb0 : Below w.heap.size w wb := hwb ▸ below_mono2 (Below.refl _ _) (Nat.le_refl _)
  have HB := hd hb0
  have HX := hd (show Holds [(w.heap.size + 1, .cells #[.bool lf', .slice PA' np' pc', .slice TA' nt' tc', .slice KA' nk' kc'] 26), (w.heap.size, .cells #[.bool lf, .slice PA np pc, .slice TA nt tc, .slice KA nk kc] 26)] wb from hwb ▸ holds2 w _ _)
  have HA := hd (((((Ats.nil w).add hn).add hm)).keep hb0)
  have HI := hd (((Ils.nil w).add hp).keep hb0)
  have HE := hd ha
  have HPAR := hd hpar
  have HUL := hd hlu
  have HG := hd hg
  clear ha hpar hlu hg
  clear hn hm hp hb0 hlp hbd hF
  obtain ⟨n0, n1, n2, n3, -⟩ := blkCells (HX.out.tl.hd)
  obtain ⟨m0, m1, m2, m3, -⟩ := blkCells (HX.out.hd)
  go_enter Try.func8, Try.ntmps8
  subst hwb
  go_wp2_with (first
    | (go_at_call 12; have _g := HBc4; clear _g; refine Calls.mono (get_l HG.out HUL.out (by omega) (HAc4.out.tl.tl.hd) (HIc4.out.hd)) ?_; intro e wc5 hc5; obtain ⟨lfc5, PAc5, npc5, pcc5, TAc5, ntc5, tcc5, KAc5, nkc5, kcc5, rfl, hTc5, hbc5⟩ := hc5.opn; have hic5 := hbc5.trans ((alloc_below _ (.cells #[.bool lfc5, .slice PAc5 npc5 pcc5, .slice TAc5 ntc5 tcc5, .slice KAc5 nkc5 kcc5] 26)).mono hbc5.size); have hBc5 := HBc4.out.trans (hbc5.mono HBc4.out.size); have HBc5 := hd (hBc5.alloc hBc5.size (.cells #[.bool lfc5, .slice PAc5 npc5 pcc5, .slice TAc5 ntc5 tcc5, .slice KAc5 nkc5 kcc5] 26)); have HXc5 := hd ((HXc4.out.keep hbc5).add (.cells #[.bool lfc5, .slice PAc5 npc5 pcc5, .slice TAc5 ntc5 tcc5, .slice KAc5 nkc5 kcc5] 26)); have HAc5 := hd (((HAc4.out.keep hbc5).add hTc5).keep (alloc_below _ (.cells #[.bool lfc5, .slice PAc5 npc5 pcc5, .slice TAc5 ntc5 tcc5, .slice KAc5 nkc5 kcc5] 26))); clear hTc5 hBc5 hbc5; have HIc5 := hd (HIc4.out.keep hic5); clear hic5; clear n0 n1 n2 n3)
    | (go_at_call 33; have _g := HBc3; clear _g; refine Calls.mono (par_l HPAR.out HLP.out (by omega) hc1 (HIc3.out.hd)) ?_; intro e wc4 hc4; obtain ⟨Ac4, cc4, rfl, hcc4, hIc4, hbc4⟩ := hc4.opnL HUL.out; have HIc4 := hd ((HIc3.out.keep hbc4).add hIc4); have HBc4 := hd (HBc3.out.trans (hbc4.mono HBc3.out.size)); have HXc4 := hd (HXc3.out.keep hbc4); have HAc4 := hd (HAc3.out.keep hbc4); clear hIc4 hbc4; obtain ⟨n0, n1, n2, n3, -⟩ := blkCells (HXc4.out.tl.tl.hd))
    | (go_at_call 16; have _g := HBc2; clear _g; refine Calls.mono (add_l HE.out HLP.out (by omega) hc1 (HAc2.out.tl.hd) (HAc2.out.hd) (HIc2.out.hd) HBD.out) ?_; intro e wc3 hc3; obtain ⟨lfc3, PAc3, npc3, pcc3, TAc3, ntc3, tcc3, KAc3, nkc3, kcc3, rfl, hTc3, hbc3⟩ := hc3.opn; have hic3 := hbc3.trans ((alloc_below _ (.cells #[.bool lfc3, .slice PAc3 npc3 pcc3, .slice TAc3 ntc3 tcc3, .slice KAc3 nkc3 kcc3] 26)).mono hbc3.size); have hBc3 := HBc2.out.trans (hbc3.mono HBc2.out.size); have HBc3 := hd (hBc3.alloc hBc3.size (.cells #[.bool lfc3, .slice PAc3 npc3 pcc3, .slice TAc3 ntc3 tcc3, .slice KAc3 nkc3 kcc3] 26)); have HXc3 := hd ((HXc2.out.keep hbc3).add (.cells #[.bool lfc3, .slice PAc3 npc3 pcc3, .slice TAc3 ntc3 tcc3, .slice KAc3 nkc3 kcc3] 26)); have HAc3 := hd (((HAc2.out.keep hbc3).add hTc3).keep (alloc_below _ (.cells #[.bool lfc3, .slice PAc3 npc3 pcc3, .slice TAc3 ntc3 tcc3, .slice KAc3 nkc3 kcc3] 26))); clear hTc3 hBc3 hbc3; have HIc3 := hd (HIc2.out.keep hic3); clear hic3; clear n0 n1 n2 n3 m0 m1 m2 m3)
    | (go_at_call 10; have _g := HBc1; clear _g; refine Calls.mono (few_at HFEW.out hl1 (HAc1.out.tl.hd) (HAc1.out.hd)) ?_; rintro e wc2 ⟨rfl, hbc2⟩; have hic2 := hbc2; have HBc2 := hd (HBc1.out.trans (hbc2.mono HBc1.out.size)); have HXc2 := hd (HXc1.out.keep hbc2); have HAc2 := hd (HAc1.out.keep hbc2); clear hbc2; have HIc2 := hd (HIc1.out.keep hic2); clear hic2; clear n0 n1 n2 n3 m0 m1 m2 m3; obtain ⟨n0, n1, n2, n3, -⟩ := blkCells (HXc2.out.tl.hd); obtain ⟨m0, m1, m2, m3, -⟩ := blkCells (HXc2.out.hd))
    | (go_at_call 9; have _g := HB; clear _g; refine Calls.mono (live5_any _) ?_; rintro e wc1 ⟨rfl, hbc1⟩; have hic1 := hbc1; have HBc1 := hd (HB.out.trans (hbc1.mono HB.out.size)); have HXc1 := hd (HX.out.keep hbc1); have HAc1 := hd (HA.out.keep hbc1); clear hbc1; have HIc1 := hd (HI.out.keep hic1); clear hic1; clear n0 n1 n2 n3 m0 m1 m2 m3; obtain ⟨n0, n1, n2, n3, -⟩ := blkCells (HXc1.out.tl.hd); obtain ⟨m0, m1, m2, m3, -⟩ := blkCells (HXc1.out.hd)))
  go_ret
  exact ⟨rfl, HBc5.out⟩

set_option maxRecDepth 100000 in
set_option maxHeartbeats 8000000 in
theorem tsizes_leaf (w : World) (v u : Value) (n m : NT) (A : Option Addr) (p : List Int) (lp c : Nat) (hlp : p.length = lp) (hp50 : lp ≤ 50) (hc1 : lp ≤ c) (hF : (fewB 100 n && fewB 60 m && decide (lp ≤ 50)) = true) (hn : At w v n) (hm : At w u m) (hp : IL w w.heap.size A p) (hbd : ∀ x, getO n (upP p) = some x → x.ks.length < 1759218604441) (ha : addE n p m = (zeroT, 7)) (hpar : parentL p = (upP p, 0)) (lu : Nat) (hlu : (upP p).length = lu) (hlu5 : lu ≤ 50) (x : NT) (hg : getE n (upP p) = (x, 0)) (hlf : x.lf = true) :
    Calls Try.prog 8 #[v, .slice A lp c, u] w (Still (.bool true) w) := by
  have hl1 : lp ≤ 9223372036854775807 := by omega
  have HLP := hd hlp
  have HBD := hd hbd
  have HFEW := hd hF
  obtain ⟨lf, PA, np, pc, TA, nt, tc, KA, nk, kc, rfl⟩ := hn.val
  obtain ⟨lf', PA', np', pc', TA', nt', tc', KA', nk', kc', rfl⟩ := hm.val
  obtain ⟨wb, hwb⟩ : ∃ wb, wb = (w.alloc (.cells #[.bool lf, .slice PA np pc, .slice TA nt tc, .slice KA nk kc] 26)).alloc (.cells #[.bool lf', .slice PA' np' pc', .slice TA' nt' tc', .slice KA' nk' kc'] 26) := ⟨_, rfl⟩
  have hb0 : Below w.heap.size w wb := hwb ▸ below_mono2 (Below.refl _ _) (Nat.le_refl _)
  have HB := hd hb0
  have HX := hd (show Holds [(w.heap.size + 1, .cells #[.bool lf', .slice PA' np' pc', .slice TA' nt' tc', .slice KA' nk' kc'] 26), (w.heap.size, .cells #[.bool lf, .slice PA np pc, .slice TA nt tc, .slice KA nk kc] 26)] wb from hwb ▸ holds2 w _ _)
  have HA := hd (((((Ats.nil w).add hn).add hm)).keep hb0)
  have HI := hd (((Ils.nil w).add hp).keep hb0)
  have HE := hd ha
  have HPAR := hd hpar
  have HUL := hd hlu
  have HG := hd hg
  obtain ⟨kx, hkx⟩ : ∃ kx, kx = x.ks.length := ⟨_, rfl⟩
  have HKL := hd hkx.symm
  have HLF := hd hlf
  clear ha hpar hlu hg hlf hkx
  clear hn hm hp hb0 hlp hbd hF
  obtain ⟨n0, n1, n2, n3, -⟩ := blkCells (HX.out.tl.hd)
  obtain ⟨m0, m1, m2, m3, -⟩ := blkCells (HX.out.hd)
  go_enter Try.func8, Try.ntmps8
  subst hwb
  go_wp2_with (first
    | (go_at_call 12; have _g := HBc4; clear _g; refine Calls.mono (get_l HG.out HUL.out (by omega) (HAc4.out.tl.tl.hd) (HIc4.out.hd)) ?_; intro e wc5 hc5; obtain ⟨PAc5, npc5, pcc5, TAc5, ntc5, tcc5, KAc5, kcc5, rfl, hTc5, hbc5⟩ := hc5.opnF HLF.out HKL.out; have hic5 := hbc5.trans ((alloc_below _ (.cells #[.bool true, .slice PAc5 npc5 pcc5, .slice TAc5 ntc5 tcc5, .slice KAc5 (kx) kcc5] 26)).mono hbc5.size); have hBc5 := HBc4.out.trans (hbc5.mono HBc4.out.size); have HBc5 := hd (hBc5.alloc hBc5.size (.cells #[.bool true, .slice PAc5 npc5 pcc5, .slice TAc5 ntc5 tcc5, .slice KAc5 (kx) kcc5] 26)); have HXc5 := hd ((HXc4.out.keep hbc5).add (.cells #[.bool true, .slice PAc5 npc5 pcc5, .slice TAc5 ntc5 tcc5, .slice KAc5 (kx) kcc5] 26)); have HAc5 := hd (((HAc4.out.keep hbc5).add hTc5).keep (alloc_below _ (.cells #[.bool true, .slice PAc5 npc5 pcc5, .slice TAc5 ntc5 tcc5, .slice KAc5 (kx) kcc5] 26))); clear hTc5 hBc5 hbc5; have HIc5 := hd (HIc4.out.keep hic5); clear hic5; clear n0 n1 n2 n3; obtain ⟨b0, b1, b2, b3, -⟩ := blkCells (HXc5.out.hd))
    | (go_at_call 33; have _g := HBc3; clear _g; refine Calls.mono (par_l HPAR.out HLP.out (by omega) hc1 (HIc3.out.hd)) ?_; intro e wc4 hc4; obtain ⟨Ac4, cc4, rfl, hcc4, hIc4, hbc4⟩ := hc4.opnL HUL.out; have HIc4 := hd ((HIc3.out.keep hbc4).add hIc4); have HBc4 := hd (HBc3.out.trans (hbc4.mono HBc3.out.size)); have HXc4 := hd (HXc3.out.keep hbc4); have HAc4 := hd (HAc3.out.keep hbc4); clear hIc4 hbc4; obtain ⟨n0, n1, n2, n3, -⟩ := blkCells (HXc4.out.tl.tl.hd))
    | (go_at_call 16; have _g := HBc2; clear _g; refine Calls.mono (add_l HE.out HLP.out (by omega) hc1 (HAc2.out.tl.hd) (HAc2.out.hd) (HIc2.out.hd) HBD.out) ?_; intro e wc3 hc3; obtain ⟨lfc3, PAc3, npc3, pcc3, TAc3, ntc3, tcc3, KAc3, nkc3, kcc3, rfl, hTc3, hbc3⟩ := hc3.opn; have hic3 := hbc3.trans ((alloc_below _ (.cells #[.bool lfc3, .slice PAc3 npc3 pcc3, .slice TAc3 ntc3 tcc3, .slice KAc3 nkc3 kcc3] 26)).mono hbc3.size); have hBc3 := HBc2.out.trans (hbc3.mono HBc2.out.size); have HBc3 := hd (hBc3.alloc hBc3.size (.cells #[.bool lfc3, .slice PAc3 npc3 pcc3, .slice TAc3 ntc3 tcc3, .slice KAc3 nkc3 kcc3] 26)); have HXc3 := hd ((HXc2.out.keep hbc3).add (.cells #[.bool lfc3, .slice PAc3 npc3 pcc3, .slice TAc3 ntc3 tcc3, .slice KAc3 nkc3 kcc3] 26)); have HAc3 := hd (((HAc2.out.keep hbc3).add hTc3).keep (alloc_below _ (.cells #[.bool lfc3, .slice PAc3 npc3 pcc3, .slice TAc3 ntc3 tcc3, .slice KAc3 nkc3 kcc3] 26))); clear hTc3 hBc3 hbc3; have HIc3 := hd (HIc2.out.keep hic3); clear hic3; clear n0 n1 n2 n3 m0 m1 m2 m3)
    | (go_at_call 10; have _g := HBc1; clear _g; refine Calls.mono (few_at HFEW.out hl1 (HAc1.out.tl.hd) (HAc1.out.hd)) ?_; rintro e wc2 ⟨rfl, hbc2⟩; have hic2 := hbc2; have HBc2 := hd (HBc1.out.trans (hbc2.mono HBc1.out.size)); have HXc2 := hd (HXc1.out.keep hbc2); have HAc2 := hd (HAc1.out.keep hbc2); clear hbc2; have HIc2 := hd (HIc1.out.keep hic2); clear hic2; clear n0 n1 n2 n3 m0 m1 m2 m3; obtain ⟨n0, n1, n2, n3, -⟩ := blkCells (HXc2.out.tl.hd); obtain ⟨m0, m1, m2, m3, -⟩ := blkCells (HXc2.out.hd))
    | (go_at_call 9; have _g := HB; clear _g; refine Calls.mono (live5_any _) ?_; rintro e wc1 ⟨rfl, hbc1⟩; have hic1 := hbc1; have HBc1 := hd (HB.out.trans (hbc1.mono HB.out.size)); have HXc1 := hd (HX.out.keep hbc1); have HAc1 := hd (HA.out.keep hbc1); clear hbc1; have HIc1 := hd (HI.out.keep hic1); clear hic1; clear n0 n1 n2 n3 m0 m1 m2 m3; obtain ⟨n0, n1, n2, n3, -⟩ := blkCells (HXc1.out.tl.hd); obtain ⟨m0, m1, m2, m3, -⟩ := blkCells (HXc1.out.hd)))
  go_ret
  exact ⟨rfl, HBc5.out⟩

set_option maxRecDepth 100000 in
set_option maxHeartbeats 8000000 in
theorem tsizes_pos (w : World) (v u : Value) (n m : NT) (A : Option Addr) (p : List Int) (lp c : Nat) (hlp : p.length = lp) (hp50 : lp ≤ 50) (hc1 : lp ≤ c) (hF : (fewB 100 n && fewB 60 m && decide (lp ≤ 50)) = true) (hn : At w v n) (hm : At w u m) (hp : IL w w.heap.size A p) (hbd : ∀ x, getO n (upP p) = some x → x.ks.length < 1759218604441) (ha : addE n p m = (zeroT, 8)) (hpar : parentL p = (upP p, 0)) (lu : Nat) (hlu : (upP p).length = lu) (hlu5 : lu ≤ 50) (x : NT) (hg : getE n (upP p) = (x, 0)) (hlf : x.lf = false) :
    Calls Try.prog 8 #[v, .slice A lp c, u] w (Still (.bool true) w) := by
  have hl1 : lp ≤ 9223372036854775807 := by omega
  have HLP := hd hlp
  have HBD := hd hbd
  have HFEW := hd hF
  obtain ⟨lf, PA, np, pc, TA, nt, tc, KA, nk, kc, rfl⟩ := hn.val
  obtain ⟨lf', PA', np', pc', TA', nt', tc', KA', nk', kc', rfl⟩ := hm.val
  obtain ⟨wb, hwb⟩ : ∃ wb, wb = (w.alloc (.cells #[.bool lf, .slice PA np pc, .slice TA nt tc, .slice KA nk kc] 26)).alloc (.cells #[.bool lf', .slice PA' np' pc', .slice TA' nt' tc', .slice KA' nk' kc'] 26) := ⟨_, rfl⟩
  have hb0 : Below w.heap.size w wb := hwb ▸ below_mono2 (Below.refl _ _) (Nat.le_refl _)
  have HB := hd hb0
  have HX := hd (show Holds [(w.heap.size + 1, .cells #[.bool lf', .slice PA' np' pc', .slice TA' nt' tc', .slice KA' nk' kc'] 26), (w.heap.size, .cells #[.bool lf, .slice PA np pc, .slice TA nt tc, .slice KA nk kc] 26)] wb from hwb ▸ holds2 w _ _)
  have HA := hd (((((Ats.nil w).add hn).add hm)).keep hb0)
  have HI := hd (((Ils.nil w).add hp).keep hb0)
  have HE := hd ha
  have HPAR := hd hpar
  have HUL := hd hlu
  have HG := hd hg
  obtain ⟨kx, hkx⟩ : ∃ kx, kx = x.ks.length := ⟨_, rfl⟩
  have HKL := hd hkx.symm
  have HLF := hd hlf
  clear ha hpar hlu hg hlf hkx
  clear hn hm hp hb0 hlp hbd hF
  obtain ⟨n0, n1, n2, n3, -⟩ := blkCells (HX.out.tl.hd)
  obtain ⟨m0, m1, m2, m3, -⟩ := blkCells (HX.out.hd)
  go_enter Try.func8, Try.ntmps8
  subst hwb
  go_wp2_with (first
    | (go_at_call 12; have _g := HBc4; clear _g; refine Calls.mono (get_l HG.out HUL.out (by omega) (HAc4.out.tl.tl.hd) (HIc4.out.hd)) ?_; intro e wc5 hc5; obtain ⟨PAc5, npc5, pcc5, TAc5, ntc5, tcc5, KAc5, kcc5, rfl, hTc5, hbc5⟩ := hc5.opnF HLF.out HKL.out; have hic5 := hbc5.trans ((alloc_below _ (.cells #[.bool false, .slice PAc5 npc5 pcc5, .slice TAc5 ntc5 tcc5, .slice KAc5 (kx) kcc5] 26)).mono hbc5.size); have hBc5 := HBc4.out.trans (hbc5.mono HBc4.out.size); have HBc5 := hd (hBc5.alloc hBc5.size (.cells #[.bool false, .slice PAc5 npc5 pcc5, .slice TAc5 ntc5 tcc5, .slice KAc5 (kx) kcc5] 26)); have HXc5 := hd ((HXc4.out.keep hbc5).add (.cells #[.bool false, .slice PAc5 npc5 pcc5, .slice TAc5 ntc5 tcc5, .slice KAc5 (kx) kcc5] 26)); have HAc5 := hd (((HAc4.out.keep hbc5).add hTc5).keep (alloc_below _ (.cells #[.bool false, .slice PAc5 npc5 pcc5, .slice TAc5 ntc5 tcc5, .slice KAc5 (kx) kcc5] 26))); clear hTc5 hBc5 hbc5; have HIc5 := hd (HIc4.out.keep hic5); clear hic5; clear n0 n1 n2 n3; obtain ⟨b0, b1, b2, b3, -⟩ := blkCells (HXc5.out.hd))
    | (go_at_call 33; have _g := HBc3; clear _g; refine Calls.mono (par_l HPAR.out HLP.out (by omega) hc1 (HIc3.out.hd)) ?_; intro e wc4 hc4; obtain ⟨Ac4, cc4, rfl, hcc4, hIc4, hbc4⟩ := hc4.opnL HUL.out; have HIc4 := hd ((HIc3.out.keep hbc4).add hIc4); have HBc4 := hd (HBc3.out.trans (hbc4.mono HBc3.out.size)); have HXc4 := hd (HXc3.out.keep hbc4); have HAc4 := hd (HAc3.out.keep hbc4); clear hIc4 hbc4; obtain ⟨n0, n1, n2, n3, -⟩ := blkCells (HXc4.out.tl.tl.hd))
    | (go_at_call 16; have _g := HBc2; clear _g; refine Calls.mono (add_l HE.out HLP.out (by omega) hc1 (HAc2.out.tl.hd) (HAc2.out.hd) (HIc2.out.hd) HBD.out) ?_; intro e wc3 hc3; obtain ⟨lfc3, PAc3, npc3, pcc3, TAc3, ntc3, tcc3, KAc3, nkc3, kcc3, rfl, hTc3, hbc3⟩ := hc3.opn; have hic3 := hbc3.trans ((alloc_below _ (.cells #[.bool lfc3, .slice PAc3 npc3 pcc3, .slice TAc3 ntc3 tcc3, .slice KAc3 nkc3 kcc3] 26)).mono hbc3.size); have hBc3 := HBc2.out.trans (hbc3.mono HBc2.out.size); have HBc3 := hd (hBc3.alloc hBc3.size (.cells #[.bool lfc3, .slice PAc3 npc3 pcc3, .slice TAc3 ntc3 tcc3, .slice KAc3 nkc3 kcc3] 26)); have HXc3 := hd ((HXc2.out.keep hbc3).add (.cells #[.bool lfc3, .slice PAc3 npc3 pcc3, .slice TAc3 ntc3 tcc3, .slice KAc3 nkc3 kcc3] 26)); have HAc3 := hd (((HAc2.out.keep hbc3).add hTc3).keep (alloc_below _ (.cells #[.bool lfc3, .slice PAc3 npc3 pcc3, .slice TAc3 ntc3 tcc3, .slice KAc3 nkc3 kcc3] 26))); clear hTc3 hBc3 hbc3; have HIc3 := hd (HIc2.out.keep hic3); clear hic3; clear n0 n1 n2 n3 m0 m1 m2 m3)
    | (go_at_call 10; have _g := HBc1; clear _g; refine Calls.mono (few_at HFEW.out hl1 (HAc1.out.tl.hd) (HAc1.out.hd)) ?_; rintro e wc2 ⟨rfl, hbc2⟩; have hic2 := hbc2; have HBc2 := hd (HBc1.out.trans (hbc2.mono HBc1.out.size)); have HXc2 := hd (HXc1.out.keep hbc2); have HAc2 := hd (HAc1.out.keep hbc2); clear hbc2; have HIc2 := hd (HIc1.out.keep hic2); clear hic2; clear n0 n1 n2 n3 m0 m1 m2 m3; obtain ⟨n0, n1, n2, n3, -⟩ := blkCells (HXc2.out.tl.hd); obtain ⟨m0, m1, m2, m3, -⟩ := blkCells (HXc2.out.hd))
    | (go_at_call 9; have _g := HB; clear _g; refine Calls.mono (live5_any _) ?_; rintro e wc1 ⟨rfl, hbc1⟩; have hic1 := hbc1; have HBc1 := hd (HB.out.trans (hbc1.mono HB.out.size)); have HXc1 := hd (HX.out.keep hbc1); have HAc1 := hd (HA.out.keep hbc1); clear hbc1; have HIc1 := hd (HI.out.keep hic1); clear hic1; clear n0 n1 n2 n3 m0 m1 m2 m3; obtain ⟨n0, n1, n2, n3, -⟩ := blkCells (HXc1.out.tl.hd); obtain ⟨m0, m1, m2, m3, -⟩ := blkCells (HXc1.out.hd)))
  go_ret
  exact ⟨rfl, HBc5.out⟩

set_option maxRecDepth 100000 in
set_option maxHeartbeats 8000000 in
theorem tsizes_ok (w : World) (v u : Value) (n m : NT) (A : Option Addr) (p : List Int) (lp c : Nat) (hlp : p.length = lp) (hp50 : lp ≤ 50) (hc1 : lp ≤ c) (hF : (fewB 100 n && fewB 60 m && decide (lp ≤ 50)) = true) (hn : At w v n) (hm : At w u m) (hp : IL w w.heap.size A p) (hbd : ∀ x, getO n (upP p) = some x → x.ks.length < 1759218604441) (a x y : NT) (ha : addE n p m = (a, 0)) (hpar : parentL p = (upP p, 0)) (lu : Nat) (hlu : (upP p).length = lu) (hlu5 : lu ≤ 50) (hg : getE n (upP p) = (x, 0)) (hga : getE a (upP p) = (y, 0)) (hlf : x.lf = false) (hkl : x.ks.length < 1759218604441) (hyl : y.ks.length = x.ks.length + 1) (hsz : sizeT a = sizeT n + sizeT m) :
    Calls Try.prog 8 #[v, .slice A lp c, u] w (Still (.bool true) w) := by
  have hl1 : lp ≤ 9223372036854775807 := by omega
  have HLP := hd hlp
  have HBD := hd hbd
  have HFEW := hd hF
  obtain ⟨lf, PA, np, pc, TA, nt, tc, KA, nk, kc, rfl⟩ := hn.val
  obtain ⟨lf', PA', np', pc', TA', nt', tc', KA', nk', kc', rfl⟩ := hm.val
  obtain ⟨wb, hwb⟩ : ∃ wb, wb = (w.alloc (.cells #[.bool lf, .slice PA np pc, .slice TA nt tc, .slice KA nk kc] 26)).alloc (.cells #[.bool lf', .slice PA' np' pc', .slice TA' nt' tc', .slice KA' nk' kc'] 26) := ⟨_, rfl⟩
  have hb0 : Below w.heap.size w wb := hwb ▸ below_mono2 (Below.refl _ _) (Nat.le_refl _)
  have HB := hd hb0
  have HX := hd (show Holds [(w.heap.size + 1, .cells #[.bool lf', .slice PA' np' pc', .slice TA' nt' tc', .slice KA' nk' kc'] 26), (w.heap.size, .cells #[.bool lf, .slice PA np pc, .slice TA nt tc, .slice KA nk kc] 26)] wb from hwb ▸ holds2 w _ _)
  have HA := hd (((((Ats.nil w).add hn).add hm)).keep hb0)
  have HI := hd (((Ils.nil w).add hp).keep hb0)
  have HE := hd ha
  have HPAR := hd hpar
  have HUL := hd hlu
  have HG := hd hg
  have HGA := hd hga
  obtain ⟨kx, hkx⟩ : ∃ kx, kx = x.ks.length := ⟨_, rfl⟩
  have HKL := hd hkx.symm
  have HLF := hd hlf
  rw [← hkx] at hyl hkl
  have HYL := hd hyl
  obtain ⟨yl, hyf⟩ : ∃ yl, yl = y.lf := ⟨_, rfl⟩
  have HYF := hd hyf.symm
  obtain ⟨zn, hzn⟩ : ∃ zn, wrap64 (sizeT n) = zn := ⟨_, rfl⟩
  obtain ⟨zm, hzm⟩ : ∃ zm, wrap64 (sizeT m) = zm := ⟨_, rfl⟩
  obtain ⟨za, hza⟩ : ∃ za, wrap64 (sizeT a) = za := ⟨_, rfl⟩
  have hze : za = wrap64 (zn + zm) := by rw [← hza, ← hzn, ← hzm, hsz, wrap_add, wrap_add', Int.natCast_add]
  have hzz : (za == wrap64 (zn + zm)) = true := beq_iff_eq.2 hze
  clear hze
  have hzk : wrap64 ((kx : Int) + 1) = (kx : Int) + 1 := wrap_id _ (by omega) (by omega)
  have HZN := hd hzn
  have HZM := hd hzm
  have HZA := hd hza
  clear ha hpar hlu hg hga hlf hkx hyl hyf hsz hzn hzm hza
  clear hn hm hp hb0 hlp hbd hF
  obtain ⟨n0, n1, n2, n3, -⟩ := blkCells (HX.out.tl.hd)
  obtain ⟨m0, m1, m2, m3, -⟩ := blkCells (HX.out.hd)
  go_enter Try.func8, Try.ntmps8
  subst hwb
  go_wp2_with (first
    | (go_at_call 12; have _g := HBc5; clear _g; refine Calls.mono (get_l HGA.out HUL.out (by omega) (HAc5.out.tl.hd) (HIc5.out.hd)) ?_; intro e wc6 hc6; obtain ⟨PAc6, npc6, pcc6, TAc6, ntc6, tcc6, KAc6, kcc6, rfl, hTc6, hbc6⟩ := hc6.opnF HYF.out HYL.out; have hic6 := hbc6.trans ((alloc_below _ (.cells #[.bool yl, .slice PAc6 npc6 pcc6, .slice TAc6 ntc6 tcc6, .slice KAc6 (kx + 1) kcc6] 26)).mono hbc6.size); have hBc6 := HBc5.out.trans (hbc6.mono HBc5.out.size); have HBc6 := hd (hBc6.alloc hBc6.size (.cells #[.bool yl, .slice PAc6 npc6 pcc6, .slice TAc6 ntc6 tcc6, .slice KAc6 (kx + 1) kcc6] 26)); have HXc6 := hd ((HXc5.out.keep hbc6).add (.cells #[.bool yl, .slice PAc6 npc6 pcc6, .slice TAc6 ntc6 tcc6, .slice KAc6 (kx + 1) kcc6] 26)); have HAc6 := hd (((HAc5.out.keep hbc6).add hTc6).keep (alloc_below _ (.cells #[.bool yl, .slice PAc6 npc6 pcc6, .slice TAc6 ntc6 tcc6, .slice KAc6 (kx + 1) kcc6] 26))); clear hTc6 hBc6 hbc6; have HIc6 := hd (HIc5.out.keep hic6); clear hic6; clear a0 a1 a2 a3)
    | (go_at_call 12; have _g := HBc4; clear _g; refine Calls.mono (get_l HG.out HUL.out (by omega) (HAc4.out.tl.tl.hd) (HIc4.out.hd)) ?_; intro e wc5 hc5; obtain ⟨PAc5, npc5, pcc5, TAc5, ntc5, tcc5, KAc5, kcc5, rfl, hTc5, hbc5⟩ := hc5.opnF HLF.out HKL.out; have hic5 := hbc5.trans ((alloc_below _ (.cells #[.bool false, .slice PAc5 npc5 pcc5, .slice TAc5 ntc5 tcc5, .slice KAc5 (kx) kcc5] 26)).mono hbc5.size); have hBc5 := HBc4.out.trans (hbc5.mono HBc4.out.size); have HBc5 := hd (hBc5.alloc hBc5.size (.cells #[.bool false, .slice PAc5 npc5 pcc5, .slice TAc5 ntc5 tcc5, .slice KAc5 (kx) kcc5] 26)); have HXc5 := hd ((HXc4.out.keep hbc5).add (.cells #[.bool false, .slice PAc5 npc5 pcc5, .slice TAc5 ntc5 tcc5, .slice KAc5 (kx) kcc5] 26)); have HAc5 := hd (((HAc4.out.keep hbc5).add hTc5).keep (alloc_below _ (.cells #[.bool false, .slice PAc5 npc5 pcc5, .slice TAc5 ntc5 tcc5, .slice KAc5 (kx) kcc5] 26))); clear hTc5 hBc5 hbc5; have HIc5 := hd (HIc4.out.keep hic5); clear hic5; clear n0 n1 n2 n3; obtain ⟨a0, a1, a2, a3, -⟩ := blkCells (HXc5.out.tl.hd))
    | (go_at_call 33; have _g := HBc3; clear _g; refine Calls.mono (par_l HPAR.out HLP.out (by omega) hc1 (HIc3.out.hd)) ?_; intro e wc4 hc4; obtain ⟨Ac4, cc4, rfl, hcc4, hIc4, hbc4⟩ := hc4.opnL HUL.out; have HIc4 := hd ((HIc3.out.keep hbc4).add hIc4); have HBc4 := hd (HBc3.out.trans (hbc4.mono HBc3.out.size)); have HXc4 := hd (HXc3.out.keep hbc4); have HAc4 := hd (HAc3.out.keep hbc4); clear hIc4 hbc4; obtain ⟨n0, n1, n2, n3, -⟩ := blkCells (HXc4.out.tl.tl.hd))
    | (go_at_call 16; have _g := HBc2; clear _g; refine Calls.mono (add_l HE.out HLP.out (by omega) hc1 (HAc2.out.tl.hd) (HAc2.out.hd) (HIc2.out.hd) HBD.out) ?_; intro e wc3 hc3; obtain ⟨lfc3, PAc3, npc3, pcc3, TAc3, ntc3, tcc3, KAc3, nkc3, kcc3, rfl, hTc3, hbc3⟩ := hc3.opn; have hic3 := hbc3.trans ((alloc_below _ (.cells #[.bool lfc3, .slice PAc3 npc3 pcc3, .slice TAc3 ntc3 tcc3, .slice KAc3 nkc3 kcc3] 26)).mono hbc3.size); have hBc3 := HBc2.out.trans (hbc3.mono HBc2.out.size); have HBc3 := hd (hBc3.alloc hBc3.size (.cells #[.bool lfc3, .slice PAc3 npc3 pcc3, .slice TAc3 ntc3 tcc3, .slice KAc3 nkc3 kcc3] 26)); have HXc3 := hd ((HXc2.out.keep hbc3).add (.cells #[.bool lfc3, .slice PAc3 npc3 pcc3, .slice TAc3 ntc3 tcc3, .slice KAc3 nkc3 kcc3] 26)); have HAc3 := hd (((HAc2.out.keep hbc3).add hTc3).keep (alloc_below _ (.cells #[.bool lfc3, .slice PAc3 npc3 pcc3, .slice TAc3 ntc3 tcc3, .slice KAc3 nkc3 kcc3] 26))); clear hTc3 hBc3 hbc3; have HIc3 := hd (HIc2.out.keep hic3); clear hic3; clear n0 n1 n2 n3 m0 m1 m2 m3)
    | (go_at_call 10; have _g := HBc1; clear _g; refine Calls.mono (few_at HFEW.out hl1 (HAc1.out.tl.hd) (HAc1.out.hd)) ?_; rintro e wc2 ⟨rfl, hbc2⟩; have hic2 := hbc2; have HBc2 := hd (HBc1.out.trans (hbc2.mono HBc1.out.size)); have HXc2 := hd (HXc1.out.keep hbc2); have HAc2 := hd (HAc1.out.keep hbc2); clear hbc2; have HIc2 := hd (HIc1.out.keep hic2); clear hic2; clear n0 n1 n2 n3 m0 m1 m2 m3; obtain ⟨n0, n1, n2, n3, -⟩ := blkCells (HXc2.out.tl.hd); obtain ⟨m0, m1, m2, m3, -⟩ := blkCells (HXc2.out.hd))
    | (go_at_call 9; have _g := HB; clear _g; refine Calls.mono (live5_any _) ?_; rintro e wc1 ⟨rfl, hbc1⟩; have hic1 := hbc1; have HBc1 := hd (HB.out.trans (hbc1.mono HB.out.size)); have HXc1 := hd (HX.out.keep hbc1); have HAc1 := hd (HA.out.keep hbc1); clear hbc1; have HIc1 := hd (HI.out.keep hic1); clear hic1; clear n0 n1 n2 n3 m0 m1 m2 m3; obtain ⟨n0, n1, n2, n3, -⟩ := blkCells (HXc1.out.tl.hd); obtain ⟨m0, m1, m2, m3, -⟩ := blkCells (HXc1.out.hd)))
  generalize hW0 : World.alloc wc6 _ = W0
  have HBd := hd (show Below w.heap.size w W0 from hW0 ▸ HBc6.out)
  have HXd := hd (show Holds _ W0 from hW0 ▸ HXc6.out)
  have HAd := hd (show Ats _ W0 from hW0 ▸ HAc6.out)
  clear hW0
  have HSN := fun u : Later W0.heap.size W0 => hd (size_at HZN.out ((HAd.out.tl.tl.tl.tl.hd).later u.2))
  have HSM := fun u : Later W0.heap.size W0 => hd (size_at HZM.out ((HAd.out.tl.tl.tl.hd).later u.2))
  have HSA := fun u : Later W0.heap.size W0 => hd (size_at HZA.out ((HAd.out.tl.tl.hd).later u.2))
  obtain ⟨n0, n1, n2, n3, -⟩ := blkCells (HXd.out.tl.tl.tl.tl.hd)
  obtain ⟨m0, m1, m2, m3, -⟩ := blkCells (HXd.out.tl.tl.tl.hd)
  obtain ⟨a0, a1, a2, a3, -⟩ := blkCells (HXd.out.tl.tl.hd)
  obtain ⟨b0, b1, b2, b3, -⟩ := blkCells (HXd.out.tl.hd)
  obtain ⟨c0, c1, c2, c3, -⟩ := blkCells (HXd.out.hd)
  have ln0 := later_cell n0
  have ln1 := later_cell n1
  have ln2 := later_cell n2
  have ln3 := later_cell n3
  have lm0 := later_cell m0
  have lm1 := later_cell m1
  have lm2 := later_cell m2
  have lm3 := later_cell m3
  have la0 := later_cell a0
  have la1 := later_cell a1
  have la2 := later_cell a2
  have la3 := later_cell a3
  have lb3 := later_cell b3
  have lc3 := later_cell c3
  clear n0 n1 n2 n3 m0 m1 m2 m3 a0 a1 a2 a3 b0 b1 b2 b3 c0 c1 c2 c3
  refine wp_region_later W0.heap.size (by kernel_rfl) (by kernel_rfl) ?_
  repeat (go_big_quiet_step (first | exact later_in (Nat.le_refl _) (HSA _).out | exact later_in (Nat.le_refl _) (HSN _).out | exact later_in (Nat.le_refl _) (HSM _).out))
  refine wpQuiet_nil ?_
  intro _ hu
  obtain ⟨⟨_, hw2⟩, rfl⟩ := hu
  go_wp2
  go_ret
  exact ⟨rfl, HBd.out.trans (hw2.mono HBd.out.size)⟩

set_option maxRecDepth 100000 in
set_option maxHeartbeats 8000000 in
theorem tsizes_no (w : World) (v u : Value) (n m : NT) (A : Option Addr) (p : List Int) (lp c : Nat) (_hlp : p.length = lp) (hl1 : lp ≤ 9223372036854775807) (hF : (fewB 100 n && fewB 60 m && decide (lp ≤ 50)) = false) (hn : At w v n) (hm : At w u m) (hp : IL w w.heap.size A p) :
    Calls Try.prog 8 #[v, .slice A lp c, u] w (Still (.bool true) w) := by
  have HFEW := hd hF
  obtain ⟨lf, PA, np, pc, TA, nt, tc, KA, nk, kc, rfl⟩ := hn.val
  obtain ⟨lf', PA', np', pc', TA', nt', tc', KA', nk', kc', rfl⟩ := hm.val
  obtain ⟨wb, hwb⟩ : ∃ wb, wb = (w.alloc (.cells #[.bool lf, .slice PA np pc, .slice TA nt tc, .slice KA nk kc] 26)).alloc (.cells #[.bool lf', .slice PA' np' pc', .slice TA' nt' tc', .slice KA' nk' kc'] 26) := ⟨_, rfl⟩
  have hb0 : Below w.heap.size w wb := hwb ▸ below_mono2 (Below.refl _ _) (Nat.le_refl _)
  have HB := hd hb0
  have HX := hd (show Holds [(w.heap.size + 1, .cells #[.bool lf', .slice PA' np' pc', .slice TA' nt' tc', .slice KA' nk' kc'] 26), (w.heap.size, .cells #[.bool lf, .slice PA np pc, .slice TA nt tc, .slice KA nk kc] 26)] wb from hwb ▸ holds2 w _ _)
  have HA := hd (((((Ats.nil w).add hn).add hm)).keep hb0)
  have HI := hd (((Ils.nil w).add hp).keep hb0)
  clear hn hm hp hb0 hF
  obtain ⟨n0, n1, n2, n3, -⟩ := blkCells (HX.out.tl.hd)
  obtain ⟨m0, m1, m2, m3, -⟩ := blkCells (HX.out.hd)
  go_enter Try.func8, Try.ntmps8
  subst hwb
  go_wp2_with (first
    | (go_at_call 10; have _g := HBc1; clear _g; refine Calls.mono (few_at HFEW.out hl1 (HAc1.out.tl.hd) (HAc1.out.hd)) ?_; rintro e wc2 ⟨rfl, hbc2⟩; have hic2 := hbc2; have HBc2 := hd (HBc1.out.trans (hbc2.mono HBc1.out.size)); have HXc2 := hd (HXc1.out.keep hbc2); have HAc2 := hd (HAc1.out.keep hbc2); clear hbc2; have HIc2 := hd (HIc1.out.keep hic2); clear hic2; clear n0 n1 n2 n3 m0 m1 m2 m3)
    | (go_at_call 9; have _g := HB; clear _g; refine Calls.mono (live5_any _) ?_; rintro e wc1 ⟨rfl, hbc1⟩; have hic1 := hbc1; have HBc1 := hd (HB.out.trans (hbc1.mono HB.out.size)); have HXc1 := hd (HX.out.keep hbc1); have HAc1 := hd (HA.out.keep hbc1); clear hbc1; have HIc1 := hd (HI.out.keep hic1); clear hic1; clear n0 n1 n2 n3 m0 m1 m2 m3; obtain ⟨n0, n1, n2, n3, -⟩ := blkCells (HXc1.out.tl.hd); obtain ⟨m0, m1, m2, m3, -⟩ := blkCells (HXc1.out.hd)))
  go_ret
  exact ⟨rfl, HBc2.out⟩

theorem tsizes_law (w : World) (v u : Value) (n m : NT) (A : Option Addr) (p : List Int) (c : Nat) (hl1 : p.length ≤ 9223372036854775807) (hc1 : p.length ≤ c) (htight : TightT n) (hn : At w v n) (hm : At w u m) (hp : IL w w.heap.size A p) :
    Calls Try.prog 8 #[v, .slice A p.length c, u] w (Still (.bool true) w) := by
  have hbd : ∀ x, getO n (upP p) = some x → x.ks.length < 1759218604441 := fun x hx => by have := (tight_get n _ x htight hx).len; omega
  cases hF : (fewB 100 n && fewB 60 m && decide (p.length ≤ 50)) with
  | false => exact tsizes_no w v u n m A p _ c rfl hl1 hF hn hm hp
  | true =>
  have hp50 : p.length ≤ 50 := by
    have h := hF
    simp only [Bool.and_eq_true, decide_eq_true_iff] at h
    exact h.2
  by_cases hp0 : p.length = 0
  · exact tsizes_root w v u n m A p _ c rfl hp50 hc1 hF hn hm hp hbd (by unfold addE; rw [if_pos hp0]) (parent_nil hp0) 0 rfl (by omega)
  · have HPAR0 := parent_cons (p := p) (k := p.length - 1) (by omega)
    have hpar : parentL p = (upP p, 0) := by rw [HPAR0.1, HPAR0.2.1]
    have hul : (upP p).length ≤ 50 := by unfold upP; rw [List.length_take]; omega
    have heq : addE n p m = chgT (addF (lastL p) m) n (upP p) := by unfold addE; rw [if_neg hp0]
    cases hx : getO n (upP p) with
    | none => exact tsizes_path w v u n m A p _ c rfl hp50 hc1 hF hn hm hp hbd (heq.trans (chg_none (addF_ok _ _) hx)) hpar _ rfl hul (getE_none hx)
    | some x =>
      have hg := getE_some hx
      have hkx := hbd x hx
      cases hlf : x.lf
      · rcases Classical.em (lastL p < 0 ∨ x.ks.length < lastL p) with h8 | h8
        · have h9 : addF (lastL p) m x = (zeroT, 8) := by unfold addF; rw [if_neg (by rw [hlf]; simp), if_pos h8]
          exact tsizes_pos w v u n m A p _ c rfl hp50 hc1 hF hn hm hp hbd (by rw [heq, chg_err (addF_ok _ _) hx (by rw [h9]; decide), h9]) hpar _ rfl hul x hg hlf
        · obtain ⟨a, ha⟩ : ∃ a, addE n p m = (a, 0) := by
            have h9 : (addF (lastL p) m x).2 = 0 := by unfold addF; rw [if_neg (by rw [hlf]; simp), if_neg h8]
            exact ⟨_, heq.trans (chg_some (addF_ok _ _) hx h9)⟩
          obtain ⟨hsz, x', _, hx', hxa, hxl⟩ := size_add ha
          rw [hx] at hx'
          injection hx' with hx'
          subst hx'
          exact tsizes_ok w v u n m A p _ c rfl hp50 hc1 hF hn hm hp hbd a x _ ha hpar _ rfl hul hg (getE_some hxa) hlf hkx hxl hsz
      · have h9 : addF (lastL p) m x = (zeroT, 7) := by unfold addF; rw [if_pos hlf]
        exact tsizes_leaf w v u n m A p _ c rfl hp50 hc1 hF hn hm hp hbd (by rw [heq, chg_err (addF_ok _ _) hx (by rw [h9]; decide), h9]) hpar _ rfl hul x hg hlf

end Go.Proofs.Ytggapngibkeodaa
