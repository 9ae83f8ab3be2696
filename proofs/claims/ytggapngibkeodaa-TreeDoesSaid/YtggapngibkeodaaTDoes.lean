/- TreeDoes answers true. -/
import Derived.Test.YtggapngibkeodaaTRCut
namespace Go.Proofs.Ytggapngibkeodaa
open Go.RowKit

theorem put_l {w : World} {v u : Value} {n m x : NT} {er : Int} {A : Option Addr} {p : List Int} {lp c : Nat} (hr : putE n p m = (x, er)) (hlp : p.length = lp) (hl : lp ≤ 1000) (hc : lp ≤ c) (hn : At w v n) (hm : At w u m) (hp : IL w w.heap.size A p) : Calls Try.prog 14 #[v, .slice A lp c, u] w (NewN (x, er) w) := by
  subst hlp; exact put_is hr hl hc hn hm hp
theorem rput_l {w : World} {v u : Value} {n m x : NT} {er : Int} {A : Option Addr} {p : List Int} {lp c : Nat} (hr : putE n p m = (x, er)) (hlp : p.length = lp) (hl : lp ≤ 1000) (hc : lp ≤ c) (hn : At w v n) (hm : At w u m) (hp : IL w w.heap.size A p) : Calls Try.prog 15 #[v, .slice A lp c, u] w (NewN (x, er) w) := by
  obtain ⟨d, hn⟩ := hn
  obtain ⟨dm, hm⟩ := hm
  rw [← hr]; exact rput_any p d dm w v u n m A lp c hlp (by omega) hc hn hm hp
theorem last_at {p : List Int} {k : Nat} (h : p.length = k + 1) : lastL p = iAt p k := by unfold lastL; rw [h]; rfl
theorem up_len {p : List Int} {k : Nat} (h : p.length = k + 1) : (upP p).length = k := by unfold upP; rw [List.length_take]; omega
theorem radd_l {w : World} {v u : Value} {n m x : NT} {er : Int} {A : Option Addr} {p : List Int} {lp c : Nat} (hr : addE n p m = (x, er)) (hlp : p.length = lp) (hl : lp ≤ 1000) (hc : lp ≤ c) (hn : At w v n) (hm : At w u m) (hp : IL w w.heap.size A p) (hbd : ∀ x, getO n (upP p) = some x → x.ks.length < 1759218604441) : Calls Try.prog 17 #[v, .slice A lp c, u] w (NewN (x, er) w) := by
  rw [← hr]
  rcases lp with _ | k
  · rw [show addE n p m = (zeroT, 6) by unfold addE; rw [if_pos hlp]]
    exact radd_root w v u n m A p 0 c hlp hl hc hn hm hp (parent_nil hlp) 0 rfl (by omega)
  · obtain ⟨hp1, hp2, _⟩ := parent_cons hlp
    have hpar : parentL p = (upP p, 0) := by rw [hp1, hp2]
    have hul := up_len hlp
    have heq : addE n p m = chgT (addF (iAt p k) m) n (upP p) := by unfold addE; rw [if_neg (by omega), last_at hlp]
    cases hx : getO n (upP p) with
    | none =>
      rw [heq, chg_none (addF_ok _ _) hx]
      exact radd_path w v u n m A p _ c hlp hl hc hn hm hp hpar k hul (by omega) (getE_none hx)
    | some x =>
      have hg := getE_some hx
      have hkx := hbd x hx
      cases hlf : x.lf
      · rcases Classical.em (iAt p k < 0) with h1 | h1
        · have h9 : addF (iAt p k) m x = (zeroT, 8) := by unfold addF; rw [if_neg (by rw [hlf]; simp), if_pos (.inl h1)]
          rw [heq, chg_err (addF_ok _ _) hx (by rw [h9]; decide), h9]
          exact radd_neg w v u n m A p _ c hlp hl hc hn hm hp hpar k hul (by omega) x k _ _ rfl hg hlf rfl rfl h1
        · rcases Classical.em ((x.ks.length : Int) < iAt p k) with h2 | h2
          · have h9 : addF (iAt p k) m x = (zeroT, 8) := by unfold addF; rw [if_neg (by rw [hlf]; simp), if_pos (.inr h2)]
            rw [heq, chg_err (addF_ok _ _) hx (by rw [h9]; decide), h9]
            exact radd_far w v u n m A p _ c hlp hl hc hn hm hp hpar k hul (by omega) x k _ _ rfl hg hlf rfl rfl (by omega) h2
          · obtain ⟨j, hj⟩ : ∃ j : Nat, iAt p k = (j : Int) := ⟨(iAt p k).toNat, by omega⟩
            have h9 : addF (iAt p k) m x = (splT x j 0 [m], 0) := by unfold addF; rw [if_neg (by rw [hlf]; simp), if_neg (by omega), hj]; rfl
            rw [heq, chg_some (addF_ok _ _) hx (by rw [h9]), h9]
            exact radd_ok w v u n m A p _ c hlp hl hc hn hm hp hpar k hul (by omega) x k _ _ rfl hg hlf rfl hj j rfl (by omega) hkx _ (by rw [putE_eq, hx])
      · have h9 : addF (iAt p k) m x = (zeroT, 7) := by unfold addF; rw [if_pos hlf]
        rw [heq, chg_err (addF_ok _ _) hx (by rw [h9]; decide), h9]
        exact radd_leaf w v u n m A p _ c hlp hl hc hn hm hp hpar k hul (by omega) x k _ _ rfl hg hlf rfl rfl
theorem rcut_l {w : World} {v : Value} {n x y : NT} {er : Int} {A : Option Addr} {p : List Int} {lp c : Nat} (hr : cutE n p = (x, er)) (hy : cutM n p = y) (hlp : p.length = lp) (hl : lp ≤ 1000) (hc : lp ≤ c) (hn : At w v n) (hp : IL w w.heap.size A p) : Calls Try.prog 19 #[v, .slice A lp c] w (NewC x y er w) := by
  have h1 : x = (cutE n p).1 := by rw [hr]
  have h2 : er = (cutE n p).2 := by rw [hr]
  rw [h1, h2, ← hy]
  clear h1 h2 hr hy
  rcases lp with _ | k
  · rw [show cutE n p = (zeroT, 6) by unfold cutE; rw [if_pos hlp], show cutM n p = zeroT by unfold cutM; rw [if_pos hlp]]
    exact rcut_root w v n A p 0 c hlp hl hc hn hp (parent_nil hlp) 0 rfl (by omega)
  · obtain ⟨hp1, hp2, _⟩ := parent_cons hlp
    have hpar : parentL p = (upP p, 0) := by rw [hp1, hp2]
    have hul := up_len hlp
    have heq : cutE n p = chgT (cutF (iAt p k)) n (upP p) := by unfold cutE; rw [if_neg (by omega), last_at hlp]
    have hcm : cutM n p = (getE n p).1 := by unfold cutM; rw [if_neg (by omega)]
    have hup := getO_up (n := n) (p := p) (by omega)
    rw [last_at hlp] at hup
    cases hx : getO n (upP p) with
    | none =>
      have hgp : getO n p = none := by rw [hup, hx]; rfl
      rw [heq, hcm, chg_none (cutF_ok _) hx, getE_none hgp]
      exact rcut_path w v n A p _ c hlp hl hc hn hp hpar k hul (by omega) (getE_none hgp)
    | some x =>
      rw [hx] at hup
      have hup' : getO n p = kidT x (iAt p k) := hup
      cases hb : hasB x (iAt p k)
      · have hgp : getO n p = none := by rw [hup', kid_none hb]
        have h9 : cutF (iAt p k) x = (zeroT, 5) := by unfold cutF; rw [if_neg (by rw [hb]; simp)]
        rw [heq, hcm, chg_err (cutF_ok _) hx (by rw [h9]; decide), h9, getE_none hgp]
        exact rcut_path w v n A p _ c hlp hl hc hn hp hpar k hul (by omega) (getE_none hgp)
      · obtain ⟨y, hy⟩ := kid_some hb
        have hgp : getO n p = some y := by rw [hup', hy]
        obtain ⟨h1, h2⟩ := hasB_iff.1 hb
        obtain ⟨j, hj⟩ : ∃ j : Nat, iAt p k = (j : Int) := ⟨(iAt p k).toNat, by omega⟩
        have h9 : cutF (iAt p k) x = (splT x j 1 [], 0) := by unfold cutF; rw [if_pos hb, hj]; rfl
        rw [heq, hcm, chg_some (cutF_ok _) hx (by rw [h9]), h9, getE_some hgp]
        exact rcut_ok w v n A p _ c hlp hl hc hn hp hpar k hul (by omega) x y k _ j rfl (getE_some hgp) (getE_some hx) rfl hj (by omega) _ (by rw [putE_eq, hx])

set_option maxRecDepth 100000 in
set_option maxHeartbeats 8000000 in
theorem tdoes_no (w : World) (v u : Value) (n m : NT) (A : Option Addr) (p : List Int) (lp c : Nat) (hl1 : lp ≤ 9223372036854775807) (hF : (fewB 100 n && fewB 60 m && decide (lp ≤ 50)) = false) (hn : At w v n) (hm : At w u m) (hp : IL w w.heap.size A p) :
    Calls Try.prog 3 #[v, .slice A lp c, u] w (Still (.bool true) w) := by
  have HFEW := hd hF
  obtain ⟨lf, PA, np, pc, TA, nt, tc, KA, nk, kc, rfl⟩ := hn.val
  obtain ⟨lf', PA', np', pc', TA', nt', tc', KA', nk', kc', rfl⟩ := hm.val
  obtain ⟨wb, hwb⟩ : ∃ wb, wb = (w.alloc (.cells #[.bool lf, .slice PA np pc, .slice TA nt tc, .slice KA nk kc] 26)).alloc (.cells #[.bool lf', .slice PA' np' pc', .slice TA' nt' tc', .slice KA' nk' kc'] 26) := ⟨_, rfl⟩
  have hb0 : Below w.heap.size w wb := hwb ▸ below_mono2 (Below.refl _ _) (Nat.le_refl _)
  have HB := hd hb0
  have HX := hd (show Holds [(w.heap.size + 1, .cells #[.bool lf', .slice PA' np' pc', .slice TA' nt' tc', .slice KA' nk' kc'] 26), (w.heap.size, .cells #[.bool lf, .slice PA np pc, .slice TA nt tc, .slice KA nk kc] 26)] wb from hwb ▸ two_holds w _ _)
  have HA := hd (((((Ats.nil w).add hn).add hm)).keep hb0)
  have HI := hd (((Ils.nil w).add hp).keep hb0)
  clear hn hm hp hb0 hF
  obtain ⟨n0, n1, n2, n3, -⟩ := blkCells (HX.out.tl.hd)
  obtain ⟨m0, m1, m2, m3, -⟩ := blkCells (HX.out.hd)
  go_enter Try.func3, Try.ntmps3
  subst hwb
  go_wp2_with (first
    | (go_at_call 10; have _g := HBc1; clear _g; refine Calls.mono (few_at HFEW.out hl1 (HAc1.out.tl.hd) (HAc1.out.hd)) ?_; rintro e wc2 ⟨rfl, hbc2⟩; have hic2 := hbc2; have HBc2 := hd (HBc1.out.trans (hbc2.mono HBc1.out.size)); have HXc2 := hd (HXc1.out.keep hbc2); have HAc2 := hd (HAc1.out.keep hbc2); clear hbc2; have HIc2 := hd (HIc1.out.keep hic2); clear hic2; clear n0 n1 n2 n3 m0 m1 m2 m3)
    | (go_at_call 9; have _g := HB; clear _g; refine Calls.mono (live5_any _) ?_; rintro e wc1 ⟨rfl, hbc1⟩; have hic1 := hbc1; have HBc1 := hd (HB.out.trans (hbc1.mono HB.out.size)); have HXc1 := hd (HX.out.keep hbc1); have HAc1 := hd (HA.out.keep hbc1); clear hbc1; have HIc1 := hd (HI.out.keep hic1); clear hic1; clear n0 n1 n2 n3 m0 m1 m2 m3; obtain ⟨n0, n1, n2, n3, -⟩ := blkCells (HXc1.out.tl.hd); obtain ⟨m0, m1, m2, m3, -⟩ := blkCells (HXc1.out.hd)))
  go_ret
  exact ⟨rfl, HBc2.out⟩

set_option maxRecDepth 100000 in
set_option maxHeartbeats 16000000 in
theorem tdoes_yes (w : World) (v u : Value) (n m : NT) (A : Option Addr) (p : List Int) (lp c : Nat) (hlp : p.length = lp) (hp50 : lp ≤ 50) (hc1 : lp ≤ c) (hF : (fewB 100 n && fewB 60 m && decide (lp ≤ 50)) = true) (hn : At w v n) (hm : At w u m) (hp : IL w w.heap.size A p) (hbd : ∀ x, getO n (upP p) = some x → x.ks.length < 1759218604441)
    (xg xp xa xc xm : NT) (eg ep ea ec : Int) (hg : getE n p = (xg, eg)) (hpu : putE n p m = (xp, ep)) (ha : addE n p m = (xa, ea)) (hc : cutE n p = (xc, ec)) (hcm : cutM n p = xm) :
    Calls Try.prog 3 #[v, .slice A lp c, u] w (Still (.bool true) w) := by
  have hl1 : lp ≤ 9223372036854775807 := by omega
  have HLP := hd hlp
  have HBD := hd hbd
  have HFEW := hd hF
  have HG := hd hg
  have HP := hd hpu
  have HE := hd ha
  have HC := hd hc
  have HCM := hd hcm
  have q1 : (eg == eg) = true := beq_self_eq_true _
  have q2 : (ep == ep) = true := beq_self_eq_true _
  have q3 : (ea == ea) = true := beq_self_eq_true _
  have q4 : (ec == ec) = true := beq_self_eq_true _
  obtain ⟨lf, PA, np, pc, TA, nt, tc, KA, nk, kc, rfl⟩ := hn.val
  obtain ⟨lf', PA', np', pc', TA', nt', tc', KA', nk', kc', rfl⟩ := hm.val
  obtain ⟨wb, hwb⟩ : ∃ wb, wb = (w.alloc (.cells #[.bool lf, .slice PA np pc, .slice TA nt tc, .slice KA nk kc] 26)).alloc (.cells #[.bool lf', .slice PA' np' pc', .slice TA' nt' tc', .slice KA' nk' kc'] 26) := ⟨_, rfl⟩
  have hb0 : Below w.heap.size w wb := hwb ▸ below_mono2 (Below.refl _ _) (Nat.le_refl _)
  have HB := hd hb0
  have HX := hd (show Holds [(w.heap.size + 1, .cells #[.bool lf', .slice PA' np' pc', .slice TA' nt' tc', .slice KA' nk' kc'] 26), (w.heap.size, .cells #[.bool lf, .slice PA np pc, .slice TA nt tc, .slice KA nk kc] 26)] wb from hwb ▸ two_holds w _ _)
  have HA := hd (((((Ats.nil w).add hn).add hm)).keep hb0)
  have HI := hd (((Ils.nil w).add hp).keep hb0)
  clear hn hm hp hb0 hlp hbd hF hg hpu ha hc hcm
  obtain ⟨n0, n1, n2, n3, -⟩ := blkCells (HX.out.tl.hd)
  obtain ⟨m0, m1, m2, m3, -⟩ := blkCells (HX.out.hd)
  go_enter Try.func3, Try.ntmps3
  subst hwb
  go_wp2_with (first
    | (go_at_call 20; have _g := HBc16; clear _g; refine Calls.mono (rnsame_at (eqT_self _) (HAc16.out.tl.tl.tl.tl.tl.tl.tl.tl.tl.tl.tl.tl.hd) (HAc16.out.tl.tl.tl.tl.tl.tl.tl.tl.tl.tl.hd)) ?_; rintro e wc17 ⟨rfl, hbc17⟩; have hic17 := hbc17; have HBc17 := hd (HBc16.out.trans (hbc17.mono HBc16.out.size)); have HXc17 := hd (HXc16.out.keep hbc17); have HAc17 := hd (HAc16.out.keep hbc17); clear hbc17; have HIc17 := hd (HIc16.out.keep hic17); clear hic17; clear n0 n1 n2 n3 was0 was1 was2 was3)
    | (go_at_call 20; have _g := HBc15; clear _g; refine Calls.mono (rnsame_at (eqT_self _) (HAc15.out.tl.tl.hd) (HAc15.out.hd)) ?_; rintro e wc16 ⟨rfl, hbc16⟩; have hic16 := hbc16; have HBc16 := hd (HBc15.out.trans (hbc16.mono HBc15.out.size)); have HXc16 := hd (HXc15.out.keep hbc16); have HAc16 := hd (HAc15.out.keep hbc16); clear hbc16; have HIc16 := hd (HIc15.out.keep hic16); clear hic16; clear cma0 cma1 cma2 cma3 cmb0 cmb1 cmb2 cmb3; obtain ⟨n0, n1, n2, n3, -⟩ := blkCells (HXc16.out.tl.tl.tl.tl.tl.tl.tl.tl.tl.tl.tl.tl.hd); obtain ⟨was0, was1, was2, was3, -⟩ := blkCells (HXc16.out.tl.tl.tl.tl.tl.tl.tl.tl.tl.tl.hd))
    | (go_at_call 20; have _g := HBc14; clear _g; refine Calls.mono (rnsame_at (eqT_self _) (HAc14.out.tl.tl.tl.hd) (HAc14.out.tl.hd)) ?_; rintro e wc15 ⟨rfl, hbc15⟩; have hic15 := hbc15; have HBc15 := hd (HBc14.out.trans (hbc15.mono HBc14.out.size)); have HXc15 := hd (HXc14.out.keep hbc15); have HAc15 := hd (HAc14.out.keep hbc15); clear hbc15; have HIc15 := hd (HIc14.out.keep hic15); clear hic15; clear ca0 ca1 ca2 ca3 cb0 cb1 cb2 cb3; obtain ⟨cma0, cma1, cma2, cma3, -⟩ := blkCells (HXc15.out.tl.tl.hd); obtain ⟨cmb0, cmb1, cmb2, cmb3, -⟩ := blkCells (HXc15.out.hd))
    | (go_at_call 20; have _g := HBc13; clear _g; refine Calls.mono (rnsame_at (eqT_self _) (HAc13.out.tl.tl.tl.tl.tl.hd) (HAc13.out.tl.tl.tl.tl.hd)) ?_; rintro e wc14 ⟨rfl, hbc14⟩; have hic14 := hbc14; have HBc14 := hd (HBc13.out.trans (hbc14.mono HBc13.out.size)); have HXc14 := hd (HXc13.out.keep hbc14); have HAc14 := hd (HAc13.out.keep hbc14); clear hbc14; have HIc14 := hd (HIc13.out.keep hic14); clear hic14; clear aa0 aa1 aa2 aa3 ab0 ab1 ab2 ab3; obtain ⟨ca0, ca1, ca2, ca3, -⟩ := blkCells (HXc14.out.tl.tl.tl.hd); obtain ⟨cb0, cb1, cb2, cb3, -⟩ := blkCells (HXc14.out.tl.hd))
    | (go_at_call 20; have _g := HBc12; clear _g; refine Calls.mono (rnsame_at (eqT_self _) (HAc12.out.tl.tl.tl.tl.tl.tl.tl.hd) (HAc12.out.tl.tl.tl.tl.tl.tl.hd)) ?_; rintro e wc13 ⟨rfl, hbc13⟩; have hic13 := hbc13; have HBc13 := hd (HBc12.out.trans (hbc13.mono HBc12.out.size)); have HXc13 := hd (HXc12.out.keep hbc13); have HAc13 := hd (HAc12.out.keep hbc13); clear hbc13; have HIc13 := hd (HIc12.out.keep hic13); clear hic13; clear pa0 pa1 pa2 pa3 pb0 pb1 pb2 pb3; obtain ⟨aa0, aa1, aa2, aa3, -⟩ := blkCells (HXc13.out.tl.tl.tl.tl.tl.hd); obtain ⟨ab0, ab1, ab2, ab3, -⟩ := blkCells (HXc13.out.tl.tl.tl.tl.hd))
    | (go_at_call 20; have _g := HBc11; clear _g; refine Calls.mono (rnsame_at (eqT_self _) (HAc11.out.tl.tl.tl.tl.tl.tl.tl.tl.tl.hd) (HAc11.out.tl.tl.tl.tl.tl.tl.tl.tl.hd)) ?_; rintro e wc12 ⟨rfl, hbc12⟩; have hic12 := hbc12; have HBc12 := hd (HBc11.out.trans (hbc12.mono HBc11.out.size)); have HXc12 := hd (HXc11.out.keep hbc12); have HAc12 := hd (HAc11.out.keep hbc12); clear hbc12; have HIc12 := hd (HIc11.out.keep hic12); clear hic12; clear ga0 ga1 ga2 ga3 gb0 gb1 gb2 gb3; obtain ⟨pa0, pa1, pa2, pa3, -⟩ := blkCells (HXc12.out.tl.tl.tl.tl.tl.tl.tl.hd); obtain ⟨pb0, pb1, pb2, pb3, -⟩ := blkCells (HXc12.out.tl.tl.tl.tl.tl.tl.hd))
    | (go_at_call 19; have _g := HBc10; clear _g; refine Calls.mono (rcut_l HC.out HCM.out HLP.out (by omega) hc1 (HAc10.out.tl.tl.tl.tl.tl.tl.tl.tl.tl.tl.hd) (HIc10.out.hd)) ?_; intro e wc11 hc11; obtain ⟨lfc11, PAc11, npc11, pcc11, TAc11, ntc11, tcc11, KAc11, nkc11, kcc11, lfc11b, PAc11b, npc11b, pcc11b, TAc11b, ntc11b, tcc11b, KAc11b, nkc11b, kcc11b, rfl, hTc11, hUc11, hbc11⟩ := hc11.open_; have hic11 := hbc11.trans ((alloc2_below _ (.cells #[.bool lfc11, .slice PAc11 npc11 pcc11, .slice TAc11 ntc11 tcc11, .slice KAc11 nkc11 kcc11] 26) (.cells #[.bool lfc11b, .slice PAc11b npc11b pcc11b, .slice TAc11b ntc11b tcc11b, .slice KAc11b nkc11b kcc11b] 26)).mono hbc11.size); have hBc11 := HBc10.out.trans (hbc11.mono HBc10.out.size); have HBc11 := hd (below_mono2 (o := (.cells #[.bool lfc11, .slice PAc11 npc11 pcc11, .slice TAc11 ntc11 tcc11, .slice KAc11 nkc11 kcc11] 26)) (o' := (.cells #[.bool lfc11b, .slice PAc11b npc11b pcc11b, .slice TAc11b ntc11b tcc11b, .slice KAc11b nkc11b kcc11b] 26)) hBc11 hBc11.size); have HXc11 := hd ((HXc10.out.keep hbc11).add2 (.cells #[.bool lfc11, .slice PAc11 npc11 pcc11, .slice TAc11 ntc11 tcc11, .slice KAc11 nkc11 kcc11] 26) (.cells #[.bool lfc11b, .slice PAc11b npc11b pcc11b, .slice TAc11b ntc11b tcc11b, .slice KAc11b nkc11b kcc11b] 26)); have HAc11 := hd ((((HAc10.out.keep hbc11).add hTc11).add hUc11).keep (alloc2_below _ (.cells #[.bool lfc11, .slice PAc11 npc11 pcc11, .slice TAc11 ntc11 tcc11, .slice KAc11 nkc11 kcc11] 26) (.cells #[.bool lfc11b, .slice PAc11b npc11b pcc11b, .slice TAc11b ntc11b tcc11b, .slice KAc11b nkc11b kcc11b] 26))); clear hTc11 hUc11 hBc11 hbc11; have HIc11 := hd (HIc10.out.keep hic11); clear hic11; clear n0 n1 n2 n3; obtain ⟨ga0, ga1, ga2, ga3, -⟩ := blkCells (HXc11.out.tl.tl.tl.tl.tl.tl.tl.tl.tl.hd); obtain ⟨gb0, gb1, gb2, gb3, -⟩ := blkCells (HXc11.out.tl.tl.tl.tl.tl.tl.tl.tl.hd))
    | (go_at_call 18; have _g := HBc9; clear _g; refine Calls.mono (cut_l HC.out HCM.out HLP.out (by omega) hc1 (HAc9.out.tl.tl.tl.tl.tl.tl.tl.tl.hd) (HIc9.out.hd)) ?_; intro e wc10 hc10; obtain ⟨lfc10, PAc10, npc10, pcc10, TAc10, ntc10, tcc10, KAc10, nkc10, kcc10, lfc10b, PAc10b, npc10b, pcc10b, TAc10b, ntc10b, tcc10b, KAc10b, nkc10b, kcc10b, rfl, hTc10, hUc10, hbc10⟩ := hc10.open_; have hic10 := hbc10.trans ((alloc2_below _ (.cells #[.bool lfc10, .slice PAc10 npc10 pcc10, .slice TAc10 ntc10 tcc10, .slice KAc10 nkc10 kcc10] 26) (.cells #[.bool lfc10b, .slice PAc10b npc10b pcc10b, .slice TAc10b ntc10b tcc10b, .slice KAc10b nkc10b kcc10b] 26)).mono hbc10.size); have hBc10 := HBc9.out.trans (hbc10.mono HBc9.out.size); have HBc10 := hd (below_mono2 (o := (.cells #[.bool lfc10, .slice PAc10 npc10 pcc10, .slice TAc10 ntc10 tcc10, .slice KAc10 nkc10 kcc10] 26)) (o' := (.cells #[.bool lfc10b, .slice PAc10b npc10b pcc10b, .slice TAc10b ntc10b tcc10b, .slice KAc10b nkc10b kcc10b] 26)) hBc10 hBc10.size); have HXc10 := hd ((HXc9.out.keep hbc10).add2 (.cells #[.bool lfc10, .slice PAc10 npc10 pcc10, .slice TAc10 ntc10 tcc10, .slice KAc10 nkc10 kcc10] 26) (.cells #[.bool lfc10b, .slice PAc10b npc10b pcc10b, .slice TAc10b ntc10b tcc10b, .slice KAc10b nkc10b kcc10b] 26)); have HAc10 := hd ((((HAc9.out.keep hbc10).add hTc10).add hUc10).keep (alloc2_below _ (.cells #[.bool lfc10, .slice PAc10 npc10 pcc10, .slice TAc10 ntc10 tcc10, .slice KAc10 nkc10 kcc10] 26) (.cells #[.bool lfc10b, .slice PAc10b npc10b pcc10b, .slice TAc10b ntc10b tcc10b, .slice KAc10b nkc10b kcc10b] 26))); clear hTc10 hUc10 hBc10 hbc10; have HIc10 := hd (HIc9.out.keep hic10); clear hic10; clear n0 n1 n2 n3; obtain ⟨n0, n1, n2, n3, -⟩ := blkCells (HXc10.out.tl.tl.tl.tl.tl.tl.tl.tl.tl.tl.hd))
    | (go_at_call 17; have _g := HBc8; clear _g; refine Calls.mono (radd_l HE.out HLP.out (by omega) hc1 (HAc8.out.tl.tl.tl.tl.tl.tl.tl.hd) (HAc8.out.tl.tl.tl.tl.tl.tl.hd) (HIc8.out.hd) HBD.out) ?_; intro e wc9 hc9; obtain ⟨lfc9, PAc9, npc9, pcc9, TAc9, ntc9, tcc9, KAc9, nkc9, kcc9, rfl, hTc9, hbc9⟩ := hc9.opn; have hic9 := hbc9.trans ((alloc_below _ (.cells #[.bool lfc9, .slice PAc9 npc9 pcc9, .slice TAc9 ntc9 tcc9, .slice KAc9 nkc9 kcc9] 26)).mono hbc9.size); have hBc9 := HBc8.out.trans (hbc9.mono HBc8.out.size); have HBc9 := hd (hBc9.alloc hBc9.size (.cells #[.bool lfc9, .slice PAc9 npc9 pcc9, .slice TAc9 ntc9 tcc9, .slice KAc9 nkc9 kcc9] 26)); have HXc9 := hd ((HXc8.out.keep hbc9).add (.cells #[.bool lfc9, .slice PAc9 npc9 pcc9, .slice TAc9 ntc9 tcc9, .slice KAc9 nkc9 kcc9] 26)); have HAc9 := hd (((HAc8.out.keep hbc9).add hTc9).keep (alloc_below _ (.cells #[.bool lfc9, .slice PAc9 npc9 pcc9, .slice TAc9 ntc9 tcc9, .slice KAc9 nkc9 kcc9] 26))); clear hTc9 hBc9 hbc9; have HIc9 := hd (HIc8.out.keep hic9); clear hic9; clear n0 n1 n2 n3 m0 m1 m2 m3; obtain ⟨n0, n1, n2, n3, -⟩ := blkCells (HXc9.out.tl.tl.tl.tl.tl.tl.tl.tl.hd))
    | (go_at_call 16; have _g := HBc7; clear _g; refine Calls.mono (add_l HE.out HLP.out (by omega) hc1 (HAc7.out.tl.tl.tl.tl.tl.tl.hd) (HAc7.out.tl.tl.tl.tl.tl.hd) (HIc7.out.hd) HBD.out) ?_; intro e wc8 hc8; obtain ⟨lfc8, PAc8, npc8, pcc8, TAc8, ntc8, tcc8, KAc8, nkc8, kcc8, rfl, hTc8, hbc8⟩ := hc8.opn; have hic8 := hbc8.trans ((alloc_below _ (.cells #[.bool lfc8, .slice PAc8 npc8 pcc8, .slice TAc8 ntc8 tcc8, .slice KAc8 nkc8 kcc8] 26)).mono hbc8.size); have hBc8 := HBc7.out.trans (hbc8.mono HBc7.out.size); have HBc8 := hd (hBc8.alloc hBc8.size (.cells #[.bool lfc8, .slice PAc8 npc8 pcc8, .slice TAc8 ntc8 tcc8, .slice KAc8 nkc8 kcc8] 26)); have HXc8 := hd ((HXc7.out.keep hbc8).add (.cells #[.bool lfc8, .slice PAc8 npc8 pcc8, .slice TAc8 ntc8 tcc8, .slice KAc8 nkc8 kcc8] 26)); have HAc8 := hd (((HAc7.out.keep hbc8).add hTc8).keep (alloc_below _ (.cells #[.bool lfc8, .slice PAc8 npc8 pcc8, .slice TAc8 ntc8 tcc8, .slice KAc8 nkc8 kcc8] 26))); clear hTc8 hBc8 hbc8; have HIc8 := hd (HIc7.out.keep hic8); clear hic8; clear n0 n1 n2 n3 m0 m1 m2 m3; obtain ⟨n0, n1, n2, n3, -⟩ := blkCells (HXc8.out.tl.tl.tl.tl.tl.tl.tl.hd); obtain ⟨m0, m1, m2, m3, -⟩ := blkCells (HXc8.out.tl.tl.tl.tl.tl.tl.hd))
    | (go_at_call 15; have _g := HBc6; clear _g; refine Calls.mono (rput_l HP.out HLP.out (by omega) hc1 (HAc6.out.tl.tl.tl.tl.tl.hd) (HAc6.out.tl.tl.tl.tl.hd) (HIc6.out.hd)) ?_; intro e wc7 hc7; obtain ⟨lfc7, PAc7, npc7, pcc7, TAc7, ntc7, tcc7, KAc7, nkc7, kcc7, rfl, hTc7, hbc7⟩ := hc7.opn; have hic7 := hbc7.trans ((alloc_below _ (.cells #[.bool lfc7, .slice PAc7 npc7 pcc7, .slice TAc7 ntc7 tcc7, .slice KAc7 nkc7 kcc7] 26)).mono hbc7.size); have hBc7 := HBc6.out.trans (hbc7.mono HBc6.out.size); have HBc7 := hd (hBc7.alloc hBc7.size (.cells #[.bool lfc7, .slice PAc7 npc7 pcc7, .slice TAc7 ntc7 tcc7, .slice KAc7 nkc7 kcc7] 26)); have HXc7 := hd ((HXc6.out.keep hbc7).add (.cells #[.bool lfc7, .slice PAc7 npc7 pcc7, .slice TAc7 ntc7 tcc7, .slice KAc7 nkc7 kcc7] 26)); have HAc7 := hd (((HAc6.out.keep hbc7).add hTc7).keep (alloc_below _ (.cells #[.bool lfc7, .slice PAc7 npc7 pcc7, .slice TAc7 ntc7 tcc7, .slice KAc7 nkc7 kcc7] 26))); clear hTc7 hBc7 hbc7; have HIc7 := hd (HIc6.out.keep hic7); clear hic7; clear n0 n1 n2 n3 m0 m1 m2 m3; obtain ⟨n0, n1, n2, n3, -⟩ := blkCells (HXc7.out.tl.tl.tl.tl.tl.tl.hd); obtain ⟨m0, m1, m2, m3, -⟩ := blkCells (HXc7.out.tl.tl.tl.tl.tl.hd))
    | (go_at_call 14; have _g := HBc5; clear _g; refine Calls.mono (put_l HP.out HLP.out (by omega) hc1 (HAc5.out.tl.tl.tl.tl.hd) (HAc5.out.tl.tl.tl.hd) (HIc5.out.hd)) ?_; intro e wc6 hc6; obtain ⟨lfc6, PAc6, npc6, pcc6, TAc6, ntc6, tcc6, KAc6, nkc6, kcc6, rfl, hTc6, hbc6⟩ := hc6.opn; have hic6 := hbc6.trans ((alloc_below _ (.cells #[.bool lfc6, .slice PAc6 npc6 pcc6, .slice TAc6 ntc6 tcc6, .slice KAc6 nkc6 kcc6] 26)).mono hbc6.size); have hBc6 := HBc5.out.trans (hbc6.mono HBc5.out.size); have HBc6 := hd (hBc6.alloc hBc6.size (.cells #[.bool lfc6, .slice PAc6 npc6 pcc6, .slice TAc6 ntc6 tcc6, .slice KAc6 nkc6 kcc6] 26)); have HXc6 := hd ((HXc5.out.keep hbc6).add (.cells #[.bool lfc6, .slice PAc6 npc6 pcc6, .slice TAc6 ntc6 tcc6, .slice KAc6 nkc6 kcc6] 26)); have HAc6 := hd (((HAc5.out.keep hbc6).add hTc6).keep (alloc_below _ (.cells #[.bool lfc6, .slice PAc6 npc6 pcc6, .slice TAc6 ntc6 tcc6, .slice KAc6 nkc6 kcc6] 26))); clear hTc6 hBc6 hbc6; have HIc6 := hd (HIc5.out.keep hic6); clear hic6; clear n0 n1 n2 n3 m0 m1 m2 m3; obtain ⟨n0, n1, n2, n3, -⟩ := blkCells (HXc6.out.tl.tl.tl.tl.tl.hd); obtain ⟨m0, m1, m2, m3, -⟩ := blkCells (HXc6.out.tl.tl.tl.tl.hd))
    | (go_at_call 13; have _g := HBc4; clear _g; refine Calls.mono (rget_l HG.out HLP.out (by omega) (HAc4.out.tl.tl.tl.hd) (HIc4.out.hd)) ?_; intro e wc5 hc5; obtain ⟨lfc5, PAc5, npc5, pcc5, TAc5, ntc5, tcc5, KAc5, nkc5, kcc5, rfl, hTc5, hbc5⟩ := hc5.opn; have hic5 := hbc5.trans ((alloc_below _ (.cells #[.bool lfc5, .slice PAc5 npc5 pcc5, .slice TAc5 ntc5 tcc5, .slice KAc5 nkc5 kcc5] 26)).mono hbc5.size); have hBc5 := HBc4.out.trans (hbc5.mono HBc4.out.size); have HBc5 := hd (hBc5.alloc hBc5.size (.cells #[.bool lfc5, .slice PAc5 npc5 pcc5, .slice TAc5 ntc5 tcc5, .slice KAc5 nkc5 kcc5] 26)); have HXc5 := hd ((HXc4.out.keep hbc5).add (.cells #[.bool lfc5, .slice PAc5 npc5 pcc5, .slice TAc5 ntc5 tcc5, .slice KAc5 nkc5 kcc5] 26)); have HAc5 := hd (((HAc4.out.keep hbc5).add hTc5).keep (alloc_below _ (.cells #[.bool lfc5, .slice PAc5 npc5 pcc5, .slice TAc5 ntc5 tcc5, .slice KAc5 nkc5 kcc5] 26))); clear hTc5 hBc5 hbc5; have HIc5 := hd (HIc4.out.keep hic5); clear hic5; clear n0 n1 n2 n3; obtain ⟨n0, n1, n2, n3, -⟩ := blkCells (HXc5.out.tl.tl.tl.tl.hd); obtain ⟨m0, m1, m2, m3, -⟩ := blkCells (HXc5.out.tl.tl.tl.hd))
    | (go_at_call 12; have _g := HBc3; clear _g; refine Calls.mono (get_l HG.out HLP.out (by omega) (HAc3.out.tl.tl.hd) (HIc3.out.hd)) ?_; intro e wc4 hc4; obtain ⟨lfc4, PAc4, npc4, pcc4, TAc4, ntc4, tcc4, KAc4, nkc4, kcc4, rfl, hTc4, hbc4⟩ := hc4.opn; have hic4 := hbc4.trans ((alloc_below _ (.cells #[.bool lfc4, .slice PAc4 npc4 pcc4, .slice TAc4 ntc4 tcc4, .slice KAc4 nkc4 kcc4] 26)).mono hbc4.size); have hBc4 := HBc3.out.trans (hbc4.mono HBc3.out.size); have HBc4 := hd (hBc4.alloc hBc4.size (.cells #[.bool lfc4, .slice PAc4 npc4 pcc4, .slice TAc4 ntc4 tcc4, .slice KAc4 nkc4 kcc4] 26)); have HXc4 := hd ((HXc3.out.keep hbc4).add (.cells #[.bool lfc4, .slice PAc4 npc4 pcc4, .slice TAc4 ntc4 tcc4, .slice KAc4 nkc4 kcc4] 26)); have HAc4 := hd (((HAc3.out.keep hbc4).add hTc4).keep (alloc_below _ (.cells #[.bool lfc4, .slice PAc4 npc4 pcc4, .slice TAc4 ntc4 tcc4, .slice KAc4 nkc4 kcc4] 26))); clear hTc4 hBc4 hbc4; have HIc4 := hd (HIc3.out.keep hic4); clear hic4; clear n0 n1 n2 n3; obtain ⟨n0, n1, n2, n3, -⟩ := blkCells (HXc4.out.tl.tl.tl.hd))
    | (go_at_call 11; have _g := HBc2; clear _g; refine Calls.mono (rcopy_at (HAc2.out.tl.hd)) ?_; intro e wc3 hc3; obtain ⟨lfc3, PAc3, npc3, pcc3, TAc3, ntc3, tcc3, KAc3, nkc3, kcc3, rfl, hTc3, hbc3⟩ := hc3; have hic3 := hbc3.trans ((alloc_below _ (.cells #[.bool lfc3, .slice PAc3 npc3 pcc3, .slice TAc3 ntc3 tcc3, .slice KAc3 nkc3 kcc3] 26)).mono hbc3.size); have hBc3 := HBc2.out.trans (hbc3.mono HBc2.out.size); have HBc3 := hd (hBc3.alloc hBc3.size (.cells #[.bool lfc3, .slice PAc3 npc3 pcc3, .slice TAc3 ntc3 tcc3, .slice KAc3 nkc3 kcc3] 26)); have HXc3 := hd ((HXc2.out.keep hbc3).add (.cells #[.bool lfc3, .slice PAc3 npc3 pcc3, .slice TAc3 ntc3 tcc3, .slice KAc3 nkc3 kcc3] 26)); have HAc3 := hd (((HAc2.out.keep hbc3).add hTc3).keep (alloc_below _ (.cells #[.bool lfc3, .slice PAc3 npc3 pcc3, .slice TAc3 ntc3 tcc3, .slice KAc3 nkc3 kcc3] 26))); clear hTc3 hBc3 hbc3; have HIc3 := hd (HIc2.out.keep hic3); clear hic3; clear n0 n1 n2 n3; obtain ⟨n0, n1, n2, n3, -⟩ := blkCells (HXc3.out.tl.tl.hd))
    | (go_at_call 10; have _g := HBc1; clear _g; refine Calls.mono (few_at HFEW.out hl1 (HAc1.out.tl.hd) (HAc1.out.hd)) ?_; rintro e wc2 ⟨rfl, hbc2⟩; have hic2 := hbc2; have HBc2 := hd (HBc1.out.trans (hbc2.mono HBc1.out.size)); have HXc2 := hd (HXc1.out.keep hbc2); have HAc2 := hd (HAc1.out.keep hbc2); clear hbc2; have HIc2 := hd (HIc1.out.keep hic2); clear hic2; clear n0 n1 n2 n3 m0 m1 m2 m3; obtain ⟨n0, n1, n2, n3, -⟩ := blkCells (HXc2.out.tl.hd))
    | (go_at_call 9; have _g := HB; clear _g; refine Calls.mono (live5_any _) ?_; rintro e wc1 ⟨rfl, hbc1⟩; have hic1 := hbc1; have HBc1 := hd (HB.out.trans (hbc1.mono HB.out.size)); have HXc1 := hd (HX.out.keep hbc1); have HAc1 := hd (HA.out.keep hbc1); clear hbc1; have HIc1 := hd (HI.out.keep hic1); clear hic1; clear n0 n1 n2 n3 m0 m1 m2 m3; obtain ⟨n0, n1, n2, n3, -⟩ := blkCells (HXc1.out.tl.hd); obtain ⟨m0, m1, m2, m3, -⟩ := blkCells (HXc1.out.hd)))
  go_ret
  exact ⟨rfl, HBc17.out⟩

theorem tdoes_law (w : World) (v u : Value) (n m : NT) (A : Option Addr) (p : List Int) (c : Nat) (hl1 : p.length ≤ 9223372036854775807) (hc1 : p.length ≤ c) (htight : TightT n) (hn : At w v n) (hm : At w u m) (hp : IL w w.heap.size A p) :
    Calls Try.prog 3 #[v, .slice A p.length c, u] w (Still (.bool true) w) := by
  have hbd : ∀ x, getO n (upP p) = some x → x.ks.length < 1759218604441 := fun x hx => by have := (tight_get n _ x htight hx).len; omega
  cases hF : (fewB 100 n && fewB 60 m && decide (p.length ≤ 50)) with
  | false => exact tdoes_no w v u n m A p _ c hl1 hF hn hm hp
  | true =>
  have hp50 : p.length ≤ 50 := by
    have h := hF
    simp only [Bool.and_eq_true, decide_eq_true_iff] at h
    exact h.2
  exact tdoes_yes w v u n m A p _ c rfl hp50 hc1 hF hn hm hp hbd _ _ _ _ _ _ _ _ _ rfl rfl rfl rfl rfl

end Go.Proofs.Ytggapngibkeodaa
