/- TreeBack answers true. -/
import Derived.Test.YtggapngibkeodaaTPuts
import Derived.Test.YtggapngibkeodaaTTight
namespace Go.Proofs.Ytggapngibkeodaa
open Go.RowKit

theorem takeI_run (A : Option Addr) (n c k : Nat) (hk : k ≤ c) : ∀ W : World, (Instr.slice 27 (.slice A n c) none (some (.int .i64 (k : Int))) none).run Try.prog W = .ok (.slice A k c) W := fun W => by
  have he : Try.prog.elem 27 = 3 := by kernel_rfl
  have hs : ∀ W, (sizeOf 3).run Try.prog W = .ok 1 W := fun _ => by kernel_rfl
  rw [run_slice_h W 27 A n c (by rw [he]; exact Try.underlying27) .i64 _ (by omega) (by omega), he, hs]
  have e : (A.map fun x => x.add 0) = A := by
    cases A
    · rfl
    · simp [Addr.add]
  simp [Result.andThen, sliced, e]
theorem At.lf {w : World} {n : NT} {b r : Bool} {PA : Option Addr} {np pc : Nat} {TA : Option Addr} {nt tc : Nat} {KA : Option Addr} {nk kc : Nat} (h : At w (.agg #[.bool b, .slice PA np pc, .slice TA nt tc, .slice KA nk kc]) n) (hr : n.lf = r) : r = b := by
  obtain ⟨_, _, _, _, _, _, _, _, e⟩ := h.full hr rfl
  simp only [Value.agg.injEq, Array.mk.injEq, List.cons.injEq, Value.bool.injEq] at e
  exact e.1.symm
theorem add_l {w : World} {v u : Value} {n m x : NT} {er : Int} {A : Option Addr} {p : List Int} {lp c : Nat} (hr : addE n p m = (x, er)) (hlp : p.length = lp) (hl : lp ≤ 1000) (hc : lp ≤ c) (hn : At w v n) (hm : At w u m) (hp : IL w w.heap.size A p) (hbd : ∀ x, getO n (upP p) = some x → x.ks.length < 1759218604441) : Calls Try.prog 16 #[v, .slice A lp c, u] w (NewN (x, er) w) := by
  subst hlp; exact add_is hr hl hc hn hm hp hbd
theorem cut_l {w : World} {v : Value} {n x y : NT} {er : Int} {A : Option Addr} {p : List Int} {lp c : Nat} (hr : cutE n p = (x, er)) (hy : cutM n p = y) (hlp : p.length = lp) (hl : lp ≤ 1000) (hc : lp ≤ c) (hn : At w v n) (hp : IL w w.heap.size A p) : Calls Try.prog 18 #[v, .slice A lp c] w (NewC x y er w) := by
  subst hlp; exact cut_is hr hy hl hc hn hp
theorem get_l {w : World} {v : Value} {n x : NT} {er : Int} {A : Option Addr} {p : List Int} {lp c : Nat} (hr : getE n p = (x, er)) (hlp : p.length = lp) (hl : lp ≤ 1000) (hn : At w v n) (hp : IL w w.heap.size A p) : Calls Try.prog 12 #[v, .slice A lp c] w (NewN (x, er) w) := by
  subst hlp; exact get_is hr hl hn hp

set_option maxRecDepth 100000 in
set_option maxHeartbeats 8000000 in
theorem tback_00 (w : World) (v u : Value) (n m : NT) (A : Option Addr) (p : List Int) (lp c : Nat) (hlp : p.length = lp) (hp50 : lp ≤ 50) (hc1 : lp ≤ c) (hF : (fewB 100 n && fewB 60 m && decide (lp ≤ 50)) = true) (hn : At w v n) (hm : At w u m) (hp : IL w w.heap.size A p) (hbd : ∀ x, getO n (upP p) = some x → x.ks.length < 1759218604441) (a : NT) (ea : Int) (ha : addE n p m = (a, ea)) (he : ea ≠ 0) (r y : NT) (er : Int) (hr : cutE n p = (r, er)) (hy : cutM n p = y) (her : er ≠ 0) :
    Calls Try.prog 5 #[v, .slice A lp c, u] w (Still (.bool true) w) := by
  have hl1 : lp ≤ 9223372036854775807 := by omega
  have HLP := hd hlp
  have HBD := hd hbd
  have HFEW := hd hF
  obtain ⟨lf, PA, np, pc, TA, nt, tc, KA, nk, kc, rfl⟩ := hn.val
  obtain ⟨lf', PA', np', pc', TA', nt', tc', KA', nk', kc', rfl⟩ := hm.val
  obtain ⟨wb, hwb⟩ : ∃ wb, wb = (w.alloc (.cells #[.bool lf, .slice PA np pc, .slice TA nt tc, .slice KA nk kc] 26)).alloc (.cells #[.bool lf', .slice PA' np' pc', .slice TA' nt' tc', .slice KA' nk' kc'] 26) := ⟨_, rfl⟩
  have hb0 : Below w.heap.size w wb := hwb ▸ below_mono2 (Below.refl _ _) (Nat.le_refl _)
  have HB := hd hb0
  have HX := hd (show Holds [(w.heap.size + 1, .cells #[.bool lf', .slice PA' np' pc', .slice TA' nt' tc', .slice KA' nk' kc'] 26), (w.heap.size, .cells #[.bool lf, .slice PA np pc, .slice TA nt tc, .slice KA nk kc] 26)] wb from hwb ▸ holds2 w _ _)
  have HA := hd (((((Ats.nil w).add hn).add hm)).keep hb0)
  have HI := hd (((Ils.nil w).add hp).keep hb0)
  have HE := hd ha
  have he1 : (ea == 0) = false := by simpa using he
  have he2 : (ea != 0) = true := by simpa using he
  clear ha he
  have hce := cut_err (n := n) (p := p) (by rw [hr]; exact her)
  obtain rfl : r = zeroT := by have := hce.1; rw [hr] at this; exact this
  obtain rfl : y = zeroT := by rw [← hy]; exact hce.2
  have HC := hd hr
  have HM := hd hy
  have he3 : (er == 0) = false := by simpa using her
  have he4 : (er != 0) = true := by simpa using her
  clear hr hy her hce
  clear hn hm hp hb0 hlp hbd hF
  obtain ⟨n0, n1, n2, n3, -⟩ := blkCells (HX.out.tl.hd)
  obtain ⟨m0, m1, m2, m3, -⟩ := blkCells (HX.out.hd)
  go_enter Try.func5, Try.ntmps5
  subst hwb
  go_wp2_with (first
    | (go_at_call 27; have _g := HBc5; clear _g; refine Calls.mono (nsame_at (eqT_self _) (HAc5.out.hd) (At.zero _)) ?_; rintro e wc6 ⟨rfl, hbc6⟩; have hic6 := hbc6; have HBc6 := hd (HBc5.out.trans (hbc6.mono HBc5.out.size)); have HXc6 := hd (HXc5.out.keep hbc6); have HAc6 := hd (HAc5.out.keep hbc6); clear hbc6; have HIc6 := hd (HIc5.out.keep hic6); clear hic6; clear y0 y1 y2 y3)
    | (go_at_call 27; have _g := HBc4; clear _g; refine Calls.mono (nsame_at (eqT_self _) (HAc4.out.tl.hd) (At.zero _)) ?_; rintro e wc5 ⟨rfl, hbc5⟩; have hic5 := hbc5; have HBc5 := hd (HBc4.out.trans (hbc5.mono HBc4.out.size)); have HXc5 := hd (HXc4.out.keep hbc5); have HAc5 := hd (HAc4.out.keep hbc5); clear hbc5; have HIc5 := hd (HIc4.out.keep hic5); clear hic5; clear r0 r1 r2 r3; obtain ⟨y0, y1, y2, y3, -⟩ := blkCells (HXc5.out.hd))
    | (go_at_call 18; have _g := HBc3; clear _g; refine Calls.mono (cut_l HC.out HM.out HLP.out (by omega) hc1 (HAc3.out.tl.tl.hd) (HIc3.out.hd)) ?_; intro e wc4 hc4; obtain ⟨lfc4, PAc4, npc4, pcc4, TAc4, ntc4, tcc4, KAc4, nkc4, kcc4, lfc4b, PAc4b, npc4b, pcc4b, TAc4b, ntc4b, tcc4b, KAc4b, nkc4b, kcc4b, rfl, hTc4, hUc4, hbc4⟩ := hc4.open_; have hic4 := hbc4.trans ((alloc2_below _ (.cells #[.bool lfc4, .slice PAc4 npc4 pcc4, .slice TAc4 ntc4 tcc4, .slice KAc4 nkc4 kcc4] 26) (.cells #[.bool lfc4b, .slice PAc4b npc4b pcc4b, .slice TAc4b ntc4b tcc4b, .slice KAc4b nkc4b kcc4b] 26)).mono hbc4.size); have hBc4 := HBc3.out.trans (hbc4.mono HBc3.out.size); have HBc4 := hd (below_mono2 (o := (.cells #[.bool lfc4, .slice PAc4 npc4 pcc4, .slice TAc4 ntc4 tcc4, .slice KAc4 nkc4 kcc4] 26)) (o' := (.cells #[.bool lfc4b, .slice PAc4b npc4b pcc4b, .slice TAc4b ntc4b tcc4b, .slice KAc4b nkc4b kcc4b] 26)) hBc4 hBc4.size); have HXc4 := hd ((HXc3.out.keep hbc4).add2 (.cells #[.bool lfc4, .slice PAc4 npc4 pcc4, .slice TAc4 ntc4 tcc4, .slice KAc4 nkc4 kcc4] 26) (.cells #[.bool lfc4b, .slice PAc4b npc4b pcc4b, .slice TAc4b ntc4b tcc4b, .slice KAc4b nkc4b kcc4b] 26)); have HAc4 := hd ((((HAc3.out.keep hbc4).add hTc4).add hUc4).keep (alloc2_below _ (.cells #[.bool lfc4, .slice PAc4 npc4 pcc4, .slice TAc4 ntc4 tcc4, .slice KAc4 nkc4 kcc4] 26) (.cells #[.bool lfc4b, .slice PAc4b npc4b pcc4b, .slice TAc4b ntc4b tcc4b, .slice KAc4b nkc4b kcc4b] 26))); clear hTc4 hUc4 hBc4 hbc4; have HIc4 := hd (HIc3.out.keep hic4); clear hic4; clear n0 n1 n2 n3; obtain ⟨r0, r1, r2, r3, -⟩ := blkCells (HXc4.out.tl.hd))
    | (go_at_call 16; have _g := HBc2; clear _g; refine Calls.mono (add_l HE.out HLP.out (by omega) hc1 (HAc2.out.tl.hd) (HAc2.out.hd) (HIc2.out.hd) HBD.out) ?_; intro e wc3 hc3; obtain ⟨lfc3, PAc3, npc3, pcc3, TAc3, ntc3, tcc3, KAc3, nkc3, kcc3, rfl, hTc3, hbc3⟩ := hc3.opn; have hic3 := hbc3.trans ((alloc_below _ (.cells #[.bool lfc3, .slice PAc3 npc3 pcc3, .slice TAc3 ntc3 tcc3, .slice KAc3 nkc3 kcc3] 26)).mono hbc3.size); have hBc3 := HBc2.out.trans (hbc3.mono HBc2.out.size); have HBc3 := hd (hBc3.alloc hBc3.size (.cells #[.bool lfc3, .slice PAc3 npc3 pcc3, .slice TAc3 ntc3 tcc3, .slice KAc3 nkc3 kcc3] 26)); have HXc3 := hd ((HXc2.out.keep hbc3).add (.cells #[.bool lfc3, .slice PAc3 npc3 pcc3, .slice TAc3 ntc3 tcc3, .slice KAc3 nkc3 kcc3] 26)); have HAc3 := hd (((HAc2.out.keep hbc3).add hTc3).keep (alloc_below _ (.cells #[.bool lfc3, .slice PAc3 npc3 pcc3, .slice TAc3 ntc3 tcc3, .slice KAc3 nkc3 kcc3] 26))); clear hTc3 hBc3 hbc3; have HIc3 := hd (HIc2.out.keep hic3); clear hic3; clear n0 n1 n2 n3 m0 m1 m2 m3; obtain ⟨n0, n1, n2, n3, -⟩ := blkCells (HXc3.out.tl.tl.hd))
    | (go_at_call 10; have _g := HBc1; clear _g; refine Calls.mono (few_at HFEW.out hl1 (HAc1.out.tl.hd) (HAc1.out.hd)) ?_; rintro e wc2 ⟨rfl, hbc2⟩; have hic2 := hbc2; have HBc2 := hd (HBc1.out.trans (hbc2.mono HBc1.out.size)); have HXc2 := hd (HXc1.out.keep hbc2); have HAc2 := hd (HAc1.out.keep hbc2); clear hbc2; have HIc2 := hd (HIc1.out.keep hic2); clear hic2; clear n0 n1 n2 n3 m0 m1 m2 m3; obtain ⟨n0, n1, n2, n3, -⟩ := blkCells (HXc2.out.tl.hd); obtain ⟨m0, m1, m2, m3, -⟩ := blkCells (HXc2.out.hd))
    | (go_at_call 9; have _g := HB; clear _g; refine Calls.mono (live5_any _) ?_; rintro e wc1 ⟨rfl, hbc1⟩; have hic1 := hbc1; have HBc1 := hd (HB.out.trans (hbc1.mono HB.out.size)); have HXc1 := hd (HX.out.keep hbc1); have HAc1 := hd (HA.out.keep hbc1); clear hbc1; have HIc1 := hd (HI.out.keep hic1); clear hic1; clear n0 n1 n2 n3 m0 m1 m2 m3; obtain ⟨n0, n1, n2, n3, -⟩ := blkCells (HXc1.out.tl.hd); obtain ⟨m0, m1, m2, m3, -⟩ := blkCells (HXc1.out.hd)))
  go_ret
  exact ⟨rfl, HBc6.out⟩

set_option maxRecDepth 100000 in
set_option maxHeartbeats 8000000 in
theorem tback_01 (w : World) (v u : Value) (n m : NT) (A : Option Addr) (p : List Int) (lp c : Nat) (hlp : p.length = lp) (hp50 : lp ≤ 50) (hc1 : lp ≤ c) (hF : (fewB 100 n && fewB 60 m && decide (lp ≤ 50)) = true) (hn : At w v n) (hm : At w u m) (hp : IL w w.heap.size A p) (hbd : ∀ x, getO n (upP p) = some x → x.ks.length < 1759218604441) (a : NT) (ea : Int) (ha : addE n p m = (a, ea)) (he : ea ≠ 0) (r y x : NT) (hr : cutE n p = (r, 0)) (hy : cutM n p = y) (hp0 : lp ≠ 0) (hx : getO n (upP p) = some x) (hlf : x.lf = true) :
    Calls Try.prog 5 #[v, .slice A lp c, u] w (Still (.bool true) w) := by
  have hl1 : lp ≤ 9223372036854775807 := by omega
  have HLP := hd hlp
  have HBD := hd hbd
  have HFEW := hd hF
  obtain ⟨lf, PA, np, pc, TA, nt, tc, KA, nk, kc, rfl⟩ := hn.val
  obtain ⟨lf', PA', np', pc', TA', nt', tc', KA', nk', kc', rfl⟩ := hm.val
  obtain ⟨wb, hwb⟩ : ∃ wb, wb = (w.alloc (.cells #[.bool lf, .slice PA np pc, .slice TA nt tc, .slice KA nk kc] 26)).alloc (.cells #[.bool lf', .slice PA' np' pc', .slice TA' nt' tc', .slice KA' nk' kc'] 26) := ⟨_, rfl⟩
  have hb0 : Below w.heap.size w wb := hwb ▸ below_mono2 (Below.refl _ _) (Nat.le_refl _)
  have HB := hd hb0
  have HX := hd (show Holds [(w.heap.size + 1, .cells #[.bool lf', .slice PA' np' pc', .slice TA' nt' tc', .slice KA' nk' kc'] 26), (w.heap.size, .cells #[.bool lf, .slice PA np pc, .slice TA nt tc, .slice KA nk kc] 26)] wb from hwb ▸ holds2 w _ _)
  have HA := hd (((((Ats.nil w).add hn).add hm)).keep hb0)
  have HI := hd (((Ils.nil w).add hp).keep hb0)
  have HE := hd ha
  have he1 : (ea == 0) = false := by simpa using he
  have he2 : (ea != 0) = true := by simpa using he
  clear ha he
  obtain ⟨k, rfl⟩ : ∃ k, lp = k + 1 := ⟨lp - 1, by omega⟩
  have HC := hd hr
  have HM := hd hy
  have HG := hd (show getE n (p.take k) = (x, 0) from getE_some (by rw [← hx]; unfold upP; rw [hlp]; rfl))
  have HKL2 := hd (show (p.take k).length = k by rw [List.length_take]; omega)
  have HLF := hd hlf
  obtain ⟨kx, hkx⟩ : ∃ kx, kx = x.ks.length := ⟨_, rfl⟩
  have HKL := hd hkx.symm
  have hrun := takeI_run A (k + 1) c k (by omega)
  have hwk : IntKind.i64.wrap (k : Int) = (k : Int) := IntWalk.i64_in _ (by omega)
  have hk0 : (0 : Int) ≤ (k : Int) := by omega
  have hkc : (k : Int) ≤ (c : Int) := by omega
  clear hr hy hp0 hx hlf hkx
  clear hn hm hp hb0 hlp hbd hF
  obtain ⟨n0, n1, n2, n3, -⟩ := blkCells (HX.out.tl.hd)
  obtain ⟨m0, m1, m2, m3, -⟩ := blkCells (HX.out.hd)
  go_enter Try.func5, Try.ntmps5
  subst hwb
  go_upto_region 13 with (first
    | (go_at_call 18; have _g := HBc3; clear _g; refine Calls.mono (cut_l HC.out HM.out HLP.out (by omega) hc1 (HAc3.out.tl.tl.hd) (HIc3.out.hd)) ?_; intro e wc4 hc4; obtain ⟨lfc4, PAc4, npc4, pcc4, TAc4, ntc4, tcc4, KAc4, nkc4, kcc4, lfc4b, PAc4b, npc4b, pcc4b, TAc4b, ntc4b, tcc4b, KAc4b, nkc4b, kcc4b, rfl, hTc4, hUc4, hbc4⟩ := hc4.open_; have hic4 := hbc4.trans ((alloc2_below _ (.cells #[.bool lfc4, .slice PAc4 npc4 pcc4, .slice TAc4 ntc4 tcc4, .slice KAc4 nkc4 kcc4] 26) (.cells #[.bool lfc4b, .slice PAc4b npc4b pcc4b, .slice TAc4b ntc4b tcc4b, .slice KAc4b nkc4b kcc4b] 26)).mono hbc4.size); have hBc4 := HBc3.out.trans (hbc4.mono HBc3.out.size); have HBc4 := hd (below_mono2 (o := (.cells #[.bool lfc4, .slice PAc4 npc4 pcc4, .slice TAc4 ntc4 tcc4, .slice KAc4 nkc4 kcc4] 26)) (o' := (.cells #[.bool lfc4b, .slice PAc4b npc4b pcc4b, .slice TAc4b ntc4b tcc4b, .slice KAc4b nkc4b kcc4b] 26)) hBc4 hBc4.size); have HXc4 := hd ((HXc3.out.keep hbc4).add2 (.cells #[.bool lfc4, .slice PAc4 npc4 pcc4, .slice TAc4 ntc4 tcc4, .slice KAc4 nkc4 kcc4] 26) (.cells #[.bool lfc4b, .slice PAc4b npc4b pcc4b, .slice TAc4b ntc4b tcc4b, .slice KAc4b nkc4b kcc4b] 26)); have HAc4 := hd ((((HAc3.out.keep hbc4).add hTc4).add hUc4).keep (alloc2_below _ (.cells #[.bool lfc4, .slice PAc4 npc4 pcc4, .slice TAc4 ntc4 tcc4, .slice KAc4 nkc4 kcc4] 26) (.cells #[.bool lfc4b, .slice PAc4b npc4b pcc4b, .slice TAc4b ntc4b tcc4b, .slice KAc4b nkc4b kcc4b] 26))); clear hTc4 hUc4 hBc4 hbc4; have HIc4 := hd (HIc3.out.keep hic4); clear hic4; clear n0 n1 n2 n3; obtain ⟨n0, n1, n2, n3, -⟩ := blkCells (HXc4.out.tl.tl.tl.tl.hd))
    | (go_at_call 16; have _g := HBc2; clear _g; refine Calls.mono (add_l HE.out HLP.out (by omega) hc1 (HAc2.out.tl.hd) (HAc2.out.hd) (HIc2.out.hd) HBD.out) ?_; intro e wc3 hc3; obtain ⟨lfc3, PAc3, npc3, pcc3, TAc3, ntc3, tcc3, KAc3, nkc3, kcc3, rfl, hTc3, hbc3⟩ := hc3.opn; have hic3 := hbc3.trans ((alloc_below _ (.cells #[.bool lfc3, .slice PAc3 npc3 pcc3, .slice TAc3 ntc3 tcc3, .slice KAc3 nkc3 kcc3] 26)).mono hbc3.size); have hBc3 := HBc2.out.trans (hbc3.mono HBc2.out.size); have HBc3 := hd (hBc3.alloc hBc3.size (.cells #[.bool lfc3, .slice PAc3 npc3 pcc3, .slice TAc3 ntc3 tcc3, .slice KAc3 nkc3 kcc3] 26)); have HXc3 := hd ((HXc2.out.keep hbc3).add (.cells #[.bool lfc3, .slice PAc3 npc3 pcc3, .slice TAc3 ntc3 tcc3, .slice KAc3 nkc3 kcc3] 26)); have HAc3 := hd (((HAc2.out.keep hbc3).add hTc3).keep (alloc_below _ (.cells #[.bool lfc3, .slice PAc3 npc3 pcc3, .slice TAc3 ntc3 tcc3, .slice KAc3 nkc3 kcc3] 26))); clear hTc3 hBc3 hbc3; have HIc3 := hd (HIc2.out.keep hic3); clear hic3; clear n0 n1 n2 n3 m0 m1 m2 m3; obtain ⟨n0, n1, n2, n3, -⟩ := blkCells (HXc3.out.tl.tl.hd))
    | (go_at_call 10; have _g := HBc1; clear _g; refine Calls.mono (few_at HFEW.out hl1 (HAc1.out.tl.hd) (HAc1.out.hd)) ?_; rintro e wc2 ⟨rfl, hbc2⟩; have hic2 := hbc2; have HBc2 := hd (HBc1.out.trans (hbc2.mono HBc1.out.size)); have HXc2 := hd (HXc1.out.keep hbc2); have HAc2 := hd (HAc1.out.keep hbc2); clear hbc2; have HIc2 := hd (HIc1.out.keep hic2); clear hic2; clear n0 n1 n2 n3 m0 m1 m2 m3; obtain ⟨n0, n1, n2, n3, -⟩ := blkCells (HXc2.out.tl.hd); obtain ⟨m0, m1, m2, m3, -⟩ := blkCells (HXc2.out.hd))
    | (go_at_call 9; have _g := HB; clear _g; refine Calls.mono (live5_any _) ?_; rintro e wc1 ⟨rfl, hbc1⟩; have hic1 := hbc1; have HBc1 := hd (HB.out.trans (hbc1.mono HB.out.size)); have HXc1 := hd (HX.out.keep hbc1); have HAc1 := hd (HA.out.keep hbc1); clear hbc1; have HIc1 := hd (HI.out.keep hic1); clear hic1; clear n0 n1 n2 n3 m0 m1 m2 m3; obtain ⟨n0, n1, n2, n3, -⟩ := blkCells (HXc1.out.tl.hd); obtain ⟨m0, m1, m2, m3, -⟩ := blkCells (HXc1.out.hd)))
  generalize hW0 : World.alloc (World.alloc wc4 _) _ = W0
  have HBd := hd (show Below w.heap.size w W0 from hW0 ▸ HBc4.out)
  have HXd := hd (show Holds _ W0 from hW0 ▸ HXc4.out)
  have HAd := hd (show Ats _ W0 from hW0 ▸ HAc4.out)
  have HId := hd (show Ils _ W0 from hW0 ▸ HIc4.out)
  clear hW0 n0 n1 n2 n3
  obtain ⟨n0, n1, n2, n3, -⟩ := blkCells (HXd.out.tl.tl.tl.tl.hd)
  have hlm := lt_of_block (HXd.out.tl.tl.tl.hd)
  have HCH := fun (w' : World) (hb : Below W0.heap.size W0 w') => hd (Calls.mono (get_l (p := p.take k) (c := c) HG.out HKL2.out (by omega) ((HAd.out.tl.tl.tl.tl.hd).later hb) (((HId.out.hd).later hb).take k)) (fun e w3 h => NewN.newO (r := (x, 0)) h (g := w.heap.size + 1) (by have := hb.size; omega)))
  have HMK := hd (show ∀ W, Off (w.heap.size + 1) W0 W → (Off (w.heap.size + 1) W0 W ∧ W.cell? ⟨w.heap.size, 0, none⟩ = some (.bool lf) ∧ W.cell? ⟨w.heap.size, 1, none⟩ = some (.slice PA np pc) ∧ W.cell? ⟨w.heap.size, 2, none⟩ = some (.slice TA nt tc) ∧ W.cell? ⟨w.heap.size, 3, none⟩ = some (.slice KA nk kc)) from fun W h => ⟨h, (h.cell (cell_in n0) (by show w.heap.size ≠ w.heap.size + 1; omega)).trans n0, (h.cell (cell_in n1) (by show w.heap.size ≠ w.heap.size + 1; omega)).trans n1, (h.cell (cell_in n2) (by show w.heap.size ≠ w.heap.size + 1; omega)).trans n2, (h.cell (cell_in n3) (by show w.heap.size ≠ w.heap.size + 1; omega)).trans n3⟩)
  go_cut [15, 16] (fun s15 s16 wx => KidAt (w.heap.size + 1) W0 (x, 0) none s15 s16 wx)
  case first =>
    go_region_held3 (fun W => Off (w.heap.size + 1) W0 W ∧ W.cell? ⟨w.heap.size, 0, none⟩ = some (.bool lf) ∧ W.cell? ⟨w.heap.size, 1, none⟩ = some (.slice PA np pc) ∧ W.cell? ⟨w.heap.size, 2, none⟩ = some (.slice TA nt tc) ∧ W.cell? ⟨w.heap.size, 3, none⟩ = some (.slice KA nk kc))
      (first
        | assumption
        | exact HMK.out _ (Off.refl _ _).drew
        | (go_split_ands; exact HMK.out _ (Off.alloc (by assumption) _))
        | (go_split_ands; exact HMK.out _ (Off.set4 (by assumption) (.inl (by first | exact Nat.le_refl _ | omega)))))
      (first
        | (go_at_call 12; refine Calls.mono (HCH _ ?hh).out ?_; (case hh => first | exact (Below.refl _ _).drew | exact ((Below.refl _ _).drew.alloc (Nat.le_refl _) _)); intro e w3 h3; obtain ⟨v3, d3, rfl, ht3, ho3, hl3'⟩ := h3; obtain ⟨lf4, PA4, np4, pc4, TA4, nt4, tc4, KA4, nk4, kc4, rfl⟩ := (ht3.at_ (B := w3.heap.size) (fun b hb => hb.2)).val; have hS3 := HMK.out w3 (Off.trans (by go_split_ands; assumption) ho3); have HT3 := hd ht3; have HO3 := hd ho3; have HL3 := hd hl3'; (first | (have hOc := hd ((ho3.block W0.heap.size (by show W0.heap.size < (World.heap _).size; simp) (by omega)).trans (heap_alloc_new (World.drew W0) _)); obtain ⟨q0, q1, q2, q3, q4, q5, q6, q7⟩ := blkCells hOc.out) | skip); have hz3 := ho3.size; clear ht3 ho3 hl3'))
    · go_wp2_with fail
      go_meet
      exact kid_new (r := (x, 0)) (Below.refl _ _).drew (by omega) HT3.out HO3.out HL3.out
    · go_wp2_with fail
      go_meet
      exact kid_set (r := (x, 0)) ((Below.refl _ _).drew.alloc (Nat.le_refl _) _) (by omega) (Nat.le_refl _) (by simp) hOc.out HT3.out HO3.out HL3.out
  case rest =>
    obtain ⟨g8, lf8, PA8, np8, pc8, TA8, nt8, tc8, KA8, nk8, kc8, d8, rfl, rfl, hg8, hO8, ht8, ho8, hl8⟩ := hcut
    have hb8 := ho8.drop hl8
    obtain rfl := (At.of_tree ht8 (fun b hb => hb.2.1)).lf HLF.out
    have HBe := hd (HBd.out.trans (hb8.mono HBd.out.size))
    have HXe := hd (HXd.out.keep hb8)
    have HAe := hd (HAd.out.keep hb8)
    have HIe := hd (HId.out.keep hb8)
    obtain ⟨u0, u1, u2, u3, -⟩ := blkCells hO8
    clear n0 n1 n2 n3 ht8 ho8 hl8 hb8 hO8 HCH HMK hrun
    go_wp2_with fail
    go_ret
    exact ⟨rfl, HBe.out⟩

set_option maxRecDepth 100000 in
set_option maxHeartbeats 8000000 in
theorem tback_02 (w : World) (v u : Value) (n m : NT) (A : Option Addr) (p : List Int) (lp c : Nat) (hlp : p.length = lp) (hp50 : lp ≤ 50) (hc1 : lp ≤ c) (hF : (fewB 100 n && fewB 60 m && decide (lp ≤ 50)) = true) (hn : At w v n) (hm : At w u m) (hp : IL w w.heap.size A p) (hbd : ∀ x, getO n (upP p) = some x → x.ks.length < 1759218604441) (a : NT) (ea : Int) (ha : addE n p m = (a, ea)) (he : ea ≠ 0) (r y x : NT) (hr : cutE n p = (r, 0)) (hy : cutM n p = y) (hp0 : lp ≠ 0) (hx : getO n (upP p) = some x) (hlf : x.lf = false) (hadd : addE r p y = (n, 0)) (hbd2 : ∀ x, getO r (upP p) = some x → x.ks.length < 1759218604441) :
    Calls Try.prog 5 #[v, .slice A lp c, u] w (Still (.bool true) w) := by
  have hl1 : lp ≤ 9223372036854775807 := by omega
  have HLP := hd hlp
  have HBD := hd hbd
  have HFEW := hd hF
  obtain ⟨lf, PA, np, pc, TA, nt, tc, KA, nk, kc, rfl⟩ := hn.val
  obtain ⟨lf', PA', np', pc', TA', nt', tc', KA', nk', kc', rfl⟩ := hm.val
  obtain ⟨wb, hwb⟩ : ∃ wb, wb = (w.alloc (.cells #[.bool lf, .slice PA np pc, .slice TA nt tc, .slice KA nk kc] 26)).alloc (.cells #[.bool lf', .slice PA' np' pc', .slice TA' nt' tc', .slice KA' nk' kc'] 26) := ⟨_, rfl⟩
  have hb0 : Below w.heap.size w wb := hwb ▸ below_mono2 (Below.refl _ _) (Nat.le_refl _)
  have HB := hd hb0
  have HX := hd (show Holds [(w.heap.size + 1, .cells #[.bool lf', .slice PA' np' pc', .slice TA' nt' tc', .slice KA' nk' kc'] 26), (w.heap.size, .cells #[.bool lf, .slice PA np pc, .slice TA nt tc, .slice KA nk kc] 26)] wb from hwb ▸ holds2 w _ _)
  have HA := hd (((((Ats.nil w).add hn).add hm)).keep hb0)
  have HI := hd (((Ils.nil w).add hp).keep hb0)
  have HE := hd ha
  have he1 : (ea == 0) = false := by simpa using he
  have he2 : (ea != 0) = true := by simpa using he
  clear ha he
  obtain ⟨k, rfl⟩ : ∃ k, lp = k + 1 := ⟨lp - 1, by omega⟩
  have HC := hd hr
  have HM := hd hy
  have HG := hd (show getE n (p.take k) = (x, 0) from getE_some (by rw [← hx]; unfold upP; rw [hlp]; rfl))
  have HKL2 := hd (show (p.take k).length = k by rw [List.length_take]; omega)
  have HLF := hd hlf
  obtain ⟨kx, hkx⟩ : ∃ kx, kx = x.ks.length := ⟨_, rfl⟩
  have HKL := hd hkx.symm
  have hrun := takeI_run A (k + 1) c k (by omega)
  have hwk : IntKind.i64.wrap (k : Int) = (k : Int) := IntWalk.i64_in _ (by omega)
  have hk0 : (0 : Int) ≤ (k : Int) := by omega
  have hkc : (k : Int) ≤ (c : Int) := by omega
  clear hr hy hp0 hx hlf hkx
  have HE2 := hd hadd
  have HBD2 := hd hbd2
  clear hadd hbd2
  clear hn hm hp hb0 hlp hbd hF
  obtain ⟨n0, n1, n2, n3, -⟩ := blkCells (HX.out.tl.hd)
  obtain ⟨m0, m1, m2, m3, -⟩ := blkCells (HX.out.hd)
  go_enter Try.func5, Try.ntmps5
  subst hwb
  go_upto_region 13 with (first
    | (go_at_call 18; have _g := HBc3; clear _g; refine Calls.mono (cut_l HC.out HM.out HLP.out (by omega) hc1 (HAc3.out.tl.tl.hd) (HIc3.out.hd)) ?_; intro e wc4 hc4; obtain ⟨lfc4, PAc4, npc4, pcc4, TAc4, ntc4, tcc4, KAc4, nkc4, kcc4, lfc4b, PAc4b, npc4b, pcc4b, TAc4b, ntc4b, tcc4b, KAc4b, nkc4b, kcc4b, rfl, hTc4, hUc4, hbc4⟩ := hc4.open_; have hic4 := hbc4.trans ((alloc2_below _ (.cells #[.bool lfc4, .slice PAc4 npc4 pcc4, .slice TAc4 ntc4 tcc4, .slice KAc4 nkc4 kcc4] 26) (.cells #[.bool lfc4b, .slice PAc4b npc4b pcc4b, .slice TAc4b ntc4b tcc4b, .slice KAc4b nkc4b kcc4b] 26)).mono hbc4.size); have hBc4 := HBc3.out.trans (hbc4.mono HBc3.out.size); have HBc4 := hd (below_mono2 (o := (.cells #[.bool lfc4, .slice PAc4 npc4 pcc4, .slice TAc4 ntc4 tcc4, .slice KAc4 nkc4 kcc4] 26)) (o' := (.cells #[.bool lfc4b, .slice PAc4b npc4b pcc4b, .slice TAc4b ntc4b tcc4b, .slice KAc4b nkc4b kcc4b] 26)) hBc4 hBc4.size); have HXc4 := hd ((HXc3.out.keep hbc4).add2 (.cells #[.bool lfc4, .slice PAc4 npc4 pcc4, .slice TAc4 ntc4 tcc4, .slice KAc4 nkc4 kcc4] 26) (.cells #[.bool lfc4b, .slice PAc4b npc4b pcc4b, .slice TAc4b ntc4b tcc4b, .slice KAc4b nkc4b kcc4b] 26)); have HAc4 := hd ((((HAc3.out.keep hbc4).add hTc4).add hUc4).keep (alloc2_below _ (.cells #[.bool lfc4, .slice PAc4 npc4 pcc4, .slice TAc4 ntc4 tcc4, .slice KAc4 nkc4 kcc4] 26) (.cells #[.bool lfc4b, .slice PAc4b npc4b pcc4b, .slice TAc4b ntc4b tcc4b, .slice KAc4b nkc4b kcc4b] 26))); clear hTc4 hUc4 hBc4 hbc4; have HIc4 := hd (HIc3.out.keep hic4); clear hic4; clear n0 n1 n2 n3; obtain ⟨n0, n1, n2, n3, -⟩ := blkCells (HXc4.out.tl.tl.tl.tl.hd))
    | (go_at_call 16; have _g := HBc2; clear _g; refine Calls.mono (add_l HE.out HLP.out (by omega) hc1 (HAc2.out.tl.hd) (HAc2.out.hd) (HIc2.out.hd) HBD.out) ?_; intro e wc3 hc3; obtain ⟨lfc3, PAc3, npc3, pcc3, TAc3, ntc3, tcc3, KAc3, nkc3, kcc3, rfl, hTc3, hbc3⟩ := hc3.opn; have hic3 := hbc3.trans ((alloc_below _ (.cells #[.bool lfc3, .slice PAc3 npc3 pcc3, .slice TAc3 ntc3 tcc3, .slice KAc3 nkc3 kcc3] 26)).mono hbc3.size); have hBc3 := HBc2.out.trans (hbc3.mono HBc2.out.size); have HBc3 := hd (hBc3.alloc hBc3.size (.cells #[.bool lfc3, .slice PAc3 npc3 pcc3, .slice TAc3 ntc3 tcc3, .slice KAc3 nkc3 kcc3] 26)); have HXc3 := hd ((HXc2.out.keep hbc3).add (.cells #[.bool lfc3, .slice PAc3 npc3 pcc3, .slice TAc3 ntc3 tcc3, .slice KAc3 nkc3 kcc3] 26)); have HAc3 := hd (((HAc2.out.keep hbc3).add hTc3).keep (alloc_below _ (.cells #[.bool lfc3, .slice PAc3 npc3 pcc3, .slice TAc3 ntc3 tcc3, .slice KAc3 nkc3 kcc3] 26))); clear hTc3 hBc3 hbc3; have HIc3 := hd (HIc2.out.keep hic3); clear hic3; clear n0 n1 n2 n3 m0 m1 m2 m3; obtain ⟨n0, n1, n2, n3, -⟩ := blkCells (HXc3.out.tl.tl.hd))
    | (go_at_call 10; have _g := HBc1; clear _g; refine Calls.mono (few_at HFEW.out hl1 (HAc1.out.tl.hd) (HAc1.out.hd)) ?_; rintro e wc2 ⟨rfl, hbc2⟩; have hic2 := hbc2; have HBc2 := hd (HBc1.out.trans (hbc2.mono HBc1.out.size)); have HXc2 := hd (HXc1.out.keep hbc2); have HAc2 := hd (HAc1.out.keep hbc2); clear hbc2; have HIc2 := hd (HIc1.out.keep hic2); clear hic2; clear n0 n1 n2 n3 m0 m1 m2 m3; obtain ⟨n0, n1, n2, n3, -⟩ := blkCells (HXc2.out.tl.hd); obtain ⟨m0, m1, m2, m3, -⟩ := blkCells (HXc2.out.hd))
    | (go_at_call 9; have _g := HB; clear _g; refine Calls.mono (live5_any _) ?_; rintro e wc1 ⟨rfl, hbc1⟩; have hic1 := hbc1; have HBc1 := hd (HB.out.trans (hbc1.mono HB.out.size)); have HXc1 := hd (HX.out.keep hbc1); have HAc1 := hd (HA.out.keep hbc1); clear hbc1; have HIc1 := hd (HI.out.keep hic1); clear hic1; clear n0 n1 n2 n3 m0 m1 m2 m3; obtain ⟨n0, n1, n2, n3, -⟩ := blkCells (HXc1.out.tl.hd); obtain ⟨m0, m1, m2, m3, -⟩ := blkCells (HXc1.out.hd)))
  generalize hW0 : World.alloc (World.alloc wc4 _) _ = W0
  have HBd := hd (show Below w.heap.size w W0 from hW0 ▸ HBc4.out)
  have HXd := hd (show Holds _ W0 from hW0 ▸ HXc4.out)
  have HAd := hd (show Ats _ W0 from hW0 ▸ HAc4.out)
  have HId := hd (show Ils _ W0 from hW0 ▸ HIc4.out)
  clear hW0 n0 n1 n2 n3
  obtain ⟨n0, n1, n2, n3, -⟩ := blkCells (HXd.out.tl.tl.tl.tl.hd)
  have hlm := lt_of_block (HXd.out.tl.tl.tl.hd)
  have HCH := fun (w' : World) (hb : Below W0.heap.size W0 w') => hd (Calls.mono (get_l (p := p.take k) (c := c) HG.out HKL2.out (by omega) ((HAd.out.tl.tl.tl.tl.hd).later hb) (((HId.out.hd).later hb).take k)) (fun e w3 h => NewN.newO (r := (x, 0)) h (g := w.heap.size + 1) (by have := hb.size; omega)))
  have HMK := hd (show ∀ W, Off (w.heap.size + 1) W0 W → (Off (w.heap.size + 1) W0 W ∧ W.cell? ⟨w.heap.size, 0, none⟩ = some (.bool lf) ∧ W.cell? ⟨w.heap.size, 1, none⟩ = some (.slice PA np pc) ∧ W.cell? ⟨w.heap.size, 2, none⟩ = some (.slice TA nt tc) ∧ W.cell? ⟨w.heap.size, 3, none⟩ = some (.slice KA nk kc)) from fun W h => ⟨h, (h.cell (cell_in n0) (by show w.heap.size ≠ w.heap.size + 1; omega)).trans n0, (h.cell (cell_in n1) (by show w.heap.size ≠ w.heap.size + 1; omega)).trans n1, (h.cell (cell_in n2) (by show w.heap.size ≠ w.heap.size + 1; omega)).trans n2, (h.cell (cell_in n3) (by show w.heap.size ≠ w.heap.size + 1; omega)).trans n3⟩)
  go_cut [15, 16] (fun s15 s16 wx => KidAt (w.heap.size + 1) W0 (x, 0) none s15 s16 wx)
  case first =>
    go_region_held3 (fun W => Off (w.heap.size + 1) W0 W ∧ W.cell? ⟨w.heap.size, 0, none⟩ = some (.bool lf) ∧ W.cell? ⟨w.heap.size, 1, none⟩ = some (.slice PA np pc) ∧ W.cell? ⟨w.heap.size, 2, none⟩ = some (.slice TA nt tc) ∧ W.cell? ⟨w.heap.size, 3, none⟩ = some (.slice KA nk kc))
      (first
        | assumption
        | exact HMK.out _ (Off.refl _ _).drew
        | (go_split_ands; exact HMK.out _ (Off.alloc (by assumption) _))
        | (go_split_ands; exact HMK.out _ (Off.set4 (by assumption) (.inl (by first | exact Nat.le_refl _ | omega)))))
      (first
        | (go_at_call 12; refine Calls.mono (HCH _ ?hh).out ?_; (case hh => first | exact (Below.refl _ _).drew | exact ((Below.refl _ _).drew.alloc (Nat.le_refl _) _)); intro e w3 h3; obtain ⟨v3, d3, rfl, ht3, ho3, hl3'⟩ := h3; obtain ⟨lf4, PA4, np4, pc4, TA4, nt4, tc4, KA4, nk4, kc4, rfl⟩ := (ht3.at_ (B := w3.heap.size) (fun b hb => hb.2)).val; have hS3 := HMK.out w3 (Off.trans (by go_split_ands; assumption) ho3); have HT3 := hd ht3; have HO3 := hd ho3; have HL3 := hd hl3'; (first | (have hOc := hd ((ho3.block W0.heap.size (by show W0.heap.size < (World.heap _).size; simp) (by omega)).trans (heap_alloc_new (World.drew W0) _)); obtain ⟨q0, q1, q2, q3, q4, q5, q6, q7⟩ := blkCells hOc.out) | skip); have hz3 := ho3.size; clear ht3 ho3 hl3'))
    · go_wp2_with fail
      go_meet
      exact kid_new (r := (x, 0)) (Below.refl _ _).drew (by omega) HT3.out HO3.out HL3.out
    · go_wp2_with fail
      go_meet
      exact kid_set (r := (x, 0)) ((Below.refl _ _).drew.alloc (Nat.le_refl _) _) (by omega) (Nat.le_refl _) (by simp) hOc.out HT3.out HO3.out HL3.out
  case rest =>
    obtain ⟨g8, lf8, PA8, np8, pc8, TA8, nt8, tc8, KA8, nk8, kc8, d8, rfl, rfl, hg8, hO8, ht8, ho8, hl8⟩ := hcut
    have hb8 := ho8.drop hl8
    obtain rfl := (At.of_tree ht8 (fun b hb => hb.2.1)).lf HLF.out
    have HBe := hd (HBd.out.trans (hb8.mono HBd.out.size))
    have HXe := hd (HXd.out.keep hb8)
    have HAe := hd (HAd.out.keep hb8)
    have HIe := hd (HId.out.keep hb8)
    obtain ⟨u0, u1, u2, u3, -⟩ := blkCells hO8
    clear n0 n1 n2 n3 ht8 ho8 hl8 hb8 hO8 HCH HMK hrun
    obtain ⟨r0, r1, r2, r3, -⟩ := blkCells (HXe.out.tl.hd)
    obtain ⟨y0, y1, y2, y3, -⟩ := blkCells (HXe.out.hd)
    go_wp2_with (first
      | (go_at_call 27; have _g := HBc5; clear _g; refine Calls.mono (nsame_at (eqT_self _) (HAc5.out.hd) (HAc5.out.tl.tl.tl.tl.tl.hd)) ?_; rintro e wc6 ⟨rfl, hbc6⟩; have hic6 := hbc6; have HBc6 := hd (HBc5.out.trans (hbc6.mono HBc5.out.size)); have HXc6 := hd (HXc5.out.keep hbc6); have HAc6 := hd (HAc5.out.keep hbc6); clear hbc6; have HIc6 := hd (HIc5.out.keep hic6); clear hic6; clear t0 t1 t2 t3 n0 n1 n2 n3)
      | (go_at_call 16; have _g := HBe; clear _g; refine Calls.mono (add_l HE2.out HLP.out (by omega) hc1 (HAe.out.tl.hd) (HAe.out.hd) (HIe.out.hd) HBD2.out) ?_; intro e wc5 hc5; obtain ⟨lfc5, PAc5, npc5, pcc5, TAc5, ntc5, tcc5, KAc5, nkc5, kcc5, rfl, hTc5, hbc5⟩ := hc5.opn; have hic5 := hbc5.trans ((alloc_below _ (.cells #[.bool lfc5, .slice PAc5 npc5 pcc5, .slice TAc5 ntc5 tcc5, .slice KAc5 nkc5 kcc5] 26)).mono hbc5.size); have hBc5 := HBe.out.trans (hbc5.mono HBe.out.size); have HBc5 := hd (hBc5.alloc hBc5.size (.cells #[.bool lfc5, .slice PAc5 npc5 pcc5, .slice TAc5 ntc5 tcc5, .slice KAc5 nkc5 kcc5] 26)); have HXc5 := hd ((HXe.out.keep hbc5).add (.cells #[.bool lfc5, .slice PAc5 npc5 pcc5, .slice TAc5 ntc5 tcc5, .slice KAc5 nkc5 kcc5] 26)); have HAc5 := hd (((HAe.out.keep hbc5).add hTc5).keep (alloc_below _ (.cells #[.bool lfc5, .slice PAc5 npc5 pcc5, .slice TAc5 ntc5 tcc5, .slice KAc5 nkc5 kcc5] 26))); clear hTc5 hBc5 hbc5; have HIc5 := hd (HIe.out.keep hic5); clear hic5; clear r0 r1 r2 r3 y0 y1 y2 y3; obtain ⟨t0, t1, t2, t3, -⟩ := blkCells (HXc5.out.hd); obtain ⟨n0, n1, n2, n3, -⟩ := blkCells (HXc5.out.tl.tl.tl.tl.tl.hd)))
    go_ret
    exact ⟨rfl, HBc6.out⟩

set_option maxRecDepth 100000 in
set_option maxHeartbeats 8000000 in
theorem tback_10 (w : World) (v u : Value) (n m : NT) (A : Option Addr) (p : List Int) (lp c : Nat) (hlp : p.length = lp) (hp50 : lp ≤ 50) (hc1 : lp ≤ c) (hF : (fewB 100 n && fewB 60 m && decide (lp ≤ 50)) = true) (hn : At w v n) (hm : At w u m) (hp : IL w w.heap.size A p) (hbd : ∀ x, getO n (upP p) = some x → x.ks.length < 1759218604441) (a : NT) (ha : addE n p m = (a, 0)) (r y : NT) (er : Int) (hr : cutE n p = (r, er)) (hy : cutM n p = y) (her : er ≠ 0) :
    Calls Try.prog 5 #[v, .slice A lp c, u] w (Still (.bool true) w) := by
  have hl1 : lp ≤ 9223372036854775807 := by omega
  have HLP := hd hlp
  have HBD := hd hbd
  have HFEW := hd hF
  obtain ⟨lf, PA, np, pc, TA, nt, tc, KA, nk, kc, rfl⟩ := hn.val
  obtain ⟨lf', PA', np', pc', TA', nt', tc', KA', nk', kc', rfl⟩ := hm.val
  obtain ⟨wb, hwb⟩ : ∃ wb, wb = (w.alloc (.cells #[.bool lf, .slice PA np pc, .slice TA nt tc, .slice KA nk kc] 26)).alloc (.cells #[.bool lf', .slice PA' np' pc', .slice TA' nt' tc', .slice KA' nk' kc'] 26) := ⟨_, rfl⟩
  have hb0 : Below w.heap.size w wb := hwb ▸ below_mono2 (Below.refl _ _) (Nat.le_refl _)
  have HB := hd hb0
  have HX := hd (show Holds [(w.heap.size + 1, .cells #[.bool lf', .slice PA' np' pc', .slice TA' nt' tc', .slice KA' nk' kc'] 26), (w.heap.size, .cells #[.bool lf, .slice PA np pc, .slice TA nt tc, .slice KA nk kc] 26)] wb from hwb ▸ holds2 w _ _)
  have HA := hd (((((Ats.nil w).add hn).add hm)).keep hb0)
  have HI := hd (((Ils.nil w).add hp).keep hb0)
  have HE := hd ha
  have hac := add_cut ha
  have HCA := hd hac.1
  have HCM := hd hac.2
  clear ha hac
  have hce := cut_err (n := n) (p := p) (by rw [hr]; exact her)
  obtain rfl : r = zeroT := by have := hce.1; rw [hr] at this; exact this
  obtain rfl : y = zeroT := by rw [← hy]; exact hce.2
  have HC := hd hr
  have HM := hd hy
  have he3 : (er == 0) = false := by simpa using her
  have he4 : (er != 0) = true := by simpa using her
  clear hr hy her hce
  clear hn hm hp hb0 hlp hbd hF
  obtain ⟨n0, n1, n2, n3, -⟩ := blkCells (HX.out.tl.hd)
  obtain ⟨m0, m1, m2, m3, -⟩ := blkCells (HX.out.hd)
  go_enter Try.func5, Try.ntmps5
  subst hwb
  go_wp2_with (first
    | (go_at_call 27; have _g := HBc8; clear _g; refine Calls.mono (nsame_at (eqT_self _) (HAc8.out.hd) (At.zero _)) ?_; rintro e wc9 ⟨rfl, hbc9⟩; have hic9 := hbc9; have HBc9 := hd (HBc8.out.trans (hbc9.mono HBc8.out.size)); have HXc9 := hd (HXc8.out.keep hbc9); have HAc9 := hd (HAc8.out.keep hbc9); clear hbc9; have HIc9 := hd (HIc8.out.keep hic9); clear hic9; clear y0 y1 y2 y3)
    | (go_at_call 27; have _g := HBc7; clear _g; refine Calls.mono (nsame_at (eqT_self _) (HAc7.out.tl.hd) (At.zero _)) ?_; rintro e wc8 ⟨rfl, hbc8⟩; have hic8 := hbc8; have HBc8 := hd (HBc7.out.trans (hbc8.mono HBc7.out.size)); have HXc8 := hd (HXc7.out.keep hbc8); have HAc8 := hd (HAc7.out.keep hbc8); clear hbc8; have HIc8 := hd (HIc7.out.keep hic8); clear hic8; clear r0 r1 r2 r3; obtain ⟨y0, y1, y2, y3, -⟩ := blkCells (HXc8.out.hd))
    | (go_at_call 18; have _g := HBc6; clear _g; refine Calls.mono (cut_l HC.out HM.out HLP.out (by omega) hc1 (HAc6.out.tl.tl.tl.tl.hd) (HIc6.out.hd)) ?_; intro e wc7 hc7; obtain ⟨lfc7, PAc7, npc7, pcc7, TAc7, ntc7, tcc7, KAc7, nkc7, kcc7, lfc7b, PAc7b, npc7b, pcc7b, TAc7b, ntc7b, tcc7b, KAc7b, nkc7b, kcc7b, rfl, hTc7, hUc7, hbc7⟩ := hc7.open_; have hic7 := hbc7.trans ((alloc2_below _ (.cells #[.bool lfc7, .slice PAc7 npc7 pcc7, .slice TAc7 ntc7 tcc7, .slice KAc7 nkc7 kcc7] 26) (.cells #[.bool lfc7b, .slice PAc7b npc7b pcc7b, .slice TAc7b ntc7b tcc7b, .slice KAc7b nkc7b kcc7b] 26)).mono hbc7.size); have hBc7 := HBc6.out.trans (hbc7.mono HBc6.out.size); have HBc7 := hd (below_mono2 (o := (.cells #[.bool lfc7, .slice PAc7 npc7 pcc7, .slice TAc7 ntc7 tcc7, .slice KAc7 nkc7 kcc7] 26)) (o' := (.cells #[.bool lfc7b, .slice PAc7b npc7b pcc7b, .slice TAc7b ntc7b tcc7b, .slice KAc7b nkc7b kcc7b] 26)) hBc7 hBc7.size); have HXc7 := hd ((HXc6.out.keep hbc7).add2 (.cells #[.bool lfc7, .slice PAc7 npc7 pcc7, .slice TAc7 ntc7 tcc7, .slice KAc7 nkc7 kcc7] 26) (.cells #[.bool lfc7b, .slice PAc7b npc7b pcc7b, .slice TAc7b ntc7b tcc7b, .slice KAc7b nkc7b kcc7b] 26)); have HAc7 := hd ((((HAc6.out.keep hbc7).add hTc7).add hUc7).keep (alloc2_below _ (.cells #[.bool lfc7, .slice PAc7 npc7 pcc7, .slice TAc7 ntc7 tcc7, .slice KAc7 nkc7 kcc7] 26) (.cells #[.bool lfc7b, .slice PAc7b npc7b pcc7b, .slice TAc7b ntc7b tcc7b, .slice KAc7b nkc7b kcc7b] 26))); clear hTc7 hUc7 hBc7 hbc7; have HIc7 := hd (HIc6.out.keep hic7); clear hic7; clear n0 n1 n2 n3; obtain ⟨r0, r1, r2, r3, -⟩ := blkCells (HXc7.out.tl.hd))
    | (go_at_call 27; have _g := HBc5; clear _g; refine Calls.mono (nsame_at (eqT_self _) (HAc5.out.hd) (HAc5.out.tl.tl.tl.hd)) ?_; rintro e wc6 ⟨rfl, hbc6⟩; have hic6 := hbc6; have HBc6 := hd (HBc5.out.trans (hbc6.mono HBc5.out.size)); have HXc6 := hd (HXc5.out.keep hbc6); have HAc6 := hd (HAc5.out.keep hbc6); clear hbc6; have HIc6 := hd (HIc5.out.keep hic6); clear hic6; clear c0 c1 c2 c3 m0 m1 m2 m3; obtain ⟨n0, n1, n2, n3, -⟩ := blkCells (HXc6.out.tl.tl.tl.tl.hd))
    | (go_at_call 27; have _g := HBc4; clear _g; refine Calls.mono (nsame_at (eqT_self _) (HAc4.out.tl.hd) (HAc4.out.tl.tl.tl.tl.hd)) ?_; rintro e wc5 ⟨rfl, hbc5⟩; have hic5 := hbc5; have HBc5 := hd (HBc4.out.trans (hbc5.mono HBc4.out.size)); have HXc5 := hd (HXc4.out.keep hbc5); have HAc5 := hd (HAc4.out.keep hbc5); clear hbc5; have HIc5 := hd (HIc4.out.keep hic5); clear hic5; clear b0 b1 b2 b3 n0 n1 n2 n3; obtain ⟨c0, c1, c2, c3, -⟩ := blkCells (HXc5.out.hd); obtain ⟨m0, m1, m2, m3, -⟩ := blkCells (HXc5.out.tl.tl.tl.hd))
    | (go_at_call 18; have _g := HBc3; clear _g; refine Calls.mono (cut_l HCA.out HCM.out HLP.out (by omega) hc1 (HAc3.out.hd) (HIc3.out.hd)) ?_; intro e wc4 hc4; obtain ⟨lfc4, PAc4, npc4, pcc4, TAc4, ntc4, tcc4, KAc4, nkc4, kcc4, lfc4b, PAc4b, npc4b, pcc4b, TAc4b, ntc4b, tcc4b, KAc4b, nkc4b, kcc4b, rfl, hTc4, hUc4, hbc4⟩ := hc4.open_; have hic4 := hbc4.trans ((alloc2_below _ (.cells #[.bool lfc4, .slice PAc4 npc4 pcc4, .slice TAc4 ntc4 tcc4, .slice KAc4 nkc4 kcc4] 26) (.cells #[.bool lfc4b, .slice PAc4b npc4b pcc4b, .slice TAc4b ntc4b tcc4b, .slice KAc4b nkc4b kcc4b] 26)).mono hbc4.size); have hBc4 := HBc3.out.trans (hbc4.mono HBc3.out.size); have HBc4 := hd (below_mono2 (o := (.cells #[.bool lfc4, .slice PAc4 npc4 pcc4, .slice TAc4 ntc4 tcc4, .slice KAc4 nkc4 kcc4] 26)) (o' := (.cells #[.bool lfc4b, .slice PAc4b npc4b pcc4b, .slice TAc4b ntc4b tcc4b, .slice KAc4b nkc4b kcc4b] 26)) hBc4 hBc4.size); have HXc4 := hd ((HXc3.out.keep hbc4).add2 (.cells #[.bool lfc4, .slice PAc4 npc4 pcc4, .slice TAc4 ntc4 tcc4, .slice KAc4 nkc4 kcc4] 26) (.cells #[.bool lfc4b, .slice PAc4b npc4b pcc4b, .slice TAc4b ntc4b tcc4b, .slice KAc4b nkc4b kcc4b] 26)); have HAc4 := hd ((((HAc3.out.keep hbc4).add hTc4).add hUc4).keep (alloc2_below _ (.cells #[.bool lfc4, .slice PAc4 npc4 pcc4, .slice TAc4 ntc4 tcc4, .slice KAc4 nkc4 kcc4] 26) (.cells #[.bool lfc4b, .slice PAc4b npc4b pcc4b, .slice TAc4b ntc4b tcc4b, .slice KAc4b nkc4b kcc4b] 26))); clear hTc4 hUc4 hBc4 hbc4; have HIc4 := hd (HIc3.out.keep hic4); clear hic4; clear a0 a1 a2 a3; obtain ⟨b0, b1, b2, b3, -⟩ := blkCells (HXc4.out.tl.hd); obtain ⟨n0, n1, n2, n3, -⟩ := blkCells (HXc4.out.tl.tl.tl.tl.hd))
    | (go_at_call 16; have _g := HBc2; clear _g; refine Calls.mono (add_l HE.out HLP.out (by omega) hc1 (HAc2.out.tl.hd) (HAc2.out.hd) (HIc2.out.hd) HBD.out) ?_; intro e wc3 hc3; obtain ⟨lfc3, PAc3, npc3, pcc3, TAc3, ntc3, tcc3, KAc3, nkc3, kcc3, rfl, hTc3, hbc3⟩ := hc3.opn; have hic3 := hbc3.trans ((alloc_below _ (.cells #[.bool lfc3, .slice PAc3 npc3 pcc3, .slice TAc3 ntc3 tcc3, .slice KAc3 nkc3 kcc3] 26)).mono hbc3.size); have hBc3 := HBc2.out.trans (hbc3.mono HBc2.out.size); have HBc3 := hd (hBc3.alloc hBc3.size (.cells #[.bool lfc3, .slice PAc3 npc3 pcc3, .slice TAc3 ntc3 tcc3, .slice KAc3 nkc3 kcc3] 26)); have HXc3 := hd ((HXc2.out.keep hbc3).add (.cells #[.bool lfc3, .slice PAc3 npc3 pcc3, .slice TAc3 ntc3 tcc3, .slice KAc3 nkc3 kcc3] 26)); have HAc3 := hd (((HAc2.out.keep hbc3).add hTc3).keep (alloc_below _ (.cells #[.bool lfc3, .slice PAc3 npc3 pcc3, .slice TAc3 ntc3 tcc3, .slice KAc3 nkc3 kcc3] 26))); clear hTc3 hBc3 hbc3; have HIc3 := hd (HIc2.out.keep hic3); clear hic3; clear n0 n1 n2 n3 m0 m1 m2 m3; obtain ⟨a0, a1, a2, a3, -⟩ := blkCells (HXc3.out.hd))
    | (go_at_call 10; have _g := HBc1; clear _g; refine Calls.mono (few_at HFEW.out hl1 (HAc1.out.tl.hd) (HAc1.out.hd)) ?_; rintro e wc2 ⟨rfl, hbc2⟩; have hic2 := hbc2; have HBc2 := hd (HBc1.out.trans (hbc2.mono HBc1.out.size)); have HXc2 := hd (HXc1.out.keep hbc2); have HAc2 := hd (HAc1.out.keep hbc2); clear hbc2; have HIc2 := hd (HIc1.out.keep hic2); clear hic2; clear n0 n1 n2 n3 m0 m1 m2 m3; obtain ⟨n0, n1, n2, n3, -⟩ := blkCells (HXc2.out.tl.hd); obtain ⟨m0, m1, m2, m3, -⟩ := blkCells (HXc2.out.hd))
    | (go_at_call 9; have _g := HB; clear _g; refine Calls.mono (live5_any _) ?_; rintro e wc1 ⟨rfl, hbc1⟩; have hic1 := hbc1; have HBc1 := hd (HB.out.trans (hbc1.mono HB.out.size)); have HXc1 := hd (HX.out.keep hbc1); have HAc1 := hd (HA.out.keep hbc1); clear hbc1; have HIc1 := hd (HI.out.keep hic1); clear hic1; clear n0 n1 n2 n3 m0 m1 m2 m3; obtain ⟨n0, n1, n2, n3, -⟩ := blkCells (HXc1.out.tl.hd); obtain ⟨m0, m1, m2, m3, -⟩ := blkCells (HXc1.out.hd)))
  go_ret
  exact ⟨rfl, HBc9.out⟩

set_option maxRecDepth 100000 in
set_option maxHeartbeats 8000000 in
theorem tback_11 (w : World) (v u : Value) (n m : NT) (A : Option Addr) (p : List Int) (lp c : Nat) (hlp : p.length = lp) (hp50 : lp ≤ 50) (hc1 : lp ≤ c) (hF : (fewB 100 n && fewB 60 m && decide (lp ≤ 50)) = true) (hn : At w v n) (hm : At w u m) (hp : IL w w.heap.size A p) (hbd : ∀ x, getO n (upP p) = some x → x.ks.length < 1759218604441) (a : NT) (ha : addE n p m = (a, 0)) (r y x : NT) (hr : cutE n p = (r, 0)) (hy : cutM n p = y) (hp0 : lp ≠ 0) (hx : getO n (upP p) = some x) (hlf : x.lf = true) :
    Calls Try.prog 5 #[v, .slice A lp c, u] w (Still (.bool true) w) := by
  have hl1 : lp ≤ 9223372036854775807 := by omega
  have HLP := hd hlp
  have HBD := hd hbd
  have HFEW := hd hF
  obtain ⟨lf, PA, np, pc, TA, nt, tc, KA, nk, kc, rfl⟩ := hn.val
  obtain ⟨lf', PA', np', pc', TA', nt', tc', KA', nk', kc', rfl⟩ := hm.val
  obtain ⟨wb, hwb⟩ : ∃ wb, wb = (w.alloc (.cells #[.bool lf, .slice PA np pc, .slice TA nt tc, .slice KA nk kc] 26)).alloc (.cells #[.bool lf', .slice PA' np' pc', .slice TA' nt' tc', .slice KA' nk' kc'] 26) := ⟨_, rfl⟩
  have hb0 : Below w.heap.size w wb := hwb ▸ below_mono2 (Below.refl _ _) (Nat.le_refl _)
  have HB := hd hb0
  have HX := hd (show Holds [(w.heap.size + 1, .cells #[.bool lf', .slice PA' np' pc', .slice TA' nt' tc', .slice KA' nk' kc'] 26), (w.heap.size, .cells #[.bool lf, .slice PA np pc, .slice TA nt tc, .slice KA nk kc] 26)] wb from hwb ▸ holds2 w _ _)
  have HA := hd (((((Ats.nil w).add hn).add hm)).keep hb0)
  have HI := hd (((Ils.nil w).add hp).keep hb0)
  have HE := hd ha
  have hac := add_cut ha
  have HCA := hd hac.1
  have HCM := hd hac.2
  clear ha hac
  obtain ⟨k, rfl⟩ : ∃ k, lp = k + 1 := ⟨lp - 1, by omega⟩
  have HC := hd hr
  have HM := hd hy
  have HG := hd (show getE n (p.take k) = (x, 0) from getE_some (by rw [← hx]; unfold upP; rw [hlp]; rfl))
  have HKL2 := hd (show (p.take k).length = k by rw [List.length_take]; omega)
  have HLF := hd hlf
  obtain ⟨kx, hkx⟩ : ∃ kx, kx = x.ks.length := ⟨_, rfl⟩
  have HKL := hd hkx.symm
  have hrun := takeI_run A (k + 1) c k (by omega)
  have hwk : IntKind.i64.wrap (k : Int) = (k : Int) := IntWalk.i64_in _ (by omega)
  have hk0 : (0 : Int) ≤ (k : Int) := by omega
  have hkc : (k : Int) ≤ (c : Int) := by omega
  clear hr hy hp0 hx hlf hkx
  clear hn hm hp hb0 hlp hbd hF
  obtain ⟨n0, n1, n2, n3, -⟩ := blkCells (HX.out.tl.hd)
  obtain ⟨m0, m1, m2, m3, -⟩ := blkCells (HX.out.hd)
  go_enter Try.func5, Try.ntmps5
  subst hwb
  go_upto_region 13 with (first
    | (go_at_call 18; have _g := HBc6; clear _g; refine Calls.mono (cut_l HC.out HM.out HLP.out (by omega) hc1 (HAc6.out.tl.tl.tl.tl.hd) (HIc6.out.hd)) ?_; intro e wc7 hc7; obtain ⟨lfc7, PAc7, npc7, pcc7, TAc7, ntc7, tcc7, KAc7, nkc7, kcc7, lfc7b, PAc7b, npc7b, pcc7b, TAc7b, ntc7b, tcc7b, KAc7b, nkc7b, kcc7b, rfl, hTc7, hUc7, hbc7⟩ := hc7.open_; have hic7 := hbc7.trans ((alloc2_below _ (.cells #[.bool lfc7, .slice PAc7 npc7 pcc7, .slice TAc7 ntc7 tcc7, .slice KAc7 nkc7 kcc7] 26) (.cells #[.bool lfc7b, .slice PAc7b npc7b pcc7b, .slice TAc7b ntc7b tcc7b, .slice KAc7b nkc7b kcc7b] 26)).mono hbc7.size); have hBc7 := HBc6.out.trans (hbc7.mono HBc6.out.size); have HBc7 := hd (below_mono2 (o := (.cells #[.bool lfc7, .slice PAc7 npc7 pcc7, .slice TAc7 ntc7 tcc7, .slice KAc7 nkc7 kcc7] 26)) (o' := (.cells #[.bool lfc7b, .slice PAc7b npc7b pcc7b, .slice TAc7b ntc7b tcc7b, .slice KAc7b nkc7b kcc7b] 26)) hBc7 hBc7.size); have HXc7 := hd ((HXc6.out.keep hbc7).add2 (.cells #[.bool lfc7, .slice PAc7 npc7 pcc7, .slice TAc7 ntc7 tcc7, .slice KAc7 nkc7 kcc7] 26) (.cells #[.bool lfc7b, .slice PAc7b npc7b pcc7b, .slice TAc7b ntc7b tcc7b, .slice KAc7b nkc7b kcc7b] 26)); have HAc7 := hd ((((HAc6.out.keep hbc7).add hTc7).add hUc7).keep (alloc2_below _ (.cells #[.bool lfc7, .slice PAc7 npc7 pcc7, .slice TAc7 ntc7 tcc7, .slice KAc7 nkc7 kcc7] 26) (.cells #[.bool lfc7b, .slice PAc7b npc7b pcc7b, .slice TAc7b ntc7b tcc7b, .slice KAc7b nkc7b kcc7b] 26))); clear hTc7 hUc7 hBc7 hbc7; have HIc7 := hd (HIc6.out.keep hic7); clear hic7; clear n0 n1 n2 n3; obtain ⟨n0, n1, n2, n3, -⟩ := blkCells (HXc7.out.tl.tl.tl.tl.tl.tl.hd))
    | (go_at_call 27; have _g := HBc5; clear _g; refine Calls.mono (nsame_at (eqT_self _) (HAc5.out.hd) (HAc5.out.tl.tl.tl.hd)) ?_; rintro e wc6 ⟨rfl, hbc6⟩; have hic6 := hbc6; have HBc6 := hd (HBc5.out.trans (hbc6.mono HBc5.out.size)); have HXc6 := hd (HXc5.out.keep hbc6); have HAc6 := hd (HAc5.out.keep hbc6); clear hbc6; have HIc6 := hd (HIc5.out.keep hic6); clear hic6; clear c0 c1 c2 c3 m0 m1 m2 m3; obtain ⟨n0, n1, n2, n3, -⟩ := blkCells (HXc6.out.tl.tl.tl.tl.hd))
    | (go_at_call 27; have _g := HBc4; clear _g; refine Calls.mono (nsame_at (eqT_self _) (HAc4.out.tl.hd) (HAc4.out.tl.tl.tl.tl.hd)) ?_; rintro e wc5 ⟨rfl, hbc5⟩; have hic5 := hbc5; have HBc5 := hd (HBc4.out.trans (hbc5.mono HBc4.out.size)); have HXc5 := hd (HXc4.out.keep hbc5); have HAc5 := hd (HAc4.out.keep hbc5); clear hbc5; have HIc5 := hd (HIc4.out.keep hic5); clear hic5; clear b0 b1 b2 b3 n0 n1 n2 n3; obtain ⟨c0, c1, c2, c3, -⟩ := blkCells (HXc5.out.hd); obtain ⟨m0, m1, m2, m3, -⟩ := blkCells (HXc5.out.tl.tl.tl.hd))
    | (go_at_call 18; have _g := HBc3; clear _g; refine Calls.mono (cut_l HCA.out HCM.out HLP.out (by omega) hc1 (HAc3.out.hd) (HIc3.out.hd)) ?_; intro e wc4 hc4; obtain ⟨lfc4, PAc4, npc4, pcc4, TAc4, ntc4, tcc4, KAc4, nkc4, kcc4, lfc4b, PAc4b, npc4b, pcc4b, TAc4b, ntc4b, tcc4b, KAc4b, nkc4b, kcc4b, rfl, hTc4, hUc4, hbc4⟩ := hc4.open_; have hic4 := hbc4.trans ((alloc2_below _ (.cells #[.bool lfc4, .slice PAc4 npc4 pcc4, .slice TAc4 ntc4 tcc4, .slice KAc4 nkc4 kcc4] 26) (.cells #[.bool lfc4b, .slice PAc4b npc4b pcc4b, .slice TAc4b ntc4b tcc4b, .slice KAc4b nkc4b kcc4b] 26)).mono hbc4.size); have hBc4 := HBc3.out.trans (hbc4.mono HBc3.out.size); have HBc4 := hd (below_mono2 (o := (.cells #[.bool lfc4, .slice PAc4 npc4 pcc4, .slice TAc4 ntc4 tcc4, .slice KAc4 nkc4 kcc4] 26)) (o' := (.cells #[.bool lfc4b, .slice PAc4b npc4b pcc4b, .slice TAc4b ntc4b tcc4b, .slice KAc4b nkc4b kcc4b] 26)) hBc4 hBc4.size); have HXc4 := hd ((HXc3.out.keep hbc4).add2 (.cells #[.bool lfc4, .slice PAc4 npc4 pcc4, .slice TAc4 ntc4 tcc4, .slice KAc4 nkc4 kcc4] 26) (.cells #[.bool lfc4b, .slice PAc4b npc4b pcc4b, .slice TAc4b ntc4b tcc4b, .slice KAc4b nkc4b kcc4b] 26)); have HAc4 := hd ((((HAc3.out.keep hbc4).add hTc4).add hUc4).keep (alloc2_below _ (.cells #[.bool lfc4, .slice PAc4 npc4 pcc4, .slice TAc4 ntc4 tcc4, .slice KAc4 nkc4 kcc4] 26) (.cells #[.bool lfc4b, .slice PAc4b npc4b pcc4b, .slice TAc4b ntc4b tcc4b, .slice KAc4b nkc4b kcc4b] 26))); clear hTc4 hUc4 hBc4 hbc4; have HIc4 := hd (HIc3.out.keep hic4); clear hic4; clear a0 a1 a2 a3; obtain ⟨b0, b1, b2, b3, -⟩ := blkCells (HXc4.out.tl.hd); obtain ⟨n0, n1, n2, n3, -⟩ := blkCells (HXc4.out.tl.tl.tl.tl.hd))
    | (go_at_call 16; have _g := HBc2; clear _g; refine Calls.mono (add_l HE.out HLP.out (by omega) hc1 (HAc2.out.tl.hd) (HAc2.out.hd) (HIc2.out.hd) HBD.out) ?_; intro e wc3 hc3; obtain ⟨lfc3, PAc3, npc3, pcc3, TAc3, ntc3, tcc3, KAc3, nkc3, kcc3, rfl, hTc3, hbc3⟩ := hc3.opn; have hic3 := hbc3.trans ((alloc_below _ (.cells #[.bool lfc3, .slice PAc3 npc3 pcc3, .slice TAc3 ntc3 tcc3, .slice KAc3 nkc3 kcc3] 26)).mono hbc3.size); have hBc3 := HBc2.out.trans (hbc3.mono HBc2.out.size); have HBc3 := hd (hBc3.alloc hBc3.size (.cells #[.bool lfc3, .slice PAc3 npc3 pcc3, .slice TAc3 ntc3 tcc3, .slice KAc3 nkc3 kcc3] 26)); have HXc3 := hd ((HXc2.out.keep hbc3).add (.cells #[.bool lfc3, .slice PAc3 npc3 pcc3, .slice TAc3 ntc3 tcc3, .slice KAc3 nkc3 kcc3] 26)); have HAc3 := hd (((HAc2.out.keep hbc3).add hTc3).keep (alloc_below _ (.cells #[.bool lfc3, .slice PAc3 npc3 pcc3, .slice TAc3 ntc3 tcc3, .slice KAc3 nkc3 kcc3] 26))); clear hTc3 hBc3 hbc3; have HIc3 := hd (HIc2.out.keep hic3); clear hic3; clear n0 n1 n2 n3 m0 m1 m2 m3; obtain ⟨a0, a1, a2, a3, -⟩ := blkCells (HXc3.out.hd))
    | (go_at_call 10; have _g := HBc1; clear _g; refine Calls.mono (few_at HFEW.out hl1 (HAc1.out.tl.hd) (HAc1.out.hd)) ?_; rintro e wc2 ⟨rfl, hbc2⟩; have hic2 := hbc2; have HBc2 := hd (HBc1.out.trans (hbc2.mono HBc1.out.size)); have HXc2 := hd (HXc1.out.keep hbc2); have HAc2 := hd (HAc1.out.keep hbc2); clear hbc2; have HIc2 := hd (HIc1.out.keep hic2); clear hic2; clear n0 n1 n2 n3 m0 m1 m2 m3; obtain ⟨n0, n1, n2, n3, -⟩ := blkCells (HXc2.out.tl.hd); obtain ⟨m0, m1, m2, m3, -⟩ := blkCells (HXc2.out.hd))
    | (go_at_call 9; have _g := HB; clear _g; refine Calls.mono (live5_any _) ?_; rintro e wc1 ⟨rfl, hbc1⟩; have hic1 := hbc1; have HBc1 := hd (HB.out.trans (hbc1.mono HB.out.size)); have HXc1 := hd (HX.out.keep hbc1); have HAc1 := hd (HA.out.keep hbc1); clear hbc1; have HIc1 := hd (HI.out.keep hic1); clear hic1; clear n0 n1 n2 n3 m0 m1 m2 m3; obtain ⟨n0, n1, n2, n3, -⟩ := blkCells (HXc1.out.tl.hd); obtain ⟨m0, m1, m2, m3, -⟩ := blkCells (HXc1.out.hd)))
  generalize hW0 : World.alloc (World.alloc wc7 _) _ = W0
  have HBd := hd (show Below w.heap.size w W0 from hW0 ▸ HBc7.out)
  have HXd := hd (show Holds _ W0 from hW0 ▸ HXc7.out)
  have HAd := hd (show Ats _ W0 from hW0 ▸ HAc7.out)
  have HId := hd (show Ils _ W0 from hW0 ▸ HIc7.out)
  clear hW0 n0 n1 n2 n3
  obtain ⟨n0, n1, n2, n3, -⟩ := blkCells (HXd.out.tl.tl.tl.tl.tl.tl.hd)
  have hlm := lt_of_block (HXd.out.tl.tl.tl.tl.tl.hd)
  have HCH := fun (w' : World) (hb : Below W0.heap.size W0 w') => hd (Calls.mono (get_l (p := p.take k) (c := c) HG.out HKL2.out (by omega) ((HAd.out.tl.tl.tl.tl.tl.tl.hd).later hb) (((HId.out.hd).later hb).take k)) (fun e w3 h => NewN.newO (r := (x, 0)) h (g := w.heap.size + 1) (by have := hb.size; omega)))
  have HMK := hd (show ∀ W, Off (w.heap.size + 1) W0 W → (Off (w.heap.size + 1) W0 W ∧ W.cell? ⟨w.heap.size, 0, none⟩ = some (.bool lf) ∧ W.cell? ⟨w.heap.size, 1, none⟩ = some (.slice PA np pc) ∧ W.cell? ⟨w.heap.size, 2, none⟩ = some (.slice TA nt tc) ∧ W.cell? ⟨w.heap.size, 3, none⟩ = some (.slice KA nk kc)) from fun W h => ⟨h, (h.cell (cell_in n0) (by show w.heap.size ≠ w.heap.size + 1; omega)).trans n0, (h.cell (cell_in n1) (by show w.heap.size ≠ w.heap.size + 1; omega)).trans n1, (h.cell (cell_in n2) (by show w.heap.size ≠ w.heap.size + 1; omega)).trans n2, (h.cell (cell_in n3) (by show w.heap.size ≠ w.heap.size + 1; omega)).trans n3⟩)
  go_cut [15, 16] (fun s15 s16 wx => KidAt (w.heap.size + 1) W0 (x, 0) none s15 s16 wx)
  case first =>
    go_region_held3 (fun W => Off (w.heap.size + 1) W0 W ∧ W.cell? ⟨w.heap.size, 0, none⟩ = some (.bool lf) ∧ W.cell? ⟨w.heap.size, 1, none⟩ = some (.slice PA np pc) ∧ W.cell? ⟨w.heap.size, 2, none⟩ = some (.slice TA nt tc) ∧ W.cell? ⟨w.heap.size, 3, none⟩ = some (.slice KA nk kc))
      (first
        | assumption
        | exact HMK.out _ (Off.refl _ _).drew
        | (go_split_ands; exact HMK.out _ (Off.alloc (by assumption) _))
        | (go_split_ands; exact HMK.out _ (Off.set4 (by assumption) (.inl (by first | exact Nat.le_refl _ | omega)))))
      (first
        | (go_at_call 12; refine Calls.mono (HCH _ ?hh).out ?_; (case hh => first | exact (Below.refl _ _).drew | exact ((Below.refl _ _).drew.alloc (Nat.le_refl _) _)); intro e w3 h3; obtain ⟨v3, d3, rfl, ht3, ho3, hl3'⟩ := h3; obtain ⟨lf4, PA4, np4, pc4, TA4, nt4, tc4, KA4, nk4, kc4, rfl⟩ := (ht3.at_ (B := w3.heap.size) (fun b hb => hb.2)).val; have hS3 := HMK.out w3 (Off.trans (by go_split_ands; assumption) ho3); have HT3 := hd ht3; have HO3 := hd ho3; have HL3 := hd hl3'; (first | (have hOc := hd ((ho3.block W0.heap.size (by show W0.heap.size < (World.heap _).size; simp) (by omega)).trans (heap_alloc_new (World.drew W0) _)); obtain ⟨q0, q1, q2, q3, q4, q5, q6, q7⟩ := blkCells hOc.out) | skip); have hz3 := ho3.size; clear ht3 ho3 hl3'))
    · go_wp2_with fail
      go_meet
      exact kid_new (r := (x, 0)) (Below.refl _ _).drew (by omega) HT3.out HO3.out HL3.out
    · go_wp2_with fail
      go_meet
      exact kid_set (r := (x, 0)) ((Below.refl _ _).drew.alloc (Nat.le_refl _) _) (by omega) (Nat.le_refl _) (by simp) hOc.out HT3.out HO3.out HL3.out
  case rest =>
    obtain ⟨g8, lf8, PA8, np8, pc8, TA8, nt8, tc8, KA8, nk8, kc8, d8, rfl, rfl, hg8, hO8, ht8, ho8, hl8⟩ := hcut
    have hb8 := ho8.drop hl8
    obtain rfl := (At.of_tree ht8 (fun b hb => hb.2.1)).lf HLF.out
    have HBe := hd (HBd.out.trans (hb8.mono HBd.out.size))
    have HXe := hd (HXd.out.keep hb8)
    have HAe := hd (HAd.out.keep hb8)
    have HIe := hd (HId.out.keep hb8)
    obtain ⟨u0, u1, u2, u3, -⟩ := blkCells hO8
    clear n0 n1 n2 n3 ht8 ho8 hl8 hb8 hO8 HCH HMK hrun
    go_wp2_with fail
    go_ret
    exact ⟨rfl, HBe.out⟩

set_option maxRecDepth 100000 in
set_option maxHeartbeats 8000000 in
theorem tback_12 (w : World) (v u : Value) (n m : NT) (A : Option Addr) (p : List Int) (lp c : Nat) (hlp : p.length = lp) (hp50 : lp ≤ 50) (hc1 : lp ≤ c) (hF : (fewB 100 n && fewB 60 m && decide (lp ≤ 50)) = true) (hn : At w v n) (hm : At w u m) (hp : IL w w.heap.size A p) (hbd : ∀ x, getO n (upP p) = some x → x.ks.length < 1759218604441) (a : NT) (ha : addE n p m = (a, 0)) (r y x : NT) (hr : cutE n p = (r, 0)) (hy : cutM n p = y) (hp0 : lp ≠ 0) (hx : getO n (upP p) = some x) (hlf : x.lf = false) (hadd : addE r p y = (n, 0)) (hbd2 : ∀ x, getO r (upP p) = some x → x.ks.length < 1759218604441) :
    Calls Try.prog 5 #[v, .slice A lp c, u] w (Still (.bool true) w) := by
  have hl1 : lp ≤ 9223372036854775807 := by omega
  have HLP := hd hlp
  have HBD := hd hbd
  have HFEW := hd hF
  obtain ⟨lf, PA, np, pc, TA, nt, tc, KA, nk, kc, rfl⟩ := hn.val
  obtain ⟨lf', PA', np', pc', TA', nt', tc', KA', nk', kc', rfl⟩ := hm.val
  obtain ⟨wb, hwb⟩ : ∃ wb, wb = (w.alloc (.cells #[.bool lf, .slice PA np pc, .slice TA nt tc, .slice KA nk kc] 26)).alloc (.cells #[.bool lf', .slice PA' np' pc', .slice TA' nt' tc', .slice KA' nk' kc'] 26) := ⟨_, rfl⟩
  have hb0 : Below w.heap.size w wb := hwb ▸ below_mono2 (Below.refl _ _) (Nat.le_refl _)
  have HB := hd hb0
  have HX := hd (show Holds [(w.heap.size + 1, .cells #[.bool lf', .slice PA' np' pc', .slice TA' nt' tc', .slice KA' nk' kc'] 26), (w.heap.size, .cells #[.bool lf, .slice PA np pc, .slice TA nt tc, .slice KA nk kc] 26)] wb from hwb ▸ holds2 w _ _)
  have HA := hd (((((Ats.nil w).add hn).add hm)).keep hb0)
  have HI := hd (((Ils.nil w).add hp).keep hb0)
  have HE := hd ha
  have hac := add_cut ha
  have HCA := hd hac.1
  have HCM := hd hac.2
  clear ha hac
  obtain ⟨k, rfl⟩ : ∃ k, lp = k + 1 := ⟨lp - 1, by omega⟩
  have HC := hd hr
  have HM := hd hy
  have HG := hd (show getE n (p.take k) = (x, 0) from getE_some (by rw [← hx]; unfold upP; rw [hlp]; rfl))
  have HKL2 := hd (show (p.take k).length = k by rw [List.length_take]; omega)
  have HLF := hd hlf
  obtain ⟨kx, hkx⟩ : ∃ kx, kx = x.ks.length := ⟨_, rfl⟩
  have HKL := hd hkx.symm
  have hrun := takeI_run A (k + 1) c k (by omega)
  have hwk : IntKind.i64.wrap (k : Int) = (k : Int) := IntWalk.i64_in _ (by omega)
  have hk0 : (0 : Int) ≤ (k : Int) := by omega
  have hkc : (k : Int) ≤ (c : Int) := by omega
  clear hr hy hp0 hx hlf hkx
  have HE2 := hd hadd
  have HBD2 := hd hbd2
  clear hadd hbd2
  clear hn hm hp hb0 hlp hbd hF
  obtain ⟨n0, n1, n2, n3, -⟩ := blkCells (HX.out.tl.hd)
  obtain ⟨m0, m1, m2, m3, -⟩ := blkCells (HX.out.hd)
  go_enter Try.func5, Try.ntmps5
  subst hwb
  go_upto_region 13 with (first
    | (go_at_call 18; have _g := HBc6; clear _g; refine Calls.mono (cut_l HC.out HM.out HLP.out (by omega) hc1 (HAc6.out.tl.tl.tl.tl.hd) (HIc6.out.hd)) ?_; intro e wc7 hc7; obtain ⟨lfc7, PAc7, npc7, pcc7, TAc7, ntc7, tcc7, KAc7, nkc7, kcc7, lfc7b, PAc7b, npc7b, pcc7b, TAc7b, ntc7b, tcc7b, KAc7b, nkc7b, kcc7b, rfl, hTc7, hUc7, hbc7⟩ := hc7.open_; have hic7 := hbc7.trans ((alloc2_below _ (.cells #[.bool lfc7, .slice PAc7 npc7 pcc7, .slice TAc7 ntc7 tcc7, .slice KAc7 nkc7 kcc7] 26) (.cells #[.bool lfc7b, .slice PAc7b npc7b pcc7b, .slice TAc7b ntc7b tcc7b, .slice KAc7b nkc7b kcc7b] 26)).mono hbc7.size); have hBc7 := HBc6.out.trans (hbc7.mono HBc6.out.size); have HBc7 := hd (below_mono2 (o := (.cells #[.bool lfc7, .slice PAc7 npc7 pcc7, .slice TAc7 ntc7 tcc7, .slice KAc7 nkc7 kcc7] 26)) (o' := (.cells #[.bool lfc7b, .slice PAc7b npc7b pcc7b, .slice TAc7b ntc7b tcc7b, .slice KAc7b nkc7b kcc7b] 26)) hBc7 hBc7.size); have HXc7 := hd ((HXc6.out.keep hbc7).add2 (.cells #[.bool lfc7, .slice PAc7 npc7 pcc7, .slice TAc7 ntc7 tcc7, .slice KAc7 nkc7 kcc7] 26) (.cells #[.bool lfc7b, .slice PAc7b npc7b pcc7b, .slice TAc7b ntc7b tcc7b, .slice KAc7b nkc7b kcc7b] 26)); have HAc7 := hd ((((HAc6.out.keep hbc7).add hTc7).add hUc7).keep (alloc2_below _ (.cells #[.bool lfc7, .slice PAc7 npc7 pcc7, .slice TAc7 ntc7 tcc7, .slice KAc7 nkc7 kcc7] 26) (.cells #[.bool lfc7b, .slice PAc7b npc7b pcc7b, .slice TAc7b ntc7b tcc7b, .slice KAc7b nkc7b kcc7b] 26))); clear hTc7 hUc7 hBc7 hbc7; have HIc7 := hd (HIc6.out.keep hic7); clear hic7; clear n0 n1 n2 n3; obtain ⟨n0, n1, n2, n3, -⟩ := blkCells (HXc7.out.tl.tl.tl.tl.tl.tl.hd))
    | (go_at_call 27; have _g := HBc5; clear _g; refine Calls.mono (nsame_at (eqT_self _) (HAc5.out.hd) (HAc5.out.tl.tl.tl.hd)) ?_; rintro e wc6 ⟨rfl, hbc6⟩; have hic6 := hbc6; have HBc6 := hd (HBc5.out.trans (hbc6.mono HBc5.out.size)); have HXc6 := hd (HXc5.out.keep hbc6); have HAc6 := hd (HAc5.out.keep hbc6); clear hbc6; have HIc6 := hd (HIc5.out.keep hic6); clear hic6; clear c0 c1 c2 c3 m0 m1 m2 m3; obtain ⟨n0, n1, n2, n3, -⟩ := blkCells (HXc6.out.tl.tl.tl.tl.hd))
    | (go_at_call 27; have _g := HBc4; clear _g; refine Calls.mono (nsame_at (eqT_self _) (HAc4.out.tl.hd) (HAc4.out.tl.tl.tl.tl.hd)) ?_; rintro e wc5 ⟨rfl, hbc5⟩; have hic5 := hbc5; have HBc5 := hd (HBc4.out.trans (hbc5.mono HBc4.out.size)); have HXc5 := hd (HXc4.out.keep hbc5); have HAc5 := hd (HAc4.out.keep hbc5); clear hbc5; have HIc5 := hd (HIc4.out.keep hic5); clear hic5; clear b0 b1 b2 b3 n0 n1 n2 n3; obtain ⟨c0, c1, c2, c3, -⟩ := blkCells (HXc5.out.hd); obtain ⟨m0, m1, m2, m3, -⟩ := blkCells (HXc5.out.tl.tl.tl.hd))
    | (go_at_call 18; have _g := HBc3; clear _g; refine Calls.mono (cut_l HCA.out HCM.out HLP.out (by omega) hc1 (HAc3.out.hd) (HIc3.out.hd)) ?_; intro e wc4 hc4; obtain ⟨lfc4, PAc4, npc4, pcc4, TAc4, ntc4, tcc4, KAc4, nkc4, kcc4, lfc4b, PAc4b, npc4b, pcc4b, TAc4b, ntc4b, tcc4b, KAc4b, nkc4b, kcc4b, rfl, hTc4, hUc4, hbc4⟩ := hc4.open_; have hic4 := hbc4.trans ((alloc2_below _ (.cells #[.bool lfc4, .slice PAc4 npc4 pcc4, .slice TAc4 ntc4 tcc4, .slice KAc4 nkc4 kcc4] 26) (.cells #[.bool lfc4b, .slice PAc4b npc4b pcc4b, .slice TAc4b ntc4b tcc4b, .slice KAc4b nkc4b kcc4b] 26)).mono hbc4.size); have hBc4 := HBc3.out.trans (hbc4.mono HBc3.out.size); have HBc4 := hd (below_mono2 (o := (.cells #[.bool lfc4, .slice PAc4 npc4 pcc4, .slice TAc4 ntc4 tcc4, .slice KAc4 nkc4 kcc4] 26)) (o' := (.cells #[.bool lfc4b, .slice PAc4b npc4b pcc4b, .slice TAc4b ntc4b tcc4b, .slice KAc4b nkc4b kcc4b] 26)) hBc4 hBc4.size); have HXc4 := hd ((HXc3.out.keep hbc4).add2 (.cells #[.bool lfc4, .slice PAc4 npc4 pcc4, .slice TAc4 ntc4 tcc4, .slice KAc4 nkc4 kcc4] 26) (.cells #[.bool lfc4b, .slice PAc4b npc4b pcc4b, .slice TAc4b ntc4b tcc4b, .slice KAc4b nkc4b kcc4b] 26)); have HAc4 := hd ((((HAc3.out.keep hbc4).add hTc4).add hUc4).keep (alloc2_below _ (.cells #[.bool lfc4, .slice PAc4 npc4 pcc4, .slice TAc4 ntc4 tcc4, .slice KAc4 nkc4 kcc4] 26) (.cells #[.bool lfc4b, .slice PAc4b npc4b pcc4b, .slice TAc4b ntc4b tcc4b, .slice KAc4b nkc4b kcc4b] 26))); clear hTc4 hUc4 hBc4 hbc4; have HIc4 := hd (HIc3.out.keep hic4); clear hic4; clear a0 a1 a2 a3; obtain ⟨b0, b1, b2, b3, -⟩ := blkCells (HXc4.out.tl.hd); obtain ⟨n0, n1, n2, n3, -⟩ := blkCells (HXc4.out.tl.tl.tl.tl.hd))
    | (go_at_call 16; have _g := HBc2; clear _g; refine Calls.mono (add_l HE.out HLP.out (by omega) hc1 (HAc2.out.tl.hd) (HAc2.out.hd) (HIc2.out.hd) HBD.out) ?_; intro e wc3 hc3; obtain ⟨lfc3, PAc3, npc3, pcc3, TAc3, ntc3, tcc3, KAc3, nkc3, kcc3, rfl, hTc3, hbc3⟩ := hc3.opn; have hic3 := hbc3.trans ((alloc_below _ (.cells #[.bool lfc3, .slice PAc3 npc3 pcc3, .slice TAc3 ntc3 tcc3, .slice KAc3 nkc3 kcc3] 26)).mono hbc3.size); have hBc3 := HBc2.out.trans (hbc3.mono HBc2.out.size); have HBc3 := hd (hBc3.alloc hBc3.size (.cells #[.bool lfc3, .slice PAc3 npc3 pcc3, .slice TAc3 ntc3 tcc3, .slice KAc3 nkc3 kcc3] 26)); have HXc3 := hd ((HXc2.out.keep hbc3).add (.cells #[.bool lfc3, .slice PAc3 npc3 pcc3, .slice TAc3 ntc3 tcc3, .slice KAc3 nkc3 kcc3] 26)); have HAc3 := hd (((HAc2.out.keep hbc3).add hTc3).keep (alloc_below _ (.cells #[.bool lfc3, .slice PAc3 npc3 pcc3, .slice TAc3 ntc3 tcc3, .slice KAc3 nkc3 kcc3] 26))); clear hTc3 hBc3 hbc3; have HIc3 := hd (HIc2.out.keep hic3); clear hic3; clear n0 n1 n2 n3 m0 m1 m2 m3; obtain ⟨a0, a1, a2, a3, -⟩ := blkCells (HXc3.out.hd))
    | (go_at_call 10; have _g := HBc1; clear _g; refine Calls.mono (few_at HFEW.out hl1 (HAc1.out.tl.hd) (HAc1.out.hd)) ?_; rintro e wc2 ⟨rfl, hbc2⟩; have hic2 := hbc2; have HBc2 := hd (HBc1.out.trans (hbc2.mono HBc1.out.size)); have HXc2 := hd (HXc1.out.keep hbc2); have HAc2 := hd (HAc1.out.keep hbc2); clear hbc2; have HIc2 := hd (HIc1.out.keep hic2); clear hic2; clear n0 n1 n2 n3 m0 m1 m2 m3; obtain ⟨n0, n1, n2, n3, -⟩ := blkCells (HXc2.out.tl.hd); obtain ⟨m0, m1, m2, m3, -⟩ := blkCells (HXc2.out.hd))
    | (go_at_call 9; have _g := HB; clear _g; refine Calls.mono (live5_any _) ?_; rintro e wc1 ⟨rfl, hbc1⟩; have hic1 := hbc1; have HBc1 := hd (HB.out.trans (hbc1.mono HB.out.size)); have HXc1 := hd (HX.out.keep hbc1); have HAc1 := hd (HA.out.keep hbc1); clear hbc1; have HIc1 := hd (HI.out.keep hic1); clear hic1; clear n0 n1 n2 n3 m0 m1 m2 m3; obtain ⟨n0, n1, n2, n3, -⟩ := blkCells (HXc1.out.tl.hd); obtain ⟨m0, m1, m2, m3, -⟩ := blkCells (HXc1.out.hd)))
  generalize hW0 : World.alloc (World.alloc wc7 _) _ = W0
  have HBd := hd (show Below w.heap.size w W0 from hW0 ▸ HBc7.out)
  have HXd := hd (show Holds _ W0 from hW0 ▸ HXc7.out)
  have HAd := hd (show Ats _ W0 from hW0 ▸ HAc7.out)
  have HId := hd (show Ils _ W0 from hW0 ▸ HIc7.out)
  clear hW0 n0 n1 n2 n3
  obtain ⟨n0, n1, n2, n3, -⟩ := blkCells (HXd.out.tl.tl.tl.tl.tl.tl.hd)
  have hlm := lt_of_block (HXd.out.tl.tl.tl.tl.tl.hd)
  have HCH := fun (w' : World) (hb : Below W0.heap.size W0 w') => hd (Calls.mono (get_l (p := p.take k) (c := c) HG.out HKL2.out (by omega) ((HAd.out.tl.tl.tl.tl.tl.tl.hd).later hb) (((HId.out.hd).later hb).take k)) (fun e w3 h => NewN.newO (r := (x, 0)) h (g := w.heap.size + 1) (by have := hb.size; omega)))
  have HMK := hd (show ∀ W, Off (w.heap.size + 1) W0 W → (Off (w.heap.size + 1) W0 W ∧ W.cell? ⟨w.heap.size, 0, none⟩ = some (.bool lf) ∧ W.cell? ⟨w.heap.size, 1, none⟩ = some (.slice PA np pc) ∧ W.cell? ⟨w.heap.size, 2, none⟩ = some (.slice TA nt tc) ∧ W.cell? ⟨w.heap.size, 3, none⟩ = some (.slice KA nk kc)) from fun W h => ⟨h, (h.cell (cell_in n0) (by show w.heap.size ≠ w.heap.size + 1; omega)).trans n0, (h.cell (cell_in n1) (by show w.heap.size ≠ w.heap.size + 1; omega)).trans n1, (h.cell (cell_in n2) (by show w.heap.size ≠ w.heap.size + 1; omega)).trans n2, (h.cell (cell_in n3) (by show w.heap.size ≠ w.heap.size + 1; omega)).trans n3⟩)
  go_cut [15, 16] (fun s15 s16 wx => KidAt (w.heap.size + 1) W0 (x, 0) none s15 s16 wx)
  case first =>
    go_region_held3 (fun W => Off (w.heap.size + 1) W0 W ∧ W.cell? ⟨w.heap.size, 0, none⟩ = some (.bool lf) ∧ W.cell? ⟨w.heap.size, 1, none⟩ = some (.slice PA np pc) ∧ W.cell? ⟨w.heap.size, 2, none⟩ = some (.slice TA nt tc) ∧ W.cell? ⟨w.heap.size, 3, none⟩ = some (.slice KA nk kc))
      (first
        | assumption
        | exact HMK.out _ (Off.refl _ _).drew
        | (go_split_ands; exact HMK.out _ (Off.alloc (by assumption) _))
        | (go_split_ands; exact HMK.out _ (Off.set4 (by assumption) (.inl (by first | exact Nat.le_refl _ | omega)))))
      (first
        | (go_at_call 12; refine Calls.mono (HCH _ ?hh).out ?_; (case hh => first | exact (Below.refl _ _).drew | exact ((Below.refl _ _).drew.alloc (Nat.le_refl _) _)); intro e w3 h3; obtain ⟨v3, d3, rfl, ht3, ho3, hl3'⟩ := h3; obtain ⟨lf4, PA4, np4, pc4, TA4, nt4, tc4, KA4, nk4, kc4, rfl⟩ := (ht3.at_ (B := w3.heap.size) (fun b hb => hb.2)).val; have hS3 := HMK.out w3 (Off.trans (by go_split_ands; assumption) ho3); have HT3 := hd ht3; have HO3 := hd ho3; have HL3 := hd hl3'; (first | (have hOc := hd ((ho3.block W0.heap.size (by show W0.heap.size < (World.heap _).size; simp) (by omega)).trans (heap_alloc_new (World.drew W0) _)); obtain ⟨q0, q1, q2, q3, q4, q5, q6, q7⟩ := blkCells hOc.out) | skip); have hz3 := ho3.size; clear ht3 ho3 hl3'))
    · go_wp2_with fail
      go_meet
      exact kid_new (r := (x, 0)) (Below.refl _ _).drew (by omega) HT3.out HO3.out HL3.out
    · go_wp2_with fail
      go_meet
      exact kid_set (r := (x, 0)) ((Below.refl _ _).drew.alloc (Nat.le_refl _) _) (by omega) (Nat.le_refl _) (by simp) hOc.out HT3.out HO3.out HL3.out
  case rest =>
    obtain ⟨g8, lf8, PA8, np8, pc8, TA8, nt8, tc8, KA8, nk8, kc8, d8, rfl, rfl, hg8, hO8, ht8, ho8, hl8⟩ := hcut
    have hb8 := ho8.drop hl8
    obtain rfl := (At.of_tree ht8 (fun b hb => hb.2.1)).lf HLF.out
    have HBe := hd (HBd.out.trans (hb8.mono HBd.out.size))
    have HXe := hd (HXd.out.keep hb8)
    have HAe := hd (HAd.out.keep hb8)
    have HIe := hd (HId.out.keep hb8)
    obtain ⟨u0, u1, u2, u3, -⟩ := blkCells hO8
    clear n0 n1 n2 n3 ht8 ho8 hl8 hb8 hO8 HCH HMK hrun
    obtain ⟨r0, r1, r2, r3, -⟩ := blkCells (HXe.out.tl.hd)
    obtain ⟨y0, y1, y2, y3, -⟩ := blkCells (HXe.out.hd)
    go_wp2_with (first
      | (go_at_call 27; have _g := HBc8; clear _g; refine Calls.mono (nsame_at (eqT_self _) (HAc8.out.hd) (HAc8.out.tl.tl.tl.tl.tl.tl.tl.hd)) ?_; rintro e wc9 ⟨rfl, hbc9⟩; have hic9 := hbc9; have HBc9 := hd (HBc8.out.trans (hbc9.mono HBc8.out.size)); have HXc9 := hd (HXc8.out.keep hbc9); have HAc9 := hd (HAc8.out.keep hbc9); clear hbc9; have HIc9 := hd (HIc8.out.keep hic9); clear hic9; clear t0 t1 t2 t3 n0 n1 n2 n3)
      | (go_at_call 16; have _g := HBe; clear _g; refine Calls.mono (add_l HE2.out HLP.out (by omega) hc1 (HAe.out.tl.hd) (HAe.out.hd) (HIe.out.hd) HBD2.out) ?_; intro e wc8 hc8; obtain ⟨lfc8, PAc8, npc8, pcc8, TAc8, ntc8, tcc8, KAc8, nkc8, kcc8, rfl, hTc8, hbc8⟩ := hc8.opn; have hic8 := hbc8.trans ((alloc_below _ (.cells #[.bool lfc8, .slice PAc8 npc8 pcc8, .slice TAc8 ntc8 tcc8, .slice KAc8 nkc8 kcc8] 26)).mono hbc8.size); have hBc8 := HBe.out.trans (hbc8.mono HBe.out.size); have HBc8 := hd (hBc8.alloc hBc8.size (.cells #[.bool lfc8, .slice PAc8 npc8 pcc8, .slice TAc8 ntc8 tcc8, .slice KAc8 nkc8 kcc8] 26)); have HXc8 := hd ((HXe.out.keep hbc8).add (.cells #[.bool lfc8, .slice PAc8 npc8 pcc8, .slice TAc8 ntc8 tcc8, .slice KAc8 nkc8 kcc8] 26)); have HAc8 := hd (((HAe.out.keep hbc8).add hTc8).keep (alloc_below _ (.cells #[.bool lfc8, .slice PAc8 npc8 pcc8, .slice TAc8 ntc8 tcc8, .slice KAc8 nkc8 kcc8] 26))); clear hTc8 hBc8 hbc8; have HIc8 := hd (HIe.out.keep hic8); clear hic8; clear r0 r1 r2 r3 y0 y1 y2 y3; obtain ⟨t0, t1, t2, t3, -⟩ := blkCells (HXc8.out.hd); obtain ⟨n0, n1, n2, n3, -⟩ := blkCells (HXc8.out.tl.tl.tl.tl.tl.tl.tl.hd)))
    go_ret
    exact ⟨rfl, HBc9.out⟩

set_option maxRecDepth 100000 in
set_option maxHeartbeats 8000000 in
theorem tback_no (w : World) (v u : Value) (n m : NT) (A : Option Addr) (p : List Int) (lp c : Nat) (_hlp : p.length = lp) (hl1 : lp ≤ 9223372036854775807) (hF : (fewB 100 n && fewB 60 m && decide (lp ≤ 50)) = false) (hn : At w v n) (hm : At w u m) (hp : IL w w.heap.size A p) :
    Calls Try.prog 5 #[v, .slice A lp c, u] w (Still (.bool true) w) := by
  have HFEW := hd hF
  obtain ⟨lf, PA, np, pc, TA, nt, tc, KA, nk, kc, rfl⟩ := hn.val
  obtain ⟨lf', PA', np', pc', TA', nt', tc', KA', nk', kc', rfl⟩ := hm.val
  obtain ⟨wb, hwb⟩ : ∃ wb, wb = (w.alloc (.cells #[.bool lf, .slice PA np pc, .slice TA nt tc, .slice KA nk kc] 26)).alloc (.cells #[.bool lf', .slice PA' np' pc', .slice TA' nt' tc', .slice KA' nk' kc'] 26) := ⟨_, rfl⟩
  have hb0 : Below w.heap.size w wb := hwb ▸ below_mono2 (Below.refl _ _) (Nat.le_refl _)
  have HB := hd hb0
  have HX := hd (show Holds [(w.heap.size + 1, .cells #[.bool lf', .slice PA' np' pc', .slice TA' nt' tc', .slice KA' nk' kc'] 26), (w.heap.size, .cells #[.bool lf, .slice PA np pc, .slice TA nt tc, .slice KA nk kc] 26)] wb from hwb ▸ holds2 w _ _)
  have HA := hd (((((Ats.nil w).add hn).add hm)).keep hb0)
  have HI := hd (((Ils.nil w).add hp).keep hb0)
  clear hn hm hp hb0 hF
  obtain ⟨n0, n1, n2, n3, -⟩ := blkCells (HX.out.tl.hd)
  obtain ⟨m0, m1, m2, m3, -⟩ := blkCells (HX.out.hd)
  go_enter Try.func5, Try.ntmps5
  subst hwb
  go_wp2_with (first
    | (go_at_call 10; have _g := HBc1; clear _g; refine Calls.mono (few_at HFEW.out hl1 (HAc1.out.tl.hd) (HAc1.out.hd)) ?_; rintro e wc2 ⟨rfl, hbc2⟩; have hic2 := hbc2; have HBc2 := hd (HBc1.out.trans (hbc2.mono HBc1.out.size)); have HXc2 := hd (HXc1.out.keep hbc2); have HAc2 := hd (HAc1.out.keep hbc2); clear hbc2; have HIc2 := hd (HIc1.out.keep hic2); clear hic2; clear n0 n1 n2 n3 m0 m1 m2 m3)
    | (go_at_call 9; have _g := HB; clear _g; refine Calls.mono (live5_any _) ?_; rintro e wc1 ⟨rfl, hbc1⟩; have hic1 := hbc1; have HBc1 := hd (HB.out.trans (hbc1.mono HB.out.size)); have HXc1 := hd (HX.out.keep hbc1); have HAc1 := hd (HA.out.keep hbc1); clear hbc1; have HIc1 := hd (HI.out.keep hic1); clear hic1; clear n0 n1 n2 n3 m0 m1 m2 m3; obtain ⟨n0, n1, n2, n3, -⟩ := blkCells (HXc1.out.tl.hd); obtain ⟨m0, m1, m2, m3, -⟩ := blkCells (HXc1.out.hd)))
  go_ret
  exact ⟨rfl, HBc2.out⟩

theorem tback_law (w : World) (v u : Value) (n m : NT) (A : Option Addr) (p : List Int) (c : Nat) (hl1 : p.length ≤ 9223372036854775807) (hc1 : p.length ≤ c) (htight : TightT n) (hn : At w v n) (hm : At w u m) (hp : IL w w.heap.size A p) :
    Calls Try.prog 5 #[v, .slice A p.length c, u] w (Still (.bool true) w) := by
  have hbd : ∀ x, getO n (upP p) = some x → x.ks.length < 1759218604441 := fun x hx => by have := (tight_get n _ x htight hx).len; omega
  cases hF : (fewB 100 n && fewB 60 m && decide (p.length ≤ 50)) with
  | false => exact tback_no w v u n m A p _ c rfl hl1 hF hn hm hp
  | true =>
  have hp50 : p.length ≤ 50 := by
    have h := hF
    simp only [Bool.and_eq_true, decide_eq_true_iff] at h
    exact h.2
  obtain ⟨a, ea, ha⟩ : ∃ a ea, addE n p m = (a, ea) := ⟨_, _, rfl⟩
  obtain ⟨r, er, hr⟩ : ∃ r er, cutE n p = (r, er) := ⟨_, _, rfl⟩
  rcases Classical.em (er = 0) with he | he
  · subst he
    obtain ⟨x, k, hp0, hx, hk, hy, hr1, hr2, hadd⟩ := cut_add (n := n) (p := p) (by rw [hr])
    have hrr : r = (cutE n p).1 := by rw [hr]
    rw [← hrr] at hr2 hadd
    have hbd2 : ∀ x, getO r (upP p) = some x → x.ks.length < 1759218604441 := fun z hz => by
      rw [hr2] at hz
      injection hz with hz
      have h1 := hbd x hx
      have h2 := kid_has hk
      have h3 := spl_len (ks := x.ks) (i := (lastL p).toNat) (many := 1) (o := []) (by omega)
      rw [← hz]
      show (spl x.ks (lastL p).toNat 1 []).length < _
      simp at h3
      omega
    cases hlf : x.lf with
    | true =>
      rcases Classical.em (ea = 0) with h0 | h0
      · subst h0; exact tback_11 w v u n m A p _ c rfl hp50 hc1 hF hn hm hp hbd a ha r k x hr hy hp0 hx hlf
      · exact tback_01 w v u n m A p _ c rfl hp50 hc1 hF hn hm hp hbd a ea ha h0 r k x hr hy hp0 hx hlf
    | false =>
      rcases Classical.em (ea = 0) with h0 | h0
      · subst h0; exact tback_12 w v u n m A p _ c rfl hp50 hc1 hF hn hm hp hbd a ha r k x hr hy hp0 hx hlf (hadd hlf) hbd2
      · exact tback_02 w v u n m A p _ c rfl hp50 hc1 hF hn hm hp hbd a ea ha h0 r k x hr hy hp0 hx hlf (hadd hlf) hbd2
  · rcases Classical.em (ea = 0) with h0 | h0
    · subst h0; exact tback_10 w v u n m A p _ c rfl hp50 hc1 hF hn hm hp hbd a ha r _ er hr rfl he
    · exact tback_00 w v u n m A p _ c rfl hp50 hc1 hF hn hm hp hbd a ea ha h0 r _ er hr rfl he

end Go.Proofs.Ytggapngibkeodaa
