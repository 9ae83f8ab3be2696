/- The document's Add. -/
import Derived.Test.YtggapngibkeodaaTRow
import Derived.Test.YtggapngibkeodaaTRPut
namespace Go.Proofs.Ytggapngibkeodaa
open Go.RowKit
open Go.WideShapes (add_plain)

theorem holds3 (w : World) (o o' o'' : Obj) : Holds [(w.heap.size + 2, o''), (w.heap.size + 1, o'), (w.heap.size, o)] (((w.alloc o).alloc o').alloc o'') := by
  have := ((Holds.nil w).add2 o o').add o''
  rwa [show ((w.alloc o).alloc o').heap.size = w.heap.size + 2 by simp] at this
theorem rpar_l {w : World} {A : Option Addr} {p l : List Int} {er : Int} {lp c : Nat} (hr : parentL p = (l, er)) (hlp : p.length = lp) (hl : lp ≤ 1000) (hc : lp ≤ c) (hp : IL w w.heap.size A p) : Calls Try.prog 43 #[.slice A lp c] w (NewPE w (l, er)) := by
  subst hlp; exact rpar_is hr hl hc hp
theorem rget_l {w : World} {v : Value} {n x : NT} {er : Int} {A : Option Addr} {p : List Int} {lp c : Nat} (hr : getE n p = (x, er)) (hlp : p.length = lp) (hl : lp ≤ 1000) (hn : At w v n) (hp : IL w w.heap.size A p) : Calls Try.prog 13 #[v, .slice A lp c] w (NewN (x, er) w) := by
  subst hlp; exact rget_is hr hl hn hp

theorem grown_keep {w4 w5 : World} {o : Obj} {row : Option Nat} {s3 : Nat} (hg : (w4.alloc o).grownBy w5 row) (h3 : ∀ b, row = some b → b < s3) : ∀ b, s3 ≤ b → b < w4.heap.size → w5.heap[b]? = w4.heap[b]? := fun b h1 h2 =>
  (hg.block b (by simp; omega) (fun e => by have := h3 b e.symm; omega)).trans (Below.heap_alloc _ _ _ h2)
theorem row_where {o o' : Option Nat} {s3 s4 : Nat} (h3 : ∀ b, o = some b → b < s3) (hat : o' = o ∨ ∃ g, o' = some g ∧ s4 ≤ g) : ∀ b, o' = some b → b < s3 ∨ s4 ≤ b := fun b e => by
  rcases hat with h | ⟨g, h, hg⟩
  · rw [h] at e; exact .inl (h3 b e)
  · rw [h] at e; injection e with e; exact .inr (by omega)

set_option maxRecDepth 100000 in
set_option maxHeartbeats 8000000 in
theorem radd_root (w : World) (v u : Value) (n m : NT) (A : Option Addr) (p : List Int) (lp c : Nat) (hlp : p.length = lp) (hl : lp ≤ 1000) (hc1 : lp ≤ c) (hn : At w v n) (hm : At w u m) (hp : IL w w.heap.size A p) (hpar : parentL p = ([], 6)) (lu : Nat) (hlu : (([] : List Int)).length = lu) (_hlu5 : lu ≤ 1000) :
    Calls Try.prog 17 #[v, .slice A lp c, u] w (NewN (zeroT, 6) w) := by
  obtain ⟨lf, PA, np, pc, TA, nt, tc, KA, nk, kc, rfl⟩ := hn.val
  obtain ⟨lf1, PA1, np1, pc1, TA1, nt1, tc1, KA1, nk1, kc1, rfl⟩ := hm.val
  obtain ⟨wb, hwb⟩ : ∃ wb, wb = ((w.alloc (.cells #[.bool lf, .slice PA np pc, .slice TA nt tc, .slice KA nk kc] 26)).alloc (.cells #[.bool lf1, .slice PA1 np1 pc1, .slice TA1 nt1 tc1, .slice KA1 nk1 kc1] 26)).alloc (.cells #[.bool false, .slice none 0 0, .slice none 0 0, .slice none 0 0] 26) := ⟨_, rfl⟩
  have hb0 : Below w.heap.size w wb := hwb ▸ (below_mono2 (Below.refl _ _) (Nat.le_refl _)).alloc (by simp; omega) _
  have hsb : wb.heap.size = w.heap.size + 3 := by rw [hwb]; simp
  have HX := hd (show Holds [(w.heap.size + 2, .cells #[.bool false, .slice none 0 0, .slice none 0 0, .slice none 0 0] 26), (w.heap.size + 1, .cells #[.bool lf1, .slice PA1 np1 pc1, .slice TA1 nt1 tc1, .slice KA1 nk1 kc1] 26), (w.heap.size, .cells #[.bool lf, .slice PA np pc, .slice TA nt tc, .slice KA nk kc] 26)] wb from hwb ▸ holds3 w _ _ _)
  have HB := hd hb0
  have HS := hd hsb
  have HLP := hd hlp
  have HA := hd (((((Ats.nil w).add hn).add hm)).keep hb0)
  have HI := hd (((Ils.nil w).add hp).keep hb0)
  have HPAR := hd hpar
  have HUL := hd hlu
  obtain ⟨n0, n1, n2, n3, -⟩ := blkCells (HX.out.tl.tl.hd)
  clear hn hm hp hb0 hlp hpar hlu hsb
  go_enter Try.func17, Try.ntmps17
  subst hwb
  go_wp2_with (first
    | (go_at_call 43; refine Calls.mono (rpar_l HPAR.out HLP.out (by omega) hc1 (HI.out.hd)) ?_; intro e w1 hc1'; obtain ⟨Au, cu, rfl, hcu, hIu, hb1⟩ := hc1'.opnL HUL.out; have HB1 := hd (HB.out.trans (hb1.mono HB.out.size)); have HX1 := hd (HX.out.keep hb1); have HA1 := hd (HA.out.keep hb1); have HI1 := hd ((HI.out.keep hb1).add hIu); have hz1 := hb1.size; rw [HS.out] at hz1; clear hIu hb1 n0 n1 n2 n3; obtain ⟨r0, r1, r2, r3, r4, r5, r6, r7⟩ := blkCells (HX1.out.hd)))
  have h7 := set4_block (a := .bool false) (b := .slice none 0 0) (c := .slice none 0 0) (d := .slice none 0 0) (HX1.out.hd)
  obtain ⟨t0, t1, t2, t3, -⟩ := blkCells h7
  exact bodyPost_ret (v := .tuple #[.agg #[.bool false, .slice none 0 0, .slice none 0 0, .slice none 0 0], .int .i64 6]) (by simp [results, Try.results17, go_sem, t0, t1, t2, t3]) rfl (newN_ret rfl (zero_tree _ 0 _) (Below.set4 HB1.out (by omega)))

set_option maxRecDepth 100000 in
set_option maxHeartbeats 8000000 in
theorem radd_path (w : World) (v u : Value) (n m : NT) (A : Option Addr) (p : List Int) (lp c : Nat) (hlp : p.length = lp) (hl : lp ≤ 1000) (hc1 : lp ≤ c) (hn : At w v n) (hm : At w u m) (hp : IL w w.heap.size A p) (hpar : parentL p = (upP p, 0)) (lu : Nat) (hlu : (upP p).length = lu) (hlu5 : lu ≤ 1000) (hg : getE n (upP p) = (zeroT, 5)) :
    Calls Try.prog 17 #[v, .slice A lp c, u] w (NewN (zeroT, 5) w) := by
  obtain ⟨lf, PA, np, pc, TA, nt, tc, KA, nk, kc, rfl⟩ := hn.val
  obtain ⟨lf1, PA1, np1, pc1, TA1, nt1, tc1, KA1, nk1, kc1, rfl⟩ := hm.val
  obtain ⟨wb, hwb⟩ : ∃ wb, wb = ((w.alloc (.cells #[.bool lf, .slice PA np pc, .slice TA nt tc, .slice KA nk kc] 26)).alloc (.cells #[.bool lf1, .slice PA1 np1 pc1, .slice TA1 nt1 tc1, .slice KA1 nk1 kc1] 26)).alloc (.cells #[.bool false, .slice none 0 0, .slice none 0 0, .slice none 0 0] 26) := ⟨_, rfl⟩
  have hb0 : Below w.heap.size w wb := hwb ▸ (below_mono2 (Below.refl _ _) (Nat.le_refl _)).alloc (by simp; omega) _
  have hsb : wb.heap.size = w.heap.size + 3 := by rw [hwb]; simp
  have HX := hd (show Holds [(w.heap.size + 2, .cells #[.bool false, .slice none 0 0, .slice none 0 0, .slice none 0 0] 26), (w.heap.size + 1, .cells #[.bool lf1, .slice PA1 np1 pc1, .slice TA1 nt1 tc1, .slice KA1 nk1 kc1] 26), (w.heap.size, .cells #[.bool lf, .slice PA np pc, .slice TA nt tc, .slice KA nk kc] 26)] wb from hwb ▸ holds3 w _ _ _)
  have HB := hd hb0
  have HS := hd hsb
  have HLP := hd hlp
  have HA := hd (((((Ats.nil w).add hn).add hm)).keep hb0)
  have HI := hd (((Ils.nil w).add hp).keep hb0)
  have HPAR := hd hpar
  have HUL := hd hlu
  have HG := hd hg
  obtain ⟨n0, n1, n2, n3, -⟩ := blkCells (HX.out.tl.tl.hd)
  clear hn hm hp hb0 hlp hpar hlu hsb hg
  go_enter Try.func17, Try.ntmps17
  subst hwb
  go_wp2_with (first
    | (go_at_call 13; have _g := HB1; clear _g; refine Calls.mono (rget_l HG.out HUL.out (by omega) (HA1.out.tl.hd) (HI1.out.hd)) ?_; intro e w2 hc2; obtain ⟨lf2, PA2, np2, pc2, TA2, nt2, tc2, KA2, nk2, kc2, rfl, -, hb2⟩ := hc2.opn; have hz2 := hb2.size; have hB2 := HB1.out.trans (hb2.mono HB1.out.size); have HB2 := hd (hB2.alloc hB2.size (.cells #[.bool lf2, .slice PA2 np2 pc2, .slice TA2 nt2 tc2, .slice KA2 nk2 kc2] 26)); have HX2 := hd ((HX1.out.keep hb2).add (.cells #[.bool lf2, .slice PA2 np2 pc2, .slice TA2 nt2 tc2, .slice KA2 nk2 kc2] 26)); clear hb2 hB2 n0 n1 n2 n3; obtain ⟨r0, r1, r2, r3, r4, r5, r6, r7⟩ := blkCells (HX2.out.tl.hd))
    | (go_at_call 43; refine Calls.mono (rpar_l HPAR.out HLP.out (by omega) hc1 (HI.out.hd)) ?_; intro e w1 hc1'; obtain ⟨Au, cu, rfl, hcu, hIu, hb1⟩ := hc1'.opnL HUL.out; have HB1 := hd (HB.out.trans (hb1.mono HB.out.size)); have HX1 := hd (HX.out.keep hb1); have HA1 := hd (HA.out.keep hb1); have HI1 := hd ((HI.out.keep hb1).add hIu); have hz1 := hb1.size; rw [HS.out] at hz1; clear hIu hb1 n0 n1 n2 n3; obtain ⟨n0, n1, n2, n3, -⟩ := blkCells (HX1.out.tl.tl.hd)))
  have h7 := set4_block (a := .bool false) (b := .slice none 0 0) (c := .slice none 0 0) (d := .slice none 0 0) (HX2.out.tl.hd)
  obtain ⟨t0, t1, t2, t3, -⟩ := blkCells h7
  exact bodyPost_ret (v := .tuple #[.agg #[.bool false, .slice none 0 0, .slice none 0 0, .slice none 0 0], .int .i64 5]) (by simp [results, Try.results17, go_sem, t0, t1, t2, t3]) rfl (newN_ret rfl (zero_tree _ 0 _) (Below.set4 HB2.out (by omega)))

set_option maxRecDepth 100000 in
set_option maxHeartbeats 8000000 in
theorem radd_leaf (w : World) (v u : Value) (n m : NT) (A : Option Addr) (p : List Int) (lp c : Nat) (hlp : p.length = lp) (hl : lp ≤ 1000) (hc1 : lp ≤ c) (hn : At w v n) (hm : At w u m) (hp : IL w w.heap.size A p) (hpar : parentL p = (upP p, 0)) (lu : Nat) (hlu : (upP p).length = lu) (hlu5 : lu ≤ 1000) (x : NT) (k kx : Nat) (i : Int) (hk : lp = k + 1) (hg : getE n (upP p) = (x, 0)) (hlf : x.lf = true) (hkx : x.ks.length = kx) (hi : iAt p k = i) :
    Calls Try.prog 17 #[v, .slice A lp c, u] w (NewN (zeroT, 7) w) := by
  obtain ⟨lf, PA, np, pc, TA, nt, tc, KA, nk, kc, rfl⟩ := hn.val
  obtain ⟨lf1, PA1, np1, pc1, TA1, nt1, tc1, KA1, nk1, kc1, rfl⟩ := hm.val
  obtain ⟨wb, hwb⟩ : ∃ wb, wb = ((w.alloc (.cells #[.bool lf, .slice PA np pc, .slice TA nt tc, .slice KA nk kc] 26)).alloc (.cells #[.bool lf1, .slice PA1 np1 pc1, .slice TA1 nt1 tc1, .slice KA1 nk1 kc1] 26)).alloc (.cells #[.bool false, .slice none 0 0, .slice none 0 0, .slice none 0 0] 26) := ⟨_, rfl⟩
  have hb0 : Below w.heap.size w wb := hwb ▸ (below_mono2 (Below.refl _ _) (Nat.le_refl _)).alloc (by simp; omega) _
  have hsb : wb.heap.size = w.heap.size + 3 := by rw [hwb]; simp
  have HX := hd (show Holds [(w.heap.size + 2, .cells #[.bool false, .slice none 0 0, .slice none 0 0, .slice none 0 0] 26), (w.heap.size + 1, .cells #[.bool lf1, .slice PA1 np1 pc1, .slice TA1 nt1 tc1, .slice KA1 nk1 kc1] 26), (w.heap.size, .cells #[.bool lf, .slice PA np pc, .slice TA nt tc, .slice KA nk kc] 26)] wb from hwb ▸ holds3 w _ _ _)
  have HB := hd hb0
  have HS := hd hsb
  have HLP := hd hlp
  have HA := hd (((((Ats.nil w).add hn).add hm)).keep hb0)
  have HI := hd (((Ils.nil w).add hp).keep hb0)
  subst hk
  have HPAR := hd hpar
  have HUL := hd hlu
  have HG := hd hg
  have HLF := hd hlf
  have HKL := hd hkx
  have HJ := hd hi
  have HKP := hd (show k < p.length by omega)
  obtain ⟨b, o, rfl, hbl, -⟩ := hp.at_ (k := k) HKP.out
  obtain ⟨n0, n1, n2, n3, -⟩ := blkCells (HX.out.tl.tl.hd)
  clear hn hm hp hb0 hlp hpar hlu hsb hg hlf hkx hi
  go_enter Try.func17, Try.ntmps17
  subst hwb
  go_wp2_with (first
    | (go_at_call 13; have _g := HB1; clear _g; refine Calls.mono (rget_l HG.out HUL.out (by omega) (HA1.out.tl.hd) (HI1.out.hd)) ?_; intro e w2 hc2; obtain ⟨PA2, np2, pc2, TA2, nt2, tc2, KA2, kc2, rfl, -, hb2⟩ := hc2.opnF HLF.out HKL.out; have hz2 := hb2.size; have hB2 := HB1.out.trans (hb2.mono HB1.out.size); have HB2 := hd (hB2.alloc hB2.size (.cells #[.bool true, .slice PA2 np2 pc2, .slice TA2 nt2 tc2, .slice KA2 kx kc2] 26)); have HX2 := hd ((HX1.out.keep hb2).add (.cells #[.bool true, .slice PA2 np2 pc2, .slice TA2 nt2 tc2, .slice KA2 kx kc2] 26)); have HI2 := hd ((HI1.out.keep hb2).keep (alloc_below _ (.cells #[.bool true, .slice PA2 np2 pc2, .slice TA2 nt2 tc2, .slice KA2 kx kc2] 26))); clear hb2 hB2 n0 n1 n2 n3; obtain ⟨r0, r1, r2, r3, r4, r5, r6, r7⟩ := blkCells (HX2.out.tl.hd); obtain ⟨a0, a1, a2, a3, -⟩ := blkCells (HX2.out.hd); have hpl := (il_cell (HI2.out.tl.hd) HKP.out).2; rw [HJ.out] at hpl)
    | (go_at_call 43; refine Calls.mono (rpar_l HPAR.out HLP.out (by omega) hc1 (HI.out.hd)) ?_; intro e w1 hc1'; obtain ⟨Au, cu, rfl, hcu, hIu, hb1⟩ := hc1'.opnL HUL.out; have HB1 := hd (HB.out.trans (hb1.mono HB.out.size)); have HX1 := hd (HX.out.keep hb1); have HA1 := hd (HA.out.keep hb1); have HI1 := hd ((HI.out.keep hb1).add hIu); have hz1 := hb1.size; rw [HS.out] at hz1; clear hIu hb1 n0 n1 n2 n3; obtain ⟨n0, n1, n2, n3, -⟩ := blkCells (HX1.out.tl.tl.hd)))
  have h7 := set4_block (a := .bool false) (b := .slice none 0 0) (c := .slice none 0 0) (d := .slice none 0 0) (HX2.out.tl.hd)
  obtain ⟨t0, t1, t2, t3, -⟩ := blkCells h7
  exact bodyPost_ret (v := .tuple #[.agg #[.bool false, .slice none 0 0, .slice none 0 0, .slice none 0 0], .int .i64 7]) (by simp [results, Try.results17, go_sem, t0, t1, t2, t3]) rfl (newN_ret rfl (zero_tree _ 0 _) (Below.set4 HB2.out (by omega)))

set_option maxRecDepth 100000 in
set_option maxHeartbeats 8000000 in
theorem radd_neg (w : World) (v u : Value) (n m : NT) (A : Option Addr) (p : List Int) (lp c : Nat) (hlp : p.length = lp) (hl : lp ≤ 1000) (hc1 : lp ≤ c) (hn : At w v n) (hm : At w u m) (hp : IL w w.heap.size A p) (hpar : parentL p = (upP p, 0)) (lu : Nat) (hlu : (upP p).length = lu) (hlu5 : lu ≤ 1000) (x : NT) (k kx : Nat) (i : Int) (hk : lp = k + 1) (hg : getE n (upP p) = (x, 0)) (hlf : x.lf = false) (hkx : x.ks.length = kx) (hi : iAt p k = i) (h1 : i < 0) :
    Calls Try.prog 17 #[v, .slice A lp c, u] w (NewN (zeroT, 8) w) := by
  obtain ⟨lf, PA, np, pc, TA, nt, tc, KA, nk, kc, rfl⟩ := hn.val
  obtain ⟨lf1, PA1, np1, pc1, TA1, nt1, tc1, KA1, nk1, kc1, rfl⟩ := hm.val
  obtain ⟨wb, hwb⟩ : ∃ wb, wb = ((w.alloc (.cells #[.bool lf, .slice PA np pc, .slice TA nt tc, .slice KA nk kc] 26)).alloc (.cells #[.bool lf1, .slice PA1 np1 pc1, .slice TA1 nt1 tc1, .slice KA1 nk1 kc1] 26)).alloc (.cells #[.bool false, .slice none 0 0, .slice none 0 0, .slice none 0 0] 26) := ⟨_, rfl⟩
  have hb0 : Below w.heap.size w wb := hwb ▸ (below_mono2 (Below.refl _ _) (Nat.le_refl _)).alloc (by simp; omega) _
  have hsb : wb.heap.size = w.heap.size + 3 := by rw [hwb]; simp
  have HX := hd (show Holds [(w.heap.size + 2, .cells #[.bool false, .slice none 0 0, .slice none 0 0, .slice none 0 0] 26), (w.heap.size + 1, .cells #[.bool lf1, .slice PA1 np1 pc1, .slice TA1 nt1 tc1, .slice KA1 nk1 kc1] 26), (w.heap.size, .cells #[.bool lf, .slice PA np pc, .slice TA nt tc, .slice KA nk kc] 26)] wb from hwb ▸ holds3 w _ _ _)
  have HB := hd hb0
  have HS := hd hsb
  have HLP := hd hlp
  have HA := hd (((((Ats.nil w).add hn).add hm)).keep hb0)
  have HI := hd (((Ils.nil w).add hp).keep hb0)
  subst hk
  have HPAR := hd hpar
  have HUL := hd hlu
  have HG := hd hg
  have HLF := hd hlf
  have HKL := hd hkx
  have HJ := hd hi
  have HKP := hd (show k < p.length by omega)
  obtain ⟨b, o, rfl, hbl, -⟩ := hp.at_ (k := k) HKP.out
  obtain ⟨n0, n1, n2, n3, -⟩ := blkCells (HX.out.tl.tl.hd)
  clear hn hm hp hb0 hlp hpar hlu hsb hg hlf hkx hi
  go_enter Try.func17, Try.ntmps17
  subst hwb
  go_wp2_with (first
    | (go_at_call 13; have _g := HB1; clear _g; refine Calls.mono (rget_l HG.out HUL.out (by omega) (HA1.out.tl.hd) (HI1.out.hd)) ?_; intro e w2 hc2; obtain ⟨PA2, np2, pc2, TA2, nt2, tc2, KA2, kc2, rfl, -, hb2⟩ := hc2.opnF HLF.out HKL.out; have hz2 := hb2.size; have hB2 := HB1.out.trans (hb2.mono HB1.out.size); have HB2 := hd (hB2.alloc hB2.size (.cells #[.bool false, .slice PA2 np2 pc2, .slice TA2 nt2 tc2, .slice KA2 kx kc2] 26)); have HX2 := hd ((HX1.out.keep hb2).add (.cells #[.bool false, .slice PA2 np2 pc2, .slice TA2 nt2 tc2, .slice KA2 kx kc2] 26)); have HI2 := hd ((HI1.out.keep hb2).keep (alloc_below _ (.cells #[.bool false, .slice PA2 np2 pc2, .slice TA2 nt2 tc2, .slice KA2 kx kc2] 26))); clear hb2 hB2 n0 n1 n2 n3; obtain ⟨r0, r1, r2, r3, r4, r5, r6, r7⟩ := blkCells (HX2.out.tl.hd); obtain ⟨a0, a1, a2, a3, -⟩ := blkCells (HX2.out.hd); have hpl := (il_cell (HI2.out.tl.hd) HKP.out).2; rw [HJ.out] at hpl)
    | (go_at_call 43; refine Calls.mono (rpar_l HPAR.out HLP.out (by omega) hc1 (HI.out.hd)) ?_; intro e w1 hc1'; obtain ⟨Au, cu, rfl, hcu, hIu, hb1⟩ := hc1'.opnL HUL.out; have HB1 := hd (HB.out.trans (hb1.mono HB.out.size)); have HX1 := hd (HX.out.keep hb1); have HA1 := hd (HA.out.keep hb1); have HI1 := hd ((HI.out.keep hb1).add hIu); have hz1 := hb1.size; rw [HS.out] at hz1; clear hIu hb1 n0 n1 n2 n3; obtain ⟨n0, n1, n2, n3, -⟩ := blkCells (HX1.out.tl.tl.hd)))
  have h7 := set4_block (a := .bool false) (b := .slice none 0 0) (c := .slice none 0 0) (d := .slice none 0 0) (HX2.out.tl.hd)
  obtain ⟨t0, t1, t2, t3, -⟩ := blkCells h7
  exact bodyPost_ret (v := .tuple #[.agg #[.bool false, .slice none 0 0, .slice none 0 0, .slice none 0 0], .int .i64 8]) (by simp [results, Try.results17, go_sem, t0, t1, t2, t3]) rfl (newN_ret rfl (zero_tree _ 0 _) (Below.set4 HB2.out (by omega)))

set_option maxRecDepth 100000 in
set_option maxHeartbeats 8000000 in
theorem radd_far (w : World) (v u : Value) (n m : NT) (A : Option Addr) (p : List Int) (lp c : Nat) (hlp : p.length = lp) (hl : lp ≤ 1000) (hc1 : lp ≤ c) (hn : At w v n) (hm : At w u m) (hp : IL w w.heap.size A p) (hpar : parentL p = (upP p, 0)) (lu : Nat) (hlu : (upP p).length = lu) (hlu5 : lu ≤ 1000) (x : NT) (k kx : Nat) (i : Int) (hk : lp = k + 1) (hg : getE n (upP p) = (x, 0)) (hlf : x.lf = false) (hkx : x.ks.length = kx) (hi : iAt p k = i) (h1 : 0 ≤ i) (h2 : (kx : Int) < i) :
    Calls Try.prog 17 #[v, .slice A lp c, u] w (NewN (zeroT, 8) w) := by
  obtain ⟨lf, PA, np, pc, TA, nt, tc, KA, nk, kc, rfl⟩ := hn.val
  obtain ⟨lf1, PA1, np1, pc1, TA1, nt1, tc1, KA1, nk1, kc1, rfl⟩ := hm.val
  obtain ⟨wb, hwb⟩ : ∃ wb, wb = ((w.alloc (.cells #[.bool lf, .slice PA np pc, .slice TA nt tc, .slice KA nk kc] 26)).alloc (.cells #[.bool lf1, .slice PA1 np1 pc1, .slice TA1 nt1 tc1, .slice KA1 nk1 kc1] 26)).alloc (.cells #[.bool false, .slice none 0 0, .slice none 0 0, .slice none 0 0] 26) := ⟨_, rfl⟩
  have hb0 : Below w.heap.size w wb := hwb ▸ (below_mono2 (Below.refl _ _) (Nat.le_refl _)).alloc (by simp; omega) _
  have hsb : wb.heap.size = w.heap.size + 3 := by rw [hwb]; simp
  have HX := hd (show Holds [(w.heap.size + 2, .cells #[.bool false, .slice none 0 0, .slice none 0 0, .slice none 0 0] 26), (w.heap.size + 1, .cells #[.bool lf1, .slice PA1 np1 pc1, .slice TA1 nt1 tc1, .slice KA1 nk1 kc1] 26), (w.heap.size, .cells #[.bool lf, .slice PA np pc, .slice TA nt tc, .slice KA nk kc] 26)] wb from hwb ▸ holds3 w _ _ _)
  have HB := hd hb0
  have HS := hd hsb
  have HLP := hd hlp
  have HA := hd (((((Ats.nil w).add hn).add hm)).keep hb0)
  have HI := hd (((Ils.nil w).add hp).keep hb0)
  subst hk
  have HPAR := hd hpar
  have HUL := hd hlu
  have HG := hd hg
  have HLF := hd hlf
  have HKL := hd hkx
  have HJ := hd hi
  have HKP := hd (show k < p.length by omega)
  obtain ⟨b, o, rfl, hbl, -⟩ := hp.at_ (k := k) HKP.out
  obtain ⟨n0, n1, n2, n3, -⟩ := blkCells (HX.out.tl.tl.hd)
  clear hn hm hp hb0 hlp hpar hlu hsb hg hlf hkx hi
  go_enter Try.func17, Try.ntmps17
  subst hwb
  go_wp2_with (first
    | (go_at_call 13; have _g := HB1; clear _g; refine Calls.mono (rget_l HG.out HUL.out (by omega) (HA1.out.tl.hd) (HI1.out.hd)) ?_; intro e w2 hc2; obtain ⟨PA2, np2, pc2, TA2, nt2, tc2, KA2, kc2, rfl, -, hb2⟩ := hc2.opnF HLF.out HKL.out; have hz2 := hb2.size; have hB2 := HB1.out.trans (hb2.mono HB1.out.size); have HB2 := hd (hB2.alloc hB2.size (.cells #[.bool false, .slice PA2 np2 pc2, .slice TA2 nt2 tc2, .slice KA2 kx kc2] 26)); have HX2 := hd ((HX1.out.keep hb2).add (.cells #[.bool false, .slice PA2 np2 pc2, .slice TA2 nt2 tc2, .slice KA2 kx kc2] 26)); have HI2 := hd ((HI1.out.keep hb2).keep (alloc_below _ (.cells #[.bool false, .slice PA2 np2 pc2, .slice TA2 nt2 tc2, .slice KA2 kx kc2] 26))); clear hb2 hB2 n0 n1 n2 n3; obtain ⟨r0, r1, r2, r3, r4, r5, r6, r7⟩ := blkCells (HX2.out.tl.hd); obtain ⟨a0, a1, a2, a3, -⟩ := blkCells (HX2.out.hd); have hpl := (il_cell (HI2.out.tl.hd) HKP.out).2; rw [HJ.out] at hpl)
    | (go_at_call 43; refine Calls.mono (rpar_l HPAR.out HLP.out (by omega) hc1 (HI.out.hd)) ?_; intro e w1 hc1'; obtain ⟨Au, cu, rfl, hcu, hIu, hb1⟩ := hc1'.opnL HUL.out; have HB1 := hd (HB.out.trans (hb1.mono HB.out.size)); have HX1 := hd (HX.out.keep hb1); have HA1 := hd (HA.out.keep hb1); have HI1 := hd ((HI.out.keep hb1).add hIu); have hz1 := hb1.size; rw [HS.out] at hz1; clear hIu hb1 n0 n1 n2 n3; obtain ⟨n0, n1, n2, n3, -⟩ := blkCells (HX1.out.tl.tl.hd)))
  have h7 := set4_block (a := .bool false) (b := .slice none 0 0) (c := .slice none 0 0) (d := .slice none 0 0) (HX2.out.tl.hd)
  obtain ⟨t0, t1, t2, t3, -⟩ := blkCells h7
  exact bodyPost_ret (v := .tuple #[.agg #[.bool false, .slice none 0 0, .slice none 0 0, .slice none 0 0], .int .i64 8]) (by simp [results, Try.results17, go_sem, t0, t1, t2, t3]) rfl (newN_ret rfl (zero_tree _ 0 _) (Below.set4 HB2.out (by omega)))

set_option maxRecDepth 100000 in
set_option maxHeartbeats 8000000 in
theorem radd_ok (w : World) (v u : Value) (n m : NT) (A : Option Addr) (p : List Int) (lp c : Nat) (hlp : p.length = lp) (hl : lp ≤ 1000) (hc1 : lp ≤ c) (hn : At w v n) (hm : At w u m) (hp : IL w w.heap.size A p) (hpar : parentL p = (upP p, 0)) (lu : Nat) (hlu : (upP p).length = lu) (hlu5 : lu ≤ 1000) (x : NT) (k kx : Nat) (i : Int) (hk : lp = k + 1) (hg : getE n (upP p) = (x, 0)) (hlf : x.lf = false) (hkx : x.ks.length = kx) (hi : iAt p k = i) (j : Nat) (hij : i = (j : Int)) (hjk : j ≤ kx) (hbd : kx < 1759218604441) (y : NT) (hput : putE n (upP p) (splT x j 0 [m]) = (y, 0)) :
    Calls Try.prog 17 #[v, .slice A lp c, u] w (NewN (y, 0) w) := by
  obtain ⟨lf, PA, np, pc, TA, nt, tc, KA, nk, kc, rfl⟩ := hn.val
  obtain ⟨lf1, PA1, np1, pc1, TA1, nt1, tc1, KA1, nk1, kc1, rfl⟩ := hm.val
  obtain ⟨wb, hwb⟩ : ∃ wb, wb = ((w.alloc (.cells #[.bool lf, .slice PA np pc, .slice TA nt tc, .slice KA nk kc] 26)).alloc (.cells #[.bool lf1, .slice PA1 np1 pc1, .slice TA1 nt1 tc1, .slice KA1 nk1 kc1] 26)).alloc (.cells #[.bool false, .slice none 0 0, .slice none 0 0, .slice none 0 0] 26) := ⟨_, rfl⟩
  have hb0 : Below w.heap.size w wb := hwb ▸ (below_mono2 (Below.refl _ _) (Nat.le_refl _)).alloc (by simp; omega) _
  have hsb : wb.heap.size = w.heap.size + 3 := by rw [hwb]; simp
  have HX := hd (show Holds [(w.heap.size + 2, .cells #[.bool false, .slice none 0 0, .slice none 0 0, .slice none 0 0] 26), (w.heap.size + 1, .cells #[.bool lf1, .slice PA1 np1 pc1, .slice TA1 nt1 tc1, .slice KA1 nk1 kc1] 26), (w.heap.size, .cells #[.bool lf, .slice PA np pc, .slice TA nt tc, .slice KA nk kc] 26)] wb from hwb ▸ holds3 w _ _ _)
  have HB := hd hb0
  have HS := hd hsb
  have HLP := hd hlp
  have HA := hd (((((Ats.nil w).add hn).add hm)).keep hb0)
  have HI := hd (((Ils.nil w).add hp).keep hb0)
  subst hk
  have HPAR := hd hpar
  have HUL := hd hlu
  have HG := hd hg
  have HLF := hd hlf
  have HKL := hd hkx
  have HJ := hd hi
  have HKP := hd (show k < p.length by omega)
  obtain ⟨b, o, rfl, hbl, -⟩ := hp.at_ (k := k) HKP.out
  obtain ⟨n0, n1, n2, n3, -⟩ := blkCells (HX.out.tl.tl.hd)
  clear hn hm hp hb0 hlp hpar hlu hsb hg hlf hkx hi
  subst hij
  have HPUT := hd hput
  clear hput
  go_enter Try.func17, Try.ntmps17
  subst hwb
  go_upto_region 12 with (first
    | (go_at_call 13; have _g := HB1; clear _g; refine Calls.mono (rget_l HG.out HUL.out (by omega) (HA1.out.tl.hd) (HI1.out.hd)) ?_; intro e w2 hc2; obtain ⟨PA2, np2, pc2, TA2, nt2, tc2, KA2, kc2, rfl, ht2, hb2⟩ := hc2.opnF HLF.out HKL.out; have hz2 := hb2.size; have HB2 := hd (HB1.out.trans (hb2.mono HB1.out.size)); have HX2 := hd (HX1.out.keep hb2); have HA2 := hd (HA1.out.keep hb2); have HT2 := hd ht2; have HI2 := hd (HI1.out.keep hb2); have hb2a := alloc_below w2 (.cells #[.bool false, .slice PA2 np2 pc2, .slice TA2 nt2 tc2, .slice KA2 kx kc2] 26); obtain ⟨n0, n1, n2, n3, -⟩ := blkCells (keepBlk (HX2.out.tl.tl.hd) hb2a); obtain ⟨a0, a1, a2, a3, a4, a5, a6, a7⟩ := blkCells (heap_alloc_new w2 (.cells #[.bool false, .slice PA2 np2 pc2, .slice TA2 nt2 tc2, .slice KA2 kx kc2] 26)); have hpl := (il_cell ((HI2.out.tl.hd).later hb2a) HKP.out).2; rw [HJ.out] at hpl; clear hb2 hb2a ht2)
    | (go_at_call 43; refine Calls.mono (rpar_l HPAR.out HLP.out (by omega) hc1 (HI.out.hd)) ?_; intro e w1 hc1'; obtain ⟨Au, cu, rfl, hcu, hIu, hb1⟩ := hc1'.opnL HUL.out; have HB1 := hd (HB.out.trans (hb1.mono HB.out.size)); have HX1 := hd (HX.out.keep hb1); have HA1 := hd (HA.out.keep hb1); have HI1 := hd ((HI.out.keep hb1).add hIu); have hz1 := hb1.size; rw [HS.out] at hz1; clear hIu hb1 n0 n1 n2 n3; obtain ⟨n0, n1, n2, n3, -⟩ := blkCells (HX1.out.tl.tl.hd)))
  obtain ⟨dx, hx⟩ := HT2.out
  obtain ⟨d', lfx, ps, tx, ks, PAx, pcx, TAx, tcx, KAx, kcx, hdx, rfl, ev, hps, htx, hf, hks⟩ := hx.open_
  simp only [Value.agg.injEq, Array.mk.injEq, List.cons.injEq, Value.bool.injEq, Value.slice.injEq, and_true] at ev
  obtain ⟨hlfx, ⟨rfl, rfl, rfl⟩, ⟨rfl, rfl, rfl⟩, rfl, hkk, rfl⟩ := ev
  have hkc : kx ≤ kc2 := by have := hf.2.2.2.2.2.2; omega
  obtain ⟨D, hD, hrunB⟩ := cutN_run KA2 kx kc2 j hjk hkc
  have hrunA := takeN_run KA2 kx kc2 j (by omega)
  obtain ⟨us1, hv1, hl1⟩ := Kids.vals (show Kids d' w2 w2.heap.size KA2 (ks.take j) from fun q z hz => hks q z (by rw [List.getElem?_take] at hz; split at hz <;> first | exact hz | cases hz))
  obtain ⟨us2, hv2, hl2⟩ := (hD d' w2 w2.heap.size ks hks hkk.symm).vals
  have HV1 := hd hl1
  have HV2 := hd hl2
  have HF1 := hd (show (flatV us1).length = j * 4 ∧ ∀ c ∈ flatV us1, c.oneCell' = true from ⟨by rw [hv1.flat.1, List.length_take]; congr 1; omega, hv1.flat.2⟩)
  have HF2 := hd (show (flatV us2).length = (kx - j) * 4 ∧ ∀ c ∈ flatV us2, c.oneCell' = true from ⟨by rw [hv2.flat.1, List.length_drop, ← hkk], hv2.flat.2⟩)
  have HVS1 := hd hv1
  have HVS2 := hd hv2
  have HPS := hd hps
  have HTX := hd htx
  have HFT := hd hf
  obtain ⟨dm, hm2⟩ := HA2.out.hd
  have HM2 := hd hm2
  have HCP := fun (W : World) (hb : Below w2.heap.size w2 W) => hd (rncopy_any dm W _ m ((HM2.out.below hb).more hb.size))
  have HBX := hd (heap_alloc_new w2 (.cells #[.bool false, .slice PA2 ps.length pc2, .slice TA2 tx.length tc2, .slice KA2 kx kc2] 26))
  have HKK := hd hkk
  have HLFX := hd hlfx
  clear hkk hlfx hx hps htx hf hks hD hv1 hl1 hv2 hl2 hm2 hpl
  go_upto_region 16 with (first
    | (at_builtin; refine wpList_append_GX nodeG _ rfl (.tmp 62) (.tmp 66) rfl w2.heap.size (.slice A5 (j + 1) c5) (j + 1) (flatV us1 ++ [.bool lf4, .slice PA4 np4 pc4, .slice TA4 nt4 tc4, .slice KA4 nk4 kc4]) rfl HW5.out D (kx - j) (kc2 - j) w2.heap.size (flatV us2) rfl HF2.out.1 (HV2.out.below HB5.out) HF2.out.2 (by unfold maxLen; omega) (by omega) (by omega) ?_; intro A6 c6 w6 hown6 hgrow6 hat6; have HB6 := hd (HB5.out.grown hgrow6 (by omega) HL5.out); have HW6 := hd hown6; have ho6 := (hgrow6.block w2.heap.size (by omega) (fun e => HP5.out e.symm)).trans HO5.out; have HO6 := hd ho6; have HP6 := hd (apart_step HP5.out (by omega) hat6); have hz6 := hgrow6.size; have HK6 := hd (fun (b : Nat) (h1 : w3.heap.size ≤ b) (h2 : b < w4.heap.size) => hgrow6.block b (by omega) (fun e => (HR5.out b e.symm).elim (fun h => by omega) (fun h => by rw [sz1] at h; omega))); clear a0 a1 a2 a3 a4 a5 a6 a7; obtain ⟨a0, a1, a2, a3, a4, a5, a6, a7⟩ := blkCells ho6; clear hown6 hgrow6 hat6 ho6)
    | (at_builtin; refine wpList_append_GX nodeG _ rfl (.tmp 57) (.tmp 60) rfl w2.heap.size (.slice A3 j c3) j (flatV us1) rfl (HW4.out.alloc _) (some ⟨w4.heap.size, 0, none⟩) 1 1 (w4.heap.size + 1) [.bool lf4, .slice PA4 np4 pc4, .slice TA4 nt4 tc4, .slice KA4 nk4 kc4] rfl rfl (VL_new w4 _ [.bool lf4, .slice PA4 np4 pc4, .slice TA4 nt4 tc4, .slice KA4 nk4 kc4]) (by simp [Value.oneCell']) (by unfold maxLen; omega) (by omega) (by simp; omega) ?_; intro A5 c5 w5 hown5 hgrow5 hat5; have HB5 := hd (Below.grown (HB4.out.alloc HB4.out.size _) hgrow5 (by simp; omega) (fun b e => (HR3.out b e).1)); have HW5 := hd hown5; have ho5 := app_far hgrow5 HO4.out HP3.out; have HO5 := hd ho5; have HP5 := hd (apart_step HP3.out (by simp; omega) hat5); have hz5 := hgrow5.size; have hl5 := lt_of_block ho5; have HK5 := hd (grown_keep hgrow5 (fun b e => (HR3.out b e).2)); have HR5 := hd (row_where (fun b e => (HR3.out b e).2) hat5); have HL5 := hd (fun b e => (hown5.lt b e).1); rw [sz1] at hz5; obtain ⟨a0, a1, a2, a3, a4, a5, a6, a7⟩ := blkCells ho5; clear hown5 hgrow5 hat5 ho5)
    | (go_at_call 11; refine (HCP _ HB3.out).out.mono ?_; intro e w4 h4; obtain ⟨v4, rfl, ht4, hb4⟩ := h4.copied; obtain ⟨lf4, PA4, np4, pc4, TA4, nt4, tc4, KA4, nk4, kc4, rfl⟩ := (ht4.at_ (B := w4.heap.size) (fun b hb => hb.2)).val; have HT4 := hd ht4; have HB4 := hd (HB3.out.trans (hb4.mono HB3.out.size)); have HW4 := hd (ownsRow_far HW3.out (fun k hk => hb4.block k hk)); have HO4 := hd (keepBlk HO3.out hb4); have hz4 := hb4.size; clear ht4 hb4 m0 m1 m2 m3 a0 a1 a2 a3 a4 a5 a6 a7)
    | (at_builtin; refine wpList_append_G0 nodeG _ rfl (.tmp 51) (.tmp 55) rfl w2.heap.size rfl KA2 j kc2 w2.heap.size (flatV us1) rfl HF1.out.1 (HV1.out.below (alloc_below w2 _)) HF1.out.2 (by unfold maxLen; omega) (by omega) (by simp) ?_; intro A3 c3 w3 hown3 hgrow3 hat3; have hb3 : Below w2.heap.size w2 w3 := (alloc_below w2 _).trans (hgrow3.mono (by simp)); have HB3 := hd hb3; have HW3 := hd hown3; have ho3 := keepBlk HBX.out hgrow3; have hl3 := lt_of_block ho3; have HO3 := hd ho3; have HP3 := hd (apart_step (g := w2.heap.size) (by simp) (by simp) hat3); have HR3 := hd (fun b e => hown3.lt b e); have hz3 := hb3.size; obtain ⟨m0, m1, m2, m3, -⟩ := blkCells (keepBlk (HX2.out.tl.hd) hb3); clear hb3 hown3 hgrow3 hat3 ho3 n0 n1 n2 n3 a0 a1 a2 a3 a4 a5 a6 a7; obtain ⟨a0, a1, a2, a3, a4, a5, a6, a7⟩ := blkCells HO3.out))
  generalize hW7 : World.setCell w6 _ _ = w7
  have hb7 : Below w2.heap.size w2 w7 := hW7 ▸ HB6.out.setCell (Nat.le_refl _) _
  have hz7 : w7.heap.size = w6.heap.size := by rw [← hW7]; simp
  have hbox7 : w7.heap[w2.heap.size]? = some (.cells #[.bool false, .slice PA2 ps.length pc2, .slice TA2 tx.length tc2, .slice A6 (j + 1 + (kx - j)) c6] 26 (0, 0)) := by rw [← hW7, setCell_block HO6.out]; rfl
  have hown7 := ownsRow_setCell_other (a := ⟨w2.heap.size, 3, none⟩) HW6.out HP6.out (.slice A6 (j + 1 + (kx - j)) c6)
  rw [hW7] at hown7
  have hk7 : ∀ b, w3.heap.size ≤ b → b < w4.heap.size → w7.heap[b]? = w4.heap[b]? := fun b h1 h2 => by
    rw [← hW7, Below.heap_setCell _ _ _ _ (by show b ≠ w2.heap.size; omega)]
    exact (HK6.out b h1 h2).trans (HK5.out b h1 h2)
  clear a0 a1 a2 a3 a4 a5 a6 a7 hW7
  obtain ⟨a0, a1, a2, a3, -⟩ := blkCells hbox7
  obtain ⟨n0, n1, n2, n3, -⟩ := blkCells (keepBlk (HX2.out.tl.tl.hd) hb7)
  have HR7 := hd (keepBlk (HX2.out.hd) hb7)
  have ht7 : NodeAt dm w7 w7.heap.size (.agg #[.bool lf4, .slice PA4 np4 pc4, .slice TA4 nt4 tc4, .slice KA4 nk4 kc4]) m := (HT4.out.block_keep (Q := fun b => b < w7.heap.size) (fun b h1 h2 => by omega) hk7).at_ (fun _ h => h)
  have hvs : Vals (max d' dm) w7 w7.heap.size (us1 ++ [.agg #[.bool lf4, .slice PA4 np4 pc4, .slice TA4 nt4 tc4, .slice KA4 nk4 kc4]] ++ us2) (spl ks j 0 [m]) :=
    (((HVS1.out.below hb7).more hb7.size).deep (Nat.le_max_left _ _)).append (Vals.one (ht7.deep (Nat.le_max_right _ _))) |>.append (((HVS2.out.below hb7).more hb7.size).deep (Nat.le_max_left _ _))
  have hkids := row_kids (ks := spl ks j 0 [m]) (d := max d' dm) (us := us1 ++ [.agg #[.bool lf4, .slice PA4 np4 pc4, .slice TA4 nt4 tc4, .slice KA4 nk4 kc4]] ++ us2) (by rw [flatV_append, flatV_append]; exact hown7) hvs
  have hkk := HKK.out
  have hlfx := HLFX.out
  have hsl : (spl ks j 0 [m]).length = j + 1 + (kx - j) := by
    have h9 := spl_len (ks := ks) (i := j) (many := 0) (o := [m]) (by omega)
    simp at h9; omega
  have hy7 : NodeAt (max d' dm + 1) w7 w7.heap.size (.agg #[.bool false, .slice PA2 ps.length pc2, .slice TA2 tx.length tc2, .slice A6 (j + 1 + (kx - j)) c6]) (splT (.mk lfx ps tx ks) j 0 [m]) := by
    rw [hlfx]; exact node_row ((HPS.out.below hb7).more hb7.size) (HTX.out.later hb7) HFT.out hsl (by omega) (own_cap hown7) hkids
  obtain ⟨dn, hn7⟩ := HA2.out.tl.hd
  have HPU := hd (rput_any (upP p) dn (max d' dm + 1) w7 _ _ n _ Au lu cu HUL.out (by omega) hcu (hn7.later hb7) hy7 ((HI2.out.hd).later hb7))
  rw [HPUT.out] at HPU
  have HB7 := hd (HB2.out.trans (hb7.mono HB2.out.size))
  have hz27 := hb7.size
  have hz12 := HB2.out.size
  clear hkk hlfx hbox7 hown7 hk7 ht7 hvs hkids hsl hy7 hn7 hb7
  go_wp2_with (first
    | (go_at_call 15; refine Calls.mono HPU.out ?_; intro e w8 h8; obtain ⟨v8, d8, rfl, ht8, hb8⟩ := h8; obtain ⟨lf8, PA8, np8, pc8, TA8, nt8, tc8, KA8, nk8, kc8, rfl⟩ := (ht8.at_ (B := w8.heap.size) (fun b hb => hb.2)).val; have HT8 := hd ht8; have HB8 := hd hb8; have hr8 := keepBlk HR7.out hb8; obtain ⟨r0, r1, r2, r3, r4, r5, r6, r7⟩ := blkCells hr8; have HR8 := hd hr8; have hz8 := hb8.size; clear ht8 hb8 hr8 n0 n1 n2 n3 a0 a1 a2 a3))
  have h7 := set4_block (a := .bool lf8) (b := .slice PA8 np8 pc8) (c := .slice TA8 nt8 tc8) (d := .slice KA8 nk8 kc8) HR8.out
  obtain ⟨t0, t1, t2, t3, -⟩ := blkCells h7
  exact bodyPost_ret (v := .tuple #[.agg #[.bool lf8, .slice PA8 np8 pc8, .slice TA8 nt8 tc8, .slice KA8 nk8 kc8], .int .i64 0]) (by simp [results, Try.results17, go_sem, t0, t1, t2, t3]) rfl (newN_ret rfl (HT8.out.block_keep (fun b h1 h2 => by rw [set4_size]; omega) (fun b h1 h2 => set4_other (by omega))) (Below.set4 (HB7.out.trans (HB8.out.mono (by omega))) (by omega)))

end Go.Proofs.Ytggapngibkeodaa
