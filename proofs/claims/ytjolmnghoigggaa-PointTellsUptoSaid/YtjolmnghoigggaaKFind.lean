/- First, Last, Ahead, Behind: the points that they tell. -/
import Derived.Test.YtjolmnghoigggaaKTold
namespace Go.Proofs.Ytjolmnghoigggaa
open Go.RowKit

set_option maxHeartbeats 2000000 in
theorem plast_any (d : Nat) (w : World) (v : Value) (n : NT)  (hM : sizeT n ≤ 1048576) (hn : NodeAt d w w.heap.size v n) :
    Calls Try.prog 22 #[v] w (Tells w (LastIs n allB) (offT n)) := by
  obtain ⟨lf, PA, np, pc, TA, nt, tc, KA, nk, kc, rfl⟩ := hn.val
  obtain ⟨W0, hW⟩ : ∃ W0, W0 = (w.alloc (.cells #[.bool lf, .slice PA np pc, .slice TA nt tc, .slice KA nk kc] 26)).alloc (.cells #[.slice none 0 0, .int .i64 0] 29) := ⟨_, rfl⟩
  have hb0 : Below w.heap.size w W0 := hW ▸ below_mono2 (Below.refl _ _) (Nat.le_refl _)
  have e0 := pt_new w (Obj.cells #[Value.bool lf, .slice PA np pc, .slice TA nt tc, .slice KA nk kc] 26) (Obj.cells #[Value.slice none 0 0, Value.int .i64 0] 29)
  rw [← hW] at e0
  have HC := hd ((both_any d).2 W0 _ n hM  (hn.later hb0) )
  have HW := hd hW
  have HB0 := hd hb0
  have HX := hd e0.1
  have HY := hd e0.2
  have HM := hd hM
  obtain ⟨x0, x1, x2, x3, _, _, _, _⟩ := blkCells HX.out
  clear hn hW hb0 e0 hM
  go_enter Try.func22, Try.ntmps22
  go_wp2_with (first
    | (go_at_call 44; rw [← HW.out]; refine HC.out.mono ?_; intro e w1 h1; obtain ⟨r, A1, k1, c1, o1, hP, rfl, hb, hq⟩ := h1; have HP := hd hP; have HB1 := hd hb; have HQ := hd hq; have HY1 := hd (keepBlk HY.out hb); clear hP hb hq x0 x1 x2 x3)
    | (go_at_call 43; refine (told_any (LastIs.short HP.out HM.out) HB1.out HQ.out).mono ?_; intro e w2 h2; obtain ⟨A2, n2, c2, hn2, rfl, ho2, hb2⟩ := h2; have HY2 := hd ((hb2.block (w.heap.size + 1) (lt_of_block HY.out)).trans HY1.out); have HO2 := hd ho2; have HB2 := hd hb2; have HN2 := hd hn2; clear ho2 hb2 hn2; obtain ⟨y0, y1, g0, g1⟩ := blk2 HY2.out))
  have hY3 := blk2_both HY2.out (.slice A2 n2 c2) (.int .i64 (pO (offT n) r).2)
  obtain ⟨z0, z1, _, _⟩ := blk2 hY3
  have ho := (HO2.out.pt (x := .slice A2 n2 c2) (y := .int .i64 (pO (offT n) r).2) HY2.out).2
  clear y0 y1 g0 g1
  refine bodyPost_ret (v := .tuple #[.agg #[.slice A2 n2 c2, .int .i64 (pO (offT n) r).2], .int .i64 (eO r)]) (by simp [results, Try.results22, go_sem, z0, z1]) rfl ⟨r, HP.out, A2, n2, c2, HN2.out, rfl, ho.weaken HB0.out.size, ?_⟩
  exact ((HB0.out.trans ((HB1.out.trans HB2.out).mono HB0.out.size)).setCell (by show _ ≤ w.heap.size + 1; omega) _).setCell (by show _ ≤ w.heap.size + 1; omega) _
set_option maxRecDepth 4000 in
set_option maxHeartbeats 2000000 in
theorem pahead_any (d : Nat) (w : World) (v : Value) (n : NT) (A : Option Addr) (p : List Int) (lp c : Nat) (hlp : p.length = lp) (hl : lp ≤ 1000000) (hc : lp ≤ c) (hM : sizeT n ≤ 1048576) (hn : NodeAt d w w.heap.size v n) (hp : IL w w.heap.size A p) :
    Calls Try.prog 25 #[v, .slice A lp c] w (Tells w (LastIs n (aheadB p)) (offT n)) := by
  obtain ⟨lf, PA, np, pc, TA, nt, tc, KA, nk, kc, rfl⟩ := hn.val
  obtain ⟨W0, hW⟩ : ∃ W0, W0 = (w.alloc (.cells #[.bool lf, .slice PA np pc, .slice TA nt tc, .slice KA nk kc] 26)).alloc (.cells #[.slice none 0 0, .int .i64 0] 29) := ⟨_, rfl⟩
  have hb0 : Below w.heap.size w W0 := hW ▸ below_mono2 (Below.refl _ _) (Nat.le_refl _)
  have e0 := pt_new w (Obj.cells #[Value.bool lf, .slice PA np pc, .slice TA nt tc, .slice KA nk kc] 26) (Obj.cells #[Value.slice none 0 0, Value.int .i64 0] 29)
  rw [← hW] at e0
  have HC := hd ((both_any d).1 W0 _ n A p lp c hM hlp hl hc (hn.later hb0) (hp.later hb0))
  have HW := hd hW
  have HB0 := hd hb0
  have HX := hd e0.1
  have HY := hd e0.2
  have HM := hd hM
  obtain ⟨x0, x1, x2, x3, _, _, _, _⟩ := blkCells HX.out
  clear hn hW hb0 e0 hM
  go_enter Try.func25, Try.ntmps25
  go_wp2_with (first
    | (go_at_call 47; rw [← HW.out]; refine HC.out.mono ?_; intro e w1 h1; obtain ⟨r, A1, k1, c1, o1, hP, rfl, hb, hq⟩ := h1; have HP := hd hP; have HB1 := hd hb; have HQ := hd hq; have HY1 := hd (keepBlk HY.out hb); clear hP hb hq x0 x1 x2 x3)
    | (go_at_call 43; refine (told_any (LastIs.short HP.out HM.out) HB1.out HQ.out).mono ?_; intro e w2 h2; obtain ⟨A2, n2, c2, hn2, rfl, ho2, hb2⟩ := h2; have HY2 := hd ((hb2.block (w.heap.size + 1) (lt_of_block HY.out)).trans HY1.out); have HO2 := hd ho2; have HB2 := hd hb2; have HN2 := hd hn2; clear ho2 hb2 hn2; obtain ⟨y0, y1, g0, g1⟩ := blk2 HY2.out))
  have hY3 := blk2_both HY2.out (.slice A2 n2 c2) (.int .i64 (pO (offT n) r).2)
  obtain ⟨z0, z1, _, _⟩ := blk2 hY3
  have ho := (HO2.out.pt (x := .slice A2 n2 c2) (y := .int .i64 (pO (offT n) r).2) HY2.out).2
  clear y0 y1 g0 g1
  refine bodyPost_ret (v := .tuple #[.agg #[.slice A2 n2 c2, .int .i64 (pO (offT n) r).2], .int .i64 (eO r)]) (by simp [results, Try.results25, go_sem, z0, z1]) rfl ⟨r, HP.out, A2, n2, c2, HN2.out, rfl, ho.weaken HB0.out.size, ?_⟩
  exact ((HB0.out.trans ((HB1.out.trans HB2.out).mono HB0.out.size)).setCell (by show _ ≤ w.heap.size + 1; omega) _).setCell (by show _ ≤ w.heap.size + 1; omega) _
set_option maxRecDepth 4000 in
set_option maxHeartbeats 2000000 in
theorem pbehind_any (d : Nat) (w : World) (v : Value) (n : NT) (A : Option Addr) (p : List Int) (lp c : Nat) (hlp : p.length = lp) (hl : lp ≤ 1000000) (hc : lp ≤ c) (hM : sizeT n ≤ 1048576) (hn : NodeAt d w w.heap.size v n) (hp : IL w w.heap.size A p) :
    Calls Try.prog 27 #[v, .slice A lp c] w (Tells w (FirstIs n (fromB p)) (fun _ => 0)) := by
  obtain ⟨lf, PA, np, pc, TA, nt, tc, KA, nk, kc, rfl⟩ := hn.val
  obtain ⟨W0, hW⟩ : ∃ W0, W0 = (w.alloc (.cells #[.bool lf, .slice PA np pc, .slice TA nt tc, .slice KA nk kc] 26)).alloc (.cells #[.slice none 0 0, .int .i64 0] 29) := ⟨_, rfl⟩
  have hb0 : Below w.heap.size w W0 := hW ▸ below_mono2 (Below.refl _ _) (Nat.le_refl _)
  have e0 := pt_new w (Obj.cells #[Value.bool lf, .slice PA np pc, .slice TA nt tc, .slice KA nk kc] 26) (Obj.cells #[Value.slice none 0 0, Value.int .i64 0] 29)
  rw [← hW] at e0
  have HC := hd (first_any d W0 _ n A p lp c hM hlp hl hc (hn.later hb0) (hp.later hb0))
  have HW := hd hW
  have HB0 := hd hb0
  have HX := hd e0.1
  have HY := hd e0.2
  have HM := hd hM
  obtain ⟨x0, x1, x2, x3, _, _, _, _⟩ := blkCells HX.out
  clear hn hW hb0 e0 hM
  go_enter Try.func27, Try.ntmps27
  go_wp2_with (first
    | (go_at_call 50; rw [← HW.out]; refine HC.out.mono ?_; intro e w1 h1; obtain ⟨r, A1, k1, c1, o1, hP, rfl, hb, hq⟩ := h1; have HP := hd hP; have HB1 := hd hb; have HQ := hd hq; have HY1 := hd (keepBlk HY.out hb); clear hP hb hq x0 x1 x2 x3)
    | (go_at_call 43; refine (told_any (FirstIs.short HP.out HM.out) HB1.out HQ.out).mono ?_; intro e w2 h2; obtain ⟨A2, n2, c2, hn2, rfl, ho2, hb2⟩ := h2; have HY2 := hd ((hb2.block (w.heap.size + 1) (lt_of_block HY.out)).trans HY1.out); have HO2 := hd ho2; have HB2 := hd hb2; have HN2 := hd hn2; clear ho2 hb2 hn2; obtain ⟨y0, y1, g0, g1⟩ := blk2 HY2.out))
  have hY3 := blk2_both HY2.out (.slice A2 n2 c2) (.int .i64 (pO (fun _ => 0) r).2)
  obtain ⟨z0, z1, _, _⟩ := blk2 hY3
  have ho := (HO2.out.pt (x := .slice A2 n2 c2) (y := .int .i64 (pO (fun _ => 0) r).2) HY2.out).2
  clear y0 y1 g0 g1
  refine bodyPost_ret (v := .tuple #[.agg #[.slice A2 n2 c2, .int .i64 (pO (fun _ => 0) r).2], .int .i64 (eO r)]) (by simp [results, Try.results27, go_sem, z0, z1]) rfl ⟨r, HP.out, A2, n2, c2, HN2.out, rfl, ho.weaken HB0.out.size, ?_⟩
  exact ((HB0.out.trans ((HB1.out.trans HB2.out).mono HB0.out.size)).setCell (by show _ ≤ w.heap.size + 1; omega) _).setCell (by show _ ≤ w.heap.size + 1; omega) _

set_option maxRecDepth 4000 in
set_option maxHeartbeats 2000000 in
theorem pfirst_any (d : Nat) (w : World) (v : Value) (n : NT) (hM : sizeT n ≤ 1048576) (hn : NodeAt d w w.heap.size v n) :
    Calls Try.prog 20 #[v] w (Tells w (FirstIs n (fromB [])) (fun _ => 0)) := by
  obtain ⟨lf, PA, np, pc, TA, nt, tc, KA, nk, kc, rfl⟩ := hn.val
  obtain ⟨W0, hW⟩ : ∃ W0, W0 = (w.alloc (.cells #[.bool lf, .slice PA np pc, .slice TA nt tc, .slice KA nk kc] 26)).alloc (.cells #[.slice none 0 0, .int .i64 0] 29) := ⟨_, rfl⟩
  have hb0 : Below w.heap.size w W0 := hW ▸ below_mono2 (Below.refl _ _) (Nat.le_refl _)
  have e0 := pt_new w (Obj.cells #[Value.bool lf, .slice PA np pc, .slice TA nt tc, .slice KA nk kc] 26) (Obj.cells #[Value.slice none 0 0, Value.int .i64 0] 29)
  rw [← hW] at e0
  have HC := hd (pbehind_any d W0 _ n none [] 0 0 rfl (by omega) (by omega) hM (hn.later hb0) (IL.nil _ _ _))
  have HW := hd hW
  have HB0 := hd hb0
  have HX := hd e0.1
  have HY := hd e0.2
  obtain ⟨x0, x1, x2, x3, _, _, _, _⟩ := blkCells HX.out
  clear hn hW hb0 e0 hM
  go_enter Try.func20, Try.ntmps20
  go_wp2_with (go_at_call 27; rw [← HW.out]; refine HC.out.mono ?_; intro e w2 h2; obtain ⟨r, hP, A2, n2, c2, hn2, rfl, ho2, hb2⟩ := h2; have HP := hd hP; have HY2 := hd (keepBlk HY.out hb2); have HO2 := hd ho2; have HB2 := hd hb2; have HN2 := hd hn2; clear hP ho2 hb2 hn2 x0 x1 x2 x3; obtain ⟨y0, y1, g0, g1⟩ := blk2 HY2.out)
  have hY3 := blk2_both HY2.out (.slice A2 n2 c2) (.int .i64 (pO (fun _ => 0) r).2)
  obtain ⟨z0, z1, _, _⟩ := blk2 hY3
  have ho := (HO2.out.pt (x := .slice A2 n2 c2) (y := .int .i64 (pO (fun _ => 0) r).2) HY2.out).2
  clear y0 y1 g0 g1
  refine bodyPost_ret (v := .tuple #[.agg #[.slice A2 n2 c2, .int .i64 (pO (fun _ => 0) r).2], .int .i64 (eO r)]) (by simp [results, Try.results20, go_sem, z0, z1]) rfl ⟨r, HP.out, A2, n2, c2, HN2.out, rfl, ho.weaken HB0.out.size, ?_⟩
  exact ((HB0.out.trans (HB2.out.mono HB0.out.size)).setCell (by show _ ≤ w.heap.size + 1; omega) _).setCell (by show _ ≤ w.heap.size + 1; omega) _

end Go.Proofs.Ytjolmnghoigggaa
