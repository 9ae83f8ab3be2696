/- PointChecks answers true. -/
import Derived.Test.YtjolmnghoigggaaKSel
import Derived.BigQuiet
namespace Go.Proofs.Ytjolmnghoigggaa
open Go.RowKit

theorem four_new (w : World) (o o' o2 o3 : Obj) : ((((w.alloc o).alloc o').alloc o2).alloc o3).heap[w.heap.size]? = some o ∧ ((((w.alloc o).alloc o').alloc o2).alloc o3).heap[w.heap.size + 1]? = some o' ∧ ((((w.alloc o).alloc o').alloc o2).alloc o3).heap[w.heap.size + 1 + 1]? = some o2 ∧ ((((w.alloc o).alloc o').alloc o2).alloc o3).heap[w.heap.size + 1 + 1 + 1]? = some o3 := by
  have h := three_new w o o' o2
  refine ⟨?_, ?_, ?_, ?_⟩
  · rw [Below.heap_alloc _ _ _ (by rw [sz1, sz1, sz1]; omega)]; exact h.1
  · rw [Below.heap_alloc _ _ _ (by rw [sz1, sz1, sz1]; omega)]; exact h.2.1
  · rw [Below.heap_alloc _ _ _ (by simp)]; exact h.2.2
  · rw [show w.heap.size + 1 + 1 + 1 = (((w.alloc o).alloc o').alloc o2).heap.size by simp]; exact heap_alloc_new _ _


set_option maxRecDepth 100000 in
set_option maxHeartbeats 8000000 in
theorem pchecks_law (w : World) (v : Value) (n : NT) (hN : ∃ d, NodeAt d w w.heap.size v n) (A : Option Addr) (p : List Int × Int) (ca : Nat) (sb : Bool) (B C : Option Addr) (x y : List Int × Int) (cb cc : Nat) (tb : Bool) (D E : Option Addr) (z u : List Int × Int) (cd ce : Nat)
    (la : p.1.length ≤ 9223372036854775807) (lb : x.1.length ≤ 9223372036854775807) (lc : y.1.length ≤ 9223372036854775807) (ld : z.1.length ≤ 9223372036854775807) (le : u.1.length ≤ 9223372036854775807)
    (ha : p.1.length ≤ ca) (hb : x.1.length ≤ cb) (hc : y.1.length ≤ cc) (hd' : z.1.length ≤ cd) (he : u.1.length ≤ ce) (iA : IL w w.heap.size A p.1) (iB : IL w w.heap.size B x.1) (iC : IL w w.heap.size C y.1) (iD : IL w w.heap.size D z.1) (iE : IL w w.heap.size E u.1) :
    Calls Try.prog 3 #[v, .agg #[.slice A p.1.length ca, .int .i64 p.2], .agg #[.bool sb, .slice B x.1.length cb, .int .i64 x.2, .slice C y.1.length cc, .int .i64 y.2], .agg #[.bool tb, .slice D z.1.length cd, .int .i64 z.2, .slice E u.1.length ce, .int .i64 u.2]] w (AllTrue w) := by
  obtain ⟨d, hn⟩ := hN
  obtain ⟨lf, PA, np, pc, TA, nt, tc, KA, nk, kc, rfl⟩ := hn.val
  obtain ⟨W0, hW⟩ : ∃ W0, (((w.alloc (.cells #[.bool lf, .slice PA np pc, .slice TA nt tc, .slice KA nk kc] 26)).alloc (.cells #[.slice A p.1.length ca, .int .i64 p.2] 29)).alloc (.cells #[.bool sb, .slice B x.1.length cb, .int .i64 x.2, .slice C y.1.length cc, .int .i64 y.2] 33)).alloc (.cells #[.bool tb, .slice D z.1.length cd, .int .i64 z.2, .slice E u.1.length ce, .int .i64 u.2] 33) = W0 := ⟨_, rfl⟩
  have hb0 : Below w.heap.size w W0 := hW ▸ below_mono2 (below_mono2 (Below.refl _ _) (Nat.le_refl _)) (by simp; omega)
  have e0 := four_new w (Obj.cells #[Value.bool lf, .slice PA np pc, .slice TA nt tc, .slice KA nk kc] 26) (Obj.cells #[Value.slice A p.1.length ca, .int .i64 p.2] 29) (Obj.cells #[Value.bool sb, .slice B x.1.length cb, .int .i64 x.2, .slice C y.1.length cc, .int .i64 y.2] 33) (Obj.cells #[Value.bool tb, .slice D z.1.length cd, .int .i64 z.2, .slice E u.1.length ce, .int .i64 u.2] 33)
  rw [hW] at e0
  have HK := hd (show ∀ W, Below W0.heap.size W0 W → (W.cell? ⟨w.heap.size, 0, none⟩ = some (.bool lf) ∧ W.cell? ⟨w.heap.size, 1, none⟩ = some (.slice PA np pc) ∧ W.cell? ⟨w.heap.size, 2, none⟩ = some (.slice TA nt tc) ∧ W.cell? ⟨w.heap.size, 3, none⟩ = some (.slice KA nk kc) ∧ W.cell? ⟨w.heap.size + 1, 0, none⟩ = some (.slice A p.1.length ca) ∧ W.cell? ⟨w.heap.size + 1, 1, none⟩ = some (.int .i64 p.2) ∧
      W.cell? ⟨w.heap.size + 1 + 1, 0, none⟩ = some (.bool sb) ∧ W.cell? ⟨w.heap.size + 1 + 1, 1, none⟩ = some (.slice B x.1.length cb) ∧ W.cell? ⟨w.heap.size + 1 + 1, 2, none⟩ = some (.int .i64 x.2) ∧ W.cell? ⟨w.heap.size + 1 + 1, 3, none⟩ = some (.slice C y.1.length cc) ∧ W.cell? ⟨w.heap.size + 1 + 1, 4, none⟩ = some (.int .i64 y.2) ∧
      W.cell? ⟨w.heap.size + 1 + 1 + 1, 0, none⟩ = some (.bool tb) ∧ W.cell? ⟨w.heap.size + 1 + 1 + 1, 1, none⟩ = some (.slice D z.1.length cd) ∧ W.cell? ⟨w.heap.size + 1 + 1 + 1, 2, none⟩ = some (.int .i64 z.2) ∧ W.cell? ⟨w.heap.size + 1 + 1 + 1, 3, none⟩ = some (.slice E u.1.length ce) ∧ W.cell? ⟨w.heap.size + 1 + 1 + 1, 4, none⟩ = some (.int .i64 u.2)) from fun W h => by
    have h1 := blkCells (keepBlk e0.1 h)
    have h2 := blk2 (keepBlk e0.2.1 h)
    obtain ⟨g0, g1, g2, g3, g4⟩ := blk5 (keepBlk e0.2.2.1 h)
    obtain ⟨k0, k1, k2, k3, k4⟩ := blk5 (keepBlk e0.2.2.2 h)
    exact ⟨h1.1, h1.2.1, h1.2.2.1, h1.2.2.2.1, h2.1, h2.2.1, g0, g1, g2, g3, g4, k0, k1, k2, k3, k4⟩)
  obtain ⟨n0, n1, n2, n3, p0, p1, s0, s1, s2, s3, s4, t0, t1, t2, t3, t4⟩ := HK.out _ (Below.refl _ _)
  have HW := hd hW
  have HB0 := hd hb0
  have HLV := hd (live7_any W0)
  obtain ⟨F, hF⟩ : ∃ F, fewB 150 n = F := ⟨_, rfl⟩
  have HFW := hd (fun (W : World) (h : Below W0.heap.size W0 W) => hF ▸ few_any d W _ n 150 (by unfold In64; omega) ((hn.later hb0).later h))
  obtain ⟨S, hS⟩ : ∃ S, S = shortB [(A, p.1.length, ca, p.2), (B, x.1.length, cb, x.2), (C, y.1.length, cc, y.2), (D, z.1.length, cd, z.2), (E, u.1.length, ce, u.2)] := ⟨_, rfl⟩
  have HSH := hd (fun (W : World) => hS ▸ short_any W.heap.size [(A, p.1.length, ca, p.2), (B, x.1.length, cb, x.2), (C, y.1.length, cc, y.2), (D, z.1.length, cd, z.2), (E, u.1.length, ce, u.2)] 5 (W.alloc (.cells #[.slice A p.1.length ca, .int .i64 p.2, .slice B x.1.length cb, .int .i64 x.2, .slice C y.1.length cc, .int .i64 y.2, .slice D z.1.length cd, .int .i64 z.2, .slice E u.1.length ce, .int .i64 u.2] 29)) rfl (by omega) (by simp) (row_any (w := W) [(A, p.1.length, ca, p.2), (B, x.1.length, cb, x.2), (C, y.1.length, cc, y.2), (D, z.1.length, cd, z.2), (E, u.1.length, ce, u.2)] _) (fun q hq => by simp at hq; rcases hq with rfl | rfl | rfl | rfl | rfl <;> assumption))
  have HSS := hd hS
  have HN := hd (hn.later hb0)
  have hI := hd (And.intro iA (And.intro iB (And.intro iC (And.intro iD iE))))
  have hL := hd (And.intro ha (And.intro hb (And.intro hc (And.intro hd' he))))
  clear hW hb0 e0 hn hF hS iA iB iC iD iE ha hb hc hd' he
  cases F with
  | false =>
    go_enter Try.func3, Try.ntmps3
    go_wp2_with (first
      | (go_at_call 11; refine (HSH.out _).mono ?_; rintro e w3 ⟨rfl, b3⟩; have HB3 := hd (HB2.out.trans ((ex_below b3).mono HB2.out.size)); clear b3)
      | (go_at_call 10; refine Calls.mono (HFW.out _ HB1.out) ?_; rintro e w2 ⟨rfl, b2⟩; have HB2 := hd (HB1.out.trans (b2.mono HB1.out.size)); clear b2 n0 n1 n2 n3 p0 p1 s0 s1 s2 s3 s4 t0 t1 t2 t3 t4; obtain ⟨n0, n1, n2, n3, p0, p1, s0, s1, s2, s3, s4, t0, t1, t2, t3, t4⟩ := HK.out _ HB2.out)
      | (go_at_call 9; rw [HW.out]; refine HLV.out.mono ?_; rintro e w1 ⟨rfl, b1⟩; have HB1 := hd b1; clear b1 n0 n1 n2 n3 p0 p1 s0 s1 s2 s3 s4 t0 t1 t2 t3 t4; obtain ⟨n0, n1, n2, n3, p0, p1, s0, s1, s2, s3, s4, t0, t1, t2, t3, t4⟩ := HK.out _ HB1.out))
    exact bodyPost_ret (v := .bool true) (by simp [results, Try.results3, go_sem]) rfl ⟨rfl, HB0.out.trans (HB2.out.mono HB0.out.size)⟩
  | true =>
    cases S with
    | false =>
      go_enter Try.func3, Try.ntmps3
      go_wp2_with (first
        | (go_at_call 11; refine (HSH.out _).mono ?_; rintro e w3 ⟨rfl, b3⟩; have HB3 := hd (HB2.out.trans ((ex_below b3).mono HB2.out.size)); clear b3)
        | (go_at_call 10; refine Calls.mono (HFW.out _ HB1.out) ?_; rintro e w2 ⟨rfl, b2⟩; have HB2 := hd (HB1.out.trans (b2.mono HB1.out.size)); clear b2 n0 n1 n2 n3 p0 p1 s0 s1 s2 s3 s4 t0 t1 t2 t3 t4; obtain ⟨n0, n1, n2, n3, p0, p1, s0, s1, s2, s3, s4, t0, t1, t2, t3, t4⟩ := HK.out _ HB2.out)
        | (go_at_call 9; rw [HW.out]; refine HLV.out.mono ?_; rintro e w1 ⟨rfl, b1⟩; have HB1 := hd b1; clear b1 n0 n1 n2 n3 p0 p1 s0 s1 s2 s3 s4 t0 t1 t2 t3 t4; obtain ⟨n0, n1, n2, n3, p0, p1, s0, s1, s2, s3, s4, t0, t1, t2, t3, t4⟩ := HK.out _ HB1.out))
      exact bodyPost_ret (v := .bool true) (by simp [results, Try.results3, go_sem]) rfl ⟨rfl, HB0.out.trans (HB3.out.mono HB0.out.size)⟩
    | true =>
      have hs : p.1.length ≤ 50 ∧ x.1.length ≤ 50 ∧ y.1.length ≤ 50 ∧ z.1.length ≤ 50 ∧ u.1.length ≤ 50 := by have := HSS.out.symm; unfold shortB at this; simpa using this
      have HP0 := hd (show PtAt W0 (.agg #[.slice A p.1.length ca, .int .i64 p.2]) p from ⟨A, _, ca, rfl, rfl, by omega, hL.out.1, hI.out.1.later HB0.out⟩)
      have HPX := hd (show PtAt W0 (.agg #[.slice B x.1.length cb, .int .i64 x.2]) x from ⟨B, _, cb, rfl, rfl, by omega, hL.out.2.1, hI.out.2.1.later HB0.out⟩)
      have HPY := hd (show PtAt W0 (.agg #[.slice C y.1.length cc, .int .i64 y.2]) y from ⟨C, _, cc, rfl, rfl, by omega, hL.out.2.2.1, hI.out.2.2.1.later HB0.out⟩)
      have HPZ := hd (show PtAt W0 (.agg #[.slice D z.1.length cd, .int .i64 z.2]) z from ⟨D, _, cd, rfl, rfl, by omega, hL.out.2.2.2.1, hI.out.2.2.2.1.later HB0.out⟩)
      have HPU := hd (show PtAt W0 (.agg #[.slice E u.1.length ce, .int .i64 u.2]) u from ⟨E, _, ce, rfl, rfl, by omega, hL.out.2.2.2.2, hI.out.2.2.2.2.later HB0.out⟩)
      clear hs HSS hI hL
      go_enter Try.func3, Try.ntmps3
      go_upto_region 5 with (first
        | (go_at_call 11; refine (HSH.out _).mono ?_; rintro e w3 ⟨rfl, b3⟩; have HB3 := hd (HB2.out.trans ((ex_below b3).mono HB2.out.size)); clear b3)
        | (go_at_call 10; refine Calls.mono (HFW.out _ HB1.out) ?_; rintro e w2 ⟨rfl, b2⟩; have HB2 := hd (HB1.out.trans (b2.mono HB1.out.size)); clear b2 n0 n1 n2 n3 p0 p1 s0 s1 s2 s3 s4 t0 t1 t2 t3 t4; obtain ⟨n0, n1, n2, n3, p0, p1, s0, s1, s2, s3, s4, t0, t1, t2, t3, t4⟩ := HK.out _ HB2.out)
        | (go_at_call 9; rw [HW.out]; refine HLV.out.mono ?_; rintro e w1 ⟨rfl, b1⟩; have HB1 := hd b1; clear b1 n0 n1 n2 n3 p0 p1 s0 s1 s2 s3 s4 t0 t1 t2 t3 t4; obtain ⟨n0, n1, n2, n3, p0, p1, s0, s1, s2, s3, s4, t0, t1, t2, t3, t4⟩ := HK.out _ HB1.out))
      obtain ⟨n0, n1, n2, n3, p0, p1, s0, s1, s2, s3, s4, t0, t1, t2, t3, t4⟩ := HK.out _ HB3.out
      have ln0 := later_cell n0
      have ln1 := later_cell n1
      have ln2 := later_cell n2
      have ln3 := later_cell n3
      have lp0 := later_cell p0
      have lp1 := later_cell p1
      have ls0 := later_cell s0
      have ls1 := later_cell s1
      have ls2 := later_cell s2
      have ls3 := later_cell s3
      have ls4 := later_cell s4
      have lt0 := later_cell t0
      have lt1 := later_cell t1
      have lt2 := later_cell t2
      have lt3 := later_cell t3
      have lt4 := later_cell t4
      have HQ := fun q : Later w3.heap.size w3 => hd (HB3.out.trans (q.2.mono HB3.out.size))
      have HC := hd (fun (W : World) (h : Below W0.heap.size W0 W) => samesel_any W ⟨sb, x, y⟩ ⟨tb, z, u⟩ B C D E _ _ _ _ cb cc cd ce (HPX.out.later h) (HPY.out.later h) (HPZ.out.later h) (HPU.out.later h))
      have HRC := hd (fun (W : World) (h : Below W0.heap.size W0 W) => rsamesel_any W ⟨sb, x, y⟩ ⟨tb, z, u⟩ B C D E _ _ _ _ cb cc cd ce (HPX.out.later h) (HPY.out.later h) (HPZ.out.later h) (HPU.out.later h))
      clear n0 n1 n2 n3 p0 p1 s0 s1 s2 s3 s4 t0 t1 t2 t3 t4
      refine wp_region_later w3.heap.size (by kernel_rfl) (by kernel_rfl) ?_
      repeat (go_big_quiet_step (first
        | (go_at_call 12; exact later_in (Nat.le_refl _) (check_at (HQ _).out HN.out HP0.out))
        | (go_at_call 13; exact later_in (Nat.le_refl _) (rcheck_at (HQ _).out HN.out HP0.out))
        | (go_at_call 14; exact later_in (Nat.le_refl _) (checksel_at (HQ _).out HN.out HPX.out HPY.out))
        | (go_at_call 15; exact later_in (Nat.le_refl _) (rchecksel_at (HQ _).out HN.out HPX.out HPY.out))
        | (go_at_call 16; exact later_in (Nat.le_refl _) (HC.out _ (HQ _).out))
        | (go_at_call 17; exact later_in (Nat.le_refl _) (HRC.out _ (HQ _).out))))
      refine wpQuiet_nil ?_
      intro _ hu
      obtain ⟨⟨w4, hw4⟩, rfl⟩ := hu
      have HB4 := hd (HB3.out.trans (hw4.mono HB3.out.size))
      clear ln0 ln1 ln2 ln3 lp0 lp1 ls0 ls1 ls2 ls3 ls4 lt0 lt1 lt2 lt3 lt4 HQ hw4
      go_wp2
      refine bodyPost_ret (v := .bool true) (by simp [results, Try.results3, go_sem]) rfl ⟨rfl, HB0.out.trans (HB4.out.mono HB0.out.size)⟩

end Go.Proofs.Ytjolmnghoigggaa
