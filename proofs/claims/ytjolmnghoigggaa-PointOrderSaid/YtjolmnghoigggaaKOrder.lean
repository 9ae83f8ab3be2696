/- PointOrder answers true. -/
import Derived.Test.YtjolmnghoigggaaKLaw
import Derived.BigQuiet
namespace Go.Proofs.Ytjolmnghoigggaa
open Go.RowKit



set_option maxRecDepth 100000 in
set_option maxHeartbeats 8000000 in
theorem porder_law (w : World) (A B C : Option Addr) (a b c : List Int × Int) (na nb nc ca cb cc : Nat) (hna : a.1.length = na) (hnb : b.1.length = nb) (hnc : c.1.length = nc) (hla : na ≤ 9223372036854775807) (hlb : nb ≤ 9223372036854775807) (hlc : nc ≤ 9223372036854775807) (hca : na ≤ ca) (hcb : nb ≤ cb) (hcc : nc ≤ cc)
    (hA : IL w w.heap.size A a.1) (hB : IL w w.heap.size B b.1) (hC : IL w w.heap.size C c.1) :
    Calls Try.prog 5 #[.agg #[.slice A na ca, .int .i64 a.2], .agg #[.slice B nb cb, .int .i64 b.2], .agg #[.slice C nc cc, .int .i64 c.2]] w (AllTrue w) := by
  obtain ⟨W0, hW, hb0, hz, hk⟩ := three_points (w := w) (.slice A na ca) (.int .i64 a.2) (.slice B nb cb) (.int .i64 b.2) (.slice C nc cc) (.int .i64 c.2) 29
  obtain ⟨S, hS⟩ : ∃ S, S = shortB [(A, na, ca, a.2), (B, nb, cb, b.2), (C, nc, cc, c.2)] := ⟨_, rfl⟩
  have HLV := hd (live7_any W0)
  have HSH := hd (fun (W : World) => hS ▸ short_any W.heap.size [(A, na, ca, a.2), (B, nb, cb, b.2), (C, nc, cc, c.2)] 3 (W.alloc (.cells #[.slice A na ca, .int .i64 a.2, .slice B nb cb, .int .i64 b.2, .slice C nc cc, .int .i64 c.2] 29)) rfl (by omega) (by simp) (row_three _ _ _ _ _ _ _ _ _ _ _ _ _) (fun q hq => by simp at hq; rcases hq with rfl | rfl | rfl <;> assumption))
  have HW := hd hW
  have HB0 := hd hb0
  have HK := hd hk
  obtain ⟨x0, x1, x2, x3, x4, x5⟩ := hk W0 (Below.refl _ _)
  have HA := hd hA
  have HBB := hd hB
  have HC := hd hC
  have HNA := hd hna
  have HNB := hd hnb
  have HNC := hd hnc
  have HSS := hd hS
  clear hW hb0 hz hk hA hB hC hna hnb hnc hS
  cases S with
  | false =>
    go_enter Try.func5, Try.ntmps5
    go_wp2_with (first
      | (go_at_call 11; refine (HSH.out _).mono ?_; rintro e w2 ⟨rfl, b2⟩)
      | (go_at_call 9; rw [HW.out]; refine HLV.out.mono ?_; rintro e w1 ⟨rfl, b1⟩; have HB1 := hd (HB0.out.trans (b1.mono HB0.out.size)); clear x0 x1 x2 x3 x4 x5; obtain ⟨x0, x1, x2, x3, x4, x5⟩ := HK.out _ b1; clear b1))
    exact bodyPost_ret (v := .bool true) (by simp [results, Try.results5, go_sem]) rfl ⟨rfl, HB1.out.trans ((ex_below b2).mono HB1.out.size)⟩
  | true =>
    have hs : na ≤ 50 ∧ nb ≤ 50 ∧ nc ≤ 50 := by have := HSS.out.symm; unfold shortB at this; simpa using this
    obtain ⟨h50a, h50b, h50c⟩ := hs
    clear HSS
    have hself := fun p => samP_self p
    have hba := cmpP_neg a b
    have hsab := samP_is a b
    have htr := cmpP_trans a b c
    obtain ⟨Y, hY⟩ : ∃ Y, Y = cmpP b c := ⟨_, rfl⟩
    obtain ⟨Z, hZ⟩ : ∃ Z, Z = cmpP a c := ⟨_, rfl⟩
    rw [← hY, ← hZ] at htr
    have hbc := hY.symm
    have hac := hZ.symm
    clear hY hZ
    rcases cmpP_three a b with hab | hab | hab
    all_goals
      rw [hab] at hba hsab htr
      have HTR := hd htr
      clear htr
    · have hba : cmpP b a = 1 := hba
      have hsab : samP a b = false := hsab
      have HOR := hd (fun (W : World) (h : Below w.heap.size w W) => (show Calls Try.prog 18 #[.agg #[.slice A na ca, .int .i64 a.2, .slice B nb cb, .int .i64 b.2]] W (NewTwo W a b false) from order_any A B a b na nb ca cb false W (by rw [hba]; rfl) HNA.out HNB.out (by omega) (by omega) (HA.out.later h) (HBB.out.later h)))
      go_enter Try.func5, Try.ntmps5
      go_upto_region 6 with (first
        | (go_at_call 18; refine (HOR.out _ HB2.out).mono ?_; rintro e w3 ⟨u1, u2, rfl, ⟨A1, c1, rfl, ho1⟩, ⟨A2, c2, rfl, ho2⟩, b3⟩; have HO1 := hd ho1; have HO2 := hd ho2; have HB3 := hd (HB2.out.trans (b3.mono HB2.out.size)); have HS3 := hd b3; clear ho1 ho2 b3)
        | (go_at_call 11; refine (HSH.out _).mono ?_; rintro e w2 ⟨rfl, b2⟩; have HB2 := hd (HB1.out.trans ((ex_below b2).mono HB1.out.size)); have HS2 := hd (HS1.out.trans ((ex_below b2).mono HS1.out.size)); clear b2 x0 x1 x2 x3 x4 x5; obtain ⟨x0, x1, x2, x3, x4, x5⟩ := HK.out _ HS2.out)
        | (go_at_call 9; rw [HW.out]; refine HLV.out.mono ?_; rintro e w1 ⟨rfl, b1⟩; have HB1 := hd (HB0.out.trans (b1.mono HB0.out.size)); have HS1 := hd b1; clear x0 x1 x2 x3 x4 x5; obtain ⟨x0, x1, x2, x3, x4, x5⟩ := HK.out _ b1; clear b1))
      have HPS := hd (PtAt.of_new HO1.out (by first | (rw [HNA.out]; omega) | (rw [HNB.out]; omega)) |>.later (below_mono2 (Below.refl _ _) (Nat.le_refl _) (o := .cells #[.slice A1 a.1.length c1, .int .i64 a.2] 29) (o' := .cells #[.slice A2 b.1.length c2, .int .i64 b.2] 29)))
      have HPT := hd (PtAt.of_new HO2.out (by first | (rw [HNA.out]; omega) | (rw [HNB.out]; omega)) |>.later (below_mono2 (Below.refl _ _) (Nat.le_refl _) (o := .cells #[.slice A1 a.1.length c1, .int .i64 a.2] 29) (o' := .cells #[.slice A2 b.1.length c2, .int .i64 b.2] 29)))
      obtain ⟨W4, hW4⟩ : ∃ W4, W4 = (w3.alloc (.cells #[.slice A1 a.1.length c1, .int .i64 a.2] 29)).alloc (.cells #[.slice A2 b.1.length c2, .int .i64 b.2] 29) := ⟨_, rfl⟩
      rw [← hW4] at HPS HPT ⊢
      have e4 := pt_new w3 (Obj.cells #[Value.slice A1 a.1.length c1, .int .i64 a.2] 29) (Obj.cells #[Value.slice A2 b.1.length c2, .int .i64 b.2] 29)
      rw [← hW4] at e4
      have hb4 : Below w3.heap.size w3 W4 := hW4 ▸ below_mono2 (Below.refl _ _) (Nat.le_refl _)
      have hs4 : Below W0.heap.size W0 W4 := (HS2.out.trans (HS3.out.mono HS2.out.size)).trans (hb4.mono (HS2.out.trans (HS3.out.mono HS2.out.size)).size)
      have HMK := hd (show ∀ W, Below W4.heap.size W4 W → (W.cell? ⟨w.heap.size, 0, none⟩ = some (.slice A na ca) ∧ W.cell? ⟨w.heap.size, 1, none⟩ = some (.int .i64 a.2) ∧ W.cell? ⟨w.heap.size + 1, 0, none⟩ = some (.slice B nb cb) ∧ W.cell? ⟨w.heap.size + 1, 1, none⟩ = some (.int .i64 b.2) ∧ W.cell? ⟨w.heap.size + 1 + 1, 0, none⟩ = some (.slice C nc cc) ∧ W.cell? ⟨w.heap.size + 1 + 1, 1, none⟩ = some (.int .i64 c.2) ∧
          W.cell? ⟨w3.heap.size, 0, none⟩ = some (.slice A1 a.1.length c1) ∧ W.cell? ⟨w3.heap.size, 1, none⟩ = some (.int .i64 a.2) ∧ W.cell? ⟨w3.heap.size + 1, 0, none⟩ = some (.slice A2 b.1.length c2) ∧ W.cell? ⟨w3.heap.size + 1, 1, none⟩ = some (.int .i64 b.2)) from fun W h => by
        obtain ⟨h0, h1, h2, h3, h4, h5⟩ := HK.out W (hs4.trans (h.mono hs4.size))
        have h6 := blk2 (keepBlk e4.1 h)
        have h7 := blk2 (keepBlk e4.2 h)
        exact ⟨h0, h1, h2, h3, h4, h5, h6.1, h6.2.1, h7.1, h7.2.1⟩)
      have hB9 := HB3.out.trans (hb4.mono HB3.out.size)
      have HB9 := hd hB9
      have HPA := hd (show PtAt W4 (.agg #[.slice A na ca, .int .i64 a.2]) a from ⟨A, na, ca, rfl, HNA.out, by omega, hca, HA.out.later hB9⟩)
      have HPB := hd (show PtAt W4 (.agg #[.slice B nb cb, .int .i64 b.2]) b from ⟨B, nb, cb, rfl, HNB.out, by omega, hcb, HBB.out.later hB9⟩)
      have HPC := hd (show PtAt W4 (.agg #[.slice C nc cc, .int .i64 c.2]) c from ⟨C, nc, cc, rfl, HNC.out, by omega, hcc, HC.out.later hB9⟩)
      have HBc := hd (Below.refl W4.heap.size W4)
      clear hW4 e4 hb4 hs4 hB9 HO1 HO2 HS3 HS2 HB3 HOR x0 x1 x2 x3 x4 x5
      obtain ⟨x0, x1, x2, x3, x4, x5, z0, z1, z2, z3⟩ := HMK.out _ HBc.out
      go_upto_region 11 with (first
        | (go_at_call 29; refine Calls.mono (cmp_at HBc.out (by first | exact HPA.out | exact HPB.out | exact HPC.out) (by first | exact HPA.out | exact HPB.out | exact HPC.out)) ?_; rintro e w9 ⟨rfl, b9⟩; have HBc := hd (HBc.out.trans (b9.mono HBc.out.size)); clear b9 x0 x1 x2 x3 x4 x5 z0 z1 z2 z3; obtain ⟨x0, x1, x2, x3, x4, x5, z0, z1, z2, z3⟩ := HMK.out _ HBc.out)
        | (go_at_call 31; refine Calls.mono (same_at HBc.out (by first | exact HPA.out | exact HPB.out | exact HPS.out | exact HPT.out) (by first | exact HPA.out | exact HPB.out)) ?_; rintro e w9 ⟨rfl, b9⟩; have HBc := hd (HBc.out.trans (b9.mono HBc.out.size)); clear b9 x0 x1 x2 x3 x4 x5 z0 z1 z2 z3; obtain ⟨x0, x1, x2, x3, x4, x5, z0, z1, z2, z3⟩ := HMK.out _ HBc.out))
      have l0 := later_cell x0
      have l1 := later_cell x1
      have l2 := later_cell x2
      have l3 := later_cell x3
      have HQ := fun u : Later w9.heap.size w9 => hd (HBc.out.trans (u.2.mono HBc.out.size))
      clear x0 x1 x2 x3 x4 x5 z0 z1 z2 z3
      refine wp_region_later w9.heap.size (by kernel_rfl) (by kernel_rfl) ?_
      repeat (go_big_quiet_step (first
        | (go_at_call 29; exact later_in (Nat.le_refl _) (cmp_at (HQ _).out (by first | exact HPA.out | exact HPB.out) (by first | exact HPA.out | exact HPB.out)))
        | (go_at_call 31; exact later_in (Nat.le_refl _) (same_at (HQ _).out (by first | exact HPA.out | exact HPB.out) (by first | exact HPA.out | exact HPB.out)))))
      refine wpQuiet_nil ?_
      intro _ hu
      obtain ⟨⟨w10, hw10⟩, rfl⟩ := hu
      have HBc := hd (HBc.out.trans (hw10.mono HBc.out.size))
      clear l0 l1 l2 l3 HQ hw10
      obtain ⟨x0, x1, x2, x3, x4, x5, z0, z1, z2, z3⟩ := HMK.out _ HBc.out
      by_cases hy : 0 < Y
      · clear HTR
        go_wp2_with (first
          | (go_at_call 29; refine Calls.mono (cmp_at HBc.out (by first | exact HPA.out | exact HPB.out | exact HPC.out) (by first | exact HPA.out | exact HPB.out | exact HPC.out)) ?_; rintro e w9 ⟨rfl, b9⟩; have HBc := hd (HBc.out.trans (b9.mono HBc.out.size)); clear b9 x0 x1 x2 x3 x4 x5 z0 z1 z2 z3; obtain ⟨x0, x1, x2, x3, x4, x5, z0, z1, z2, z3⟩ := HMK.out _ HBc.out)
          | (go_at_call 31; refine Calls.mono (same_at HBc.out (by first | exact HPA.out | exact HPB.out | exact HPS.out | exact HPT.out) (by first | exact HPA.out | exact HPB.out)) ?_; rintro e w9 ⟨rfl, b9⟩; have HBc := hd (HBc.out.trans (b9.mono HBc.out.size)); clear b9 x0 x1 x2 x3 x4 x5 z0 z1 z2 z3; obtain ⟨x0, x1, x2, x3, x4, x5, z0, z1, z2, z3⟩ := HMK.out _ HBc.out))
        exact bodyPost_ret (v := .bool true) (by simp [results, Try.results5, go_sem]) rfl ⟨rfl, HB9.out.trans (HBc.out.mono HB9.out.size)⟩
      · have hz : ¬ 0 < Z := by have := HTR.out (by omega) (by omega); omega
        have hz2 : Z ≤ 0 := by omega
        clear HTR
        go_wp2_with (first
          | (go_at_call 29; refine Calls.mono (cmp_at HBc.out (by first | exact HPA.out | exact HPB.out | exact HPC.out) (by first | exact HPA.out | exact HPB.out | exact HPC.out)) ?_; rintro e w9 ⟨rfl, b9⟩; have HBc := hd (HBc.out.trans (b9.mono HBc.out.size)); clear b9 x0 x1 x2 x3 x4 x5 z0 z1 z2 z3; obtain ⟨x0, x1, x2, x3, x4, x5, z0, z1, z2, z3⟩ := HMK.out _ HBc.out)
          | (go_at_call 31; refine Calls.mono (same_at HBc.out (by first | exact HPA.out | exact HPB.out | exact HPS.out | exact HPT.out) (by first | exact HPA.out | exact HPB.out)) ?_; rintro e w9 ⟨rfl, b9⟩; have HBc := hd (HBc.out.trans (b9.mono HBc.out.size)); clear b9 x0 x1 x2 x3 x4 x5 z0 z1 z2 z3; obtain ⟨x0, x1, x2, x3, x4, x5, z0, z1, z2, z3⟩ := HMK.out _ HBc.out))
        exact bodyPost_ret (v := .bool true) (by simp [results, Try.results5, go_sem]) rfl ⟨rfl, HB9.out.trans (HBc.out.mono HB9.out.size)⟩
    · have hba : cmpP b a = 0 := hba
      have hsab : samP a b = true := hsab
      have HOR := hd (fun (W : World) (h : Below w.heap.size w W) => (show Calls Try.prog 18 #[.agg #[.slice A na ca, .int .i64 a.2, .slice B nb cb, .int .i64 b.2]] W (NewTwo W a b false) from order_any A B a b na nb ca cb false W (by rw [hba]; rfl) HNA.out HNB.out (by omega) (by omega) (HA.out.later h) (HBB.out.later h)))
      go_enter Try.func5, Try.ntmps5
      go_upto_region 6 with (first
        | (go_at_call 18; refine (HOR.out _ HB2.out).mono ?_; rintro e w3 ⟨u1, u2, rfl, ⟨A1, c1, rfl, ho1⟩, ⟨A2, c2, rfl, ho2⟩, b3⟩; have HO1 := hd ho1; have HO2 := hd ho2; have HB3 := hd (HB2.out.trans (b3.mono HB2.out.size)); have HS3 := hd b3; clear ho1 ho2 b3)
        | (go_at_call 11; refine (HSH.out _).mono ?_; rintro e w2 ⟨rfl, b2⟩; have HB2 := hd (HB1.out.trans ((ex_below b2).mono HB1.out.size)); have HS2 := hd (HS1.out.trans ((ex_below b2).mono HS1.out.size)); clear b2 x0 x1 x2 x3 x4 x5; obtain ⟨x0, x1, x2, x3, x4, x5⟩ := HK.out _ HS2.out)
        | (go_at_call 9; rw [HW.out]; refine HLV.out.mono ?_; rintro e w1 ⟨rfl, b1⟩; have HB1 := hd (HB0.out.trans (b1.mono HB0.out.size)); have HS1 := hd b1; clear x0 x1 x2 x3 x4 x5; obtain ⟨x0, x1, x2, x3, x4, x5⟩ := HK.out _ b1; clear b1))
      have HPS := hd (PtAt.of_new HO1.out (by first | (rw [HNA.out]; omega) | (rw [HNB.out]; omega)) |>.later (below_mono2 (Below.refl _ _) (Nat.le_refl _) (o := .cells #[.slice A1 a.1.length c1, .int .i64 a.2] 29) (o' := .cells #[.slice A2 b.1.length c2, .int .i64 b.2] 29)))
      have HPT := hd (PtAt.of_new HO2.out (by first | (rw [HNA.out]; omega) | (rw [HNB.out]; omega)) |>.later (below_mono2 (Below.refl _ _) (Nat.le_refl _) (o := .cells #[.slice A1 a.1.length c1, .int .i64 a.2] 29) (o' := .cells #[.slice A2 b.1.length c2, .int .i64 b.2] 29)))
      obtain ⟨W4, hW4⟩ : ∃ W4, W4 = (w3.alloc (.cells #[.slice A1 a.1.length c1, .int .i64 a.2] 29)).alloc (.cells #[.slice A2 b.1.length c2, .int .i64 b.2] 29) := ⟨_, rfl⟩
      rw [← hW4] at HPS HPT ⊢
      have e4 := pt_new w3 (Obj.cells #[Value.slice A1 a.1.length c1, .int .i64 a.2] 29) (Obj.cells #[Value.slice A2 b.1.length c2, .int .i64 b.2] 29)
      rw [← hW4] at e4
      have hb4 : Below w3.heap.size w3 W4 := hW4 ▸ below_mono2 (Below.refl _ _) (Nat.le_refl _)
      have hs4 : Below W0.heap.size W0 W4 := (HS2.out.trans (HS3.out.mono HS2.out.size)).trans (hb4.mono (HS2.out.trans (HS3.out.mono HS2.out.size)).size)
      have HMK := hd (show ∀ W, Below W4.heap.size W4 W → (W.cell? ⟨w.heap.size, 0, none⟩ = some (.slice A na ca) ∧ W.cell? ⟨w.heap.size, 1, none⟩ = some (.int .i64 a.2) ∧ W.cell? ⟨w.heap.size + 1, 0, none⟩ = some (.slice B nb cb) ∧ W.cell? ⟨w.heap.size + 1, 1, none⟩ = some (.int .i64 b.2) ∧ W.cell? ⟨w.heap.size + 1 + 1, 0, none⟩ = some (.slice C nc cc) ∧ W.cell? ⟨w.heap.size + 1 + 1, 1, none⟩ = some (.int .i64 c.2) ∧
          W.cell? ⟨w3.heap.size, 0, none⟩ = some (.slice A1 a.1.length c1) ∧ W.cell? ⟨w3.heap.size, 1, none⟩ = some (.int .i64 a.2) ∧ W.cell? ⟨w3.heap.size + 1, 0, none⟩ = some (.slice A2 b.1.length c2) ∧ W.cell? ⟨w3.heap.size + 1, 1, none⟩ = some (.int .i64 b.2)) from fun W h => by
        obtain ⟨h0, h1, h2, h3, h4, h5⟩ := HK.out W (hs4.trans (h.mono hs4.size))
        have h6 := blk2 (keepBlk e4.1 h)
        have h7 := blk2 (keepBlk e4.2 h)
        exact ⟨h0, h1, h2, h3, h4, h5, h6.1, h6.2.1, h7.1, h7.2.1⟩)
      have hB9 := HB3.out.trans (hb4.mono HB3.out.size)
      have HB9 := hd hB9
      have HPA := hd (show PtAt W4 (.agg #[.slice A na ca, .int .i64 a.2]) a from ⟨A, na, ca, rfl, HNA.out, by omega, hca, HA.out.later hB9⟩)
      have HPB := hd (show PtAt W4 (.agg #[.slice B nb cb, .int .i64 b.2]) b from ⟨B, nb, cb, rfl, HNB.out, by omega, hcb, HBB.out.later hB9⟩)
      have HPC := hd (show PtAt W4 (.agg #[.slice C nc cc, .int .i64 c.2]) c from ⟨C, nc, cc, rfl, HNC.out, by omega, hcc, HC.out.later hB9⟩)
      have HBc := hd (Below.refl W4.heap.size W4)
      clear hW4 e4 hb4 hs4 hB9 HO1 HO2 HS3 HS2 HB3 HOR x0 x1 x2 x3 x4 x5
      obtain ⟨x0, x1, x2, x3, x4, x5, z0, z1, z2, z3⟩ := HMK.out _ HBc.out
      go_upto_region 11 with (first
        | (go_at_call 29; refine Calls.mono (cmp_at HBc.out (by first | exact HPA.out | exact HPB.out | exact HPC.out) (by first | exact HPA.out | exact HPB.out | exact HPC.out)) ?_; rintro e w9 ⟨rfl, b9⟩; have HBc := hd (HBc.out.trans (b9.mono HBc.out.size)); clear b9 x0 x1 x2 x3 x4 x5 z0 z1 z2 z3; obtain ⟨x0, x1, x2, x3, x4, x5, z0, z1, z2, z3⟩ := HMK.out _ HBc.out)
        | (go_at_call 31; refine Calls.mono (same_at HBc.out (by first | exact HPA.out | exact HPB.out | exact HPS.out | exact HPT.out) (by first | exact HPA.out | exact HPB.out)) ?_; rintro e w9 ⟨rfl, b9⟩; have HBc := hd (HBc.out.trans (b9.mono HBc.out.size)); clear b9 x0 x1 x2 x3 x4 x5 z0 z1 z2 z3; obtain ⟨x0, x1, x2, x3, x4, x5, z0, z1, z2, z3⟩ := HMK.out _ HBc.out))
      have l0 := later_cell x0
      have l1 := later_cell x1
      have l2 := later_cell x2
      have l3 := later_cell x3
      have HQ := fun u : Later w9.heap.size w9 => hd (HBc.out.trans (u.2.mono HBc.out.size))
      clear x0 x1 x2 x3 x4 x5 z0 z1 z2 z3
      refine wp_region_later w9.heap.size (by kernel_rfl) (by kernel_rfl) ?_
      repeat (go_big_quiet_step (first
        | (go_at_call 29; exact later_in (Nat.le_refl _) (cmp_at (HQ _).out (by first | exact HPA.out | exact HPB.out) (by first | exact HPA.out | exact HPB.out)))
        | (go_at_call 31; exact later_in (Nat.le_refl _) (same_at (HQ _).out (by first | exact HPA.out | exact HPB.out) (by first | exact HPA.out | exact HPB.out)))))
      refine wpQuiet_nil ?_
      intro _ hu
      obtain ⟨⟨w10, hw10⟩, rfl⟩ := hu
      have HBc := hd (HBc.out.trans (hw10.mono HBc.out.size))
      clear l0 l1 l2 l3 HQ hw10
      obtain ⟨x0, x1, x2, x3, x4, x5, z0, z1, z2, z3⟩ := HMK.out _ HBc.out
      by_cases hy : 0 < Y
      · clear HTR
        go_wp2_with (first
          | (go_at_call 29; refine Calls.mono (cmp_at HBc.out (by first | exact HPA.out | exact HPB.out | exact HPC.out) (by first | exact HPA.out | exact HPB.out | exact HPC.out)) ?_; rintro e w9 ⟨rfl, b9⟩; have HBc := hd (HBc.out.trans (b9.mono HBc.out.size)); clear b9 x0 x1 x2 x3 x4 x5 z0 z1 z2 z3; obtain ⟨x0, x1, x2, x3, x4, x5, z0, z1, z2, z3⟩ := HMK.out _ HBc.out)
          | (go_at_call 31; refine Calls.mono (same_at HBc.out (by first | exact HPA.out | exact HPB.out | exact HPS.out | exact HPT.out) (by first | exact HPA.out | exact HPB.out)) ?_; rintro e w9 ⟨rfl, b9⟩; have HBc := hd (HBc.out.trans (b9.mono HBc.out.size)); clear b9 x0 x1 x2 x3 x4 x5 z0 z1 z2 z3; obtain ⟨x0, x1, x2, x3, x4, x5, z0, z1, z2, z3⟩ := HMK.out _ HBc.out))
        exact bodyPost_ret (v := .bool true) (by simp [results, Try.results5, go_sem]) rfl ⟨rfl, HB9.out.trans (HBc.out.mono HB9.out.size)⟩
      · have hz : ¬ 0 < Z := by have := HTR.out (by omega) (by omega); omega
        have hz2 : Z ≤ 0 := by omega
        clear HTR
        go_wp2_with (first
          | (go_at_call 29; refine Calls.mono (cmp_at HBc.out (by first | exact HPA.out | exact HPB.out | exact HPC.out) (by first | exact HPA.out | exact HPB.out | exact HPC.out)) ?_; rintro e w9 ⟨rfl, b9⟩; have HBc := hd (HBc.out.trans (b9.mono HBc.out.size)); clear b9 x0 x1 x2 x3 x4 x5 z0 z1 z2 z3; obtain ⟨x0, x1, x2, x3, x4, x5, z0, z1, z2, z3⟩ := HMK.out _ HBc.out)
          | (go_at_call 31; refine Calls.mono (same_at HBc.out (by first | exact HPA.out | exact HPB.out | exact HPS.out | exact HPT.out) (by first | exact HPA.out | exact HPB.out)) ?_; rintro e w9 ⟨rfl, b9⟩; have HBc := hd (HBc.out.trans (b9.mono HBc.out.size)); clear b9 x0 x1 x2 x3 x4 x5 z0 z1 z2 z3; obtain ⟨x0, x1, x2, x3, x4, x5, z0, z1, z2, z3⟩ := HMK.out _ HBc.out))
        exact bodyPost_ret (v := .bool true) (by simp [results, Try.results5, go_sem]) rfl ⟨rfl, HB9.out.trans (HBc.out.mono HB9.out.size)⟩
    · have hba : cmpP b a = -1 := hba
      have hsab : samP a b = false := hsab
      clear HTR
      have HOR := hd (fun (W : World) (h : Below w.heap.size w W) => (show Calls Try.prog 18 #[.agg #[.slice A na ca, .int .i64 a.2, .slice B nb cb, .int .i64 b.2]] W (NewTwo W b a true) from order_any A B a b na nb ca cb true W (by rw [hba]; rfl) HNA.out HNB.out (by omega) (by omega) (HA.out.later h) (HBB.out.later h)))
      go_enter Try.func5, Try.ntmps5
      go_upto_region 6 with (first
        | (go_at_call 18; refine (HOR.out _ HB2.out).mono ?_; rintro e w3 ⟨u1, u2, rfl, ⟨A1, c1, rfl, ho1⟩, ⟨A2, c2, rfl, ho2⟩, b3⟩; have HO1 := hd ho1; have HO2 := hd ho2; have HB3 := hd (HB2.out.trans (b3.mono HB2.out.size)); have HS3 := hd b3; clear ho1 ho2 b3)
        | (go_at_call 11; refine (HSH.out _).mono ?_; rintro e w2 ⟨rfl, b2⟩; have HB2 := hd (HB1.out.trans ((ex_below b2).mono HB1.out.size)); have HS2 := hd (HS1.out.trans ((ex_below b2).mono HS1.out.size)); clear b2 x0 x1 x2 x3 x4 x5; obtain ⟨x0, x1, x2, x3, x4, x5⟩ := HK.out _ HS2.out)
        | (go_at_call 9; rw [HW.out]; refine HLV.out.mono ?_; rintro e w1 ⟨rfl, b1⟩; have HB1 := hd (HB0.out.trans (b1.mono HB0.out.size)); have HS1 := hd b1; clear x0 x1 x2 x3 x4 x5; obtain ⟨x0, x1, x2, x3, x4, x5⟩ := HK.out _ b1; clear b1))
      have HPS := hd (PtAt.of_new HO1.out (by first | (rw [HNA.out]; omega) | (rw [HNB.out]; omega)) |>.later (below_mono2 (Below.refl _ _) (Nat.le_refl _) (o := .cells #[.slice A1 b.1.length c1, .int .i64 b.2] 29) (o' := .cells #[.slice A2 a.1.length c2, .int .i64 a.2] 29)))
      have HPT := hd (PtAt.of_new HO2.out (by first | (rw [HNA.out]; omega) | (rw [HNB.out]; omega)) |>.later (below_mono2 (Below.refl _ _) (Nat.le_refl _) (o := .cells #[.slice A1 b.1.length c1, .int .i64 b.2] 29) (o' := .cells #[.slice A2 a.1.length c2, .int .i64 a.2] 29)))
      obtain ⟨W4, hW4⟩ : ∃ W4, W4 = (w3.alloc (.cells #[.slice A1 b.1.length c1, .int .i64 b.2] 29)).alloc (.cells #[.slice A2 a.1.length c2, .int .i64 a.2] 29) := ⟨_, rfl⟩
      rw [← hW4] at HPS HPT ⊢
      have e4 := pt_new w3 (Obj.cells #[Value.slice A1 b.1.length c1, .int .i64 b.2] 29) (Obj.cells #[Value.slice A2 a.1.length c2, .int .i64 a.2] 29)
      rw [← hW4] at e4
      have hb4 : Below w3.heap.size w3 W4 := hW4 ▸ below_mono2 (Below.refl _ _) (Nat.le_refl _)
      have hs4 : Below W0.heap.size W0 W4 := (HS2.out.trans (HS3.out.mono HS2.out.size)).trans (hb4.mono (HS2.out.trans (HS3.out.mono HS2.out.size)).size)
      have HMK := hd (show ∀ W, Below W4.heap.size W4 W → (W.cell? ⟨w.heap.size, 0, none⟩ = some (.slice A na ca) ∧ W.cell? ⟨w.heap.size, 1, none⟩ = some (.int .i64 a.2) ∧ W.cell? ⟨w.heap.size + 1, 0, none⟩ = some (.slice B nb cb) ∧ W.cell? ⟨w.heap.size + 1, 1, none⟩ = some (.int .i64 b.2) ∧ W.cell? ⟨w.heap.size + 1 + 1, 0, none⟩ = some (.slice C nc cc) ∧ W.cell? ⟨w.heap.size + 1 + 1, 1, none⟩ = some (.int .i64 c.2) ∧
          W.cell? ⟨w3.heap.size, 0, none⟩ = some (.slice A1 b.1.length c1) ∧ W.cell? ⟨w3.heap.size, 1, none⟩ = some (.int .i64 b.2) ∧ W.cell? ⟨w3.heap.size + 1, 0, none⟩ = some (.slice A2 a.1.length c2) ∧ W.cell? ⟨w3.heap.size + 1, 1, none⟩ = some (.int .i64 a.2)) from fun W h => by
        obtain ⟨h0, h1, h2, h3, h4, h5⟩ := HK.out W (hs4.trans (h.mono hs4.size))
        have h6 := blk2 (keepBlk e4.1 h)
        have h7 := blk2 (keepBlk e4.2 h)
        exact ⟨h0, h1, h2, h3, h4, h5, h6.1, h6.2.1, h7.1, h7.2.1⟩)
      have hB9 := HB3.out.trans (hb4.mono HB3.out.size)
      have HB9 := hd hB9
      have HPA := hd (show PtAt W4 (.agg #[.slice A na ca, .int .i64 a.2]) a from ⟨A, na, ca, rfl, HNA.out, by omega, hca, HA.out.later hB9⟩)
      have HPB := hd (show PtAt W4 (.agg #[.slice B nb cb, .int .i64 b.2]) b from ⟨B, nb, cb, rfl, HNB.out, by omega, hcb, HBB.out.later hB9⟩)
      have HPC := hd (show PtAt W4 (.agg #[.slice C nc cc, .int .i64 c.2]) c from ⟨C, nc, cc, rfl, HNC.out, by omega, hcc, HC.out.later hB9⟩)
      have HBc := hd (Below.refl W4.heap.size W4)
      clear hW4 e4 hb4 hs4 hB9 HO1 HO2 HS3 HS2 HB3 HOR x0 x1 x2 x3 x4 x5
      obtain ⟨x0, x1, x2, x3, x4, x5, z0, z1, z2, z3⟩ := HMK.out _ HBc.out
      go_upto_region 11 with (first
        | (go_at_call 29; refine Calls.mono (cmp_at HBc.out (by first | exact HPA.out | exact HPB.out | exact HPC.out) (by first | exact HPA.out | exact HPB.out | exact HPC.out)) ?_; rintro e w9 ⟨rfl, b9⟩; have HBc := hd (HBc.out.trans (b9.mono HBc.out.size)); clear b9 x0 x1 x2 x3 x4 x5 z0 z1 z2 z3; obtain ⟨x0, x1, x2, x3, x4, x5, z0, z1, z2, z3⟩ := HMK.out _ HBc.out)
        | (go_at_call 31; refine Calls.mono (same_at HBc.out (by first | exact HPA.out | exact HPB.out | exact HPS.out | exact HPT.out) (by first | exact HPA.out | exact HPB.out)) ?_; rintro e w9 ⟨rfl, b9⟩; have HBc := hd (HBc.out.trans (b9.mono HBc.out.size)); clear b9 x0 x1 x2 x3 x4 x5 z0 z1 z2 z3; obtain ⟨x0, x1, x2, x3, x4, x5, z0, z1, z2, z3⟩ := HMK.out _ HBc.out))
      have l0 := later_cell x0
      have l1 := later_cell x1
      have l2 := later_cell x2
      have l3 := later_cell x3
      have HQ := fun u : Later w9.heap.size w9 => hd (HBc.out.trans (u.2.mono HBc.out.size))
      clear x0 x1 x2 x3 x4 x5 z0 z1 z2 z3
      refine wp_region_later w9.heap.size (by kernel_rfl) (by kernel_rfl) ?_
      repeat (go_big_quiet_step (first
        | (go_at_call 29; exact later_in (Nat.le_refl _) (cmp_at (HQ _).out (by first | exact HPA.out | exact HPB.out) (by first | exact HPA.out | exact HPB.out)))
        | (go_at_call 31; exact later_in (Nat.le_refl _) (same_at (HQ _).out (by first | exact HPA.out | exact HPB.out) (by first | exact HPA.out | exact HPB.out)))))
      refine wpQuiet_nil ?_
      intro _ hu
      obtain ⟨⟨w10, hw10⟩, rfl⟩ := hu
      have HBc := hd (HBc.out.trans (hw10.mono HBc.out.size))
      clear l0 l1 l2 l3 HQ hw10
      obtain ⟨x0, x1, x2, x3, x4, x5, z0, z1, z2, z3⟩ := HMK.out _ HBc.out
      go_wp2_with (first
        | (go_at_call 29; refine Calls.mono (cmp_at HBc.out (by first | exact HPA.out | exact HPB.out | exact HPC.out) (by first | exact HPA.out | exact HPB.out | exact HPC.out)) ?_; rintro e w9 ⟨rfl, b9⟩; have HBc := hd (HBc.out.trans (b9.mono HBc.out.size)); clear b9 x0 x1 x2 x3 x4 x5 z0 z1 z2 z3; obtain ⟨x0, x1, x2, x3, x4, x5, z0, z1, z2, z3⟩ := HMK.out _ HBc.out)
        | (go_at_call 31; refine Calls.mono (same_at HBc.out (by first | exact HPA.out | exact HPB.out | exact HPS.out | exact HPT.out) (by first | exact HPA.out | exact HPB.out)) ?_; rintro e w9 ⟨rfl, b9⟩; have HBc := hd (HBc.out.trans (b9.mono HBc.out.size)); clear b9 x0 x1 x2 x3 x4 x5 z0 z1 z2 z3; obtain ⟨x0, x1, x2, x3, x4, x5, z0, z1, z2, z3⟩ := HMK.out _ HBc.out))
      exact bodyPost_ret (v := .bool true) (by simp [results, Try.results5, go_sem]) rfl ⟨rfl, HB9.out.trans (HBc.out.mono HB9.out.size)⟩

end Go.Proofs.Ytjolmnghoigggaa
