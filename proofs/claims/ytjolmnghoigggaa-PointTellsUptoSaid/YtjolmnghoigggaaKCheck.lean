/- Whether a point is a tree's (Check), the program's and the document's. -/
import Derived.Test.YtjolmnghoigggaaKLaw
import Derived.Test.YtjolmnghoigggaaTGets
namespace Go.Proofs.Ytjolmnghoigggaa
open Go.RowKit

set_option maxHeartbeats 4000000 in
theorem pcheck_any (d : Nat) (w : World) (v : Value) (n : NT) (A : Option Addr) (p : List Int × Int) (lp c : Nat) (hlp : p.1.length = lp) (hl : lp ≤ 10000000) (hn : NodeAt d w w.heap.size v n) (hp : IL w w.heap.size A p.1) :
    Calls Try.prog 12 #[v, .agg #[.slice A lp c, .int .i64 p.2]] w (Still (.int .i64 (chkP n p)) w) := by
  obtain ⟨lf, PA, np, pc, TA, nt, tc, KA, nk, kc, rfl⟩ := hn.val
  obtain ⟨W0, hW⟩ : ∃ W0, W0 = (w.alloc (.cells #[.bool lf, .slice PA np pc, .slice TA nt tc, .slice KA nk kc] 26)).alloc (.cells #[.slice A lp c, .int .i64 p.2] 29) := ⟨_, rfl⟩
  have hb0 : Below w.heap.size w W0 := hW ▸ below_mono2 (Below.refl _ _) (Nat.le_refl _)
  have e0 := pt_new w (Obj.cells #[Value.bool lf, .slice PA np pc, .slice TA nt tc, .slice KA nk kc] 26) (Obj.cells #[Value.slice A lp c, Value.int .i64 p.2] 29)
  rw [← hW] at e0
  have HK := hd (show ∀ W, Below W0.heap.size W0 W → (W.cell? ⟨w.heap.size, 0, none⟩ = some (.bool lf) ∧ W.cell? ⟨w.heap.size, 1, none⟩ = some (.slice PA np pc) ∧ W.cell? ⟨w.heap.size, 2, none⟩ = some (.slice TA nt tc) ∧ W.cell? ⟨w.heap.size, 3, none⟩ = some (.slice KA nk kc) ∧ W.cell? ⟨w.heap.size + 1, 0, none⟩ = some (.slice A lp c) ∧ W.cell? ⟨w.heap.size + 1, 1, none⟩ = some (.int .i64 p.2)) from fun W h => by
    have h1 := blkCells (keepBlk e0.1 h)
    have h2 := blk2 (keepBlk e0.2 h)
    exact ⟨h1.1, h1.2.1, h1.2.2.1, h1.2.2.2.1, h2.1, h2.2.1⟩)
  obtain ⟨x0, x1, x2, x3, y0, y1⟩ := HK.out _ (Below.refl _ _)
  have HW := hd hW
  have HB0 := hd hb0
  have hC := tget_any d W0 _ n A p.1 lp c hlp hl (hn.later hb0) (hp.later hb0)
  clear hn hp hW hb0 e0 hlp hl
  obtain ⟨o, ho⟩ : ∃ o, o = p.2 := ⟨_, rfl⟩
  cases hg : getO n p.1 with
  | none =>
    rw [getE_none hg] at hC
    have HC := hd hC
    have HF := hd (show chkP n p = 5 by unfold chkP; rw [hg])
    have HM1 := hd (show ((zeroT, 5) : NT × Int).1 = .mk false [] [] [] from rfl)
    clear hg hC ho o
    go_enter Try.func12, Try.ntmps12
    go_wp2_with (go_at_call 35; rw [← HW.out]; refine HC.out.mono ?_; intro e w1 h1; obtain ⟨v1, d1, rfl, ht1, hb1⟩ := h1; obtain ⟨d', lf1, ps1, tx1, ks1, PA1, pc1, TA1, tc1, KA1, kc1, _, hm1, rfl, _, _, hf1, _⟩ := (ht1.at_ (B := w1.heap.size) (fun b hb => hb.2)).open_; have hm1' := HM1.out.symm.trans hm1; clear hm1; injection hm1' with e1 e2 e3 e4; subst e1 e2 e3 e4; have hf2 := hf1.2.2.1; have HB1 := hd hb1; clear ht1 hb1 hf1 x0 x1 x2 x3 y0 y1; obtain ⟨x0, x1, x2, x3, y0, y1⟩ := HK.out _ HB1.out; have hl0 := cell_in x0; have hl1 := cell_in y1)
    go_ret
    exact ⟨ret_int HF.out.symm, HB0.out.trans ((HB1.out.alloc HB1.out.size _).mono HB0.out.size)⟩
  | some m =>
    rw [getE_some hg] at hC
    have HC := hd hC
    cases m with
    | mk ml mp mx mk =>
      have hF : chkP n p = if ml = false then 7 else if p.2 < 0 ∨ (mx.length : Int) < p.2 then 8 else 0 := by unfold chkP; rw [hg]; rfl
      have HM1 := hd (show ((NT.mk ml mp mx mk, 0) : NT × Int).1 = .mk ml mp mx mk from rfl)
      clear hg hC
      cases ml with
      | false =>
        have HF := hd (hF.trans (if_pos rfl))
        clear hF ho o
        go_enter Try.func12, Try.ntmps12
        go_wp2_with (go_at_call 35; rw [← HW.out]; refine HC.out.mono ?_; intro e w1 h1; obtain ⟨v1, d1, rfl, ht1, hb1⟩ := h1; obtain ⟨d', lf1, ps1, tx1, ks1, PA1, pc1, TA1, tc1, KA1, kc1, _, hm1, rfl, _, _, hf1, _⟩ := (ht1.at_ (B := w1.heap.size) (fun b hb => hb.2)).open_; have hm1' := HM1.out.symm.trans hm1; clear hm1; injection hm1' with e1 e2 e3 e4; subst e1 e2 e3 e4; have hf2 := hf1.2.2.1; have HB1 := hd hb1; clear ht1 hb1 hf1 x0 x1 x2 x3 y0 y1; obtain ⟨x0, x1, x2, x3, y0, y1⟩ := HK.out _ HB1.out; have hl0 := cell_in x0; have hl1 := cell_in y1)
        go_ret
        exact ⟨ret_int HF.out.symm, HB0.out.trans ((HB1.out.alloc HB1.out.size _).mono HB0.out.size)⟩
      | true =>
        rw [if_neg (by simp)] at hF
        rw [← ho] at hF y1 HK HW ⊢
        by_cases h1 : o < 0
        · have HF := hd (hF.trans (if_pos (.inl h1)))
          clear hF ho
          go_enter Try.func12, Try.ntmps12
          go_wp2_with (go_at_call 35; rw [← HW.out]; refine HC.out.mono ?_; intro e w1 h1; obtain ⟨v1, d1, rfl, ht1, hb1⟩ := h1; obtain ⟨d', lf1, ps1, tx1, ks1, PA1, pc1, TA1, tc1, KA1, kc1, _, hm1, rfl, _, _, hf1, _⟩ := (ht1.at_ (B := w1.heap.size) (fun b hb => hb.2)).open_; have hm1' := HM1.out.symm.trans hm1; clear hm1; injection hm1' with e1 e2 e3 e4; subst e1 e2 e3 e4; have hf2 := hf1.2.2.1; have HB1 := hd hb1; clear ht1 hb1 hf1 x0 x1 x2 x3 y0 y1; obtain ⟨x0, x1, x2, x3, y0, y1⟩ := HK.out _ HB1.out; have hl0 := cell_in x0; have hl1 := cell_in y1)
          go_ret
          exact ⟨ret_int HF.out.symm, HB0.out.trans ((HB1.out.alloc HB1.out.size _).mono HB0.out.size)⟩
        · by_cases h2 : (mx.length : Int) < o
          · have HF := hd (hF.trans (if_pos (.inr h2)))
            clear hF ho
            go_enter Try.func12, Try.ntmps12
            go_wp2_with (go_at_call 35; rw [← HW.out]; refine HC.out.mono ?_; intro e w1 h1; obtain ⟨v1, d1, rfl, ht1, hb1⟩ := h1; obtain ⟨d', lf1, ps1, tx1, ks1, PA1, pc1, TA1, tc1, KA1, kc1, _, hm1, rfl, _, _, hf1, _⟩ := (ht1.at_ (B := w1.heap.size) (fun b hb => hb.2)).open_; have hm1' := HM1.out.symm.trans hm1; clear hm1; injection hm1' with e1 e2 e3 e4; subst e1 e2 e3 e4; have hf2 := hf1.2.2.1; have HB1 := hd hb1; clear ht1 hb1 hf1 x0 x1 x2 x3 y0 y1; obtain ⟨x0, x1, x2, x3, y0, y1⟩ := HK.out _ HB1.out; have hl0 := cell_in x0; have hl1 := cell_in y1)
            go_ret
            exact ⟨ret_int HF.out.symm, HB0.out.trans ((HB1.out.alloc HB1.out.size _).mono HB0.out.size)⟩
          · have HF := hd (hF.trans (if_neg (by omega)))
            clear hF ho
            go_enter Try.func12, Try.ntmps12
            go_wp2_with (go_at_call 35; rw [← HW.out]; refine HC.out.mono ?_; intro e w1 h1; obtain ⟨v1, d1, rfl, ht1, hb1⟩ := h1; obtain ⟨d', lf1, ps1, tx1, ks1, PA1, pc1, TA1, tc1, KA1, kc1, _, hm1, rfl, _, _, hf1, _⟩ := (ht1.at_ (B := w1.heap.size) (fun b hb => hb.2)).open_; have hm1' := HM1.out.symm.trans hm1; clear hm1; injection hm1' with e1 e2 e3 e4; subst e1 e2 e3 e4; have hf2 := hf1.2.2.1; have HB1 := hd hb1; clear ht1 hb1 hf1 x0 x1 x2 x3 y0 y1; obtain ⟨x0, x1, x2, x3, y0, y1⟩ := HK.out _ HB1.out; have hl0 := cell_in x0; have hl1 := cell_in y1)
            go_ret
            exact ⟨ret_int HF.out.symm, HB0.out.trans ((HB1.out.alloc HB1.out.size _).mono HB0.out.size)⟩
set_option maxRecDepth 4000 in
set_option maxHeartbeats 4000000 in
theorem rpcheck_any (d : Nat) (w : World) (v : Value) (n : NT) (A : Option Addr) (p : List Int × Int) (lp c : Nat) (hlp : p.1.length = lp) (hl : lp ≤ 10000000) (hn : NodeAt d w w.heap.size v n) (hp : IL w w.heap.size A p.1) :
    Calls Try.prog 13 #[v, .agg #[.slice A lp c, .int .i64 p.2]] w (Still (.int .i64 (chkP n p)) w) := by
  obtain ⟨lf, PA, np, pc, TA, nt, tc, KA, nk, kc, rfl⟩ := hn.val
  obtain ⟨W0, hW⟩ : ∃ W0, W0 = (w.alloc (.cells #[.bool lf, .slice PA np pc, .slice TA nt tc, .slice KA nk kc] 26)).alloc (.cells #[.slice A lp c, .int .i64 p.2] 29) := ⟨_, rfl⟩
  have hb0 : Below w.heap.size w W0 := hW ▸ below_mono2 (Below.refl _ _) (Nat.le_refl _)
  have e0 := pt_new w (Obj.cells #[Value.bool lf, .slice PA np pc, .slice TA nt tc, .slice KA nk kc] 26) (Obj.cells #[Value.slice A lp c, Value.int .i64 p.2] 29)
  rw [← hW] at e0
  have HK := hd (show ∀ W, Below W0.heap.size W0 W → (W.cell? ⟨w.heap.size, 0, none⟩ = some (.bool lf) ∧ W.cell? ⟨w.heap.size, 1, none⟩ = some (.slice PA np pc) ∧ W.cell? ⟨w.heap.size, 2, none⟩ = some (.slice TA nt tc) ∧ W.cell? ⟨w.heap.size, 3, none⟩ = some (.slice KA nk kc) ∧ W.cell? ⟨w.heap.size + 1, 0, none⟩ = some (.slice A lp c) ∧ W.cell? ⟨w.heap.size + 1, 1, none⟩ = some (.int .i64 p.2)) from fun W h => by
    have h1 := blkCells (keepBlk e0.1 h)
    have h2 := blk2 (keepBlk e0.2 h)
    exact ⟨h1.1, h1.2.1, h1.2.2.1, h1.2.2.2.1, h2.1, h2.2.1⟩)
  obtain ⟨x0, x1, x2, x3, y0, y1⟩ := HK.out _ (Below.refl _ _)
  have HW := hd hW
  have HB0 := hd hb0
  have hC := rtget_any d W0 _ n A p.1 lp c hlp hl (hn.later hb0) (hp.later hb0)
  clear hn hp hW hb0 e0 hlp hl
  obtain ⟨o, ho⟩ : ∃ o, o = p.2 := ⟨_, rfl⟩
  cases hg : getO n p.1 with
  | none =>
    rw [getE_none hg] at hC
    have HC := hd hC
    have HF := hd (show chkP n p = 5 by unfold chkP; rw [hg])
    have HM1 := hd (show ((zeroT, 5) : NT × Int).1 = .mk false [] [] [] from rfl)
    clear hg hC ho o
    go_enter Try.func13, Try.ntmps13
    go_wp2_with (go_at_call 39; rw [← HW.out]; refine HC.out.mono ?_; intro e w1 h1; obtain ⟨v1, d1, rfl, ht1, hb1⟩ := h1; obtain ⟨d', lf1, ps1, tx1, ks1, PA1, pc1, TA1, tc1, KA1, kc1, _, hm1, rfl, _, _, hf1, _⟩ := (ht1.at_ (B := w1.heap.size) (fun b hb => hb.2)).open_; have hm1' := HM1.out.symm.trans hm1; clear hm1; injection hm1' with e1 e2 e3 e4; subst e1 e2 e3 e4; have hf2 := hf1.2.2.1; have HB1 := hd hb1; clear ht1 hb1 hf1 x0 x1 x2 x3 y0 y1; obtain ⟨x0, x1, x2, x3, y0, y1⟩ := HK.out _ HB1.out; have hl0 := cell_in x0; have hl1 := cell_in y1)
    go_ret
    exact ⟨ret_int HF.out.symm, HB0.out.trans ((HB1.out.alloc HB1.out.size _).mono HB0.out.size)⟩
  | some m =>
    rw [getE_some hg] at hC
    have HC := hd hC
    cases m with
    | mk ml mp mx mk =>
      have hF : chkP n p = if ml = false then 7 else if p.2 < 0 ∨ (mx.length : Int) < p.2 then 8 else 0 := by unfold chkP; rw [hg]; rfl
      have HM1 := hd (show ((NT.mk ml mp mx mk, 0) : NT × Int).1 = .mk ml mp mx mk from rfl)
      clear hg hC
      cases ml with
      | false =>
        have HF := hd (hF.trans (if_pos rfl))
        clear hF ho o
        go_enter Try.func13, Try.ntmps13
        go_wp2_with (go_at_call 39; rw [← HW.out]; refine HC.out.mono ?_; intro e w1 h1; obtain ⟨v1, d1, rfl, ht1, hb1⟩ := h1; obtain ⟨d', lf1, ps1, tx1, ks1, PA1, pc1, TA1, tc1, KA1, kc1, _, hm1, rfl, _, _, hf1, _⟩ := (ht1.at_ (B := w1.heap.size) (fun b hb => hb.2)).open_; have hm1' := HM1.out.symm.trans hm1; clear hm1; injection hm1' with e1 e2 e3 e4; subst e1 e2 e3 e4; have hf2 := hf1.2.2.1; have HB1 := hd hb1; clear ht1 hb1 hf1 x0 x1 x2 x3 y0 y1; obtain ⟨x0, x1, x2, x3, y0, y1⟩ := HK.out _ HB1.out; have hl0 := cell_in x0; have hl1 := cell_in y1)
        go_ret
        exact ⟨ret_int HF.out.symm, HB0.out.trans ((HB1.out.alloc HB1.out.size _).mono HB0.out.size)⟩
      | true =>
        rw [if_neg (by simp)] at hF
        rw [← ho] at hF y1 HK HW ⊢
        by_cases h1 : o < 0
        · have HF := hd (hF.trans (if_pos (.inl h1)))
          clear hF ho
          go_enter Try.func13, Try.ntmps13
          go_wp2_with (go_at_call 39; rw [← HW.out]; refine HC.out.mono ?_; intro e w1 h1; obtain ⟨v1, d1, rfl, ht1, hb1⟩ := h1; obtain ⟨d', lf1, ps1, tx1, ks1, PA1, pc1, TA1, tc1, KA1, kc1, _, hm1, rfl, _, _, hf1, _⟩ := (ht1.at_ (B := w1.heap.size) (fun b hb => hb.2)).open_; have hm1' := HM1.out.symm.trans hm1; clear hm1; injection hm1' with e1 e2 e3 e4; subst e1 e2 e3 e4; have hf2 := hf1.2.2.1; have HB1 := hd hb1; clear ht1 hb1 hf1 x0 x1 x2 x3 y0 y1; obtain ⟨x0, x1, x2, x3, y0, y1⟩ := HK.out _ HB1.out; have hl0 := cell_in x0; have hl1 := cell_in y1)
          go_ret
          exact ⟨ret_int HF.out.symm, HB0.out.trans ((HB1.out.alloc HB1.out.size _).mono HB0.out.size)⟩
        · by_cases h2 : (mx.length : Int) < o
          · have HF := hd (hF.trans (if_pos (.inr h2)))
            clear hF ho
            go_enter Try.func13, Try.ntmps13
            go_wp2_with (go_at_call 39; rw [← HW.out]; refine HC.out.mono ?_; intro e w1 h1; obtain ⟨v1, d1, rfl, ht1, hb1⟩ := h1; obtain ⟨d', lf1, ps1, tx1, ks1, PA1, pc1, TA1, tc1, KA1, kc1, _, hm1, rfl, _, _, hf1, _⟩ := (ht1.at_ (B := w1.heap.size) (fun b hb => hb.2)).open_; have hm1' := HM1.out.symm.trans hm1; clear hm1; injection hm1' with e1 e2 e3 e4; subst e1 e2 e3 e4; have hf2 := hf1.2.2.1; have HB1 := hd hb1; clear ht1 hb1 hf1 x0 x1 x2 x3 y0 y1; obtain ⟨x0, x1, x2, x3, y0, y1⟩ := HK.out _ HB1.out; have hl0 := cell_in x0; have hl1 := cell_in y1)
            go_ret
            exact ⟨ret_int HF.out.symm, HB0.out.trans ((HB1.out.alloc HB1.out.size _).mono HB0.out.size)⟩
          · have HF := hd (hF.trans (if_neg (by omega)))
            clear hF ho
            go_enter Try.func13, Try.ntmps13
            go_wp2_with (go_at_call 39; rw [← HW.out]; refine HC.out.mono ?_; intro e w1 h1; obtain ⟨v1, d1, rfl, ht1, hb1⟩ := h1; obtain ⟨d', lf1, ps1, tx1, ks1, PA1, pc1, TA1, tc1, KA1, kc1, _, hm1, rfl, _, _, hf1, _⟩ := (ht1.at_ (B := w1.heap.size) (fun b hb => hb.2)).open_; have hm1' := HM1.out.symm.trans hm1; clear hm1; injection hm1' with e1 e2 e3 e4; subst e1 e2 e3 e4; have hf2 := hf1.2.2.1; have HB1 := hd hb1; clear ht1 hb1 hf1 x0 x1 x2 x3 y0 y1; obtain ⟨x0, x1, x2, x3, y0, y1⟩ := HK.out _ HB1.out; have hl0 := cell_in x0; have hl1 := cell_in y1)
            go_ret
            exact ⟨ret_int HF.out.symm, HB0.out.trans ((HB1.out.alloc HB1.out.size _).mono HB0.out.size)⟩

end Go.Proofs.Ytjolmnghoigggaa
