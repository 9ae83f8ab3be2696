/- The document's Move answers what the plain functions say: operations that move no node elsewhere. -/
import Derived.Test.YtindjfiomilocaaXMove5
namespace Go.Proofs.Ytindjfiomilocaa
open Go.RowKit

theorem plus_set (p : List Int) (k : Nat) (x y : Int) : plusL p k [x, y] = (plusL p k [x]).set (k + 1) (iAt p (k + 1) + y) := by
  simp only [plusL]
  rw [addL, addL_ne _ _ _ _ (by omega)]


set_option maxRecDepth 100000 in
set_option maxHeartbeats 8000000 in
theorem rmvB_any (A Q T : Option Addr) (p q t : List Int) (n lq lt c cq ct : Nat) (K pos : Int) (r4 r5 r6 r7 r8 r9 r10 r11 r12 r13 r14 r15 r16 r17 r18 r19 r20 : Value) (w : World) (hn : p.length = n) (hlq : q.length = lq) (hlt : t.length = lt) (hl : n ≤ 1000) (hl2 : lq ≤ 1000) (hl3 : lt ≤ 1000) (hc : n ≤ c) (hc2 : lq ≤ cq) (hc3 : lt ≤ ct) (hK5 : K ≠ 5) (hp : IL w w.heap.size A p) (hq : IL w w.heap.size Q q) (ht : IL w w.heap.size T t) :
    Calls Try.prog 13 #[.slice A n c, .agg #[.int .i64 K, .slice Q lq cq, .slice T lt ct, .int .i64 pos, r4, r5, r6, r7, r8, r9, r10, r11, r12, r13, r14, r15, r16, r17, r18, r19, r20]] w (NewPB w (moveL K q t pos p)) := by
  obtain ⟨W0, hW⟩ : ∃ W0, W0 = w.alloc (.cells #[Value.int .i64 K, .slice Q lq cq, .slice T lt ct, .int .i64 pos, r4, r5, r6, r7, r8, r9, r10, r11, r12, r13, r14, r15, r16, r17, r18, r19, r20] 35) := ⟨_, rfl⟩
  have hb0 : Below w.heap.size w W0 := hW ▸ new_below w _
  have e0 : W0.heap[w.heap.size]? = some (.cells #[Value.int .i64 K, .slice Q lq cq, .slice T lt ct, .int .i64 pos, r4, r5, r6, r7, r8, r9, r10, r11, r12, r13, r14, r15, r16, r17, r18, r19, r20] 35 (0, 0)) := hW ▸ heap_alloc_new _ _
  have HK := hd (show ∀ W, Below W0.heap.size W0 W → (W.cell? ⟨w.heap.size, 0, none⟩ = some (.int .i64 K) ∧ W.cell? ⟨w.heap.size, 1, none⟩ = some (.slice Q lq cq) ∧ W.cell? ⟨w.heap.size, 2, none⟩ = some (.slice T lt ct) ∧ W.cell? ⟨w.heap.size, 3, none⟩ = some (.int .i64 pos)) from fun W h => op_cells (xkeep e0 h))
  have HIP := hd (fun W (h : Below W0.heap.size W0 W) => hp.later (hb0.trans (h.mono hb0.size)))
  have HIQ := hd (fun W (h : Below W0.heap.size W0 W) => hq.later (hb0.trans (h.mono hb0.size)))
  have HIT := hd (fun W (h : Below W0.heap.size W0 W) => ht.later (hb0.trans (h.mono hb0.size)))
  have HP := hd (show ∀ W, Below W0.heap.size W0 W → XA W (.slice A n c) p from fun W h => ⟨A, n, c, rfl, hn, hl, hc, HIP.out W h⟩)
  have HQ := hd (show ∀ W, Below W0.heap.size W0 W → XA W (.slice Q lq cq) q from fun W h => ⟨Q, lq, cq, rfl, hlq, hl2, hc2, HIQ.out W h⟩)
  have HT := hd (show ∀ W, Below W0.heap.size W0 W → XA W (.slice T lt ct) t from fun W h => ⟨T, lt, ct, rfl, hlt, hl3, hc3, HIT.out W h⟩)
  have HBc := hd (Below.refl W0.heap.size W0)
  have HW := hd hW
  have HB0 := hd hb0
  have HN := hd hn
  have HLQ := hd hlq
  have HLT := hd hlt
  obtain ⟨x0, x1, x2, x3⟩ := HK.out W0 HBc.out
  clear hp hq ht hW hb0 e0 hn hlq hlt
  cases h1 : smallI p
  · have HF := hd (moveL_out (K := K) (q := q) (t := t) (pos := pos) (p := p) (by rw [h1]; rfl))
    have H1 := hd h1
    clear h1
    go_enter Try.func13, Try.ntmps13
    go_wp2_with (first
          | (go_at_call 15; (try rw [← HW.out]); refine Calls.mono (rsmall_at (by first | exact HP.out _ HBc.out | exact HQ.out _ HBc.out | exact HT.out _ HBc.out) (by first | exact H1.out | exact H2.out | exact H3.out)) ?_; rintro e w9 ⟨rfl, b9⟩; have HBc := hd (step_b HBc.out b9); clear b9 x0 x1 x2 x3; obtain ⟨x0, x1, x2, x3⟩ := HK.out _ HBc.out)
          | (go_at_call 14; refine Calls.mono (rsame_at (HQ.out _ HBc.out) (HP.out _ HBc.out) HSS.out) ?_; rintro e w9 ⟨rfl, b9⟩; have HBc := hd (step_b HBc.out b9); clear b9 x0 x1 x2 x3; obtain ⟨x0, x1, x2, x3⟩ := HK.out _ HBc.out)
          | (go_at_call 25; refine Calls.mono (rabove_at (HQ.out _ HBc.out) (HP.out _ HBc.out) HSA.out) ?_; rintro e w9 ⟨rfl, b9⟩; have HBc := hd (step_b HBc.out b9); clear b9 x0 x1 x2 x3; obtain ⟨x0, x1, x2, x3⟩ := HK.out _ HBc.out)
          | (go_at_call 26; refine Calls.mono (rleft_at (HQ.out _ HBc.out) (HP.out _ HBc.out) HSL.out) ?_; rintro e w9 ⟨rfl, b9⟩; have HBc := hd (step_b HBc.out b9); clear b9 x0 x1 x2 x3; obtain ⟨x0, x1, x2, x3⟩ := HK.out _ HBc.out))
    go_ret2
    exact newPB_ret HF.out (OwnI.nil _ _) (HB0.out.trans (HBc.out.mono HB0.out.size))
  have H1 := hd h1
  cases h2 : smallI q
  · have H2 := hd h2
    have HF := hd (moveL_out (K := K) (q := q) (t := t) (pos := pos) (p := p) (by rw [h2]; simp))
    clear h1 h2
    go_enter Try.func13, Try.ntmps13
    go_wp2_with (first
          | (go_at_call 15; (try rw [← HW.out]); refine Calls.mono (rsmall_at (by first | exact HP.out _ HBc.out | exact HQ.out _ HBc.out | exact HT.out _ HBc.out) (by first | exact H1.out | exact H2.out | exact H3.out)) ?_; rintro e w9 ⟨rfl, b9⟩; have HBc := hd (step_b HBc.out b9); clear b9 x0 x1 x2 x3; obtain ⟨x0, x1, x2, x3⟩ := HK.out _ HBc.out)
          | (go_at_call 14; refine Calls.mono (rsame_at (HQ.out _ HBc.out) (HP.out _ HBc.out) HSS.out) ?_; rintro e w9 ⟨rfl, b9⟩; have HBc := hd (step_b HBc.out b9); clear b9 x0 x1 x2 x3; obtain ⟨x0, x1, x2, x3⟩ := HK.out _ HBc.out)
          | (go_at_call 25; refine Calls.mono (rabove_at (HQ.out _ HBc.out) (HP.out _ HBc.out) HSA.out) ?_; rintro e w9 ⟨rfl, b9⟩; have HBc := hd (step_b HBc.out b9); clear b9 x0 x1 x2 x3; obtain ⟨x0, x1, x2, x3⟩ := HK.out _ HBc.out)
          | (go_at_call 26; refine Calls.mono (rleft_at (HQ.out _ HBc.out) (HP.out _ HBc.out) HSL.out) ?_; rintro e w9 ⟨rfl, b9⟩; have HBc := hd (step_b HBc.out b9); clear b9 x0 x1 x2 x3; obtain ⟨x0, x1, x2, x3⟩ := HK.out _ HBc.out))
    go_ret2
    exact newPB_ret HF.out (OwnI.nil _ _) (HB0.out.trans (HBc.out.mono HB0.out.size))
  have H2 := hd h2
  cases h3 : smallI t
  · have H3 := hd h3
    have HF := hd (moveL_out (K := K) (q := q) (t := t) (pos := pos) (p := p) (by rw [h3]; simp))
    clear h1 h2 h3
    go_enter Try.func13, Try.ntmps13
    go_wp2_with (first
          | (go_at_call 15; (try rw [← HW.out]); refine Calls.mono (rsmall_at (by first | exact HP.out _ HBc.out | exact HQ.out _ HBc.out | exact HT.out _ HBc.out) (by first | exact H1.out | exact H2.out | exact H3.out)) ?_; rintro e w9 ⟨rfl, b9⟩; have HBc := hd (step_b HBc.out b9); clear b9 x0 x1 x2 x3; obtain ⟨x0, x1, x2, x3⟩ := HK.out _ HBc.out)
          | (go_at_call 14; refine Calls.mono (rsame_at (HQ.out _ HBc.out) (HP.out _ HBc.out) HSS.out) ?_; rintro e w9 ⟨rfl, b9⟩; have HBc := hd (step_b HBc.out b9); clear b9 x0 x1 x2 x3; obtain ⟨x0, x1, x2, x3⟩ := HK.out _ HBc.out)
          | (go_at_call 25; refine Calls.mono (rabove_at (HQ.out _ HBc.out) (HP.out _ HBc.out) HSA.out) ?_; rintro e w9 ⟨rfl, b9⟩; have HBc := hd (step_b HBc.out b9); clear b9 x0 x1 x2 x3; obtain ⟨x0, x1, x2, x3⟩ := HK.out _ HBc.out)
          | (go_at_call 26; refine Calls.mono (rleft_at (HQ.out _ HBc.out) (HP.out _ HBc.out) HSL.out) ?_; rintro e w9 ⟨rfl, b9⟩; have HBc := hd (step_b HBc.out b9); clear b9 x0 x1 x2 x3; obtain ⟨x0, x1, x2, x3⟩ := HK.out _ HBc.out))
    go_ret2
    exact newPB_ret HF.out (OwnI.nil _ _) (HB0.out.trans (HBc.out.mono HB0.out.size))
  have H3 := hd h3
  by_cases g0 : pos < 0
  · have HF := hd (moveL_out (K := K) (q := q) (t := t) (pos := pos) (p := p) (by rw [show smallN pos = false by simp [smallN]; omega]; simp))
    clear h1 h2 h3
    go_enter Try.func13, Try.ntmps13
    go_wp2_with (first
          | (go_at_call 15; (try rw [← HW.out]); refine Calls.mono (rsmall_at (by first | exact HP.out _ HBc.out | exact HQ.out _ HBc.out | exact HT.out _ HBc.out) (by first | exact H1.out | exact H2.out | exact H3.out)) ?_; rintro e w9 ⟨rfl, b9⟩; have HBc := hd (step_b HBc.out b9); clear b9 x0 x1 x2 x3; obtain ⟨x0, x1, x2, x3⟩ := HK.out _ HBc.out)
          | (go_at_call 14; refine Calls.mono (rsame_at (HQ.out _ HBc.out) (HP.out _ HBc.out) HSS.out) ?_; rintro e w9 ⟨rfl, b9⟩; have HBc := hd (step_b HBc.out b9); clear b9 x0 x1 x2 x3; obtain ⟨x0, x1, x2, x3⟩ := HK.out _ HBc.out)
          | (go_at_call 25; refine Calls.mono (rabove_at (HQ.out _ HBc.out) (HP.out _ HBc.out) HSA.out) ?_; rintro e w9 ⟨rfl, b9⟩; have HBc := hd (step_b HBc.out b9); clear b9 x0 x1 x2 x3; obtain ⟨x0, x1, x2, x3⟩ := HK.out _ HBc.out)
          | (go_at_call 26; refine Calls.mono (rleft_at (HQ.out _ HBc.out) (HP.out _ HBc.out) HSL.out) ?_; rintro e w9 ⟨rfl, b9⟩; have HBc := hd (step_b HBc.out b9); clear b9 x0 x1 x2 x3; obtain ⟨x0, x1, x2, x3⟩ := HK.out _ HBc.out))
    go_ret2
    exact newPB_ret HF.out (OwnI.nil _ _) (HB0.out.trans (HBc.out.mono HB0.out.size))
  by_cases g1 : 1048576 < pos
  · have HF := hd (moveL_out (K := K) (q := q) (t := t) (pos := pos) (p := p) (by rw [show smallN pos = false by simp [smallN]; omega]; simp))
    clear h1 h2 h3
    go_enter Try.func13, Try.ntmps13
    go_wp2_with (first
          | (go_at_call 15; (try rw [← HW.out]); refine Calls.mono (rsmall_at (by first | exact HP.out _ HBc.out | exact HQ.out _ HBc.out | exact HT.out _ HBc.out) (by first | exact H1.out | exact H2.out | exact H3.out)) ?_; rintro e w9 ⟨rfl, b9⟩; have HBc := hd (step_b HBc.out b9); clear b9 x0 x1 x2 x3; obtain ⟨x0, x1, x2, x3⟩ := HK.out _ HBc.out)
          | (go_at_call 14; refine Calls.mono (rsame_at (HQ.out _ HBc.out) (HP.out _ HBc.out) HSS.out) ?_; rintro e w9 ⟨rfl, b9⟩; have HBc := hd (step_b HBc.out b9); clear b9 x0 x1 x2 x3; obtain ⟨x0, x1, x2, x3⟩ := HK.out _ HBc.out)
          | (go_at_call 25; refine Calls.mono (rabove_at (HQ.out _ HBc.out) (HP.out _ HBc.out) HSA.out) ?_; rintro e w9 ⟨rfl, b9⟩; have HBc := hd (step_b HBc.out b9); clear b9 x0 x1 x2 x3; obtain ⟨x0, x1, x2, x3⟩ := HK.out _ HBc.out)
          | (go_at_call 26; refine Calls.mono (rleft_at (HQ.out _ HBc.out) (HP.out _ HBc.out) HSL.out) ?_; rintro e w9 ⟨rfl, b9⟩; have HBc := hd (step_b HBc.out b9); clear b9 x0 x1 x2 x3; obtain ⟨x0, x1, x2, x3⟩ := HK.out _ HBc.out))
    go_ret2
    exact newPB_ret HF.out (OwnI.nil _ _) (HB0.out.trans (HBc.out.mono HB0.out.size))
  have h4 : smallN pos = true := by simp [smallN]; omega
  have g2 : 0 ≤ pos := by omega
  have g3 : pos ≤ 1048576 := by omega
  have HL := hd (moveL_in (K := K) (q := q) (t := t) (pos := pos) (p := p) (by rw [h1, h2, h3, h4]; rfl) hK5)
  have HML := hd (small_mild h1)
  clear h1 h2 h3 h4
  rcases lq with _ | k
  · have HF := hd (show moveL K q t pos p = (p, true) by rw [HL.out, moveB_0 HLQ.out])
    go_enter Try.func13, Try.ntmps13
    go_wp2_with (first
      | (go_at_call 15; (try rw [← HW.out]); refine Calls.mono (rsmall_at (by first | exact HP.out _ HBc.out | exact HQ.out _ HBc.out | exact HT.out _ HBc.out) (by first | exact H1.out | exact H2.out | exact H3.out)) ?_; rintro e w9 ⟨rfl, b9⟩; have HBc := hd (step_b HBc.out b9); clear b9 x0 x1 x2 x3; obtain ⟨x0, x1, x2, x3⟩ := HK.out _ HBc.out)
      | (go_at_call 11; refine Calls.mono (rcopy_at (HP.out _ HBc.out)) ?_; rintro e w9 ⟨v9, rfl, ho, b9⟩; have HO := hd (ho.weaken (b' := w.heap.size) (Nat.le_trans HB0.out.size HBc.out.size)); have HB9 := hd (step_b HBc.out b9); clear b9 ho))
    go_ret2
    exact newPB_ret HF.out HO.out (HB0.out.trans (HB9.out.mono HB0.out.size))
  have hs := standL_cases q p
  obtain ⟨s, hs0⟩ : ∃ s, standL q p = s := ⟨_, rfl⟩
  obtain ⟨bl, hs1⟩ : ∃ b, leftL q p = b := ⟨_, rfl⟩
  obtain ⟨bs, hs2⟩ : ∃ b, samI q p = b := ⟨_, rfl⟩
  obtain ⟨ba, hs3⟩ : ∃ b, aboveL q p = b := ⟨_, rfl⟩
  rw [hs0, hs1, hs2, hs3] at hs
  have HS := hd hs0
  have HSL := hd hs1
  have HSS := hd hs2
  have HSA := hd hs3
  have HSC := hd hs
  clear hs hs0 hs1 hs2 hs3
  go_enter Try.func13, Try.ntmps13
  go_upto_region 10 with (first
      | (go_at_call 15; (try rw [← HW.out]); refine Calls.mono (rsmall_at (by first | exact HP.out _ HBc.out | exact HQ.out _ HBc.out | exact HT.out _ HBc.out) (by first | exact H1.out | exact H2.out | exact H3.out)) ?_; rintro e w9 ⟨rfl, b9⟩; have HBc := hd (step_b HBc.out b9); clear b9 x0 x1 x2 x3; obtain ⟨x0, x1, x2, x3⟩ := HK.out _ HBc.out)
      | (go_at_call 14; refine Calls.mono (rsame_at (HQ.out _ HBc.out) (HP.out _ HBc.out) HSS.out) ?_; rintro e w9 ⟨rfl, b9⟩; have HBc := hd (step_b HBc.out b9); clear b9 x0 x1 x2 x3; obtain ⟨x0, x1, x2, x3⟩ := HK.out _ HBc.out)
      | (go_at_call 25; refine Calls.mono (rabove_at (HQ.out _ HBc.out) (HP.out _ HBc.out) HSA.out) ?_; rintro e w9 ⟨rfl, b9⟩; have HBc := hd (step_b HBc.out b9); clear b9 x0 x1 x2 x3; obtain ⟨x0, x1, x2, x3⟩ := HK.out _ HBc.out)
      | (go_at_call 26; refine Calls.mono (rleft_at (HQ.out _ HBc.out) (HP.out _ HBc.out) HSL.out) ?_; rintro e w9 ⟨rfl, b9⟩; have HBc := hd (step_b HBc.out b9); clear b9 x0 x1 x2 x3; obtain ⟨x0, x1, x2, x3⟩ := HK.out _ HBc.out))
  by_cases hK1 : K = 1
  · subst hK1
    rcases HSC.out with ⟨rfl, rfl, rfl, rfl⟩ | ⟨rfl, rfl, rfl, rfl⟩ | ⟨rfl, rfl, rfl, rfl⟩ | ⟨rfl, rfl, rfl, rfl⟩
    · have HKN := hd (show k + 1 ≤ p.length by have h := stand_len HS.out (by decide); have h2 := HLQ.out; omega)
      have HF := hd (show moveL _ q t pos p = (plusL p k [1], true) by rw [HL.out]; simp [moveB, HS.out, HLQ.out])
      go_wp2_with (first
        | (go_at_call 27; refine Calls.mono (rby_at (HP.out _ HBc.out) (HQ.out _ HBc.out) HLQ.out HKN.out HML.out (by omega)) ?_; rintro e w9 ⟨v9, rfl, ho, b9⟩; have HO := hd (ho.weaken (b' := w.heap.size) (Nat.le_trans HB0.out.size HBc.out.size)); have HB9 := hd (step_b HBc.out b9); clear b9 ho)
        | (go_at_call 11; refine Calls.mono (rcopy_at (HP.out _ HBc.out)) ?_; rintro e w9 ⟨v9, rfl, ho, b9⟩; have HO := hd (ho.weaken (b' := w.heap.size) (Nat.le_trans HB0.out.size HBc.out.size)); have HB9 := hd (step_b HBc.out b9); clear b9 ho))
      go_ret2
      exact newPB_ret HF.out HO.out (HB0.out.trans (HB9.out.mono HB0.out.size))
    · have HKN := hd (show k + 1 ≤ p.length by have h := stand_len HS.out (by decide); have h2 := HLQ.out; omega)
      have HF := hd (show moveL _ q t pos p = (plusL p k [1], true) by rw [HL.out]; simp [moveB, HS.out, HLQ.out])
      go_wp2_with (first
        | (go_at_call 27; refine Calls.mono (rby_at (HP.out _ HBc.out) (HQ.out _ HBc.out) HLQ.out HKN.out HML.out (by omega)) ?_; rintro e w9 ⟨v9, rfl, ho, b9⟩; have HO := hd (ho.weaken (b' := w.heap.size) (Nat.le_trans HB0.out.size HBc.out.size)); have HB9 := hd (step_b HBc.out b9); clear b9 ho)
        | (go_at_call 11; refine Calls.mono (rcopy_at (HP.out _ HBc.out)) ?_; rintro e w9 ⟨v9, rfl, ho, b9⟩; have HO := hd (ho.weaken (b' := w.heap.size) (Nat.le_trans HB0.out.size HBc.out.size)); have HB9 := hd (step_b HBc.out b9); clear b9 ho))
      go_ret2
      exact newPB_ret HF.out HO.out (HB0.out.trans (HB9.out.mono HB0.out.size))
    · have HKN := hd (show k + 1 ≤ p.length by have h := stand_len HS.out (by decide); have h2 := HLQ.out; omega)
      have HF := hd (show moveL _ q t pos p = (plusL p k [1], true) by rw [HL.out]; simp [moveB, HS.out, HLQ.out])
      go_wp2_with (first
        | (go_at_call 27; refine Calls.mono (rby_at (HP.out _ HBc.out) (HQ.out _ HBc.out) HLQ.out HKN.out HML.out (by omega)) ?_; rintro e w9 ⟨v9, rfl, ho, b9⟩; have HO := hd (ho.weaken (b' := w.heap.size) (Nat.le_trans HB0.out.size HBc.out.size)); have HB9 := hd (step_b HBc.out b9); clear b9 ho)
        | (go_at_call 11; refine Calls.mono (rcopy_at (HP.out _ HBc.out)) ?_; rintro e w9 ⟨v9, rfl, ho, b9⟩; have HO := hd (ho.weaken (b' := w.heap.size) (Nat.le_trans HB0.out.size HBc.out.size)); have HB9 := hd (step_b HBc.out b9); clear b9 ho))
      go_ret2
      exact newPB_ret HF.out HO.out (HB0.out.trans (HB9.out.mono HB0.out.size))
    · have HF := hd (show moveL _ q t pos p = (p, true) by rw [HL.out]; simp [moveB, HS.out, HLQ.out])
      go_wp2_with (first
        | (go_at_call 27; refine Calls.mono (rby_at (HP.out _ HBc.out) (HQ.out _ HBc.out) HLQ.out HKN.out HML.out (by omega)) ?_; rintro e w9 ⟨v9, rfl, ho, b9⟩; have HO := hd (ho.weaken (b' := w.heap.size) (Nat.le_trans HB0.out.size HBc.out.size)); have HB9 := hd (step_b HBc.out b9); clear b9 ho)
        | (go_at_call 11; refine Calls.mono (rcopy_at (HP.out _ HBc.out)) ?_; rintro e w9 ⟨v9, rfl, ho, b9⟩; have HO := hd (ho.weaken (b' := w.heap.size) (Nat.le_trans HB0.out.size HBc.out.size)); have HB9 := hd (step_b HBc.out b9); clear b9 ho))
      go_ret2
      exact newPB_ret HF.out HO.out (HB0.out.trans (HB9.out.mono HB0.out.size))
  by_cases hK2 : K = 2
  · subst hK2
    rcases HSC.out with ⟨rfl, rfl, rfl, rfl⟩ | ⟨rfl, rfl, rfl, rfl⟩ | ⟨rfl, rfl, rfl, rfl⟩ | ⟨rfl, rfl, rfl, rfl⟩
    · have HKN := hd (show k + 1 ≤ p.length by have h := stand_len HS.out (by decide); have h2 := HLQ.out; omega)
      have HF := hd (show moveL _ q t pos p = (plusL p k [-1], true) by rw [HL.out]; simp [moveB, HS.out, HLQ.out])
      go_wp2_with (first
        | (go_at_call 27; refine Calls.mono (rby_at (HP.out _ HBc.out) (HQ.out _ HBc.out) HLQ.out HKN.out HML.out (by omega)) ?_; rintro e w9 ⟨v9, rfl, ho, b9⟩; have HO := hd (ho.weaken (b' := w.heap.size) (Nat.le_trans HB0.out.size HBc.out.size)); have HB9 := hd (step_b HBc.out b9); clear b9 ho)
        | (go_at_call 11; refine Calls.mono (rcopy_at (HP.out _ HBc.out)) ?_; rintro e w9 ⟨v9, rfl, ho, b9⟩; have HO := hd (ho.weaken (b' := w.heap.size) (Nat.le_trans HB0.out.size HBc.out.size)); have HB9 := hd (step_b HBc.out b9); clear b9 ho))
      go_ret2
      exact newPB_ret HF.out HO.out (HB0.out.trans (HB9.out.mono HB0.out.size))
    · have HF := hd (show moveL 2 q t pos p = noR by rw [HL.out]; simp [moveB, HS.out, HLQ.out])
      go_wp2
      go_ret2
      exact newPB_ret HF.out (OwnI.nil _ _) (HB0.out.trans (HBc.out.mono HB0.out.size))
    · have HF := hd (show moveL 2 q t pos p = noR by rw [HL.out]; simp [moveB, HS.out, HLQ.out])
      go_wp2
      go_ret2
      exact newPB_ret HF.out (OwnI.nil _ _) (HB0.out.trans (HBc.out.mono HB0.out.size))
    · have HF := hd (show moveL _ q t pos p = (p, true) by rw [HL.out]; simp [moveB, HS.out, HLQ.out])
      go_wp2_with (first
        | (go_at_call 27; refine Calls.mono (rby_at (HP.out _ HBc.out) (HQ.out _ HBc.out) HLQ.out HKN.out HML.out (by omega)) ?_; rintro e w9 ⟨v9, rfl, ho, b9⟩; have HO := hd (ho.weaken (b' := w.heap.size) (Nat.le_trans HB0.out.size HBc.out.size)); have HB9 := hd (step_b HBc.out b9); clear b9 ho)
        | (go_at_call 11; refine Calls.mono (rcopy_at (HP.out _ HBc.out)) ?_; rintro e w9 ⟨v9, rfl, ho, b9⟩; have HO := hd (ho.weaken (b' := w.heap.size) (Nat.le_trans HB0.out.size HBc.out.size)); have HB9 := hd (step_b HBc.out b9); clear b9 ho))
      go_ret2
      exact newPB_ret HF.out HO.out (HB0.out.trans (HB9.out.mono HB0.out.size))
  by_cases hK3 : K = 3
  · subst hK3
    obtain ⟨b1, o1, rfl, hb1, e1⟩ := (HIQ.out _ HBc.out).at_ (show k < q.length by have := HLQ.out; omega)
    by_cases hz : iAt q k = 0
    · have hz' : (iAt q k == 0) = true := by simp [hz]
      have HF := hd (show moveL 3 q t pos p = noR by rw [HL.out]; simp [moveB, lastL, HLQ.out, hz])
      clear hz
      go_wp2
      go_ret2
      exact newPB_ret HF.out (OwnI.nil _ _) (HB0.out.trans (HBc.out.mono HB0.out.size))
    have hz' : (iAt q k == 0) = false := by simp [hz]
    have HZ := hd hz
    clear hz
    rcases HSC.out with ⟨rfl, rfl, rfl, rfl⟩ | ⟨rfl, rfl, rfl, rfl⟩ | ⟨rfl, rfl, rfl, rfl⟩ | ⟨rfl, rfl, rfl, rfl⟩
    · have HKN := hd (show k + 1 ≤ p.length by have h := stand_len HS.out (by decide); have h2 := HLQ.out; omega)
      have HF := hd (show moveL _ q t pos p = (plusL p k [-1], true) by rw [HL.out]; simp [moveB, HS.out, HLQ.out, lastL, HZ.out])
      go_wp2_with (first
        | (go_at_call 27; refine Calls.mono (rby_at (HP.out _ HBc.out) (HQ.out _ HBc.out) HLQ.out HKN.out HML.out (by omega)) ?_; rintro e w9 ⟨v9, rfl, ho, b9⟩; have HO := hd (ho.weaken (b' := w.heap.size) (Nat.le_trans HB0.out.size HBc.out.size)); have HB9 := hd (step_b HBc.out b9); clear b9 ho)
        | (go_at_call 11; refine Calls.mono (rcopy_at (HP.out _ HBc.out)) ?_; rintro e w9 ⟨v9, rfl, ho, b9⟩; have HO := hd (ho.weaken (b' := w.heap.size) (Nat.le_trans HB0.out.size HBc.out.size)); have HB9 := hd (step_b HBc.out b9); clear b9 ho))
      go_ret2
      exact newPB_ret HF.out HO.out (HB0.out.trans (HB9.out.mono HB0.out.size))
    · have HKN := hd (show k + 1 ≤ p.length by have h := stand_len HS.out (by decide); have h2 := HLQ.out; omega)
      have HF := hd (show moveL _ q t pos p = (plusL p k [-1], true) by rw [HL.out]; simp [moveB, HS.out, HLQ.out, lastL, HZ.out])
      go_wp2_with (first
        | (go_at_call 27; refine Calls.mono (rby_at (HP.out _ HBc.out) (HQ.out _ HBc.out) HLQ.out HKN.out HML.out (by omega)) ?_; rintro e w9 ⟨v9, rfl, ho, b9⟩; have HO := hd (ho.weaken (b' := w.heap.size) (Nat.le_trans HB0.out.size HBc.out.size)); have HB9 := hd (step_b HBc.out b9); clear b9 ho)
        | (go_at_call 11; refine Calls.mono (rcopy_at (HP.out _ HBc.out)) ?_; rintro e w9 ⟨v9, rfl, ho, b9⟩; have HO := hd (ho.weaken (b' := w.heap.size) (Nat.le_trans HB0.out.size HBc.out.size)); have HB9 := hd (step_b HBc.out b9); clear b9 ho))
      go_ret2
      exact newPB_ret HF.out HO.out (HB0.out.trans (HB9.out.mono HB0.out.size))
    · have HKN := hd (show k + 1 ≤ p.length by have h := stand_len HS.out (by decide); have h2 := HLQ.out; omega)
      have HKN2 := hd (show k + 2 ≤ p.length by have h := stand_above HS.out; have h2 := HLQ.out; omega)
      have hkn : k + 1 < n := by have h := HKN2.out; have h2 := HN.out; omega
      have HF := hd (show moveL 3 q t pos p = ((plusL p k [-1]).set (k + 1) (iAt p (k + 1) + pos), true) by
        rw [HL.out, ← plus_set]; simp [moveB, HS.out, HLQ.out, lastL, HZ.out])
      go_upto_region 25 with (first
        | (go_at_call 27; refine Calls.mono (rby_at (HP.out _ HBc.out) (HQ.out _ HBc.out) HLQ.out HKN.out HML.out (by omega)) ?_; rintro e w9 ⟨v9, rfl, ho, b9⟩; have HO := hd (ho.weaken (b' := W0.heap.size) HBc.out.size); have HB9 := hd (step_b HBc.out b9); clear b9 ho)
        | (go_at_call 11; refine Calls.mono (rcopy_at (HP.out _ HBc.out)) ?_; rintro e w9 ⟨v9, rfl, ho, b9⟩; have HO := hd (ho.weaken (b' := W0.heap.size) HBc.out.size); have HB9 := hd (step_b HBc.out b9); clear b9 ho))
      obtain ⟨g, c9, r0, r1, r2, r3, r4x, r5, r6, r7⟩ := HO.out.form (by rw [plusL_len]; have h := HKN2.out; omega)
      have e9 := r5 (k + 1) (by rw [plusL_len]; exact HKN2.out)
      rw [plusL_next _ _ _ _ (by simp)] at e9
      rw [plusL_len, HN.out] at r0
      subst r0
      have f9 := r6 (k + 1)
      have H7 := hd (r7 (k + 1) (iAt p (k + 1) + pos))
      have hbp := HML.out (k + 1) HKN2.out
      have HB10 := hd ((step_b HB9.out (below_drewN (Below.refl _ _) 1 : Below w9.heap.size w9 w9.drew)).setCell (p := ⟨g, k + 1, none⟩) r3 (.int .i64 (iAt p (k + 1) + pos)))
      obtain ⟨y0, y1, y2, y3⟩ := HK.out _ HB9.out
      clear x0 x1 x2 x3 r1 r5 r6 r7
      have i0 : (0 : Int) ≤ (k : Int) + 1 := by omega
      have i1 : (k : Int) + 1 < (n : Int) := by omega
      have i2 : ((k : Int) + 1).toNat = k + 1 := by omega
      have i3 : IntKind.i64.wrap (iAt p (k + 1) + pos) = iAt p (k + 1) + pos := IntWalk.i64_in _ (by omega)
      go_still_tail 9, (by kernel_rfl)
      show wpList _ _ _ _ _ w9.drew
      go_wp2
      go_ret2
      exact newPB_ret HF.out (H7.out.weaken HB0.out.size) (HB0.out.trans (HB10.out.mono HB0.out.size))
    · have HF := hd (show moveL _ q t pos p = (p, true) by rw [HL.out]; simp [moveB, HS.out, HLQ.out, lastL, HZ.out])
      go_wp2_with (first
        | (go_at_call 27; refine Calls.mono (rby_at (HP.out _ HBc.out) (HQ.out _ HBc.out) HLQ.out HKN.out HML.out (by omega)) ?_; rintro e w9 ⟨v9, rfl, ho, b9⟩; have HO := hd (ho.weaken (b' := w.heap.size) (Nat.le_trans HB0.out.size HBc.out.size)); have HB9 := hd (step_b HBc.out b9); clear b9 ho)
        | (go_at_call 11; refine Calls.mono (rcopy_at (HP.out _ HBc.out)) ?_; rintro e w9 ⟨v9, rfl, ho, b9⟩; have HO := hd (ho.weaken (b' := w.heap.size) (Nat.le_trans HB0.out.size HBc.out.size)); have HB9 := hd (step_b HBc.out b9); clear b9 ho))
      go_ret2
      exact newPB_ret HF.out HO.out (HB0.out.trans (HB9.out.mono HB0.out.size))
  by_cases hK4 : K = 4
  · subst hK4
    rcases HSC.out with ⟨rfl, rfl, rfl, rfl⟩ | ⟨rfl, rfl, rfl, rfl⟩ | ⟨rfl, rfl, rfl, rfl⟩ | ⟨rfl, rfl, rfl, rfl⟩
    · have HKN := hd (show k + 1 ≤ p.length by have h := stand_len HS.out (by decide); have h2 := HLQ.out; omega)
      have HF := hd (show moveL _ q t pos p = (plusL p k [1], true) by rw [HL.out]; simp [moveB, HS.out, HLQ.out])
      go_wp2_with (first
        | (go_at_call 27; refine Calls.mono (rby_at (HP.out _ HBc.out) (HQ.out _ HBc.out) HLQ.out HKN.out HML.out (by omega)) ?_; rintro e w9 ⟨v9, rfl, ho, b9⟩; have HO := hd (ho.weaken (b' := w.heap.size) (Nat.le_trans HB0.out.size HBc.out.size)); have HB9 := hd (step_b HBc.out b9); clear b9 ho)
        | (go_at_call 11; refine Calls.mono (rcopy_at (HP.out _ HBc.out)) ?_; rintro e w9 ⟨v9, rfl, ho, b9⟩; have HO := hd (ho.weaken (b' := w.heap.size) (Nat.le_trans HB0.out.size HBc.out.size)); have HB9 := hd (step_b HBc.out b9); clear b9 ho))
      go_ret2
      exact newPB_ret HF.out HO.out (HB0.out.trans (HB9.out.mono HB0.out.size))
    · go_upto_region 30 with fail
      go_quiet (fail)
      generalize hw5 : World.drewN _ _ = w5
      have HBc := hd (show Below W0.heap.size W0 w5 from hw5 ▸ below_drewN HBc.out _)
      clear hw5 x0 x1 x2 x3
      obtain ⟨x0, x1, x2, x3⟩ := HK.out _ HBc.out
      have HF := hd (show moveL _ q t pos p = (p, true) by rw [HL.out]; simp [moveB, HS.out, HLQ.out])
      go_wp2_with (first
        | (go_at_call 27; refine Calls.mono (rby_at (HP.out _ HBc.out) (HQ.out _ HBc.out) HLQ.out HKN.out HML.out (by omega)) ?_; rintro e w9 ⟨v9, rfl, ho, b9⟩; have HO := hd (ho.weaken (b' := w.heap.size) (Nat.le_trans HB0.out.size HBc.out.size)); have HB9 := hd (step_b HBc.out b9); clear b9 ho)
        | (go_at_call 11; refine Calls.mono (rcopy_at (HP.out _ HBc.out)) ?_; rintro e w9 ⟨v9, rfl, ho, b9⟩; have HO := hd (ho.weaken (b' := w.heap.size) (Nat.le_trans HB0.out.size HBc.out.size)); have HB9 := hd (step_b HBc.out b9); clear b9 ho))
      go_ret2
      exact newPB_ret HF.out HO.out (HB0.out.trans (HB9.out.mono HB0.out.size))
    · have HKN := hd (show k + 1 ≤ p.length by have h := stand_len HS.out (by decide); have h2 := HLQ.out; omega)
      have HKN2 := hd (show k + 2 ≤ p.length by have h := stand_above HS.out; have h2 := HLQ.out; omega)
      have hkn : k + 1 < n := by have h := HKN2.out; have h2 := HN.out; omega
      obtain ⟨b1, o1, rfl, hb1, e1⟩ := (HIP.out _ HBc.out).at_ (show k + 1 < p.length from HKN2.out)
      by_cases hpp : pos ≤ iAt p (k + 1)
      · go_upto_region 30 with fail
        go_quiet (fail)
        generalize hw5 : World.drewN _ _ = w5
        have HBc := hd (show Below W0.heap.size W0 w5 from hw5 ▸ below_drewN HBc.out _)
        clear hw5 x0 x1 x2 x3
        obtain ⟨x0, x1, x2, x3⟩ := HK.out _ HBc.out
        have HF := hd (show moveL 4 q t pos p = ((plusL p k [1]).set (k + 1) (iAt p (k + 1) - pos), true) by
          rw [HL.out, Int.sub_eq_add_neg, ← plus_set]; simp [moveB, HS.out, HLQ.out, hpp])
        go_upto_region 32 with (first
          | (go_at_call 27; refine Calls.mono (rby_at (HP.out _ HBc.out) (HQ.out _ HBc.out) HLQ.out HKN.out HML.out (by omega)) ?_; rintro e w9 ⟨v9, rfl, ho, b9⟩; have HO := hd (ho.weaken (b' := W0.heap.size) HBc.out.size); have HB9 := hd (step_b HBc.out b9); clear b9 ho)
          | (go_at_call 11; refine Calls.mono (rcopy_at (HP.out _ HBc.out)) ?_; rintro e w9 ⟨v9, rfl, ho, b9⟩; have HO := hd (ho.weaken (b' := W0.heap.size) HBc.out.size); have HB9 := hd (step_b HBc.out b9); clear b9 ho))
        obtain ⟨g, c9, r0, r1, r2, r3, r4x, r5, r6, r7⟩ := HO.out.form (by rw [plusL_len]; have h := HKN2.out; omega)
        have e9 := r5 (k + 1) (by rw [plusL_len]; exact HKN2.out)
        rw [plusL_next _ _ _ _ (by simp)] at e9
        rw [plusL_len, HN.out] at r0
        subst r0
        have f9 := r6 (k + 1)
        have H7 := hd (r7 (k + 1) (iAt p (k + 1) - pos))
        have hbp := HML.out (k + 1) HKN2.out
        have HB10 := hd ((step_b HB9.out (below_drewN (Below.refl _ _) 1 : Below w9.heap.size w9 w9.drew)).setCell (p := ⟨g, k + 1, none⟩) r3 (.int .i64 (iAt p (k + 1) - pos)))
        obtain ⟨y0, y1, y2, y3⟩ := HK.out _ HB9.out
        clear x0 x1 x2 x3 r1 r5 r6 r7
        have i0 : (0 : Int) ≤ (k : Int) + 1 := by omega
        have i1 : (k : Int) + 1 < (n : Int) := by omega
        have i2 : ((k : Int) + 1).toNat = k + 1 := by omega
        have i3 : IntKind.i64.wrap (iAt p (k + 1) - pos) = iAt p (k + 1) - pos := IntWalk.i64_in _ (by omega)
        go_still_tail 9, (by kernel_rfl)
        show wpList _ _ _ _ _ w9.drew
        go_wp2
        go_ret2
        exact newPB_ret HF.out (H7.out.weaken HB0.out.size) (HB0.out.trans (HB10.out.mono HB0.out.size))
      · have hpp' : decide (pos ≤ iAt p (k + 1)) = false := decide_eq_false hpp
        have HPP := hd hpp
        clear hpp
        go_upto_region 30 with fail
        go_quiet (fail)
        generalize hw5 : World.drewN _ _ = w5
        have HBc := hd (show Below W0.heap.size W0 w5 from hw5 ▸ below_drewN HBc.out _)
        clear hw5 x0 x1 x2 x3
        obtain ⟨x0, x1, x2, x3⟩ := HK.out _ HBc.out
        have HF := hd (show moveL _ q t pos p = (p, true) by rw [HL.out]; simp [moveB, HS.out, HLQ.out, HPP.out])
        go_wp2_with (first
          | (go_at_call 27; refine Calls.mono (rby_at (HP.out _ HBc.out) (HQ.out _ HBc.out) HLQ.out HKN.out HML.out (by omega)) ?_; rintro e w9 ⟨v9, rfl, ho, b9⟩; have HO := hd (ho.weaken (b' := w.heap.size) (Nat.le_trans HB0.out.size HBc.out.size)); have HB9 := hd (step_b HBc.out b9); clear b9 ho)
          | (go_at_call 11; refine Calls.mono (rcopy_at (HP.out _ HBc.out)) ?_; rintro e w9 ⟨v9, rfl, ho, b9⟩; have HO := hd (ho.weaken (b' := w.heap.size) (Nat.le_trans HB0.out.size HBc.out.size)); have HB9 := hd (step_b HBc.out b9); clear b9 ho))
        go_ret2
        exact newPB_ret HF.out HO.out (HB0.out.trans (HB9.out.mono HB0.out.size))
    · go_upto_region 30 with fail
      go_quiet (fail)
      generalize hw5 : World.drewN _ _ = w5
      have HBc := hd (show Below W0.heap.size W0 w5 from hw5 ▸ below_drewN HBc.out _)
      clear hw5 x0 x1 x2 x3
      obtain ⟨x0, x1, x2, x3⟩ := HK.out _ HBc.out
      have HF := hd (show moveL _ q t pos p = (p, true) by rw [HL.out]; simp [moveB, HS.out, HLQ.out])
      go_wp2_with (first
        | (go_at_call 27; refine Calls.mono (rby_at (HP.out _ HBc.out) (HQ.out _ HBc.out) HLQ.out HKN.out HML.out (by omega)) ?_; rintro e w9 ⟨v9, rfl, ho, b9⟩; have HO := hd (ho.weaken (b' := w.heap.size) (Nat.le_trans HB0.out.size HBc.out.size)); have HB9 := hd (step_b HBc.out b9); clear b9 ho)
        | (go_at_call 11; refine Calls.mono (rcopy_at (HP.out _ HBc.out)) ?_; rintro e w9 ⟨v9, rfl, ho, b9⟩; have HO := hd (ho.weaken (b' := w.heap.size) (Nat.le_trans HB0.out.size HBc.out.size)); have HB9 := hd (step_b HBc.out b9); clear b9 ho))
      go_ret2
      exact newPB_ret HF.out HO.out (HB0.out.trans (HB9.out.mono HB0.out.size))
  have k1 : (K == 1) = false := by simp [hK1]
  have k2 : (K == 2) = false := by simp [hK2]
  have k3 : (K == 3) = false := by simp [hK3]
  have k4 : (K == 4) = false := by simp [hK4]
  have k5 : (K == 5) = false := by simp [hK5]
  have HF := hd (show moveL K q t pos p = (p, true) by rw [HL.out]; simp [moveB, hK1, hK2, hK3, hK4])
  clear hK1 hK2 hK3 hK4 hK5
  go_wp2_with (first
    | (go_at_call 27; refine Calls.mono (rby_at (HP.out _ HBc.out) (HQ.out _ HBc.out) HLQ.out HKN.out HML.out (by omega)) ?_; rintro e w9 ⟨v9, rfl, ho, b9⟩; have HO := hd (ho.weaken (b' := w.heap.size) (Nat.le_trans HB0.out.size HBc.out.size)); have HB9 := hd (step_b HBc.out b9); clear b9 ho)
    | (go_at_call 11; refine Calls.mono (rcopy_at (HP.out _ HBc.out)) ?_; rintro e w9 ⟨v9, rfl, ho, b9⟩; have HO := hd (ho.weaken (b' := w.heap.size) (Nat.le_trans HB0.out.size HBc.out.size)); have HB9 := hd (step_b HBc.out b9); clear b9 ho))
  go_ret2
  exact newPB_ret HF.out HO.out (HB0.out.trans (HB9.out.mono HB0.out.size))

end Go.Proofs.Ytindjfiomilocaa
