/- Move answers what the plain functions say: operations that move no node elsewhere. -/
import Derived.Test.YtmglnjmnabjjgaaJXCalls
namespace Go.Proofs.Ytmglnjmnabjjgaa
open Go.RowKit

theorem moveL_out {K pos : Int} {q t p : List Int} (h : (smallI p && smallI q && smallI t && smallN pos) = false) : moveL K q t pos p = noR := by unfold moveL; rw [h]; rfl
set_option maxRecDepth 4000 in
theorem moveL_in {K pos : Int} {q t p : List Int} (h : (smallI p && smallI q && smallI t && smallN pos) = true) (hK : K ≠ 5) : moveL K q t pos p = moveB K q pos p := by unfold moveL; rw [h, if_pos rfl, if_neg (fun h => hK h.1)]
set_option maxRecDepth 4000 in
theorem moveB_0 {K pos : Int} {q p : List Int} (h : q.length = 0) : moveB K q pos p = (p, true) := by unfold moveB; rw [if_pos h]
set_option maxRecDepth 4000 in
theorem stand_len {q p : List Int} {s : Int} (h : standL q p = s) (hs : s ≠ 0) : q.length ≤ p.length := by
  subst h
  rcases standL_cases q p with ⟨h0, h1, _, _⟩ | ⟨h0, _, h2, _⟩ | ⟨h0, _, _, h3⟩ | ⟨h0, _⟩
  · rw [leftL_iff] at h1; omega
  · unfold samI at h2; rw [of_decide_eq_true h2]; exact Nat.le_refl _
  · rw [aboveL_iff] at h3; omega
  · exact absurd h0 hs
set_option maxRecDepth 4000 in
theorem stand_above {q p : List Int} (h : standL q p = 3) : q.length < p.length := by
  rcases standL_cases q p with ⟨h0, _⟩ | ⟨h0, _⟩ | ⟨_, _, _, h3⟩ | ⟨h0, _⟩
  · omega
  · omega
  · rw [aboveL_iff] at h3; omega
  · omega

set_option maxRecDepth 100000 in
set_option maxHeartbeats 8000000 in
theorem mvB_any (A Q T : Option Addr) (p q t : List Int) (n lq lt c cq ct : Nat) (K pos : Int) (r4 r5 r6 r7 r8 r9 r10 r11 r12 r13 r14 r15 r16 r17 r18 r19 r20 : Value) (w : World) (hn : p.length = n) (hlq : q.length = lq) (hlt : t.length = lt) (hl : n ≤ 1000) (hl2 : lq ≤ 1000) (hl3 : lt ≤ 1000) (hc : n ≤ c) (hc2 : lq ≤ cq) (hc3 : lt ≤ ct) (hK5 : K ≠ 5) (hp : IL w w.heap.size A p) (hq : IL w w.heap.size Q q) (ht : IL w w.heap.size T t) :
    Calls Try.prog 39 #[.slice A n c, .agg #[.int .i64 K, .slice Q lq cq, .slice T lt ct, .int .i64 pos, r4, r5, r6, r7, r8, r9, r10, r11, r12, r13, r14, r15, r16, r17, r18, r19, r20]] w (NewPB w (moveL K q t pos p)) := by
  obtain ⟨W0, hW⟩ : ∃ W0, W0 = w.alloc (.cells #[Value.int .i64 K, .slice Q lq cq, .slice T lt ct, .int .i64 pos, r4, r5, r6, r7, r8, r9, r10, r11, r12, r13, r14, r15, r16, r17, r18, r19, r20] 53) := ⟨_, rfl⟩
  have hb0 : Below w.heap.size w W0 := hW ▸ new_below w _
  have e0 : W0.heap[w.heap.size]? = some (.cells #[Value.int .i64 K, .slice Q lq cq, .slice T lt ct, .int .i64 pos, r4, r5, r6, r7, r8, r9, r10, r11, r12, r13, r14, r15, r16, r17, r18, r19, r20] 53 (0, 0)) := hW ▸ heap_alloc_new _ _
  have HK := hd (show ∀ W, Below W0.heap.size W0 W → (W.cell? ⟨w.heap.size, 0, none⟩ = some (.int .i64 K) ∧ W.cell? ⟨w.heap.size, 1, none⟩ = some (.slice Q lq cq) ∧ W.cell? ⟨w.heap.size, 2, none⟩ = some (.slice T lt ct) ∧ W.cell? ⟨w.heap.size, 3, none⟩ = some (.int .i64 pos)) from fun W h => op_cells (xkeep e0 h))
  have HIP := hd (fun W (h : Below W0.heap.size W0 W) => hp.later (hb0.trans (h.mono hb0.size)))
  have HIQ := hd (fun W (h : Below W0.heap.size W0 W) => hq.later (hb0.trans (h.mono hb0.size)))
  have HIT := hd (fun W (h : Below W0.heap.size W0 W) => ht.later (hb0.trans (h.mono hb0.size)))
  have HP := hd (show ∀ W, Below W0.heap.size W0 W → XA W (.slice A n c) p from fun W h => ⟨A, n, c, rfl, hn, hl, hc, HIP.out W h⟩)
  have HQ := hd (show ∀ W, Below W0.heap.size W0 W → XA W (.slice Q lq cq) q from fun W h => ⟨Q, lq, cq, rfl, hlq, hl2, hc2, HIQ.out W h⟩)
  have HT := hd (show ∀ W, Below W0.heap.size W0 W → XA W (.slice T lt ct) t from fun W h => ⟨T, lt, ct, rfl, hlt, hl3, hc3, HIT.out W h⟩)
  have HBc := hd (Below.refl W0.heap.size W0)
  have HW := hd hW
  have HB0 := hd hb0
  have HN := hd hn
  have HLQ := hd hlq
  have HLT := hd hlt
  have H4 := hd (smallI_one pos)
  obtain ⟨x0, x1, x2, x3⟩ := HK.out W0 HBc.out
  clear hp hq ht hW hb0 e0 hn hlq hlt
  cases h1 : smallI p
  · have HF := hd (moveL_out (K := K) (q := q) (t := t) (pos := pos) (p := p) (by rw [h1]; rfl))
    have H1 := hd h1
    clear h1
    go_enter Try.func39, Try.ntmps39
    go_wp2_with (first
          | (go_at_call 53; (try rw [← HW.out]); refine Calls.mono (within_at (by first | exact HP.out _ HBc.out | exact HQ.out _ HBc.out | exact HT.out _ HBc.out | exact xa_one _ _ _) (by first | exact H1.out | exact H2.out | exact H3.out | exact H4.out)) ?_; rintro e w9 ⟨rfl, b9⟩; have HBc := hd (show Below W0.heap.size W0 w9 from by first | exact step_b HBc.out b9 | exact step_b (HBc.out.alloc HBc.out.size _) b9); clear b9 x0 x1 x2 x3; obtain ⟨x0, x1, x2, x3⟩ := HK.out _ HBc.out))
    go_ret2
    exact newPB_ret HF.out (OwnI.nil _ _) (HB0.out.trans (HBc.out.mono HB0.out.size))
  have H1 := hd h1
  cases h2 : smallI q
  · have H2 := hd h2
    have HF := hd (moveL_out (K := K) (q := q) (t := t) (pos := pos) (p := p) (by rw [h2]; simp))
    clear h1 h2
    go_enter Try.func39, Try.ntmps39
    go_wp2_with (first
          | (go_at_call 53; (try rw [← HW.out]); refine Calls.mono (within_at (by first | exact HP.out _ HBc.out | exact HQ.out _ HBc.out | exact HT.out _ HBc.out | exact xa_one _ _ _) (by first | exact H1.out | exact H2.out | exact H3.out | exact H4.out)) ?_; rintro e w9 ⟨rfl, b9⟩; have HBc := hd (show Below W0.heap.size W0 w9 from by first | exact step_b HBc.out b9 | exact step_b (HBc.out.alloc HBc.out.size _) b9); clear b9 x0 x1 x2 x3; obtain ⟨x0, x1, x2, x3⟩ := HK.out _ HBc.out))
    go_ret2
    exact newPB_ret HF.out (OwnI.nil _ _) (HB0.out.trans (HBc.out.mono HB0.out.size))
  have H2 := hd h2
  cases h3 : smallI t
  · have H3 := hd h3
    have HF := hd (moveL_out (K := K) (q := q) (t := t) (pos := pos) (p := p) (by rw [h3]; simp))
    clear h1 h2 h3
    go_enter Try.func39, Try.ntmps39
    go_wp2_with (first
          | (go_at_call 53; (try rw [← HW.out]); refine Calls.mono (within_at (by first | exact HP.out _ HBc.out | exact HQ.out _ HBc.out | exact HT.out _ HBc.out | exact xa_one _ _ _) (by first | exact H1.out | exact H2.out | exact H3.out | exact H4.out)) ?_; rintro e w9 ⟨rfl, b9⟩; have HBc := hd (show Below W0.heap.size W0 w9 from by first | exact step_b HBc.out b9 | exact step_b (HBc.out.alloc HBc.out.size _) b9); clear b9 x0 x1 x2 x3; obtain ⟨x0, x1, x2, x3⟩ := HK.out _ HBc.out))
    go_ret2
    exact newPB_ret HF.out (OwnI.nil _ _) (HB0.out.trans (HBc.out.mono HB0.out.size))
  have H3 := hd h3
  cases h4 : smallN pos
  · have HF := hd (moveL_out (K := K) (q := q) (t := t) (pos := pos) (p := p) (by rw [h4]; simp))
    rw [h4] at H4
    clear h1 h2 h3 h4
    go_enter Try.func39, Try.ntmps39
    go_wp2_with (first
          | (go_at_call 53; (try rw [← HW.out]); refine Calls.mono (within_at (by first | exact HP.out _ HBc.out | exact HQ.out _ HBc.out | exact HT.out _ HBc.out | exact xa_one _ _ _) (by first | exact H1.out | exact H2.out | exact H3.out | exact H4.out)) ?_; rintro e w9 ⟨rfl, b9⟩; have HBc := hd (show Below W0.heap.size W0 w9 from by first | exact step_b HBc.out b9 | exact step_b (HBc.out.alloc HBc.out.size _) b9); clear b9 x0 x1 x2 x3; obtain ⟨x0, x1, x2, x3⟩ := HK.out _ HBc.out))
    go_ret2
    exact newPB_ret HF.out (OwnI.nil _ _) (HB0.out.trans (HBc.out.mono HB0.out.size))
  have HL := hd (moveL_in (K := K) (q := q) (t := t) (pos := pos) (p := p) (by rw [h1, h2, h3, h4]; rfl) hK5)
  rw [h4] at H4
  have HML := hd (small_mild h1)
  have HBQ := hd ((smallI_iff q).1 h2)
  obtain ⟨g0, g1⟩ := (smallN_iff pos).1 h4
  clear h1 h2 h3 h4
  rcases lq with _ | k
  · have HF := hd (show moveL K q t pos p = (p, true) by rw [HL.out, moveB_0 HLQ.out])
    go_enter Try.func39, Try.ntmps39
    go_wp2_with (first
      | (go_at_call 53; (try rw [← HW.out]); refine Calls.mono (within_at (by first | exact HP.out _ HBc.out | exact HQ.out _ HBc.out | exact HT.out _ HBc.out | exact xa_one _ _ _) (by first | exact H1.out | exact H2.out | exact H3.out | exact H4.out)) ?_; rintro e w9 ⟨rfl, b9⟩; have HBc := hd (show Below W0.heap.size W0 w9 from by first | exact step_b HBc.out b9 | exact step_b (HBc.out.alloc HBc.out.size _) b9); clear b9 x0 x1 x2 x3; obtain ⟨x0, x1, x2, x3⟩ := HK.out _ HBc.out))
    go_wp2_with (first
          | (go_at_call 54; refine Calls.mono (plus_at (k := 0) rfl (by first | exact HP.out _ HBc.out | exact HP.out _ (HBc.out.alloc HBc.out.size _)) (by first | exact xa_nil _ _ | exact xa_one _ _ _ | exact xa_two _ _ _ _) (by first | exact fun h => absurd rfl h | exact fun _ => HKN.out | exact fun _ => HKN2.out) (by exact HML.out) (by first | exact mild_nil | exact mild_one (by omega) | exact mild_two (by omega) (by omega))) ?_; rintro e w9 ⟨v9, rfl, ho, b9⟩; have HO := hd (ho.weaken (b' := w.heap.size) (by first | exact Nat.le_trans HB0.out.size HBc.out.size | exact Nat.le_trans HB0.out.size (HBc.out.alloc HBc.out.size _).size)); have HB9 := hd (show Below W0.heap.size W0 w9 from by first | exact step_b HBc.out b9 | exact step_b (HBc.out.alloc HBc.out.size _) b9); clear b9 ho))
    go_ret2
    exact newPB_ret HF.out HO.out (HB0.out.trans (HB9.out.mono HB0.out.size))
  obtain ⟨s, hs⟩ : ∃ s, standL q p = s := ⟨_, rfl⟩
  have HS := hd hs
  clear hs
  go_enter Try.func39, Try.ntmps39
  go_upto_region 5 with (first
      | (go_at_call 53; (try rw [← HW.out]); refine Calls.mono (within_at (by first | exact HP.out _ HBc.out | exact HQ.out _ HBc.out | exact HT.out _ HBc.out | exact xa_one _ _ _) (by first | exact H1.out | exact H2.out | exact H3.out | exact H4.out)) ?_; rintro e w9 ⟨rfl, b9⟩; have HBc := hd (show Below W0.heap.size W0 w9 from by first | exact step_b HBc.out b9 | exact step_b (HBc.out.alloc HBc.out.size _) b9); clear b9 x0 x1 x2 x3; obtain ⟨x0, x1, x2, x3⟩ := HK.out _ HBc.out))
  have HS5 := hd (fun j => quiet_in0 (n := j) (stand_at (HQ.out _ (below_drewN HBc.out j)) (HP.out _ (below_drewN HBc.out j)) HS.out))
  go_quiet ((go_at_call 55; exact HS5.out _))
  generalize hw5 : World.drewN _ _ = w5
  have HBc := hd (show Below W0.heap.size W0 w5 from hw5 ▸ below_drewN HBc.out _)
  clear hw5 x0 x1 x2 x3
  obtain ⟨x0, x1, x2, x3⟩ := HK.out _ HBc.out
  clear HS5
  have hs4 : s = 0 ∨ s = 1 ∨ s = 2 ∨ s = 3 := by
    have := HS.out
    rcases standL_cases q p with ⟨h, _⟩ | ⟨h, _⟩ | ⟨h, _⟩ | ⟨h, _⟩ <;> omega
  by_cases hK4 : K = 4
  · subst hK4
    rcases hs4 with rfl | rfl | rfl | rfl
    · go_upto_region 12 with fail
      go_quiet (fail)
      generalize hw5 : World.drewN _ _ = w5
      have HBc := hd (show Below W0.heap.size W0 w5 from hw5 ▸ below_drewN HBc.out _)
      clear hw5 x0 x1 x2 x3
      obtain ⟨x0, x1, x2, x3⟩ := HK.out _ HBc.out
      have HF := hd (show moveL _ q t pos p = (p, true) by rw [HL.out]; simp [moveB, HS.out, HLQ.out])
      go_wp2_with (first
            | (go_at_call 54; refine Calls.mono (plus_at (k := k) rfl (by first | exact HP.out _ HBc.out | exact HP.out _ (HBc.out.alloc HBc.out.size _)) (by first | exact xa_nil _ _ | exact xa_one _ _ _ | exact xa_two _ _ _ _) (by first | exact fun h => absurd rfl h | exact fun _ => HKN.out | exact fun _ => HKN2.out) (by exact HML.out) (by first | exact mild_nil | exact mild_one (by omega) | exact mild_two (by omega) (by omega))) ?_; rintro e w9 ⟨v9, rfl, ho, b9⟩; have HO := hd (ho.weaken (b' := w.heap.size) (by first | exact Nat.le_trans HB0.out.size HBc.out.size | exact Nat.le_trans HB0.out.size (HBc.out.alloc HBc.out.size _).size)); have HB9 := hd (show Below W0.heap.size W0 w9 from by first | exact step_b HBc.out b9 | exact step_b (HBc.out.alloc HBc.out.size _) b9); clear b9 ho))
      go_ret2
      exact newPB_ret HF.out HO.out (HB0.out.trans (HB9.out.mono HB0.out.size))
    · go_upto_region 12 with fail
      go_quiet (fail)
      generalize hw5 : World.drewN _ _ = w5
      have HBc := hd (show Below W0.heap.size W0 w5 from hw5 ▸ below_drewN HBc.out _)
      clear hw5 x0 x1 x2 x3
      obtain ⟨x0, x1, x2, x3⟩ := HK.out _ HBc.out
      have HKN := hd (show k + 1 ≤ p.length by have h := stand_len HS.out (by decide); have h2 := HLQ.out; omega)
      have HF := hd (show moveL _ q t pos p = (plusL p k [1], true) by rw [HL.out]; simp [moveB, HS.out, HLQ.out])
      go_wp2_with (first
            | (go_at_call 54; refine Calls.mono (plus_at (k := k) rfl (by first | exact HP.out _ HBc.out | exact HP.out _ (HBc.out.alloc HBc.out.size _)) (by first | exact xa_nil _ _ | exact xa_one _ _ _ | exact xa_two _ _ _ _) (by first | exact fun h => absurd rfl h | exact fun _ => HKN.out | exact fun _ => HKN2.out) (by exact HML.out) (by first | exact mild_nil | exact mild_one (by omega) | exact mild_two (by omega) (by omega))) ?_; rintro e w9 ⟨v9, rfl, ho, b9⟩; have HO := hd (ho.weaken (b' := w.heap.size) (by first | exact Nat.le_trans HB0.out.size HBc.out.size | exact Nat.le_trans HB0.out.size (HBc.out.alloc HBc.out.size _).size)); have HB9 := hd (show Below W0.heap.size W0 w9 from by first | exact step_b HBc.out b9 | exact step_b (HBc.out.alloc HBc.out.size _) b9); clear b9 ho))
      go_ret2
      exact newPB_ret HF.out HO.out (HB0.out.trans (HB9.out.mono HB0.out.size))
    · go_upto_region 12 with fail
      go_quiet (fail)
      generalize hw5 : World.drewN _ _ = w5
      have HBc := hd (show Below W0.heap.size W0 w5 from hw5 ▸ below_drewN HBc.out _)
      clear hw5 x0 x1 x2 x3
      obtain ⟨x0, x1, x2, x3⟩ := HK.out _ HBc.out
      have HF := hd (show moveL _ q t pos p = (p, true) by rw [HL.out]; simp [moveB, HS.out, HLQ.out])
      go_wp2_with (first
            | (go_at_call 54; refine Calls.mono (plus_at (k := k) rfl (by first | exact HP.out _ HBc.out | exact HP.out _ (HBc.out.alloc HBc.out.size _)) (by first | exact xa_nil _ _ | exact xa_one _ _ _ | exact xa_two _ _ _ _) (by first | exact fun h => absurd rfl h | exact fun _ => HKN.out | exact fun _ => HKN2.out) (by exact HML.out) (by first | exact mild_nil | exact mild_one (by omega) | exact mild_two (by omega) (by omega))) ?_; rintro e w9 ⟨v9, rfl, ho, b9⟩; have HO := hd (ho.weaken (b' := w.heap.size) (by first | exact Nat.le_trans HB0.out.size HBc.out.size | exact Nat.le_trans HB0.out.size (HBc.out.alloc HBc.out.size _).size)); have HB9 := hd (show Below W0.heap.size W0 w9 from by first | exact step_b HBc.out b9 | exact step_b (HBc.out.alloc HBc.out.size _) b9); clear b9 ho))
      go_ret2
      exact newPB_ret HF.out HO.out (HB0.out.trans (HB9.out.mono HB0.out.size))
    · have HKN2 := hd (show k + 2 ≤ p.length by have h := stand_above HS.out; have h2 := HLQ.out; omega)
      obtain ⟨b1, o1, rfl, hb1, e1⟩ := (HIP.out w5 HBc.out).at_ (show k + 1 < p.length from HKN2.out)
      have hkn : k + 1 < n := by have h := HKN2.out; have h2 := HN.out; omega
      by_cases hpp : pos ≤ iAt p (k + 1)
      · go_upto_region 12 with fail
        go_quiet (fail)
        generalize hw5 : World.drewN _ _ = w5
        have HBc := hd (show Below W0.heap.size W0 w5 from hw5 ▸ below_drewN HBc.out _)
        clear hw5 x0 x1 x2 x3
        obtain ⟨x0, x1, x2, x3⟩ := HK.out _ HBc.out
        have HF := hd (show moveL _ q t pos p = (plusL p k [1, -pos], true) by rw [HL.out]; simp [moveB, HS.out, HLQ.out, hpp])
        go_wp2_with (first
              | (go_at_call 54; refine Calls.mono (plus_at (k := k) rfl (by first | exact HP.out _ HBc.out | exact HP.out _ (HBc.out.alloc HBc.out.size _)) (by first | exact xa_nil _ _ | exact xa_one _ _ _ | exact xa_two _ _ _ _) (by first | exact fun h => absurd rfl h | exact fun _ => HKN.out | exact fun _ => HKN2.out) (by exact HML.out) (by first | exact mild_nil | exact mild_one (by omega) | exact mild_two (by omega) (by omega))) ?_; rintro e w9 ⟨v9, rfl, ho, b9⟩; have HO := hd (ho.weaken (b' := w.heap.size) (by first | exact Nat.le_trans HB0.out.size HBc.out.size | exact Nat.le_trans HB0.out.size (HBc.out.alloc HBc.out.size _).size)); have HB9 := hd (show Below W0.heap.size W0 w9 from by first | exact step_b HBc.out b9 | exact step_b (HBc.out.alloc HBc.out.size _) b9); clear b9 ho))
        go_ret2
        exact newPB_ret HF.out HO.out (HB0.out.trans (HB9.out.mono HB0.out.size))
      · have hpp' : decide (pos ≤ iAt p (k + 1)) = false := decide_eq_false hpp
        have HPP := hd hpp
        clear hpp
        go_upto_region 12 with fail
        go_quiet (fail)
        generalize hw5 : World.drewN _ _ = w5
        have HBc := hd (show Below W0.heap.size W0 w5 from hw5 ▸ below_drewN HBc.out _)
        clear hw5 x0 x1 x2 x3
        obtain ⟨x0, x1, x2, x3⟩ := HK.out _ HBc.out
        have HF := hd (show moveL _ q t pos p = (p, true) by rw [HL.out]; simp [moveB, HS.out, HLQ.out, HPP.out])
        go_wp2_with (first
              | (go_at_call 54; refine Calls.mono (plus_at (k := k) rfl (by first | exact HP.out _ HBc.out | exact HP.out _ (HBc.out.alloc HBc.out.size _)) (by first | exact xa_nil _ _ | exact xa_one _ _ _ | exact xa_two _ _ _ _) (by first | exact fun h => absurd rfl h | exact fun _ => HKN.out | exact fun _ => HKN2.out) (by exact HML.out) (by first | exact mild_nil | exact mild_one (by omega) | exact mild_two (by omega) (by omega))) ?_; rintro e w9 ⟨v9, rfl, ho, b9⟩; have HO := hd (ho.weaken (b' := w.heap.size) (by first | exact Nat.le_trans HB0.out.size HBc.out.size | exact Nat.le_trans HB0.out.size (HBc.out.alloc HBc.out.size _).size)); have HB9 := hd (show Below W0.heap.size W0 w9 from by first | exact step_b HBc.out b9 | exact step_b (HBc.out.alloc HBc.out.size _) b9); clear b9 ho))
        go_ret2
        exact newPB_ret HF.out HO.out (HB0.out.trans (HB9.out.mono HB0.out.size))
  by_cases hK1 : K = 1
  · subst hK1
    rcases hs4 with rfl | rfl | rfl | rfl
    · have HF := hd (show moveL _ q t pos p = (p, true) by rw [HL.out]; simp [moveB, HS.out, HLQ.out])
      go_wp2_with (first
            | (go_at_call 54; refine Calls.mono (plus_at (k := k) rfl (by first | exact HP.out _ HBc.out | exact HP.out _ (HBc.out.alloc HBc.out.size _)) (by first | exact xa_nil _ _ | exact xa_one _ _ _ | exact xa_two _ _ _ _) (by first | exact fun h => absurd rfl h | exact fun _ => HKN.out | exact fun _ => HKN2.out) (by exact HML.out) (by first | exact mild_nil | exact mild_one (by omega) | exact mild_two (by omega) (by omega))) ?_; rintro e w9 ⟨v9, rfl, ho, b9⟩; have HO := hd (ho.weaken (b' := w.heap.size) (by first | exact Nat.le_trans HB0.out.size HBc.out.size | exact Nat.le_trans HB0.out.size (HBc.out.alloc HBc.out.size _).size)); have HB9 := hd (show Below W0.heap.size W0 w9 from by first | exact step_b HBc.out b9 | exact step_b (HBc.out.alloc HBc.out.size _) b9); clear b9 ho))
      go_ret2
      exact newPB_ret HF.out HO.out (HB0.out.trans (HB9.out.mono HB0.out.size))
    · have HKN := hd (show k + 1 ≤ p.length by have h := stand_len HS.out (by decide); have h2 := HLQ.out; omega)
      have HF := hd (show moveL _ q t pos p = (plusL p k [1], true) by rw [HL.out]; simp [moveB, HS.out, HLQ.out])
      go_wp2_with (first
            | (go_at_call 54; refine Calls.mono (plus_at (k := k) rfl (by first | exact HP.out _ HBc.out | exact HP.out _ (HBc.out.alloc HBc.out.size _)) (by first | exact xa_nil _ _ | exact xa_one _ _ _ | exact xa_two _ _ _ _) (by first | exact fun h => absurd rfl h | exact fun _ => HKN.out | exact fun _ => HKN2.out) (by exact HML.out) (by first | exact mild_nil | exact mild_one (by omega) | exact mild_two (by omega) (by omega))) ?_; rintro e w9 ⟨v9, rfl, ho, b9⟩; have HO := hd (ho.weaken (b' := w.heap.size) (by first | exact Nat.le_trans HB0.out.size HBc.out.size | exact Nat.le_trans HB0.out.size (HBc.out.alloc HBc.out.size _).size)); have HB9 := hd (show Below W0.heap.size W0 w9 from by first | exact step_b HBc.out b9 | exact step_b (HBc.out.alloc HBc.out.size _) b9); clear b9 ho))
      go_ret2
      exact newPB_ret HF.out HO.out (HB0.out.trans (HB9.out.mono HB0.out.size))
    · have HKN := hd (show k + 1 ≤ p.length by have h := stand_len HS.out (by decide); have h2 := HLQ.out; omega)
      have HF := hd (show moveL _ q t pos p = (plusL p k [1], true) by rw [HL.out]; simp [moveB, HS.out, HLQ.out])
      go_wp2_with (first
            | (go_at_call 54; refine Calls.mono (plus_at (k := k) rfl (by first | exact HP.out _ HBc.out | exact HP.out _ (HBc.out.alloc HBc.out.size _)) (by first | exact xa_nil _ _ | exact xa_one _ _ _ | exact xa_two _ _ _ _) (by first | exact fun h => absurd rfl h | exact fun _ => HKN.out | exact fun _ => HKN2.out) (by exact HML.out) (by first | exact mild_nil | exact mild_one (by omega) | exact mild_two (by omega) (by omega))) ?_; rintro e w9 ⟨v9, rfl, ho, b9⟩; have HO := hd (ho.weaken (b' := w.heap.size) (by first | exact Nat.le_trans HB0.out.size HBc.out.size | exact Nat.le_trans HB0.out.size (HBc.out.alloc HBc.out.size _).size)); have HB9 := hd (show Below W0.heap.size W0 w9 from by first | exact step_b HBc.out b9 | exact step_b (HBc.out.alloc HBc.out.size _) b9); clear b9 ho))
      go_ret2
      exact newPB_ret HF.out HO.out (HB0.out.trans (HB9.out.mono HB0.out.size))
    · have HKN := hd (show k + 1 ≤ p.length by have h := stand_len HS.out (by decide); have h2 := HLQ.out; omega)
      have HF := hd (show moveL _ q t pos p = (plusL p k [1], true) by rw [HL.out]; simp [moveB, HS.out, HLQ.out])
      go_wp2_with (first
            | (go_at_call 54; refine Calls.mono (plus_at (k := k) rfl (by first | exact HP.out _ HBc.out | exact HP.out _ (HBc.out.alloc HBc.out.size _)) (by first | exact xa_nil _ _ | exact xa_one _ _ _ | exact xa_two _ _ _ _) (by first | exact fun h => absurd rfl h | exact fun _ => HKN.out | exact fun _ => HKN2.out) (by exact HML.out) (by first | exact mild_nil | exact mild_one (by omega) | exact mild_two (by omega) (by omega))) ?_; rintro e w9 ⟨v9, rfl, ho, b9⟩; have HO := hd (ho.weaken (b' := w.heap.size) (by first | exact Nat.le_trans HB0.out.size HBc.out.size | exact Nat.le_trans HB0.out.size (HBc.out.alloc HBc.out.size _).size)); have HB9 := hd (show Below W0.heap.size W0 w9 from by first | exact step_b HBc.out b9 | exact step_b (HBc.out.alloc HBc.out.size _) b9); clear b9 ho))
      go_ret2
      exact newPB_ret HF.out HO.out (HB0.out.trans (HB9.out.mono HB0.out.size))
  by_cases hK3 : K = 3
  · subst hK3
    obtain ⟨b1, o1, rfl, hb1, e1⟩ := (HIQ.out w5 HBc.out).at_ (show k < q.length by have := HLQ.out; omega)
    by_cases hz : iAt q k = 0
    · have hz' : (iAt q k == 0) = true := by simp [hz]
      have HF := hd (show moveL 3 q t pos p = noR by rw [HL.out]; simp [moveB, lastL, HLQ.out, hz])
      clear hz hs4
      go_wp2
      go_ret2
      exact newPB_ret HF.out (OwnI.nil _ _) (HB0.out.trans (HBc.out.mono HB0.out.size))
    have hz' : (iAt q k == 0) = false := by simp [hz]
    have HZ := hd hz
    clear hz
    rcases hs4 with rfl | rfl | rfl | rfl
    · have HF := hd (show moveL _ q t pos p = (p, true) by rw [HL.out]; simp [moveB, HS.out, HLQ.out, lastL, HZ.out])
      go_wp2_with (first
            | (go_at_call 54; refine Calls.mono (plus_at (k := k) rfl (by first | exact HP.out _ HBc.out | exact HP.out _ (HBc.out.alloc HBc.out.size _)) (by first | exact xa_nil _ _ | exact xa_one _ _ _ | exact xa_two _ _ _ _) (by first | exact fun h => absurd rfl h | exact fun _ => HKN.out | exact fun _ => HKN2.out) (by exact HML.out) (by first | exact mild_nil | exact mild_one (by omega) | exact mild_two (by omega) (by omega))) ?_; rintro e w9 ⟨v9, rfl, ho, b9⟩; have HO := hd (ho.weaken (b' := w.heap.size) (by first | exact Nat.le_trans HB0.out.size HBc.out.size | exact Nat.le_trans HB0.out.size (HBc.out.alloc HBc.out.size _).size)); have HB9 := hd (show Below W0.heap.size W0 w9 from by first | exact step_b HBc.out b9 | exact step_b (HBc.out.alloc HBc.out.size _) b9); clear b9 ho))
      go_ret2
      exact newPB_ret HF.out HO.out (HB0.out.trans (HB9.out.mono HB0.out.size))
    · have HKN := hd (show k + 1 ≤ p.length by have h := stand_len HS.out (by decide); have h2 := HLQ.out; omega)
      have HF := hd (show moveL _ q t pos p = (plusL p k [-1], true) by rw [HL.out]; simp [moveB, HS.out, HLQ.out, lastL, HZ.out])
      go_wp2_with (first
            | (go_at_call 54; refine Calls.mono (plus_at (k := k) rfl (by first | exact HP.out _ HBc.out | exact HP.out _ (HBc.out.alloc HBc.out.size _)) (by first | exact xa_nil _ _ | exact xa_one _ _ _ | exact xa_two _ _ _ _) (by first | exact fun h => absurd rfl h | exact fun _ => HKN.out | exact fun _ => HKN2.out) (by exact HML.out) (by first | exact mild_nil | exact mild_one (by omega) | exact mild_two (by omega) (by omega))) ?_; rintro e w9 ⟨v9, rfl, ho, b9⟩; have HO := hd (ho.weaken (b' := w.heap.size) (by first | exact Nat.le_trans HB0.out.size HBc.out.size | exact Nat.le_trans HB0.out.size (HBc.out.alloc HBc.out.size _).size)); have HB9 := hd (show Below W0.heap.size W0 w9 from by first | exact step_b HBc.out b9 | exact step_b (HBc.out.alloc HBc.out.size _) b9); clear b9 ho))
      go_ret2
      exact newPB_ret HF.out HO.out (HB0.out.trans (HB9.out.mono HB0.out.size))
    · have HKN := hd (show k + 1 ≤ p.length by have h := stand_len HS.out (by decide); have h2 := HLQ.out; omega)
      have HF := hd (show moveL _ q t pos p = (plusL p k [-1], true) by rw [HL.out]; simp [moveB, HS.out, HLQ.out, lastL, HZ.out])
      go_wp2_with (first
            | (go_at_call 54; refine Calls.mono (plus_at (k := k) rfl (by first | exact HP.out _ HBc.out | exact HP.out _ (HBc.out.alloc HBc.out.size _)) (by first | exact xa_nil _ _ | exact xa_one _ _ _ | exact xa_two _ _ _ _) (by first | exact fun h => absurd rfl h | exact fun _ => HKN.out | exact fun _ => HKN2.out) (by exact HML.out) (by first | exact mild_nil | exact mild_one (by omega) | exact mild_two (by omega) (by omega))) ?_; rintro e w9 ⟨v9, rfl, ho, b9⟩; have HO := hd (ho.weaken (b' := w.heap.size) (by first | exact Nat.le_trans HB0.out.size HBc.out.size | exact Nat.le_trans HB0.out.size (HBc.out.alloc HBc.out.size _).size)); have HB9 := hd (show Below W0.heap.size W0 w9 from by first | exact step_b HBc.out b9 | exact step_b (HBc.out.alloc HBc.out.size _) b9); clear b9 ho))
      go_ret2
      exact newPB_ret HF.out HO.out (HB0.out.trans (HB9.out.mono HB0.out.size))
    · have HKN2 := hd (show k + 2 ≤ p.length by have h := stand_above HS.out; have h2 := HLQ.out; omega)
      have HF := hd (show moveL _ q t pos p = (plusL p k [-1, pos], true) by rw [HL.out]; simp [moveB, HS.out, HLQ.out, lastL, HZ.out])
      go_wp2_with (first
            | (go_at_call 54; refine Calls.mono (plus_at (k := k) rfl (by first | exact HP.out _ HBc.out | exact HP.out _ (HBc.out.alloc HBc.out.size _)) (by first | exact xa_nil _ _ | exact xa_one _ _ _ | exact xa_two _ _ _ _) (by first | exact fun h => absurd rfl h | exact fun _ => HKN.out | exact fun _ => HKN2.out) (by exact HML.out) (by first | exact mild_nil | exact mild_one (by omega) | exact mild_two (by omega) (by omega))) ?_; rintro e w9 ⟨v9, rfl, ho, b9⟩; have HO := hd (ho.weaken (b' := w.heap.size) (by first | exact Nat.le_trans HB0.out.size HBc.out.size | exact Nat.le_trans HB0.out.size (HBc.out.alloc HBc.out.size _).size)); have HB9 := hd (show Below W0.heap.size W0 w9 from by first | exact step_b HBc.out b9 | exact step_b (HBc.out.alloc HBc.out.size _) b9); clear b9 ho))
      go_ret2
      exact newPB_ret HF.out HO.out (HB0.out.trans (HB9.out.mono HB0.out.size))
  by_cases hK2 : K = 2
  · subst hK2
    rcases hs4 with rfl | rfl | rfl | rfl
    · have HF := hd (show moveL _ q t pos p = (p, true) by rw [HL.out]; simp [moveB, HS.out, HLQ.out])
      go_wp2_with (first
            | (go_at_call 54; refine Calls.mono (plus_at (k := k) rfl (by first | exact HP.out _ HBc.out | exact HP.out _ (HBc.out.alloc HBc.out.size _)) (by first | exact xa_nil _ _ | exact xa_one _ _ _ | exact xa_two _ _ _ _) (by first | exact fun h => absurd rfl h | exact fun _ => HKN.out | exact fun _ => HKN2.out) (by exact HML.out) (by first | exact mild_nil | exact mild_one (by omega) | exact mild_two (by omega) (by omega))) ?_; rintro e w9 ⟨v9, rfl, ho, b9⟩; have HO := hd (ho.weaken (b' := w.heap.size) (by first | exact Nat.le_trans HB0.out.size HBc.out.size | exact Nat.le_trans HB0.out.size (HBc.out.alloc HBc.out.size _).size)); have HB9 := hd (show Below W0.heap.size W0 w9 from by first | exact step_b HBc.out b9 | exact step_b (HBc.out.alloc HBc.out.size _) b9); clear b9 ho))
      go_ret2
      exact newPB_ret HF.out HO.out (HB0.out.trans (HB9.out.mono HB0.out.size))
    · have HKN := hd (show k + 1 ≤ p.length by have h := stand_len HS.out (by decide); have h2 := HLQ.out; omega)
      have HF := hd (show moveL _ q t pos p = (plusL p k [-1], true) by rw [HL.out]; simp [moveB, HS.out, HLQ.out])
      go_wp2_with (first
            | (go_at_call 54; refine Calls.mono (plus_at (k := k) rfl (by first | exact HP.out _ HBc.out | exact HP.out _ (HBc.out.alloc HBc.out.size _)) (by first | exact xa_nil _ _ | exact xa_one _ _ _ | exact xa_two _ _ _ _) (by first | exact fun h => absurd rfl h | exact fun _ => HKN.out | exact fun _ => HKN2.out) (by exact HML.out) (by first | exact mild_nil | exact mild_one (by omega) | exact mild_two (by omega) (by omega))) ?_; rintro e w9 ⟨v9, rfl, ho, b9⟩; have HO := hd (ho.weaken (b' := w.heap.size) (by first | exact Nat.le_trans HB0.out.size HBc.out.size | exact Nat.le_trans HB0.out.size (HBc.out.alloc HBc.out.size _).size)); have HB9 := hd (show Below W0.heap.size W0 w9 from by first | exact step_b HBc.out b9 | exact step_b (HBc.out.alloc HBc.out.size _) b9); clear b9 ho))
      go_ret2
      exact newPB_ret HF.out HO.out (HB0.out.trans (HB9.out.mono HB0.out.size))
    · have HF := hd (show moveL 2 q t pos p = noR by rw [HL.out]; simp [moveB, HS.out, HLQ.out])
      go_wp2
      go_ret2
      exact newPB_ret HF.out (OwnI.nil _ _) (HB0.out.trans (HBc.out.mono HB0.out.size))
    · have HF := hd (show moveL 2 q t pos p = noR by rw [HL.out]; simp [moveB, HS.out, HLQ.out])
      go_wp2
      go_ret2
      exact newPB_ret HF.out (OwnI.nil _ _) (HB0.out.trans (HBc.out.mono HB0.out.size))
  have k1 : (K == 1) = false := by simp [hK1]
  have k2 : (K == 2) = false := by simp [hK2]
  have k3 : (K == 3) = false := by simp [hK3]
  have k4 : (K == 4) = false := by simp [hK4]
  have k5 : (K == 5) = false := by simp [hK5]
  have HF := hd (show moveL K q t pos p = (p, true) by rw [HL.out]; simp [moveB, hK1, hK2, hK3, hK4])
  clear hs4 hK1 hK2 hK3 hK4 hK5
  go_wp2_with (first
        | (go_at_call 54; refine Calls.mono (plus_at (k := k) rfl (by first | exact HP.out _ HBc.out | exact HP.out _ (HBc.out.alloc HBc.out.size _)) (by first | exact xa_nil _ _ | exact xa_one _ _ _ | exact xa_two _ _ _ _) (by first | exact fun h => absurd rfl h | exact fun _ => HKN.out | exact fun _ => HKN2.out) (by exact HML.out) (by first | exact mild_nil | exact mild_one (by omega) | exact mild_two (by omega) (by omega))) ?_; rintro e w9 ⟨v9, rfl, ho, b9⟩; have HO := hd (ho.weaken (b' := w.heap.size) (by first | exact Nat.le_trans HB0.out.size HBc.out.size | exact Nat.le_trans HB0.out.size (HBc.out.alloc HBc.out.size _).size)); have HB9 := hd (show Below W0.heap.size W0 w9 from by first | exact step_b HBc.out b9 | exact step_b (HBc.out.alloc HBc.out.size _) b9); clear b9 ho))
  go_ret2
  exact newPB_ret HF.out HO.out (HB0.out.trans (HB9.out.mono HB0.out.size))

end Go.Proofs.Ytmglnjmnabjjgaa
