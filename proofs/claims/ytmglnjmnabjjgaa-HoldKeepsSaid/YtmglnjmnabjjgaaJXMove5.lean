/- Move answers what the plain functions say: of a MoveNode, and of any operation. A whole operation loaded, by its row. A whole operation stored into its new variable. Operations in memory: where their parts lie, what their cells hold; loads and stores of whole ones. Fields stored into a variable of an operation. Variables that hold a node, a selection, or an operation: their rows of cells, loaded and stored whole. Refs in memory: where their parts lie, what their cells hold; lists of them. -/
import Derived.Test.YtmglnjmnabjjgaaXMove
import Derived.Test.YtmglnjmnabjjgaaJXCalls
import Derived.Deep.MidRow
import Derived.Laws.Tables
import Derived.Test.YtmglnjmnabjjgaaJKCmp
import Derived.Laws.ResultCell
import Derived.Maps.OwnOps
import Derived.Shelf.Abstract
import Derived.StillTailTactics
import Derived.Test.YtmglnjmnabjjgaaJGText
namespace Go.Proofs.Ytmglnjmnabjjgaa
open Go.RowKit

theorem moveL_5 {pos : Int} {q t p : List Int} (h : (smallI p && smallI q && smallI t && smallN pos) = true) : moveL 5 q t pos p = if q.length ≠ 0 then (if standL q p = 2 ∨ standL q p = 3 then (t ++ p.drop q.length, true) else moveB 1 t 0 (moveB 2 q 0 p).1) else moveB 5 q pos p := by
  unfold moveL
  rw [h, if_pos rfl]
  by_cases h : q.length = 0
  · rw [if_neg (fun x => x.2 h), if_neg (fun x => x h)]
  · rw [if_pos ⟨rfl, h⟩, if_pos h]
set_option maxRecDepth 4000 in
theorem small_less {q p : List Int} (hp : smallI p = true) (hq : smallI q = true) (hs : standL q p = 1) : smallI (plusL p (q.length - 1) [-1]) = true := by
  rw [standL_left, leftL_iff] at hs
  obtain ⟨h1, h2, h3⟩ := hs
  rw [smallI_iff] at *
  intro k hk
  rw [plusL_len] at hk
  simp only [plusL]
  have hk1 := hp k hk
  by_cases e : k = q.length - 1
  · have := hq (q.length - 1) (by omega)
    rw [show alikeN q p = q.length - 1 by omega] at h3
    subst e
    rw [addL_at _ _ _ hk]
    omega
  · rw [addL_ne _ _ _ _ e]; exact hk1
set_option maxRecDepth 4000 in
theorem mvB_at {W : World} {u qv tv r4 r5 r6 r7 r8 r9 r10 r11 r12 r13 r14 r15 r16 r17 r18 r19 r20 : Value} {p q t : List Int} {K pos : Int} {r : List Int × Bool} (hK5 : K ≠ 5) (hp : XA W u p) (hq : XA W qv q) (ht : XA W tv t) (hr : moveL K q t pos p = r) :
    Calls Try.prog 39 #[u, .agg #[.int .i64 K, qv, tv, .int .i64 pos, r4, r5, r6, r7, r8, r9, r10, r11, r12, r13, r14, r15, r16, r17, r18, r19, r20]] W (NewPB W r) := by
  subst hr
  obtain ⟨A, n, c, rfl, h1, h2, h3, h4⟩ := hp
  obtain ⟨Q, lq, cq, rfl, g1, g2, g3, g4⟩ := hq
  obtain ⟨T, lt, ct, rfl, i1, i2, i3, i4⟩ := ht
  exact mvB_any A Q T p q t n lq lt c cq ct K pos r4 r5 r6 r7 r8 r9 r10 r11 r12 r13 r14 r15 r16 r17 r18 r19 r20 W h1 g1 i1 h2 g2 i2 h3 g3 i3 hK5 h4 g4 i4

set_option maxRecDepth 100000 in
set_option maxHeartbeats 8000000 in
theorem mv5_any (A Q T : Option Addr) (p q t : List Int) (n lq lt c cq ct : Nat) (pos : Int) (r4 r5 r6 r7 r8 r9 r10 r11 r12 r13 r14 r15 r16 r17 r18 r19 r20 : Value) (w : World) (hn : p.length = n) (hlq : q.length = lq) (hlt : t.length = lt) (hl : n ≤ 1000) (hl2 : lq ≤ 1000) (hl3 : lt ≤ 1000) (hc : n ≤ c) (hc2 : lq ≤ cq) (hc3 : lt ≤ ct) (hp : IL w w.heap.size A p) (hq : IL w w.heap.size Q q) (ht : IL w w.heap.size T t) :
    Calls Try.prog 39 #[.slice A n c, .agg #[.int .i64 5, .slice Q lq cq, .slice T lt ct, .int .i64 pos, r4, r5, r6, r7, r8, r9, r10, r11, r12, r13, r14, r15, r16, r17, r18, r19, r20]] w (NewPB w (moveL 5 q t pos p)) := by
  obtain ⟨W0, hW⟩ : ∃ W0, W0 = w.alloc (.cells #[Value.int .i64 5, .slice Q lq cq, .slice T lt ct, .int .i64 pos, r4, r5, r6, r7, r8, r9, r10, r11, r12, r13, r14, r15, r16, r17, r18, r19, r20] 53) := ⟨_, rfl⟩
  have hb0 : Below w.heap.size w W0 := hW ▸ new_below w _
  have e0 : W0.heap[w.heap.size]? = some (.cells #[Value.int .i64 5, .slice Q lq cq, .slice T lt ct, .int .i64 pos, r4, r5, r6, r7, r8, r9, r10, r11, r12, r13, r14, r15, r16, r17, r18, r19, r20] 53 (0, 0)) := hW ▸ heap_alloc_new _ _
  have HK := hd (show ∀ W, Below W0.heap.size W0 W → (W.cell? ⟨w.heap.size, 0, none⟩ = some (.int .i64 5) ∧ W.cell? ⟨w.heap.size, 1, none⟩ = some (.slice Q lq cq) ∧ W.cell? ⟨w.heap.size, 2, none⟩ = some (.slice T lt ct) ∧ W.cell? ⟨w.heap.size, 3, none⟩ = some (.int .i64 pos)) from fun W h => op_cells (xkeep e0 h))
  have HIP := hd (fun W (h : Below W0.heap.size W0 W) => hp.later (hb0.trans (h.mono hb0.size)))
  have HIQ := hd (fun W (h : Below W0.heap.size W0 W) => hq.later (hb0.trans (h.mono hb0.size)))
  have HIT := hd (fun W (h : Below W0.heap.size W0 W) => ht.later (hb0.trans (h.mono hb0.size)))
  have HP := hd (show ∀ W, Below W0.heap.size W0 W → XA W (.slice A n c) p from fun W h => ⟨A, n, c, rfl, hn, hl, hc, HIP.out W h⟩)
  have HQ := hd (show ∀ W, Below W0.heap.size W0 W → XA W (.slice Q lq cq) q from fun W h => ⟨Q, lq, cq, rfl, hlq, hl2, hc2, HIQ.out W h⟩)
  have HT := hd (show ∀ W, Below W0.heap.size W0 W → XA W (.slice T lt ct) t from fun W h => ⟨T, lt, ct, rfl, hlt, hl3, hc3, HIT.out W h⟩)
  have HBc := hd (Below.refl W0.heap.size W0)
  have HW := hd hW
  have HB0 := hd hb0
  have HN := hd hn
  have HLQ := hd hlq
  have HLT := hd hlt
  have H4 := hd (smallI_one pos)
  obtain ⟨x0, x1, x2, x3⟩ := HK.out W0 HBc.out
  clear hp hq ht hW hb0 e0 hn hlq hlt
  cases h1 : smallI p
  · have HF := hd (moveL_out (K := 5) (q := q) (t := t) (pos := pos) (p := p) (by rw [h1]; rfl))
    have H1 := hd h1
    clear h1
    go_enter Try.func39, Try.ntmps39
    go_wp2_with (first
          | (go_at_call 53; (try rw [← HW.out]); refine Calls.mono (within_at (by first | exact HP.out _ HBc.out | exact HQ.out _ HBc.out | exact HT.out _ HBc.out | exact xa_one _ _ _) (by first | exact H1.out | exact H2.out | exact H3.out | exact H4.out)) ?_; rintro e w9 ⟨rfl, b9⟩; have HBc := hd (show Below W0.heap.size W0 w9 from by first | exact step_b HBc.out b9 | exact step_b (HBc.out.alloc HBc.out.size _) b9); clear b9 x0 x1 x2 x3; obtain ⟨x0, x1, x2, x3⟩ := HK.out _ HBc.out))
    go_ret2
    exact newPB_ret HF.out (OwnI.nil _ _) (HB0.out.trans (HBc.out.mono HB0.out.size))
  have H1 := hd h1
  cases h2 : smallI q
  · have H2 := hd h2
    have HF := hd (moveL_out (K := 5) (q := q) (t := t) (pos := pos) (p := p) (by rw [h2]; simp))
    clear h1 h2
    go_enter Try.func39, Try.ntmps39
    go_wp2_with (first
          | (go_at_call 53; (try rw [← HW.out]); refine Calls.mono (within_at (by first | exact HP.out _ HBc.out | exact HQ.out _ HBc.out | exact HT.out _ HBc.out | exact xa_one _ _ _) (by first | exact H1.out | exact H2.out | exact H3.out | exact H4.out)) ?_; rintro e w9 ⟨rfl, b9⟩; have HBc := hd (show Below W0.heap.size W0 w9 from by first | exact step_b HBc.out b9 | exact step_b (HBc.out.alloc HBc.out.size _) b9); clear b9 x0 x1 x2 x3; obtain ⟨x0, x1, x2, x3⟩ := HK.out _ HBc.out))
    go_ret2
    exact newPB_ret HF.out (OwnI.nil _ _) (HB0.out.trans (HBc.out.mono HB0.out.size))
  have H2 := hd h2
  cases h3 : smallI t
  · have H3 := hd h3
    have HF := hd (moveL_out (K := 5) (q := q) (t := t) (pos := pos) (p := p) (by rw [h3]; simp))
    clear h1 h2 h3
    go_enter Try.func39, Try.ntmps39
    go_wp2_with (first
          | (go_at_call 53; (try rw [← HW.out]); refine Calls.mono (within_at (by first | exact HP.out _ HBc.out | exact HQ.out _ HBc.out | exact HT.out _ HBc.out | exact xa_one _ _ _) (by first | exact H1.out | exact H2.out | exact H3.out | exact H4.out)) ?_; rintro e w9 ⟨rfl, b9⟩; have HBc := hd (show Below W0.heap.size W0 w9 from by first | exact step_b HBc.out b9 | exact step_b (HBc.out.alloc HBc.out.size _) b9); clear b9 x0 x1 x2 x3; obtain ⟨x0, x1, x2, x3⟩ := HK.out _ HBc.out))
    go_ret2
    exact newPB_ret HF.out (OwnI.nil _ _) (HB0.out.trans (HBc.out.mono HB0.out.size))
  have H3 := hd h3
  cases h4 : smallN pos
  · have HF := hd (moveL_out (K := 5) (q := q) (t := t) (pos := pos) (p := p) (by rw [h4]; simp))
    rw [h4] at H4
    clear h1 h2 h3 h4
    go_enter Try.func39, Try.ntmps39
    go_wp2_with (first
          | (go_at_call 53; (try rw [← HW.out]); refine Calls.mono (within_at (by first | exact HP.out _ HBc.out | exact HQ.out _ HBc.out | exact HT.out _ HBc.out | exact xa_one _ _ _) (by first | exact H1.out | exact H2.out | exact H3.out | exact H4.out)) ?_; rintro e w9 ⟨rfl, b9⟩; have HBc := hd (show Below W0.heap.size W0 w9 from by first | exact step_b HBc.out b9 | exact step_b (HBc.out.alloc HBc.out.size _) b9); clear b9 x0 x1 x2 x3; obtain ⟨x0, x1, x2, x3⟩ := HK.out _ HBc.out))
    go_ret2
    exact newPB_ret HF.out (OwnI.nil _ _) (HB0.out.trans (HBc.out.mono HB0.out.size))
  have HL := hd (moveL_5 (q := q) (t := t) (pos := pos) (p := p) (by rw [h1, h2, h3, h4]; rfl))
  have HSM := hd (And.intro h1 (And.intro h2 h3))
  rw [h4] at H4
  have HML := hd (small_mild h1)
  have HBQ := hd ((smallI_iff q).1 h2)
  obtain ⟨g0, g1⟩ := (smallN_iff pos).1 h4
  clear h1 h2 h3 h4
  rcases lq with _ | k
  · have HF := hd (show moveL 5 q t pos p = (p, true) by rw [HL.out, if_neg (fun h => h HLQ.out), moveB_0 HLQ.out])
    go_enter Try.func39, Try.ntmps39
    go_wp2_with (first
      | (go_at_call 53; (try rw [← HW.out]); refine Calls.mono (within_at (by first | exact HP.out _ HBc.out | exact HQ.out _ HBc.out | exact HT.out _ HBc.out | exact xa_one _ _ _) (by first | exact H1.out | exact H2.out | exact H3.out | exact H4.out)) ?_; rintro e w9 ⟨rfl, b9⟩; have HBc := hd (show Below W0.heap.size W0 w9 from by first | exact step_b HBc.out b9 | exact step_b (HBc.out.alloc HBc.out.size _) b9); clear b9 x0 x1 x2 x3; obtain ⟨x0, x1, x2, x3⟩ := HK.out _ HBc.out))
    go_wp2_with (first
          | (go_at_call 54; refine Calls.mono (plus_at (k := 0) rfl (by first | exact HP.out _ HBc.out | exact HP.out _ (HBc.out.alloc HBc.out.size _)) (by first | exact xa_nil _ _ | exact xa_one _ _ _ | exact xa_two _ _ _ _) (by first | exact fun h => absurd rfl h | exact fun _ => HKN.out | exact fun _ => HKN2.out) (by exact HML.out) (by first | exact mild_nil | exact mild_one (by omega) | exact mild_two (by omega) (by omega))) ?_; rintro e w9 ⟨v9, rfl, ho, b9⟩; have HO := hd (ho.weaken (b' := w.heap.size) (by first | exact Nat.le_trans HB0.out.size HBc.out.size | exact Nat.le_trans HB0.out.size (HBc.out.alloc HBc.out.size _).size)); have HB9 := hd (show Below W0.heap.size W0 w9 from by first | exact step_b HBc.out b9 | exact step_b (HBc.out.alloc HBc.out.size _) b9); clear b9 ho))
    go_ret2
    exact newPB_ret HF.out HO.out (HB0.out.trans (HB9.out.mono HB0.out.size))
  obtain ⟨s, hs⟩ : ∃ s, standL q p = s := ⟨_, rfl⟩
  have HS := hd hs
  clear hs
  go_enter Try.func39, Try.ntmps39
  go_upto_region 5 with (first
      | (go_at_call 53; (try rw [← HW.out]); refine Calls.mono (within_at (by first | exact HP.out _ HBc.out | exact HQ.out _ HBc.out | exact HT.out _ HBc.out | exact xa_one _ _ _) (by first | exact H1.out | exact H2.out | exact H3.out | exact H4.out)) ?_; rintro e w9 ⟨rfl, b9⟩; have HBc := hd (show Below W0.heap.size W0 w9 from by first | exact step_b HBc.out b9 | exact step_b (HBc.out.alloc HBc.out.size _) b9); clear b9 x0 x1 x2 x3; obtain ⟨x0, x1, x2, x3⟩ := HK.out _ HBc.out))
  have HS5 := hd (fun j => quiet_in0 (n := j) (stand_at (HQ.out _ (below_drewN HBc.out j)) (HP.out _ (below_drewN HBc.out j)) HS.out))
  go_quiet ((go_at_call 55; exact HS5.out _))
  generalize hw5 : World.drewN _ _ = w5
  have HBc := hd (show Below W0.heap.size W0 w5 from hw5 ▸ below_drewN HBc.out _)
  clear hw5 x0 x1 x2 x3
  obtain ⟨x0, x1, x2, x3⟩ := HK.out _ HBc.out
  clear HS5
  have hs4 : s = 0 ∨ s = 1 ∨ s = 2 ∨ s = 3 := by
    have := HS.out
    rcases standL_cases q p with ⟨h, _⟩ | ⟨h, _⟩ | ⟨h, _⟩ | ⟨h, _⟩ <;> omega
  rcases hs4 with rfl | rfl | rfl | rfl
  · have HF := hd (show moveL 5 q t pos p = moveL 1 t [] 0 p by
      rw [HL.out, if_pos (by rw [HLQ.out]; omega), if_neg (by rw [HS.out]; decide), moveL_in (by rw [HSM.out.1, HSM.out.2.2]; rfl) (by decide)]
      simp [moveB, HS.out, HLQ.out])
    have HR := hd (show moveL 2 q [] 0 p = (p, true) by
      rw [moveL_in (by rw [HSM.out.1, HSM.out.2.1]; rfl) (by decide)]
      simp [moveB, HS.out, HLQ.out])
    have HLL := hd (show p.length ≤ 1000 by have := HN.out; omega)
    go_wp2_with (first
      | (go_at_call 39; have _g := HR2; refine Calls.mono (mvB_at (by decide) HX9.out (HT.out _ HBc.out) (xa_nil _ _) rfl) ?_; rintro e w9 ⟨v9, rfl, ho, b9⟩; have HO := hd (ho.weaken (b' := w.heap.size) (Nat.le_trans HB0.out.size HBc.out.size)); have HB9 := hd (step_b HBc.out b9); clear ho b9)
      | (go_at_call 39; refine Calls.mono (mvB_at (by decide) (HP.out _ HBc.out) (HQ.out _ HBc.out) (xa_nil _ _) HR.out) ?_; rintro e w9 ⟨v9, rfl, ho, b9⟩; have HX9 := hd (XA.own ho HLL.out); have HBc := hd (step_b HBc.out b9); have HR2 := trivial; clear ho b9 x0 x1 x2 x3; obtain ⟨x0, x1, x2, x3⟩ := HK.out _ HBc.out))
    go_ret2
    exact newPB_ret HF.out HO.out (HB0.out.trans (HB9.out.mono HB0.out.size))
  · have HF := hd (show moveL 5 q t pos p = moveL 1 t [] 0 (plusL p k [-1]) by
      have hx := small_less HSM.out.1 HSM.out.2.1 HS.out
      rw [HLQ.out, Nat.add_sub_cancel] at hx
      rw [HL.out, if_pos (by rw [HLQ.out]; omega), if_neg (by rw [HS.out]; decide), moveL_in (by rw [hx, HSM.out.2.2]; rfl) (by decide)]
      simp [moveB, HS.out, HLQ.out])
    have HR := hd (show moveL 2 q [] 0 p = (plusL p k [-1], true) by
      rw [moveL_in (by rw [HSM.out.1, HSM.out.2.1]; rfl) (by decide)]
      simp [moveB, HS.out, HLQ.out])
    have HLL := hd (show (plusL p k [-1]).length ≤ 1000 by rw [plusL_len]; have := HN.out; omega)
    go_wp2_with (first
      | (go_at_call 39; have _g := HR2; refine Calls.mono (mvB_at (by decide) HX9.out (HT.out _ HBc.out) (xa_nil _ _) rfl) ?_; rintro e w9 ⟨v9, rfl, ho, b9⟩; have HO := hd (ho.weaken (b' := w.heap.size) (Nat.le_trans HB0.out.size HBc.out.size)); have HB9 := hd (step_b HBc.out b9); clear ho b9)
      | (go_at_call 39; refine Calls.mono (mvB_at (by decide) (HP.out _ HBc.out) (HQ.out _ HBc.out) (xa_nil _ _) HR.out) ?_; rintro e w9 ⟨v9, rfl, ho, b9⟩; have HX9 := hd (XA.own ho HLL.out); have HBc := hd (step_b HBc.out b9); have HR2 := trivial; clear ho b9 x0 x1 x2 x3; obtain ⟨x0, x1, x2, x3⟩ := HK.out _ HBc.out))
    go_ret2
    exact newPB_ret HF.out HO.out (HB0.out.trans (HB9.out.mono HB0.out.size))
  · have hkn : k + 1 ≤ n := by have h := stand_len HS.out (by decide); have h2 := HLQ.out; have h3 := HN.out; omega
    obtain ⟨D, hD, hrun⟩ := cut_run A n c (k + 1) hkn hc
    simp only [Int.natCast_add, Int.cast_ofNat_Int] at hrun
    have HD := hd (hD w5.drew w5.heap.size p (HIP.out w5 HBc.out) HN.out)
    have HF := hd (show moveL 5 q t pos p = (t ++ p.drop (k + 1), true) by rw [HL.out, if_pos (by rw [HLQ.out]; omega), if_pos (by rw [HS.out]; decide), HLQ.out])
    have HLD := hd (show (p.drop (k + 1)).length = n - (k + 1) by rw [List.length_drop, HN.out])
    clear hD
    go_upto_region 29 with fail
    go_still_tail 6, (by kernel_rfl)
    go_wp2_with (go_at_call 56; refine Calls.mono (concat2 T D t (p.drop (k + 1)) lt (n - (k + 1)) ct (c - (k + 1)) w5.drew _ _ rfl HLT.out HLD.out hl3 (by omega) (HIT.out w5 HBc.out) HD.out) ?_; rintro e w9 ⟨v9, rfl, ho, b9⟩; have HO := hd (ho.weaken (b' := w.heap.size) (Nat.le_trans HB0.out.size HBc.out.size)); have HB9 := hd (step_b HBc.out ((below_drewN (Below.refl _ _) 1).trans b9)); clear ho b9)
    go_ret2
    exact newPB_ret HF.out HO.out (HB0.out.trans (HB9.out.mono HB0.out.size))
  · have hkn : k + 1 ≤ n := by have h := stand_len HS.out (by decide); have h2 := HLQ.out; have h3 := HN.out; omega
    obtain ⟨D, hD, hrun⟩ := cut_run A n c (k + 1) hkn hc
    simp only [Int.natCast_add, Int.cast_ofNat_Int] at hrun
    have HD := hd (hD w5.drew w5.heap.size p (HIP.out w5 HBc.out) HN.out)
    have HF := hd (show moveL 5 q t pos p = (t ++ p.drop (k + 1), true) by rw [HL.out, if_pos (by rw [HLQ.out]; omega), if_pos (by rw [HS.out]; decide), HLQ.out])
    have HLD := hd (show (p.drop (k + 1)).length = n - (k + 1) by rw [List.length_drop, HN.out])
    clear hD
    go_upto_region 29 with fail
    go_still_tail 6, (by kernel_rfl)
    go_wp2_with (go_at_call 56; refine Calls.mono (concat2 T D t (p.drop (k + 1)) lt (n - (k + 1)) ct (c - (k + 1)) w5.drew _ _ rfl HLT.out HLD.out hl3 (by omega) (HIT.out w5 HBc.out) HD.out) ?_; rintro e w9 ⟨v9, rfl, ho, b9⟩; have HO := hd (ho.weaken (b' := w.heap.size) (Nat.le_trans HB0.out.size HBc.out.size)); have HB9 := hd (step_b HBc.out ((below_drewN (Below.refl _ _) 1).trans b9)); clear ho b9)
    go_ret2
    exact newPB_ret HF.out HO.out (HB0.out.trans (HB9.out.mono HB0.out.size))

set_option maxRecDepth 4000 in
theorem move_at {W : World} {u qv tv r4 r5 r6 r7 r8 r9 r10 r11 r12 r13 r14 r15 r16 r17 r18 r19 r20 : Value} {p q t : List Int} {K pos : Int} {r : List Int × Bool} (hp : XA W u p) (hq : XA W qv q) (ht : XA W tv t) (hr : moveL K q t pos p = r) :
    Calls Try.prog 39 #[u, .agg #[.int .i64 K, qv, tv, .int .i64 pos, r4, r5, r6, r7, r8, r9, r10, r11, r12, r13, r14, r15, r16, r17, r18, r19, r20]] W (NewPB W r) := by
  by_cases hK5 : K = 5
  · subst hr hK5
    obtain ⟨A, n, c, rfl, h1, h2, h3, h4⟩ := hp
    obtain ⟨Q, lq, cq, rfl, g1, g2, g3, g4⟩ := hq
    obtain ⟨T, lt, ct, rfl, i1, i2, i3, i4⟩ := ht
    exact mv5_any A Q T p q t n lq lt c cq ct pos r4 r5 r6 r7 r8 r9 r10 r11 r12 r13 r14 r15 r16 r17 r18 r19 r20 W h1 g1 i1 h2 g2 i2 h3 g3 i3 h4 g4 i4
  · exact mvB_at hK5 hp hq ht hr

end Go.Proofs.Ytmglnjmnabjjgaa

namespace Go.Proofs.Ytmglnjmnabjjgaa
open Go.RowKit
set_option maxRecDepth 4000 in
theorem op_row : ∃ d, Try.prog.underlying 53 = some d ∧ d.isRow = true ∧ (Try.prog.info? 53).map (·.size) = some 21 := ⟨.struct (Try.prog.fieldsOf 53), by kernel_rfl, rfl, by kernel_rfl⟩
end Go.Proofs.Ytmglnjmnabjjgaa

namespace Go.Proofs.Ytmglnjmnabjjgaa
open Go.RowKit

theorem setRow_new (W : World) (old cells : Array Value) (t : TypeId) : (W.alloc (.cells old t)).setRow W.heap.size cells = W.alloc (.cells cells t) := by
  have hh : ((W.alloc (.cells old t)).setRow W.heap.size cells).heap = (W.alloc (.cells cells t)).heap := by
    apply Array.ext_getElem?
    intro i
    by_cases e : i = W.heap.size
    · subst e
      rw [setRow_heap _ _ old cells t (0, 0) (heap_alloc_new _ _)]
      exact (heap_alloc_new _ _).symm
    · rw [setRow_other _ _ _ _ e]
      show (W.heap.push _)[i]? = (W.heap.push _)[i]?
      rw [Array.getElem?_push, Array.getElem?_push, if_neg e, if_neg e]
  have h2 : (W.alloc (.cells old t)).setRow W.heap.size cells = { W.alloc (.cells cells t) with heap := ((W.alloc (.cells old t)).setRow W.heap.size cells).heap } := rfl
  rw [h2, hh]
end Go.Proofs.Ytmglnjmnabjjgaa

namespace Go.Proofs.Ytmglnjmnabjjgaa
open Go.RowKit

/-- Where an operation's parts lie. -/
structure OC where
  k : Int
  Q : Option Addr
  lq : Nat
  cq : Nat
  T : Option Addr
  lt : Nat
  ct : Nat
  z : Int
  lf : Bool
  P : Option Addr
  np : Nat
  pc : Nat
  X : Option Addr
  nt : Nat
  tc : Nat
  K : Option Addr
  nk : Nat
  kc : Nat
  O : Option Addr
  no : Nat
  co : Nat
  W : Option Addr
  nw : Nat
  cw : Nat
  S : Option Addr
  nx : Nat
  cx : Nat
  fi : Bool
  F1 : Option Addr
  f1 : Nat
  d1 : Nat
  fo : Int
  F2 : Option Addr
  f2 : Nat
  d2 : Nat
  fp : Int
  gi : Bool
  G1 : Option Addr
  g1 : Nat
  e1 : Nat
  go : Int
  G2 : Option Addr
  g2 : Nat
  e2 : Nat
  gp : Int
def OC.row (c : OC) : Array Value := #[.int .i64 c.k, .slice c.Q c.lq c.cq, .slice c.T c.lt c.ct, .int .i64 c.z, .bool c.lf, .slice c.P c.np c.pc, .slice c.X c.nt c.tc, .slice c.K c.nk c.kc, .slice c.O c.no c.co, .slice c.W c.nw c.cw, .slice c.S c.nx c.cx,
  .bool c.fi, .slice c.F1 c.f1 c.d1, .int .i64 c.fo, .slice c.F2 c.f2 c.d2, .int .i64 c.fp, .bool c.gi, .slice c.G1 c.g1 c.e1, .int .i64 c.go, .slice c.G2 c.g2 c.e2, .int .i64 c.gp]
def OC.zero : OC := ⟨0, none, 0, 0, none, 0, 0, 0, false, none, 0, 0, none, 0, 0, none, 0, 0, none, 0, 0, none, 0, 0, none, 0, 0, false, none, 0, 0, 0, none, 0, 0, 0, false, none, 0, 0, 0, none, 0, 0, 0⟩
/-- A node's value, and a selection's, out of an operation. -/
def OC.node (c : OC) : Value := .agg #[.bool c.lf, .slice c.P c.np c.pc, .slice c.X c.nt c.tc, .slice c.K c.nk c.kc]

/-- A selection's cells. -/
structure SelA (w : World) (is : Bool) (A : Option Addr) (n c : Nat) (x : Int) (B : Option Addr) (m d : Nat) (y : Int) (s : Sl) : Prop where
  his : s.is = is
  hx : s.a.2 = x
  hy : s.f.2 = y
  hn : s.a.1.length = n
  hm : s.f.1.length = m
  hc : n ≤ c
  hd : m ≤ d
  hmn : n ≤ 9223372036854775807
  hmm : m ≤ 9223372036854775807
  hA : IL w w.heap.size A s.a.1
  hB : IL w w.heap.size B s.f.1
set_option maxRecDepth 4000 in
theorem SelA.later {w w' : World} {is : Bool} {A : Option Addr} {n c : Nat} {x : Int} {B : Option Addr} {m d : Nat} {y : Int} {s : Sl} (h : SelA w is A n c x B m d y s) (hb : Below w.heap.size w w') : SelA w' is A n c x B m d y s :=
  ⟨h.his, h.hx, h.hy, h.hn, h.hm, h.hc, h.hd, h.hmn, h.hmm, h.hA.later hb, h.hB.later hb⟩
set_option maxRecDepth 4000 in
theorem SelA.zero (w : World) : SelA w false none 0 0 0 none 0 0 0 zeroS := ⟨rfl, rfl, rfl, rfl, rfl, by omega, by omega, by omega, by omega, IL.nil _ _ _, IL.nil _ _ _⟩
def InI (l : List Int) : Prop := ∀ k, k < l.length → iAt l k ≤ 9223372036854775807 ∧ -9223372036854775808 ≤ iAt l k
set_option maxRecDepth 4000 in
theorem InI.nil : InI [] := fun _ h => absurd h (Nat.not_lt_zero _)

/-- c holds the operation o. -/
structure OkA (w : World) (c : OC) (o : OpP) : Prop where
  hk : o.k = c.k
  hik : In64 o.k
  hz : o.z = c.z
  hlq : o.q.length = c.lq
  hcq : c.lq ≤ c.cq
  hmq : c.lq ≤ 9223372036854775807
  hq : IL w w.heap.size c.Q o.q
  hiq : InI o.q
  hlt : o.t.length = c.lt
  hct : c.lt ≤ c.ct
  hmt : c.lt ≤ 9223372036854775807
  ht : IL w w.heap.size c.T o.t
  hit : InI o.t
  hn : ∃ d, NodeAt d w w.heap.size c.node o.n
  hno : o.o.length = c.no
  hco : c.no ≤ c.co
  hmo : c.no ≤ 4398046511104
  hwo : Wide o.o
  ho : PL w w.heap.size c.O o.o
  hnw : o.w.length = c.nw
  hcw : c.nw ≤ c.cw
  hmw : c.nw ≤ 4398046511104
  hww : Wide o.w
  hw : PL w w.heap.size c.W o.w
  hnx : o.x.length = c.nx
  hcx : c.nx ≤ c.cx
  hmx : c.nx ≤ 35184372088832
  hx : VL w w.heap.size c.S (rv o.x)
  hf : SelA w c.fi c.F1 c.f1 c.d1 c.fo c.F2 c.f2 c.d2 c.fp o.f
  hg : SelA w c.gi c.G1 c.g1 c.e1 c.go c.G2 c.g2 c.e2 c.gp o.g
set_option maxRecDepth 4000 in
theorem PL.later {w w' : World} {A : Option Addr} {l : List Pr} (h : PL w w.heap.size A l) (hb : Below w.heap.size w w') : PL w' w'.heap.size A l := (h.below hb).more hb.size
set_option maxRecDepth 4000 in
theorem OkA.later {w w' : World} {c : OC} {o : OpP} (h : OkA w c o) (hb : Below w.heap.size w w') : OkA w' c o :=
  { h with hq := h.hq.later hb, ht := h.ht.later hb, hn := (by obtain ⟨d, hn⟩ := h.hn; exact ⟨d, hn.later hb⟩), ho := h.ho.later hb, hw := h.hw.later hb, hx := h.hx.later hb, hf := h.hf.later hb, hg := h.hg.later hb }
set_option maxRecDepth 4000 in
theorem PL.none (w : World) (B : Nat) (A : Option Addr) : PL w B A [] := fun h => absurd rfl h
set_option maxRecDepth 4000 in
theorem Wide.none : Wide [] := ⟨by simp, by simp⟩
set_option maxRecDepth 4000 in
theorem zero_node (w : World) (B : Nat) : NodeAt 1 w B (.agg #[.bool false, .slice none 0 0, .slice none 0 0, .slice none 0 0]) zeroT :=
  NodeAt.shut rfl rfl rfl (PL.none _ _ _) (VL.nil _ _ _) fit_zero (fun k m h => by simp at h)
set_option maxRecDepth 4000 in
theorem OkA.zero (w : World) : OkA w OC.zero zeroO :=
  ⟨rfl, ⟨by decide, by decide⟩, rfl, rfl, by decide, by decide, IL.nil _ _ _, InI.nil, rfl, by decide, by decide, IL.nil _ _ _, InI.nil, ⟨1, zero_node _ _⟩, rfl, by decide, by decide, Wide.none, PL.none _ _ _, rfl, by decide, by decide, Wide.none, PL.none _ _ _, rfl, by decide, by decide, VL.nil _ _ _, SelA.zero _, SelA.zero _⟩

section
variable {w : World} {c : OC} {o : OpP}
set_option maxRecDepth 4000 in
theorem OkA.setK (h : OkA w c o) {k : Int} (hk : In64 k) : OkA w { c with k := k } { o with k := k } := { h with hk := rfl, hik := hk }
set_option maxRecDepth 4000 in
theorem OkA.setQ (h : OkA w c o) {A : Option Addr} {n d : Nat} {l : List Int} (h1 : l.length = n) (h2 : n ≤ d) (h3 : n ≤ 9223372036854775807) (h4 : IL w w.heap.size A l) (h5 : InI l) : OkA w { c with Q := A, lq := n, cq := d } { o with q := l } := { h with hlq := h1, hcq := h2, hmq := h3, hq := h4, hiq := h5 }
end

/-- Few of all: what the document's Few leaves. -/
structure Tiny (o : OpP) : Prop where
  hq : o.q.length ≤ 60
  ht : o.t.length ≤ 60
  hx : o.x.length ≤ 100
  ho : o.o.length ≤ 40
  hw : o.w.length ≤ 40
  hfa : o.f.a.1.length ≤ 60
  hff : o.f.f.1.length ≤ 60
  hga : o.g.a.1.length ≤ 60
  hgf : o.g.f.1.length ≤ 60
section
variable {w w' : World} {g : Nat} {c c' : OC}
end
set_option maxRecDepth 4000 in
/-- Stored into a variable that was there: nothing else has changed. -/
theorem setRow_off (w : World) (g : Nat) (cells old : Array Value) (t : TypeId) (_h : w.heap[g]? = some (.cells old t (0, 0))) : Off g w (w.setRow g cells) :=
  ⟨rfl, rfl, rfl, by show _ ≤ (w.heap.modify g _).size; simp, fun k _ hne => setRow_other _ _ _ _ hne⟩
end Go.Proofs.Ytmglnjmnabjjgaa

namespace Go.Proofs.Ytmglnjmnabjjgaa
open Go.RowKit

def putAll (cs : Array Value) : Nat → List Value → Array Value
  | _, [] => cs
  | j, v :: r => putAll (cs.setIfInBounds j v) (j + 1) r
set_option maxRecDepth 4000 in
theorem setCells_row (g : Nat) (t : TypeId) : ∀ (vs : List Value) (j : Nat) (w : World) (cs : Array Value), w.heap[g]? = some (.cells cs t (0, 0)) → (w.setCells g j vs).heap[g]? = some (.cells (putAll cs j vs) t (0, 0)) ∧ Off g w (w.setCells g j vs)
  | [], j, w, cs, h => ⟨h, Off.refl g w⟩
  | v :: r, j, w, cs, h => by
    obtain ⟨h1, h2⟩ := setCells_row g t r (j + 1) _ _ (set_blk w g t cs j v h)
    have h3 : Off g w (w.setCell ⟨g, j, none⟩ v) := ⟨rfl, rfl, rfl, by show _ ≤ (w.heap.modify g _).size; simp, fun k _ hne => Below.heap_setCell w ⟨g, j, none⟩ v k (by simpa using hne)⟩
    exact ⟨h1, h3.trans h2⟩
set_option maxRecDepth 4000 in
/-- At a store, or a load, of a type: else it fails at once. -/
theorem gd_store {P : Program} {ops : Array Oper} {Q : Exit → Act → World → Prop} {dst : Option Nat} {ty : TypeId} {x y : Operand} {t : TypeId} {pos : String} {af : Array Edge} {rest : List Oper} {a : Act} {w : World} (h : wpList P ops Q ({ dst := dst, op := .store ty x y, type := t, pos := pos, after := af, guard := none } :: rest) a w) : wpList P ops Q ({ dst := dst, op := .store ty x y, type := t, pos := pos, after := af, guard := none } :: rest) a w := h
set_option maxRecDepth 4000 in
theorem gd_load {P : Program} {ops : Array Oper} {Q : Exit → Act → World → Prop} {dst : Option Nat} {ty : TypeId} {x : Operand} {t : TypeId} {pos : String} {af : Array Edge} {rest : List Oper} {a : Act} {w : World} (h : wpList P ops Q ({ dst := dst, op := .load ty x, type := t, pos := pos, after := af, guard := none } :: rest) a w) : wpList P ops Q ({ dst := dst, op := .load ty x, type := t, pos := pos, after := af, guard := none } :: rest) a w := h
set_option maxRecDepth 4000 in
theorem gd_loadg {P : Program} {ops : Array Oper} {Q : Exit → Act → World → Prop} {dst : Option Nat} {ty : TypeId} {x : Operand} {t : TypeId} {pos : String} {af : Array Edge} {gq : Nat × Bool} {rest : List Oper} {a : Act} {w : World} (h : wpList P ops Q ({ dst := dst, op := .load ty x, type := t, pos := pos, after := af, guard := some gq } :: rest) a w) : wpList P ops Q ({ dst := dst, op := .load ty x, type := t, pos := pos, after := af, guard := some gq } :: rest) a w := h
set_option maxRecDepth 4000 in
/-- A store into one of two variables. -/
theorem off_below {w W W' : World} {g : Nat} (hb : Below w.heap.size w W) (ho : Off g W W') (hg : w.heap.size ≤ g) : Below w.heap.size w W' := hb.trans (ho.below hg hb.size)

end Go.Proofs.Ytmglnjmnabjjgaa

namespace Go.Proofs.Ytmglnjmnabjjgaa
open Go.RowKit

/-- A row's type: its size in cells. -/
def RowT (t : TypeId) (n : Nat) : Prop := ∃ d, Try.prog.underlying t = some d ∧ d.isRow = true ∧ (Try.prog.info? t).map (·.size) = some n
/-- Block g holds the row r. -/
def VarR (t : TypeId) (w : World) (g : Nat) (r : Array Value) : Prop := w.heap[g]? = some (.cells r t (0, 0))
section
variable {t : TypeId} {w w' : World} {g : Nat} {r r' : Array Value}
set_option maxRecDepth 4000 in
theorem VarR.lt (h : VarR t w g r) : g < w.heap.size := (Array.getElem?_eq_some_iff.1 h).1
set_option maxRecDepth 4000 in
theorem VarR.keep (h : VarR t w g r) (hb : Below w.heap.size w w') : VarR t w' g r := (hb.block _ h.lt).trans h
set_option maxRecDepth 4000 in
theorem VarR.new (w : World) (t : TypeId) (r : Array Value) : VarR t (w.alloc (.cells r t)) w.heap.size r := heap_alloc_new w _
set_option maxRecDepth 4000 in
theorem VarR.alloc (h : VarR t w g r) (o : Obj) : VarR t (w.alloc o) g r := h.keep ((Below.refl _ _).alloc (Nat.le_refl _) _)
set_option maxRecDepth 4000 in
theorem VarR.cell (h : VarR t w g r) (j : Nat) (v : Value) (hv : r[j]? = some v) : w.cell? ⟨g, j, none⟩ = some v := by
  unfold VarR at h
  simp [World.cell?, h, hv]
end
set_option maxRecDepth 4000 in
theorem wpList_load_row {t : TypeId} {n : Nat} (hrow : RowT t n) {ops : Array Oper} {rest : List Oper} {op : Oper} {a : Act} {w : World} {Q : Exit → Act → World → Prop} {g : Nat} {r : Array Value} (h : VarR t w g r) (hn : r.size = n)
    (x : Operand) (ho : op.op = .load t x) (hgd : op.guard = none) (hx : a.eval x = .pointer (some ⟨g, 0, none⟩)) (hk : wpList Try.prog ops Q rest (a.put op.dst (.agg r)) w) : wpList Try.prog ops Q (op :: rest) a w := by
  obtain ⟨d, h1, h2, h3⟩ := hrow
  exact wpList_load_mid hgd t x ho g 0 hx r.toList d (fun i v hi => by rw [Nat.zero_add]; exact h.cell i v (by simpa using hi)) h1 h2 (by rw [h3, ← hn]; simp) hk
set_option maxRecDepth 4000 in
theorem wpList_load_rowg {t : TypeId} {n : Nat} (hrow : RowT t n) {ops : Array Oper} {rest : List Oper} {op : Oper} {a : Act} {w : World} {Q : Exit → Act → World → Prop} {g : Nat} {r : Array Value} (h : VarR t w g r) (hn : r.size = n)
    (x : Operand) (ho : op.op = .load t x) (hw : Region.wanted op (yielded ops a.tmps) = true) (hx : a.eval x = .pointer (some ⟨g, 0, none⟩)) (hk : wpList Try.prog ops Q rest (a.put op.dst (.agg r)) w) : wpList Try.prog ops Q (op :: rest) a w := by
  obtain ⟨d, h1, h2, h3⟩ := hrow
  refine wpList_step fun K hK => ?_
  rw [if_pos hw]
  exact wp_load_mid t x ho g 0 hx r.toList d (fun i v hi => by rw [Nat.zero_add]; exact h.cell i v (by simpa using hi)) h1 h2 (by rw [h3, ← hn]; simp) (hK _ _ hk)
set_option maxRecDepth 4000 in
theorem wpList_store_row2 {t : TypeId} {n : Nat} (hrow : RowT t n) {ops : Array Oper} {rest : List Oper} {op : Oper} {a : Act} {W : World} {Q : Exit → Act → World → Prop} {g : Nat} {r0 r : Array Value} (h : VarR t W g r0) (hn0 : r0.size = n) (hn : r.size = n) (hone : r.all (·.oneCell') = true) (x y : Operand) (ho : op.op = .store t x y) (hgd : op.guard = none) (hd : op.dst = none) (hx : a.eval x = .pointer (some ⟨g, 0, none⟩)) (hy : a.eval y = .agg r)
    (hk : ∀ W', VarR t W' g r → Off g W W' → wpList Try.prog ops Q rest a W') : wpList Try.prog ops Q (op :: rest) a W := by
  obtain ⟨d, h3, h4, h5⟩ := hrow
  refine wpList_store_row hgd t x y ho g _ hx hy t r0 h (by rw [h5, ← hn]) (by rw [hn0, hn]) hone ?_
  rw [hd]
  exact hk _ (setRow_heap _ _ r0 r _ (0, 0) h) (setRow_off _ _ _ _ _ h)
set_option maxRecDepth 4000 in
theorem rowT_op : RowT 53 21 := op_row
end Go.Proofs.Ytmglnjmnabjjgaa

namespace Go.Proofs.Ytmglnjmnabjjgaa
open Go.RowKit

/-- Where a ref's parts lie. -/
structure RC where
  id : Int
  kind : Int
  aff : Int
  live : Bool
  P : Option Addr
  np : Nat
  cp : Nat
  Q : Option Addr
  nq : Nat
  cq : Nat
  qo : Int
  A : Option Addr
  na : Nat
  ca : Nat
  ao : Int
  F : Option Addr
  nf : Nat
  cf : Nat
  fo : Int
def RC.row (c : RC) : Array Value := #[.int .i64 c.id, .int .i64 c.kind, .int .i64 c.aff, .bool c.live, .slice c.P c.np c.cp, .slice c.Q c.nq c.cq, .int .i64 c.qo, .slice c.A c.na c.ca, .int .i64 c.ao, .slice c.F c.nf c.cf, .int .i64 c.fo]
def RC.zero : RC := ⟨0, 0, 0, false, none, 0, 0, none, 0, 0, 0, none, 0, 0, 0, none, 0, 0, 0⟩
set_option maxRecDepth 4000 in
theorem RC.one (c : RC) : c.row.all (·.oneCell') = true := by kernel_rfl
set_option maxRecDepth 4000 in
theorem rowT_ref : RowT 34 11 := ⟨.struct (Try.prog.fieldsOf 34), by kernel_rfl, rfl, by kernel_rfl⟩
/-- A path in memory. -/
structure PathC (w : World) (A : Option Addr) (n c : Nat) (l : List Int) : Prop where
  len : l.length = n
  cap : n ≤ c
  max : n ≤ 9223372036854775807
  il : IL w w.heap.size A l
set_option maxRecDepth 4000 in
theorem PathC.later {w w' : World} {A : Option Addr} {n c : Nat} {l : List Int} (h : PathC w A n c l) (hb : Below w.heap.size w w') : PathC w' A n c l := ⟨h.len, h.cap, h.max, h.il.later hb⟩
set_option maxRecDepth 4000 in
theorem PathC.nil (w : World) : PathC w none 0 0 [] := ⟨rfl, Nat.le_refl _, by decide, IL.nil _ _ _⟩
set_option maxRecDepth 4000 in
theorem PathC.pt {w : World} {A : Option Addr} {n c : Nat} {p : List Int × Int} {o : Int} (h : PathC w A n c p.1) (ho : p.2 = o) (hl : n ≤ 10000000) : PtAt w (.agg #[.slice A n c, .int .i64 o]) p := ⟨A, n, c, by rw [ho], h.len, hl, h.cap, h.il⟩
/-- c holds the ref r. -/
structure RkA (w : World) (c : RC) (r : RefP) : Prop where
  hid : r.id = c.id
  hk : r.kind = c.kind
  ha : r.aff = c.aff
  hlv : r.live = c.live
  hp : PathC w c.P c.np c.cp r.p
  hq : PathC w c.Q c.nq c.cq r.q.1
  hqo : r.q.2 = c.qo
  haa : PathC w c.A c.na c.ca r.a.1
  hao : r.a.2 = c.ao
  hf : PathC w c.F c.nf c.cf r.f.1
  hfo : r.f.2 = c.fo
  hkw : (Lit.int .i64 c.kind).wf = true
set_option maxRecDepth 4000 in
theorem RkA.later {w w' : World} {c : RC} {r : RefP} (h : RkA w c r) (hb : Below w.heap.size w w') : RkA w' c r :=
  { h with hp := h.hp.later hb, hq := h.hq.later hb, haa := h.haa.later hb, hf := h.hf.later hb }
set_option maxRecDepth 4000 in
theorem RkA.zero (w : World) : RkA w RC.zero zeroR := ⟨rfl, rfl, rfl, rfl, PathC.nil _, PathC.nil _, rfl, PathC.nil _, rfl, PathC.nil _, rfl, rfl⟩
/-- The cells of refs in a row. -/
def cellsR (cs : List RC) : List Value := cs.flatMap fun c => c.row.toList
set_option maxRecDepth 4000 in
theorem cellsR_len (cs : List RC) : (cellsR cs).length = cs.length * 11 := by
  induction cs with
  | nil => rfl
  | cons c r ih => rw [cellsR, List.flatMap_cons, List.length_append, ← cellsR, ih, List.length_cons]; show 11 + _ = _; omega
set_option maxRecDepth 4000 in
theorem cellsR_app (cs ds : List RC) : cellsR (cs ++ ds) = cellsR cs ++ cellsR ds := by simp [cellsR]
set_option maxRecDepth 4000 in
theorem cellsR_one (c : RC) : cellsR [c] = c.row.toList := by simp [cellsR]
set_option maxRecDepth 4000 in
theorem cellsR_at : ∀ {cs : List RC} {k : Nat} {c : RC}, cs[k]? = some c → ∀ j v, c.row.toList[j]? = some v → (cellsR cs)[k * 11 + j]? = some v
  | [], _, _, h, _, _, _ => by simp at h
  | d :: r, 0, c, h, j, v, hv => by
    simp only [List.getElem?_cons_zero, Option.some.injEq] at h
    subst h
    have hj := (List.getElem?_eq_some_iff.1 hv).1
    rw [cellsR, List.flatMap_cons, Nat.zero_mul, Nat.zero_add, List.getElem?_append_left hj]
    exact hv
  | d :: r, k + 1, c, h, j, v, hv => by
    rw [List.getElem?_cons_succ] at h
    have h2 := cellsR_at h j v hv
    rw [cellsR, List.flatMap_cons, List.getElem?_append_right (by show 11 ≤ _; omega), show (k + 1) * 11 + j - d.row.toList.length = k * 11 + j by show _ - 11 = _; omega]
    exact h2
set_option maxRecDepth 4000 in
theorem cellsR_all (cs : List RC) : ∀ u ∈ cellsR cs, u.oneCell' = true := fun u hu => by
  obtain ⟨c, _, hc⟩ := List.mem_flatMap.1 hu
  exact Array.all_eq_true'.1 c.one u (by simpa using hc)
/-- cs hold the refs us, in a row at A. -/
structure LR (w : World) (A : Option Addr) (cs : List RC) (us : List RefP) : Prop where
  hv : VL w w.heap.size A (cellsR cs)
  hl : cs.length = us.length
  ha : ∀ (k : Nat) (c : RC) (a : RefP), cs[k]? = some c → us[k]? = some a → RkA w c a
set_option maxRecDepth 4000 in
theorem LR.later {w w' : World} {A : Option Addr} {cs : List RC} {us : List RefP} (h : LR w A cs us) (hb : Below w.heap.size w w') : LR w' A cs us :=
  ⟨h.hv.later hb, h.hl, fun k c a h1 h2 => (h.ha k c a h1 h2).later hb⟩
set_option maxRecDepth 4000 in
theorem LR.nil (w : World) (A : Option Addr) : LR w A [] [] := ⟨VL.nil _ _ _, rfl, fun k c a h => by simp at h⟩
set_option maxRecDepth 4000 in
theorem LR.at_ {w : World} {A : Option Addr} {cs : List RC} {us : List RefP} (h : LR w A cs us) {k : Nat} (hk : k < us.length) :
    ∃ b o c a, A = some ⟨b, o, none⟩ ∧ b < w.heap.size ∧ cs[k]? = some c ∧ us[k]? = some a ∧ RkA w c a ∧ w.rangeAt b (o + k * 11) c.row.toList := by
  have hk2 : k < cs.length := by rw [h.hl]; exact hk
  have e1 : cs[k]? = some cs[k] := List.getElem?_eq_getElem hk2
  have e2 : us[k]? = some us[k] := List.getElem?_eq_getElem hk
  obtain ⟨b, o, e, hb, hc⟩ := h.hv (fun e => by have := cellsR_len cs; rw [e] at this; simp at this; omega)
  exact ⟨b, o, cs[k], us[k], e, hb, e1, e2, h.ha k _ _ e1 e2, fun j v hv => by rw [Nat.add_assoc]; exact hc _ _ (cellsR_at e1 j v hv)⟩
set_option maxRecDepth 4000 in
theorem wpList_load_ref {ops : Array Oper} {rest : List Oper} {op : Oper} {a : Act} {w : World} {Q : Exit → Act → World → Prop} {g off : Nat} {c : RC} (h : w.rangeAt g off c.row.toList)
    (x : Operand) (ho : op.op = .load 34 x) (hgd : op.guard = none) (hx : a.eval x = .pointer (some ⟨g, off, none⟩)) (hk : wpList Try.prog ops Q rest (a.put op.dst (.agg c.row)) w) : wpList Try.prog ops Q (op :: rest) a w := by
  obtain ⟨d, h1, h2, h3⟩ := rowT_ref
  exact wpList_load_mid hgd 34 x ho g off hx c.row.toList d h h1 h2 h3 hk
def NewLE (w : World) (r : List RefP × Int) (e : Ending) (w' : World) : Prop := ∃ A n cap cs, e = .returned (.tuple #[.slice A n cap, .int .i64 r.2]) ∧ r.1.length = n ∧ n ≤ cap ∧ LR w' A cs r.1 ∧ Below w.heap.size w w'

end Go.Proofs.Ytmglnjmnabjjgaa
