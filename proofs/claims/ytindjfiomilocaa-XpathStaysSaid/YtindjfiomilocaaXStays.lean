/- XpathStays answers true. -/
import Derived.Test.YtindjfiomilocaaXLaw
import Derived.Test.YtindjfiomilocaaXPlain
import Derived.Test.YtindjfiomilocaaXLoad
namespace Go.Proofs.Ytindjfiomilocaa
open Go.RowKit

set_option maxRecDepth 100000 in
set_option maxHeartbeats 8000000 in
theorem xstays_long (w : World) (A Q T : Option Addr) (n lq lt c cq ct : Nat) (K pos : Int) (r4 r5 r6 r7 r8 r9 r10 r11 r12 r13 r14 r15 r16 r17 r18 r19 r20 : Value) (hlp : n ≤ 9223372036854775807) (hlq : lq ≤ 9223372036854775807) (hlt : lt ≤ 9223372036854775807) (hs : (decide (n ≤ 60) && decide (lq ≤ 60) && decide (lt ≤ 60)) = false) :
    Calls Try.prog 8 #[.slice A n c, .agg #[Value.int .i64 K, .slice Q lq cq, .slice T lt ct, .int .i64 pos, r4, r5, r6, r7, r8, r9, r10, r11, r12, r13, r14, r15, r16, r17, r18, r19, r20]] w (AllTrue w) := by
  obtain ⟨W0, hW⟩ : ∃ W0, W0 = w.alloc (.cells #[Value.int .i64 K, .slice Q lq cq, .slice T lt ct, .int .i64 pos, r4, r5, r6, r7, r8, r9, r10, r11, r12, r13, r14, r15, r16, r17, r18, r19, r20] 35) := ⟨_, rfl⟩
  have hb0 : Below w.heap.size w W0 := hW ▸ new_below w _
  have e0 : W0.heap[w.heap.size]? = some (.cells #[Value.int .i64 K, .slice Q lq cq, .slice T lt ct, .int .i64 pos, r4, r5, r6, r7, r8, r9, r10, r11, r12, r13, r14, r15, r16, r17, r18, r19, r20] 35 (0, 0)) := hW ▸ heap_alloc_new _ _
  have HK := hd (fun W (h : Below W0.heap.size W0 W) => op_cells (xkeep e0 h))
  have HKR := hd (fun W (h : Below W0.heap.size W0 W) => xkeep e0 h)
  have HW := hd hW
  have HBE := hd hb0
  have HBc := hd (Below.refl W0.heap.size W0)
  have HSH := hd hs
  clear hs hW hb0 e0
  go_enter Try.func8, Try.ntmps8
  go_wp2_with (first
    | (refine wpList_load_op (HKR.out _ HBc.out) _ rfl rfl rfl ?_)
    | (go_at_call 9; rw [← HW.out]; refine Calls.mono (live8_any _) ?_; rintro e w9 ⟨rfl, b9⟩; have HBc := hd (step_b HBc.out b9); clear b9; obtain ⟨x0, x1, x2, x3⟩ := HK.out _ HBc.out)
    | (go_at_call 10; refine Calls.mono (short_1 hlq hlt hlp HSH.out) ?_; rintro e w9 ⟨rfl, b9⟩; have HBc := hd (step_b HBc.out b9); clear b9 x0 x1 x2 x3; obtain ⟨x0, x1, x2, x3⟩ := HK.out _ HBc.out))
  go_ret
  exact ⟨rfl, HBE.out.trans (HBc.out.mono HBE.out.size)⟩
set_option maxRecDepth 100000 in
set_option maxHeartbeats 8000000 in
theorem xstays_out (w : World) (A Q T : Option Addr) (p q t : List Int) (n lq lt c cq ct : Nat) (K pos : Int) (r4 r5 r6 r7 r8 r9 r10 r11 r12 r13 r14 r15 r16 r17 r18 r19 r20 : Value) (hnp : p.length = n) (hnq : q.length = lq) (hnt : t.length = lt) (hlp : n ≤ 9223372036854775807) (hlq : lq ≤ 9223372036854775807) (hlt : lt ≤ 9223372036854775807) (hcp : n ≤ c) (hcq : lq ≤ cq) (hct : lt ≤ ct) (hp : IL w w.heap.size A p) (hq : IL w w.heap.size Q q) (ht : IL w w.heap.size T t) (hs : (decide (n ≤ 60) && decide (lq ≤ 60) && decide (lt ≤ 60)) = true) (hf : (smallI p && smallI q && smallI t && smallN pos) = false) :
    Calls Try.prog 8 #[.slice A n c, .agg #[Value.int .i64 K, .slice Q lq cq, .slice T lt ct, .int .i64 pos, r4, r5, r6, r7, r8, r9, r10, r11, r12, r13, r14, r15, r16, r17, r18, r19, r20]] w (AllTrue w) := by
  obtain ⟨W0, hW⟩ : ∃ W0, W0 = w.alloc (.cells #[Value.int .i64 K, .slice Q lq cq, .slice T lt ct, .int .i64 pos, r4, r5, r6, r7, r8, r9, r10, r11, r12, r13, r14, r15, r16, r17, r18, r19, r20] 35) := ⟨_, rfl⟩
  have hb0 : Below w.heap.size w W0 := hW ▸ new_below w _
  have e0 : W0.heap[w.heap.size]? = some (.cells #[Value.int .i64 K, .slice Q lq cq, .slice T lt ct, .int .i64 pos, r4, r5, r6, r7, r8, r9, r10, r11, r12, r13, r14, r15, r16, r17, r18, r19, r20] 35 (0, 0)) := hW ▸ heap_alloc_new _ _
  have HK := hd (fun W (h : Below W0.heap.size W0 W) => op_cells (xkeep e0 h))
  have HKR := hd (fun W (h : Below W0.heap.size W0 W) => xkeep e0 h)
  have HW := hd hW
  have HBE := hd hb0
  have HBc := hd (Below.refl W0.heap.size W0)
  have HSH := hd hs
  simp only [Bool.and_eq_true, decide_eq_true_iff] at hs
  obtain ⟨⟨b1, bq⟩, bt⟩ := hs
  have HIp := hd (fun W (h : Below W0.heap.size W0 W) => hp.later (hb0.trans (h.mono hb0.size)))
  have HP := hd (show ∀ W, Below W0.heap.size W0 W → XA W (.slice A n c) p from fun W h => ⟨A, n, c, rfl, hnp, by omega, hcp, HIp.out W h⟩)
  have HNp := hd hnp
  have HIq := hd (fun W (h : Below W0.heap.size W0 W) => hq.later (hb0.trans (h.mono hb0.size)))
  have HQ := hd (show ∀ W, Below W0.heap.size W0 W → XA W (.slice Q lq cq) q from fun W h => ⟨Q, lq, cq, rfl, hnq, by omega, hcq, HIq.out W h⟩)
  have HNq := hd hnq
  have HIt := hd (fun W (h : Below W0.heap.size W0 W) => ht.later (hb0.trans (h.mono hb0.size)))
  have HT := hd (show ∀ W, Below W0.heap.size W0 W → XA W (.slice T lt ct) t from fun W h => ⟨T, lt, ct, rfl, hnt, by omega, hct, HIt.out W h⟩)
  have HNt := hd hnt
  clear hW hb0 e0 hp hnp hq hnq ht hnt
  cases h1 : smallI p
  · have Sp := hd h1
    clear h1 hf
    go_enter Try.func8, Try.ntmps8
    go_wp2_with (first
      | (refine wpList_load_op (HKR.out _ HBc.out) _ rfl rfl rfl ?_)
      | (go_at_call 9; rw [← HW.out]; refine Calls.mono (live8_any _) ?_; rintro e w9 ⟨rfl, b9⟩; have HBc := hd (step_b HBc.out b9); clear b9; obtain ⟨x0, x1, x2, x3⟩ := HK.out _ HBc.out)
      | (go_at_call 10; refine Calls.mono (short_1 hlq hlt hlp HSH.out) ?_; rintro e w9 ⟨rfl, b9⟩; have HBc := hd (step_b HBc.out b9); clear b9 x0 x1 x2 x3; obtain ⟨x0, x1, x2, x3⟩ := HK.out _ HBc.out)
      | (go_at_call 15; refine Calls.mono (rsmall_at (by first | exact HP.out _ HBc.out | exact HQ.out _ HBc.out | exact HT.out _ HBc.out) (by first | exact Sp.out | exact Sq.out | exact St.out)) ?_; rintro e w9 ⟨rfl, b9⟩; have HBc := hd (step_b HBc.out b9); clear b9 x0 x1 x2 x3; obtain ⟨x0, x1, x2, x3⟩ := HK.out _ HBc.out))
    go_ret
    exact ⟨rfl, HBE.out.trans (HBc.out.mono HBE.out.size)⟩
  have Sp := hd h1
  rw [h1] at hf
  clear h1
  cases h1 : smallI q
  · have Sq := hd h1
    clear h1 hf
    go_enter Try.func8, Try.ntmps8
    go_wp2_with (first
      | (refine wpList_load_op (HKR.out _ HBc.out) _ rfl rfl rfl ?_)
      | (go_at_call 9; rw [← HW.out]; refine Calls.mono (live8_any _) ?_; rintro e w9 ⟨rfl, b9⟩; have HBc := hd (step_b HBc.out b9); clear b9; obtain ⟨x0, x1, x2, x3⟩ := HK.out _ HBc.out)
      | (go_at_call 10; refine Calls.mono (short_1 hlq hlt hlp HSH.out) ?_; rintro e w9 ⟨rfl, b9⟩; have HBc := hd (step_b HBc.out b9); clear b9 x0 x1 x2 x3; obtain ⟨x0, x1, x2, x3⟩ := HK.out _ HBc.out)
      | (go_at_call 15; refine Calls.mono (rsmall_at (by first | exact HP.out _ HBc.out | exact HQ.out _ HBc.out | exact HT.out _ HBc.out) (by first | exact Sp.out | exact Sq.out | exact St.out)) ?_; rintro e w9 ⟨rfl, b9⟩; have HBc := hd (step_b HBc.out b9); clear b9 x0 x1 x2 x3; obtain ⟨x0, x1, x2, x3⟩ := HK.out _ HBc.out))
    go_ret
    exact ⟨rfl, HBE.out.trans (HBc.out.mono HBE.out.size)⟩
  have Sq := hd h1
  rw [h1] at hf
  clear h1
  cases h1 : smallI t
  · have St := hd h1
    clear h1 hf
    go_enter Try.func8, Try.ntmps8
    go_wp2_with (first
      | (refine wpList_load_op (HKR.out _ HBc.out) _ rfl rfl rfl ?_)
      | (go_at_call 9; rw [← HW.out]; refine Calls.mono (live8_any _) ?_; rintro e w9 ⟨rfl, b9⟩; have HBc := hd (step_b HBc.out b9); clear b9; obtain ⟨x0, x1, x2, x3⟩ := HK.out _ HBc.out)
      | (go_at_call 10; refine Calls.mono (short_1 hlq hlt hlp HSH.out) ?_; rintro e w9 ⟨rfl, b9⟩; have HBc := hd (step_b HBc.out b9); clear b9 x0 x1 x2 x3; obtain ⟨x0, x1, x2, x3⟩ := HK.out _ HBc.out)
      | (go_at_call 15; refine Calls.mono (rsmall_at (by first | exact HP.out _ HBc.out | exact HQ.out _ HBc.out | exact HT.out _ HBc.out) (by first | exact Sp.out | exact Sq.out | exact St.out)) ?_; rintro e w9 ⟨rfl, b9⟩; have HBc := hd (step_b HBc.out b9); clear b9 x0 x1 x2 x3; obtain ⟨x0, x1, x2, x3⟩ := HK.out _ HBc.out))
    go_ret
    exact ⟨rfl, HBE.out.trans (HBc.out.mono HBE.out.size)⟩
  have St := hd h1
  rw [h1] at hf
  clear h1
  by_cases g0 : pos < 0
  · clear hf
    go_enter Try.func8, Try.ntmps8
    go_wp2_with (first
      | (refine wpList_load_op (HKR.out _ HBc.out) _ rfl rfl rfl ?_)
      | (go_at_call 9; rw [← HW.out]; refine Calls.mono (live8_any _) ?_; rintro e w9 ⟨rfl, b9⟩; have HBc := hd (step_b HBc.out b9); clear b9; obtain ⟨x0, x1, x2, x3⟩ := HK.out _ HBc.out)
      | (go_at_call 10; refine Calls.mono (short_1 hlq hlt hlp HSH.out) ?_; rintro e w9 ⟨rfl, b9⟩; have HBc := hd (step_b HBc.out b9); clear b9 x0 x1 x2 x3; obtain ⟨x0, x1, x2, x3⟩ := HK.out _ HBc.out)
      | (go_at_call 15; refine Calls.mono (rsmall_at (by first | exact HP.out _ HBc.out | exact HQ.out _ HBc.out | exact HT.out _ HBc.out) (by first | exact Sp.out | exact Sq.out | exact St.out)) ?_; rintro e w9 ⟨rfl, b9⟩; have HBc := hd (step_b HBc.out b9); clear b9 x0 x1 x2 x3; obtain ⟨x0, x1, x2, x3⟩ := HK.out _ HBc.out))
    go_ret
    exact ⟨rfl, HBE.out.trans (HBc.out.mono HBE.out.size)⟩
  by_cases g1 : 1048576 < pos
  · clear hf
    go_enter Try.func8, Try.ntmps8
    go_wp2_with (first
      | (refine wpList_load_op (HKR.out _ HBc.out) _ rfl rfl rfl ?_)
      | (go_at_call 9; rw [← HW.out]; refine Calls.mono (live8_any _) ?_; rintro e w9 ⟨rfl, b9⟩; have HBc := hd (step_b HBc.out b9); clear b9; obtain ⟨x0, x1, x2, x3⟩ := HK.out _ HBc.out)
      | (go_at_call 10; refine Calls.mono (short_1 hlq hlt hlp HSH.out) ?_; rintro e w9 ⟨rfl, b9⟩; have HBc := hd (step_b HBc.out b9); clear b9 x0 x1 x2 x3; obtain ⟨x0, x1, x2, x3⟩ := HK.out _ HBc.out)
      | (go_at_call 15; refine Calls.mono (rsmall_at (by first | exact HP.out _ HBc.out | exact HQ.out _ HBc.out | exact HT.out _ HBc.out) (by first | exact Sp.out | exact Sq.out | exact St.out)) ?_; rintro e w9 ⟨rfl, b9⟩; have HBc := hd (step_b HBc.out b9); clear b9 x0 x1 x2 x3; obtain ⟨x0, x1, x2, x3⟩ := HK.out _ HBc.out))
    go_ret
    exact ⟨rfl, HBE.out.trans (HBc.out.mono HBE.out.size)⟩
  exfalso
  simp [smallN] at hf
  omega
set_option maxRecDepth 100000 in
set_option maxHeartbeats 8000000 in
theorem xstays_ops (w : World) (A Q T : Option Addr) (p q t : List Int) (n lq lt c cq ct : Nat) (K pos : Int) (r4 r5 r6 r7 r8 r9 r10 r11 r12 r13 r14 r15 r16 r17 r18 r19 r20 : Value) (hnp : p.length = n) (hnq : q.length = lq) (hnt : t.length = lt) (hlp : n ≤ 9223372036854775807) (hlq : lq ≤ 9223372036854775807) (hlt : lt ≤ 9223372036854775807) (hcp : n ≤ c) (hcq : lq ≤ cq) (hct : lt ≤ ct) (hp : IL w w.heap.size A p) (hq : IL w w.heap.size Q q) (ht : IL w w.heap.size T t) (hs : (decide (n ≤ 60) && decide (lq ≤ 60) && decide (lt ≤ 60)) = true) (hf : (smallI p && smallI q && smallI t && smallN pos) = true) (hk1 : 6 ≤ K) (hk2 : K ≤ 9) :
    Calls Try.prog 8 #[.slice A n c, .agg #[Value.int .i64 K, .slice Q lq cq, .slice T lt ct, .int .i64 pos, r4, r5, r6, r7, r8, r9, r10, r11, r12, r13, r14, r15, r16, r17, r18, r19, r20]] w (AllTrue w) := by
  obtain ⟨W0, hW⟩ : ∃ W0, W0 = w.alloc (.cells #[Value.int .i64 K, .slice Q lq cq, .slice T lt ct, .int .i64 pos, r4, r5, r6, r7, r8, r9, r10, r11, r12, r13, r14, r15, r16, r17, r18, r19, r20] 35) := ⟨_, rfl⟩
  have hb0 : Below w.heap.size w W0 := hW ▸ new_below w _
  have e0 : W0.heap[w.heap.size]? = some (.cells #[Value.int .i64 K, .slice Q lq cq, .slice T lt ct, .int .i64 pos, r4, r5, r6, r7, r8, r9, r10, r11, r12, r13, r14, r15, r16, r17, r18, r19, r20] 35 (0, 0)) := hW ▸ heap_alloc_new _ _
  have HK := hd (fun W (h : Below W0.heap.size W0 W) => op_cells (xkeep e0 h))
  have HKR := hd (fun W (h : Below W0.heap.size W0 W) => xkeep e0 h)
  have HW := hd hW
  have HBE := hd hb0
  have HBc := hd (Below.refl W0.heap.size W0)
  have HSH := hd hs
  simp only [Bool.and_eq_true, decide_eq_true_iff] at hs
  obtain ⟨⟨b1, bq⟩, bt⟩ := hs
  have HIp := hd (fun W (h : Below W0.heap.size W0 W) => hp.later (hb0.trans (h.mono hb0.size)))
  have HP := hd (show ∀ W, Below W0.heap.size W0 W → XA W (.slice A n c) p from fun W h => ⟨A, n, c, rfl, hnp, by omega, hcp, HIp.out W h⟩)
  have HNp := hd hnp
  have HIq := hd (fun W (h : Below W0.heap.size W0 W) => hq.later (hb0.trans (h.mono hb0.size)))
  have HQ := hd (show ∀ W, Below W0.heap.size W0 W → XA W (.slice Q lq cq) q from fun W h => ⟨Q, lq, cq, rfl, hnq, by omega, hcq, HIq.out W h⟩)
  have HNq := hd hnq
  have HIt := hd (fun W (h : Below W0.heap.size W0 W) => ht.later (hb0.trans (h.mono hb0.size)))
  have HT := hd (show ∀ W, Below W0.heap.size W0 W → XA W (.slice T lt ct) t from fun W h => ⟨T, lt, ct, rfl, hnt, by omega, hct, HIt.out W h⟩)
  have HNt := hd hnt
  clear hW hb0 e0 hp hnp hq hnq ht hnt
  simp only [Bool.and_eq_true] at hf
  obtain ⟨⟨⟨h1, h2⟩, h3⟩, h4⟩ := hf
  have Sp := hd h1
  have Sq := hd h2
  have St := hd h3
  obtain ⟨g0, g1⟩ := (smallN_iff pos).1 h4
  have g2 : decide (pos < 0) = false := decide_eq_false (by omega)
  have g3 : decide (1048576 < pos) = false := decide_eq_false (by omega)
  obtain ⟨r, hr⟩ : ∃ r, moveL K q t pos p = r := ⟨_, rfl⟩
  have HR := hd hr
  have HLR := hd (show r.1.length ≤ 1000 by rw [← hr]; have h1 := moveL_len (K := K) (pos := pos) (q := q) (t := t) (p := p); have h2 := HNp.out; have h3 := HNt.out; omega)
  have HLAW := hd (fun h => hr.symm.trans (law_stays (K := K) (pos := pos) (q := q) (t := t) (p := p) h1 h2 h3 h4 h))
  have HS2 := hd (show samI p p = true from decide_eq_true rfl)
  clear hr g0 g1 h1 h2 h3 h4
  go_enter Try.func8, Try.ntmps8
  go_upto_region 5 with (first
    | (refine wpList_load_op (HKR.out _ HBc.out) _ rfl rfl rfl ?_)
    | (go_at_call 9; rw [← HW.out]; refine Calls.mono (live8_any _) ?_; rintro e w9 ⟨rfl, b9⟩; have HBc := hd (step_b HBc.out b9); clear b9; obtain ⟨x0, x1, x2, x3⟩ := HK.out _ HBc.out)
    | (go_at_call 10; refine Calls.mono (short_1 hlq hlt hlp HSH.out) ?_; rintro e w9 ⟨rfl, b9⟩; have HBc := hd (step_b HBc.out b9); clear b9 x0 x1 x2 x3; obtain ⟨x0, x1, x2, x3⟩ := HK.out _ HBc.out)
    | (go_at_call 15; refine Calls.mono (rsmall_at (by first | exact HP.out _ HBc.out | exact HQ.out _ HBc.out | exact HT.out _ HBc.out) (by first | exact Sp.out | exact Sq.out | exact St.out)) ?_; rintro e w9 ⟨rfl, b9⟩; have HBc := hd (step_b HBc.out b9); clear b9 x0 x1 x2 x3; obtain ⟨x0, x1, x2, x3⟩ := HK.out _ HBc.out))
  go_upto_region 6 with (first
    | (refine wpList_load_op (HKR.out _ HBc.out) _ rfl rfl rfl ?_)
    | (go_at_call 12; refine Calls.mono (move_at (HP.out _ HBc.out) (HQ.out _ HBc.out) (HT.out _ HBc.out) HR.out) ?_; rintro e w9 ⟨v9, rfl, ho, b9⟩; have HB9 := hd (step_b HBc.out b9); have HX9 := hd (XA.own ho HLR.out); have HX := hd (fun W (h : Below w9.heap.size w9 W) => HX9.out.later h); have HP := hd (fun W (h : Below w9.heap.size w9 W) => HP.out W (step_b HB9.out h)); have HQ := hd (fun W (h : Below w9.heap.size w9 W) => HQ.out W (step_b HB9.out h)); have HT := hd (fun W (h : Below w9.heap.size w9 W) => HT.out W (step_b HB9.out h)); have HK := hd (fun W (h : Below w9.heap.size w9 W) => HK.out W (step_b HB9.out h)); have HKR := hd (fun W (h : Below w9.heap.size w9 W) => HKR.out W (step_b HB9.out h)); have HBE := hd (HBE.out.trans (HB9.out.mono HBE.out.size)); have HBc := hd (Below.refl w9.heap.size w9); clear ho b9 HB9 HX9 x0 x1 x2 x3; obtain ⟨x0, x1, x2, x3⟩ := HK.out _ HBc.out))
  have e := HLAW.out (.inl ⟨hk1, hk2⟩)
  subst e
  go_wp2_with (first
        | (go_at_call 16; refine Calls.mono (same_at (by first | exact HX.out _ HBc.out | exact HQ.out _ HBc.out) (HP.out _ HBc.out) (by first | exact HS2.out | exact HSS.out)) ?_; rintro e w9 ⟨rfl, b9⟩; have HBc := hd (step_b HBc.out b9); clear b9 x0 x1 x2 x3; obtain ⟨x0, x1, x2, x3⟩ := HK.out _ HBc.out)
        | (go_at_call 17; refine Calls.mono (above_at (HQ.out _ HBc.out) (HP.out _ HBc.out) HSA.out) ?_; rintro e w9 ⟨rfl, b9⟩; have HBc := hd (step_b HBc.out b9); clear b9 x0 x1 x2 x3; obtain ⟨x0, x1, x2, x3⟩ := HK.out _ HBc.out)
        | (go_at_call 20; refine Calls.mono (left_at (HQ.out _ HBc.out) (HP.out _ HBc.out) HSL.out) ?_; rintro e w9 ⟨rfl, b9⟩; have HBc := hd (step_b HBc.out b9); clear b9 x0 x1 x2 x3; obtain ⟨x0, x1, x2, x3⟩ := HK.out _ HBc.out))
  go_ret
  exact ⟨rfl, HBE.out.trans (HBc.out.mono HBE.out.size)⟩
set_option maxRecDepth 100000 in
set_option maxHeartbeats 8000000 in
theorem xstays_k5 (w : World) (A Q T : Option Addr) (p q t : List Int) (n lq lt c cq ct : Nat) (K pos : Int) (r4 r5 r6 r7 r8 r9 r10 r11 r12 r13 r14 r15 r16 r17 r18 r19 r20 : Value) (hnp : p.length = n) (hnq : q.length = lq) (hnt : t.length = lt) (hlp : n ≤ 9223372036854775807) (hlq : lq ≤ 9223372036854775807) (hlt : lt ≤ 9223372036854775807) (hcp : n ≤ c) (hcq : lq ≤ cq) (hct : lt ≤ ct) (hp : IL w w.heap.size A p) (hq : IL w w.heap.size Q q) (ht : IL w w.heap.size T t) (hs : (decide (n ≤ 60) && decide (lq ≤ 60) && decide (lt ≤ 60)) = true) (hf : (smallI p && smallI q && smallI t && smallN pos) = true) (hk : K = 5) :
    Calls Try.prog 8 #[.slice A n c, .agg #[Value.int .i64 K, .slice Q lq cq, .slice T lt ct, .int .i64 pos, r4, r5, r6, r7, r8, r9, r10, r11, r12, r13, r14, r15, r16, r17, r18, r19, r20]] w (AllTrue w) := by
  obtain ⟨W0, hW⟩ : ∃ W0, W0 = w.alloc (.cells #[Value.int .i64 K, .slice Q lq cq, .slice T lt ct, .int .i64 pos, r4, r5, r6, r7, r8, r9, r10, r11, r12, r13, r14, r15, r16, r17, r18, r19, r20] 35) := ⟨_, rfl⟩
  have hb0 : Below w.heap.size w W0 := hW ▸ new_below w _
  have e0 : W0.heap[w.heap.size]? = some (.cells #[Value.int .i64 K, .slice Q lq cq, .slice T lt ct, .int .i64 pos, r4, r5, r6, r7, r8, r9, r10, r11, r12, r13, r14, r15, r16, r17, r18, r19, r20] 35 (0, 0)) := hW ▸ heap_alloc_new _ _
  have HK := hd (fun W (h : Below W0.heap.size W0 W) => op_cells (xkeep e0 h))
  have HKR := hd (fun W (h : Below W0.heap.size W0 W) => xkeep e0 h)
  have HW := hd hW
  have HBE := hd hb0
  have HBc := hd (Below.refl W0.heap.size W0)
  have HSH := hd hs
  simp only [Bool.and_eq_true, decide_eq_true_iff] at hs
  obtain ⟨⟨b1, bq⟩, bt⟩ := hs
  have HIp := hd (fun W (h : Below W0.heap.size W0 W) => hp.later (hb0.trans (h.mono hb0.size)))
  have HP := hd (show ∀ W, Below W0.heap.size W0 W → XA W (.slice A n c) p from fun W h => ⟨A, n, c, rfl, hnp, by omega, hcp, HIp.out W h⟩)
  have HNp := hd hnp
  have HIq := hd (fun W (h : Below W0.heap.size W0 W) => hq.later (hb0.trans (h.mono hb0.size)))
  have HQ := hd (show ∀ W, Below W0.heap.size W0 W → XA W (.slice Q lq cq) q from fun W h => ⟨Q, lq, cq, rfl, hnq, by omega, hcq, HIq.out W h⟩)
  have HNq := hd hnq
  have HIt := hd (fun W (h : Below W0.heap.size W0 W) => ht.later (hb0.trans (h.mono hb0.size)))
  have HT := hd (show ∀ W, Below W0.heap.size W0 W → XA W (.slice T lt ct) t from fun W h => ⟨T, lt, ct, rfl, hnt, by omega, hct, HIt.out W h⟩)
  have HNt := hd hnt
  clear hW hb0 e0 hp hnp hq hnq ht hnt
  subst hk
  simp only [Bool.and_eq_true] at hf
  obtain ⟨⟨⟨h1, h2⟩, h3⟩, h4⟩ := hf
  have Sp := hd h1
  have Sq := hd h2
  have St := hd h3
  obtain ⟨g0, g1⟩ := (smallN_iff pos).1 h4
  have g2 : decide (pos < 0) = false := decide_eq_false (by omega)
  have g3 : decide (1048576 < pos) = false := decide_eq_false (by omega)
  obtain ⟨r, hr⟩ : ∃ r, moveL 5 q t pos p = r := ⟨_, rfl⟩
  have HR := hd hr
  have HLR := hd (show r.1.length ≤ 1000 by rw [← hr]; have h1 := moveL_len (K := 5) (pos := pos) (q := q) (t := t) (p := p); have h2 := HNp.out; have h3 := HNt.out; omega)
  have HLAW := hd (fun h => hr.symm.trans (law_stays (K := 5) (pos := pos) (q := q) (t := t) (p := p) h1 h2 h3 h4 h))
  have HS2 := hd (show samI p p = true from decide_eq_true rfl)
  clear hr g0 g1 h1 h2 h3 h4
  go_enter Try.func8, Try.ntmps8
  go_upto_region 5 with (first
    | (refine wpList_load_op (HKR.out _ HBc.out) _ rfl rfl rfl ?_)
    | (go_at_call 9; rw [← HW.out]; refine Calls.mono (live8_any _) ?_; rintro e w9 ⟨rfl, b9⟩; have HBc := hd (step_b HBc.out b9); clear b9; obtain ⟨x0, x1, x2, x3⟩ := HK.out _ HBc.out)
    | (go_at_call 10; refine Calls.mono (short_1 hlq hlt hlp HSH.out) ?_; rintro e w9 ⟨rfl, b9⟩; have HBc := hd (step_b HBc.out b9); clear b9 x0 x1 x2 x3; obtain ⟨x0, x1, x2, x3⟩ := HK.out _ HBc.out)
    | (go_at_call 15; refine Calls.mono (rsmall_at (by first | exact HP.out _ HBc.out | exact HQ.out _ HBc.out | exact HT.out _ HBc.out) (by first | exact Sp.out | exact Sq.out | exact St.out)) ?_; rintro e w9 ⟨rfl, b9⟩; have HBc := hd (step_b HBc.out b9); clear b9 x0 x1 x2 x3; obtain ⟨x0, x1, x2, x3⟩ := HK.out _ HBc.out))
  go_upto_region 6 with (first
    | (refine wpList_load_op (HKR.out _ HBc.out) _ rfl rfl rfl ?_)
    | (go_at_call 12; refine Calls.mono (move_at (HP.out _ HBc.out) (HQ.out _ HBc.out) (HT.out _ HBc.out) HR.out) ?_; rintro e w9 ⟨v9, rfl, ho, b9⟩; have HB9 := hd (step_b HBc.out b9); have HX9 := hd (XA.own ho HLR.out); have HX := hd (fun W (h : Below w9.heap.size w9 W) => HX9.out.later h); have HP := hd (fun W (h : Below w9.heap.size w9 W) => HP.out W (step_b HB9.out h)); have HQ := hd (fun W (h : Below w9.heap.size w9 W) => HQ.out W (step_b HB9.out h)); have HT := hd (fun W (h : Below w9.heap.size w9 W) => HT.out W (step_b HB9.out h)); have HK := hd (fun W (h : Below w9.heap.size w9 W) => HK.out W (step_b HB9.out h)); have HKR := hd (fun W (h : Below w9.heap.size w9 W) => HKR.out W (step_b HB9.out h)); have HBE := hd (HBE.out.trans (HB9.out.mono HBE.out.size)); have HBc := hd (Below.refl w9.heap.size w9); clear ho b9 HB9 HX9 x0 x1 x2 x3; obtain ⟨x0, x1, x2, x3⟩ := HK.out _ HBc.out))
  rcases standL_cases q p with ⟨h0, h1, h2, h3⟩ | ⟨h0, h1, h2, h3⟩ | ⟨h0, h1, h2, h3⟩ | ⟨h0, h1, h2, h3⟩
  · have HSL := hd h1
    have HSS := hd h2
    have HSA := hd h3
    have HS0 := hd h0
    clear h0 h1 h2 h3
    go_wp2_with (first
          | (go_at_call 16; refine Calls.mono (same_at (by first | exact HX.out _ HBc.out | exact HQ.out _ HBc.out) (HP.out _ HBc.out) (by first | exact HS2.out | exact HSS.out)) ?_; rintro e w9 ⟨rfl, b9⟩; have HBc := hd (step_b HBc.out b9); clear b9 x0 x1 x2 x3; obtain ⟨x0, x1, x2, x3⟩ := HK.out _ HBc.out)
          | (go_at_call 17; refine Calls.mono (above_at (HQ.out _ HBc.out) (HP.out _ HBc.out) HSA.out) ?_; rintro e w9 ⟨rfl, b9⟩; have HBc := hd (step_b HBc.out b9); clear b9 x0 x1 x2 x3; obtain ⟨x0, x1, x2, x3⟩ := HK.out _ HBc.out)
          | (go_at_call 20; refine Calls.mono (left_at (HQ.out _ HBc.out) (HP.out _ HBc.out) HSL.out) ?_; rintro e w9 ⟨rfl, b9⟩; have HBc := hd (step_b HBc.out b9); clear b9 x0 x1 x2 x3; obtain ⟨x0, x1, x2, x3⟩ := HK.out _ HBc.out))
    go_ret
    exact ⟨rfl, HBE.out.trans (HBc.out.mono HBE.out.size)⟩
  · have HSL := hd h1
    have HSS := hd h2
    have HSA := hd h3
    have HS0 := hd h0
    clear h0 h1 h2 h3
    go_wp2_with (first
          | (go_at_call 16; refine Calls.mono (same_at (by first | exact HX.out _ HBc.out | exact HQ.out _ HBc.out) (HP.out _ HBc.out) (by first | exact HS2.out | exact HSS.out)) ?_; rintro e w9 ⟨rfl, b9⟩; have HBc := hd (step_b HBc.out b9); clear b9 x0 x1 x2 x3; obtain ⟨x0, x1, x2, x3⟩ := HK.out _ HBc.out)
          | (go_at_call 17; refine Calls.mono (above_at (HQ.out _ HBc.out) (HP.out _ HBc.out) HSA.out) ?_; rintro e w9 ⟨rfl, b9⟩; have HBc := hd (step_b HBc.out b9); clear b9 x0 x1 x2 x3; obtain ⟨x0, x1, x2, x3⟩ := HK.out _ HBc.out)
          | (go_at_call 20; refine Calls.mono (left_at (HQ.out _ HBc.out) (HP.out _ HBc.out) HSL.out) ?_; rintro e w9 ⟨rfl, b9⟩; have HBc := hd (step_b HBc.out b9); clear b9 x0 x1 x2 x3; obtain ⟨x0, x1, x2, x3⟩ := HK.out _ HBc.out))
    go_ret
    exact ⟨rfl, HBE.out.trans (HBc.out.mono HBE.out.size)⟩
  · have HSL := hd h1
    have HSS := hd h2
    have HSA := hd h3
    have HS0 := hd h0
    clear h0 h1 h2 h3
    go_wp2_with (first
          | (go_at_call 16; refine Calls.mono (same_at (by first | exact HX.out _ HBc.out | exact HQ.out _ HBc.out) (HP.out _ HBc.out) (by first | exact HS2.out | exact HSS.out)) ?_; rintro e w9 ⟨rfl, b9⟩; have HBc := hd (step_b HBc.out b9); clear b9 x0 x1 x2 x3; obtain ⟨x0, x1, x2, x3⟩ := HK.out _ HBc.out)
          | (go_at_call 17; refine Calls.mono (above_at (HQ.out _ HBc.out) (HP.out _ HBc.out) HSA.out) ?_; rintro e w9 ⟨rfl, b9⟩; have HBc := hd (step_b HBc.out b9); clear b9 x0 x1 x2 x3; obtain ⟨x0, x1, x2, x3⟩ := HK.out _ HBc.out)
          | (go_at_call 20; refine Calls.mono (left_at (HQ.out _ HBc.out) (HP.out _ HBc.out) HSL.out) ?_; rintro e w9 ⟨rfl, b9⟩; have HBc := hd (step_b HBc.out b9); clear b9 x0 x1 x2 x3; obtain ⟨x0, x1, x2, x3⟩ := HK.out _ HBc.out))
    go_ret
    exact ⟨rfl, HBE.out.trans (HBc.out.mono HBE.out.size)⟩
  · have HSL := hd h1
    have HSS := hd h2
    have HSA := hd h3
    have HS0 := hd h0
    clear h0 h1 h2 h3
    go_wp2_with (first
          | (go_at_call 16; refine Calls.mono (same_at (by first | exact HX.out _ HBc.out | exact HQ.out _ HBc.out) (HP.out _ HBc.out) (by first | exact HS2.out | exact HSS.out)) ?_; rintro e w9 ⟨rfl, b9⟩; have HBc := hd (step_b HBc.out b9); clear b9 x0 x1 x2 x3; obtain ⟨x0, x1, x2, x3⟩ := HK.out _ HBc.out)
          | (go_at_call 17; refine Calls.mono (above_at (HQ.out _ HBc.out) (HP.out _ HBc.out) HSA.out) ?_; rintro e w9 ⟨rfl, b9⟩; have HBc := hd (step_b HBc.out b9); clear b9 x0 x1 x2 x3; obtain ⟨x0, x1, x2, x3⟩ := HK.out _ HBc.out)
          | (go_at_call 20; refine Calls.mono (left_at (HQ.out _ HBc.out) (HP.out _ HBc.out) HSL.out) ?_; rintro e w9 ⟨rfl, b9⟩; have HBc := hd (step_b HBc.out b9); clear b9 x0 x1 x2 x3; obtain ⟨x0, x1, x2, x3⟩ := HK.out _ HBc.out))
    go_ret
    exact ⟨rfl, HBE.out.trans (HBc.out.mono HBE.out.size)⟩
set_option maxRecDepth 100000 in
set_option maxHeartbeats 8000000 in
theorem xstays_k3 (w : World) (A Q T : Option Addr) (p q t : List Int) (n lq lt c cq ct : Nat) (K pos : Int) (r4 r5 r6 r7 r8 r9 r10 r11 r12 r13 r14 r15 r16 r17 r18 r19 r20 : Value) (hnp : p.length = n) (hnq : q.length = lq) (hnt : t.length = lt) (hlp : n ≤ 9223372036854775807) (hlq : lq ≤ 9223372036854775807) (hlt : lt ≤ 9223372036854775807) (hcp : n ≤ c) (hcq : lq ≤ cq) (hct : lt ≤ ct) (hp : IL w w.heap.size A p) (hq : IL w w.heap.size Q q) (ht : IL w w.heap.size T t) (hs : (decide (n ≤ 60) && decide (lq ≤ 60) && decide (lt ≤ 60)) = true) (hf : (smallI p && smallI q && smallI t && smallN pos) = true) (hk : K = 3) :
    Calls Try.prog 8 #[.slice A n c, .agg #[Value.int .i64 K, .slice Q lq cq, .slice T lt ct, .int .i64 pos, r4, r5, r6, r7, r8, r9, r10, r11, r12, r13, r14, r15, r16, r17, r18, r19, r20]] w (AllTrue w) := by
  obtain ⟨W0, hW⟩ : ∃ W0, W0 = w.alloc (.cells #[Value.int .i64 K, .slice Q lq cq, .slice T lt ct, .int .i64 pos, r4, r5, r6, r7, r8, r9, r10, r11, r12, r13, r14, r15, r16, r17, r18, r19, r20] 35) := ⟨_, rfl⟩
  have hb0 : Below w.heap.size w W0 := hW ▸ new_below w _
  have e0 : W0.heap[w.heap.size]? = some (.cells #[Value.int .i64 K, .slice Q lq cq, .slice T lt ct, .int .i64 pos, r4, r5, r6, r7, r8, r9, r10, r11, r12, r13, r14, r15, r16, r17, r18, r19, r20] 35 (0, 0)) := hW ▸ heap_alloc_new _ _
  have HK := hd (fun W (h : Below W0.heap.size W0 W) => op_cells (xkeep e0 h))
  have HKR := hd (fun W (h : Below W0.heap.size W0 W) => xkeep e0 h)
  have HW := hd hW
  have HBE := hd hb0
  have HBc := hd (Below.refl W0.heap.size W0)
  have HSH := hd hs
  simp only [Bool.and_eq_true, decide_eq_true_iff] at hs
  obtain ⟨⟨b1, bq⟩, bt⟩ := hs
  have HIp := hd (fun W (h : Below W0.heap.size W0 W) => hp.later (hb0.trans (h.mono hb0.size)))
  have HP := hd (show ∀ W, Below W0.heap.size W0 W → XA W (.slice A n c) p from fun W h => ⟨A, n, c, rfl, hnp, by omega, hcp, HIp.out W h⟩)
  have HNp := hd hnp
  have HIq := hd (fun W (h : Below W0.heap.size W0 W) => hq.later (hb0.trans (h.mono hb0.size)))
  have HQ := hd (show ∀ W, Below W0.heap.size W0 W → XA W (.slice Q lq cq) q from fun W h => ⟨Q, lq, cq, rfl, hnq, by omega, hcq, HIq.out W h⟩)
  have HNq := hd hnq
  have HIt := hd (fun W (h : Below W0.heap.size W0 W) => ht.later (hb0.trans (h.mono hb0.size)))
  have HT := hd (show ∀ W, Below W0.heap.size W0 W → XA W (.slice T lt ct) t from fun W h => ⟨T, lt, ct, rfl, hnt, by omega, hct, HIt.out W h⟩)
  have HNt := hd hnt
  clear hW hb0 e0 hp hnp hq hnq ht hnt
  subst hk
  simp only [Bool.and_eq_true] at hf
  obtain ⟨⟨⟨h1, h2⟩, h3⟩, h4⟩ := hf
  have Sp := hd h1
  have Sq := hd h2
  have St := hd h3
  obtain ⟨g0, g1⟩ := (smallN_iff pos).1 h4
  have g2 : decide (pos < 0) = false := decide_eq_false (by omega)
  have g3 : decide (1048576 < pos) = false := decide_eq_false (by omega)
  obtain ⟨r, hr⟩ : ∃ r, moveL 3 q t pos p = r := ⟨_, rfl⟩
  have HR := hd hr
  have HLR := hd (show r.1.length ≤ 1000 by rw [← hr]; have h1 := moveL_len (K := 3) (pos := pos) (q := q) (t := t) (p := p); have h2 := HNp.out; have h3 := HNt.out; omega)
  have HLAW := hd (fun h => hr.symm.trans (law_stays (K := 3) (pos := pos) (q := q) (t := t) (p := p) h1 h2 h3 h4 h))
  have HS2 := hd (show samI p p = true from decide_eq_true rfl)
  clear hr g0 g1 h1 h2 h3 h4
  go_enter Try.func8, Try.ntmps8
  go_upto_region 5 with (first
    | (refine wpList_load_op (HKR.out _ HBc.out) _ rfl rfl rfl ?_)
    | (go_at_call 9; rw [← HW.out]; refine Calls.mono (live8_any _) ?_; rintro e w9 ⟨rfl, b9⟩; have HBc := hd (step_b HBc.out b9); clear b9; obtain ⟨x0, x1, x2, x3⟩ := HK.out _ HBc.out)
    | (go_at_call 10; refine Calls.mono (short_1 hlq hlt hlp HSH.out) ?_; rintro e w9 ⟨rfl, b9⟩; have HBc := hd (step_b HBc.out b9); clear b9 x0 x1 x2 x3; obtain ⟨x0, x1, x2, x3⟩ := HK.out _ HBc.out)
    | (go_at_call 15; refine Calls.mono (rsmall_at (by first | exact HP.out _ HBc.out | exact HQ.out _ HBc.out | exact HT.out _ HBc.out) (by first | exact Sp.out | exact Sq.out | exact St.out)) ?_; rintro e w9 ⟨rfl, b9⟩; have HBc := hd (step_b HBc.out b9); clear b9 x0 x1 x2 x3; obtain ⟨x0, x1, x2, x3⟩ := HK.out _ HBc.out))
  go_upto_region 6 with (first
    | (refine wpList_load_op (HKR.out _ HBc.out) _ rfl rfl rfl ?_)
    | (go_at_call 12; refine Calls.mono (move_at (HP.out _ HBc.out) (HQ.out _ HBc.out) (HT.out _ HBc.out) HR.out) ?_; rintro e w9 ⟨v9, rfl, ho, b9⟩; have HB9 := hd (step_b HBc.out b9); have HX9 := hd (XA.own ho HLR.out); have HX := hd (fun W (h : Below w9.heap.size w9 W) => HX9.out.later h); have HP := hd (fun W (h : Below w9.heap.size w9 W) => HP.out W (step_b HB9.out h)); have HQ := hd (fun W (h : Below w9.heap.size w9 W) => HQ.out W (step_b HB9.out h)); have HT := hd (fun W (h : Below w9.heap.size w9 W) => HT.out W (step_b HB9.out h)); have HK := hd (fun W (h : Below w9.heap.size w9 W) => HK.out W (step_b HB9.out h)); have HKR := hd (fun W (h : Below w9.heap.size w9 W) => HKR.out W (step_b HB9.out h)); have HBE := hd (HBE.out.trans (HB9.out.mono HBE.out.size)); have HBc := hd (Below.refl w9.heap.size w9); clear ho b9 HB9 HX9 x0 x1 x2 x3; obtain ⟨x0, x1, x2, x3⟩ := HK.out _ HBc.out))
  rcases standL_cases q p with ⟨h0, h1, h2, h3⟩ | ⟨h0, h1, h2, h3⟩ | ⟨h0, h1, h2, h3⟩ | ⟨h0, h1, h2, h3⟩
  · have HSL := hd h1
    have HSS := hd h2
    have HSA := hd h3
    have HS0 := hd h0
    clear h0 h1 h2 h3
    go_wp2_with (first
          | (go_at_call 16; refine Calls.mono (same_at (by first | exact HX.out _ HBc.out | exact HQ.out _ HBc.out) (HP.out _ HBc.out) (by first | exact HS2.out | exact HSS.out)) ?_; rintro e w9 ⟨rfl, b9⟩; have HBc := hd (step_b HBc.out b9); clear b9 x0 x1 x2 x3; obtain ⟨x0, x1, x2, x3⟩ := HK.out _ HBc.out)
          | (go_at_call 17; refine Calls.mono (above_at (HQ.out _ HBc.out) (HP.out _ HBc.out) HSA.out) ?_; rintro e w9 ⟨rfl, b9⟩; have HBc := hd (step_b HBc.out b9); clear b9 x0 x1 x2 x3; obtain ⟨x0, x1, x2, x3⟩ := HK.out _ HBc.out)
          | (go_at_call 20; refine Calls.mono (left_at (HQ.out _ HBc.out) (HP.out _ HBc.out) HSL.out) ?_; rintro e w9 ⟨rfl, b9⟩; have HBc := hd (step_b HBc.out b9); clear b9 x0 x1 x2 x3; obtain ⟨x0, x1, x2, x3⟩ := HK.out _ HBc.out))
    go_ret
    exact ⟨rfl, HBE.out.trans (HBc.out.mono HBE.out.size)⟩
  · have HSL := hd h1
    have HSS := hd h2
    have HSA := hd h3
    have HS0 := hd h0
    clear h0 h1 h2 h3
    go_wp2_with (first
          | (go_at_call 16; refine Calls.mono (same_at (by first | exact HX.out _ HBc.out | exact HQ.out _ HBc.out) (HP.out _ HBc.out) (by first | exact HS2.out | exact HSS.out)) ?_; rintro e w9 ⟨rfl, b9⟩; have HBc := hd (step_b HBc.out b9); clear b9 x0 x1 x2 x3; obtain ⟨x0, x1, x2, x3⟩ := HK.out _ HBc.out)
          | (go_at_call 17; refine Calls.mono (above_at (HQ.out _ HBc.out) (HP.out _ HBc.out) HSA.out) ?_; rintro e w9 ⟨rfl, b9⟩; have HBc := hd (step_b HBc.out b9); clear b9 x0 x1 x2 x3; obtain ⟨x0, x1, x2, x3⟩ := HK.out _ HBc.out)
          | (go_at_call 20; refine Calls.mono (left_at (HQ.out _ HBc.out) (HP.out _ HBc.out) HSL.out) ?_; rintro e w9 ⟨rfl, b9⟩; have HBc := hd (step_b HBc.out b9); clear b9 x0 x1 x2 x3; obtain ⟨x0, x1, x2, x3⟩ := HK.out _ HBc.out))
    go_ret
    exact ⟨rfl, HBE.out.trans (HBc.out.mono HBE.out.size)⟩
  · have HSL := hd h1
    have HSS := hd h2
    have HSA := hd h3
    have HS0 := hd h0
    clear h0 h1 h2 h3
    go_wp2_with (first
          | (go_at_call 16; refine Calls.mono (same_at (by first | exact HX.out _ HBc.out | exact HQ.out _ HBc.out) (HP.out _ HBc.out) (by first | exact HS2.out | exact HSS.out)) ?_; rintro e w9 ⟨rfl, b9⟩; have HBc := hd (step_b HBc.out b9); clear b9 x0 x1 x2 x3; obtain ⟨x0, x1, x2, x3⟩ := HK.out _ HBc.out)
          | (go_at_call 17; refine Calls.mono (above_at (HQ.out _ HBc.out) (HP.out _ HBc.out) HSA.out) ?_; rintro e w9 ⟨rfl, b9⟩; have HBc := hd (step_b HBc.out b9); clear b9 x0 x1 x2 x3; obtain ⟨x0, x1, x2, x3⟩ := HK.out _ HBc.out)
          | (go_at_call 20; refine Calls.mono (left_at (HQ.out _ HBc.out) (HP.out _ HBc.out) HSL.out) ?_; rintro e w9 ⟨rfl, b9⟩; have HBc := hd (step_b HBc.out b9); clear b9 x0 x1 x2 x3; obtain ⟨x0, x1, x2, x3⟩ := HK.out _ HBc.out))
    go_ret
    exact ⟨rfl, HBE.out.trans (HBc.out.mono HBE.out.size)⟩
  · have HSL := hd h1
    have HSS := hd h2
    have HSA := hd h3
    have HS0 := hd h0
    clear h0 h1 h2 h3
    go_wp2_with (first
          | (go_at_call 16; refine Calls.mono (same_at (by first | exact HX.out _ HBc.out | exact HQ.out _ HBc.out) (HP.out _ HBc.out) (by first | exact HS2.out | exact HSS.out)) ?_; rintro e w9 ⟨rfl, b9⟩; have HBc := hd (step_b HBc.out b9); clear b9 x0 x1 x2 x3; obtain ⟨x0, x1, x2, x3⟩ := HK.out _ HBc.out)
          | (go_at_call 17; refine Calls.mono (above_at (HQ.out _ HBc.out) (HP.out _ HBc.out) HSA.out) ?_; rintro e w9 ⟨rfl, b9⟩; have HBc := hd (step_b HBc.out b9); clear b9 x0 x1 x2 x3; obtain ⟨x0, x1, x2, x3⟩ := HK.out _ HBc.out)
          | (go_at_call 20; refine Calls.mono (left_at (HQ.out _ HBc.out) (HP.out _ HBc.out) HSL.out) ?_; rintro e w9 ⟨rfl, b9⟩; have HBc := hd (step_b HBc.out b9); clear b9 x0 x1 x2 x3; obtain ⟨x0, x1, x2, x3⟩ := HK.out _ HBc.out))
    go_ret
    exact ⟨rfl, HBE.out.trans (HBc.out.mono HBE.out.size)⟩
set_option maxRecDepth 100000 in
set_option maxHeartbeats 8000000 in
theorem xstays_low (w : World) (A Q T : Option Addr) (p q t : List Int) (n lq lt c cq ct : Nat) (K pos : Int) (r4 r5 r6 r7 r8 r9 r10 r11 r12 r13 r14 r15 r16 r17 r18 r19 r20 : Value) (hnp : p.length = n) (hnq : q.length = lq) (hnt : t.length = lt) (hlp : n ≤ 9223372036854775807) (hlq : lq ≤ 9223372036854775807) (hlt : lt ≤ 9223372036854775807) (hcp : n ≤ c) (hcq : lq ≤ cq) (hct : lt ≤ ct) (hp : IL w w.heap.size A p) (hq : IL w w.heap.size Q q) (ht : IL w w.heap.size T t) (hs : (decide (n ≤ 60) && decide (lq ≤ 60) && decide (lt ≤ 60)) = true) (hf : (smallI p && smallI q && smallI t && smallN pos) = true) (hk : K < 6) (h5 : K ≠ 5) (h3 : K ≠ 3) :
    Calls Try.prog 8 #[.slice A n c, .agg #[Value.int .i64 K, .slice Q lq cq, .slice T lt ct, .int .i64 pos, r4, r5, r6, r7, r8, r9, r10, r11, r12, r13, r14, r15, r16, r17, r18, r19, r20]] w (AllTrue w) := by
  obtain ⟨W0, hW⟩ : ∃ W0, W0 = w.alloc (.cells #[Value.int .i64 K, .slice Q lq cq, .slice T lt ct, .int .i64 pos, r4, r5, r6, r7, r8, r9, r10, r11, r12, r13, r14, r15, r16, r17, r18, r19, r20] 35) := ⟨_, rfl⟩
  have hb0 : Below w.heap.size w W0 := hW ▸ new_below w _
  have e0 : W0.heap[w.heap.size]? = some (.cells #[Value.int .i64 K, .slice Q lq cq, .slice T lt ct, .int .i64 pos, r4, r5, r6, r7, r8, r9, r10, r11, r12, r13, r14, r15, r16, r17, r18, r19, r20] 35 (0, 0)) := hW ▸ heap_alloc_new _ _
  have HK := hd (fun W (h : Below W0.heap.size W0 W) => op_cells (xkeep e0 h))
  have HKR := hd (fun W (h : Below W0.heap.size W0 W) => xkeep e0 h)
  have HW := hd hW
  have HBE := hd hb0
  have HBc := hd (Below.refl W0.heap.size W0)
  have HSH := hd hs
  simp only [Bool.and_eq_true, decide_eq_true_iff] at hs
  obtain ⟨⟨b1, bq⟩, bt⟩ := hs
  have HIp := hd (fun W (h : Below W0.heap.size W0 W) => hp.later (hb0.trans (h.mono hb0.size)))
  have HP := hd (show ∀ W, Below W0.heap.size W0 W → XA W (.slice A n c) p from fun W h => ⟨A, n, c, rfl, hnp, by omega, hcp, HIp.out W h⟩)
  have HNp := hd hnp
  have HIq := hd (fun W (h : Below W0.heap.size W0 W) => hq.later (hb0.trans (h.mono hb0.size)))
  have HQ := hd (show ∀ W, Below W0.heap.size W0 W → XA W (.slice Q lq cq) q from fun W h => ⟨Q, lq, cq, rfl, hnq, by omega, hcq, HIq.out W h⟩)
  have HNq := hd hnq
  have HIt := hd (fun W (h : Below W0.heap.size W0 W) => ht.later (hb0.trans (h.mono hb0.size)))
  have HT := hd (show ∀ W, Below W0.heap.size W0 W → XA W (.slice T lt ct) t from fun W h => ⟨T, lt, ct, rfl, hnt, by omega, hct, HIt.out W h⟩)
  have HNt := hd hnt
  clear hW hb0 e0 hp hnp hq hnq ht hnt
  simp only [Bool.and_eq_true] at hf
  obtain ⟨⟨⟨h1, h2⟩, h6⟩, h4⟩ := hf
  have Sp := hd h1
  have Sq := hd h2
  have St := hd h6
  obtain ⟨g0, g1⟩ := (smallN_iff pos).1 h4
  have g2 : decide (pos < 0) = false := decide_eq_false (by omega)
  have g3 : decide (1048576 < pos) = false := decide_eq_false (by omega)
  obtain ⟨r, hr⟩ : ∃ r, moveL K q t pos p = r := ⟨_, rfl⟩
  have HR := hd hr
  have HLR := hd (show r.1.length ≤ 1000 by rw [← hr]; have h1 := moveL_len (K := K) (pos := pos) (q := q) (t := t) (p := p); have h2 := HNp.out; have h3 := HNt.out; omega)
  have HLAW := hd (fun h => hr.symm.trans (law_stays (K := K) (pos := pos) (q := q) (t := t) (p := p) h1 h2 h6 h4 h))
  have HS2 := hd (show samI p p = true from decide_eq_true rfl)
  clear hr g0 g1 h1 h2 h6 h4
  go_enter Try.func8, Try.ntmps8
  go_upto_region 5 with (first
    | (refine wpList_load_op (HKR.out _ HBc.out) _ rfl rfl rfl ?_)
    | (go_at_call 9; rw [← HW.out]; refine Calls.mono (live8_any _) ?_; rintro e w9 ⟨rfl, b9⟩; have HBc := hd (step_b HBc.out b9); clear b9; obtain ⟨x0, x1, x2, x3⟩ := HK.out _ HBc.out)
    | (go_at_call 10; refine Calls.mono (short_1 hlq hlt hlp HSH.out) ?_; rintro e w9 ⟨rfl, b9⟩; have HBc := hd (step_b HBc.out b9); clear b9 x0 x1 x2 x3; obtain ⟨x0, x1, x2, x3⟩ := HK.out _ HBc.out)
    | (go_at_call 15; refine Calls.mono (rsmall_at (by first | exact HP.out _ HBc.out | exact HQ.out _ HBc.out | exact HT.out _ HBc.out) (by first | exact Sp.out | exact Sq.out | exact St.out)) ?_; rintro e w9 ⟨rfl, b9⟩; have HBc := hd (step_b HBc.out b9); clear b9 x0 x1 x2 x3; obtain ⟨x0, x1, x2, x3⟩ := HK.out _ HBc.out))
  go_upto_region 6 with (first
    | (refine wpList_load_op (HKR.out _ HBc.out) _ rfl rfl rfl ?_)
    | (go_at_call 12; refine Calls.mono (move_at (HP.out _ HBc.out) (HQ.out _ HBc.out) (HT.out _ HBc.out) HR.out) ?_; rintro e w9 ⟨v9, rfl, ho, b9⟩; have HB9 := hd (step_b HBc.out b9); have HX9 := hd (XA.own ho HLR.out); have HX := hd (fun W (h : Below w9.heap.size w9 W) => HX9.out.later h); have HP := hd (fun W (h : Below w9.heap.size w9 W) => HP.out W (step_b HB9.out h)); have HQ := hd (fun W (h : Below w9.heap.size w9 W) => HQ.out W (step_b HB9.out h)); have HT := hd (fun W (h : Below w9.heap.size w9 W) => HT.out W (step_b HB9.out h)); have HK := hd (fun W (h : Below w9.heap.size w9 W) => HK.out W (step_b HB9.out h)); have HKR := hd (fun W (h : Below w9.heap.size w9 W) => HKR.out W (step_b HB9.out h)); have HBE := hd (HBE.out.trans (HB9.out.mono HBE.out.size)); have HBc := hd (Below.refl w9.heap.size w9); clear ho b9 HB9 HX9 x0 x1 x2 x3; obtain ⟨x0, x1, x2, x3⟩ := HK.out _ HBc.out))
  have hk3 : decide (6 ≤ K) = false := decide_eq_false (by omega)
  have k5 : (K == 5) = false := by simp [h5]
  have k3 : (K == 3) = false := by simp [h3]
  have HKK := hd (And.intro h5 h3)
  clear hk h5 h3
  rcases standL_cases q p with ⟨h0, h1, h2, h3⟩ | ⟨h0, h1, h2, h3⟩ | ⟨h0, h1, h2, h3⟩ | ⟨h0, h1, h2, h3⟩
  · have HSL := hd h1
    have HSS := hd h2
    have HSA := hd h3
    have HS0 := hd h0
    clear h0 h1 h2 h3
    go_wp2_with (first
          | (go_at_call 16; refine Calls.mono (same_at (by first | exact HX.out _ HBc.out | exact HQ.out _ HBc.out) (HP.out _ HBc.out) (by first | exact HS2.out | exact HSS.out)) ?_; rintro e w9 ⟨rfl, b9⟩; have HBc := hd (step_b HBc.out b9); clear b9 x0 x1 x2 x3; obtain ⟨x0, x1, x2, x3⟩ := HK.out _ HBc.out)
          | (go_at_call 17; refine Calls.mono (above_at (HQ.out _ HBc.out) (HP.out _ HBc.out) HSA.out) ?_; rintro e w9 ⟨rfl, b9⟩; have HBc := hd (step_b HBc.out b9); clear b9 x0 x1 x2 x3; obtain ⟨x0, x1, x2, x3⟩ := HK.out _ HBc.out)
          | (go_at_call 20; refine Calls.mono (left_at (HQ.out _ HBc.out) (HP.out _ HBc.out) HSL.out) ?_; rintro e w9 ⟨rfl, b9⟩; have HBc := hd (step_b HBc.out b9); clear b9 x0 x1 x2 x3; obtain ⟨x0, x1, x2, x3⟩ := HK.out _ HBc.out))
    go_ret
    exact ⟨rfl, HBE.out.trans (HBc.out.mono HBE.out.size)⟩
  · have HSL := hd h1
    have HSS := hd h2
    have HSA := hd h3
    have HS0 := hd h0
    clear h0 h1 h2 h3
    go_wp2_with (first
          | (go_at_call 16; refine Calls.mono (same_at (by first | exact HX.out _ HBc.out | exact HQ.out _ HBc.out) (HP.out _ HBc.out) (by first | exact HS2.out | exact HSS.out)) ?_; rintro e w9 ⟨rfl, b9⟩; have HBc := hd (step_b HBc.out b9); clear b9 x0 x1 x2 x3; obtain ⟨x0, x1, x2, x3⟩ := HK.out _ HBc.out)
          | (go_at_call 17; refine Calls.mono (above_at (HQ.out _ HBc.out) (HP.out _ HBc.out) HSA.out) ?_; rintro e w9 ⟨rfl, b9⟩; have HBc := hd (step_b HBc.out b9); clear b9 x0 x1 x2 x3; obtain ⟨x0, x1, x2, x3⟩ := HK.out _ HBc.out)
          | (go_at_call 20; refine Calls.mono (left_at (HQ.out _ HBc.out) (HP.out _ HBc.out) HSL.out) ?_; rintro e w9 ⟨rfl, b9⟩; have HBc := hd (step_b HBc.out b9); clear b9 x0 x1 x2 x3; obtain ⟨x0, x1, x2, x3⟩ := HK.out _ HBc.out))
    go_ret
    exact ⟨rfl, HBE.out.trans (HBc.out.mono HBE.out.size)⟩
  · have HSL := hd h1
    have HSS := hd h2
    have HSA := hd h3
    have HS0 := hd h0
    clear h0 h1 h2 h3
    go_wp2_with (first
          | (go_at_call 16; refine Calls.mono (same_at (by first | exact HX.out _ HBc.out | exact HQ.out _ HBc.out) (HP.out _ HBc.out) (by first | exact HS2.out | exact HSS.out)) ?_; rintro e w9 ⟨rfl, b9⟩; have HBc := hd (step_b HBc.out b9); clear b9 x0 x1 x2 x3; obtain ⟨x0, x1, x2, x3⟩ := HK.out _ HBc.out)
          | (go_at_call 17; refine Calls.mono (above_at (HQ.out _ HBc.out) (HP.out _ HBc.out) HSA.out) ?_; rintro e w9 ⟨rfl, b9⟩; have HBc := hd (step_b HBc.out b9); clear b9 x0 x1 x2 x3; obtain ⟨x0, x1, x2, x3⟩ := HK.out _ HBc.out)
          | (go_at_call 20; refine Calls.mono (left_at (HQ.out _ HBc.out) (HP.out _ HBc.out) HSL.out) ?_; rintro e w9 ⟨rfl, b9⟩; have HBc := hd (step_b HBc.out b9); clear b9 x0 x1 x2 x3; obtain ⟨x0, x1, x2, x3⟩ := HK.out _ HBc.out))
    go_ret
    exact ⟨rfl, HBE.out.trans (HBc.out.mono HBE.out.size)⟩
  · have HSL := hd h1
    have HSS := hd h2
    have HSA := hd h3
    have HS0 := hd h0
    clear h0 h1 h2 h3
    have e := HLAW.out (.inr ⟨HKK.out.1, HKK.out.2, HS0.out⟩)
    subst e
    go_wp2_with (first
          | (go_at_call 16; refine Calls.mono (same_at (by first | exact HX.out _ HBc.out | exact HQ.out _ HBc.out) (HP.out _ HBc.out) (by first | exact HS2.out | exact HSS.out)) ?_; rintro e w9 ⟨rfl, b9⟩; have HBc := hd (step_b HBc.out b9); clear b9 x0 x1 x2 x3; obtain ⟨x0, x1, x2, x3⟩ := HK.out _ HBc.out)
          | (go_at_call 17; refine Calls.mono (above_at (HQ.out _ HBc.out) (HP.out _ HBc.out) HSA.out) ?_; rintro e w9 ⟨rfl, b9⟩; have HBc := hd (step_b HBc.out b9); clear b9 x0 x1 x2 x3; obtain ⟨x0, x1, x2, x3⟩ := HK.out _ HBc.out)
          | (go_at_call 20; refine Calls.mono (left_at (HQ.out _ HBc.out) (HP.out _ HBc.out) HSL.out) ?_; rintro e w9 ⟨rfl, b9⟩; have HBc := hd (step_b HBc.out b9); clear b9 x0 x1 x2 x3; obtain ⟨x0, x1, x2, x3⟩ := HK.out _ HBc.out))
    go_ret
    exact ⟨rfl, HBE.out.trans (HBc.out.mono HBE.out.size)⟩
set_option maxRecDepth 100000 in
set_option maxHeartbeats 8000000 in
theorem xstays_high (w : World) (A Q T : Option Addr) (p q t : List Int) (n lq lt c cq ct : Nat) (K pos : Int) (r4 r5 r6 r7 r8 r9 r10 r11 r12 r13 r14 r15 r16 r17 r18 r19 r20 : Value) (hnp : p.length = n) (hnq : q.length = lq) (hnt : t.length = lt) (hlp : n ≤ 9223372036854775807) (hlq : lq ≤ 9223372036854775807) (hlt : lt ≤ 9223372036854775807) (hcp : n ≤ c) (hcq : lq ≤ cq) (hct : lt ≤ ct) (hp : IL w w.heap.size A p) (hq : IL w w.heap.size Q q) (ht : IL w w.heap.size T t) (hs : (decide (n ≤ 60) && decide (lq ≤ 60) && decide (lt ≤ 60)) = true) (hf : (smallI p && smallI q && smallI t && smallN pos) = true) (hk : 9 < K) (h5 : K ≠ 5) (h3 : K ≠ 3) :
    Calls Try.prog 8 #[.slice A n c, .agg #[Value.int .i64 K, .slice Q lq cq, .slice T lt ct, .int .i64 pos, r4, r5, r6, r7, r8, r9, r10, r11, r12, r13, r14, r15, r16, r17, r18, r19, r20]] w (AllTrue w) := by
  obtain ⟨W0, hW⟩ : ∃ W0, W0 = w.alloc (.cells #[Value.int .i64 K, .slice Q lq cq, .slice T lt ct, .int .i64 pos, r4, r5, r6, r7, r8, r9, r10, r11, r12, r13, r14, r15, r16, r17, r18, r19, r20] 35) := ⟨_, rfl⟩
  have hb0 : Below w.heap.size w W0 := hW ▸ new_below w _
  have e0 : W0.heap[w.heap.size]? = some (.cells #[Value.int .i64 K, .slice Q lq cq, .slice T lt ct, .int .i64 pos, r4, r5, r6, r7, r8, r9, r10, r11, r12, r13, r14, r15, r16, r17, r18, r19, r20] 35 (0, 0)) := hW ▸ heap_alloc_new _ _
  have HK := hd (fun W (h : Below W0.heap.size W0 W) => op_cells (xkeep e0 h))
  have HKR := hd (fun W (h : Below W0.heap.size W0 W) => xkeep e0 h)
  have HW := hd hW
  have HBE := hd hb0
  have HBc := hd (Below.refl W0.heap.size W0)
  have HSH := hd hs
  simp only [Bool.and_eq_true, decide_eq_true_iff] at hs
  obtain ⟨⟨b1, bq⟩, bt⟩ := hs
  have HIp := hd (fun W (h : Below W0.heap.size W0 W) => hp.later (hb0.trans (h.mono hb0.size)))
  have HP := hd (show ∀ W, Below W0.heap.size W0 W → XA W (.slice A n c) p from fun W h => ⟨A, n, c, rfl, hnp, by omega, hcp, HIp.out W h⟩)
  have HNp := hd hnp
  have HIq := hd (fun W (h : Below W0.heap.size W0 W) => hq.later (hb0.trans (h.mono hb0.size)))
  have HQ := hd (show ∀ W, Below W0.heap.size W0 W → XA W (.slice Q lq cq) q from fun W h => ⟨Q, lq, cq, rfl, hnq, by omega, hcq, HIq.out W h⟩)
  have HNq := hd hnq
  have HIt := hd (fun W (h : Below W0.heap.size W0 W) => ht.later (hb0.trans (h.mono hb0.size)))
  have HT := hd (show ∀ W, Below W0.heap.size W0 W → XA W (.slice T lt ct) t from fun W h => ⟨T, lt, ct, rfl, hnt, by omega, hct, HIt.out W h⟩)
  have HNt := hd hnt
  clear hW hb0 e0 hp hnp hq hnq ht hnt
  simp only [Bool.and_eq_true] at hf
  obtain ⟨⟨⟨h1, h2⟩, h6⟩, h4⟩ := hf
  have Sp := hd h1
  have Sq := hd h2
  have St := hd h6
  obtain ⟨g0, g1⟩ := (smallN_iff pos).1 h4
  have g2 : decide (pos < 0) = false := decide_eq_false (by omega)
  have g3 : decide (1048576 < pos) = false := decide_eq_false (by omega)
  obtain ⟨r, hr⟩ : ∃ r, moveL K q t pos p = r := ⟨_, rfl⟩
  have HR := hd hr
  have HLR := hd (show r.1.length ≤ 1000 by rw [← hr]; have h1 := moveL_len (K := K) (pos := pos) (q := q) (t := t) (p := p); have h2 := HNp.out; have h3 := HNt.out; omega)
  have HLAW := hd (fun h => hr.symm.trans (law_stays (K := K) (pos := pos) (q := q) (t := t) (p := p) h1 h2 h6 h4 h))
  have HS2 := hd (show samI p p = true from decide_eq_true rfl)
  clear hr g0 g1 h1 h2 h6 h4
  go_enter Try.func8, Try.ntmps8
  go_upto_region 5 with (first
    | (refine wpList_load_op (HKR.out _ HBc.out) _ rfl rfl rfl ?_)
    | (go_at_call 9; rw [← HW.out]; refine Calls.mono (live8_any _) ?_; rintro e w9 ⟨rfl, b9⟩; have HBc := hd (step_b HBc.out b9); clear b9; obtain ⟨x0, x1, x2, x3⟩ := HK.out _ HBc.out)
    | (go_at_call 10; refine Calls.mono (short_1 hlq hlt hlp HSH.out) ?_; rintro e w9 ⟨rfl, b9⟩; have HBc := hd (step_b HBc.out b9); clear b9 x0 x1 x2 x3; obtain ⟨x0, x1, x2, x3⟩ := HK.out _ HBc.out)
    | (go_at_call 15; refine Calls.mono (rsmall_at (by first | exact HP.out _ HBc.out | exact HQ.out _ HBc.out | exact HT.out _ HBc.out) (by first | exact Sp.out | exact Sq.out | exact St.out)) ?_; rintro e w9 ⟨rfl, b9⟩; have HBc := hd (step_b HBc.out b9); clear b9 x0 x1 x2 x3; obtain ⟨x0, x1, x2, x3⟩ := HK.out _ HBc.out))
  go_upto_region 6 with (first
    | (refine wpList_load_op (HKR.out _ HBc.out) _ rfl rfl rfl ?_)
    | (go_at_call 12; refine Calls.mono (move_at (HP.out _ HBc.out) (HQ.out _ HBc.out) (HT.out _ HBc.out) HR.out) ?_; rintro e w9 ⟨v9, rfl, ho, b9⟩; have HB9 := hd (step_b HBc.out b9); have HX9 := hd (XA.own ho HLR.out); have HX := hd (fun W (h : Below w9.heap.size w9 W) => HX9.out.later h); have HP := hd (fun W (h : Below w9.heap.size w9 W) => HP.out W (step_b HB9.out h)); have HQ := hd (fun W (h : Below w9.heap.size w9 W) => HQ.out W (step_b HB9.out h)); have HT := hd (fun W (h : Below w9.heap.size w9 W) => HT.out W (step_b HB9.out h)); have HK := hd (fun W (h : Below w9.heap.size w9 W) => HK.out W (step_b HB9.out h)); have HKR := hd (fun W (h : Below w9.heap.size w9 W) => HKR.out W (step_b HB9.out h)); have HBE := hd (HBE.out.trans (HB9.out.mono HBE.out.size)); have HBc := hd (Below.refl w9.heap.size w9); clear ho b9 HB9 HX9 x0 x1 x2 x3; obtain ⟨x0, x1, x2, x3⟩ := HK.out _ HBc.out))
  have hk3 : decide (K ≤ 9) = false := decide_eq_false (by omega)
  have hk6 : decide (6 ≤ K) = true := decide_eq_true (by omega)
  have k5 : (K == 5) = false := by simp [h5]
  have k3 : (K == 3) = false := by simp [h3]
  have HKK := hd (And.intro h5 h3)
  clear hk h5 h3
  rcases standL_cases q p with ⟨h0, h1, h2, h3⟩ | ⟨h0, h1, h2, h3⟩ | ⟨h0, h1, h2, h3⟩ | ⟨h0, h1, h2, h3⟩
  · have HSL := hd h1
    have HSS := hd h2
    have HSA := hd h3
    have HS0 := hd h0
    clear h0 h1 h2 h3
    go_wp2_with (first
          | (go_at_call 16; refine Calls.mono (same_at (by first | exact HX.out _ HBc.out | exact HQ.out _ HBc.out) (HP.out _ HBc.out) (by first | exact HS2.out | exact HSS.out)) ?_; rintro e w9 ⟨rfl, b9⟩; have HBc := hd (step_b HBc.out b9); clear b9 x0 x1 x2 x3; obtain ⟨x0, x1, x2, x3⟩ := HK.out _ HBc.out)
          | (go_at_call 17; refine Calls.mono (above_at (HQ.out _ HBc.out) (HP.out _ HBc.out) HSA.out) ?_; rintro e w9 ⟨rfl, b9⟩; have HBc := hd (step_b HBc.out b9); clear b9 x0 x1 x2 x3; obtain ⟨x0, x1, x2, x3⟩ := HK.out _ HBc.out)
          | (go_at_call 20; refine Calls.mono (left_at (HQ.out _ HBc.out) (HP.out _ HBc.out) HSL.out) ?_; rintro e w9 ⟨rfl, b9⟩; have HBc := hd (step_b HBc.out b9); clear b9 x0 x1 x2 x3; obtain ⟨x0, x1, x2, x3⟩ := HK.out _ HBc.out))
    go_ret
    exact ⟨rfl, HBE.out.trans (HBc.out.mono HBE.out.size)⟩
  · have HSL := hd h1
    have HSS := hd h2
    have HSA := hd h3
    have HS0 := hd h0
    clear h0 h1 h2 h3
    go_wp2_with (first
          | (go_at_call 16; refine Calls.mono (same_at (by first | exact HX.out _ HBc.out | exact HQ.out _ HBc.out) (HP.out _ HBc.out) (by first | exact HS2.out | exact HSS.out)) ?_; rintro e w9 ⟨rfl, b9⟩; have HBc := hd (step_b HBc.out b9); clear b9 x0 x1 x2 x3; obtain ⟨x0, x1, x2, x3⟩ := HK.out _ HBc.out)
          | (go_at_call 17; refine Calls.mono (above_at (HQ.out _ HBc.out) (HP.out _ HBc.out) HSA.out) ?_; rintro e w9 ⟨rfl, b9⟩; have HBc := hd (step_b HBc.out b9); clear b9 x0 x1 x2 x3; obtain ⟨x0, x1, x2, x3⟩ := HK.out _ HBc.out)
          | (go_at_call 20; refine Calls.mono (left_at (HQ.out _ HBc.out) (HP.out _ HBc.out) HSL.out) ?_; rintro e w9 ⟨rfl, b9⟩; have HBc := hd (step_b HBc.out b9); clear b9 x0 x1 x2 x3; obtain ⟨x0, x1, x2, x3⟩ := HK.out _ HBc.out))
    go_ret
    exact ⟨rfl, HBE.out.trans (HBc.out.mono HBE.out.size)⟩
  · have HSL := hd h1
    have HSS := hd h2
    have HSA := hd h3
    have HS0 := hd h0
    clear h0 h1 h2 h3
    go_wp2_with (first
          | (go_at_call 16; refine Calls.mono (same_at (by first | exact HX.out _ HBc.out | exact HQ.out _ HBc.out) (HP.out _ HBc.out) (by first | exact HS2.out | exact HSS.out)) ?_; rintro e w9 ⟨rfl, b9⟩; have HBc := hd (step_b HBc.out b9); clear b9 x0 x1 x2 x3; obtain ⟨x0, x1, x2, x3⟩ := HK.out _ HBc.out)
          | (go_at_call 17; refine Calls.mono (above_at (HQ.out _ HBc.out) (HP.out _ HBc.out) HSA.out) ?_; rintro e w9 ⟨rfl, b9⟩; have HBc := hd (step_b HBc.out b9); clear b9 x0 x1 x2 x3; obtain ⟨x0, x1, x2, x3⟩ := HK.out _ HBc.out)
          | (go_at_call 20; refine Calls.mono (left_at (HQ.out _ HBc.out) (HP.out _ HBc.out) HSL.out) ?_; rintro e w9 ⟨rfl, b9⟩; have HBc := hd (step_b HBc.out b9); clear b9 x0 x1 x2 x3; obtain ⟨x0, x1, x2, x3⟩ := HK.out _ HBc.out))
    go_ret
    exact ⟨rfl, HBE.out.trans (HBc.out.mono HBE.out.size)⟩
  · have HSL := hd h1
    have HSS := hd h2
    have HSA := hd h3
    have HS0 := hd h0
    clear h0 h1 h2 h3
    have e := HLAW.out (.inr ⟨HKK.out.1, HKK.out.2, HS0.out⟩)
    subst e
    go_wp2_with (first
          | (go_at_call 16; refine Calls.mono (same_at (by first | exact HX.out _ HBc.out | exact HQ.out _ HBc.out) (HP.out _ HBc.out) (by first | exact HS2.out | exact HSS.out)) ?_; rintro e w9 ⟨rfl, b9⟩; have HBc := hd (step_b HBc.out b9); clear b9 x0 x1 x2 x3; obtain ⟨x0, x1, x2, x3⟩ := HK.out _ HBc.out)
          | (go_at_call 17; refine Calls.mono (above_at (HQ.out _ HBc.out) (HP.out _ HBc.out) HSA.out) ?_; rintro e w9 ⟨rfl, b9⟩; have HBc := hd (step_b HBc.out b9); clear b9 x0 x1 x2 x3; obtain ⟨x0, x1, x2, x3⟩ := HK.out _ HBc.out)
          | (go_at_call 20; refine Calls.mono (left_at (HQ.out _ HBc.out) (HP.out _ HBc.out) HSL.out) ?_; rintro e w9 ⟨rfl, b9⟩; have HBc := hd (step_b HBc.out b9); clear b9 x0 x1 x2 x3; obtain ⟨x0, x1, x2, x3⟩ := HK.out _ HBc.out))
    go_ret
    exact ⟨rfl, HBE.out.trans (HBc.out.mono HBE.out.size)⟩
set_option maxRecDepth 4000 in
theorem xstays_law (w : World) (A Q T : Option Addr) (p q t : List Int) (n lq lt c cq ct : Nat) (K pos : Int) (r4 r5 r6 r7 r8 r9 r10 r11 r12 r13 r14 r15 r16 r17 r18 r19 r20 : Value) (hnp : p.length = n) (hnq : q.length = lq) (hnt : t.length = lt) (hlp : n ≤ 9223372036854775807) (hlq : lq ≤ 9223372036854775807) (hlt : lt ≤ 9223372036854775807) (hcp : n ≤ c) (hcq : lq ≤ cq) (hct : lt ≤ ct) (hp : IL w w.heap.size A p) (hq : IL w w.heap.size Q q) (ht : IL w w.heap.size T t) :
    Calls Try.prog 8 #[.slice A n c, .agg #[Value.int .i64 K, .slice Q lq cq, .slice T lt ct, .int .i64 pos, r4, r5, r6, r7, r8, r9, r10, r11, r12, r13, r14, r15, r16, r17, r18, r19, r20]] w (AllTrue w) := by
  cases hs : (decide (n ≤ 60) && decide (lq ≤ 60) && decide (lt ≤ 60))
  · exact xstays_long w A Q T n lq lt c cq ct K pos r4 r5 r6 r7 r8 r9 r10 r11 r12 r13 r14 r15 r16 r17 r18 r19 r20 hlp hlq hlt hs
  cases hf : (smallI p && smallI q && smallI t && smallN pos)
  · exact xstays_out w A Q T p q t n lq lt c cq ct K pos r4 r5 r6 r7 r8 r9 r10 r11 r12 r13 r14 r15 r16 r17 r18 r19 r20 hnp hnq hnt hlp hlq hlt hcp hcq hct hp hq ht hs hf
  by_cases h5 : K = 5
  · exact xstays_k5 w A Q T p q t n lq lt c cq ct K pos r4 r5 r6 r7 r8 r9 r10 r11 r12 r13 r14 r15 r16 r17 r18 r19 r20 hnp hnq hnt hlp hlq hlt hcp hcq hct hp hq ht hs hf h5
  by_cases h3 : K = 3
  · exact xstays_k3 w A Q T p q t n lq lt c cq ct K pos r4 r5 r6 r7 r8 r9 r10 r11 r12 r13 r14 r15 r16 r17 r18 r19 r20 hnp hnq hnt hlp hlq hlt hcp hcq hct hp hq ht hs hf h3
  by_cases h6 : K < 6
  · exact xstays_low w A Q T p q t n lq lt c cq ct K pos r4 r5 r6 r7 r8 r9 r10 r11 r12 r13 r14 r15 r16 r17 r18 r19 r20 hnp hnq hnt hlp hlq hlt hcp hcq hct hp hq ht hs hf h6 h5 h3
  by_cases h9 : 9 < K
  · exact xstays_high w A Q T p q t n lq lt c cq ct K pos r4 r5 r6 r7 r8 r9 r10 r11 r12 r13 r14 r15 r16 r17 r18 r19 r20 hnp hnq hnt hlp hlq hlt hcp hcq hct hp hq ht hs hf h9 h5 h3
  exact xstays_ops w A Q T p q t n lq lt c cq ct K pos r4 r5 r6 r7 r8 r9 r10 r11 r12 r13 r14 r15 r16 r17 r18 r19 r20 hnp hnq hnt hlp hlq hlt hcp hcq hct hp hq ht hs hf (by omega) (by omega)

end Go.Proofs.Ytindjfiomilocaa
