/- XpathOrder answers true. -/
import Derived.Test.YtindjfiomilocaaXLaw
import Derived.Test.YtindjfiomilocaaXPlain
import Derived.Test.YtindjfiomilocaaXLoad
namespace Go.Proofs.Ytindjfiomilocaa
open Go.RowKit

set_option maxRecDepth 100000 in
set_option maxHeartbeats 8000000 in
theorem xorder_long (w : World) (A B Q T : Option Addr) (n m lq lt c d cq ct : Nat) (K pos : Int) (r4 r5 r6 r7 r8 r9 r10 r11 r12 r13 r14 r15 r16 r17 r18 r19 r20 : Value) (hla : n ≤ 9223372036854775807) (hlb : m ≤ 9223372036854775807) (hlq : lq ≤ 9223372036854775807) (hlt : lt ≤ 9223372036854775807) (hs : (decide (n ≤ 60) && decide (m ≤ 60) && decide (lq ≤ 60) && decide (lt ≤ 60)) = false) :
    Calls Try.prog 7 #[.slice A n c, .slice B m d, .agg #[Value.int .i64 K, .slice Q lq cq, .slice T lt ct, .int .i64 pos, r4, r5, r6, r7, r8, r9, r10, r11, r12, r13, r14, r15, r16, r17, r18, r19, r20]] w (AllTrue w) := by
  obtain ⟨W0, hW⟩ : ∃ W0, W0 = w.alloc (.cells #[Value.int .i64 K, .slice Q lq cq, .slice T lt ct, .int .i64 pos, r4, r5, r6, r7, r8, r9, r10, r11, r12, r13, r14, r15, r16, r17, r18, r19, r20] 35) := ⟨_, rfl⟩
  have hb0 : Below w.heap.size w W0 := hW ▸ new_below w _
  have e0 : W0.heap[w.heap.size]? = some (.cells #[Value.int .i64 K, .slice Q lq cq, .slice T lt ct, .int .i64 pos, r4, r5, r6, r7, r8, r9, r10, r11, r12, r13, r14, r15, r16, r17, r18, r19, r20] 35 (0, 0)) := hW ▸ heap_alloc_new _ _
  have HK := hd (fun W (h : Below W0.heap.size W0 W) => op_cells (xkeep e0 h))
  have HKR := hd (fun W (h : Below W0.heap.size W0 W) => xkeep e0 h)
  have HW := hd hW
  have HBE := hd hb0
  have HBc := hd (Below.refl W0.heap.size W0)
  have HSH := hd hs
  clear hs hW hb0 e0
  go_enter Try.func7, Try.ntmps7
  go_wp2_with (first
    | (refine wpList_load_op (HKR.out _ HBc.out) _ rfl rfl rfl ?_)
    | (go_at_call 9; rw [← HW.out]; refine Calls.mono (live8_any _) ?_; rintro e w9 ⟨rfl, b9⟩; have HBc := hd (step_b HBc.out b9); clear b9; obtain ⟨x0, x1, x2, x3⟩ := HK.out _ HBc.out)
    | (go_at_call 10; refine Calls.mono (short_2 hlq hlt hla hlb HSH.out) ?_; rintro e w9 ⟨rfl, b9⟩; have HBc := hd (step_b HBc.out b9); clear b9 x0 x1 x2 x3; obtain ⟨x0, x1, x2, x3⟩ := HK.out _ HBc.out))
  go_ret
  exact ⟨rfl, HBE.out.trans (HBc.out.mono HBE.out.size)⟩
set_option maxRecDepth 100000 in
set_option maxHeartbeats 8000000 in
theorem xorder_other (w : World) (A B Q T : Option Addr) (a b q t : List Int) (n m lq lt c d cq ct : Nat) (K pos : Int) (r4 r5 r6 r7 r8 r9 r10 r11 r12 r13 r14 r15 r16 r17 r18 r19 r20 : Value) (hna : a.length = n) (hnb : b.length = m) (hnq : q.length = lq) (hnt : t.length = lt) (hla : n ≤ 9223372036854775807) (hlb : m ≤ 9223372036854775807) (hlq : lq ≤ 9223372036854775807) (hlt : lt ≤ 9223372036854775807) (hca : n ≤ c) (hcb : m ≤ d) (hcq : lq ≤ cq) (hct : lt ≤ ct) (ha : IL w w.heap.size A a) (hb : IL w w.heap.size B b) (hq : IL w w.heap.size Q q) (ht : IL w w.heap.size T t) (hs : (decide (n ≤ 60) && decide (m ≤ 60) && decide (lq ≤ 60) && decide (lt ≤ 60)) = true) (hk1 : K ≠ 1) (hk2 : K ≠ 2) :
    Calls Try.prog 7 #[.slice A n c, .slice B m d, .agg #[Value.int .i64 K, .slice Q lq cq, .slice T lt ct, .int .i64 pos, r4, r5, r6, r7, r8, r9, r10, r11, r12, r13, r14, r15, r16, r17, r18, r19, r20]] w (AllTrue w) := by
  obtain ⟨W0, hW⟩ : ∃ W0, W0 = w.alloc (.cells #[Value.int .i64 K, .slice Q lq cq, .slice T lt ct, .int .i64 pos, r4, r5, r6, r7, r8, r9, r10, r11, r12, r13, r14, r15, r16, r17, r18, r19, r20] 35) := ⟨_, rfl⟩
  have hb0 : Below w.heap.size w W0 := hW ▸ new_below w _
  have e0 : W0.heap[w.heap.size]? = some (.cells #[Value.int .i64 K, .slice Q lq cq, .slice T lt ct, .int .i64 pos, r4, r5, r6, r7, r8, r9, r10, r11, r12, r13, r14, r15, r16, r17, r18, r19, r20] 35 (0, 0)) := hW ▸ heap_alloc_new _ _
  have HK := hd (fun W (h : Below W0.heap.size W0 W) => op_cells (xkeep e0 h))
  have HKR := hd (fun W (h : Below W0.heap.size W0 W) => xkeep e0 h)
  have HW := hd hW
  have HBE := hd hb0
  have HBc := hd (Below.refl W0.heap.size W0)
  have HSH := hd hs
  simp only [Bool.and_eq_true, decide_eq_true_iff] at hs
  obtain ⟨⟨⟨b1, b2⟩, bq⟩, bt⟩ := hs
  have HIa := hd (fun W (h : Below W0.heap.size W0 W) => ha.later (hb0.trans (h.mono hb0.size)))
  have HA := hd (show ∀ W, Below W0.heap.size W0 W → XA W (.slice A n c) a from fun W h => ⟨A, n, c, rfl, hna, by omega, hca, HIa.out W h⟩)
  have HNa := hd hna
  have HIb := hd (fun W (h : Below W0.heap.size W0 W) => hb.later (hb0.trans (h.mono hb0.size)))
  have HB := hd (show ∀ W, Below W0.heap.size W0 W → XA W (.slice B m d) b from fun W h => ⟨B, m, d, rfl, hnb, by omega, hcb, HIb.out W h⟩)
  have HNb := hd hnb
  have HIq := hd (fun W (h : Below W0.heap.size W0 W) => hq.later (hb0.trans (h.mono hb0.size)))
  have HQ := hd (show ∀ W, Below W0.heap.size W0 W → XA W (.slice Q lq cq) q from fun W h => ⟨Q, lq, cq, rfl, hnq, by omega, hcq, HIq.out W h⟩)
  have HNq := hd hnq
  have HIt := hd (fun W (h : Below W0.heap.size W0 W) => ht.later (hb0.trans (h.mono hb0.size)))
  have HT := hd (show ∀ W, Below W0.heap.size W0 W → XA W (.slice T lt ct) t from fun W h => ⟨T, lt, ct, rfl, hnt, by omega, hct, HIt.out W h⟩)
  have HNt := hd hnt
  clear hW hb0 e0 ha hna hb hnb hq hnq ht hnt
  have k1 : (K == 1) = false := by simp [hk1]
  have k2 : (K == 2) = false := by simp [hk2]
  have k3 : (K != 1) = true := by simp [hk1]
  have k4 : (K != 2) = true := by simp [hk2]
  clear hk1 hk2
  go_enter Try.func7, Try.ntmps7
  go_wp2_with (first
    | (refine wpList_load_op (HKR.out _ HBc.out) _ rfl rfl rfl ?_)
    | (go_at_call 9; rw [← HW.out]; refine Calls.mono (live8_any _) ?_; rintro e w9 ⟨rfl, b9⟩; have HBc := hd (step_b HBc.out b9); clear b9; obtain ⟨x0, x1, x2, x3⟩ := HK.out _ HBc.out)
    | (go_at_call 10; refine Calls.mono (short_2 hlq hlt hla hlb HSH.out) ?_; rintro e w9 ⟨rfl, b9⟩; have HBc := hd (step_b HBc.out b9); clear b9 x0 x1 x2 x3; obtain ⟨x0, x1, x2, x3⟩ := HK.out _ HBc.out))
  go_ret
  exact ⟨rfl, HBE.out.trans (HBc.out.mono HBE.out.size)⟩
set_option maxRecDepth 100000 in
set_option maxHeartbeats 8000000 in
theorem xorder_k1 (w : World) (A B Q T : Option Addr) (a b q t : List Int) (n m lq lt c d cq ct : Nat) (K pos : Int) (r4 r5 r6 r7 r8 r9 r10 r11 r12 r13 r14 r15 r16 r17 r18 r19 r20 : Value) (hna : a.length = n) (hnb : b.length = m) (hnq : q.length = lq) (hnt : t.length = lt) (hla : n ≤ 9223372036854775807) (hlb : m ≤ 9223372036854775807) (hlq : lq ≤ 9223372036854775807) (hlt : lt ≤ 9223372036854775807) (hca : n ≤ c) (hcb : m ≤ d) (hcq : lq ≤ cq) (hct : lt ≤ ct) (ha : IL w w.heap.size A a) (hb : IL w w.heap.size B b) (hq : IL w w.heap.size Q q) (ht : IL w w.heap.size T t) (hs : (decide (n ≤ 60) && decide (m ≤ 60) && decide (lq ≤ 60) && decide (lt ≤ 60)) = true) (hk : K = 1) :
    Calls Try.prog 7 #[.slice A n c, .slice B m d, .agg #[Value.int .i64 K, .slice Q lq cq, .slice T lt ct, .int .i64 pos, r4, r5, r6, r7, r8, r9, r10, r11, r12, r13, r14, r15, r16, r17, r18, r19, r20]] w (AllTrue w) := by
  obtain ⟨W0, hW⟩ : ∃ W0, W0 = w.alloc (.cells #[Value.int .i64 K, .slice Q lq cq, .slice T lt ct, .int .i64 pos, r4, r5, r6, r7, r8, r9, r10, r11, r12, r13, r14, r15, r16, r17, r18, r19, r20] 35) := ⟨_, rfl⟩
  have hb0 : Below w.heap.size w W0 := hW ▸ new_below w _
  have e0 : W0.heap[w.heap.size]? = some (.cells #[Value.int .i64 K, .slice Q lq cq, .slice T lt ct, .int .i64 pos, r4, r5, r6, r7, r8, r9, r10, r11, r12, r13, r14, r15, r16, r17, r18, r19, r20] 35 (0, 0)) := hW ▸ heap_alloc_new _ _
  have HK := hd (fun W (h : Below W0.heap.size W0 W) => op_cells (xkeep e0 h))
  have HKR := hd (fun W (h : Below W0.heap.size W0 W) => xkeep e0 h)
  have HW := hd hW
  have HBE := hd hb0
  have HBc := hd (Below.refl W0.heap.size W0)
  have HSH := hd hs
  simp only [Bool.and_eq_true, decide_eq_true_iff] at hs
  obtain ⟨⟨⟨b1, b2⟩, bq⟩, bt⟩ := hs
  have HIa := hd (fun W (h : Below W0.heap.size W0 W) => ha.later (hb0.trans (h.mono hb0.size)))
  have HA := hd (show ∀ W, Below W0.heap.size W0 W → XA W (.slice A n c) a from fun W h => ⟨A, n, c, rfl, hna, by omega, hca, HIa.out W h⟩)
  have HNa := hd hna
  have HIb := hd (fun W (h : Below W0.heap.size W0 W) => hb.later (hb0.trans (h.mono hb0.size)))
  have HB := hd (show ∀ W, Below W0.heap.size W0 W → XA W (.slice B m d) b from fun W h => ⟨B, m, d, rfl, hnb, by omega, hcb, HIb.out W h⟩)
  have HNb := hd hnb
  have HIq := hd (fun W (h : Below W0.heap.size W0 W) => hq.later (hb0.trans (h.mono hb0.size)))
  have HQ := hd (show ∀ W, Below W0.heap.size W0 W → XA W (.slice Q lq cq) q from fun W h => ⟨Q, lq, cq, rfl, hnq, by omega, hcq, HIq.out W h⟩)
  have HNq := hd hnq
  have HIt := hd (fun W (h : Below W0.heap.size W0 W) => ht.later (hb0.trans (h.mono hb0.size)))
  have HT := hd (show ∀ W, Below W0.heap.size W0 W → XA W (.slice T lt ct) t from fun W h => ⟨T, lt, ct, rfl, hnt, by omega, hct, HIt.out W h⟩)
  have HNt := hd hnt
  clear hW hb0 e0 ha hna hb hnb hq hnq ht hnt
  subst hk
  obtain ⟨⟨x, e⟩, hx⟩ : ∃ r, moveL 1 q t pos a = r := ⟨_, rfl⟩
  obtain ⟨⟨y, f⟩, hy⟩ : ∃ r, moveL 1 q t pos b = r := ⟨_, rfl⟩
  have HLX := hd (show x.length ≤ 1000 by have h1 := moveL_len (K := 1) (pos := pos) (q := q) (t := t) (p := a); rw [hx] at h1; have h2 := HNa.out; have h3 := HNt.out; simp only at h1; omega)
  have HLY := hd (show y.length ≤ 1000 by have h1 := moveL_len (K := 1) (pos := pos) (q := q) (t := t) (p := b); rw [hy] at h1; have h2 := HNb.out; have h3 := HNt.out; simp only at h1; omega)
  obtain ⟨nx, hnx⟩ : ∃ n, x.length = n := ⟨_, rfl⟩
  obtain ⟨ny, hny⟩ : ∃ n, y.length = n := ⟨_, rfl⟩
  have HNX := hd hnx
  have HNY := hd hny
  have hbx : nx ≤ 1000 := hnx ▸ HLX.out
  have hby : ny ≤ 1000 := hny ▸ HLY.out
  have HRX := hd hx
  have HRY := hd hy
  cases e
  · obtain rfl : nx = 0 := by rw [← hnx, moveL_no hx]; rfl
    clear hx hy hnx hny
    cases f
    · go_enter Try.func7, Try.ntmps7
      go_upto_region 5 with (first
          | (refine wpList_load_op (HKR.out _ HBc.out) _ rfl rfl rfl ?_)
          | (go_at_call 9; rw [← HW.out]; refine Calls.mono (live8_any _) ?_; rintro e w9 ⟨rfl, b9⟩; have HBc := hd (step_b HBc.out b9); clear b9; obtain ⟨x0, x1, x2, x3⟩ := HK.out _ HBc.out)
          | (go_at_call 10; refine Calls.mono (short_2 hlq hlt hla hlb HSH.out) ?_; rintro e w9 ⟨rfl, b9⟩; have HBc := hd (step_b HBc.out b9); clear b9 x0 x1 x2 x3; obtain ⟨x0, x1, x2, x3⟩ := HK.out _ HBc.out))
      go_upto_region 6 with (first
          | (refine wpList_load_op (HKR.out _ HBc.out) _ rfl rfl rfl ?_)
          | (go_at_call 12; refine Calls.mono (move_at (HA.out _ HBc.out) (HQ.out _ HBc.out) (HT.out _ HBc.out) HRX.out) ?_; rintro e w9 ⟨v9, rfl, ho, b9⟩; obtain ⟨A9, c9, rfl, _, _⟩ := ho.open_at 0 HNX.out; have HB9 := hd (step_b HBc.out b9); have HX9 := hd (XA.own ho HLX.out); have HX := hd (fun W (h : Below w9.heap.size w9 W) => HX9.out.later h); have HA := hd (fun W (h : Below w9.heap.size w9 W) => HA.out W (step_b HB9.out h)); have HB := hd (fun W (h : Below w9.heap.size w9 W) => HB.out W (step_b HB9.out h)); have HQ := hd (fun W (h : Below w9.heap.size w9 W) => HQ.out W (step_b HB9.out h)); have HT := hd (fun W (h : Below w9.heap.size w9 W) => HT.out W (step_b HB9.out h)); have HK := hd (fun W (h : Below w9.heap.size w9 W) => HK.out W (step_b HB9.out h)); have HKR := hd (fun W (h : Below w9.heap.size w9 W) => HKR.out W (step_b HB9.out h)); have HBE := hd (HBE.out.trans (HB9.out.mono HBE.out.size)); have HBc := hd (Below.refl w9.heap.size w9); clear ho b9 HB9 HX9 x0 x1 x2 x3; obtain ⟨x0, x1, x2, x3⟩ := HK.out _ HBc.out))
      go_upto_region 7 with (first
          | (refine wpList_load_op (HKR.out _ HBc.out) _ rfl rfl rfl ?_)
          | (go_at_call 12; refine Calls.mono (move_at (HB.out _ HBc.out) (HQ.out _ HBc.out) (HT.out _ HBc.out) HRY.out) ?_; rintro e w8 ⟨v8, rfl, ho, b9⟩; obtain ⟨A8, c8, rfl, _, _⟩ := ho.open_at ny HNY.out; have HB9 := hd (step_b HBc.out b9); have HX9 := hd (XA.own ho HLY.out); have HY := hd (fun W (h : Below w8.heap.size w8 W) => HX9.out.later h); have HA := hd (fun W (h : Below w8.heap.size w8 W) => HA.out W (step_b HB9.out h)); have HB := hd (fun W (h : Below w8.heap.size w8 W) => HB.out W (step_b HB9.out h)); have HQ := hd (fun W (h : Below w8.heap.size w8 W) => HQ.out W (step_b HB9.out h)); have HT := hd (fun W (h : Below w8.heap.size w8 W) => HT.out W (step_b HB9.out h)); have HX := hd (fun W (h : Below w8.heap.size w8 W) => HX.out W (step_b HB9.out h)); have HK := hd (fun W (h : Below w8.heap.size w8 W) => HK.out W (step_b HB9.out h)); have HKR := hd (fun W (h : Below w8.heap.size w8 W) => HKR.out W (step_b HB9.out h)); have HBE := hd (HBE.out.trans (HB9.out.mono HBE.out.size)); have HBc := hd (Below.refl w8.heap.size w8); clear ho b9 HB9 HX9 x0 x1 x2 x3; obtain ⟨x0, x1, x2, x3⟩ := HK.out _ HBc.out))
      go_wp2_with (first
          | (go_at_call 19; refine Calls.mono (cmp_at (by first | exact HX.out _ HBc.out | exact HA.out _ HBc.out) (by first | exact HY.out _ HBc.out | exact HB.out _ HBc.out) (by first | exact HC1.out | exact HC2.out)) ?_; rintro e w7 ⟨rfl, b9⟩; have HBc := hd (step_b HBc.out b9); clear b9)
          | (go_at_call 17; refine Calls.mono (above_at (by first | exact HX.out _ HBc.out | exact HA.out _ HBc.out) (by first | exact HY.out _ HBc.out | exact HB.out _ HBc.out) (by first | exact HV1.out | exact HV2.out)) ?_; rintro e w7 ⟨rfl, b9⟩; have HBc := hd (step_b HBc.out b9); clear b9))
      go_ret
      exact ⟨rfl, HBE.out.trans (HBc.out.mono HBE.out.size)⟩
    · go_enter Try.func7, Try.ntmps7
      go_upto_region 5 with (first
          | (refine wpList_load_op (HKR.out _ HBc.out) _ rfl rfl rfl ?_)
          | (go_at_call 9; rw [← HW.out]; refine Calls.mono (live8_any _) ?_; rintro e w9 ⟨rfl, b9⟩; have HBc := hd (step_b HBc.out b9); clear b9; obtain ⟨x0, x1, x2, x3⟩ := HK.out _ HBc.out)
          | (go_at_call 10; refine Calls.mono (short_2 hlq hlt hla hlb HSH.out) ?_; rintro e w9 ⟨rfl, b9⟩; have HBc := hd (step_b HBc.out b9); clear b9 x0 x1 x2 x3; obtain ⟨x0, x1, x2, x3⟩ := HK.out _ HBc.out))
      go_upto_region 6 with (first
          | (refine wpList_load_op (HKR.out _ HBc.out) _ rfl rfl rfl ?_)
          | (go_at_call 12; refine Calls.mono (move_at (HA.out _ HBc.out) (HQ.out _ HBc.out) (HT.out _ HBc.out) HRX.out) ?_; rintro e w9 ⟨v9, rfl, ho, b9⟩; obtain ⟨A9, c9, rfl, _, _⟩ := ho.open_at 0 HNX.out; have HB9 := hd (step_b HBc.out b9); have HX9 := hd (XA.own ho HLX.out); have HX := hd (fun W (h : Below w9.heap.size w9 W) => HX9.out.later h); have HA := hd (fun W (h : Below w9.heap.size w9 W) => HA.out W (step_b HB9.out h)); have HB := hd (fun W (h : Below w9.heap.size w9 W) => HB.out W (step_b HB9.out h)); have HQ := hd (fun W (h : Below w9.heap.size w9 W) => HQ.out W (step_b HB9.out h)); have HT := hd (fun W (h : Below w9.heap.size w9 W) => HT.out W (step_b HB9.out h)); have HK := hd (fun W (h : Below w9.heap.size w9 W) => HK.out W (step_b HB9.out h)); have HKR := hd (fun W (h : Below w9.heap.size w9 W) => HKR.out W (step_b HB9.out h)); have HBE := hd (HBE.out.trans (HB9.out.mono HBE.out.size)); have HBc := hd (Below.refl w9.heap.size w9); clear ho b9 HB9 HX9 x0 x1 x2 x3; obtain ⟨x0, x1, x2, x3⟩ := HK.out _ HBc.out))
      go_upto_region 7 with (first
          | (refine wpList_load_op (HKR.out _ HBc.out) _ rfl rfl rfl ?_)
          | (go_at_call 12; refine Calls.mono (move_at (HB.out _ HBc.out) (HQ.out _ HBc.out) (HT.out _ HBc.out) HRY.out) ?_; rintro e w8 ⟨v8, rfl, ho, b9⟩; obtain ⟨A8, c8, rfl, _, _⟩ := ho.open_at ny HNY.out; have HB9 := hd (step_b HBc.out b9); have HX9 := hd (XA.own ho HLY.out); have HY := hd (fun W (h : Below w8.heap.size w8 W) => HX9.out.later h); have HA := hd (fun W (h : Below w8.heap.size w8 W) => HA.out W (step_b HB9.out h)); have HB := hd (fun W (h : Below w8.heap.size w8 W) => HB.out W (step_b HB9.out h)); have HQ := hd (fun W (h : Below w8.heap.size w8 W) => HQ.out W (step_b HB9.out h)); have HT := hd (fun W (h : Below w8.heap.size w8 W) => HT.out W (step_b HB9.out h)); have HX := hd (fun W (h : Below w8.heap.size w8 W) => HX.out W (step_b HB9.out h)); have HK := hd (fun W (h : Below w8.heap.size w8 W) => HK.out W (step_b HB9.out h)); have HKR := hd (fun W (h : Below w8.heap.size w8 W) => HKR.out W (step_b HB9.out h)); have HBE := hd (HBE.out.trans (HB9.out.mono HBE.out.size)); have HBc := hd (Below.refl w8.heap.size w8); clear ho b9 HB9 HX9 x0 x1 x2 x3; obtain ⟨x0, x1, x2, x3⟩ := HK.out _ HBc.out))
      go_wp2_with (first
          | (go_at_call 19; refine Calls.mono (cmp_at (by first | exact HX.out _ HBc.out | exact HA.out _ HBc.out) (by first | exact HY.out _ HBc.out | exact HB.out _ HBc.out) (by first | exact HC1.out | exact HC2.out)) ?_; rintro e w7 ⟨rfl, b9⟩; have HBc := hd (step_b HBc.out b9); clear b9)
          | (go_at_call 17; refine Calls.mono (above_at (by first | exact HX.out _ HBc.out | exact HA.out _ HBc.out) (by first | exact HY.out _ HBc.out | exact HB.out _ HBc.out) (by first | exact HV1.out | exact HV2.out)) ?_; rintro e w7 ⟨rfl, b9⟩; have HBc := hd (step_b HBc.out b9); clear b9))
      go_ret
      exact ⟨rfl, HBE.out.trans (HBc.out.mono HBE.out.size)⟩
  · cases f
    · obtain rfl : ny = 0 := by rw [← hny, moveL_no hy]; rfl
      clear hx hy hnx hny
      by_cases hz0 : nx = 0
      · subst hz0
        go_enter Try.func7, Try.ntmps7
        go_upto_region 5 with (first
            | (refine wpList_load_op (HKR.out _ HBc.out) _ rfl rfl rfl ?_)
            | (go_at_call 9; rw [← HW.out]; refine Calls.mono (live8_any _) ?_; rintro e w9 ⟨rfl, b9⟩; have HBc := hd (step_b HBc.out b9); clear b9; obtain ⟨x0, x1, x2, x3⟩ := HK.out _ HBc.out)
            | (go_at_call 10; refine Calls.mono (short_2 hlq hlt hla hlb HSH.out) ?_; rintro e w9 ⟨rfl, b9⟩; have HBc := hd (step_b HBc.out b9); clear b9 x0 x1 x2 x3; obtain ⟨x0, x1, x2, x3⟩ := HK.out _ HBc.out))
        go_upto_region 6 with (first
            | (refine wpList_load_op (HKR.out _ HBc.out) _ rfl rfl rfl ?_)
            | (go_at_call 12; refine Calls.mono (move_at (HA.out _ HBc.out) (HQ.out _ HBc.out) (HT.out _ HBc.out) HRX.out) ?_; rintro e w9 ⟨v9, rfl, ho, b9⟩; obtain ⟨A9, c9, rfl, _, _⟩ := ho.open_at 0 HNX.out; have HB9 := hd (step_b HBc.out b9); have HX9 := hd (XA.own ho HLX.out); have HX := hd (fun W (h : Below w9.heap.size w9 W) => HX9.out.later h); have HA := hd (fun W (h : Below w9.heap.size w9 W) => HA.out W (step_b HB9.out h)); have HB := hd (fun W (h : Below w9.heap.size w9 W) => HB.out W (step_b HB9.out h)); have HQ := hd (fun W (h : Below w9.heap.size w9 W) => HQ.out W (step_b HB9.out h)); have HT := hd (fun W (h : Below w9.heap.size w9 W) => HT.out W (step_b HB9.out h)); have HK := hd (fun W (h : Below w9.heap.size w9 W) => HK.out W (step_b HB9.out h)); have HKR := hd (fun W (h : Below w9.heap.size w9 W) => HKR.out W (step_b HB9.out h)); have HBE := hd (HBE.out.trans (HB9.out.mono HBE.out.size)); have HBc := hd (Below.refl w9.heap.size w9); clear ho b9 HB9 HX9 x0 x1 x2 x3; obtain ⟨x0, x1, x2, x3⟩ := HK.out _ HBc.out))
        go_upto_region 7 with (first
            | (refine wpList_load_op (HKR.out _ HBc.out) _ rfl rfl rfl ?_)
            | (go_at_call 12; refine Calls.mono (move_at (HB.out _ HBc.out) (HQ.out _ HBc.out) (HT.out _ HBc.out) HRY.out) ?_; rintro e w8 ⟨v8, rfl, ho, b9⟩; obtain ⟨A8, c8, rfl, _, _⟩ := ho.open_at 0 HNY.out; have HB9 := hd (step_b HBc.out b9); have HX9 := hd (XA.own ho HLY.out); have HY := hd (fun W (h : Below w8.heap.size w8 W) => HX9.out.later h); have HA := hd (fun W (h : Below w8.heap.size w8 W) => HA.out W (step_b HB9.out h)); have HB := hd (fun W (h : Below w8.heap.size w8 W) => HB.out W (step_b HB9.out h)); have HQ := hd (fun W (h : Below w8.heap.size w8 W) => HQ.out W (step_b HB9.out h)); have HT := hd (fun W (h : Below w8.heap.size w8 W) => HT.out W (step_b HB9.out h)); have HX := hd (fun W (h : Below w8.heap.size w8 W) => HX.out W (step_b HB9.out h)); have HK := hd (fun W (h : Below w8.heap.size w8 W) => HK.out W (step_b HB9.out h)); have HKR := hd (fun W (h : Below w8.heap.size w8 W) => HKR.out W (step_b HB9.out h)); have HBE := hd (HBE.out.trans (HB9.out.mono HBE.out.size)); have HBc := hd (Below.refl w8.heap.size w8); clear ho b9 HB9 HX9 x0 x1 x2 x3; obtain ⟨x0, x1, x2, x3⟩ := HK.out _ HBc.out))
        go_wp2_with (first
            | (go_at_call 19; refine Calls.mono (cmp_at (by first | exact HX.out _ HBc.out | exact HA.out _ HBc.out) (by first | exact HY.out _ HBc.out | exact HB.out _ HBc.out) (by first | exact HC1.out | exact HC2.out)) ?_; rintro e w7 ⟨rfl, b9⟩; have HBc := hd (step_b HBc.out b9); clear b9)
            | (go_at_call 17; refine Calls.mono (above_at (by first | exact HX.out _ HBc.out | exact HA.out _ HBc.out) (by first | exact HY.out _ HBc.out | exact HB.out _ HBc.out) (by first | exact HV1.out | exact HV2.out)) ?_; rintro e w7 ⟨rfl, b9⟩; have HBc := hd (step_b HBc.out b9); clear b9))
        go_ret
        exact ⟨rfl, HBE.out.trans (HBc.out.mono HBE.out.size)⟩
      · have hz : ((nx : Int) == 0) = false := by simp; omega
        clear hz0
        go_enter Try.func7, Try.ntmps7
        go_upto_region 5 with (first
            | (refine wpList_load_op (HKR.out _ HBc.out) _ rfl rfl rfl ?_)
            | (go_at_call 9; rw [← HW.out]; refine Calls.mono (live8_any _) ?_; rintro e w9 ⟨rfl, b9⟩; have HBc := hd (step_b HBc.out b9); clear b9; obtain ⟨x0, x1, x2, x3⟩ := HK.out _ HBc.out)
            | (go_at_call 10; refine Calls.mono (short_2 hlq hlt hla hlb HSH.out) ?_; rintro e w9 ⟨rfl, b9⟩; have HBc := hd (step_b HBc.out b9); clear b9 x0 x1 x2 x3; obtain ⟨x0, x1, x2, x3⟩ := HK.out _ HBc.out))
        go_upto_region 6 with (first
            | (refine wpList_load_op (HKR.out _ HBc.out) _ rfl rfl rfl ?_)
            | (go_at_call 12; refine Calls.mono (move_at (HA.out _ HBc.out) (HQ.out _ HBc.out) (HT.out _ HBc.out) HRX.out) ?_; rintro e w9 ⟨v9, rfl, ho, b9⟩; obtain ⟨A9, c9, rfl, _, _⟩ := ho.open_at nx HNX.out; have HB9 := hd (step_b HBc.out b9); have HX9 := hd (XA.own ho HLX.out); have HX := hd (fun W (h : Below w9.heap.size w9 W) => HX9.out.later h); have HA := hd (fun W (h : Below w9.heap.size w9 W) => HA.out W (step_b HB9.out h)); have HB := hd (fun W (h : Below w9.heap.size w9 W) => HB.out W (step_b HB9.out h)); have HQ := hd (fun W (h : Below w9.heap.size w9 W) => HQ.out W (step_b HB9.out h)); have HT := hd (fun W (h : Below w9.heap.size w9 W) => HT.out W (step_b HB9.out h)); have HK := hd (fun W (h : Below w9.heap.size w9 W) => HK.out W (step_b HB9.out h)); have HKR := hd (fun W (h : Below w9.heap.size w9 W) => HKR.out W (step_b HB9.out h)); have HBE := hd (HBE.out.trans (HB9.out.mono HBE.out.size)); have HBc := hd (Below.refl w9.heap.size w9); clear ho b9 HB9 HX9 x0 x1 x2 x3; obtain ⟨x0, x1, x2, x3⟩ := HK.out _ HBc.out))
        go_upto_region 7 with (first
            | (refine wpList_load_op (HKR.out _ HBc.out) _ rfl rfl rfl ?_)
            | (go_at_call 12; refine Calls.mono (move_at (HB.out _ HBc.out) (HQ.out _ HBc.out) (HT.out _ HBc.out) HRY.out) ?_; rintro e w8 ⟨v8, rfl, ho, b9⟩; obtain ⟨A8, c8, rfl, _, _⟩ := ho.open_at 0 HNY.out; have HB9 := hd (step_b HBc.out b9); have HX9 := hd (XA.own ho HLY.out); have HY := hd (fun W (h : Below w8.heap.size w8 W) => HX9.out.later h); have HA := hd (fun W (h : Below w8.heap.size w8 W) => HA.out W (step_b HB9.out h)); have HB := hd (fun W (h : Below w8.heap.size w8 W) => HB.out W (step_b HB9.out h)); have HQ := hd (fun W (h : Below w8.heap.size w8 W) => HQ.out W (step_b HB9.out h)); have HT := hd (fun W (h : Below w8.heap.size w8 W) => HT.out W (step_b HB9.out h)); have HX := hd (fun W (h : Below w8.heap.size w8 W) => HX.out W (step_b HB9.out h)); have HK := hd (fun W (h : Below w8.heap.size w8 W) => HK.out W (step_b HB9.out h)); have HKR := hd (fun W (h : Below w8.heap.size w8 W) => HKR.out W (step_b HB9.out h)); have HBE := hd (HBE.out.trans (HB9.out.mono HBE.out.size)); have HBc := hd (Below.refl w8.heap.size w8); clear ho b9 HB9 HX9 x0 x1 x2 x3; obtain ⟨x0, x1, x2, x3⟩ := HK.out _ HBc.out))
        go_wp2_with (first
            | (go_at_call 19; refine Calls.mono (cmp_at (by first | exact HX.out _ HBc.out | exact HA.out _ HBc.out) (by first | exact HY.out _ HBc.out | exact HB.out _ HBc.out) (by first | exact HC1.out | exact HC2.out)) ?_; rintro e w7 ⟨rfl, b9⟩; have HBc := hd (step_b HBc.out b9); clear b9)
            | (go_at_call 17; refine Calls.mono (above_at (by first | exact HX.out _ HBc.out | exact HA.out _ HBc.out) (by first | exact HY.out _ HBc.out | exact HB.out _ HBc.out) (by first | exact HV1.out | exact HV2.out)) ?_; rintro e w7 ⟨rfl, b9⟩; have HBc := hd (step_b HBc.out b9); clear b9))
        go_ret
        exact ⟨rfl, HBE.out.trans (HBc.out.mono HBE.out.size)⟩
    · obtain ⟨l1, l2⟩ := law_order (.inl rfl) hx hy
      obtain ⟨cb, hcb⟩ : ∃ z, cmpL a b = z := ⟨_, rfl⟩
      have HC1 := hd (l1.trans hcb)
      have HC2 := hd hcb
      cases hab : aboveL a b
      · have HV1 := hd (l2.trans hab)
        have HV2 := hd hab
        clear hx hy hnx hny l1 l2 hcb hab
        go_enter Try.func7, Try.ntmps7
        go_upto_region 5 with (first
            | (refine wpList_load_op (HKR.out _ HBc.out) _ rfl rfl rfl ?_)
            | (go_at_call 9; rw [← HW.out]; refine Calls.mono (live8_any _) ?_; rintro e w9 ⟨rfl, b9⟩; have HBc := hd (step_b HBc.out b9); clear b9; obtain ⟨x0, x1, x2, x3⟩ := HK.out _ HBc.out)
            | (go_at_call 10; refine Calls.mono (short_2 hlq hlt hla hlb HSH.out) ?_; rintro e w9 ⟨rfl, b9⟩; have HBc := hd (step_b HBc.out b9); clear b9 x0 x1 x2 x3; obtain ⟨x0, x1, x2, x3⟩ := HK.out _ HBc.out))
        go_upto_region 6 with (first
            | (refine wpList_load_op (HKR.out _ HBc.out) _ rfl rfl rfl ?_)
            | (go_at_call 12; refine Calls.mono (move_at (HA.out _ HBc.out) (HQ.out _ HBc.out) (HT.out _ HBc.out) HRX.out) ?_; rintro e w9 ⟨v9, rfl, ho, b9⟩; obtain ⟨A9, c9, rfl, _, _⟩ := ho.open_at nx HNX.out; have HB9 := hd (step_b HBc.out b9); have HX9 := hd (XA.own ho HLX.out); have HX := hd (fun W (h : Below w9.heap.size w9 W) => HX9.out.later h); have HA := hd (fun W (h : Below w9.heap.size w9 W) => HA.out W (step_b HB9.out h)); have HB := hd (fun W (h : Below w9.heap.size w9 W) => HB.out W (step_b HB9.out h)); have HQ := hd (fun W (h : Below w9.heap.size w9 W) => HQ.out W (step_b HB9.out h)); have HT := hd (fun W (h : Below w9.heap.size w9 W) => HT.out W (step_b HB9.out h)); have HK := hd (fun W (h : Below w9.heap.size w9 W) => HK.out W (step_b HB9.out h)); have HKR := hd (fun W (h : Below w9.heap.size w9 W) => HKR.out W (step_b HB9.out h)); have HBE := hd (HBE.out.trans (HB9.out.mono HBE.out.size)); have HBc := hd (Below.refl w9.heap.size w9); clear ho b9 HB9 HX9 x0 x1 x2 x3; obtain ⟨x0, x1, x2, x3⟩ := HK.out _ HBc.out))
        go_upto_region 7 with (first
            | (refine wpList_load_op (HKR.out _ HBc.out) _ rfl rfl rfl ?_)
            | (go_at_call 12; refine Calls.mono (move_at (HB.out _ HBc.out) (HQ.out _ HBc.out) (HT.out _ HBc.out) HRY.out) ?_; rintro e w8 ⟨v8, rfl, ho, b9⟩; obtain ⟨A8, c8, rfl, _, _⟩ := ho.open_at ny HNY.out; have HB9 := hd (step_b HBc.out b9); have HX9 := hd (XA.own ho HLY.out); have HY := hd (fun W (h : Below w8.heap.size w8 W) => HX9.out.later h); have HA := hd (fun W (h : Below w8.heap.size w8 W) => HA.out W (step_b HB9.out h)); have HB := hd (fun W (h : Below w8.heap.size w8 W) => HB.out W (step_b HB9.out h)); have HQ := hd (fun W (h : Below w8.heap.size w8 W) => HQ.out W (step_b HB9.out h)); have HT := hd (fun W (h : Below w8.heap.size w8 W) => HT.out W (step_b HB9.out h)); have HX := hd (fun W (h : Below w8.heap.size w8 W) => HX.out W (step_b HB9.out h)); have HK := hd (fun W (h : Below w8.heap.size w8 W) => HK.out W (step_b HB9.out h)); have HKR := hd (fun W (h : Below w8.heap.size w8 W) => HKR.out W (step_b HB9.out h)); have HBE := hd (HBE.out.trans (HB9.out.mono HBE.out.size)); have HBc := hd (Below.refl w8.heap.size w8); clear ho b9 HB9 HX9 x0 x1 x2 x3; obtain ⟨x0, x1, x2, x3⟩ := HK.out _ HBc.out))
        go_wp2_with (first
            | (go_at_call 19; refine Calls.mono (cmp_at (by first | exact HX.out _ HBc.out | exact HA.out _ HBc.out) (by first | exact HY.out _ HBc.out | exact HB.out _ HBc.out) (by first | exact HC1.out | exact HC2.out)) ?_; rintro e w7 ⟨rfl, b9⟩; have HBc := hd (step_b HBc.out b9); clear b9)
            | (go_at_call 17; refine Calls.mono (above_at (by first | exact HX.out _ HBc.out | exact HA.out _ HBc.out) (by first | exact HY.out _ HBc.out | exact HB.out _ HBc.out) (by first | exact HV1.out | exact HV2.out)) ?_; rintro e w7 ⟨rfl, b9⟩; have HBc := hd (step_b HBc.out b9); clear b9))
        go_ret
        exact ⟨rfl, HBE.out.trans (HBc.out.mono HBE.out.size)⟩
      · have HV1 := hd (l2.trans hab)
        have HV2 := hd hab
        clear hx hy hnx hny l1 l2 hcb hab
        go_enter Try.func7, Try.ntmps7
        go_upto_region 5 with (first
            | (refine wpList_load_op (HKR.out _ HBc.out) _ rfl rfl rfl ?_)
            | (go_at_call 9; rw [← HW.out]; refine Calls.mono (live8_any _) ?_; rintro e w9 ⟨rfl, b9⟩; have HBc := hd (step_b HBc.out b9); clear b9; obtain ⟨x0, x1, x2, x3⟩ := HK.out _ HBc.out)
            | (go_at_call 10; refine Calls.mono (short_2 hlq hlt hla hlb HSH.out) ?_; rintro e w9 ⟨rfl, b9⟩; have HBc := hd (step_b HBc.out b9); clear b9 x0 x1 x2 x3; obtain ⟨x0, x1, x2, x3⟩ := HK.out _ HBc.out))
        go_upto_region 6 with (first
            | (refine wpList_load_op (HKR.out _ HBc.out) _ rfl rfl rfl ?_)
            | (go_at_call 12; refine Calls.mono (move_at (HA.out _ HBc.out) (HQ.out _ HBc.out) (HT.out _ HBc.out) HRX.out) ?_; rintro e w9 ⟨v9, rfl, ho, b9⟩; obtain ⟨A9, c9, rfl, _, _⟩ := ho.open_at nx HNX.out; have HB9 := hd (step_b HBc.out b9); have HX9 := hd (XA.own ho HLX.out); have HX := hd (fun W (h : Below w9.heap.size w9 W) => HX9.out.later h); have HA := hd (fun W (h : Below w9.heap.size w9 W) => HA.out W (step_b HB9.out h)); have HB := hd (fun W (h : Below w9.heap.size w9 W) => HB.out W (step_b HB9.out h)); have HQ := hd (fun W (h : Below w9.heap.size w9 W) => HQ.out W (step_b HB9.out h)); have HT := hd (fun W (h : Below w9.heap.size w9 W) => HT.out W (step_b HB9.out h)); have HK := hd (fun W (h : Below w9.heap.size w9 W) => HK.out W (step_b HB9.out h)); have HKR := hd (fun W (h : Below w9.heap.size w9 W) => HKR.out W (step_b HB9.out h)); have HBE := hd (HBE.out.trans (HB9.out.mono HBE.out.size)); have HBc := hd (Below.refl w9.heap.size w9); clear ho b9 HB9 HX9 x0 x1 x2 x3; obtain ⟨x0, x1, x2, x3⟩ := HK.out _ HBc.out))
        go_upto_region 7 with (first
            | (refine wpList_load_op (HKR.out _ HBc.out) _ rfl rfl rfl ?_)
            | (go_at_call 12; refine Calls.mono (move_at (HB.out _ HBc.out) (HQ.out _ HBc.out) (HT.out _ HBc.out) HRY.out) ?_; rintro e w8 ⟨v8, rfl, ho, b9⟩; obtain ⟨A8, c8, rfl, _, _⟩ := ho.open_at ny HNY.out; have HB9 := hd (step_b HBc.out b9); have HX9 := hd (XA.own ho HLY.out); have HY := hd (fun W (h : Below w8.heap.size w8 W) => HX9.out.later h); have HA := hd (fun W (h : Below w8.heap.size w8 W) => HA.out W (step_b HB9.out h)); have HB := hd (fun W (h : Below w8.heap.size w8 W) => HB.out W (step_b HB9.out h)); have HQ := hd (fun W (h : Below w8.heap.size w8 W) => HQ.out W (step_b HB9.out h)); have HT := hd (fun W (h : Below w8.heap.size w8 W) => HT.out W (step_b HB9.out h)); have HX := hd (fun W (h : Below w8.heap.size w8 W) => HX.out W (step_b HB9.out h)); have HK := hd (fun W (h : Below w8.heap.size w8 W) => HK.out W (step_b HB9.out h)); have HKR := hd (fun W (h : Below w8.heap.size w8 W) => HKR.out W (step_b HB9.out h)); have HBE := hd (HBE.out.trans (HB9.out.mono HBE.out.size)); have HBc := hd (Below.refl w8.heap.size w8); clear ho b9 HB9 HX9 x0 x1 x2 x3; obtain ⟨x0, x1, x2, x3⟩ := HK.out _ HBc.out))
        go_wp2_with (first
            | (go_at_call 19; refine Calls.mono (cmp_at (by first | exact HX.out _ HBc.out | exact HA.out _ HBc.out) (by first | exact HY.out _ HBc.out | exact HB.out _ HBc.out) (by first | exact HC1.out | exact HC2.out)) ?_; rintro e w7 ⟨rfl, b9⟩; have HBc := hd (step_b HBc.out b9); clear b9)
            | (go_at_call 17; refine Calls.mono (above_at (by first | exact HX.out _ HBc.out | exact HA.out _ HBc.out) (by first | exact HY.out _ HBc.out | exact HB.out _ HBc.out) (by first | exact HV1.out | exact HV2.out)) ?_; rintro e w7 ⟨rfl, b9⟩; have HBc := hd (step_b HBc.out b9); clear b9))
        go_ret
        exact ⟨rfl, HBE.out.trans (HBc.out.mono HBE.out.size)⟩
set_option maxRecDepth 100000 in
set_option maxHeartbeats 8000000 in
theorem xorder_k2 (w : World) (A B Q T : Option Addr) (a b q t : List Int) (n m lq lt c d cq ct : Nat) (K pos : Int) (r4 r5 r6 r7 r8 r9 r10 r11 r12 r13 r14 r15 r16 r17 r18 r19 r20 : Value) (hna : a.length = n) (hnb : b.length = m) (hnq : q.length = lq) (hnt : t.length = lt) (hla : n ≤ 9223372036854775807) (hlb : m ≤ 9223372036854775807) (hlq : lq ≤ 9223372036854775807) (hlt : lt ≤ 9223372036854775807) (hca : n ≤ c) (hcb : m ≤ d) (hcq : lq ≤ cq) (hct : lt ≤ ct) (ha : IL w w.heap.size A a) (hb : IL w w.heap.size B b) (hq : IL w w.heap.size Q q) (ht : IL w w.heap.size T t) (hs : (decide (n ≤ 60) && decide (m ≤ 60) && decide (lq ≤ 60) && decide (lt ≤ 60)) = true) (hk : K = 2) :
    Calls Try.prog 7 #[.slice A n c, .slice B m d, .agg #[Value.int .i64 K, .slice Q lq cq, .slice T lt ct, .int .i64 pos, r4, r5, r6, r7, r8, r9, r10, r11, r12, r13, r14, r15, r16, r17, r18, r19, r20]] w (AllTrue w) := by
  obtain ⟨W0, hW⟩ : ∃ W0, W0 = w.alloc (.cells #[Value.int .i64 K, .slice Q lq cq, .slice T lt ct, .int .i64 pos, r4, r5, r6, r7, r8, r9, r10, r11, r12, r13, r14, r15, r16, r17, r18, r19, r20] 35) := ⟨_, rfl⟩
  have hb0 : Below w.heap.size w W0 := hW ▸ new_below w _
  have e0 : W0.heap[w.heap.size]? = some (.cells #[Value.int .i64 K, .slice Q lq cq, .slice T lt ct, .int .i64 pos, r4, r5, r6, r7, r8, r9, r10, r11, r12, r13, r14, r15, r16, r17, r18, r19, r20] 35 (0, 0)) := hW ▸ heap_alloc_new _ _
  have HK := hd (fun W (h : Below W0.heap.size W0 W) => op_cells (xkeep e0 h))
  have HKR := hd (fun W (h : Below W0.heap.size W0 W) => xkeep e0 h)
  have HW := hd hW
  have HBE := hd hb0
  have HBc := hd (Below.refl W0.heap.size W0)
  have HSH := hd hs
  simp only [Bool.and_eq_true, decide_eq_true_iff] at hs
  obtain ⟨⟨⟨b1, b2⟩, bq⟩, bt⟩ := hs
  have HIa := hd (fun W (h : Below W0.heap.size W0 W) => ha.later (hb0.trans (h.mono hb0.size)))
  have HA := hd (show ∀ W, Below W0.heap.size W0 W → XA W (.slice A n c) a from fun W h => ⟨A, n, c, rfl, hna, by omega, hca, HIa.out W h⟩)
  have HNa := hd hna
  have HIb := hd (fun W (h : Below W0.heap.size W0 W) => hb.later (hb0.trans (h.mono hb0.size)))
  have HB := hd (show ∀ W, Below W0.heap.size W0 W → XA W (.slice B m d) b from fun W h => ⟨B, m, d, rfl, hnb, by omega, hcb, HIb.out W h⟩)
  have HNb := hd hnb
  have HIq := hd (fun W (h : Below W0.heap.size W0 W) => hq.later (hb0.trans (h.mono hb0.size)))
  have HQ := hd (show ∀ W, Below W0.heap.size W0 W → XA W (.slice Q lq cq) q from fun W h => ⟨Q, lq, cq, rfl, hnq, by omega, hcq, HIq.out W h⟩)
  have HNq := hd hnq
  have HIt := hd (fun W (h : Below W0.heap.size W0 W) => ht.later (hb0.trans (h.mono hb0.size)))
  have HT := hd (show ∀ W, Below W0.heap.size W0 W → XA W (.slice T lt ct) t from fun W h => ⟨T, lt, ct, rfl, hnt, by omega, hct, HIt.out W h⟩)
  have HNt := hd hnt
  clear hW hb0 e0 ha hna hb hnb hq hnq ht hnt
  subst hk
  obtain ⟨⟨x, e⟩, hx⟩ : ∃ r, moveL 2 q t pos a = r := ⟨_, rfl⟩
  obtain ⟨⟨y, f⟩, hy⟩ : ∃ r, moveL 2 q t pos b = r := ⟨_, rfl⟩
  have HLX := hd (show x.length ≤ 1000 by have h1 := moveL_len (K := 2) (pos := pos) (q := q) (t := t) (p := a); rw [hx] at h1; have h2 := HNa.out; have h3 := HNt.out; simp only at h1; omega)
  have HLY := hd (show y.length ≤ 1000 by have h1 := moveL_len (K := 2) (pos := pos) (q := q) (t := t) (p := b); rw [hy] at h1; have h2 := HNb.out; have h3 := HNt.out; simp only at h1; omega)
  obtain ⟨nx, hnx⟩ : ∃ n, x.length = n := ⟨_, rfl⟩
  obtain ⟨ny, hny⟩ : ∃ n, y.length = n := ⟨_, rfl⟩
  have HNX := hd hnx
  have HNY := hd hny
  have hbx : nx ≤ 1000 := hnx ▸ HLX.out
  have hby : ny ≤ 1000 := hny ▸ HLY.out
  have HRX := hd hx
  have HRY := hd hy
  cases e
  · obtain rfl : nx = 0 := by rw [← hnx, moveL_no hx]; rfl
    clear hx hy hnx hny
    cases f
    · go_enter Try.func7, Try.ntmps7
      go_upto_region 5 with (first
          | (refine wpList_load_op (HKR.out _ HBc.out) _ rfl rfl rfl ?_)
          | (go_at_call 9; rw [← HW.out]; refine Calls.mono (live8_any _) ?_; rintro e w9 ⟨rfl, b9⟩; have HBc := hd (step_b HBc.out b9); clear b9; obtain ⟨x0, x1, x2, x3⟩ := HK.out _ HBc.out)
          | (go_at_call 10; refine Calls.mono (short_2 hlq hlt hla hlb HSH.out) ?_; rintro e w9 ⟨rfl, b9⟩; have HBc := hd (step_b HBc.out b9); clear b9 x0 x1 x2 x3; obtain ⟨x0, x1, x2, x3⟩ := HK.out _ HBc.out))
      go_upto_region 6 with (first
          | (refine wpList_load_op (HKR.out _ HBc.out) _ rfl rfl rfl ?_)
          | (go_at_call 12; refine Calls.mono (move_at (HA.out _ HBc.out) (HQ.out _ HBc.out) (HT.out _ HBc.out) HRX.out) ?_; rintro e w9 ⟨v9, rfl, ho, b9⟩; obtain ⟨A9, c9, rfl, _, _⟩ := ho.open_at 0 HNX.out; have HB9 := hd (step_b HBc.out b9); have HX9 := hd (XA.own ho HLX.out); have HX := hd (fun W (h : Below w9.heap.size w9 W) => HX9.out.later h); have HA := hd (fun W (h : Below w9.heap.size w9 W) => HA.out W (step_b HB9.out h)); have HB := hd (fun W (h : Below w9.heap.size w9 W) => HB.out W (step_b HB9.out h)); have HQ := hd (fun W (h : Below w9.heap.size w9 W) => HQ.out W (step_b HB9.out h)); have HT := hd (fun W (h : Below w9.heap.size w9 W) => HT.out W (step_b HB9.out h)); have HK := hd (fun W (h : Below w9.heap.size w9 W) => HK.out W (step_b HB9.out h)); have HKR := hd (fun W (h : Below w9.heap.size w9 W) => HKR.out W (step_b HB9.out h)); have HBE := hd (HBE.out.trans (HB9.out.mono HBE.out.size)); have HBc := hd (Below.refl w9.heap.size w9); clear ho b9 HB9 HX9 x0 x1 x2 x3; obtain ⟨x0, x1, x2, x3⟩ := HK.out _ HBc.out))
      go_upto_region 7 with (first
          | (refine wpList_load_op (HKR.out _ HBc.out) _ rfl rfl rfl ?_)
          | (go_at_call 12; refine Calls.mono (move_at (HB.out _ HBc.out) (HQ.out _ HBc.out) (HT.out _ HBc.out) HRY.out) ?_; rintro e w8 ⟨v8, rfl, ho, b9⟩; obtain ⟨A8, c8, rfl, _, _⟩ := ho.open_at ny HNY.out; have HB9 := hd (step_b HBc.out b9); have HX9 := hd (XA.own ho HLY.out); have HY := hd (fun W (h : Below w8.heap.size w8 W) => HX9.out.later h); have HA := hd (fun W (h : Below w8.heap.size w8 W) => HA.out W (step_b HB9.out h)); have HB := hd (fun W (h : Below w8.heap.size w8 W) => HB.out W (step_b HB9.out h)); have HQ := hd (fun W (h : Below w8.heap.size w8 W) => HQ.out W (step_b HB9.out h)); have HT := hd (fun W (h : Below w8.heap.size w8 W) => HT.out W (step_b HB9.out h)); have HX := hd (fun W (h : Below w8.heap.size w8 W) => HX.out W (step_b HB9.out h)); have HK := hd (fun W (h : Below w8.heap.size w8 W) => HK.out W (step_b HB9.out h)); have HKR := hd (fun W (h : Below w8.heap.size w8 W) => HKR.out W (step_b HB9.out h)); have HBE := hd (HBE.out.trans (HB9.out.mono HBE.out.size)); have HBc := hd (Below.refl w8.heap.size w8); clear ho b9 HB9 HX9 x0 x1 x2 x3; obtain ⟨x0, x1, x2, x3⟩ := HK.out _ HBc.out))
      go_wp2_with (first
          | (go_at_call 19; refine Calls.mono (cmp_at (by first | exact HX.out _ HBc.out | exact HA.out _ HBc.out) (by first | exact HY.out _ HBc.out | exact HB.out _ HBc.out) (by first | exact HC1.out | exact HC2.out)) ?_; rintro e w7 ⟨rfl, b9⟩; have HBc := hd (step_b HBc.out b9); clear b9)
          | (go_at_call 17; refine Calls.mono (above_at (by first | exact HX.out _ HBc.out | exact HA.out _ HBc.out) (by first | exact HY.out _ HBc.out | exact HB.out _ HBc.out) (by first | exact HV1.out | exact HV2.out)) ?_; rintro e w7 ⟨rfl, b9⟩; have HBc := hd (step_b HBc.out b9); clear b9))
      go_ret
      exact ⟨rfl, HBE.out.trans (HBc.out.mono HBE.out.size)⟩
    · go_enter Try.func7, Try.ntmps7
      go_upto_region 5 with (first
          | (refine wpList_load_op (HKR.out _ HBc.out) _ rfl rfl rfl ?_)
          | (go_at_call 9; rw [← HW.out]; refine Calls.mono (live8_any _) ?_; rintro e w9 ⟨rfl, b9⟩; have HBc := hd (step_b HBc.out b9); clear b9; obtain ⟨x0, x1, x2, x3⟩ := HK.out _ HBc.out)
          | (go_at_call 10; refine Calls.mono (short_2 hlq hlt hla hlb HSH.out) ?_; rintro e w9 ⟨rfl, b9⟩; have HBc := hd (step_b HBc.out b9); clear b9 x0 x1 x2 x3; obtain ⟨x0, x1, x2, x3⟩ := HK.out _ HBc.out))
      go_upto_region 6 with (first
          | (refine wpList_load_op (HKR.out _ HBc.out) _ rfl rfl rfl ?_)
          | (go_at_call 12; refine Calls.mono (move_at (HA.out _ HBc.out) (HQ.out _ HBc.out) (HT.out _ HBc.out) HRX.out) ?_; rintro e w9 ⟨v9, rfl, ho, b9⟩; obtain ⟨A9, c9, rfl, _, _⟩ := ho.open_at 0 HNX.out; have HB9 := hd (step_b HBc.out b9); have HX9 := hd (XA.own ho HLX.out); have HX := hd (fun W (h : Below w9.heap.size w9 W) => HX9.out.later h); have HA := hd (fun W (h : Below w9.heap.size w9 W) => HA.out W (step_b HB9.out h)); have HB := hd (fun W (h : Below w9.heap.size w9 W) => HB.out W (step_b HB9.out h)); have HQ := hd (fun W (h : Below w9.heap.size w9 W) => HQ.out W (step_b HB9.out h)); have HT := hd (fun W (h : Below w9.heap.size w9 W) => HT.out W (step_b HB9.out h)); have HK := hd (fun W (h : Below w9.heap.size w9 W) => HK.out W (step_b HB9.out h)); have HKR := hd (fun W (h : Below w9.heap.size w9 W) => HKR.out W (step_b HB9.out h)); have HBE := hd (HBE.out.trans (HB9.out.mono HBE.out.size)); have HBc := hd (Below.refl w9.heap.size w9); clear ho b9 HB9 HX9 x0 x1 x2 x3; obtain ⟨x0, x1, x2, x3⟩ := HK.out _ HBc.out))
      go_upto_region 7 with (first
          | (refine wpList_load_op (HKR.out _ HBc.out) _ rfl rfl rfl ?_)
          | (go_at_call 12; refine Calls.mono (move_at (HB.out _ HBc.out) (HQ.out _ HBc.out) (HT.out _ HBc.out) HRY.out) ?_; rintro e w8 ⟨v8, rfl, ho, b9⟩; obtain ⟨A8, c8, rfl, _, _⟩ := ho.open_at ny HNY.out; have HB9 := hd (step_b HBc.out b9); have HX9 := hd (XA.own ho HLY.out); have HY := hd (fun W (h : Below w8.heap.size w8 W) => HX9.out.later h); have HA := hd (fun W (h : Below w8.heap.size w8 W) => HA.out W (step_b HB9.out h)); have HB := hd (fun W (h : Below w8.heap.size w8 W) => HB.out W (step_b HB9.out h)); have HQ := hd (fun W (h : Below w8.heap.size w8 W) => HQ.out W (step_b HB9.out h)); have HT := hd (fun W (h : Below w8.heap.size w8 W) => HT.out W (step_b HB9.out h)); have HX := hd (fun W (h : Below w8.heap.size w8 W) => HX.out W (step_b HB9.out h)); have HK := hd (fun W (h : Below w8.heap.size w8 W) => HK.out W (step_b HB9.out h)); have HKR := hd (fun W (h : Below w8.heap.size w8 W) => HKR.out W (step_b HB9.out h)); have HBE := hd (HBE.out.trans (HB9.out.mono HBE.out.size)); have HBc := hd (Below.refl w8.heap.size w8); clear ho b9 HB9 HX9 x0 x1 x2 x3; obtain ⟨x0, x1, x2, x3⟩ := HK.out _ HBc.out))
      go_wp2_with (first
          | (go_at_call 19; refine Calls.mono (cmp_at (by first | exact HX.out _ HBc.out | exact HA.out _ HBc.out) (by first | exact HY.out _ HBc.out | exact HB.out _ HBc.out) (by first | exact HC1.out | exact HC2.out)) ?_; rintro e w7 ⟨rfl, b9⟩; have HBc := hd (step_b HBc.out b9); clear b9)
          | (go_at_call 17; refine Calls.mono (above_at (by first | exact HX.out _ HBc.out | exact HA.out _ HBc.out) (by first | exact HY.out _ HBc.out | exact HB.out _ HBc.out) (by first | exact HV1.out | exact HV2.out)) ?_; rintro e w7 ⟨rfl, b9⟩; have HBc := hd (step_b HBc.out b9); clear b9))
      go_ret
      exact ⟨rfl, HBE.out.trans (HBc.out.mono HBE.out.size)⟩
  · cases f
    · obtain rfl : ny = 0 := by rw [← hny, moveL_no hy]; rfl
      clear hx hy hnx hny
      by_cases hz0 : nx = 0
      · subst hz0
        go_enter Try.func7, Try.ntmps7
        go_upto_region 5 with (first
            | (refine wpList_load_op (HKR.out _ HBc.out) _ rfl rfl rfl ?_)
            | (go_at_call 9; rw [← HW.out]; refine Calls.mono (live8_any _) ?_; rintro e w9 ⟨rfl, b9⟩; have HBc := hd (step_b HBc.out b9); clear b9; obtain ⟨x0, x1, x2, x3⟩ := HK.out _ HBc.out)
            | (go_at_call 10; refine Calls.mono (short_2 hlq hlt hla hlb HSH.out) ?_; rintro e w9 ⟨rfl, b9⟩; have HBc := hd (step_b HBc.out b9); clear b9 x0 x1 x2 x3; obtain ⟨x0, x1, x2, x3⟩ := HK.out _ HBc.out))
        go_upto_region 6 with (first
            | (refine wpList_load_op (HKR.out _ HBc.out) _ rfl rfl rfl ?_)
            | (go_at_call 12; refine Calls.mono (move_at (HA.out _ HBc.out) (HQ.out _ HBc.out) (HT.out _ HBc.out) HRX.out) ?_; rintro e w9 ⟨v9, rfl, ho, b9⟩; obtain ⟨A9, c9, rfl, _, _⟩ := ho.open_at 0 HNX.out; have HB9 := hd (step_b HBc.out b9); have HX9 := hd (XA.own ho HLX.out); have HX := hd (fun W (h : Below w9.heap.size w9 W) => HX9.out.later h); have HA := hd (fun W (h : Below w9.heap.size w9 W) => HA.out W (step_b HB9.out h)); have HB := hd (fun W (h : Below w9.heap.size w9 W) => HB.out W (step_b HB9.out h)); have HQ := hd (fun W (h : Below w9.heap.size w9 W) => HQ.out W (step_b HB9.out h)); have HT := hd (fun W (h : Below w9.heap.size w9 W) => HT.out W (step_b HB9.out h)); have HK := hd (fun W (h : Below w9.heap.size w9 W) => HK.out W (step_b HB9.out h)); have HKR := hd (fun W (h : Below w9.heap.size w9 W) => HKR.out W (step_b HB9.out h)); have HBE := hd (HBE.out.trans (HB9.out.mono HBE.out.size)); have HBc := hd (Below.refl w9.heap.size w9); clear ho b9 HB9 HX9 x0 x1 x2 x3; obtain ⟨x0, x1, x2, x3⟩ := HK.out _ HBc.out))
        go_upto_region 7 with (first
            | (refine wpList_load_op (HKR.out _ HBc.out) _ rfl rfl rfl ?_)
            | (go_at_call 12; refine Calls.mono (move_at (HB.out _ HBc.out) (HQ.out _ HBc.out) (HT.out _ HBc.out) HRY.out) ?_; rintro e w8 ⟨v8, rfl, ho, b9⟩; obtain ⟨A8, c8, rfl, _, _⟩ := ho.open_at 0 HNY.out; have HB9 := hd (step_b HBc.out b9); have HX9 := hd (XA.own ho HLY.out); have HY := hd (fun W (h : Below w8.heap.size w8 W) => HX9.out.later h); have HA := hd (fun W (h : Below w8.heap.size w8 W) => HA.out W (step_b HB9.out h)); have HB := hd (fun W (h : Below w8.heap.size w8 W) => HB.out W (step_b HB9.out h)); have HQ := hd (fun W (h : Below w8.heap.size w8 W) => HQ.out W (step_b HB9.out h)); have HT := hd (fun W (h : Below w8.heap.size w8 W) => HT.out W (step_b HB9.out h)); have HX := hd (fun W (h : Below w8.heap.size w8 W) => HX.out W (step_b HB9.out h)); have HK := hd (fun W (h : Below w8.heap.size w8 W) => HK.out W (step_b HB9.out h)); have HKR := hd (fun W (h : Below w8.heap.size w8 W) => HKR.out W (step_b HB9.out h)); have HBE := hd (HBE.out.trans (HB9.out.mono HBE.out.size)); have HBc := hd (Below.refl w8.heap.size w8); clear ho b9 HB9 HX9 x0 x1 x2 x3; obtain ⟨x0, x1, x2, x3⟩ := HK.out _ HBc.out))
        go_wp2_with (first
            | (go_at_call 19; refine Calls.mono (cmp_at (by first | exact HX.out _ HBc.out | exact HA.out _ HBc.out) (by first | exact HY.out _ HBc.out | exact HB.out _ HBc.out) (by first | exact HC1.out | exact HC2.out)) ?_; rintro e w7 ⟨rfl, b9⟩; have HBc := hd (step_b HBc.out b9); clear b9)
            | (go_at_call 17; refine Calls.mono (above_at (by first | exact HX.out _ HBc.out | exact HA.out _ HBc.out) (by first | exact HY.out _ HBc.out | exact HB.out _ HBc.out) (by first | exact HV1.out | exact HV2.out)) ?_; rintro e w7 ⟨rfl, b9⟩; have HBc := hd (step_b HBc.out b9); clear b9))
        go_ret
        exact ⟨rfl, HBE.out.trans (HBc.out.mono HBE.out.size)⟩
      · have hz : ((nx : Int) == 0) = false := by simp; omega
        clear hz0
        go_enter Try.func7, Try.ntmps7
        go_upto_region 5 with (first
            | (refine wpList_load_op (HKR.out _ HBc.out) _ rfl rfl rfl ?_)
            | (go_at_call 9; rw [← HW.out]; refine Calls.mono (live8_any _) ?_; rintro e w9 ⟨rfl, b9⟩; have HBc := hd (step_b HBc.out b9); clear b9; obtain ⟨x0, x1, x2, x3⟩ := HK.out _ HBc.out)
            | (go_at_call 10; refine Calls.mono (short_2 hlq hlt hla hlb HSH.out) ?_; rintro e w9 ⟨rfl, b9⟩; have HBc := hd (step_b HBc.out b9); clear b9 x0 x1 x2 x3; obtain ⟨x0, x1, x2, x3⟩ := HK.out _ HBc.out))
        go_upto_region 6 with (first
            | (refine wpList_load_op (HKR.out _ HBc.out) _ rfl rfl rfl ?_)
            | (go_at_call 12; refine Calls.mono (move_at (HA.out _ HBc.out) (HQ.out _ HBc.out) (HT.out _ HBc.out) HRX.out) ?_; rintro e w9 ⟨v9, rfl, ho, b9⟩; obtain ⟨A9, c9, rfl, _, _⟩ := ho.open_at nx HNX.out; have HB9 := hd (step_b HBc.out b9); have HX9 := hd (XA.own ho HLX.out); have HX := hd (fun W (h : Below w9.heap.size w9 W) => HX9.out.later h); have HA := hd (fun W (h : Below w9.heap.size w9 W) => HA.out W (step_b HB9.out h)); have HB := hd (fun W (h : Below w9.heap.size w9 W) => HB.out W (step_b HB9.out h)); have HQ := hd (fun W (h : Below w9.heap.size w9 W) => HQ.out W (step_b HB9.out h)); have HT := hd (fun W (h : Below w9.heap.size w9 W) => HT.out W (step_b HB9.out h)); have HK := hd (fun W (h : Below w9.heap.size w9 W) => HK.out W (step_b HB9.out h)); have HKR := hd (fun W (h : Below w9.heap.size w9 W) => HKR.out W (step_b HB9.out h)); have HBE := hd (HBE.out.trans (HB9.out.mono HBE.out.size)); have HBc := hd (Below.refl w9.heap.size w9); clear ho b9 HB9 HX9 x0 x1 x2 x3; obtain ⟨x0, x1, x2, x3⟩ := HK.out _ HBc.out))
        go_upto_region 7 with (first
            | (refine wpList_load_op (HKR.out _ HBc.out) _ rfl rfl rfl ?_)
            | (go_at_call 12; refine Calls.mono (move_at (HB.out _ HBc.out) (HQ.out _ HBc.out) (HT.out _ HBc.out) HRY.out) ?_; rintro e w8 ⟨v8, rfl, ho, b9⟩; obtain ⟨A8, c8, rfl, _, _⟩ := ho.open_at 0 HNY.out; have HB9 := hd (step_b HBc.out b9); have HX9 := hd (XA.own ho HLY.out); have HY := hd (fun W (h : Below w8.heap.size w8 W) => HX9.out.later h); have HA := hd (fun W (h : Below w8.heap.size w8 W) => HA.out W (step_b HB9.out h)); have HB := hd (fun W (h : Below w8.heap.size w8 W) => HB.out W (step_b HB9.out h)); have HQ := hd (fun W (h : Below w8.heap.size w8 W) => HQ.out W (step_b HB9.out h)); have HT := hd (fun W (h : Below w8.heap.size w8 W) => HT.out W (step_b HB9.out h)); have HX := hd (fun W (h : Below w8.heap.size w8 W) => HX.out W (step_b HB9.out h)); have HK := hd (fun W (h : Below w8.heap.size w8 W) => HK.out W (step_b HB9.out h)); have HKR := hd (fun W (h : Below w8.heap.size w8 W) => HKR.out W (step_b HB9.out h)); have HBE := hd (HBE.out.trans (HB9.out.mono HBE.out.size)); have HBc := hd (Below.refl w8.heap.size w8); clear ho b9 HB9 HX9 x0 x1 x2 x3; obtain ⟨x0, x1, x2, x3⟩ := HK.out _ HBc.out))
        go_wp2_with (first
            | (go_at_call 19; refine Calls.mono (cmp_at (by first | exact HX.out _ HBc.out | exact HA.out _ HBc.out) (by first | exact HY.out _ HBc.out | exact HB.out _ HBc.out) (by first | exact HC1.out | exact HC2.out)) ?_; rintro e w7 ⟨rfl, b9⟩; have HBc := hd (step_b HBc.out b9); clear b9)
            | (go_at_call 17; refine Calls.mono (above_at (by first | exact HX.out _ HBc.out | exact HA.out _ HBc.out) (by first | exact HY.out _ HBc.out | exact HB.out _ HBc.out) (by first | exact HV1.out | exact HV2.out)) ?_; rintro e w7 ⟨rfl, b9⟩; have HBc := hd (step_b HBc.out b9); clear b9))
        go_ret
        exact ⟨rfl, HBE.out.trans (HBc.out.mono HBE.out.size)⟩
    · obtain ⟨l1, l2⟩ := law_order (.inr rfl) hx hy
      obtain ⟨cb, hcb⟩ : ∃ z, cmpL a b = z := ⟨_, rfl⟩
      have HC1 := hd (l1.trans hcb)
      have HC2 := hd hcb
      cases hab : aboveL a b
      · have HV1 := hd (l2.trans hab)
        have HV2 := hd hab
        clear hx hy hnx hny l1 l2 hcb hab
        go_enter Try.func7, Try.ntmps7
        go_upto_region 5 with (first
            | (refine wpList_load_op (HKR.out _ HBc.out) _ rfl rfl rfl ?_)
            | (go_at_call 9; rw [← HW.out]; refine Calls.mono (live8_any _) ?_; rintro e w9 ⟨rfl, b9⟩; have HBc := hd (step_b HBc.out b9); clear b9; obtain ⟨x0, x1, x2, x3⟩ := HK.out _ HBc.out)
            | (go_at_call 10; refine Calls.mono (short_2 hlq hlt hla hlb HSH.out) ?_; rintro e w9 ⟨rfl, b9⟩; have HBc := hd (step_b HBc.out b9); clear b9 x0 x1 x2 x3; obtain ⟨x0, x1, x2, x3⟩ := HK.out _ HBc.out))
        go_upto_region 6 with (first
            | (refine wpList_load_op (HKR.out _ HBc.out) _ rfl rfl rfl ?_)
            | (go_at_call 12; refine Calls.mono (move_at (HA.out _ HBc.out) (HQ.out _ HBc.out) (HT.out _ HBc.out) HRX.out) ?_; rintro e w9 ⟨v9, rfl, ho, b9⟩; obtain ⟨A9, c9, rfl, _, _⟩ := ho.open_at nx HNX.out; have HB9 := hd (step_b HBc.out b9); have HX9 := hd (XA.own ho HLX.out); have HX := hd (fun W (h : Below w9.heap.size w9 W) => HX9.out.later h); have HA := hd (fun W (h : Below w9.heap.size w9 W) => HA.out W (step_b HB9.out h)); have HB := hd (fun W (h : Below w9.heap.size w9 W) => HB.out W (step_b HB9.out h)); have HQ := hd (fun W (h : Below w9.heap.size w9 W) => HQ.out W (step_b HB9.out h)); have HT := hd (fun W (h : Below w9.heap.size w9 W) => HT.out W (step_b HB9.out h)); have HK := hd (fun W (h : Below w9.heap.size w9 W) => HK.out W (step_b HB9.out h)); have HKR := hd (fun W (h : Below w9.heap.size w9 W) => HKR.out W (step_b HB9.out h)); have HBE := hd (HBE.out.trans (HB9.out.mono HBE.out.size)); have HBc := hd (Below.refl w9.heap.size w9); clear ho b9 HB9 HX9 x0 x1 x2 x3; obtain ⟨x0, x1, x2, x3⟩ := HK.out _ HBc.out))
        go_upto_region 7 with (first
            | (refine wpList_load_op (HKR.out _ HBc.out) _ rfl rfl rfl ?_)
            | (go_at_call 12; refine Calls.mono (move_at (HB.out _ HBc.out) (HQ.out _ HBc.out) (HT.out _ HBc.out) HRY.out) ?_; rintro e w8 ⟨v8, rfl, ho, b9⟩; obtain ⟨A8, c8, rfl, _, _⟩ := ho.open_at ny HNY.out; have HB9 := hd (step_b HBc.out b9); have HX9 := hd (XA.own ho HLY.out); have HY := hd (fun W (h : Below w8.heap.size w8 W) => HX9.out.later h); have HA := hd (fun W (h : Below w8.heap.size w8 W) => HA.out W (step_b HB9.out h)); have HB := hd (fun W (h : Below w8.heap.size w8 W) => HB.out W (step_b HB9.out h)); have HQ := hd (fun W (h : Below w8.heap.size w8 W) => HQ.out W (step_b HB9.out h)); have HT := hd (fun W (h : Below w8.heap.size w8 W) => HT.out W (step_b HB9.out h)); have HX := hd (fun W (h : Below w8.heap.size w8 W) => HX.out W (step_b HB9.out h)); have HK := hd (fun W (h : Below w8.heap.size w8 W) => HK.out W (step_b HB9.out h)); have HKR := hd (fun W (h : Below w8.heap.size w8 W) => HKR.out W (step_b HB9.out h)); have HBE := hd (HBE.out.trans (HB9.out.mono HBE.out.size)); have HBc := hd (Below.refl w8.heap.size w8); clear ho b9 HB9 HX9 x0 x1 x2 x3; obtain ⟨x0, x1, x2, x3⟩ := HK.out _ HBc.out))
        go_wp2_with (first
            | (go_at_call 19; refine Calls.mono (cmp_at (by first | exact HX.out _ HBc.out | exact HA.out _ HBc.out) (by first | exact HY.out _ HBc.out | exact HB.out _ HBc.out) (by first | exact HC1.out | exact HC2.out)) ?_; rintro e w7 ⟨rfl, b9⟩; have HBc := hd (step_b HBc.out b9); clear b9)
            | (go_at_call 17; refine Calls.mono (above_at (by first | exact HX.out _ HBc.out | exact HA.out _ HBc.out) (by first | exact HY.out _ HBc.out | exact HB.out _ HBc.out) (by first | exact HV1.out | exact HV2.out)) ?_; rintro e w7 ⟨rfl, b9⟩; have HBc := hd (step_b HBc.out b9); clear b9))
        go_ret
        exact ⟨rfl, HBE.out.trans (HBc.out.mono HBE.out.size)⟩
      · have HV1 := hd (l2.trans hab)
        have HV2 := hd hab
        clear hx hy hnx hny l1 l2 hcb hab
        go_enter Try.func7, Try.ntmps7
        go_upto_region 5 with (first
            | (refine wpList_load_op (HKR.out _ HBc.out) _ rfl rfl rfl ?_)
            | (go_at_call 9; rw [← HW.out]; refine Calls.mono (live8_any _) ?_; rintro e w9 ⟨rfl, b9⟩; have HBc := hd (step_b HBc.out b9); clear b9; obtain ⟨x0, x1, x2, x3⟩ := HK.out _ HBc.out)
            | (go_at_call 10; refine Calls.mono (short_2 hlq hlt hla hlb HSH.out) ?_; rintro e w9 ⟨rfl, b9⟩; have HBc := hd (step_b HBc.out b9); clear b9 x0 x1 x2 x3; obtain ⟨x0, x1, x2, x3⟩ := HK.out _ HBc.out))
        go_upto_region 6 with (first
            | (refine wpList_load_op (HKR.out _ HBc.out) _ rfl rfl rfl ?_)
            | (go_at_call 12; refine Calls.mono (move_at (HA.out _ HBc.out) (HQ.out _ HBc.out) (HT.out _ HBc.out) HRX.out) ?_; rintro e w9 ⟨v9, rfl, ho, b9⟩; obtain ⟨A9, c9, rfl, _, _⟩ := ho.open_at nx HNX.out; have HB9 := hd (step_b HBc.out b9); have HX9 := hd (XA.own ho HLX.out); have HX := hd (fun W (h : Below w9.heap.size w9 W) => HX9.out.later h); have HA := hd (fun W (h : Below w9.heap.size w9 W) => HA.out W (step_b HB9.out h)); have HB := hd (fun W (h : Below w9.heap.size w9 W) => HB.out W (step_b HB9.out h)); have HQ := hd (fun W (h : Below w9.heap.size w9 W) => HQ.out W (step_b HB9.out h)); have HT := hd (fun W (h : Below w9.heap.size w9 W) => HT.out W (step_b HB9.out h)); have HK := hd (fun W (h : Below w9.heap.size w9 W) => HK.out W (step_b HB9.out h)); have HKR := hd (fun W (h : Below w9.heap.size w9 W) => HKR.out W (step_b HB9.out h)); have HBE := hd (HBE.out.trans (HB9.out.mono HBE.out.size)); have HBc := hd (Below.refl w9.heap.size w9); clear ho b9 HB9 HX9 x0 x1 x2 x3; obtain ⟨x0, x1, x2, x3⟩ := HK.out _ HBc.out))
        go_upto_region 7 with (first
            | (refine wpList_load_op (HKR.out _ HBc.out) _ rfl rfl rfl ?_)
            | (go_at_call 12; refine Calls.mono (move_at (HB.out _ HBc.out) (HQ.out _ HBc.out) (HT.out _ HBc.out) HRY.out) ?_; rintro e w8 ⟨v8, rfl, ho, b9⟩; obtain ⟨A8, c8, rfl, _, _⟩ := ho.open_at ny HNY.out; have HB9 := hd (step_b HBc.out b9); have HX9 := hd (XA.own ho HLY.out); have HY := hd (fun W (h : Below w8.heap.size w8 W) => HX9.out.later h); have HA := hd (fun W (h : Below w8.heap.size w8 W) => HA.out W (step_b HB9.out h)); have HB := hd (fun W (h : Below w8.heap.size w8 W) => HB.out W (step_b HB9.out h)); have HQ := hd (fun W (h : Below w8.heap.size w8 W) => HQ.out W (step_b HB9.out h)); have HT := hd (fun W (h : Below w8.heap.size w8 W) => HT.out W (step_b HB9.out h)); have HX := hd (fun W (h : Below w8.heap.size w8 W) => HX.out W (step_b HB9.out h)); have HK := hd (fun W (h : Below w8.heap.size w8 W) => HK.out W (step_b HB9.out h)); have HKR := hd (fun W (h : Below w8.heap.size w8 W) => HKR.out W (step_b HB9.out h)); have HBE := hd (HBE.out.trans (HB9.out.mono HBE.out.size)); have HBc := hd (Below.refl w8.heap.size w8); clear ho b9 HB9 HX9 x0 x1 x2 x3; obtain ⟨x0, x1, x2, x3⟩ := HK.out _ HBc.out))
        go_wp2_with (first
            | (go_at_call 19; refine Calls.mono (cmp_at (by first | exact HX.out _ HBc.out | exact HA.out _ HBc.out) (by first | exact HY.out _ HBc.out | exact HB.out _ HBc.out) (by first | exact HC1.out | exact HC2.out)) ?_; rintro e w7 ⟨rfl, b9⟩; have HBc := hd (step_b HBc.out b9); clear b9)
            | (go_at_call 17; refine Calls.mono (above_at (by first | exact HX.out _ HBc.out | exact HA.out _ HBc.out) (by first | exact HY.out _ HBc.out | exact HB.out _ HBc.out) (by first | exact HV1.out | exact HV2.out)) ?_; rintro e w7 ⟨rfl, b9⟩; have HBc := hd (step_b HBc.out b9); clear b9))
        go_ret
        exact ⟨rfl, HBE.out.trans (HBc.out.mono HBE.out.size)⟩
set_option maxRecDepth 4000 in
theorem xorder_law (w : World) (A B Q T : Option Addr) (a b q t : List Int) (n m lq lt c d cq ct : Nat) (K pos : Int) (r4 r5 r6 r7 r8 r9 r10 r11 r12 r13 r14 r15 r16 r17 r18 r19 r20 : Value) (hna : a.length = n) (hnb : b.length = m) (hnq : q.length = lq) (hnt : t.length = lt) (hla : n ≤ 9223372036854775807) (hlb : m ≤ 9223372036854775807) (hlq : lq ≤ 9223372036854775807) (hlt : lt ≤ 9223372036854775807) (hca : n ≤ c) (hcb : m ≤ d) (hcq : lq ≤ cq) (hct : lt ≤ ct) (ha : IL w w.heap.size A a) (hb : IL w w.heap.size B b) (hq : IL w w.heap.size Q q) (ht : IL w w.heap.size T t) :
    Calls Try.prog 7 #[.slice A n c, .slice B m d, .agg #[Value.int .i64 K, .slice Q lq cq, .slice T lt ct, .int .i64 pos, r4, r5, r6, r7, r8, r9, r10, r11, r12, r13, r14, r15, r16, r17, r18, r19, r20]] w (AllTrue w) := by
  cases hs : (decide (n ≤ 60) && decide (m ≤ 60) && decide (lq ≤ 60) && decide (lt ≤ 60))
  · exact xorder_long w A B Q T n m lq lt c d cq ct K pos r4 r5 r6 r7 r8 r9 r10 r11 r12 r13 r14 r15 r16 r17 r18 r19 r20 hla hlb hlq hlt hs
  by_cases h1 : K = 1
  · exact xorder_k1 w A B Q T a b q t n m lq lt c d cq ct K pos r4 r5 r6 r7 r8 r9 r10 r11 r12 r13 r14 r15 r16 r17 r18 r19 r20 hna hnb hnq hnt hla hlb hlq hlt hca hcb hcq hct ha hb hq ht hs h1
  by_cases h2 : K = 2
  · exact xorder_k2 w A B Q T a b q t n m lq lt c d cq ct K pos r4 r5 r6 r7 r8 r9 r10 r11 r12 r13 r14 r15 r16 r17 r18 r19 r20 hna hnb hnq hnt hla hlb hlq hlt hca hcb hcq hct ha hb hq ht hs h2
  exact xorder_other w A B Q T a b q t n m lq lt c d cq ct K pos r4 r5 r6 r7 r8 r9 r10 r11 r12 r13 r14 r15 r16 r17 r18 r19 r20 hna hnb hnq hnt hla hlb hlq hlt hca hcb hcq hct ha hb hq ht hs h1 h2

end Go.Proofs.Ytindjfiomilocaa
