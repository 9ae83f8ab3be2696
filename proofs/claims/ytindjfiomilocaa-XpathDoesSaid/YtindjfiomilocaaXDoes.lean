/- XpathDoes answers true. -/
import Derived.Test.YtindjfiomilocaaXLaw
import Derived.Test.YtindjfiomilocaaXPlain
import Derived.Test.YtindjfiomilocaaXRMove5
import Derived.Test.YtindjfiomilocaaXLoad
namespace Go.Proofs.Ytindjfiomilocaa
open Go.RowKit

set_option maxRecDepth 100000 in
set_option maxHeartbeats 8000000 in
theorem xdoes_long (w : World) (A Q T : Option Addr) (n lq lt c cq ct : Nat) (K pos : Int) (r4 r5 r6 r7 r8 r9 r10 r11 r12 r13 r14 r15 r16 r17 r18 r19 r20 : Value) (hlp : n ≤ 9223372036854775807) (hlq : lq ≤ 9223372036854775807) (hlt : lt ≤ 9223372036854775807) (hs : (decide (n ≤ 60) && decide (lq ≤ 60) && decide (lt ≤ 60)) = false) :
    Calls Try.prog 3 #[.slice A n c, .agg #[Value.int .i64 K, .slice Q lq cq, .slice T lt ct, .int .i64 pos, r4, r5, r6, r7, r8, r9, r10, r11, r12, r13, r14, r15, r16, r17, r18, r19, r20]] w (AllTrue w) := by
  obtain ⟨W0, hW⟩ : ∃ W0, W0 = w.alloc (.cells #[Value.int .i64 K, .slice Q lq cq, .slice T lt ct, .int .i64 pos, r4, r5, r6, r7, r8, r9, r10, r11, r12, r13, r14, r15, r16, r17, r18, r19, r20] 35) := ⟨_, rfl⟩
  have hb0 : Below w.heap.size w W0 := hW ▸ new_below w _
  have e0 : W0.heap[w.heap.size]? = some (.cells #[Value.int .i64 K, .slice Q lq cq, .slice T lt ct, .int .i64 pos, r4, r5, r6, r7, r8, r9, r10, r11, r12, r13, r14, r15, r16, r17, r18, r19, r20] 35 (0, 0)) := hW ▸ heap_alloc_new _ _
  have HK := hd (fun W (h : Below W0.heap.size W0 W) => op_cells (xkeep e0 h))
  have HKR := hd (fun W (h : Below W0.heap.size W0 W) => xkeep e0 h)
  have HW := hd hW
  have HBE := hd hb0
  have HBc := hd (Below.refl W0.heap.size W0)
  have HSH := hd hs
  clear hs hW hb0 e0
  go_enter Try.func3, Try.ntmps3
  go_wp2_with (first
    | (refine wpList_load_op (HKR.out _ HBc.out) _ rfl rfl rfl ?_)
    | (go_at_call 9; rw [← HW.out]; refine Calls.mono (live8_any _) ?_; rintro e w9 ⟨rfl, b9⟩; have HBc := hd (step_b HBc.out b9); clear b9; obtain ⟨x0, x1, x2, x3⟩ := HK.out _ HBc.out)
    | (go_at_call 10; refine Calls.mono (short_1 hlq hlt hlp HSH.out) ?_; rintro e w9 ⟨rfl, b9⟩; have HBc := hd (step_b HBc.out b9); clear b9 x0 x1 x2 x3; obtain ⟨x0, x1, x2, x3⟩ := HK.out _ HBc.out))
  go_ret
  exact ⟨rfl, HBE.out.trans (HBc.out.mono HBE.out.size)⟩
set_option maxRecDepth 100000 in
set_option maxHeartbeats 8000000 in
theorem xdoes_false (w : World) (A Q T : Option Addr) (p q t : List Int) (n lq lt c cq ct : Nat) (K pos : Int) (r4 r5 r6 r7 r8 r9 r10 r11 r12 r13 r14 r15 r16 r17 r18 r19 r20 : Value) (hnp : p.length = n) (hnq : q.length = lq) (hnt : t.length = lt) (hlp : n ≤ 9223372036854775807) (hlq : lq ≤ 9223372036854775807) (hlt : lt ≤ 9223372036854775807) (hcp : n ≤ c) (hcq : lq ≤ cq) (hct : lt ≤ ct) (hp : IL w w.heap.size A p) (hq : IL w w.heap.size Q q) (ht : IL w w.heap.size T t) (hs : (decide (n ≤ 60) && decide (lq ≤ 60) && decide (lt ≤ 60)) = true) (x : List Int) (hx : moveL K q t pos p = (x, false)) :
    Calls Try.prog 3 #[.slice A n c, .agg #[Value.int .i64 K, .slice Q lq cq, .slice T lt ct, .int .i64 pos, r4, r5, r6, r7, r8, r9, r10, r11, r12, r13, r14, r15, r16, r17, r18, r19, r20]] w (AllTrue w) := by
  obtain ⟨W0, hW⟩ : ∃ W0, W0 = w.alloc (.cells #[Value.int .i64 K, .slice Q lq cq, .slice T lt ct, .int .i64 pos, r4, r5, r6, r7, r8, r9, r10, r11, r12, r13, r14, r15, r16, r17, r18, r19, r20] 35) := ⟨_, rfl⟩
  have hb0 : Below w.heap.size w W0 := hW ▸ new_below w _
  have e0 : W0.heap[w.heap.size]? = some (.cells #[Value.int .i64 K, .slice Q lq cq, .slice T lt ct, .int .i64 pos, r4, r5, r6, r7, r8, r9, r10, r11, r12, r13, r14, r15, r16, r17, r18, r19, r20] 35 (0, 0)) := hW ▸ heap_alloc_new _ _
  have HK := hd (fun W (h : Below W0.heap.size W0 W) => op_cells (xkeep e0 h))
  have HKR := hd (fun W (h : Below W0.heap.size W0 W) => xkeep e0 h)
  have HW := hd hW
  have HBE := hd hb0
  have HBc := hd (Below.refl W0.heap.size W0)
  have HSH := hd hs
  simp only [Bool.and_eq_true, decide_eq_true_iff] at hs
  obtain ⟨⟨b1, bq⟩, bt⟩ := hs
  have HIp := hd (fun W (h : Below W0.heap.size W0 W) => hp.later (hb0.trans (h.mono hb0.size)))
  have HP := hd (show ∀ W, Below W0.heap.size W0 W → XA W (.slice A n c) p from fun W h => ⟨A, n, c, rfl, hnp, by omega, hcp, HIp.out W h⟩)
  have HNp := hd hnp
  have HIq := hd (fun W (h : Below W0.heap.size W0 W) => hq.later (hb0.trans (h.mono hb0.size)))
  have HQ := hd (show ∀ W, Below W0.heap.size W0 W → XA W (.slice Q lq cq) q from fun W h => ⟨Q, lq, cq, rfl, hnq, by omega, hcq, HIq.out W h⟩)
  have HNq := hd hnq
  have HIt := hd (fun W (h : Below W0.heap.size W0 W) => ht.later (hb0.trans (h.mono hb0.size)))
  have HT := hd (show ∀ W, Below W0.heap.size W0 W → XA W (.slice T lt ct) t from fun W h => ⟨T, lt, ct, rfl, hnt, by omega, hct, HIt.out W h⟩)
  have HNt := hd hnt
  clear hW hb0 e0 hp hnp hq hnq ht hnt
  have HLX := hd (show x.length ≤ 1000 by have h1 := moveL_len (K := K) (pos := pos) (q := q) (t := t) (p := p); rw [hx] at h1; have h2 := HNp.out; have h3 := HNt.out; simp only at h1; omega)
  have HLP := hd (show p.length ≤ 1000 by have h2 := HNp.out; omega)
  obtain ⟨nx, hnx⟩ : ∃ n, x.length = n := ⟨_, rfl⟩
  have HNX := hd hnx
  have hbx : nx ≤ 1000 := hnx ▸ HLX.out
  have HR := hd hx
  have HSX := hd (show samI x x = true from decide_eq_true rfl)
  have HSP := hd (show samI p p = true from decide_eq_true rfl)
  clear hx hnx
  go_enter Try.func3, Try.ntmps3
  go_upto_region 6 with (first
    | (refine wpList_load_op (HKR.out _ HBc.out) _ rfl rfl rfl ?_)
    | (go_at_call 9; rw [← HW.out]; refine Calls.mono (live8_any _) ?_; rintro e w9 ⟨rfl, b9⟩; have HBc := hd (step_b HBc.out b9); clear b9; obtain ⟨x0, x1, x2, x3⟩ := HK.out _ HBc.out)
    | (go_at_call 10; refine Calls.mono (short_1 hlq hlt hlp HSH.out) ?_; rintro e w9 ⟨rfl, b9⟩; have HBc := hd (step_b HBc.out b9); clear b9 x0 x1 x2 x3; obtain ⟨x0, x1, x2, x3⟩ := HK.out _ HBc.out)
    | (go_at_call 11; refine Calls.mono (rcopy_at (HP.out _ HBc.out)) ?_; rintro e w9 ⟨v9, rfl, ho, b9⟩; have HB9 := hd (step_b HBc.out b9); have HX9 := hd (XA.own ho HLP.out); have HW2 := hd (fun W (h : Below w9.heap.size w9 W) => HX9.out.later h); have HP := hd (fun W (h : Below w9.heap.size w9 W) => HP.out W (step_b HB9.out h)); have HQ := hd (fun W (h : Below w9.heap.size w9 W) => HQ.out W (step_b HB9.out h)); have HT := hd (fun W (h : Below w9.heap.size w9 W) => HT.out W (step_b HB9.out h)); have HK := hd (fun W (h : Below w9.heap.size w9 W) => HK.out W (step_b HB9.out h)); have HKR := hd (fun W (h : Below w9.heap.size w9 W) => HKR.out W (step_b HB9.out h)); have HBE := hd (HBE.out.trans (HB9.out.mono HBE.out.size)); have HBc := hd (Below.refl w9.heap.size w9); clear ho b9 HB9 HX9 x0 x1 x2 x3; obtain ⟨x0, x1, x2, x3⟩ := HK.out _ HBc.out))
  have HP0 := HP
  have HW0 := HW2
  have HBE0 := HBE
  have HBE1 := hd (HBE0.out.trans (HBc.out.mono HBE0.out.size))
  go_upto_region 7 with (first
    | (refine wpList_load_op (HKR.out _ HBc.out) _ rfl rfl rfl ?_)
    | (go_at_call 12; refine Calls.mono (move_at (HP.out _ HBc.out) (HQ.out _ HBc.out) (HT.out _ HBc.out) HR.out) ?_; rintro e w8 ⟨v8, rfl, ho, b9⟩; obtain ⟨A8, c8, rfl, _, _⟩ := ho.open_at nx HNX.out; have HO := hd (ho.weaken (b' := w9.heap.size) HBc.out.size); have HBS := hd (step_b HBc.out b9); have HB9 := hd (step_b HBc.out b9); have HX9 := hd (XA.own ho HLX.out); have HX := hd (fun W (h : Below w8.heap.size w8 W) => HX9.out.later h); have HP := hd (fun W (h : Below w8.heap.size w8 W) => HP.out W (step_b HB9.out h)); have HQ := hd (fun W (h : Below w8.heap.size w8 W) => HQ.out W (step_b HB9.out h)); have HT := hd (fun W (h : Below w8.heap.size w8 W) => HT.out W (step_b HB9.out h)); have HK := hd (fun W (h : Below w8.heap.size w8 W) => HK.out W (step_b HB9.out h)); have HKR := hd (fun W (h : Below w8.heap.size w8 W) => HKR.out W (step_b HB9.out h)); have HBE := hd (HBE.out.trans (HB9.out.mono HBE.out.size)); have HBc := hd (Below.refl w8.heap.size w8); clear ho b9 HB9 HX9 x0 x1 x2 x3; obtain ⟨x0, x1, x2, x3⟩ := HK.out _ HBc.out))
  go_upto_region 8 with (first
    | (refine wpList_load_op (HKR.out _ HBc.out) _ rfl rfl rfl ?_)
    | (go_at_call 13; refine Calls.mono (rmove_at (HP.out _ HBc.out) (HQ.out _ HBc.out) (HT.out _ HBc.out) HR.out) ?_; rintro e w7 ⟨v7, rfl, ho, b9⟩; have HY := hd (XA.own ho HLX.out); have HX2 := hd ((HX.out _ HBc.out).later b9); have HO := hd ((HO.out.below HBc.out).below b9); have HBS := hd (HBS.out.trans (step_b HBc.out b9 |>.mono HBS.out.size)); clear ho b9))
  go_wp2_with (go_at_call 14; refine Calls.mono (rsame_at HX2.out HY.out HSX.out) ?_; rintro e w6 ⟨rfl, b9⟩; have HO := hd (HO.out.below b9); have HBS := hd (step_b HBS.out b9); clear b9)
  go_loopw [43] (fun i wr => ∃ (j : Nat) (l : List Int), j ≤ nx ∧ i = .int .i64 j ∧ l.length = nx ∧ Hid (OwnI wr w9.heap.size (.slice A8 nx c8) l) ∧ Hid (Below w9.heap.size w9 wr)) (fun i _ => nx - (intOf i).toNat)
  case atStart => exact ⟨0, x, Nat.zero_le _, rfl, HNX.out, HO, HBS⟩
  case round =>
    obtain ⟨j, l, hj, rfl, hln, HOr, HBr⟩ := hrel
    by_cases hlt : j < nx
    · obtain ⟨g, c2, e, g1, g2, g3, g4, g5, g6, g7⟩ := HOr.out.form (by omega)
      rw [hln] at e
      injection e with ea _ ec
      subst ea ec
      have e3 := g5 j (by omega)
      have e4 := g6 j
      have H7 := hd (g7 j)
      have HLN := hd hln
      have HB2 := hd (fun v => HBr.out.setCell g3 (p := ⟨g, j, none⟩) v)
      obtain ⟨X, hX⟩ : ∃ X, X = iAt l j := ⟨_, rfl⟩
      rw [← hX] at e3
      clear g1 g2 g5 g6 g7 hX hln
      go_wp2
      go_roundw
      case rel => exact ⟨j + 1, _, by omega, by first | go_num | rfl, by first | exact (List.length_set ..).trans HLN.out | skip, hd (H7.out _), hd (HB2.out _)⟩
      case measure => first | (simp [intOf]; done) | (simp [intOf]; omega)
    · go_wp2_with (go_at_call 14; refine Calls.mono (rsame_at (HP0.out _ HBr.out) (HW0.out _ HBr.out) HSP.out) ?_; rintro e w6 ⟨rfl, b9⟩; have HBr := hd (step_b HBr.out b9); clear b9)
      go_ret
      exact ⟨rfl, HBE0.out.trans (HBr.out.mono HBE0.out.size)⟩
set_option maxRecDepth 100000 in
set_option maxHeartbeats 8000000 in
theorem xdoes_true (w : World) (A Q T : Option Addr) (p q t : List Int) (n lq lt c cq ct : Nat) (K pos : Int) (r4 r5 r6 r7 r8 r9 r10 r11 r12 r13 r14 r15 r16 r17 r18 r19 r20 : Value) (hnp : p.length = n) (hnq : q.length = lq) (hnt : t.length = lt) (hlp : n ≤ 9223372036854775807) (hlq : lq ≤ 9223372036854775807) (hlt : lt ≤ 9223372036854775807) (hcp : n ≤ c) (hcq : lq ≤ cq) (hct : lt ≤ ct) (hp : IL w w.heap.size A p) (hq : IL w w.heap.size Q q) (ht : IL w w.heap.size T t) (hs : (decide (n ≤ 60) && decide (lq ≤ 60) && decide (lt ≤ 60)) = true) (x : List Int) (hx : moveL K q t pos p = (x, true)) :
    Calls Try.prog 3 #[.slice A n c, .agg #[Value.int .i64 K, .slice Q lq cq, .slice T lt ct, .int .i64 pos, r4, r5, r6, r7, r8, r9, r10, r11, r12, r13, r14, r15, r16, r17, r18, r19, r20]] w (AllTrue w) := by
  obtain ⟨W0, hW⟩ : ∃ W0, W0 = w.alloc (.cells #[Value.int .i64 K, .slice Q lq cq, .slice T lt ct, .int .i64 pos, r4, r5, r6, r7, r8, r9, r10, r11, r12, r13, r14, r15, r16, r17, r18, r19, r20] 35) := ⟨_, rfl⟩
  have hb0 : Below w.heap.size w W0 := hW ▸ new_below w _
  have e0 : W0.heap[w.heap.size]? = some (.cells #[Value.int .i64 K, .slice Q lq cq, .slice T lt ct, .int .i64 pos, r4, r5, r6, r7, r8, r9, r10, r11, r12, r13, r14, r15, r16, r17, r18, r19, r20] 35 (0, 0)) := hW ▸ heap_alloc_new _ _
  have HK := hd (fun W (h : Below W0.heap.size W0 W) => op_cells (xkeep e0 h))
  have HKR := hd (fun W (h : Below W0.heap.size W0 W) => xkeep e0 h)
  have HW := hd hW
  have HBE := hd hb0
  have HBc := hd (Below.refl W0.heap.size W0)
  have HSH := hd hs
  simp only [Bool.and_eq_true, decide_eq_true_iff] at hs
  obtain ⟨⟨b1, bq⟩, bt⟩ := hs
  have HIp := hd (fun W (h : Below W0.heap.size W0 W) => hp.later (hb0.trans (h.mono hb0.size)))
  have HP := hd (show ∀ W, Below W0.heap.size W0 W → XA W (.slice A n c) p from fun W h => ⟨A, n, c, rfl, hnp, by omega, hcp, HIp.out W h⟩)
  have HNp := hd hnp
  have HIq := hd (fun W (h : Below W0.heap.size W0 W) => hq.later (hb0.trans (h.mono hb0.size)))
  have HQ := hd (show ∀ W, Below W0.heap.size W0 W → XA W (.slice Q lq cq) q from fun W h => ⟨Q, lq, cq, rfl, hnq, by omega, hcq, HIq.out W h⟩)
  have HNq := hd hnq
  have HIt := hd (fun W (h : Below W0.heap.size W0 W) => ht.later (hb0.trans (h.mono hb0.size)))
  have HT := hd (show ∀ W, Below W0.heap.size W0 W → XA W (.slice T lt ct) t from fun W h => ⟨T, lt, ct, rfl, hnt, by omega, hct, HIt.out W h⟩)
  have HNt := hd hnt
  clear hW hb0 e0 hp hnp hq hnq ht hnt
  have HLX := hd (show x.length ≤ 1000 by have h1 := moveL_len (K := K) (pos := pos) (q := q) (t := t) (p := p); rw [hx] at h1; have h2 := HNp.out; have h3 := HNt.out; simp only at h1; omega)
  have HLP := hd (show p.length ≤ 1000 by have h2 := HNp.out; omega)
  obtain ⟨nx, hnx⟩ : ∃ n, x.length = n := ⟨_, rfl⟩
  have HNX := hd hnx
  have hbx : nx ≤ 1000 := hnx ▸ HLX.out
  have HR := hd hx
  have HSX := hd (show samI x x = true from decide_eq_true rfl)
  have HSP := hd (show samI p p = true from decide_eq_true rfl)
  clear hx hnx
  go_enter Try.func3, Try.ntmps3
  go_upto_region 6 with (first
    | (refine wpList_load_op (HKR.out _ HBc.out) _ rfl rfl rfl ?_)
    | (go_at_call 9; rw [← HW.out]; refine Calls.mono (live8_any _) ?_; rintro e w9 ⟨rfl, b9⟩; have HBc := hd (step_b HBc.out b9); clear b9; obtain ⟨x0, x1, x2, x3⟩ := HK.out _ HBc.out)
    | (go_at_call 10; refine Calls.mono (short_1 hlq hlt hlp HSH.out) ?_; rintro e w9 ⟨rfl, b9⟩; have HBc := hd (step_b HBc.out b9); clear b9 x0 x1 x2 x3; obtain ⟨x0, x1, x2, x3⟩ := HK.out _ HBc.out)
    | (go_at_call 11; refine Calls.mono (rcopy_at (HP.out _ HBc.out)) ?_; rintro e w9 ⟨v9, rfl, ho, b9⟩; have HB9 := hd (step_b HBc.out b9); have HX9 := hd (XA.own ho HLP.out); have HW2 := hd (fun W (h : Below w9.heap.size w9 W) => HX9.out.later h); have HP := hd (fun W (h : Below w9.heap.size w9 W) => HP.out W (step_b HB9.out h)); have HQ := hd (fun W (h : Below w9.heap.size w9 W) => HQ.out W (step_b HB9.out h)); have HT := hd (fun W (h : Below w9.heap.size w9 W) => HT.out W (step_b HB9.out h)); have HK := hd (fun W (h : Below w9.heap.size w9 W) => HK.out W (step_b HB9.out h)); have HKR := hd (fun W (h : Below w9.heap.size w9 W) => HKR.out W (step_b HB9.out h)); have HBE := hd (HBE.out.trans (HB9.out.mono HBE.out.size)); have HBc := hd (Below.refl w9.heap.size w9); clear ho b9 HB9 HX9 x0 x1 x2 x3; obtain ⟨x0, x1, x2, x3⟩ := HK.out _ HBc.out))
  have HP0 := HP
  have HW0 := HW2
  have HBE0 := HBE
  have HBE1 := hd (HBE0.out.trans (HBc.out.mono HBE0.out.size))
  go_upto_region 7 with (first
    | (refine wpList_load_op (HKR.out _ HBc.out) _ rfl rfl rfl ?_)
    | (go_at_call 12; refine Calls.mono (move_at (HP.out _ HBc.out) (HQ.out _ HBc.out) (HT.out _ HBc.out) HR.out) ?_; rintro e w8 ⟨v8, rfl, ho, b9⟩; obtain ⟨A8, c8, rfl, _, _⟩ := ho.open_at nx HNX.out; have HO := hd (ho.weaken (b' := w9.heap.size) HBc.out.size); have HBS := hd (step_b HBc.out b9); have HB9 := hd (step_b HBc.out b9); have HX9 := hd (XA.own ho HLX.out); have HX := hd (fun W (h : Below w8.heap.size w8 W) => HX9.out.later h); have HP := hd (fun W (h : Below w8.heap.size w8 W) => HP.out W (step_b HB9.out h)); have HQ := hd (fun W (h : Below w8.heap.size w8 W) => HQ.out W (step_b HB9.out h)); have HT := hd (fun W (h : Below w8.heap.size w8 W) => HT.out W (step_b HB9.out h)); have HK := hd (fun W (h : Below w8.heap.size w8 W) => HK.out W (step_b HB9.out h)); have HKR := hd (fun W (h : Below w8.heap.size w8 W) => HKR.out W (step_b HB9.out h)); have HBE := hd (HBE.out.trans (HB9.out.mono HBE.out.size)); have HBc := hd (Below.refl w8.heap.size w8); clear ho b9 HB9 HX9 x0 x1 x2 x3; obtain ⟨x0, x1, x2, x3⟩ := HK.out _ HBc.out))
  go_upto_region 8 with (first
    | (refine wpList_load_op (HKR.out _ HBc.out) _ rfl rfl rfl ?_)
    | (go_at_call 13; refine Calls.mono (rmove_at (HP.out _ HBc.out) (HQ.out _ HBc.out) (HT.out _ HBc.out) HR.out) ?_; rintro e w7 ⟨v7, rfl, ho, b9⟩; have HY := hd (XA.own ho HLX.out); have HX2 := hd ((HX.out _ HBc.out).later b9); have HO := hd ((HO.out.below HBc.out).below b9); have HBS := hd (HBS.out.trans (step_b HBc.out b9 |>.mono HBS.out.size)); clear ho b9))
  go_wp2_with (go_at_call 14; refine Calls.mono (rsame_at HX2.out HY.out HSX.out) ?_; rintro e w6 ⟨rfl, b9⟩; have HO := hd (HO.out.below b9); have HBS := hd (step_b HBS.out b9); clear b9)
  go_loopw [43] (fun i wr => ∃ (j : Nat) (l : List Int), j ≤ nx ∧ i = .int .i64 j ∧ l.length = nx ∧ Hid (OwnI wr w9.heap.size (.slice A8 nx c8) l) ∧ Hid (Below w9.heap.size w9 wr)) (fun i _ => nx - (intOf i).toNat)
  case atStart => exact ⟨0, x, Nat.zero_le _, rfl, HNX.out, HO, HBS⟩
  case round =>
    obtain ⟨j, l, hj, rfl, hln, HOr, HBr⟩ := hrel
    by_cases hlt : j < nx
    · obtain ⟨g, c2, e, g1, g2, g3, g4, g5, g6, g7⟩ := HOr.out.form (by omega)
      rw [hln] at e
      injection e with ea _ ec
      subst ea ec
      have e3 := g5 j (by omega)
      have e4 := g6 j
      have H7 := hd (g7 j)
      have HLN := hd hln
      have HB2 := hd (fun v => HBr.out.setCell g3 (p := ⟨g, j, none⟩) v)
      obtain ⟨X, hX⟩ : ∃ X, X = iAt l j := ⟨_, rfl⟩
      rw [← hX] at e3
      clear g1 g2 g5 g6 g7 hX hln
      go_wp2
      go_roundw
      case rel => exact ⟨j + 1, _, by omega, by first | go_num | rfl, by first | exact (List.length_set ..).trans HLN.out | skip, hd (H7.out _), hd (HB2.out _)⟩
      case measure => first | (simp [intOf]; done) | (simp [intOf]; omega)
    · go_wp2_with (go_at_call 14; refine Calls.mono (rsame_at (HP0.out _ HBr.out) (HW0.out _ HBr.out) HSP.out) ?_; rintro e w6 ⟨rfl, b9⟩; have HBr := hd (step_b HBr.out b9); clear b9)
      go_ret
      exact ⟨rfl, HBE0.out.trans (HBr.out.mono HBE0.out.size)⟩
set_option maxRecDepth 4000 in
theorem xdoes_law (w : World) (A Q T : Option Addr) (p q t : List Int) (n lq lt c cq ct : Nat) (K pos : Int) (r4 r5 r6 r7 r8 r9 r10 r11 r12 r13 r14 r15 r16 r17 r18 r19 r20 : Value) (hnp : p.length = n) (hnq : q.length = lq) (hnt : t.length = lt) (hlp : n ≤ 9223372036854775807) (hlq : lq ≤ 9223372036854775807) (hlt : lt ≤ 9223372036854775807) (hcp : n ≤ c) (hcq : lq ≤ cq) (hct : lt ≤ ct) (hp : IL w w.heap.size A p) (hq : IL w w.heap.size Q q) (ht : IL w w.heap.size T t) :
    Calls Try.prog 3 #[.slice A n c, .agg #[Value.int .i64 K, .slice Q lq cq, .slice T lt ct, .int .i64 pos, r4, r5, r6, r7, r8, r9, r10, r11, r12, r13, r14, r15, r16, r17, r18, r19, r20]] w (AllTrue w) := by
  cases hs : (decide (n ≤ 60) && decide (lq ≤ 60) && decide (lt ≤ 60))
  · exact xdoes_long w A Q T n lq lt c cq ct K pos r4 r5 r6 r7 r8 r9 r10 r11 r12 r13 r14 r15 r16 r17 r18 r19 r20 hlp hlq hlt hs
  obtain ⟨⟨x, e⟩, hx⟩ : ∃ r, moveL K q t pos p = r := ⟨_, rfl⟩
  cases e
  · exact xdoes_false w A Q T p q t n lq lt c cq ct K pos r4 r5 r6 r7 r8 r9 r10 r11 r12 r13 r14 r15 r16 r17 r18 r19 r20 hnp hnq hnt hlp hlq hlt hcp hcq hct hp hq ht hs x hx
  · exact xdoes_true w A Q T p q t n lq lt c cq ct K pos r4 r5 r6 r7 r8 r9 r10 r11 r12 r13 r14 r15 r16 r17 r18 r19 r20 hnp hnq hnt hlp hlq hlt hcp hcq hct hp hq ht hs x hx

end Go.Proofs.Ytindjfiomilocaa
