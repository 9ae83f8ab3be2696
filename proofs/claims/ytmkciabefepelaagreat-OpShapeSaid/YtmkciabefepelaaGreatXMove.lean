/- Move answers what the plain functions say: operations that move no node elsewhere. -/
import Derived.Test.YtmkciabefepelaaGreatJXCalls
set_option maxRecDepth 4000
namespace Go.Proofs.YtmkciabefepelaaGreat
open Go.RowKit
theorem zEj {K pos : Int} {q t p : List Int} (h : (jI p && jI q && jI t && zE9 pos) = false) : jF K q t pos p = noR := by unfold jF; rw [h]; rfl
theorem zJ9 {K pos : Int} {q t p : List Int} (h : (jI p && jI q && jI t && zE9 pos) = true) (hK : K ≠ 5) : jF K q t pos p = jH K q pos p := by unfold jF; rw [h, if_pos rfl, if_neg (fun h => hK h.1)]
theorem kBn {K pos : Int} {q p : List Int} (h : q.length = 0) : jH K q pos p = (p, true) := by unfold jH; rw [if_pos h]
theorem zDw {q p : List Int} {s : Int} (h : zX q p = s) (hs : s ≠ 0) : q.length <= p.length := by
 subst h
 rcases zAt q p with ⟨h0, h1, _, _⟩ | ⟨h0, _, h2, _⟩ | ⟨h0, _, _, h3⟩ | ⟨h0, _⟩
 ·rw [zEe] at h1; omega
 ·unfold zEd at h2; rw [of_decide_eq_true h2]; exact Nat.le_refl _
 ·rw [zE0] at h3; omega
 ·exact absurd h0 hs
theorem zNg {q p : List Int} (h : zX q p = 3) : q.length < p.length := by
 rcases zAt q p with ⟨h0, _⟩ | ⟨h0, _⟩ | ⟨_, _, _, h3⟩ | ⟨h0, _⟩
 ·omega
 ·omega
 ·rw [zE0] at h3; omega
 ·omega
theorem kNo {P : Prop} (h : P := by
 go_wp2_with (first
  | (go_at_call 70; refine Calls.mono (zCb (k := k) rfl (by first | exact HP.out _ HBc.out | exact HP.out _ (HBc.out.alloc HBc.out.size _)) (by first | exact zCv _ _ | exact zBf _ _ _ | exact zDy _ _ _ _) (by first | exact fun h => absurd rfl h | exact fun _ => HKN.out | exact fun _ => HKN2.out) (by exact HML.out) (by first | exact zBc | exact zBd (by omega) | exact zBe (by omega) (by omega))) ?_; rintro e w9 ⟨v9, rfl, ho, b9⟩; have HO := hd (ho.weaken (b' := w.heap.size) (by first | exact Nat.le_trans HB0.out.size HBc.out.size | exact Nat.le_trans HB0.out.size (HBc.out.alloc HBc.out.size _).size)); have HB9 := hd (show Below W0.heap.size W0 w9 from by first | exact zI HBc.out b9 | exact zI (HBc.out.alloc HBc.out.size _) b9); clear b9 ho)
  | (go_at_call 70; refine Calls.mono (zCb (k := 0) rfl (by first | exact HP.out _ HBc.out | exact HP.out _ (HBc.out.alloc HBc.out.size _)) (by first | exact zCv _ _ | exact zBf _ _ _ | exact zDy _ _ _ _) (by first | exact fun h => absurd rfl h | exact fun _ => HKN.out | exact fun _ => HKN2.out) (by exact HML.out) (by first | exact zBc | exact zBd (by omega) | exact zBe (by omega) (by omega))) ?_; rintro e w9 ⟨v9, rfl, ho, b9⟩; have HO := hd (ho.weaken (b' := w.heap.size) (by first | exact Nat.le_trans HB0.out.size HBc.out.size | exact Nat.le_trans HB0.out.size (HBc.out.alloc HBc.out.size _).size)); have HB9 := hd (show Below W0.heap.size W0 w9 from by first | exact zI HBc.out b9 | exact zI (HBc.out.alloc HBc.out.size _) b9); clear b9 ho)
  | (go_at_call 69; (try rw [<- HW.out]); refine Calls.mono (zB3 (by first | exact HP.out _ HBc.out | exact HQ.out _ HBc.out | exact HT.out _ HBc.out | exact zBf _ _ _) (by first | exact H1.out | exact H2.out | exact H3.out | exact H4.out)) ?_; rintro e w9 ⟨rfl, b9⟩; have HBc := hd (show Below W0.heap.size W0 w9 from by first | exact zI HBc.out b9 | exact zI (HBc.out.alloc HBc.out.size _) b9); clear b9 x0 x1 x2 x3; obtain ⟨x0, x1, x2, x3⟩ := HK.out _ HBc.out)
  | fail)
 go_ret2
 first
  | exact kT HF.out (zBt.nil _ _) (HB0.out.trans (HBc.out.mono HB0.out.size))
  | exact kT HF.out HO.out (HB0.out.trans (HB9.out.mono HB0.out.size))
  | fail) : P := h
theorem kOq {P : Prop} (h : P := by
 have HKN := hd (show k + 1 <= p.length by have h := zDw HS.out (by decide); have h2 := HLQ.out; omega)
 have HF := hd (show jF _ q t pos p = (plusL p k [1], true) by rw [HL.out]; simp [jH, HS.out, HLQ.out])
 exact kNo) : P := h
theorem kQf {P : Prop} (h : P := by
 go_upto_region 12 with fail
 go_quiet (fail)
 generalize hw5 : World.drewN _ _ = w5
 have HBc := hd (show Below W0.heap.size W0 w5 from hw5 ▸ zZ HBc.out _)
 clear hw5 x0 x1 x2 x3
 obtain ⟨x0, x1, x2, x3⟩ := HK.out _ HBc.out
 have HF := hd (show jF _ q t pos p = (p, true) by rw [HL.out]; simp [jH, HS.out, HLQ.out])
 exact kNo) : P := h
theorem kQg {P : Prop} (h : P := by
 have HKN := hd (show k + 1 <= p.length by have h := zDw HS.out (by decide); have h2 := HLQ.out; omega)
 have HF := hd (show jF _ q t pos p = (plusL p k [-1], true) by rw [HL.out]; simp [jH, HS.out, HLQ.out, lastL, HZ.out])
 exact kNo) : P := h
set_option maxRecDepth 100000 in
set_option maxHeartbeats 8000000 in
theorem kIz (A Q T : Option Addr) (p q t : List Int) (n lq lt c cq ct : Nat) (K pos : Int) (r4 r5 r6 r7 r8 r9 r10 r11 r12 r13 r14 r15 r16 r17 r18 r19 r20 : Value) (w : World) (hn : p.length = n) (hlq : q.length = lq) (hlt : t.length = lt) (hl : n <= 1000) (hl2 : lq <= 1000) (hl3 : lt <= 1000) (hc : n <= c) (hc2 : lq <= cq) (hc3 : lt <= ct) (hK5 : K ≠ 5) (hp : IL w w.heap.size A p) (hq : IL w w.heap.size Q q) (ht : IL w w.heap.size T t) :
  Calls Tryz.prog 26 #[.slice A n c, .agg #[.int .i64 K, .slice Q lq cq, .slice T lt ct, .int .i64 pos, r4, r5, r6, r7, r8, r9, r10, r11, r12, r13, r14, r15, r16, r17, r18, r19, r20]] w (kBb w (jF K q t pos p)) := by
 obtain ⟨W0, hW⟩ : ∃ W0, W0 = w.alloc (.cells #[Value.int .i64 K, .slice Q lq cq, .slice T lt ct, .int .i64 pos, r4, r5, r6, r7, r8, r9, r10, r11, r12, r13, r14, r15, r16, r17, r18, r19, r20] 35) := ⟨_, rfl⟩
 have hb0 : Below w.heap.size w W0 := hW ▸ zQ w _
 have e0 : W0.heap[w.heap.size]? = some (.cells #[Value.int .i64 K, .slice Q lq cq, .slice T lt ct, .int .i64 pos, r4, r5, r6, r7, r8, r9, r10, r11, r12, r13, r14, r15, r16, r17, r18, r19, r20] 35 (0, 0)) := hW ▸ heap_alloc_new _ _
 have HK := hd (show ∀ W, Below W0.heap.size W0 W -> (W.cell? ⟨w.heap.size, 0, none⟩ = some (.int .i64 K) /\ W.cell? ⟨w.heap.size, 1, none⟩ = some (.slice Q lq cq) /\ W.cell? ⟨w.heap.size, 2, none⟩ = some (.slice T lt ct) /\ W.cell? ⟨w.heap.size, 3, none⟩ = some (.int .i64 pos)) from fun W h => zD9 (zI1 e0 h))
 have HIP := hd (fun W (h : Below W0.heap.size W0 W) => hp.later (hb0.trans (h.mono hb0.size)))
 have HIQ := hd (fun W (h : Below W0.heap.size W0 W) => hq.later (hb0.trans (h.mono hb0.size)))
 have HIT := hd (fun W (h : Below W0.heap.size W0 W) => ht.later (hb0.trans (h.mono hb0.size)))
 have HP := hd (show ∀ W, Below W0.heap.size W0 W -> XA W (.slice A n c) p from fun W h => ⟨A, n, c, rfl, hn, hl, hc, HIP.out W h⟩)
 have HQ := hd (show ∀ W, Below W0.heap.size W0 W -> XA W (.slice Q lq cq) q from fun W h => ⟨Q, lq, cq, rfl, hlq, hl2, hc2, HIQ.out W h⟩)
 have HT := hd (show ∀ W, Below W0.heap.size W0 W -> XA W (.slice T lt ct) t from fun W h => ⟨T, lt, ct, rfl, hlt, hl3, hc3, HIT.out W h⟩)
 have HBc := hd (Below.refl W0.heap.size W0)
 have HW := hd hW
 have HB0 := hd hb0
 have HN := hd hn
 have HLQ := hd hlq
 have HLT := hd hlt
 have H4 := hd (zN2 pos)
 obtain ⟨x0, x1, x2, x3⟩ := HK.out W0 HBc.out
 clear hp hq ht hW hb0 e0 hn hlq hlt
 cases h1 : jI p
 ·have HF := hd (zEj (K := K) (q := q) (t := t) (pos := pos) (p := p) (by rw [h1]; rfl))
  have H1 := hd h1
  clear h1
  go_enter Tryz.func26, Tryz.ntmps26
  exact kNo
 have H1 := hd h1
 cases h2 : jI q
 ·have H2 := hd h2
  have HF := hd (zEj (K := K) (q := q) (t := t) (pos := pos) (p := p) (by rw [h2]; simp))
  clear h1 h2
  go_enter Tryz.func26, Tryz.ntmps26
  exact kNo
 have H2 := hd h2
 cases h3 : jI t
 ·have H3 := hd h3
  have HF := hd (zEj (K := K) (q := q) (t := t) (pos := pos) (p := p) (by rw [h3]; simp))
  clear h1 h2 h3
  go_enter Tryz.func26, Tryz.ntmps26
  exact kNo
 have H3 := hd h3
 cases h4 : zE9 pos
 ·have HF := hd (zEj (K := K) (q := q) (t := t) (pos := pos) (p := p) (by rw [h4]; simp))
  rw [h4] at H4
  clear h1 h2 h3 h4
  go_enter Tryz.func26, Tryz.ntmps26
  exact kNo
 have HL := hd (zJ9 (K := K) (q := q) (t := t) (pos := pos) (p := p) (by rw [h1, h2, h3, h4]; rfl) hK5)
 rw [h4] at H4
 have HML := hd (zOk h1)
 have HBQ := hd ((zDf q).1 h2)
 obtain ⟨g0, g1⟩ := (zKd pos).1 h4
 clear h1 h2 h3 h4
 rcases lq with _ | k
 ·have HF := hd (show jF K q t pos p = (p, true) by rw [HL.out, kBn HLQ.out])
  go_enter Tryz.func26, Tryz.ntmps26
  go_wp2_with (first
   | (go_at_call 69; (try rw [<- HW.out]); refine Calls.mono (zB3 (by first | exact HP.out _ HBc.out | exact HQ.out _ HBc.out | exact HT.out _ HBc.out | exact zBf _ _ _) (by first | exact H1.out | exact H2.out | exact H3.out | exact H4.out)) ?_; rintro e w9 ⟨rfl, b9⟩; have HBc := hd (show Below W0.heap.size W0 w9 from by first | exact zI HBc.out b9 | exact zI (HBc.out.alloc HBc.out.size _) b9); clear b9 x0 x1 x2 x3; obtain ⟨x0, x1, x2, x3⟩ := HK.out _ HBc.out))
  exact kNo
 obtain ⟨s, hs⟩ : ∃ s, zX q p = s := ⟨_, rfl⟩
 have HS := hd hs
 clear hs
 go_enter Tryz.func26, Tryz.ntmps26
 go_upto_region 5 with (first
   | (go_at_call 69; (try rw [<- HW.out]); refine Calls.mono (zB3 (by first | exact HP.out _ HBc.out | exact HQ.out _ HBc.out | exact HT.out _ HBc.out | exact zBf _ _ _) (by first | exact H1.out | exact H2.out | exact H3.out | exact H4.out)) ?_; rintro e w9 ⟨rfl, b9⟩; have HBc := hd (show Below W0.heap.size W0 w9 from by first | exact zI HBc.out b9 | exact zI (HBc.out.alloc HBc.out.size _) b9); clear b9 x0 x1 x2 x3; obtain ⟨x0, x1, x2, x3⟩ := HK.out _ HBc.out))
 have HS5 := hd (fun j => zQo (n := j) (zVe (HQ.out _ (zZ HBc.out j)) (HP.out _ (zZ HBc.out j)) HS.out))
 go_quiet ((go_at_call 71; exact HS5.out _))
 generalize hw5 : World.drewN _ _ = w5
 have HBc := hd (show Below W0.heap.size W0 w5 from hw5 ▸ zZ HBc.out _)
 clear hw5 x0 x1 x2 x3
 obtain ⟨x0, x1, x2, x3⟩ := HK.out _ HBc.out
 clear HS5
 have hs4 : s = 0 ∨ s = 1 ∨ s = 2 ∨ s = 3 := by
  have := HS.out
  rcases zAt q p with ⟨h, _⟩ | ⟨h, _⟩ | ⟨h, _⟩ | ⟨h, _⟩ <;> omega
 by_cases hK4 : K = 4
 ·subst hK4
  rcases hs4 with rfl | rfl | rfl | rfl
  ·exact kQf
  ·go_upto_region 12 with fail
   go_quiet (fail)
   generalize hw5 : World.drewN _ _ = w5
   have HBc := hd (show Below W0.heap.size W0 w5 from hw5 ▸ zZ HBc.out _)
   clear hw5 x0 x1 x2 x3
   obtain ⟨x0, x1, x2, x3⟩ := HK.out _ HBc.out
   exact kOq
  ·exact kQf
  ·have HKN2 := hd (show k + 2 <= p.length by have h := zNg HS.out; have h2 := HLQ.out; omega)
   obtain ⟨b1, o1, rfl, hb1, e1⟩ := (HIP.out w5 HBc.out).at_ (show k + 1 < p.length from HKN2.out)
   have hkn : k + 1 < n := by have h := HKN2.out; have h2 := HN.out; omega
   by_cases hpp : pos <= iAt p (k + 1)
   ·go_upto_region 12 with fail
    go_quiet (fail)
    generalize hw5 : World.drewN _ _ = w5
    have HBc := hd (show Below W0.heap.size W0 w5 from hw5 ▸ zZ HBc.out _)
    clear hw5 x0 x1 x2 x3
    obtain ⟨x0, x1, x2, x3⟩ := HK.out _ HBc.out
    have HF := hd (show jF _ q t pos p = (plusL p k [1, -pos], true) by rw [HL.out]; simp [jH, HS.out, HLQ.out, hpp])
    exact kNo
   ·have hpp' : decide (pos <= iAt p (k + 1)) = false := decide_eq_false hpp
    have HPP := hd hpp
    clear hpp
    go_upto_region 12 with fail
    go_quiet (fail)
    generalize hw5 : World.drewN _ _ = w5
    have HBc := hd (show Below W0.heap.size W0 w5 from hw5 ▸ zZ HBc.out _)
    clear hw5 x0 x1 x2 x3
    obtain ⟨x0, x1, x2, x3⟩ := HK.out _ HBc.out
    have HF := hd (show jF _ q t pos p = (p, true) by rw [HL.out]; simp [jH, HS.out, HLQ.out, HPP.out])
    exact kNo
 by_cases hK1 : K = 1
 ·subst hK1
  rcases hs4 with rfl | rfl | rfl | rfl
  ·have HF := hd (show jF _ q t pos p = (p, true) by rw [HL.out]; simp [jH, HS.out, HLQ.out])
   exact kNo
  ·exact kOq
  ·exact kOq
  ·exact kOq
 by_cases hK3 : K = 3
 ·subst hK3
  obtain ⟨b1, o1, rfl, hb1, e1⟩ := (HIQ.out w5 HBc.out).at_ (show k < q.length by have := HLQ.out; omega)
  by_cases hz : iAt q k = 0
  ·have hz' : (iAt q k == 0) = true := by simp [hz]
   have HF := hd (show jF 3 q t pos p = noR by rw [HL.out]; simp [jH, lastL, HLQ.out, hz])
   clear hz hs4
   go_wp2
   go_ret2
   exact kT HF.out (zBt.nil _ _) (HB0.out.trans (HBc.out.mono HB0.out.size))
  have hz' : (iAt q k == 0) = false := by simp [hz]
  have HZ := hd hz
  clear hz
  rcases hs4 with rfl | rfl | rfl | rfl
  ·have HF := hd (show jF _ q t pos p = (p, true) by rw [HL.out]; simp [jH, HS.out, HLQ.out, lastL, HZ.out])
   exact kNo
  ·exact kQg
  ·exact kQg
  ·have HKN2 := hd (show k + 2 <= p.length by have h := zNg HS.out; have h2 := HLQ.out; omega)
   have HF := hd (show jF _ q t pos p = (plusL p k [-1, pos], true) by rw [HL.out]; simp [jH, HS.out, HLQ.out, lastL, HZ.out])
   exact kNo
 by_cases hK2 : K = 2
 ·subst hK2
  rcases hs4 with rfl | rfl | rfl | rfl
  ·have HF := hd (show jF _ q t pos p = (p, true) by rw [HL.out]; simp [jH, HS.out, HLQ.out])
   exact kNo
  ·have HKN := hd (show k + 1 <= p.length by have h := zDw HS.out (by decide); have h2 := HLQ.out; omega)
   have HF := hd (show jF _ q t pos p = (plusL p k [-1], true) by rw [HL.out]; simp [jH, HS.out, HLQ.out])
   exact kNo
  ·have HF := hd (show jF 2 q t pos p = noR by rw [HL.out]; simp [jH, HS.out, HLQ.out])
   go_wp2
   go_ret2
   exact kT HF.out (zBt.nil _ _) (HB0.out.trans (HBc.out.mono HB0.out.size))
  ·have HF := hd (show jF 2 q t pos p = noR by rw [HL.out]; simp [jH, HS.out, HLQ.out])
   go_wp2
   go_ret2
   exact kT HF.out (zBt.nil _ _) (HB0.out.trans (HBc.out.mono HB0.out.size))
 have k1 : (K == 1) = false := by simp [hK1]
 have k2 : (K == 2) = false := by simp [hK2]
 have k3 : (K == 3) = false := by simp [hK3]
 have k4 : (K == 4) = false := by simp [hK4]
 have k5 : (K == 5) = false := by simp [hK5]
 have HF := hd (show jF K q t pos p = (p, true) by rw [HL.out]; simp [jH, hK1, hK2, hK3, hK4])
 clear hs4 hK1 hK2 hK3 hK4 hK5
 go_wp2_with (first
       | (go_at_call 70; refine Calls.mono (zCb (k := k) rfl (by first | exact HP.out _ HBc.out | exact HP.out _ (HBc.out.alloc HBc.out.size _)) (by first | exact zCv _ _ | exact zBf _ _ _ | exact zDy _ _ _ _) (by first | exact fun h => absurd rfl h | exact fun _ => HKN.out | exact fun _ => HKN2.out) (by exact HML.out) (by first | exact zBc | exact zBd (by omega) | exact zBe (by omega) (by omega))) ?_; rintro e w9 ⟨v9, rfl, ho, b9⟩; have HO := hd (ho.weaken (b' := w.heap.size) (by first | exact Nat.le_trans HB0.out.size HBc.out.size | exact Nat.le_trans HB0.out.size (HBc.out.alloc HBc.out.size _).size)); have HB9 := hd (show Below W0.heap.size W0 w9 from by first | exact zI HBc.out b9 | exact zI (HBc.out.alloc HBc.out.size _) b9); clear b9 ho))
 go_ret2
 exact kT HF.out HO.out (HB0.out.trans (HB9.out.mono HB0.out.size))
end Go.Proofs.YtmkciabefepelaaGreat
