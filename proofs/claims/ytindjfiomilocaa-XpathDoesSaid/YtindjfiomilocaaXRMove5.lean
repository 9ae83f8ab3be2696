/- The document's Move answers what the plain functions say: of a MoveNode, and of any operation. -/
import Derived.Test.YtindjfiomilocaaXRMove
namespace Go.Proofs.Ytindjfiomilocaa
open Go.RowKit

set_option maxRecDepth 100000 in
set_option maxHeartbeats 8000000 in
theorem rmv5_any (A Q T : Option Addr) (p q t : List Int) (n lq lt c cq ct : Nat) (pos : Int) (r4 r5 r6 r7 r8 r9 r10 r11 r12 r13 r14 r15 r16 r17 r18 r19 r20 : Value) (w : World) (hn : p.length = n) (hlq : q.length = lq) (hlt : t.length = lt) (hl : n ≤ 1000) (hl2 : lq ≤ 1000) (hl3 : lt ≤ 1000) (hc : n ≤ c) (hc2 : lq ≤ cq) (hc3 : lt ≤ ct) (hp : IL w w.heap.size A p) (hq : IL w w.heap.size Q q) (ht : IL w w.heap.size T t) :
    Calls Try.prog 13 #[.slice A n c, .agg #[.int .i64 5, .slice Q lq cq, .slice T lt ct, .int .i64 pos, r4, r5, r6, r7, r8, r9, r10, r11, r12, r13, r14, r15, r16, r17, r18, r19, r20]] w (NewPB w (moveL 5 q t pos p)) := by
  obtain ⟨W0, hW⟩ : ∃ W0, W0 = w.alloc (.cells #[Value.int .i64 5, .slice Q lq cq, .slice T lt ct, .int .i64 pos, r4, r5, r6, r7, r8, r9, r10, r11, r12, r13, r14, r15, r16, r17, r18, r19, r20] 35) := ⟨_, rfl⟩
  have hb0 : Below w.heap.size w W0 := hW ▸ new_below w _
  have e0 : W0.heap[w.heap.size]? = some (.cells #[Value.int .i64 5, .slice Q lq cq, .slice T lt ct, .int .i64 pos, r4, r5, r6, r7, r8, r9, r10, r11, r12, r13, r14, r15, r16, r17, r18, r19, r20] 35 (0, 0)) := hW ▸ heap_alloc_new _ _
  have HK := hd (show ∀ W, Below W0.heap.size W0 W → (W.cell? ⟨w.heap.size, 0, none⟩ = some (.int .i64 5) ∧ W.cell? ⟨w.heap.size, 1, none⟩ = some (.slice Q lq cq) ∧ W.cell? ⟨w.heap.size, 2, none⟩ = some (.slice T lt ct) ∧ W.cell? ⟨w.heap.size, 3, none⟩ = some (.int .i64 pos)) from fun W h => op_cells (xkeep e0 h))
  have HIP := hd (fun W (h : Below W0.heap.size W0 W) => hp.later (hb0.trans (h.mono hb0.size)))
  have HIQ := hd (fun W (h : Below W0.heap.size W0 W) => hq.later (hb0.trans (h.mono hb0.size)))
  have HIT := hd (fun W (h : Below W0.heap.size W0 W) => ht.later (hb0.trans (h.mono hb0.size)))
  have HP := hd (show ∀ W, Below W0.heap.size W0 W → XA W (.slice A n c) p from fun W h => ⟨A, n, c, rfl, hn, hl, hc, HIP.out W h⟩)
  have HQ := hd (show ∀ W, Below W0.heap.size W0 W → XA W (.slice Q lq cq) q from fun W h => ⟨Q, lq, cq, rfl, hlq, hl2, hc2, HIQ.out W h⟩)
  have HT := hd (show ∀ W, Below W0.heap.size W0 W → XA W (.slice T lt ct) t from fun W h => ⟨T, lt, ct, rfl, hlt, hl3, hc3, HIT.out W h⟩)
  have HBc := hd (Below.refl W0.heap.size W0)
  have HW := hd hW
  have HB0 := hd hb0
  have HN := hd hn
  have HLQ := hd hlq
  have HLT := hd hlt
  obtain ⟨x0, x1, x2, x3⟩ := HK.out W0 HBc.out
  clear hp hq ht hW hb0 e0 hn hlq hlt
  cases h1 : smallI p
  · have HF := hd (moveL_out (K := 5) (q := q) (t := t) (pos := pos) (p := p) (by rw [h1]; rfl))
    have H1 := hd h1
    clear h1
    go_enter Try.func13, Try.ntmps13
    go_wp2_with (first
          | (go_at_call 15; (try rw [← HW.out]); refine Calls.mono (rsmall_at (by first | exact HP.out _ HBc.out | exact HQ.out _ HBc.out | exact HT.out _ HBc.out) (by first | exact H1.out | exact H2.out | exact H3.out)) ?_; rintro e w9 ⟨rfl, b9⟩; have HBc := hd (step_b HBc.out b9); clear b9 x0 x1 x2 x3; obtain ⟨x0, x1, x2, x3⟩ := HK.out _ HBc.out)
          | (go_at_call 14; refine Calls.mono (rsame_at (HQ.out _ HBc.out) (HP.out _ HBc.out) HSS.out) ?_; rintro e w9 ⟨rfl, b9⟩; have HBc := hd (step_b HBc.out b9); clear b9 x0 x1 x2 x3; obtain ⟨x0, x1, x2, x3⟩ := HK.out _ HBc.out)
          | (go_at_call 25; refine Calls.mono (rabove_at (HQ.out _ HBc.out) (HP.out _ HBc.out) HSA.out) ?_; rintro e w9 ⟨rfl, b9⟩; have HBc := hd (step_b HBc.out b9); clear b9 x0 x1 x2 x3; obtain ⟨x0, x1, x2, x3⟩ := HK.out _ HBc.out)
          | (go_at_call 26; refine Calls.mono (rleft_at (HQ.out _ HBc.out) (HP.out _ HBc.out) HSL.out) ?_; rintro e w9 ⟨rfl, b9⟩; have HBc := hd (step_b HBc.out b9); clear b9 x0 x1 x2 x3; obtain ⟨x0, x1, x2, x3⟩ := HK.out _ HBc.out))
    go_ret2
    exact newPB_ret HF.out (OwnI.nil _ _) (HB0.out.trans (HBc.out.mono HB0.out.size))
  have H1 := hd h1
  cases h2 : smallI q
  · have H2 := hd h2
    have HF := hd (moveL_out (K := 5) (q := q) (t := t) (pos := pos) (p := p) (by rw [h2]; simp))
    clear h1 h2
    go_enter Try.func13, Try.ntmps13
    go_wp2_with (first
          | (go_at_call 15; (try rw [← HW.out]); refine Calls.mono (rsmall_at (by first | exact HP.out _ HBc.out | exact HQ.out _ HBc.out | exact HT.out _ HBc.out) (by first | exact H1.out | exact H2.out | exact H3.out)) ?_; rintro e w9 ⟨rfl, b9⟩; have HBc := hd (step_b HBc.out b9); clear b9 x0 x1 x2 x3; obtain ⟨x0, x1, x2, x3⟩ := HK.out _ HBc.out)
          | (go_at_call 14; refine Calls.mono (rsame_at (HQ.out _ HBc.out) (HP.out _ HBc.out) HSS.out) ?_; rintro e w9 ⟨rfl, b9⟩; have HBc := hd (step_b HBc.out b9); clear b9 x0 x1 x2 x3; obtain ⟨x0, x1, x2, x3⟩ := HK.out _ HBc.out)
          | (go_at_call 25; refine Calls.mono (rabove_at (HQ.out _ HBc.out) (HP.out _ HBc.out) HSA.out) ?_; rintro e w9 ⟨rfl, b9⟩; have HBc := hd (step_b HBc.out b9); clear b9 x0 x1 x2 x3; obtain ⟨x0, x1, x2, x3⟩ := HK.out _ HBc.out)
          | (go_at_call 26; refine Calls.mono (rleft_at (HQ.out _ HBc.out) (HP.out _ HBc.out) HSL.out) ?_; rintro e w9 ⟨rfl, b9⟩; have HBc := hd (step_b HBc.out b9); clear b9 x0 x1 x2 x3; obtain ⟨x0, x1, x2, x3⟩ := HK.out _ HBc.out))
    go_ret2
    exact newPB_ret HF.out (OwnI.nil _ _) (HB0.out.trans (HBc.out.mono HB0.out.size))
  have H2 := hd h2
  cases h3 : smallI t
  · have H3 := hd h3
    have HF := hd (moveL_out (K := 5) (q := q) (t := t) (pos := pos) (p := p) (by rw [h3]; simp))
    clear h1 h2 h3
    go_enter Try.func13, Try.ntmps13
    go_wp2_with (first
          | (go_at_call 15; (try rw [← HW.out]); refine Calls.mono (rsmall_at (by first | exact HP.out _ HBc.out | exact HQ.out _ HBc.out | exact HT.out _ HBc.out) (by first | exact H1.out | exact H2.out | exact H3.out)) ?_; rintro e w9 ⟨rfl, b9⟩; have HBc := hd (step_b HBc.out b9); clear b9 x0 x1 x2 x3; obtain ⟨x0, x1, x2, x3⟩ := HK.out _ HBc.out)
          | (go_at_call 14; refine Calls.mono (rsame_at (HQ.out _ HBc.out) (HP.out _ HBc.out) HSS.out) ?_; rintro e w9 ⟨rfl, b9⟩; have HBc := hd (step_b HBc.out b9); clear b9 x0 x1 x2 x3; obtain ⟨x0, x1, x2, x3⟩ := HK.out _ HBc.out)
          | (go_at_call 25; refine Calls.mono (rabove_at (HQ.out _ HBc.out) (HP.out _ HBc.out) HSA.out) ?_; rintro e w9 ⟨rfl, b9⟩; have HBc := hd (step_b HBc.out b9); clear b9 x0 x1 x2 x3; obtain ⟨x0, x1, x2, x3⟩ := HK.out _ HBc.out)
          | (go_at_call 26; refine Calls.mono (rleft_at (HQ.out _ HBc.out) (HP.out _ HBc.out) HSL.out) ?_; rintro e w9 ⟨rfl, b9⟩; have HBc := hd (step_b HBc.out b9); clear b9 x0 x1 x2 x3; obtain ⟨x0, x1, x2, x3⟩ := HK.out _ HBc.out))
    go_ret2
    exact newPB_ret HF.out (OwnI.nil _ _) (HB0.out.trans (HBc.out.mono HB0.out.size))
  have H3 := hd h3
  by_cases g0 : pos < 0
  · have HF := hd (moveL_out (K := 5) (q := q) (t := t) (pos := pos) (p := p) (by rw [show smallN pos = false by simp [smallN]; omega]; simp))
    clear h1 h2 h3
    go_enter Try.func13, Try.ntmps13
    go_wp2_with (first
          | (go_at_call 15; (try rw [← HW.out]); refine Calls.mono (rsmall_at (by first | exact HP.out _ HBc.out | exact HQ.out _ HBc.out | exact HT.out _ HBc.out) (by first | exact H1.out | exact H2.out | exact H3.out)) ?_; rintro e w9 ⟨rfl, b9⟩; have HBc := hd (step_b HBc.out b9); clear b9 x0 x1 x2 x3; obtain ⟨x0, x1, x2, x3⟩ := HK.out _ HBc.out)
          | (go_at_call 14; refine Calls.mono (rsame_at (HQ.out _ HBc.out) (HP.out _ HBc.out) HSS.out) ?_; rintro e w9 ⟨rfl, b9⟩; have HBc := hd (step_b HBc.out b9); clear b9 x0 x1 x2 x3; obtain ⟨x0, x1, x2, x3⟩ := HK.out _ HBc.out)
          | (go_at_call 25; refine Calls.mono (rabove_at (HQ.out _ HBc.out) (HP.out _ HBc.out) HSA.out) ?_; rintro e w9 ⟨rfl, b9⟩; have HBc := hd (step_b HBc.out b9); clear b9 x0 x1 x2 x3; obtain ⟨x0, x1, x2, x3⟩ := HK.out _ HBc.out)
          | (go_at_call 26; refine Calls.mono (rleft_at (HQ.out _ HBc.out) (HP.out _ HBc.out) HSL.out) ?_; rintro e w9 ⟨rfl, b9⟩; have HBc := hd (step_b HBc.out b9); clear b9 x0 x1 x2 x3; obtain ⟨x0, x1, x2, x3⟩ := HK.out _ HBc.out))
    go_ret2
    exact newPB_ret HF.out (OwnI.nil _ _) (HB0.out.trans (HBc.out.mono HB0.out.size))
  by_cases g1 : 1048576 < pos
  · have HF := hd (moveL_out (K := 5) (q := q) (t := t) (pos := pos) (p := p) (by rw [show smallN pos = false by simp [smallN]; omega]; simp))
    clear h1 h2 h3
    go_enter Try.func13, Try.ntmps13
    go_wp2_with (first
          | (go_at_call 15; (try rw [← HW.out]); refine Calls.mono (rsmall_at (by first | exact HP.out _ HBc.out | exact HQ.out _ HBc.out | exact HT.out _ HBc.out) (by first | exact H1.out | exact H2.out | exact H3.out)) ?_; rintro e w9 ⟨rfl, b9⟩; have HBc := hd (step_b HBc.out b9); clear b9 x0 x1 x2 x3; obtain ⟨x0, x1, x2, x3⟩ := HK.out _ HBc.out)
          | (go_at_call 14; refine Calls.mono (rsame_at (HQ.out _ HBc.out) (HP.out _ HBc.out) HSS.out) ?_; rintro e w9 ⟨rfl, b9⟩; have HBc := hd (step_b HBc.out b9); clear b9 x0 x1 x2 x3; obtain ⟨x0, x1, x2, x3⟩ := HK.out _ HBc.out)
          | (go_at_call 25; refine Calls.mono (rabove_at (HQ.out _ HBc.out) (HP.out _ HBc.out) HSA.out) ?_; rintro e w9 ⟨rfl, b9⟩; have HBc := hd (step_b HBc.out b9); clear b9 x0 x1 x2 x3; obtain ⟨x0, x1, x2, x3⟩ := HK.out _ HBc.out)
          | (go_at_call 26; refine Calls.mono (rleft_at (HQ.out _ HBc.out) (HP.out _ HBc.out) HSL.out) ?_; rintro e w9 ⟨rfl, b9⟩; have HBc := hd (step_b HBc.out b9); clear b9 x0 x1 x2 x3; obtain ⟨x0, x1, x2, x3⟩ := HK.out _ HBc.out))
    go_ret2
    exact newPB_ret HF.out (OwnI.nil _ _) (HB0.out.trans (HBc.out.mono HB0.out.size))
  have h4 : smallN pos = true := by simp [smallN]; omega
  have g2 : 0 ≤ pos := by omega
  have g3 : pos ≤ 1048576 := by omega
  have HL := hd (moveL_5 (q := q) (t := t) (pos := pos) (p := p) (by rw [h1, h2, h3, h4]; rfl))
  have HSM := hd (And.intro h1 (And.intro h2 h3))
  have HML := hd (small_mild h1)
  clear h1 h2 h3 h4
  rcases lq with _ | k
  · have HF := hd (show moveL 5 q t pos p = (p, true) by rw [HL.out, if_neg (fun h => h HLQ.out), moveB_0 HLQ.out])
    go_enter Try.func13, Try.ntmps13
    go_wp2_with (first
      | (go_at_call 15; (try rw [← HW.out]); refine Calls.mono (rsmall_at (by first | exact HP.out _ HBc.out | exact HQ.out _ HBc.out | exact HT.out _ HBc.out) (by first | exact H1.out | exact H2.out | exact H3.out)) ?_; rintro e w9 ⟨rfl, b9⟩; have HBc := hd (step_b HBc.out b9); clear b9 x0 x1 x2 x3; obtain ⟨x0, x1, x2, x3⟩ := HK.out _ HBc.out)
      | (go_at_call 11; refine Calls.mono (rcopy_at (HP.out _ HBc.out)) ?_; rintro e w9 ⟨v9, rfl, ho, b9⟩; have HO := hd (ho.weaken (b' := w.heap.size) (Nat.le_trans HB0.out.size HBc.out.size)); have HB9 := hd (step_b HBc.out b9); clear b9 ho))
    go_ret2
    exact newPB_ret HF.out HO.out (HB0.out.trans (HB9.out.mono HB0.out.size))
  have hs := standL_cases q p
  obtain ⟨s, hs0⟩ : ∃ s, standL q p = s := ⟨_, rfl⟩
  obtain ⟨bl, hs1⟩ : ∃ b, leftL q p = b := ⟨_, rfl⟩
  obtain ⟨bs, hs2⟩ : ∃ b, samI q p = b := ⟨_, rfl⟩
  obtain ⟨ba, hs3⟩ : ∃ b, aboveL q p = b := ⟨_, rfl⟩
  rw [hs0, hs1, hs2, hs3] at hs
  have HS := hd hs0
  have HSL := hd hs1
  have HSS := hd hs2
  have HSA := hd hs3
  have HSC := hd hs
  clear hs hs0 hs1 hs2 hs3
  go_enter Try.func13, Try.ntmps13
  go_upto_region 10 with (first
      | (go_at_call 15; (try rw [← HW.out]); refine Calls.mono (rsmall_at (by first | exact HP.out _ HBc.out | exact HQ.out _ HBc.out | exact HT.out _ HBc.out) (by first | exact H1.out | exact H2.out | exact H3.out)) ?_; rintro e w9 ⟨rfl, b9⟩; have HBc := hd (step_b HBc.out b9); clear b9 x0 x1 x2 x3; obtain ⟨x0, x1, x2, x3⟩ := HK.out _ HBc.out)
      | (go_at_call 14; refine Calls.mono (rsame_at (HQ.out _ HBc.out) (HP.out _ HBc.out) HSS.out) ?_; rintro e w9 ⟨rfl, b9⟩; have HBc := hd (step_b HBc.out b9); clear b9 x0 x1 x2 x3; obtain ⟨x0, x1, x2, x3⟩ := HK.out _ HBc.out)
      | (go_at_call 25; refine Calls.mono (rabove_at (HQ.out _ HBc.out) (HP.out _ HBc.out) HSA.out) ?_; rintro e w9 ⟨rfl, b9⟩; have HBc := hd (step_b HBc.out b9); clear b9 x0 x1 x2 x3; obtain ⟨x0, x1, x2, x3⟩ := HK.out _ HBc.out)
      | (go_at_call 26; refine Calls.mono (rleft_at (HQ.out _ HBc.out) (HP.out _ HBc.out) HSL.out) ?_; rintro e w9 ⟨rfl, b9⟩; have HBc := hd (step_b HBc.out b9); clear b9 x0 x1 x2 x3; obtain ⟨x0, x1, x2, x3⟩ := HK.out _ HBc.out))
  rcases HSC.out with ⟨rfl, rfl, rfl, rfl⟩ | ⟨rfl, rfl, rfl, rfl⟩ | ⟨rfl, rfl, rfl, rfl⟩ | ⟨rfl, rfl, rfl, rfl⟩
  · have HKN := hd (show k + 1 ≤ p.length by have h := stand_len HS.out (by decide); have h2 := HLQ.out; omega)
    go_upto_region 39 with (go_at_call 27; refine Calls.mono (rby_at (HP.out _ HBc.out) (HQ.out _ HBc.out) HLQ.out HKN.out HML.out (by omega)) ?_; rintro e w9 ⟨v9, rfl, ho, b9⟩; have HB9 := hd (step_b HBc.out b9); have HX9 := hd (XA.own ho (by rw [plusL_len]; have := HN.out; omega)); clear b9 ho x0 x1 x2 x3; obtain ⟨x0, x1, x2, x3⟩ := HK.out _ HB9.out)
    have HX := hd (fun W (h : Below w9.heap.size w9 W) => HX9.out.later h)
    have HT2 := hd (fun W (h : Below w9.heap.size w9 W) => HT.out W (step_b HB9.out h))
    have HBd := hd (Below.refl w9.heap.size w9)
    have HBE := hd (HB0.out.trans (HB9.out.mono HB0.out.size))
    have HML2 := hd (show Mild (plusL p k [-1]) by
      have hx := small_less HSM.out.1 HSM.out.2.1 HS.out
      rw [HLQ.out, Nat.add_sub_cancel] at hx
      exact small_mild hx)
    have HL1 := hd (plusL_len [-1] p k)
    rcases lt with _ | k2
    · have HF := hd (show moveL 5 q t pos p = (plusL p k [-1], true) by
        rw [HL.out, if_pos (by rw [HLQ.out]; omega), if_neg (by rw [HS.out]; decide)]
        simp [moveB, HS.out, HLQ.out, HLT.out])
      go_wp2_with (first
        | (go_at_call 14; refine Calls.mono (rsame_at (HT2.out _ HBd.out) (HX.out _ HBd.out) HS2.out) ?_; rintro e w9 ⟨rfl, b9⟩; have HBd := hd (step_b HBd.out b9); clear b9)
        | (go_at_call 25; refine Calls.mono (rabove_at (HT2.out _ HBd.out) (HX.out _ HBd.out) HA2.out) ?_; rintro e w9 ⟨rfl, b9⟩; have HBd := hd (step_b HBd.out b9); clear b9)
        | (go_at_call 26; refine Calls.mono (rleft_at (HT2.out _ HBd.out) (HX.out _ HBd.out) HL2.out) ?_; rintro e w9 ⟨rfl, b9⟩; have HBd := hd (step_b HBd.out b9); clear b9)
        | (go_at_call 27; refine Calls.mono (rby_at (HX.out _ HBd.out) (HT2.out _ HBd.out) HLT.out HKN2.out HML2.out (by omega)) ?_; rintro e w9 ⟨v9, rfl, ho, b9⟩; have HO := hd (ho.weaken (b' := w.heap.size) (Nat.le_trans HBE.out.size HBd.out.size)); have HB9 := hd (step_b HBd.out b9); clear b9 ho)
        | (go_at_call 11; refine Calls.mono (rcopy_at (HX.out _ HBd.out)) ?_; rintro e w9 ⟨v9, rfl, ho, b9⟩; have HO := hd (ho.weaken (b' := w.heap.size) (Nat.le_trans HBE.out.size HBd.out.size)); have HB9 := hd (step_b HBd.out b9); clear b9 ho))
      go_ret2
      exact newPB_ret HF.out HO.out (HBE.out.trans (HB9.out.mono HBE.out.size))
    rcases standL_cases t (plusL p k [-1]) with ⟨h0, h1, h2, h3⟩ | ⟨h0, h1, h2, h3⟩ | ⟨h0, h1, h2, h3⟩ | ⟨h0, h1, h2, h3⟩
    · have HZ2 := hd h0
      have HL2 := hd h1
      have HS2 := hd h2
      have HA2 := hd h3
      clear h0 h1 h2 h3
      have HKN2 := hd (show k2 + 1 ≤ _ by have h := stand_len HZ2.out (by decide); have h2 := HLT.out; rw [h2] at h; exact h)
      have HF := hd (show moveL 5 q t pos p = (plusL (plusL p k [-1]) k2 [1], true) by
        rw [HL.out, if_pos (by rw [HLQ.out]; omega), if_neg (by rw [HS.out]; decide)]
        simp [moveB, HS.out, HLQ.out, HLT.out, HZ2.out])
      go_wp2_with (first
        | (go_at_call 14; refine Calls.mono (rsame_at (HT2.out _ HBd.out) (HX.out _ HBd.out) HS2.out) ?_; rintro e w9 ⟨rfl, b9⟩; have HBd := hd (step_b HBd.out b9); clear b9)
        | (go_at_call 25; refine Calls.mono (rabove_at (HT2.out _ HBd.out) (HX.out _ HBd.out) HA2.out) ?_; rintro e w9 ⟨rfl, b9⟩; have HBd := hd (step_b HBd.out b9); clear b9)
        | (go_at_call 26; refine Calls.mono (rleft_at (HT2.out _ HBd.out) (HX.out _ HBd.out) HL2.out) ?_; rintro e w9 ⟨rfl, b9⟩; have HBd := hd (step_b HBd.out b9); clear b9)
        | (go_at_call 27; refine Calls.mono (rby_at (HX.out _ HBd.out) (HT2.out _ HBd.out) HLT.out HKN2.out HML2.out (by omega)) ?_; rintro e w9 ⟨v9, rfl, ho, b9⟩; have HO := hd (ho.weaken (b' := w.heap.size) (Nat.le_trans HBE.out.size HBd.out.size)); have HB9 := hd (step_b HBd.out b9); clear b9 ho)
        | (go_at_call 11; refine Calls.mono (rcopy_at (HX.out _ HBd.out)) ?_; rintro e w9 ⟨v9, rfl, ho, b9⟩; have HO := hd (ho.weaken (b' := w.heap.size) (Nat.le_trans HBE.out.size HBd.out.size)); have HB9 := hd (step_b HBd.out b9); clear b9 ho))
      go_ret2
      exact newPB_ret HF.out HO.out (HBE.out.trans (HB9.out.mono HBE.out.size))
    · have HZ2 := hd h0
      have HL2 := hd h1
      have HS2 := hd h2
      have HA2 := hd h3
      clear h0 h1 h2 h3
      have HKN2 := hd (show k2 + 1 ≤ _ by have h := stand_len HZ2.out (by decide); have h2 := HLT.out; rw [h2] at h; exact h)
      have HF := hd (show moveL 5 q t pos p = (plusL (plusL p k [-1]) k2 [1], true) by
        rw [HL.out, if_pos (by rw [HLQ.out]; omega), if_neg (by rw [HS.out]; decide)]
        simp [moveB, HS.out, HLQ.out, HLT.out, HZ2.out])
      go_wp2_with (first
        | (go_at_call 14; refine Calls.mono (rsame_at (HT2.out _ HBd.out) (HX.out _ HBd.out) HS2.out) ?_; rintro e w9 ⟨rfl, b9⟩; have HBd := hd (step_b HBd.out b9); clear b9)
        | (go_at_call 25; refine Calls.mono (rabove_at (HT2.out _ HBd.out) (HX.out _ HBd.out) HA2.out) ?_; rintro e w9 ⟨rfl, b9⟩; have HBd := hd (step_b HBd.out b9); clear b9)
        | (go_at_call 26; refine Calls.mono (rleft_at (HT2.out _ HBd.out) (HX.out _ HBd.out) HL2.out) ?_; rintro e w9 ⟨rfl, b9⟩; have HBd := hd (step_b HBd.out b9); clear b9)
        | (go_at_call 27; refine Calls.mono (rby_at (HX.out _ HBd.out) (HT2.out _ HBd.out) HLT.out HKN2.out HML2.out (by omega)) ?_; rintro e w9 ⟨v9, rfl, ho, b9⟩; have HO := hd (ho.weaken (b' := w.heap.size) (Nat.le_trans HBE.out.size HBd.out.size)); have HB9 := hd (step_b HBd.out b9); clear b9 ho)
        | (go_at_call 11; refine Calls.mono (rcopy_at (HX.out _ HBd.out)) ?_; rintro e w9 ⟨v9, rfl, ho, b9⟩; have HO := hd (ho.weaken (b' := w.heap.size) (Nat.le_trans HBE.out.size HBd.out.size)); have HB9 := hd (step_b HBd.out b9); clear b9 ho))
      go_ret2
      exact newPB_ret HF.out HO.out (HBE.out.trans (HB9.out.mono HBE.out.size))
    · have HZ2 := hd h0
      have HL2 := hd h1
      have HS2 := hd h2
      have HA2 := hd h3
      clear h0 h1 h2 h3
      have HKN2 := hd (show k2 + 1 ≤ _ by have h := stand_len HZ2.out (by decide); have h2 := HLT.out; rw [h2] at h; exact h)
      have HF := hd (show moveL 5 q t pos p = (plusL (plusL p k [-1]) k2 [1], true) by
        rw [HL.out, if_pos (by rw [HLQ.out]; omega), if_neg (by rw [HS.out]; decide)]
        simp [moveB, HS.out, HLQ.out, HLT.out, HZ2.out])
      go_wp2_with (first
        | (go_at_call 14; refine Calls.mono (rsame_at (HT2.out _ HBd.out) (HX.out _ HBd.out) HS2.out) ?_; rintro e w9 ⟨rfl, b9⟩; have HBd := hd (step_b HBd.out b9); clear b9)
        | (go_at_call 25; refine Calls.mono (rabove_at (HT2.out _ HBd.out) (HX.out _ HBd.out) HA2.out) ?_; rintro e w9 ⟨rfl, b9⟩; have HBd := hd (step_b HBd.out b9); clear b9)
        | (go_at_call 26; refine Calls.mono (rleft_at (HT2.out _ HBd.out) (HX.out _ HBd.out) HL2.out) ?_; rintro e w9 ⟨rfl, b9⟩; have HBd := hd (step_b HBd.out b9); clear b9)
        | (go_at_call 27; refine Calls.mono (rby_at (HX.out _ HBd.out) (HT2.out _ HBd.out) HLT.out HKN2.out HML2.out (by omega)) ?_; rintro e w9 ⟨v9, rfl, ho, b9⟩; have HO := hd (ho.weaken (b' := w.heap.size) (Nat.le_trans HBE.out.size HBd.out.size)); have HB9 := hd (step_b HBd.out b9); clear b9 ho)
        | (go_at_call 11; refine Calls.mono (rcopy_at (HX.out _ HBd.out)) ?_; rintro e w9 ⟨v9, rfl, ho, b9⟩; have HO := hd (ho.weaken (b' := w.heap.size) (Nat.le_trans HBE.out.size HBd.out.size)); have HB9 := hd (step_b HBd.out b9); clear b9 ho))
      go_ret2
      exact newPB_ret HF.out HO.out (HBE.out.trans (HB9.out.mono HBE.out.size))
    · have HZ2 := hd h0
      have HL2 := hd h1
      have HS2 := hd h2
      have HA2 := hd h3
      clear h0 h1 h2 h3
      have HF := hd (show moveL 5 q t pos p = (plusL p k [-1], true) by
        rw [HL.out, if_pos (by rw [HLQ.out]; omega), if_neg (by rw [HS.out]; decide)]
        simp [moveB, HS.out, HLQ.out, HLT.out, HZ2.out])
      go_wp2_with (first
        | (go_at_call 14; refine Calls.mono (rsame_at (HT2.out _ HBd.out) (HX.out _ HBd.out) HS2.out) ?_; rintro e w9 ⟨rfl, b9⟩; have HBd := hd (step_b HBd.out b9); clear b9)
        | (go_at_call 25; refine Calls.mono (rabove_at (HT2.out _ HBd.out) (HX.out _ HBd.out) HA2.out) ?_; rintro e w9 ⟨rfl, b9⟩; have HBd := hd (step_b HBd.out b9); clear b9)
        | (go_at_call 26; refine Calls.mono (rleft_at (HT2.out _ HBd.out) (HX.out _ HBd.out) HL2.out) ?_; rintro e w9 ⟨rfl, b9⟩; have HBd := hd (step_b HBd.out b9); clear b9)
        | (go_at_call 27; refine Calls.mono (rby_at (HX.out _ HBd.out) (HT2.out _ HBd.out) HLT.out HKN2.out HML2.out (by omega)) ?_; rintro e w9 ⟨v9, rfl, ho, b9⟩; have HO := hd (ho.weaken (b' := w.heap.size) (Nat.le_trans HBE.out.size HBd.out.size)); have HB9 := hd (step_b HBd.out b9); clear b9 ho)
        | (go_at_call 11; refine Calls.mono (rcopy_at (HX.out _ HBd.out)) ?_; rintro e w9 ⟨v9, rfl, ho, b9⟩; have HO := hd (ho.weaken (b' := w.heap.size) (Nat.le_trans HBE.out.size HBd.out.size)); have HB9 := hd (step_b HBd.out b9); clear b9 ho))
      go_ret2
      exact newPB_ret HF.out HO.out (HBE.out.trans (HB9.out.mono HBE.out.size))
  · have hkn : k + 1 ≤ n := by have h := stand_len HS.out (by decide); have h2 := HLQ.out; have h3 := HN.out; omega
    obtain ⟨D, hD, hrun⟩ := cut_run A n c (k + 1) hkn hc
    simp only [Int.natCast_add, Int.cast_ofNat_Int] at hrun
    have HD := hd (hD w9.drew w9.heap.size p (HIP.out w9 HBc.out) HN.out)
    have HF := hd (show moveL 5 q t pos p = (t ++ p.drop (k + 1), true) by rw [HL.out, if_pos (by rw [HLQ.out]; omega), if_pos (by rw [HS.out]; decide), HLQ.out])
    have HLD := hd (show (p.drop (k + 1)).length = n - (k + 1) by rw [List.length_drop, HN.out])
    clear hD
    go_upto_region 36 with fail
    go_still_tail 6, (by kernel_rfl)
    show wpList _ _ _ _ _ w9.drew
    go_wp2_with (go_at_call 28; refine Calls.mono (with_any T D t (p.drop (k + 1)) lt (n - (k + 1)) ct (c - (k + 1)) w9.drew HLT.out HLD.out hl3 (by omega) (HIT.out w9 HBc.out) HD.out) ?_; rintro e w9 ⟨v9, rfl, ho, b9⟩; have HO := hd (ho.weaken (b' := w.heap.size) (Nat.le_trans HB0.out.size HBc.out.size)); have HB9 := hd (step_b HBc.out ((below_drewN (Below.refl _ _) 1).trans b9)); clear ho b9)
    go_ret2
    exact newPB_ret HF.out HO.out (HB0.out.trans (HB9.out.mono HB0.out.size))
  · have hkn : k + 1 ≤ n := by have h := stand_len HS.out (by decide); have h2 := HLQ.out; have h3 := HN.out; omega
    obtain ⟨D, hD, hrun⟩ := cut_run A n c (k + 1) hkn hc
    simp only [Int.natCast_add, Int.cast_ofNat_Int] at hrun
    have HD := hd (hD w9.drew w9.heap.size p (HIP.out w9 HBc.out) HN.out)
    have HF := hd (show moveL 5 q t pos p = (t ++ p.drop (k + 1), true) by rw [HL.out, if_pos (by rw [HLQ.out]; omega), if_pos (by rw [HS.out]; decide), HLQ.out])
    have HLD := hd (show (p.drop (k + 1)).length = n - (k + 1) by rw [List.length_drop, HN.out])
    clear hD
    go_upto_region 36 with fail
    go_still_tail 6, (by kernel_rfl)
    show wpList _ _ _ _ _ w9.drew
    go_wp2_with (go_at_call 28; refine Calls.mono (with_any T D t (p.drop (k + 1)) lt (n - (k + 1)) ct (c - (k + 1)) w9.drew HLT.out HLD.out hl3 (by omega) (HIT.out w9 HBc.out) HD.out) ?_; rintro e w9 ⟨v9, rfl, ho, b9⟩; have HO := hd (ho.weaken (b' := w.heap.size) (Nat.le_trans HB0.out.size HBc.out.size)); have HB9 := hd (step_b HBc.out ((below_drewN (Below.refl _ _) 1).trans b9)); clear ho b9)
    go_ret2
    exact newPB_ret HF.out HO.out (HB0.out.trans (HB9.out.mono HB0.out.size))
  · go_upto_region 39 with fail
    have HX := HP
    have HT2 := HT
    have HBd := HBc
    have HBE := HB0
    have HML2 := HML
    have HL1 := hd (rfl : p.length = p.length)
    rcases lt with _ | k2
    · have HF := hd (show moveL 5 q t pos p = (p, true) by
        rw [HL.out, if_pos (by rw [HLQ.out]; omega), if_neg (by rw [HS.out]; decide)]
        simp [moveB, HS.out, HLQ.out, HLT.out])
      go_wp2_with (first
        | (go_at_call 14; refine Calls.mono (rsame_at (HT2.out _ HBd.out) (HX.out _ HBd.out) HS2.out) ?_; rintro e w9 ⟨rfl, b9⟩; have HBd := hd (step_b HBd.out b9); clear b9)
        | (go_at_call 25; refine Calls.mono (rabove_at (HT2.out _ HBd.out) (HX.out _ HBd.out) HA2.out) ?_; rintro e w9 ⟨rfl, b9⟩; have HBd := hd (step_b HBd.out b9); clear b9)
        | (go_at_call 26; refine Calls.mono (rleft_at (HT2.out _ HBd.out) (HX.out _ HBd.out) HL2.out) ?_; rintro e w9 ⟨rfl, b9⟩; have HBd := hd (step_b HBd.out b9); clear b9)
        | (go_at_call 27; refine Calls.mono (rby_at (HX.out _ HBd.out) (HT2.out _ HBd.out) HLT.out HKN2.out HML2.out (by omega)) ?_; rintro e w9 ⟨v9, rfl, ho, b9⟩; have HO := hd (ho.weaken (b' := w.heap.size) (Nat.le_trans HBE.out.size HBd.out.size)); have HB9 := hd (step_b HBd.out b9); clear b9 ho)
        | (go_at_call 11; refine Calls.mono (rcopy_at (HX.out _ HBd.out)) ?_; rintro e w9 ⟨v9, rfl, ho, b9⟩; have HO := hd (ho.weaken (b' := w.heap.size) (Nat.le_trans HBE.out.size HBd.out.size)); have HB9 := hd (step_b HBd.out b9); clear b9 ho))
      go_ret2
      exact newPB_ret HF.out HO.out (HBE.out.trans (HB9.out.mono HBE.out.size))
    rcases standL_cases t (p) with ⟨h0, h1, h2, h3⟩ | ⟨h0, h1, h2, h3⟩ | ⟨h0, h1, h2, h3⟩ | ⟨h0, h1, h2, h3⟩
    · have HZ2 := hd h0
      have HL2 := hd h1
      have HS2 := hd h2
      have HA2 := hd h3
      clear h0 h1 h2 h3
      have HKN2 := hd (show k2 + 1 ≤ _ by have h := stand_len HZ2.out (by decide); have h2 := HLT.out; rw [h2] at h; exact h)
      have HF := hd (show moveL 5 q t pos p = (plusL (p) k2 [1], true) by
        rw [HL.out, if_pos (by rw [HLQ.out]; omega), if_neg (by rw [HS.out]; decide)]
        simp [moveB, HS.out, HLQ.out, HLT.out, HZ2.out])
      go_wp2_with (first
        | (go_at_call 14; refine Calls.mono (rsame_at (HT2.out _ HBd.out) (HX.out _ HBd.out) HS2.out) ?_; rintro e w9 ⟨rfl, b9⟩; have HBd := hd (step_b HBd.out b9); clear b9)
        | (go_at_call 25; refine Calls.mono (rabove_at (HT2.out _ HBd.out) (HX.out _ HBd.out) HA2.out) ?_; rintro e w9 ⟨rfl, b9⟩; have HBd := hd (step_b HBd.out b9); clear b9)
        | (go_at_call 26; refine Calls.mono (rleft_at (HT2.out _ HBd.out) (HX.out _ HBd.out) HL2.out) ?_; rintro e w9 ⟨rfl, b9⟩; have HBd := hd (step_b HBd.out b9); clear b9)
        | (go_at_call 27; refine Calls.mono (rby_at (HX.out _ HBd.out) (HT2.out _ HBd.out) HLT.out HKN2.out HML2.out (by omega)) ?_; rintro e w9 ⟨v9, rfl, ho, b9⟩; have HO := hd (ho.weaken (b' := w.heap.size) (Nat.le_trans HBE.out.size HBd.out.size)); have HB9 := hd (step_b HBd.out b9); clear b9 ho)
        | (go_at_call 11; refine Calls.mono (rcopy_at (HX.out _ HBd.out)) ?_; rintro e w9 ⟨v9, rfl, ho, b9⟩; have HO := hd (ho.weaken (b' := w.heap.size) (Nat.le_trans HBE.out.size HBd.out.size)); have HB9 := hd (step_b HBd.out b9); clear b9 ho))
      go_ret2
      exact newPB_ret HF.out HO.out (HBE.out.trans (HB9.out.mono HBE.out.size))
    · have HZ2 := hd h0
      have HL2 := hd h1
      have HS2 := hd h2
      have HA2 := hd h3
      clear h0 h1 h2 h3
      have HKN2 := hd (show k2 + 1 ≤ _ by have h := stand_len HZ2.out (by decide); have h2 := HLT.out; rw [h2] at h; exact h)
      have HF := hd (show moveL 5 q t pos p = (plusL (p) k2 [1], true) by
        rw [HL.out, if_pos (by rw [HLQ.out]; omega), if_neg (by rw [HS.out]; decide)]
        simp [moveB, HS.out, HLQ.out, HLT.out, HZ2.out])
      go_wp2_with (first
        | (go_at_call 14; refine Calls.mono (rsame_at (HT2.out _ HBd.out) (HX.out _ HBd.out) HS2.out) ?_; rintro e w9 ⟨rfl, b9⟩; have HBd := hd (step_b HBd.out b9); clear b9)
        | (go_at_call 25; refine Calls.mono (rabove_at (HT2.out _ HBd.out) (HX.out _ HBd.out) HA2.out) ?_; rintro e w9 ⟨rfl, b9⟩; have HBd := hd (step_b HBd.out b9); clear b9)
        | (go_at_call 26; refine Calls.mono (rleft_at (HT2.out _ HBd.out) (HX.out _ HBd.out) HL2.out) ?_; rintro e w9 ⟨rfl, b9⟩; have HBd := hd (step_b HBd.out b9); clear b9)
        | (go_at_call 27; refine Calls.mono (rby_at (HX.out _ HBd.out) (HT2.out _ HBd.out) HLT.out HKN2.out HML2.out (by omega)) ?_; rintro e w9 ⟨v9, rfl, ho, b9⟩; have HO := hd (ho.weaken (b' := w.heap.size) (Nat.le_trans HBE.out.size HBd.out.size)); have HB9 := hd (step_b HBd.out b9); clear b9 ho)
        | (go_at_call 11; refine Calls.mono (rcopy_at (HX.out _ HBd.out)) ?_; rintro e w9 ⟨v9, rfl, ho, b9⟩; have HO := hd (ho.weaken (b' := w.heap.size) (Nat.le_trans HBE.out.size HBd.out.size)); have HB9 := hd (step_b HBd.out b9); clear b9 ho))
      go_ret2
      exact newPB_ret HF.out HO.out (HBE.out.trans (HB9.out.mono HBE.out.size))
    · have HZ2 := hd h0
      have HL2 := hd h1
      have HS2 := hd h2
      have HA2 := hd h3
      clear h0 h1 h2 h3
      have HKN2 := hd (show k2 + 1 ≤ _ by have h := stand_len HZ2.out (by decide); have h2 := HLT.out; rw [h2] at h; exact h)
      have HF := hd (show moveL 5 q t pos p = (plusL (p) k2 [1], true) by
        rw [HL.out, if_pos (by rw [HLQ.out]; omega), if_neg (by rw [HS.out]; decide)]
        simp [moveB, HS.out, HLQ.out, HLT.out, HZ2.out])
      go_wp2_with (first
        | (go_at_call 14; refine Calls.mono (rsame_at (HT2.out _ HBd.out) (HX.out _ HBd.out) HS2.out) ?_; rintro e w9 ⟨rfl, b9⟩; have HBd := hd (step_b HBd.out b9); clear b9)
        | (go_at_call 25; refine Calls.mono (rabove_at (HT2.out _ HBd.out) (HX.out _ HBd.out) HA2.out) ?_; rintro e w9 ⟨rfl, b9⟩; have HBd := hd (step_b HBd.out b9); clear b9)
        | (go_at_call 26; refine Calls.mono (rleft_at (HT2.out _ HBd.out) (HX.out _ HBd.out) HL2.out) ?_; rintro e w9 ⟨rfl, b9⟩; have HBd := hd (step_b HBd.out b9); clear b9)
        | (go_at_call 27; refine Calls.mono (rby_at (HX.out _ HBd.out) (HT2.out _ HBd.out) HLT.out HKN2.out HML2.out (by omega)) ?_; rintro e w9 ⟨v9, rfl, ho, b9⟩; have HO := hd (ho.weaken (b' := w.heap.size) (Nat.le_trans HBE.out.size HBd.out.size)); have HB9 := hd (step_b HBd.out b9); clear b9 ho)
        | (go_at_call 11; refine Calls.mono (rcopy_at (HX.out _ HBd.out)) ?_; rintro e w9 ⟨v9, rfl, ho, b9⟩; have HO := hd (ho.weaken (b' := w.heap.size) (Nat.le_trans HBE.out.size HBd.out.size)); have HB9 := hd (step_b HBd.out b9); clear b9 ho))
      go_ret2
      exact newPB_ret HF.out HO.out (HBE.out.trans (HB9.out.mono HBE.out.size))
    · have HZ2 := hd h0
      have HL2 := hd h1
      have HS2 := hd h2
      have HA2 := hd h3
      clear h0 h1 h2 h3
      have HF := hd (show moveL 5 q t pos p = (p, true) by
        rw [HL.out, if_pos (by rw [HLQ.out]; omega), if_neg (by rw [HS.out]; decide)]
        simp [moveB, HS.out, HLQ.out, HLT.out, HZ2.out])
      go_wp2_with (first
        | (go_at_call 14; refine Calls.mono (rsame_at (HT2.out _ HBd.out) (HX.out _ HBd.out) HS2.out) ?_; rintro e w9 ⟨rfl, b9⟩; have HBd := hd (step_b HBd.out b9); clear b9)
        | (go_at_call 25; refine Calls.mono (rabove_at (HT2.out _ HBd.out) (HX.out _ HBd.out) HA2.out) ?_; rintro e w9 ⟨rfl, b9⟩; have HBd := hd (step_b HBd.out b9); clear b9)
        | (go_at_call 26; refine Calls.mono (rleft_at (HT2.out _ HBd.out) (HX.out _ HBd.out) HL2.out) ?_; rintro e w9 ⟨rfl, b9⟩; have HBd := hd (step_b HBd.out b9); clear b9)
        | (go_at_call 27; refine Calls.mono (rby_at (HX.out _ HBd.out) (HT2.out _ HBd.out) HLT.out HKN2.out HML2.out (by omega)) ?_; rintro e w9 ⟨v9, rfl, ho, b9⟩; have HO := hd (ho.weaken (b' := w.heap.size) (Nat.le_trans HBE.out.size HBd.out.size)); have HB9 := hd (step_b HBd.out b9); clear b9 ho)
        | (go_at_call 11; refine Calls.mono (rcopy_at (HX.out _ HBd.out)) ?_; rintro e w9 ⟨v9, rfl, ho, b9⟩; have HO := hd (ho.weaken (b' := w.heap.size) (Nat.le_trans HBE.out.size HBd.out.size)); have HB9 := hd (step_b HBd.out b9); clear b9 ho))
      go_ret2
      exact newPB_ret HF.out HO.out (HBE.out.trans (HB9.out.mono HBE.out.size))

set_option maxRecDepth 4000 in
theorem rmove_at {W : World} {u qv tv r4 r5 r6 r7 r8 r9 r10 r11 r12 r13 r14 r15 r16 r17 r18 r19 r20 : Value} {p q t : List Int} {K pos : Int} {r : List Int × Bool} (hp : XA W u p) (hq : XA W qv q) (ht : XA W tv t) (hr : moveL K q t pos p = r) :
    Calls Try.prog 13 #[u, .agg #[.int .i64 K, qv, tv, .int .i64 pos, r4, r5, r6, r7, r8, r9, r10, r11, r12, r13, r14, r15, r16, r17, r18, r19, r20]] W (NewPB W r) := by
  obtain ⟨A, n, c, rfl, h1, h2, h3, h4⟩ := hp
  obtain ⟨Q, lq, cq, rfl, g1, g2, g3, g4⟩ := hq
  obtain ⟨T, lt, ct, rfl, i1, i2, i3, i4⟩ := ht
  subst hr
  by_cases hK5 : K = 5
  · subst hK5
    exact rmv5_any A Q T p q t n lq lt c cq ct pos r4 r5 r6 r7 r8 r9 r10 r11 r12 r13 r14 r15 r16 r17 r18 r19 r20 W h1 g1 i1 h2 g2 i2 h3 g3 i3 h4 g4 i4
  · exact rmvB_any A Q T p q t n lq lt c cq ct K pos r4 r5 r6 r7 r8 r9 r10 r11 r12 r13 r14 r15 r16 r17 r18 r19 r20 W h1 g1 i1 h2 g2 i2 h3 g3 i3 hK5 h4 g4 i4

end Go.Proofs.Ytindjfiomilocaa
