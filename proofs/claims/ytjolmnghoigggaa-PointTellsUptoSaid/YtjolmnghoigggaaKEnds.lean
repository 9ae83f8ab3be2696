/- PointEnds answers true where the tree is not too great. -/
import Derived.Test.YtjolmnghoigggaaKSel
import Derived.Test.YtjolmnghoigggaaTPaths
namespace Go.Proofs.Ytjolmnghoigggaa
open Go.RowKit

theorem chk_first {n : NT} {q : List Int} (h : leafB n q = true) : chkP n (q, 0) = 0 := chkP_leaf.2 ⟨h, by simp, by
  show (0 : Int) ≤ offT n q
  unfold offT; split
  · exact Int.le_refl _
  · omega⟩
set_option maxRecDepth 4000 in
theorem offT_nonneg (n : NT) (q : List Int) : 0 ≤ offT n q := by
  unfold offT; split
  · exact Int.le_refl _
  · omega
set_option maxRecDepth 4000 in
theorem chk_last {n : NT} {q : List Int} (h : leafB n q = true) : chkP n (q, offT n q) = 0 := chkP_leaf.2 ⟨h, offT_nonneg n q, Int.le_refl _⟩
set_option maxRecDepth 4000 in
theorem cmpP_of {a b : List Int × Int} (h : cmpL a.1 b.1 ≤ 0) (h2 : a.1 = b.1 → a.2 ≤ b.2) : cmpP a b ≤ 0 := by
  unfold cmpP
  split
  · rename_i h0
    have := h2 (cmpL_eq _ _ h0)
    unfold cmpI; rw [if_neg (show ¬ b.2 < a.2 by omega)]
    split <;> omega
  · exact h
set_option maxRecDepth 4000 in
theorem ends_order {n : NT} {q1 q2 : List Int} (h1 : FirstIs n (fromB []) (some q1)) (h2 : LastIs n allB (some q2)) : cmpP (q1, 0) (q2, offT n q2) ≤ 0 :=
  cmpP_of (h1.2.2 q2 h2.1 (fromB_nil q2)) fun _ => offT_nonneg n q2
set_option maxRecDepth 4000 in
theorem ends_first {n : NT} {q1 : List Int} {p : List Int × Int} (h1 : FirstIs n (fromB []) (some q1)) (hp : chkP n p = 0) : cmpP (q1, 0) p ≤ 0 := by
  obtain ⟨h3, h4, _⟩ := chkP_leaf.1 hp
  exact cmpP_of (h1.2.2 p.1 h3 (fromB_nil _)) fun _ => h4
set_option maxRecDepth 4000 in
theorem ends_last {n : NT} {q2 : List Int} {p : List Int × Int} (h2 : LastIs n allB (some q2)) (hp : chkP n p = 0) : cmpP p (q2, offT n q2) ≤ 0 := by
  obtain ⟨h3, _, h5⟩ := chkP_leaf.1 hp
  refine cmpP_of (h2.2.2 p.1 h3 rfl) fun e => ?_
  have e' : p.1 = q2 := e
  rw [e'] at h5
  exact h5
set_option maxRecDepth 4000 in
theorem ends_none {n : NT} {r2 : Option (List Int)} (h1 : FirstIs n (fromB []) none) (h2 : LastIs n allB r2) : r2 = none ∧ (lvs n).length = 0 ∧ ∀ p, chkP n p ≠ 0 := by
  have hz : ∀ z, leafB n z = false := fun z => by
    cases hl : leafB n z with
    | false => rfl
    | true => have := h1 z hl; rw [fromB_nil] at this; cases this
  refine ⟨?_, ?_, fun p hp => ?_⟩
  · cases r2 with
    | none => rfl
    | some q => have := h2.1; rw [hz] at this; cases this
  · rcases Nat.eq_zero_or_pos (lvs n).length with h | h
    · exact h
    · have := lvs_leaf (n := n) (i := 0) h; rw [hz] at this; cases this
  · have := (chkP_leaf.1 hp).1; rw [hz] at this; cases this
set_option maxRecDepth 4000 in
theorem ends_some {n : NT} {q1 : List Int} {r2 : Option (List Int)} (h1 : FirstIs n (fromB []) (some q1)) (h2 : LastIs n allB r2) : (∃ q2, r2 = some q2) ∧ 0 < (lvs n).length := by
  refine ⟨?_, ?_⟩
  · cases r2 with
    | none => have := h2 q1 h1.1; cases this
    | some q => exact ⟨q, rfl⟩
  · obtain ⟨i, hi, _⟩ := lvs_have h1.1
    omega



set_option maxRecDepth 100000 in
set_option maxHeartbeats 8000000 in
theorem pends_law (w : World) (v : Value) (n : NT) (hM : sizeT n ≤ 1048576) (hN : ∃ d, NodeAt d w w.heap.size v n) (A : Option Addr) (p : List Int × Int) (c : Nat) (hl : p.1.length ≤ 9223372036854775807) (hc : p.1.length ≤ c) (hp : IL w w.heap.size A p.1) :
    Calls Try.prog 6 #[v, .agg #[.slice A p.1.length c, .int .i64 p.2]] w (AllTrue w) := by
  obtain ⟨d, hn⟩ := hN
  obtain ⟨lf, PA, np, pc, TA, nt, tc, KA, nk, kc, rfl⟩ := hn.val
  obtain ⟨W0, hW⟩ : ∃ W0, (w.alloc (.cells #[.bool lf, .slice PA np pc, .slice TA nt tc, .slice KA nk kc] 26)).alloc (.cells #[.slice A p.1.length c, .int .i64 p.2] 29) = W0 := ⟨_, rfl⟩
  have hb0 : Below w.heap.size w W0 := hW ▸ below_mono2 (Below.refl _ _) (Nat.le_refl _)
  have e0 := pt_new w (Obj.cells #[Value.bool lf, .slice PA np pc, .slice TA nt tc, .slice KA nk kc] 26) (Obj.cells #[Value.slice A p.1.length c, .int .i64 p.2] 29)
  rw [hW] at e0
  have HK := hd (show ∀ W, Below W0.heap.size W0 W → (W.cell? ⟨w.heap.size, 0, none⟩ = some (.bool lf) ∧ W.cell? ⟨w.heap.size, 1, none⟩ = some (.slice PA np pc) ∧ W.cell? ⟨w.heap.size, 2, none⟩ = some (.slice TA nt tc) ∧ W.cell? ⟨w.heap.size, 3, none⟩ = some (.slice KA nk kc) ∧ W.cell? ⟨w.heap.size + 1, 0, none⟩ = some (.slice A p.1.length c) ∧ W.cell? ⟨w.heap.size + 1, 1, none⟩ = some (.int .i64 p.2)) from fun W h => by
    have h1 := blkCells (keepBlk e0.1 h)
    have h2 := blk2 (keepBlk e0.2 h)
    exact ⟨h1.1, h1.2.1, h1.2.2.1, h1.2.2.2.1, h2.1, h2.2.1⟩)
  obtain ⟨n0, n1, n2, n3, p0, p1⟩ := HK.out _ (Below.refl _ _)
  have HW := hd hW
  have HB0 := hd hb0
  have HLV := hd (live7_any W0)
  obtain ⟨F, hF⟩ : ∃ F, fewB 150 n = F := ⟨_, rfl⟩
  have HFW := hd (fun (W : World) (h : Below W0.heap.size W0 W) => hF ▸ few_any d W _ n 150 (by unfold In64; omega) ((hn.later hb0).later h))
  obtain ⟨S, hS⟩ : ∃ S, S = shortB [(A, p.1.length, c, p.2)] := ⟨_, rfl⟩
  have HSH := hd (fun (W : World) => hS ▸ short_any W.heap.size [(A, p.1.length, c, p.2)] 1 (W.alloc (.cells #[.slice A p.1.length c, .int .i64 p.2] 29)) rfl (by omega) (by simp) (row_any (w := W) [(A, p.1.length, c, p.2)] _) (fun q hq => by simp at hq; rcases hq with rfl; assumption))
  have HSS := hd hS
  have HN := hd (hn.later hb0)
  have HPF := hd (fun (W : World) (h : Below W0.heap.size W0 W) => pfirst_any d W _ n hM ((hn.later hb0).later h))
  have HPL := hd (fun (W : World) (h : Below W0.heap.size W0 W) => plast_any d W _ n hM ((hn.later hb0).later h))
  have HLL := hd (fun (W : World) (h : Below W0.heap.size W0 W) => wleaves_any d W _ n ((hn.later hb0).later h) (by omega))
  have HI := hd hp
  have HMM := hd hM
  clear hW hb0 e0 hn hF hS hp hM
  cases F with
  | false =>
    go_enter Try.func6, Try.ntmps6
    go_wp2_with (first
      | (go_at_call 22; refine Calls.mono (HPL.out _ HB4.out) ?_; intro e w5 h5; obtain ⟨r2, hP2, A2, m2, c2, hm2, rfl, ho2, hb5⟩ := h5; have HP2 := hd hP2; have HM2 := hd hm2; have HO2 := hd ho2; have HB5 := hd (HB4.out.trans (hb5.mono HB4.out.size)); have HS5 := hd hb5; clear hP2 hm2 ho2 hb5)
      | (go_at_call 20; refine Calls.mono (HPF.out _ HB3.out) ?_; intro e w4 h4; obtain ⟨r1, hP1, A1, m1, c1, hm1, rfl, ho1, hb4⟩ := h4; have HP1 := hd hP1; have HM1 := hd hm1; have HO1 := hd ho1; have hb4' := HB3.out.trans (hb4.mono HB3.out.size); have HS4 := hd hb4; have HB4 := hd (hb4'.alloc hb4'.size (.cells #[.slice A1 m1 c1, .int .i64 (pO (fun _ => 0) r1).2] 29)); clear hP1 hm1 ho1 hb4 hb4' n0 n1 n2 n3 p0 p1; obtain ⟨n0, n1, n2, n3, p0, p1⟩ := HK.out _ HB4.out)
      | (go_at_call 11; refine (HSH.out _).mono ?_; rintro e w3 ⟨rfl, b3⟩; have HB3 := hd (HB2.out.trans ((ex_below b3).mono HB2.out.size)); clear b3 n0 n1 n2 n3 p0 p1; obtain ⟨n0, n1, n2, n3, p0, p1⟩ := HK.out _ HB3.out)
      | (go_at_call 10; refine Calls.mono (HFW.out _ HB1.out) ?_; rintro e w2 ⟨rfl, b2⟩; have HB2 := hd (HB1.out.trans (b2.mono HB1.out.size)); clear b2 n0 n1 n2 n3 p0 p1; obtain ⟨n0, n1, n2, n3, p0, p1⟩ := HK.out _ HB2.out)
      | (go_at_call 9; rw [HW.out]; refine HLV.out.mono ?_; rintro e w1 ⟨rfl, b1⟩; have HB1 := hd b1; clear b1 n0 n1 n2 n3 p0 p1; obtain ⟨n0, n1, n2, n3, p0, p1⟩ := HK.out _ HB1.out))
    exact bodyPost_ret (v := .bool true) (by simp [results, Try.results6, go_sem]) rfl ⟨rfl, HB0.out.trans (HB2.out.mono HB0.out.size)⟩
  | true =>
    cases S with
    | false =>
      go_enter Try.func6, Try.ntmps6
      go_wp2_with (first
        | (go_at_call 22; refine Calls.mono (HPL.out _ HB4.out) ?_; intro e w5 h5; obtain ⟨r2, hP2, A2, m2, c2, hm2, rfl, ho2, hb5⟩ := h5; have HP2 := hd hP2; have HM2 := hd hm2; have HO2 := hd ho2; have HB5 := hd (HB4.out.trans (hb5.mono HB4.out.size)); have HS5 := hd hb5; clear hP2 hm2 ho2 hb5)
        | (go_at_call 20; refine Calls.mono (HPF.out _ HB3.out) ?_; intro e w4 h4; obtain ⟨r1, hP1, A1, m1, c1, hm1, rfl, ho1, hb4⟩ := h4; have HP1 := hd hP1; have HM1 := hd hm1; have HO1 := hd ho1; have hb4' := HB3.out.trans (hb4.mono HB3.out.size); have HS4 := hd hb4; have HB4 := hd (hb4'.alloc hb4'.size (.cells #[.slice A1 m1 c1, .int .i64 (pO (fun _ => 0) r1).2] 29)); clear hP1 hm1 ho1 hb4 hb4' n0 n1 n2 n3 p0 p1; obtain ⟨n0, n1, n2, n3, p0, p1⟩ := HK.out _ HB4.out)
        | (go_at_call 11; refine (HSH.out _).mono ?_; rintro e w3 ⟨rfl, b3⟩; have HB3 := hd (HB2.out.trans ((ex_below b3).mono HB2.out.size)); clear b3 n0 n1 n2 n3 p0 p1; obtain ⟨n0, n1, n2, n3, p0, p1⟩ := HK.out _ HB3.out)
        | (go_at_call 10; refine Calls.mono (HFW.out _ HB1.out) ?_; rintro e w2 ⟨rfl, b2⟩; have HB2 := hd (HB1.out.trans (b2.mono HB1.out.size)); clear b2 n0 n1 n2 n3 p0 p1; obtain ⟨n0, n1, n2, n3, p0, p1⟩ := HK.out _ HB2.out)
        | (go_at_call 9; rw [HW.out]; refine HLV.out.mono ?_; rintro e w1 ⟨rfl, b1⟩; have HB1 := hd b1; clear b1 n0 n1 n2 n3 p0 p1; obtain ⟨n0, n1, n2, n3, p0, p1⟩ := HK.out _ HB1.out))
      exact bodyPost_ret (v := .bool true) (by simp [results, Try.results6, go_sem]) rfl ⟨rfl, HB0.out.trans (HB3.out.mono HB0.out.size)⟩
    | true =>
      have hs : p.1.length ≤ 50 := by have := HSS.out.symm; unfold shortB at this; simpa using this
      have HPP := hd (show PtAt W0 (.agg #[.slice A p.1.length c, .int .i64 p.2]) p from ⟨A, _, c, rfl, rfl, by omega, hc, HI.out.later HB0.out⟩)
      clear hs HSS HI
      go_enter Try.func6, Try.ntmps6
      go_upto_region 7 with (first
        | (go_at_call 22; refine Calls.mono (HPL.out _ HB4.out) ?_; intro e w5 h5; obtain ⟨r2, hP2, A2, m2, c2, hm2, rfl, ho2, hb5⟩ := h5; have HP2 := hd hP2; have HM2 := hd hm2; have HO2 := hd ho2; have HB5 := hd (HB4.out.trans (hb5.mono HB4.out.size)); have HS5 := hd hb5; clear hP2 hm2 ho2 hb5)
        | (go_at_call 20; refine Calls.mono (HPF.out _ HB3.out) ?_; intro e w4 h4; obtain ⟨r1, hP1, A1, m1, c1, hm1, rfl, ho1, hb4⟩ := h4; have HP1 := hd hP1; have HM1 := hd hm1; have HO1 := hd ho1; have hb4' := HB3.out.trans (hb4.mono HB3.out.size); have HS4 := hd hb4; have HB4 := hd (hb4'.alloc hb4'.size (.cells #[.slice A1 m1 c1, .int .i64 (pO (fun _ => 0) r1).2] 29)); clear hP1 hm1 ho1 hb4 hb4' n0 n1 n2 n3 p0 p1; obtain ⟨n0, n1, n2, n3, p0, p1⟩ := HK.out _ HB4.out)
        | (go_at_call 11; refine (HSH.out _).mono ?_; rintro e w3 ⟨rfl, b3⟩; have HB3 := hd (HB2.out.trans ((ex_below b3).mono HB2.out.size)); clear b3 n0 n1 n2 n3 p0 p1; obtain ⟨n0, n1, n2, n3, p0, p1⟩ := HK.out _ HB3.out)
        | (go_at_call 10; refine Calls.mono (HFW.out _ HB1.out) ?_; rintro e w2 ⟨rfl, b2⟩; have HB2 := hd (HB1.out.trans (b2.mono HB1.out.size)); clear b2 n0 n1 n2 n3 p0 p1; obtain ⟨n0, n1, n2, n3, p0, p1⟩ := HK.out _ HB2.out)
        | (go_at_call 9; rw [HW.out]; refine HLV.out.mono ?_; rintro e w1 ⟨rfl, b1⟩; have HB1 := hd b1; clear b1 n0 n1 n2 n3 p0 p1; obtain ⟨n0, n1, n2, n3, p0, p1⟩ := HK.out _ HB1.out))
      obtain ⟨a, ha⟩ : ∃ a, pO (fun _ => 0) r1 = a := ⟨_, rfl⟩
      obtain ⟨b, hb⟩ : ∃ b, pO (offT n) r2 = b := ⟨_, rfl⟩
      obtain ⟨er1, he1⟩ : ∃ e, eO r1 = e := ⟨_, rfl⟩
      obtain ⟨er2, he2⟩ : ∃ e, eO r2 = e := ⟨_, rfl⟩
      have hsa : a.1.length ≤ 10000000 := by rw [← ha]; cases r1 with
        | none => simp [pO]
        | some q => have := leafB_short HP1.out.1; have := HMM.out; simp only [pO]; omega
      have hsb : b.1.length ≤ 10000000 := by rw [← hb]; cases r2 with
        | none => simp [pO]
        | some q => have := leafB_short HP2.out.1; have := HMM.out; simp only [pO]; omega
      rw [ha] at HS5 HB4 HO1 HM1 ⊢
      rw [hb] at HO2 HM2 ⊢
      rw [he1, he2]
      obtain ⟨W6, hW6⟩ : ∃ W6, W6 = w5.alloc (.cells #[.slice A2 m2 c2, .int .i64 b.2] 29) := ⟨_, rfl⟩
      rw [← hW6]
      have hb6 : Below w5.heap.size w5 W6 := hW6 ▸ (Below.refl _ _).alloc (Nat.le_refl _) _
      have hq6 := heap_alloc_new w5 (.cells #[.slice A2 m2 c2, .int .i64 b.2] 29)
      rw [← hW6] at hq6
      have hq4 := keepBlk (keepBlk (heap_alloc_new w4 (.cells #[.slice A1 m1 c1, .int .i64 a.2] 29)) HS5.out) hb6
      have hB6 : Below W0.heap.size W0 W6 := HB5.out.trans (hb6.mono HB5.out.size)
      have HB6 := hd hB6
      have HMK := hd (fun (W : World) (h : Below W6.heap.size W6 W) => And.intro (HK.out W (hB6.trans (h.mono hB6.size))) (And.intro (blk2 (keepBlk hq4 h)) (blk2 (keepBlk hq6 h))))
      have HPA := hd (show PtAt W6 (.agg #[.slice A1 m1 c1, .int .i64 a.2]) a from (((PtAt.of_new HO1.out hsa).later ((Below.refl _ _).alloc (Nat.le_refl _) _)).later HS5.out).later hb6)
      have HPB := hd (show PtAt W6 (.agg #[.slice A2 m2 c2, .int .i64 b.2]) b from (PtAt.of_new HO2.out hsb).later hb6)
      have HPP6 := hd (HPP.out.later hB6)
      have HN6 := hd (HN.out.later hB6)
      have HBc := hd (Below.refl W6.heap.size W6)
      obtain ⟨NL, hNL⟩ : ∃ NL, NL = (pathsN true n []).length := ⟨_, rfl⟩
      have HNL := hd hNL
      clear hW6 hb6 hq6 hq4 hB6 HO1 HO2 HS5 HS4 HB5 HPF HPL HFW HSH HLV hsa hsb n0 n1 n2 n3 p0 p1 HM1 HM2 HB4 hNL
      obtain ⟨⟨n0, n1, n2, n3, p0, p1⟩, ⟨a0, a1, _, _⟩, b0, b1, _, _⟩ := HMK.out _ HBc.out
      obtain ⟨E, hE⟩ : ∃ E, chkP n p = E := ⟨_, rfl⟩
      cases r1 with
      | none =>
        obtain ⟨e1, e2, e3⟩ := ends_none HP1.out HP2.out
        subst e1
        have h0 : NL = 0 := HNL.out.trans e2
        have he1' : er1 = 14 := he1.symm
        have he2' : er2 = 14 := he2.symm
        have g1 : (E != 0) = true := by have := e3 p; rw [hE] at this; simpa using this
        subst h0 he1' he2'
        clear he1 he2 e2 e3 ha hb
        go_wp2_with (first
          | (go_at_call 29; refine Calls.mono (cmp_at HBc.out (by first | exact HPA.out | exact HPP6.out) (by first | exact HPB.out | exact HPP6.out)) ?_; rintro e w9 ⟨rfl, b9⟩; have HBc := hd (HBc.out.trans (b9.mono HBc.out.size)); clear b9 n0 n1 n2 n3 p0 p1 a0 a1 b0 b1; obtain ⟨⟨n0, n1, n2, n3, p0, p1⟩, ⟨a0, a1, _, _⟩, b0, b1, _, _⟩ := HMK.out _ HBc.out)
          | (go_at_call 12; refine Calls.mono (check_at HBc.out HN6.out (by first | exact HPA.out | exact HPB.out | exact HPP6.out)) ?_; rintro e w9 ⟨rfl, b9⟩; have HBc := hd (HBc.out.trans (b9.mono HBc.out.size)); clear b9 n0 n1 n2 n3 p0 p1 a0 a1 b0 b1; obtain ⟨⟨n0, n1, n2, n3, p0, p1⟩, ⟨a0, a1, _, _⟩, b0, b1, _, _⟩ := HMK.out _ HBc.out)
          | (go_at_call 32; refine Calls.mono (HLL.out _ HB6.out) ?_; rintro e w9 ⟨A9, c9, rfl, hq9, b9⟩; rw [← HNL.out]; have HBc := hd (HBc.out.trans (b9.mono HBc.out.size)); clear b9 hq9 n0 n1 n2 n3 p0 p1 a0 a1 b0 b1; obtain ⟨⟨n0, n1, n2, n3, p0, p1⟩, ⟨a0, a1, _, _⟩, b0, b1, _, _⟩ := HMK.out _ HBc.out))
        exact bodyPost_ret (v := .bool true) (by simp [results, Try.results6, go_sem]) rfl ⟨rfl, HB0.out.trans ((HB6.out.trans (HBc.out.mono HB6.out.size)).mono HB0.out.size)⟩
      | some q1 =>
        obtain ⟨⟨q2, e1⟩, e2⟩ := ends_some HP1.out HP2.out
        subst e1
        have hnl : 0 < NL := by rw [HNL.out]; exact e2
        have g0 : ((NL : Int) == 0) = false := beq_eq_false_iff_ne.2 (by omega)
        have he1' : er1 = 0 := he1.symm
        have he2' : er2 = 0 := he2.symm
        have ha' : (q1, 0) = a := ha
        have hb' : (q2, offT n q2) = b := hb
        have ca : chkP n a = 0 := ha' ▸ chk_first HP1.out.1
        have cb : chkP n b = 0 := hb' ▸ chk_last HP2.out.1
        have hab := ends_order HP1.out HP2.out
        rw [ha', hb'] at hab
        obtain ⟨X, hX⟩ : ∃ X, cmpP a b = X := ⟨_, rfl⟩
        obtain ⟨Y, hY⟩ : ∃ Y, cmpP a p = Y := ⟨_, rfl⟩
        obtain ⟨Z, hZ⟩ : ∃ Z, cmpP p b = Z := ⟨_, rfl⟩
        rw [hX] at hab
        have hx : ¬ 0 < X := by omega
        subst he1' he2'
        clear he1 he2 e2 ha hb
        by_cases hE0 : E = 0
        · have hY0 : Y ≤ 0 := by have := ends_first HP1.out (hE.trans hE0); rw [ha', hY] at this; exact this
          have hZ0 : Z ≤ 0 := by have := ends_last HP2.out (hE.trans hE0); rw [hb', hZ] at this; exact this
          subst hE0
          clear ha' hb' hnl
          go_wp2_with (first
            | (go_at_call 29; refine Calls.mono (cmp_at HBc.out (by first | exact HPA.out | exact HPP6.out) (by first | exact HPB.out | exact HPP6.out)) ?_; rintro e w9 ⟨rfl, b9⟩; have HBc := hd (HBc.out.trans (b9.mono HBc.out.size)); clear b9 n0 n1 n2 n3 p0 p1 a0 a1 b0 b1; obtain ⟨⟨n0, n1, n2, n3, p0, p1⟩, ⟨a0, a1, _, _⟩, b0, b1, _, _⟩ := HMK.out _ HBc.out)
            | (go_at_call 12; refine Calls.mono (check_at HBc.out HN6.out (by first | exact HPA.out | exact HPB.out | exact HPP6.out)) ?_; rintro e w9 ⟨rfl, b9⟩; have HBc := hd (HBc.out.trans (b9.mono HBc.out.size)); clear b9 n0 n1 n2 n3 p0 p1 a0 a1 b0 b1; obtain ⟨⟨n0, n1, n2, n3, p0, p1⟩, ⟨a0, a1, _, _⟩, b0, b1, _, _⟩ := HMK.out _ HBc.out)
            | (go_at_call 32; refine Calls.mono (HLL.out _ HB6.out) ?_; rintro e w9 ⟨A9, c9, rfl, hq9, b9⟩; rw [← HNL.out]; have HBc := hd (HBc.out.trans (b9.mono HBc.out.size)); clear b9 hq9 n0 n1 n2 n3 p0 p1 a0 a1 b0 b1; obtain ⟨⟨n0, n1, n2, n3, p0, p1⟩, ⟨a0, a1, _, _⟩, b0, b1, _, _⟩ := HMK.out _ HBc.out))
          exact bodyPost_ret (v := .bool true) (by simp [results, Try.results6, go_sem]) rfl ⟨rfl, HB0.out.trans ((HB6.out.trans (HBc.out.mono HB6.out.size)).mono HB0.out.size)⟩
        · have g1 : (E != 0) = true := by simpa using hE0
          clear ha' hb' hnl hE0 hY hZ
          go_wp2_with (first
            | (go_at_call 29; refine Calls.mono (cmp_at HBc.out (by first | exact HPA.out | exact HPP6.out) (by first | exact HPB.out | exact HPP6.out)) ?_; rintro e w9 ⟨rfl, b9⟩; have HBc := hd (HBc.out.trans (b9.mono HBc.out.size)); clear b9 n0 n1 n2 n3 p0 p1 a0 a1 b0 b1; obtain ⟨⟨n0, n1, n2, n3, p0, p1⟩, ⟨a0, a1, _, _⟩, b0, b1, _, _⟩ := HMK.out _ HBc.out)
            | (go_at_call 12; refine Calls.mono (check_at HBc.out HN6.out (by first | exact HPA.out | exact HPB.out | exact HPP6.out)) ?_; rintro e w9 ⟨rfl, b9⟩; have HBc := hd (HBc.out.trans (b9.mono HBc.out.size)); clear b9 n0 n1 n2 n3 p0 p1 a0 a1 b0 b1; obtain ⟨⟨n0, n1, n2, n3, p0, p1⟩, ⟨a0, a1, _, _⟩, b0, b1, _, _⟩ := HMK.out _ HBc.out)
            | (go_at_call 32; refine Calls.mono (HLL.out _ HB6.out) ?_; rintro e w9 ⟨A9, c9, rfl, hq9, b9⟩; rw [← HNL.out]; have HBc := hd (HBc.out.trans (b9.mono HBc.out.size)); clear b9 hq9 n0 n1 n2 n3 p0 p1 a0 a1 b0 b1; obtain ⟨⟨n0, n1, n2, n3, p0, p1⟩, ⟨a0, a1, _, _⟩, b0, b1, _, _⟩ := HMK.out _ HBc.out))
          exact bodyPost_ret (v := .bool true) (by simp [results, Try.results6, go_sem]) rfl ⟨rfl, HB0.out.trans ((HB6.out.trans (HBc.out.mono HB6.out.size)).mono HB0.out.size)⟩

end Go.Proofs.Ytjolmnghoigggaa
