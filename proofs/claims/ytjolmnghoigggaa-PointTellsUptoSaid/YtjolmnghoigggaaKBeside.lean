/- PointBeside answers true where the tree is not too great. -/
import Derived.Test.YtjolmnghoigggaaKEnds
namespace Go.Proofs.Ytjolmnghoigggaa
open Go.RowKit

/-- The value v is the path l. -/
def PaAt (w : World) (v : Value) (l : List Int) : Prop := ∃ A n c, v = .slice A n c ∧ l.length = n ∧ n ≤ 10000000 ∧ n ≤ c ∧ IL w w.heap.size A l
set_option maxRecDepth 4000 in
theorem PaAt.later {w w' : World} {v : Value} {l : List Int} (h : PaAt w v l) (hb : Below w.heap.size w w') : PaAt w' v l := by
  obtain ⟨A, n, c, e, h1, h2, h3, h4⟩ := h
  exact ⟨A, n, c, e, h1, h2, h3, h4.later hb⟩
set_option maxRecDepth 4000 in
theorem PtAt.path {w : World} {A : Option Addr} {n c : Nat} {x : Int} {p : List Int × Int} (h : PtAt w (.agg #[.slice A n c, .int .i64 x]) p) : PaAt w (.slice A n c) p.1 := by
  obtain ⟨A', n', c', e, h1, h2, h3, h4⟩ := h
  simp only [Value.agg.injEq, Array.mk.injEq, List.cons.injEq, Value.slice.injEq, and_true] at e
  obtain ⟨⟨rfl, rfl, rfl⟩, _⟩ := e
  exact ⟨A, n, c, rfl, h1, h2, h3, h4⟩
set_option maxRecDepth 4000 in
theorem tcmp_at {w W : World} {u v : Value} {l m : List Int} (hb : Below w.heap.size w W) (hp : PaAt w u l) (hq : PaAt w v m) : Calls Try.prog 33 #[u, v] W (Still (.int .i64 (cmpL l m)) W) := by
  obtain ⟨A, n, c, rfl, rfl, h2, _, h3⟩ := hp.later hb
  obtain ⟨B, k, d, rfl, rfl, g2, _, g3⟩ := hq.later hb
  exact calls_still (compare_any A B l m c d W (by omega) (by omega) h3 g3)
set_option maxRecDepth 4000 in
theorem tabove_at {w W : World} {u v : Value} {l m : List Int} (hb : Below w.heap.size w W) (hp : PaAt w u l) (hq : PaAt w v m) : Calls Try.prog 34 #[u, v] W (Still (.bool (aboveL l m)) W) := by
  obtain ⟨A, n, c, rfl, rfl, h2, _, h3⟩ := hp.later hb
  obtain ⟨B, k, d, rfl, rfl, g2, _, g3⟩ := hq.later hb
  exact calls_still (above_any A B l m c d W (by omega) (by omega) h3 g3)
set_option maxRecDepth 4000 in
theorem beside_behind {n : NT} {q : List Int} {r2 : Option (List Int)} {p : List Int × Int} (h2 : FirstIs n (fromB q) r2) (hp : chkP n p = 0) (hc : 0 ≤ cmpL p.1 q) : ∃ q2, r2 = some q2 ∧ cmpP (q2, 0) p ≤ 0 := by
  obtain ⟨h3, h4, _⟩ := chkP_leaf.1 hp
  have hF : fromB q p.1 = true := decide_eq_true hc
  cases r2 with
  | none => have := h2 p.1 h3; rw [hF] at this; cases this
  | some q2 => exact ⟨q2, rfl, cmpP_of (h2.2.2 p.1 h3 hF) fun _ => h4⟩
set_option maxRecDepth 4000 in
theorem beside_ahead {n : NT} {q : List Int} {r1 : Option (List Int)} {p : List Int × Int} (h1 : LastIs n (aheadB q) r1) (hp : chkP n p = 0) (hc : ¬ 0 ≤ cmpL p.1 q) (ha : aboveL p.1 q = false) : ∃ q1, r1 = some q1 ∧ cmpP p (q1, offT n q1) ≤ 0 := by
  obtain ⟨h3, _, h5⟩ := chkP_leaf.1 hp
  have hF : aheadB q p.1 = true := by unfold aheadB; rw [ha, decide_eq_true (by omega)]; rfl
  cases r1 with
  | none => have := h1 p.1 h3; rw [hF] at this; cases this
  | some q1 =>
    refine ⟨q1, rfl, cmpP_of (h1.2.2 p.1 h3 hF) fun e => ?_⟩
    have e' : p.1 = q1 := e
    rw [e'] at h5
    exact h5
set_option maxRecDepth 4000 in
theorem ahead_is {n : NT} {q q1 : List Int} (h1 : LastIs n (aheadB q) (some q1)) : ¬ 0 ≤ cmpL q1 q ∧ aboveL q1 q = false := by
  have := h1.2.1
  unfold aheadB at this
  simp at this
  exact ⟨by omega, by simpa using this.2⟩
set_option maxRecDepth 4000 in
theorem behind_is {n : NT} {q q2 : List Int} (h2 : FirstIs n (fromB q) (some q2)) : ¬ cmpL q2 q < 0 := by
  have := h2.2.1
  unfold fromB at this
  simp at this
  omega


set_option maxRecDepth 100000 in
set_option maxHeartbeats 8000000 in
theorem pbeside_law (w : World) (v : Value) (n : NT) (hM : sizeT n ≤ 1048576) (hN : ∃ d, NodeAt d w w.heap.size v n) (Q : Option Addr) (q : List Int) (lq cq : Nat) (hlq : q.length = lq) (hlq2 : lq ≤ 9223372036854775807) (hcq : lq ≤ cq) (hq : IL w w.heap.size Q q) (A : Option Addr) (p : List Int × Int) (c : Nat) (hl : p.1.length ≤ 9223372036854775807) (hc : p.1.length ≤ c) (hp : IL w w.heap.size A p.1) :
    Calls Try.prog 7 #[v, .slice Q lq cq, .agg #[.slice A p.1.length c, .int .i64 p.2]] w (AllTrue w) := by
  obtain ⟨d, hn⟩ := hN
  obtain ⟨lf, PA, np, pc, TA, nt, tc, KA, nk, kc, rfl⟩ := hn.val
  obtain ⟨W0, hW⟩ : ∃ W0, (w.alloc (.cells #[.bool lf, .slice PA np pc, .slice TA nt tc, .slice KA nk kc] 26)).alloc (.cells #[.slice A p.1.length c, .int .i64 p.2] 29) = W0 := ⟨_, rfl⟩
  have hb0 : Below w.heap.size w W0 := hW ▸ below_mono2 (Below.refl _ _) (Nat.le_refl _)
  have e0 := pt_new w (Obj.cells #[Value.bool lf, .slice PA np pc, .slice TA nt tc, .slice KA nk kc] 26) (Obj.cells #[Value.slice A p.1.length c, .int .i64 p.2] 29)
  rw [hW] at e0
  have HK := hd (show ∀ W, Below W0.heap.size W0 W → (W.cell? ⟨w.heap.size, 0, none⟩ = some (.bool lf) ∧ W.cell? ⟨w.heap.size, 1, none⟩ = some (.slice PA np pc) ∧ W.cell? ⟨w.heap.size, 2, none⟩ = some (.slice TA nt tc) ∧ W.cell? ⟨w.heap.size, 3, none⟩ = some (.slice KA nk kc) ∧ W.cell? ⟨w.heap.size + 1, 0, none⟩ = some (.slice A p.1.length c) ∧ W.cell? ⟨w.heap.size + 1, 1, none⟩ = some (.int .i64 p.2)) from fun W h => by
    have h1 := blkCells (keepBlk e0.1 h)
    have h2 := blk2 (keepBlk e0.2 h)
    exact ⟨h1.1, h1.2.1, h1.2.2.1, h1.2.2.2.1, h2.1, h2.2.1⟩)
  obtain ⟨n0, n1, n2, n3, p0, p1⟩ := HK.out _ (Below.refl _ _)
  have HW := hd hW
  have HB0 := hd hb0
  have HLV := hd (live7_any W0)
  obtain ⟨F, hF⟩ : ∃ F, fewB 150 n = F := ⟨_, rfl⟩
  have HFW := hd (fun (W : World) (h : Below W0.heap.size W0 W) => hF ▸ few_any d W _ n 150 (by unfold In64; omega) ((hn.later hb0).later h))
  obtain ⟨S, hS⟩ : ∃ S, S = shortB [(A, p.1.length, c, p.2)] := ⟨_, rfl⟩
  have HSH := hd (fun (W : World) => hS ▸ short_any W.heap.size [(A, p.1.length, c, p.2)] 1 (W.alloc (.cells #[.slice A p.1.length c, .int .i64 p.2] 29)) rfl (by omega) (by simp) (row_any (w := W) [(A, p.1.length, c, p.2)] _) (fun q hq => by simp at hq; rcases hq with rfl; assumption))
  have HSS := hd hS
  have HN := hd (hn.later hb0)
  have HI := hd hp
  have HIQ := hd hq
  have HLQ := hd hlq
  have HMM := hd hM
  clear hW hb0 e0 hn hF hS hp hq hlq hM
  cases F with
  | false =>
    have HPF := trivial
    have HPL := trivial
    go_enter Try.func7, Try.ntmps7
    go_wp2_with (first
      | (go_at_call 27; refine Calls.mono (HPL.out _ HB4.out) ?_; intro e w5 h5; obtain ⟨r2, hP2, A2, m2, c2, hm2, rfl, ho2, hb5⟩ := h5; have HP2 := hd hP2; have HM2 := hd hm2; have HO2 := hd ho2; have HB5 := hd (HB4.out.trans (hb5.mono HB4.out.size)); have HS5 := hd hb5; clear hP2 hm2 ho2 hb5)
      | (go_at_call 25; refine Calls.mono (HPF.out _ HB3.out) ?_; intro e w4 h4; obtain ⟨r1, hP1, A1, m1, c1, hm1, rfl, ho1, hb4⟩ := h4; have HP1 := hd hP1; have HM1 := hd hm1; have HO1 := hd ho1; have hb4' := HB3.out.trans (hb4.mono HB3.out.size); have HS4 := hd hb4; have HB4 := hd (hb4'.alloc hb4'.size (.cells #[.slice A1 m1 c1, .int .i64 (pO (offT n) r1).2] 29)); clear hP1 hm1 ho1 hb4 hb4' n0 n1 n2 n3 p0 p1; obtain ⟨n0, n1, n2, n3, p0, p1⟩ := HK.out _ HB4.out)
      | (go_at_call 11; refine (HSH.out _).mono ?_; rintro e w3 ⟨rfl, b3⟩; have HB3 := hd (HB2.out.trans ((ex_below b3).mono HB2.out.size)); clear b3 n0 n1 n2 n3 p0 p1; obtain ⟨n0, n1, n2, n3, p0, p1⟩ := HK.out _ HB3.out)
      | (go_at_call 10; refine Calls.mono (HFW.out _ HB1.out) ?_; rintro e w2 ⟨rfl, b2⟩; have HB2 := hd (HB1.out.trans (b2.mono HB1.out.size)); clear b2 n0 n1 n2 n3 p0 p1; obtain ⟨n0, n1, n2, n3, p0, p1⟩ := HK.out _ HB2.out)
      | (go_at_call 9; rw [HW.out]; refine HLV.out.mono ?_; rintro e w1 ⟨rfl, b1⟩; have HB1 := hd b1; clear b1 n0 n1 n2 n3 p0 p1; obtain ⟨n0, n1, n2, n3, p0, p1⟩ := HK.out _ HB1.out))
    exact bodyPost_ret (v := .bool true) (by simp [results, Try.results7, go_sem]) rfl ⟨rfl, HB0.out.trans (HB2.out.mono HB0.out.size)⟩
  | true =>
    cases S with
    | false =>
      have HPF := trivial
      have HPL := trivial
      go_enter Try.func7, Try.ntmps7
      go_wp2_with (first
        | (go_at_call 27; refine Calls.mono (HPL.out _ HB4.out) ?_; intro e w5 h5; obtain ⟨r2, hP2, A2, m2, c2, hm2, rfl, ho2, hb5⟩ := h5; have HP2 := hd hP2; have HM2 := hd hm2; have HO2 := hd ho2; have HB5 := hd (HB4.out.trans (hb5.mono HB4.out.size)); have HS5 := hd hb5; clear hP2 hm2 ho2 hb5)
        | (go_at_call 25; refine Calls.mono (HPF.out _ HB3.out) ?_; intro e w4 h4; obtain ⟨r1, hP1, A1, m1, c1, hm1, rfl, ho1, hb4⟩ := h4; have HP1 := hd hP1; have HM1 := hd hm1; have HO1 := hd ho1; have hb4' := HB3.out.trans (hb4.mono HB3.out.size); have HS4 := hd hb4; have HB4 := hd (hb4'.alloc hb4'.size (.cells #[.slice A1 m1 c1, .int .i64 (pO (offT n) r1).2] 29)); clear hP1 hm1 ho1 hb4 hb4' n0 n1 n2 n3 p0 p1; obtain ⟨n0, n1, n2, n3, p0, p1⟩ := HK.out _ HB4.out)
        | (go_at_call 11; refine (HSH.out _).mono ?_; rintro e w3 ⟨rfl, b3⟩; have HB3 := hd (HB2.out.trans ((ex_below b3).mono HB2.out.size)); clear b3 n0 n1 n2 n3 p0 p1; obtain ⟨n0, n1, n2, n3, p0, p1⟩ := HK.out _ HB3.out)
        | (go_at_call 10; refine Calls.mono (HFW.out _ HB1.out) ?_; rintro e w2 ⟨rfl, b2⟩; have HB2 := hd (HB1.out.trans (b2.mono HB1.out.size)); clear b2 n0 n1 n2 n3 p0 p1; obtain ⟨n0, n1, n2, n3, p0, p1⟩ := HK.out _ HB2.out)
        | (go_at_call 9; rw [HW.out]; refine HLV.out.mono ?_; rintro e w1 ⟨rfl, b1⟩; have HB1 := hd b1; clear b1 n0 n1 n2 n3 p0 p1; obtain ⟨n0, n1, n2, n3, p0, p1⟩ := HK.out _ HB1.out))
      exact bodyPost_ret (v := .bool true) (by simp [results, Try.results7, go_sem]) rfl ⟨rfl, HB0.out.trans (HB3.out.mono HB0.out.size)⟩
    | true =>
      by_cases h50 : lq ≤ 50
      · have hs : p.1.length ≤ 50 := by have := HSS.out.symm; unfold shortB at this; simpa using this
        have HPP := hd (show PtAt W0 (.agg #[.slice A p.1.length c, .int .i64 p.2]) p from ⟨A, _, c, rfl, rfl, by omega, hc, HI.out.later HB0.out⟩)
        have HPQ := hd (show PaAt W0 (.slice Q lq cq) q from ⟨Q, lq, cq, rfl, HLQ.out, by omega, hcq, HIQ.out.later HB0.out⟩)
        have HPF := hd (fun (W : World) (h : Below W0.heap.size W0 W) => pahead_any d W _ n Q q lq cq HLQ.out (by omega) hcq HMM.out (HN.out.later h) ((HIQ.out.later HB0.out).later h))
        have HPL := hd (fun (W : World) (h : Below W0.heap.size W0 W) => pbehind_any d W _ n Q q lq cq HLQ.out (by omega) hcq HMM.out (HN.out.later h) ((HIQ.out.later HB0.out).later h))
        clear hs HSS HI
        go_enter Try.func7, Try.ntmps7
        go_upto_region 7 with (first
          | (go_at_call 27; refine Calls.mono (HPL.out _ HB4.out) ?_; intro e w5 h5; obtain ⟨r2, hP2, A2, m2, c2, hm2, rfl, ho2, hb5⟩ := h5; have HP2 := hd hP2; have HM2 := hd hm2; have HO2 := hd ho2; have HB5 := hd (HB4.out.trans (hb5.mono HB4.out.size)); have HS5 := hd hb5; clear hP2 hm2 ho2 hb5)
          | (go_at_call 25; refine Calls.mono (HPF.out _ HB3.out) ?_; intro e w4 h4; obtain ⟨r1, hP1, A1, m1, c1, hm1, rfl, ho1, hb4⟩ := h4; have HP1 := hd hP1; have HM1 := hd hm1; have HO1 := hd ho1; have hb4' := HB3.out.trans (hb4.mono HB3.out.size); have HS4 := hd hb4; have HB4 := hd (hb4'.alloc hb4'.size (.cells #[.slice A1 m1 c1, .int .i64 (pO (offT n) r1).2] 29)); clear hP1 hm1 ho1 hb4 hb4' n0 n1 n2 n3 p0 p1; obtain ⟨n0, n1, n2, n3, p0, p1⟩ := HK.out _ HB4.out)
          | (go_at_call 11; refine (HSH.out _).mono ?_; rintro e w3 ⟨rfl, b3⟩; have HB3 := hd (HB2.out.trans ((ex_below b3).mono HB2.out.size)); clear b3 n0 n1 n2 n3 p0 p1; obtain ⟨n0, n1, n2, n3, p0, p1⟩ := HK.out _ HB3.out)
          | (go_at_call 10; refine Calls.mono (HFW.out _ HB1.out) ?_; rintro e w2 ⟨rfl, b2⟩; have HB2 := hd (HB1.out.trans (b2.mono HB1.out.size)); clear b2 n0 n1 n2 n3 p0 p1; obtain ⟨n0, n1, n2, n3, p0, p1⟩ := HK.out _ HB2.out)
          | (go_at_call 9; rw [HW.out]; refine HLV.out.mono ?_; rintro e w1 ⟨rfl, b1⟩; have HB1 := hd b1; clear b1 n0 n1 n2 n3 p0 p1; obtain ⟨n0, n1, n2, n3, p0, p1⟩ := HK.out _ HB1.out))
        obtain ⟨a, ha⟩ : ∃ a, pO (offT n) r1 = a := ⟨_, rfl⟩
        obtain ⟨b, hb⟩ : ∃ b, pO (fun _ => 0) r2 = b := ⟨_, rfl⟩
        obtain ⟨er1, he1⟩ : ∃ e, eO r1 = e := ⟨_, rfl⟩
        obtain ⟨er2, he2⟩ : ∃ e, eO r2 = e := ⟨_, rfl⟩
        have hsa : a.1.length ≤ 10000000 := by rw [← ha]; cases r1 with
          | none => simp [pO]
          | some q => have := leafB_short HP1.out.1; have := HMM.out; simp only [pO]; omega
        have hsb : b.1.length ≤ 10000000 := by rw [← hb]; cases r2 with
          | none => simp [pO]
          | some q => have := leafB_short HP2.out.1; have := HMM.out; simp only [pO]; omega
        rw [ha] at HS5 HB4 HO1 HM1 ⊢
        rw [hb] at HO2 HM2 ⊢
        rw [he1, he2]
        obtain ⟨W6, hW6⟩ : ∃ W6, W6 = w5.alloc (.cells #[.slice A2 m2 c2, .int .i64 b.2] 29) := ⟨_, rfl⟩
        rw [← hW6]
        have hb6 : Below w5.heap.size w5 W6 := hW6 ▸ (Below.refl _ _).alloc (Nat.le_refl _) _
        have hq6 := heap_alloc_new w5 (.cells #[.slice A2 m2 c2, .int .i64 b.2] 29)
        rw [← hW6] at hq6
        have hq4 := keepBlk (keepBlk (heap_alloc_new w4 (.cells #[.slice A1 m1 c1, .int .i64 a.2] 29)) HS5.out) hb6
        have hB6 : Below W0.heap.size W0 W6 := HB5.out.trans (hb6.mono HB5.out.size)
        have HB6 := hd hB6
        have HMK := hd (fun (W : World) (h : Below W6.heap.size W6 W) => And.intro (HK.out W (hB6.trans (h.mono hB6.size))) (And.intro (blk2 (keepBlk hq4 h)) (blk2 (keepBlk hq6 h))))
        have HPA := hd (show PtAt W6 (.agg #[.slice A1 m1 c1, .int .i64 a.2]) a from (((PtAt.of_new HO1.out hsa).later ((Below.refl _ _).alloc (Nat.le_refl _) _)).later HS5.out).later hb6)
        have HPB := hd (show PtAt W6 (.agg #[.slice A2 m2 c2, .int .i64 b.2]) b from (PtAt.of_new HO2.out hsb).later hb6)
        have HPP6 := hd (HPP.out.later hB6)
        have HQ6 := hd (HPQ.out.later hB6)
        have HN6 := hd (HN.out.later hB6)
        have HBc := hd (Below.refl W6.heap.size W6)
        clear hW6 hb6 hq6 hq4 hB6 HO1 HO2 HS5 HS4 HB5 HPF HPL HFW HSH HLV hsa hsb n0 n1 n2 n3 p0 p1 HM1 HM2 HB4
        obtain ⟨⟨n0, n1, n2, n3, p0, p1⟩, ⟨a0, a1, _, _⟩, b0, b1, _, _⟩ := HMK.out _ HBc.out
        obtain ⟨E, hE⟩ : ∃ E, chkP n p = E := ⟨_, rfl⟩
        obtain ⟨LP, hLP⟩ : ∃ L, cmpL p.1 q = L := ⟨_, rfl⟩
        obtain ⟨UP, hUP⟩ : ∃ U, aboveL p.1 q = U := ⟨_, rfl⟩
        obtain ⟨LA, hLA⟩ : ∃ L, cmpL a.1 q = L := ⟨_, rfl⟩
        obtain ⟨LB, hLB⟩ : ∃ L, cmpL b.1 q = L := ⟨_, rfl⟩
        obtain ⟨Y, hY⟩ : ∃ Y, cmpP b p = Y := ⟨_, rfl⟩
        obtain ⟨Z, hZ⟩ : ∃ Z, cmpP p a = Z := ⟨_, rfl⟩
        have HBH := hd (fun (h1 : E = 0) (h2 : 0 ≤ LP) => beside_behind HP2.out (hE.trans h1) (hLP ▸ h2))
        have HAH := hd (fun (h1 : E = 0) (h2 : ¬ 0 ≤ LP) (h3 : UP = false) => beside_ahead HP1.out (hE.trans h1) (hLP ▸ h2) (hUP.trans h3))
        cases r1 with
        | none =>
          cases r2 with
          | none =>
            have he1' : er1 = 14 := he1.symm
            have he2' : er2 = 14 := he2.symm
            subst he1' he2'
            clear he1 he2 ha hb
            by_cases hE0 : E = 0
            · by_cases hL0 : 0 ≤ LP
              · obtain ⟨q2', e2, hy⟩ := HBH.out hE0 hL0
                cases e2
              · cases UP with
                | true =>
                  subst hE0
                  clear HBH HAH
                  go_wp2_with (first
                    | (go_at_call 29; refine Calls.mono (cmp_at HBc.out (by first | exact HPA.out | exact HPB.out | exact HPP6.out) (by first | exact HPA.out | exact HPB.out | exact HPP6.out)) ?_; rintro e w9 ⟨rfl, b9⟩; have HBc := hd (HBc.out.trans (b9.mono HBc.out.size)); clear b9 n0 n1 n2 n3 p0 p1 a0 a1 b0 b1; obtain ⟨⟨n0, n1, n2, n3, p0, p1⟩, ⟨a0, a1, _, _⟩, b0, b1, _, _⟩ := HMK.out _ HBc.out)
                    | (go_at_call 12; refine Calls.mono (check_at HBc.out HN6.out (by first | exact HPA.out | exact HPB.out | exact HPP6.out)) ?_; rintro e w9 ⟨rfl, b9⟩; have HBc := hd (HBc.out.trans (b9.mono HBc.out.size)); clear b9 n0 n1 n2 n3 p0 p1 a0 a1 b0 b1; obtain ⟨⟨n0, n1, n2, n3, p0, p1⟩, ⟨a0, a1, _, _⟩, b0, b1, _, _⟩ := HMK.out _ HBc.out)
                    | (go_at_call 33; refine Calls.mono (tcmp_at HBc.out (by first | exact HPA.out.path | exact HPB.out.path | exact HPP6.out.path) HQ6.out) ?_; rintro e w9 ⟨rfl, b9⟩; have HBc := hd (HBc.out.trans (b9.mono HBc.out.size)); clear b9 n0 n1 n2 n3 p0 p1 a0 a1 b0 b1; obtain ⟨⟨n0, n1, n2, n3, p0, p1⟩, ⟨a0, a1, _, _⟩, b0, b1, _, _⟩ := HMK.out _ HBc.out)
                    | (go_at_call 34; refine Calls.mono (tabove_at HBc.out (by first | exact HPA.out.path | exact HPB.out.path | exact HPP6.out.path) HQ6.out) ?_; rintro e w9 ⟨rfl, b9⟩; have HBc := hd (HBc.out.trans (b9.mono HBc.out.size)); clear b9 n0 n1 n2 n3 p0 p1 a0 a1 b0 b1; obtain ⟨⟨n0, n1, n2, n3, p0, p1⟩, ⟨a0, a1, _, _⟩, b0, b1, _, _⟩ := HMK.out _ HBc.out))
                  exact bodyPost_ret (v := .bool true) (by simp [results, Try.results7, go_sem]) rfl ⟨rfl, HB0.out.trans ((HB6.out.trans (HBc.out.mono HB6.out.size)).mono HB0.out.size)⟩
                | false =>
                  obtain ⟨q1', e1, hz⟩ := HAH.out hE0 hL0 rfl
                  cases e1
            · have g1 : (E != 0) = true := by simpa using hE0
              clear hE0 HBH HAH
              go_wp2_with (first
                | (go_at_call 29; refine Calls.mono (cmp_at HBc.out (by first | exact HPA.out | exact HPB.out | exact HPP6.out) (by first | exact HPA.out | exact HPB.out | exact HPP6.out)) ?_; rintro e w9 ⟨rfl, b9⟩; have HBc := hd (HBc.out.trans (b9.mono HBc.out.size)); clear b9 n0 n1 n2 n3 p0 p1 a0 a1 b0 b1; obtain ⟨⟨n0, n1, n2, n3, p0, p1⟩, ⟨a0, a1, _, _⟩, b0, b1, _, _⟩ := HMK.out _ HBc.out)
                | (go_at_call 12; refine Calls.mono (check_at HBc.out HN6.out (by first | exact HPA.out | exact HPB.out | exact HPP6.out)) ?_; rintro e w9 ⟨rfl, b9⟩; have HBc := hd (HBc.out.trans (b9.mono HBc.out.size)); clear b9 n0 n1 n2 n3 p0 p1 a0 a1 b0 b1; obtain ⟨⟨n0, n1, n2, n3, p0, p1⟩, ⟨a0, a1, _, _⟩, b0, b1, _, _⟩ := HMK.out _ HBc.out)
                | (go_at_call 33; refine Calls.mono (tcmp_at HBc.out (by first | exact HPA.out.path | exact HPB.out.path | exact HPP6.out.path) HQ6.out) ?_; rintro e w9 ⟨rfl, b9⟩; have HBc := hd (HBc.out.trans (b9.mono HBc.out.size)); clear b9 n0 n1 n2 n3 p0 p1 a0 a1 b0 b1; obtain ⟨⟨n0, n1, n2, n3, p0, p1⟩, ⟨a0, a1, _, _⟩, b0, b1, _, _⟩ := HMK.out _ HBc.out)
                | (go_at_call 34; refine Calls.mono (tabove_at HBc.out (by first | exact HPA.out.path | exact HPB.out.path | exact HPP6.out.path) HQ6.out) ?_; rintro e w9 ⟨rfl, b9⟩; have HBc := hd (HBc.out.trans (b9.mono HBc.out.size)); clear b9 n0 n1 n2 n3 p0 p1 a0 a1 b0 b1; obtain ⟨⟨n0, n1, n2, n3, p0, p1⟩, ⟨a0, a1, _, _⟩, b0, b1, _, _⟩ := HMK.out _ HBc.out))
              exact bodyPost_ret (v := .bool true) (by simp [results, Try.results7, go_sem]) rfl ⟨rfl, HB0.out.trans ((HB6.out.trans (HBc.out.mono HB6.out.size)).mono HB0.out.size)⟩
          | some q2 =>
            have he1' : er1 = 14 := he1.symm
            have he2' : er2 = 0 := he2.symm
            have hb' : (q2, 0) = b := hb
            have cb : chkP n b = 0 := hb' ▸ chk_first HP2.out.1
            have lb : ¬ LB < 0 := by have := behind_is HP2.out; rw [← hLB, ← hb']; exact this
            have ob : (b.2 != 0) = false := by rw [← hb']; rfl
            subst he1' he2'
            clear he1 he2 ha hb
            by_cases hE0 : E = 0
            · by_cases hL0 : 0 ≤ LP
              · obtain ⟨q2', e2, hy⟩ := HBH.out hE0 hL0
                injection e2 with e2
                subst e2
                have hy2 : Y ≤ 0 := by rw [← hY, ← hb']; exact hy
                subst hE0
                clear hy hb' HBH HAH
                go_wp2_with (first
                  | (go_at_call 29; refine Calls.mono (cmp_at HBc.out (by first | exact HPA.out | exact HPB.out | exact HPP6.out) (by first | exact HPA.out | exact HPB.out | exact HPP6.out)) ?_; rintro e w9 ⟨rfl, b9⟩; have HBc := hd (HBc.out.trans (b9.mono HBc.out.size)); clear b9 n0 n1 n2 n3 p0 p1 a0 a1 b0 b1; obtain ⟨⟨n0, n1, n2, n3, p0, p1⟩, ⟨a0, a1, _, _⟩, b0, b1, _, _⟩ := HMK.out _ HBc.out)
                  | (go_at_call 12; refine Calls.mono (check_at HBc.out HN6.out (by first | exact HPA.out | exact HPB.out | exact HPP6.out)) ?_; rintro e w9 ⟨rfl, b9⟩; have HBc := hd (HBc.out.trans (b9.mono HBc.out.size)); clear b9 n0 n1 n2 n3 p0 p1 a0 a1 b0 b1; obtain ⟨⟨n0, n1, n2, n3, p0, p1⟩, ⟨a0, a1, _, _⟩, b0, b1, _, _⟩ := HMK.out _ HBc.out)
                  | (go_at_call 33; refine Calls.mono (tcmp_at HBc.out (by first | exact HPA.out.path | exact HPB.out.path | exact HPP6.out.path) HQ6.out) ?_; rintro e w9 ⟨rfl, b9⟩; have HBc := hd (HBc.out.trans (b9.mono HBc.out.size)); clear b9 n0 n1 n2 n3 p0 p1 a0 a1 b0 b1; obtain ⟨⟨n0, n1, n2, n3, p0, p1⟩, ⟨a0, a1, _, _⟩, b0, b1, _, _⟩ := HMK.out _ HBc.out)
                  | (go_at_call 34; refine Calls.mono (tabove_at HBc.out (by first | exact HPA.out.path | exact HPB.out.path | exact HPP6.out.path) HQ6.out) ?_; rintro e w9 ⟨rfl, b9⟩; have HBc := hd (HBc.out.trans (b9.mono HBc.out.size)); clear b9 n0 n1 n2 n3 p0 p1 a0 a1 b0 b1; obtain ⟨⟨n0, n1, n2, n3, p0, p1⟩, ⟨a0, a1, _, _⟩, b0, b1, _, _⟩ := HMK.out _ HBc.out))
                exact bodyPost_ret (v := .bool true) (by simp [results, Try.results7, go_sem]) rfl ⟨rfl, HB0.out.trans ((HB6.out.trans (HBc.out.mono HB6.out.size)).mono HB0.out.size)⟩
              · cases UP with
                | true =>
                  subst hE0
                  clear HBH HAH hb'
                  go_wp2_with (first
                    | (go_at_call 29; refine Calls.mono (cmp_at HBc.out (by first | exact HPA.out | exact HPB.out | exact HPP6.out) (by first | exact HPA.out | exact HPB.out | exact HPP6.out)) ?_; rintro e w9 ⟨rfl, b9⟩; have HBc := hd (HBc.out.trans (b9.mono HBc.out.size)); clear b9 n0 n1 n2 n3 p0 p1 a0 a1 b0 b1; obtain ⟨⟨n0, n1, n2, n3, p0, p1⟩, ⟨a0, a1, _, _⟩, b0, b1, _, _⟩ := HMK.out _ HBc.out)
                    | (go_at_call 12; refine Calls.mono (check_at HBc.out HN6.out (by first | exact HPA.out | exact HPB.out | exact HPP6.out)) ?_; rintro e w9 ⟨rfl, b9⟩; have HBc := hd (HBc.out.trans (b9.mono HBc.out.size)); clear b9 n0 n1 n2 n3 p0 p1 a0 a1 b0 b1; obtain ⟨⟨n0, n1, n2, n3, p0, p1⟩, ⟨a0, a1, _, _⟩, b0, b1, _, _⟩ := HMK.out _ HBc.out)
                    | (go_at_call 33; refine Calls.mono (tcmp_at HBc.out (by first | exact HPA.out.path | exact HPB.out.path | exact HPP6.out.path) HQ6.out) ?_; rintro e w9 ⟨rfl, b9⟩; have HBc := hd (HBc.out.trans (b9.mono HBc.out.size)); clear b9 n0 n1 n2 n3 p0 p1 a0 a1 b0 b1; obtain ⟨⟨n0, n1, n2, n3, p0, p1⟩, ⟨a0, a1, _, _⟩, b0, b1, _, _⟩ := HMK.out _ HBc.out)
                    | (go_at_call 34; refine Calls.mono (tabove_at HBc.out (by first | exact HPA.out.path | exact HPB.out.path | exact HPP6.out.path) HQ6.out) ?_; rintro e w9 ⟨rfl, b9⟩; have HBc := hd (HBc.out.trans (b9.mono HBc.out.size)); clear b9 n0 n1 n2 n3 p0 p1 a0 a1 b0 b1; obtain ⟨⟨n0, n1, n2, n3, p0, p1⟩, ⟨a0, a1, _, _⟩, b0, b1, _, _⟩ := HMK.out _ HBc.out))
                  exact bodyPost_ret (v := .bool true) (by simp [results, Try.results7, go_sem]) rfl ⟨rfl, HB0.out.trans ((HB6.out.trans (HBc.out.mono HB6.out.size)).mono HB0.out.size)⟩
                | false =>
                  obtain ⟨q1', e1, hz⟩ := HAH.out hE0 hL0 rfl
                  cases e1
            · have g1 : (E != 0) = true := by simpa using hE0
              clear hE0 HBH HAH hb'
              go_wp2_with (first
                | (go_at_call 29; refine Calls.mono (cmp_at HBc.out (by first | exact HPA.out | exact HPB.out | exact HPP6.out) (by first | exact HPA.out | exact HPB.out | exact HPP6.out)) ?_; rintro e w9 ⟨rfl, b9⟩; have HBc := hd (HBc.out.trans (b9.mono HBc.out.size)); clear b9 n0 n1 n2 n3 p0 p1 a0 a1 b0 b1; obtain ⟨⟨n0, n1, n2, n3, p0, p1⟩, ⟨a0, a1, _, _⟩, b0, b1, _, _⟩ := HMK.out _ HBc.out)
                | (go_at_call 12; refine Calls.mono (check_at HBc.out HN6.out (by first | exact HPA.out | exact HPB.out | exact HPP6.out)) ?_; rintro e w9 ⟨rfl, b9⟩; have HBc := hd (HBc.out.trans (b9.mono HBc.out.size)); clear b9 n0 n1 n2 n3 p0 p1 a0 a1 b0 b1; obtain ⟨⟨n0, n1, n2, n3, p0, p1⟩, ⟨a0, a1, _, _⟩, b0, b1, _, _⟩ := HMK.out _ HBc.out)
                | (go_at_call 33; refine Calls.mono (tcmp_at HBc.out (by first | exact HPA.out.path | exact HPB.out.path | exact HPP6.out.path) HQ6.out) ?_; rintro e w9 ⟨rfl, b9⟩; have HBc := hd (HBc.out.trans (b9.mono HBc.out.size)); clear b9 n0 n1 n2 n3 p0 p1 a0 a1 b0 b1; obtain ⟨⟨n0, n1, n2, n3, p0, p1⟩, ⟨a0, a1, _, _⟩, b0, b1, _, _⟩ := HMK.out _ HBc.out)
                | (go_at_call 34; refine Calls.mono (tabove_at HBc.out (by first | exact HPA.out.path | exact HPB.out.path | exact HPP6.out.path) HQ6.out) ?_; rintro e w9 ⟨rfl, b9⟩; have HBc := hd (HBc.out.trans (b9.mono HBc.out.size)); clear b9 n0 n1 n2 n3 p0 p1 a0 a1 b0 b1; obtain ⟨⟨n0, n1, n2, n3, p0, p1⟩, ⟨a0, a1, _, _⟩, b0, b1, _, _⟩ := HMK.out _ HBc.out))
              exact bodyPost_ret (v := .bool true) (by simp [results, Try.results7, go_sem]) rfl ⟨rfl, HB0.out.trans ((HB6.out.trans (HBc.out.mono HB6.out.size)).mono HB0.out.size)⟩
        | some q1 =>
          cases r2 with
          | none =>
            have he1' : er1 = 0 := he1.symm
            have ha' : (q1, offT n q1) = a := ha
            have ca : chkP n a = 0 := ha' ▸ chk_last HP1.out.1
            have la : ¬ 0 ≤ LA := by have := (ahead_is HP1.out).1; rw [← hLA, ← ha']; exact this
            have ua : aboveL a.1 q = false := by have := (ahead_is HP1.out).2; rw [← ha']; exact this
            have he2' : er2 = 14 := he2.symm
            subst he1' he2'
            clear he1 he2 ha hb
            by_cases hE0 : E = 0
            · by_cases hL0 : 0 ≤ LP
              · obtain ⟨q2', e2, hy⟩ := HBH.out hE0 hL0
                cases e2
              · cases UP with
                | true =>
                  subst hE0
                  clear HBH HAH ha'
                  go_wp2_with (first
                    | (go_at_call 29; refine Calls.mono (cmp_at HBc.out (by first | exact HPA.out | exact HPB.out | exact HPP6.out) (by first | exact HPA.out | exact HPB.out | exact HPP6.out)) ?_; rintro e w9 ⟨rfl, b9⟩; have HBc := hd (HBc.out.trans (b9.mono HBc.out.size)); clear b9 n0 n1 n2 n3 p0 p1 a0 a1 b0 b1; obtain ⟨⟨n0, n1, n2, n3, p0, p1⟩, ⟨a0, a1, _, _⟩, b0, b1, _, _⟩ := HMK.out _ HBc.out)
                    | (go_at_call 12; refine Calls.mono (check_at HBc.out HN6.out (by first | exact HPA.out | exact HPB.out | exact HPP6.out)) ?_; rintro e w9 ⟨rfl, b9⟩; have HBc := hd (HBc.out.trans (b9.mono HBc.out.size)); clear b9 n0 n1 n2 n3 p0 p1 a0 a1 b0 b1; obtain ⟨⟨n0, n1, n2, n3, p0, p1⟩, ⟨a0, a1, _, _⟩, b0, b1, _, _⟩ := HMK.out _ HBc.out)
                    | (go_at_call 33; refine Calls.mono (tcmp_at HBc.out (by first | exact HPA.out.path | exact HPB.out.path | exact HPP6.out.path) HQ6.out) ?_; rintro e w9 ⟨rfl, b9⟩; have HBc := hd (HBc.out.trans (b9.mono HBc.out.size)); clear b9 n0 n1 n2 n3 p0 p1 a0 a1 b0 b1; obtain ⟨⟨n0, n1, n2, n3, p0, p1⟩, ⟨a0, a1, _, _⟩, b0, b1, _, _⟩ := HMK.out _ HBc.out)
                    | (go_at_call 34; refine Calls.mono (tabove_at HBc.out (by first | exact HPA.out.path | exact HPB.out.path | exact HPP6.out.path) HQ6.out) ?_; rintro e w9 ⟨rfl, b9⟩; have HBc := hd (HBc.out.trans (b9.mono HBc.out.size)); clear b9 n0 n1 n2 n3 p0 p1 a0 a1 b0 b1; obtain ⟨⟨n0, n1, n2, n3, p0, p1⟩, ⟨a0, a1, _, _⟩, b0, b1, _, _⟩ := HMK.out _ HBc.out))
                  exact bodyPost_ret (v := .bool true) (by simp [results, Try.results7, go_sem]) rfl ⟨rfl, HB0.out.trans ((HB6.out.trans (HBc.out.mono HB6.out.size)).mono HB0.out.size)⟩
                | false =>
                  obtain ⟨q1', e1, hz⟩ := HAH.out hE0 hL0 rfl
                  injection e1 with e1
                  subst e1
                  have hz2 : Z ≤ 0 := by rw [← hZ, ← ha']; exact hz
                  subst hE0
                  clear hz ha' HBH HAH
                  go_wp2_with (first
                    | (go_at_call 29; refine Calls.mono (cmp_at HBc.out (by first | exact HPA.out | exact HPB.out | exact HPP6.out) (by first | exact HPA.out | exact HPB.out | exact HPP6.out)) ?_; rintro e w9 ⟨rfl, b9⟩; have HBc := hd (HBc.out.trans (b9.mono HBc.out.size)); clear b9 n0 n1 n2 n3 p0 p1 a0 a1 b0 b1; obtain ⟨⟨n0, n1, n2, n3, p0, p1⟩, ⟨a0, a1, _, _⟩, b0, b1, _, _⟩ := HMK.out _ HBc.out)
                    | (go_at_call 12; refine Calls.mono (check_at HBc.out HN6.out (by first | exact HPA.out | exact HPB.out | exact HPP6.out)) ?_; rintro e w9 ⟨rfl, b9⟩; have HBc := hd (HBc.out.trans (b9.mono HBc.out.size)); clear b9 n0 n1 n2 n3 p0 p1 a0 a1 b0 b1; obtain ⟨⟨n0, n1, n2, n3, p0, p1⟩, ⟨a0, a1, _, _⟩, b0, b1, _, _⟩ := HMK.out _ HBc.out)
                    | (go_at_call 33; refine Calls.mono (tcmp_at HBc.out (by first | exact HPA.out.path | exact HPB.out.path | exact HPP6.out.path) HQ6.out) ?_; rintro e w9 ⟨rfl, b9⟩; have HBc := hd (HBc.out.trans (b9.mono HBc.out.size)); clear b9 n0 n1 n2 n3 p0 p1 a0 a1 b0 b1; obtain ⟨⟨n0, n1, n2, n3, p0, p1⟩, ⟨a0, a1, _, _⟩, b0, b1, _, _⟩ := HMK.out _ HBc.out)
                    | (go_at_call 34; refine Calls.mono (tabove_at HBc.out (by first | exact HPA.out.path | exact HPB.out.path | exact HPP6.out.path) HQ6.out) ?_; rintro e w9 ⟨rfl, b9⟩; have HBc := hd (HBc.out.trans (b9.mono HBc.out.size)); clear b9 n0 n1 n2 n3 p0 p1 a0 a1 b0 b1; obtain ⟨⟨n0, n1, n2, n3, p0, p1⟩, ⟨a0, a1, _, _⟩, b0, b1, _, _⟩ := HMK.out _ HBc.out))
                  exact bodyPost_ret (v := .bool true) (by simp [results, Try.results7, go_sem]) rfl ⟨rfl, HB0.out.trans ((HB6.out.trans (HBc.out.mono HB6.out.size)).mono HB0.out.size)⟩
            · have g1 : (E != 0) = true := by simpa using hE0
              clear hE0 HBH HAH ha'
              go_wp2_with (first
                | (go_at_call 29; refine Calls.mono (cmp_at HBc.out (by first | exact HPA.out | exact HPB.out | exact HPP6.out) (by first | exact HPA.out | exact HPB.out | exact HPP6.out)) ?_; rintro e w9 ⟨rfl, b9⟩; have HBc := hd (HBc.out.trans (b9.mono HBc.out.size)); clear b9 n0 n1 n2 n3 p0 p1 a0 a1 b0 b1; obtain ⟨⟨n0, n1, n2, n3, p0, p1⟩, ⟨a0, a1, _, _⟩, b0, b1, _, _⟩ := HMK.out _ HBc.out)
                | (go_at_call 12; refine Calls.mono (check_at HBc.out HN6.out (by first | exact HPA.out | exact HPB.out | exact HPP6.out)) ?_; rintro e w9 ⟨rfl, b9⟩; have HBc := hd (HBc.out.trans (b9.mono HBc.out.size)); clear b9 n0 n1 n2 n3 p0 p1 a0 a1 b0 b1; obtain ⟨⟨n0, n1, n2, n3, p0, p1⟩, ⟨a0, a1, _, _⟩, b0, b1, _, _⟩ := HMK.out _ HBc.out)
                | (go_at_call 33; refine Calls.mono (tcmp_at HBc.out (by first | exact HPA.out.path | exact HPB.out.path | exact HPP6.out.path) HQ6.out) ?_; rintro e w9 ⟨rfl, b9⟩; have HBc := hd (HBc.out.trans (b9.mono HBc.out.size)); clear b9 n0 n1 n2 n3 p0 p1 a0 a1 b0 b1; obtain ⟨⟨n0, n1, n2, n3, p0, p1⟩, ⟨a0, a1, _, _⟩, b0, b1, _, _⟩ := HMK.out _ HBc.out)
                | (go_at_call 34; refine Calls.mono (tabove_at HBc.out (by first | exact HPA.out.path | exact HPB.out.path | exact HPP6.out.path) HQ6.out) ?_; rintro e w9 ⟨rfl, b9⟩; have HBc := hd (HBc.out.trans (b9.mono HBc.out.size)); clear b9 n0 n1 n2 n3 p0 p1 a0 a1 b0 b1; obtain ⟨⟨n0, n1, n2, n3, p0, p1⟩, ⟨a0, a1, _, _⟩, b0, b1, _, _⟩ := HMK.out _ HBc.out))
              exact bodyPost_ret (v := .bool true) (by simp [results, Try.results7, go_sem]) rfl ⟨rfl, HB0.out.trans ((HB6.out.trans (HBc.out.mono HB6.out.size)).mono HB0.out.size)⟩
          | some q2 =>
            have he1' : er1 = 0 := he1.symm
            have ha' : (q1, offT n q1) = a := ha
            have ca : chkP n a = 0 := ha' ▸ chk_last HP1.out.1
            have la : ¬ 0 ≤ LA := by have := (ahead_is HP1.out).1; rw [← hLA, ← ha']; exact this
            have ua : aboveL a.1 q = false := by have := (ahead_is HP1.out).2; rw [← ha']; exact this
            have he2' : er2 = 0 := he2.symm
            have hb' : (q2, 0) = b := hb
            have cb : chkP n b = 0 := hb' ▸ chk_first HP2.out.1
            have lb : ¬ LB < 0 := by have := behind_is HP2.out; rw [← hLB, ← hb']; exact this
            have ob : (b.2 != 0) = false := by rw [← hb']; rfl
            subst he1' he2'
            clear he1 he2 ha hb
            by_cases hE0 : E = 0
            · by_cases hL0 : 0 ≤ LP
              · obtain ⟨q2', e2, hy⟩ := HBH.out hE0 hL0
                injection e2 with e2
                subst e2
                have hy2 : Y ≤ 0 := by rw [← hY, ← hb']; exact hy
                subst hE0
                clear hy ha' hb' HBH HAH
                go_wp2_with (first
                  | (go_at_call 29; refine Calls.mono (cmp_at HBc.out (by first | exact HPA.out | exact HPB.out | exact HPP6.out) (by first | exact HPA.out | exact HPB.out | exact HPP6.out)) ?_; rintro e w9 ⟨rfl, b9⟩; have HBc := hd (HBc.out.trans (b9.mono HBc.out.size)); clear b9 n0 n1 n2 n3 p0 p1 a0 a1 b0 b1; obtain ⟨⟨n0, n1, n2, n3, p0, p1⟩, ⟨a0, a1, _, _⟩, b0, b1, _, _⟩ := HMK.out _ HBc.out)
                  | (go_at_call 12; refine Calls.mono (check_at HBc.out HN6.out (by first | exact HPA.out | exact HPB.out | exact HPP6.out)) ?_; rintro e w9 ⟨rfl, b9⟩; have HBc := hd (HBc.out.trans (b9.mono HBc.out.size)); clear b9 n0 n1 n2 n3 p0 p1 a0 a1 b0 b1; obtain ⟨⟨n0, n1, n2, n3, p0, p1⟩, ⟨a0, a1, _, _⟩, b0, b1, _, _⟩ := HMK.out _ HBc.out)
                  | (go_at_call 33; refine Calls.mono (tcmp_at HBc.out (by first | exact HPA.out.path | exact HPB.out.path | exact HPP6.out.path) HQ6.out) ?_; rintro e w9 ⟨rfl, b9⟩; have HBc := hd (HBc.out.trans (b9.mono HBc.out.size)); clear b9 n0 n1 n2 n3 p0 p1 a0 a1 b0 b1; obtain ⟨⟨n0, n1, n2, n3, p0, p1⟩, ⟨a0, a1, _, _⟩, b0, b1, _, _⟩ := HMK.out _ HBc.out)
                  | (go_at_call 34; refine Calls.mono (tabove_at HBc.out (by first | exact HPA.out.path | exact HPB.out.path | exact HPP6.out.path) HQ6.out) ?_; rintro e w9 ⟨rfl, b9⟩; have HBc := hd (HBc.out.trans (b9.mono HBc.out.size)); clear b9 n0 n1 n2 n3 p0 p1 a0 a1 b0 b1; obtain ⟨⟨n0, n1, n2, n3, p0, p1⟩, ⟨a0, a1, _, _⟩, b0, b1, _, _⟩ := HMK.out _ HBc.out))
                exact bodyPost_ret (v := .bool true) (by simp [results, Try.results7, go_sem]) rfl ⟨rfl, HB0.out.trans ((HB6.out.trans (HBc.out.mono HB6.out.size)).mono HB0.out.size)⟩
              · cases UP with
                | true =>
                  subst hE0
                  clear HBH HAH ha' hb'
                  go_wp2_with (first
                    | (go_at_call 29; refine Calls.mono (cmp_at HBc.out (by first | exact HPA.out | exact HPB.out | exact HPP6.out) (by first | exact HPA.out | exact HPB.out | exact HPP6.out)) ?_; rintro e w9 ⟨rfl, b9⟩; have HBc := hd (HBc.out.trans (b9.mono HBc.out.size)); clear b9 n0 n1 n2 n3 p0 p1 a0 a1 b0 b1; obtain ⟨⟨n0, n1, n2, n3, p0, p1⟩, ⟨a0, a1, _, _⟩, b0, b1, _, _⟩ := HMK.out _ HBc.out)
                    | (go_at_call 12; refine Calls.mono (check_at HBc.out HN6.out (by first | exact HPA.out | exact HPB.out | exact HPP6.out)) ?_; rintro e w9 ⟨rfl, b9⟩; have HBc := hd (HBc.out.trans (b9.mono HBc.out.size)); clear b9 n0 n1 n2 n3 p0 p1 a0 a1 b0 b1; obtain ⟨⟨n0, n1, n2, n3, p0, p1⟩, ⟨a0, a1, _, _⟩, b0, b1, _, _⟩ := HMK.out _ HBc.out)
                    | (go_at_call 33; refine Calls.mono (tcmp_at HBc.out (by first | exact HPA.out.path | exact HPB.out.path | exact HPP6.out.path) HQ6.out) ?_; rintro e w9 ⟨rfl, b9⟩; have HBc := hd (HBc.out.trans (b9.mono HBc.out.size)); clear b9 n0 n1 n2 n3 p0 p1 a0 a1 b0 b1; obtain ⟨⟨n0, n1, n2, n3, p0, p1⟩, ⟨a0, a1, _, _⟩, b0, b1, _, _⟩ := HMK.out _ HBc.out)
                    | (go_at_call 34; refine Calls.mono (tabove_at HBc.out (by first | exact HPA.out.path | exact HPB.out.path | exact HPP6.out.path) HQ6.out) ?_; rintro e w9 ⟨rfl, b9⟩; have HBc := hd (HBc.out.trans (b9.mono HBc.out.size)); clear b9 n0 n1 n2 n3 p0 p1 a0 a1 b0 b1; obtain ⟨⟨n0, n1, n2, n3, p0, p1⟩, ⟨a0, a1, _, _⟩, b0, b1, _, _⟩ := HMK.out _ HBc.out))
                  exact bodyPost_ret (v := .bool true) (by simp [results, Try.results7, go_sem]) rfl ⟨rfl, HB0.out.trans ((HB6.out.trans (HBc.out.mono HB6.out.size)).mono HB0.out.size)⟩
                | false =>
                  obtain ⟨q1', e1, hz⟩ := HAH.out hE0 hL0 rfl
                  injection e1 with e1
                  subst e1
                  have hz2 : Z ≤ 0 := by rw [← hZ, ← ha']; exact hz
                  subst hE0
                  clear hz ha' HBH HAH hb'
                  go_wp2_with (first
                    | (go_at_call 29; refine Calls.mono (cmp_at HBc.out (by first | exact HPA.out | exact HPB.out | exact HPP6.out) (by first | exact HPA.out | exact HPB.out | exact HPP6.out)) ?_; rintro e w9 ⟨rfl, b9⟩; have HBc := hd (HBc.out.trans (b9.mono HBc.out.size)); clear b9 n0 n1 n2 n3 p0 p1 a0 a1 b0 b1; obtain ⟨⟨n0, n1, n2, n3, p0, p1⟩, ⟨a0, a1, _, _⟩, b0, b1, _, _⟩ := HMK.out _ HBc.out)
                    | (go_at_call 12; refine Calls.mono (check_at HBc.out HN6.out (by first | exact HPA.out | exact HPB.out | exact HPP6.out)) ?_; rintro e w9 ⟨rfl, b9⟩; have HBc := hd (HBc.out.trans (b9.mono HBc.out.size)); clear b9 n0 n1 n2 n3 p0 p1 a0 a1 b0 b1; obtain ⟨⟨n0, n1, n2, n3, p0, p1⟩, ⟨a0, a1, _, _⟩, b0, b1, _, _⟩ := HMK.out _ HBc.out)
                    | (go_at_call 33; refine Calls.mono (tcmp_at HBc.out (by first | exact HPA.out.path | exact HPB.out.path | exact HPP6.out.path) HQ6.out) ?_; rintro e w9 ⟨rfl, b9⟩; have HBc := hd (HBc.out.trans (b9.mono HBc.out.size)); clear b9 n0 n1 n2 n3 p0 p1 a0 a1 b0 b1; obtain ⟨⟨n0, n1, n2, n3, p0, p1⟩, ⟨a0, a1, _, _⟩, b0, b1, _, _⟩ := HMK.out _ HBc.out)
                    | (go_at_call 34; refine Calls.mono (tabove_at HBc.out (by first | exact HPA.out.path | exact HPB.out.path | exact HPP6.out.path) HQ6.out) ?_; rintro e w9 ⟨rfl, b9⟩; have HBc := hd (HBc.out.trans (b9.mono HBc.out.size)); clear b9 n0 n1 n2 n3 p0 p1 a0 a1 b0 b1; obtain ⟨⟨n0, n1, n2, n3, p0, p1⟩, ⟨a0, a1, _, _⟩, b0, b1, _, _⟩ := HMK.out _ HBc.out))
                  exact bodyPost_ret (v := .bool true) (by simp [results, Try.results7, go_sem]) rfl ⟨rfl, HB0.out.trans ((HB6.out.trans (HBc.out.mono HB6.out.size)).mono HB0.out.size)⟩
            · have g1 : (E != 0) = true := by simpa using hE0
              clear hE0 HBH HAH ha' hb'
              go_wp2_with (first
                | (go_at_call 29; refine Calls.mono (cmp_at HBc.out (by first | exact HPA.out | exact HPB.out | exact HPP6.out) (by first | exact HPA.out | exact HPB.out | exact HPP6.out)) ?_; rintro e w9 ⟨rfl, b9⟩; have HBc := hd (HBc.out.trans (b9.mono HBc.out.size)); clear b9 n0 n1 n2 n3 p0 p1 a0 a1 b0 b1; obtain ⟨⟨n0, n1, n2, n3, p0, p1⟩, ⟨a0, a1, _, _⟩, b0, b1, _, _⟩ := HMK.out _ HBc.out)
                | (go_at_call 12; refine Calls.mono (check_at HBc.out HN6.out (by first | exact HPA.out | exact HPB.out | exact HPP6.out)) ?_; rintro e w9 ⟨rfl, b9⟩; have HBc := hd (HBc.out.trans (b9.mono HBc.out.size)); clear b9 n0 n1 n2 n3 p0 p1 a0 a1 b0 b1; obtain ⟨⟨n0, n1, n2, n3, p0, p1⟩, ⟨a0, a1, _, _⟩, b0, b1, _, _⟩ := HMK.out _ HBc.out)
                | (go_at_call 33; refine Calls.mono (tcmp_at HBc.out (by first | exact HPA.out.path | exact HPB.out.path | exact HPP6.out.path) HQ6.out) ?_; rintro e w9 ⟨rfl, b9⟩; have HBc := hd (HBc.out.trans (b9.mono HBc.out.size)); clear b9 n0 n1 n2 n3 p0 p1 a0 a1 b0 b1; obtain ⟨⟨n0, n1, n2, n3, p0, p1⟩, ⟨a0, a1, _, _⟩, b0, b1, _, _⟩ := HMK.out _ HBc.out)
                | (go_at_call 34; refine Calls.mono (tabove_at HBc.out (by first | exact HPA.out.path | exact HPB.out.path | exact HPP6.out.path) HQ6.out) ?_; rintro e w9 ⟨rfl, b9⟩; have HBc := hd (HBc.out.trans (b9.mono HBc.out.size)); clear b9 n0 n1 n2 n3 p0 p1 a0 a1 b0 b1; obtain ⟨⟨n0, n1, n2, n3, p0, p1⟩, ⟨a0, a1, _, _⟩, b0, b1, _, _⟩ := HMK.out _ HBc.out))
              exact bodyPost_ret (v := .bool true) (by simp [results, Try.results7, go_sem]) rfl ⟨rfl, HB0.out.trans ((HB6.out.trans (HBc.out.mono HB6.out.size)).mono HB0.out.size)⟩
      · have HPF := trivial
        have HPL := trivial
        go_enter Try.func7, Try.ntmps7
        go_wp2_with (first
          | (go_at_call 27; refine Calls.mono (HPL.out _ HB4.out) ?_; intro e w5 h5; obtain ⟨r2, hP2, A2, m2, c2, hm2, rfl, ho2, hb5⟩ := h5; have HP2 := hd hP2; have HM2 := hd hm2; have HO2 := hd ho2; have HB5 := hd (HB4.out.trans (hb5.mono HB4.out.size)); have HS5 := hd hb5; clear hP2 hm2 ho2 hb5)
          | (go_at_call 25; refine Calls.mono (HPF.out _ HB3.out) ?_; intro e w4 h4; obtain ⟨r1, hP1, A1, m1, c1, hm1, rfl, ho1, hb4⟩ := h4; have HP1 := hd hP1; have HM1 := hd hm1; have HO1 := hd ho1; have hb4' := HB3.out.trans (hb4.mono HB3.out.size); have HS4 := hd hb4; have HB4 := hd (hb4'.alloc hb4'.size (.cells #[.slice A1 m1 c1, .int .i64 (pO (offT n) r1).2] 29)); clear hP1 hm1 ho1 hb4 hb4' n0 n1 n2 n3 p0 p1; obtain ⟨n0, n1, n2, n3, p0, p1⟩ := HK.out _ HB4.out)
          | (go_at_call 11; refine (HSH.out _).mono ?_; rintro e w3 ⟨rfl, b3⟩; have HB3 := hd (HB2.out.trans ((ex_below b3).mono HB2.out.size)); clear b3 n0 n1 n2 n3 p0 p1; obtain ⟨n0, n1, n2, n3, p0, p1⟩ := HK.out _ HB3.out)
          | (go_at_call 10; refine Calls.mono (HFW.out _ HB1.out) ?_; rintro e w2 ⟨rfl, b2⟩; have HB2 := hd (HB1.out.trans (b2.mono HB1.out.size)); clear b2 n0 n1 n2 n3 p0 p1; obtain ⟨n0, n1, n2, n3, p0, p1⟩ := HK.out _ HB2.out)
          | (go_at_call 9; rw [HW.out]; refine HLV.out.mono ?_; rintro e w1 ⟨rfl, b1⟩; have HB1 := hd b1; clear b1 n0 n1 n2 n3 p0 p1; obtain ⟨n0, n1, n2, n3, p0, p1⟩ := HK.out _ HB1.out))
        exact bodyPost_ret (v := .bool true) (by simp [results, Try.results7, go_sem]) rfl ⟨rfl, HB0.out.trans (HB3.out.mono HB0.out.size)⟩

end Go.Proofs.Ytjolmnghoigggaa
