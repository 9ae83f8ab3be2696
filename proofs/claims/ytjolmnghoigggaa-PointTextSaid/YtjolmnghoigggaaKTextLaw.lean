/- PointText answers true. -/
import Derived.Test.YtjolmnghoigggaaKSel
namespace Go.Proofs.Ytjolmnghoigggaa
open Go.RowKit

/-- How many gaps there are below an Off. -/
def cntG (lf : Bool) (len : Nat) (o : Int) : Int := if lf = true then (if o ≤ 0 then 0 else if (len : Int) + 1 ≤ o then (len : Int) + 1 else o) else 0


set_option maxRecDepth 100000 in
set_option maxHeartbeats 8000000 in
theorem ptext_law (w : World) (v : Value) (n : NT) (hN : ∃ d, NodeAt d w w.heap.size v n) (A : Option Addr) (q : List Int) (lq c : Nat) (hlq : q.length = lq) (hl : lq ≤ 9223372036854775807) (hc : lq ≤ c) (hq : IL w w.heap.size A q) :
    Calls Try.prog 8 #[v, .slice A lq c] w (AllTrue w) := by
  obtain ⟨d, hn⟩ := hN
  obtain ⟨lf, PA, np, pc, TA, nt, tc, KA, nk, kc, rfl⟩ := hn.val
  obtain ⟨W0, hW⟩ : ∃ W0, w.alloc (.cells #[.bool lf, .slice PA np pc, .slice TA nt tc, .slice KA nk kc] 26) = W0 := ⟨_, rfl⟩
  have hb0 : Below w.heap.size w W0 := hW ▸ (Below.refl _ _).alloc (Nat.le_refl _) _
  have e0 := heap_alloc_new w (.cells #[.bool lf, .slice PA np pc, .slice TA nt tc, .slice KA nk kc] 26)
  rw [hW] at e0
  have HK := hd (show ∀ W, Below W0.heap.size W0 W → (W.cell? ⟨w.heap.size, 0, none⟩ = some (.bool lf) ∧ W.cell? ⟨w.heap.size, 1, none⟩ = some (.slice PA np pc) ∧ W.cell? ⟨w.heap.size, 2, none⟩ = some (.slice TA nt tc) ∧ W.cell? ⟨w.heap.size, 3, none⟩ = some (.slice KA nk kc)) from fun W h => by
    have h1 := blkCells (keepBlk e0 h)
    exact ⟨h1.1, h1.2.1, h1.2.2.1, h1.2.2.2.1⟩)
  obtain ⟨n0, n1, n2, n3⟩ := HK.out _ (Below.refl _ _)
  have HW := hd hW
  have HB0 := hd hb0
  have HLV := hd (live7_any W0)
  obtain ⟨F, hF⟩ : ∃ F, fewB 150 n = F := ⟨_, rfl⟩
  have HFW := hd (fun (W : World) (h : Below W0.heap.size W0 W) => hF ▸ few_any d W _ n 150 (by unfold In64; omega) ((hn.later hb0).later h))
  have HN := hd (hn.later hb0)
  have HQ := hd (hq.later hb0)
  have HQL := hd hlq
  clear hW hb0 e0 hn hF hq hlq
  cases F with
  | false =>
    have HGT := trivial
    have HM1 := trivial
    go_enter Try.func8, Try.ntmps8
    go_wp2_with (first
      | (go_at_call 35; refine Calls.mono (HGT.out _ HB2.out) ?_; intro e w3 h3; obtain ⟨v3, d3, rfl, ht3, hb3⟩ := h3; obtain ⟨d', lf1, ps1, tx1, ks1, PA1, pc1, TA1, tc1, KA1, kc1, _, hm1, rfl, _, _, hf1, _⟩ := (ht3.at_ (B := w3.heap.size) (fun b hb => hb.2)).open_; have hm1' := HM1.out _ hm1; clear hm1; injection hm1' with e1 e2 e3 e4; subst e1 e2 e3 e4; have hf2 := hf1.2.2.1; have HB3 := hd (HB2.out.trans (hb3.mono HB2.out.size)); clear ht3 hb3 hf1)
      | (go_at_call 10; refine Calls.mono (HFW.out _ HB1.out) ?_; rintro e w2 ⟨rfl, b2⟩; have HB2 := hd (HB1.out.trans (b2.mono HB1.out.size)); clear b2 n0 n1 n2 n3; obtain ⟨n0, n1, n2, n3⟩ := HK.out _ HB2.out)
      | (go_at_call 9; rw [HW.out]; refine HLV.out.mono ?_; rintro e w1 ⟨rfl, b1⟩; have HB1 := hd b1; clear b1 n0 n1 n2 n3; obtain ⟨n0, n1, n2, n3⟩ := HK.out _ HB1.out))
    exact bodyPost_ret (v := .bool true) (by simp [results, Try.results8, go_sem]) rfl ⟨rfl, HB0.out.trans (HB2.out.mono HB0.out.size)⟩
  | true =>
    by_cases h50 : lq ≤ 50
    · have hG := fun (W : World) (h : Below W0.heap.size W0 W) => tget_any d W _ n A q lq c HQL.out (by omega) (HN.out.later h) (HQ.out.later h)
      cases hg : getO n q with
      | none =>
        have hX : ∀ o, chkP n (q, o) = 5 := fun o => by unfold chkP; simp only [hg]
        rw [getE_none hg] at hG
        have HGT := hd hG
        have HX := hd hX
        have HM1 := hd (show ∀ m : NT, ((zeroT, 5) : NT × Int).1 = m → NT.mk false [] [] [] = m from fun _ h => h)
        clear hg hG hX
        go_enter Try.func8, Try.ntmps8
        go_upto_region 6 with (first
          | (go_at_call 35; refine Calls.mono (HGT.out _ HB2.out) ?_; intro e w3 h3; obtain ⟨v3, d3, rfl, ht3, hb3⟩ := h3; obtain ⟨d', lf1, ps1, tx1, ks1, PA1, pc1, TA1, tc1, KA1, kc1, _, hm1, rfl, _, _, hf1, _⟩ := (ht3.at_ (B := w3.heap.size) (fun b hb => hb.2)).open_; have hm1' := HM1.out _ hm1; clear hm1; injection hm1' with e1 e2 e3 e4; subst e1 e2 e3 e4; have hf2 := hf1.2.2.1; have HB3 := hd (HB2.out.trans (hb3.mono HB2.out.size)); clear ht3 hb3 hf1)
          | (go_at_call 10; refine Calls.mono (HFW.out _ HB1.out) ?_; rintro e w2 ⟨rfl, b2⟩; have HB2 := hd (HB1.out.trans (b2.mono HB1.out.size)); clear b2 n0 n1 n2 n3; obtain ⟨n0, n1, n2, n3⟩ := HK.out _ HB2.out)
          | (go_at_call 9; rw [HW.out]; refine HLV.out.mono ?_; rintro e w1 ⟨rfl, b1⟩; have HB1 := hd b1; clear b1 n0 n1 n2 n3; obtain ⟨n0, n1, n2, n3⟩ := HK.out _ HB1.out))
        obtain ⟨W4, hW4⟩ : ∃ W4, W4 = w3.alloc (.cells #[.bool false, .slice PA1 0 pc1, .slice TA1 0 tc1, .slice KA1 0 kc1] 26) := ⟨_, rfl⟩
        rw [← hW4]
        have hb4 : Below w3.heap.size w3 W4 := hW4 ▸ (Below.refl _ _).alloc (Nat.le_refl _) _
        have hq4 := heap_alloc_new w3 (.cells #[.bool false, .slice PA1 0 pc1, .slice TA1 0 tc1, .slice KA1 0 kc1] 26)
        rw [← hW4] at hq4
        have hB0 : Below W0.heap.size W0 W4 := HB3.out.trans (hb4.mono HB3.out.size)
        have HB4 := hd hB0
        have HK4 := hd (fun (W : World) (h : Below W4.heap.size W4 W) => And.intro (HK.out W (hB0.trans (h.mono hB0.size))) (blkCells (keepBlk hq4 h)))
        clear hW4 hb4 hq4 hB0 n0 n1 n2 n3
        go_wp2
        go_loopw [7, 8] (fun m o wr => ∃ k : Int, m = .int .i64 0 ∧ o = .int .i64 k ∧ -2 ≤ k ∧ k ≤ (0 : Int) + 3 ∧ Hid (Below W4.heap.size W4 wr)) (fun _ o _ => ((0 : Int) + 3 - intOf o).toNat)
        case atStart => exact ⟨-2, rfl, rfl, by omega, by omega, hd (Below.refl _ _)⟩
        case round =>
          obtain ⟨o, rfl, rfl, h1, h2, HR⟩ := hrel
          obtain ⟨⟨n0, n1, n2, n3⟩, k0, k1, k2, k3, _, _, _, _⟩ := HK4.out _ HR.out
          by_cases hk : o ≤ (0 : Int) + 2
          · have HF := hd (HX.out o)
            have HCK := hd (show Calls Try.prog 12 #[.agg #[.bool lf, .slice PA np pc, .slice TA nt tc, .slice KA nk kc], .agg #[.slice A lq c, .int .i64 o]] wr (Still (.int .i64 5) wr) from HF.out ▸ check_at (w := W0) (W := wr) (p := (q, o)) (HB4.out.trans (HR.out.mono HB4.out.size)) HN.out ⟨A, lq, c, rfl, HQL.out, by omega, hc, HQ.out⟩)
            go_wp2_with (go_at_call 12; refine HCK.out.mono ?_; rintro e w6 ⟨rfl, b6⟩; have HR6 := hd (HR.out.trans (b6.mono HR.out.size)); clear b6 n0 n1 n2 n3 k0 k1 k2 k3; obtain ⟨⟨n0, n1, n2, n3⟩, k0, k1, k2, k3, _, _, _, _⟩ := HK4.out _ HR6.out)
            go_roundw
            case rel => exact ⟨o + 1, rfl, by first | rfl | go_num, by omega, by omega, HR6⟩
            case measure => first | (simp [intOf]; done) | (simp [intOf]; omega)
          · have hk2 : ¬ o ≤ (0 : Int) + 2 := hk
            go_wp2
            exact bodyPost_ret (v := .bool true) (by simp [results, Try.results8, go_sem]) rfl ⟨rfl, HB0.out.trans ((HB4.out.trans (HR.out.mono HB4.out.size)).mono HB0.out.size)⟩
      | some m =>
        cases m with
        | mk ml mp mx mk =>
          have hX0 : ∀ o, chkP n (q, o) = if ml = false then 7 else if o < 0 ∨ (mx.length : Int) < o then 8 else 0 := fun o => by unfold chkP; simp only [hg]; rfl
          rw [getE_some hg] at hG
          have HGT := hd hG
          cases ml with
          | false =>
            have HX := hd (fun o => (hX0 o).trans (if_pos rfl))
            have HM1 := hd (show ∀ m : NT, ((NT.mk false mp mx mk, 0) : NT × Int).1 = m → NT.mk false mp mx mk = m from fun _ h => h)
            clear hg hG hX0
            go_enter Try.func8, Try.ntmps8
            go_upto_region 6 with (first
              | (go_at_call 35; refine Calls.mono (HGT.out _ HB2.out) ?_; intro e w3 h3; obtain ⟨v3, d3, rfl, ht3, hb3⟩ := h3; obtain ⟨d', lf1, ps1, tx1, ks1, PA1, pc1, TA1, tc1, KA1, kc1, _, hm1, rfl, _, _, hf1, _⟩ := (ht3.at_ (B := w3.heap.size) (fun b hb => hb.2)).open_; have hm1' := HM1.out _ hm1; clear hm1; injection hm1' with e1 e2 e3 e4; subst e1 e2 e3 e4; have hf2 := hf1.2.2.1; have HB3 := hd (HB2.out.trans (hb3.mono HB2.out.size)); clear ht3 hb3 hf1)
              | (go_at_call 10; refine Calls.mono (HFW.out _ HB1.out) ?_; rintro e w2 ⟨rfl, b2⟩; have HB2 := hd (HB1.out.trans (b2.mono HB1.out.size)); clear b2 n0 n1 n2 n3; obtain ⟨n0, n1, n2, n3⟩ := HK.out _ HB2.out)
              | (go_at_call 9; rw [HW.out]; refine HLV.out.mono ?_; rintro e w1 ⟨rfl, b1⟩; have HB1 := hd b1; clear b1 n0 n1 n2 n3; obtain ⟨n0, n1, n2, n3⟩ := HK.out _ HB1.out))
            obtain ⟨W4, hW4⟩ : ∃ W4, W4 = w3.alloc (.cells #[.bool false, .slice PA1 mp.length pc1, .slice TA1 mx.length tc1, .slice KA1 mk.length kc1] 26) := ⟨_, rfl⟩
            rw [← hW4]
            have hb4 : Below w3.heap.size w3 W4 := hW4 ▸ (Below.refl _ _).alloc (Nat.le_refl _) _
            have hq4 := heap_alloc_new w3 (.cells #[.bool false, .slice PA1 mp.length pc1, .slice TA1 mx.length tc1, .slice KA1 mk.length kc1] 26)
            rw [← hW4] at hq4
            have hB0 : Below W0.heap.size W0 W4 := HB3.out.trans (hb4.mono HB3.out.size)
            have HB4 := hd hB0
            have HK4 := hd (fun (W : World) (h : Below W4.heap.size W4 W) => And.intro (HK.out W (hB0.trans (h.mono hB0.size))) (blkCells (keepBlk hq4 h)))
            clear hW4 hb4 hq4 hB0 n0 n1 n2 n3
            go_wp2
            go_loopw [7, 8] (fun m o wr => ∃ k : Int, m = .int .i64 0 ∧ o = .int .i64 k ∧ -2 ≤ k ∧ k ≤ (mx.length : Int) + 3 ∧ Hid (Below W4.heap.size W4 wr)) (fun _ o _ => ((mx.length : Int) + 3 - intOf o).toNat)
            case atStart => exact ⟨-2, rfl, rfl, by omega, by omega, hd (Below.refl _ _)⟩
            case round =>
              obtain ⟨o, rfl, rfl, h1, h2, HR⟩ := hrel
              obtain ⟨⟨n0, n1, n2, n3⟩, k0, k1, k2, k3, _, _, _, _⟩ := HK4.out _ HR.out
              by_cases hk : o ≤ (mx.length : Int) + 2
              · have HF := hd (HX.out o)
                have HCK := hd (show Calls Try.prog 12 #[.agg #[.bool lf, .slice PA np pc, .slice TA nt tc, .slice KA nk kc], .agg #[.slice A lq c, .int .i64 o]] wr (Still (.int .i64 7) wr) from HF.out ▸ check_at (w := W0) (W := wr) (p := (q, o)) (HB4.out.trans (HR.out.mono HB4.out.size)) HN.out ⟨A, lq, c, rfl, HQL.out, by omega, hc, HQ.out⟩)
                go_wp2_with (go_at_call 12; refine HCK.out.mono ?_; rintro e w6 ⟨rfl, b6⟩; have HR6 := hd (HR.out.trans (b6.mono HR.out.size)); clear b6 n0 n1 n2 n3 k0 k1 k2 k3; obtain ⟨⟨n0, n1, n2, n3⟩, k0, k1, k2, k3, _, _, _, _⟩ := HK4.out _ HR6.out)
                go_roundw
                case rel => exact ⟨o + 1, rfl, by first | rfl | go_num, by omega, by omega, HR6⟩
                case measure => first | (simp [intOf]; done) | (simp [intOf]; omega)
              · have hk2 : ¬ o ≤ (mx.length : Int) + 2 := hk
                go_wp2
                exact bodyPost_ret (v := .bool true) (by simp [results, Try.results8, go_sem]) rfl ⟨rfl, HB0.out.trans ((HB4.out.trans (HR.out.mono HB4.out.size)).mono HB0.out.size)⟩
          | true =>
            have HX := hd (fun o => (hX0 o).trans (if_neg (by simp)))
            have HM1 := hd (show ∀ m : NT, ((NT.mk true mp mx mk, 0) : NT × Int).1 = m → NT.mk true mp mx mk = m from fun _ h => h)
            clear hg hG hX0
            go_enter Try.func8, Try.ntmps8
            go_upto_region 6 with (first
              | (go_at_call 35; refine Calls.mono (HGT.out _ HB2.out) ?_; intro e w3 h3; obtain ⟨v3, d3, rfl, ht3, hb3⟩ := h3; obtain ⟨d', lf1, ps1, tx1, ks1, PA1, pc1, TA1, tc1, KA1, kc1, _, hm1, rfl, _, _, hf1, _⟩ := (ht3.at_ (B := w3.heap.size) (fun b hb => hb.2)).open_; have hm1' := HM1.out _ hm1; clear hm1; injection hm1' with e1 e2 e3 e4; subst e1 e2 e3 e4; have hf2 := hf1.2.2.1; have HB3 := hd (HB2.out.trans (hb3.mono HB2.out.size)); clear ht3 hb3 hf1)
              | (go_at_call 10; refine Calls.mono (HFW.out _ HB1.out) ?_; rintro e w2 ⟨rfl, b2⟩; have HB2 := hd (HB1.out.trans (b2.mono HB1.out.size)); clear b2 n0 n1 n2 n3; obtain ⟨n0, n1, n2, n3⟩ := HK.out _ HB2.out)
              | (go_at_call 9; rw [HW.out]; refine HLV.out.mono ?_; rintro e w1 ⟨rfl, b1⟩; have HB1 := hd b1; clear b1 n0 n1 n2 n3; obtain ⟨n0, n1, n2, n3⟩ := HK.out _ HB1.out))
            obtain ⟨W4, hW4⟩ : ∃ W4, W4 = w3.alloc (.cells #[.bool true, .slice PA1 mp.length pc1, .slice TA1 mx.length tc1, .slice KA1 mk.length kc1] 26) := ⟨_, rfl⟩
            rw [← hW4]
            have hb4 : Below w3.heap.size w3 W4 := hW4 ▸ (Below.refl _ _).alloc (Nat.le_refl _) _
            have hq4 := heap_alloc_new w3 (.cells #[.bool true, .slice PA1 mp.length pc1, .slice TA1 mx.length tc1, .slice KA1 mk.length kc1] 26)
            rw [← hW4] at hq4
            have hB0 : Below W0.heap.size W0 W4 := HB3.out.trans (hb4.mono HB3.out.size)
            have HB4 := hd hB0
            have HK4 := hd (fun (W : World) (h : Below W4.heap.size W4 W) => And.intro (HK.out W (hB0.trans (h.mono hB0.size))) (blkCells (keepBlk hq4 h)))
            clear hW4 hb4 hq4 hB0 n0 n1 n2 n3
            go_wp2
            go_loopw [7, 8] (fun m o wr => ∃ k : Int, m = .int .i64 (cntG true mx.length k) ∧ o = .int .i64 k ∧ -2 ≤ k ∧ k ≤ (mx.length : Int) + 3 ∧ Hid (Below W4.heap.size W4 wr)) (fun _ o _ => ((mx.length : Int) + 3 - intOf o).toNat)
            case atStart => exact ⟨-2, rfl, rfl, by omega, by omega, hd (Below.refl _ _)⟩
            case round =>
              obtain ⟨o, rfl, rfl, h1, h2, HR⟩ := hrel
              obtain ⟨⟨n0, n1, n2, n3⟩, k0, k1, k2, k3, _, _, _, _⟩ := HK4.out _ HR.out
              obtain ⟨M, hM⟩ : ∃ M, M = cntG true mx.length o := ⟨_, rfl⟩
              rw [← hM]
              have hM1 : M = if o ≤ 0 then 0 else if (mx.length : Int) + 1 ≤ o then (mx.length : Int) + 1 else o := hM
              have hM2 : 0 ≤ M := by rw [hM1]; split; omega; split <;> omega
              have hM3 : M ≤ (mx.length : Int) + 1 := by rw [hM1]; split; omega; split <;> omega
              by_cases hk : o ≤ (mx.length : Int) + 2
              · by_cases hv : 0 ≤ o ∧ o ≤ (mx.length : Int)
                · have HF := hd ((HX.out o).trans (if_neg (by omega)))
                  have HE := hd (show M + 1 = cntG true mx.length (o + 1) by
                    rw [hM1]; unfold cntG; rw [if_pos rfl]; split <;> split <;> (try split) <;> (try split) <;> omega)
                  clear hM hM1
                  have HCK := hd (show Calls Try.prog 12 #[.agg #[.bool lf, .slice PA np pc, .slice TA nt tc, .slice KA nk kc], .agg #[.slice A lq c, .int .i64 o]] wr (Still (.int .i64 0) wr) from HF.out ▸ check_at (w := W0) (W := wr) (p := (q, o)) (HB4.out.trans (HR.out.mono HB4.out.size)) HN.out ⟨A, lq, c, rfl, HQL.out, by omega, hc, HQ.out⟩)
                  go_wp2_with (go_at_call 12; refine HCK.out.mono ?_; rintro e w6 ⟨rfl, b6⟩; have HR6 := hd (HR.out.trans (b6.mono HR.out.size)); clear b6 n0 n1 n2 n3 k0 k1 k2 k3; obtain ⟨⟨n0, n1, n2, n3⟩, k0, k1, k2, k3, _, _, _, _⟩ := HK4.out _ HR6.out)
                  go_roundw
                  case rel => exact ⟨o + 1, by rw [HE.out], by first | rfl | go_num, by omega, by omega, HR6⟩
                  case measure => first | (simp [intOf]; done) | (simp [intOf]; omega)
                · have HF := hd ((HX.out o).trans (if_pos (by omega)))
                  have HE := hd (show M = cntG true mx.length (o + 1) by
                    rw [hM1]; unfold cntG; rw [if_pos rfl]; split <;> split <;> (try split) <;> (try split) <;> omega)
                  clear hM hM1
                  have HCK := hd (show Calls Try.prog 12 #[.agg #[.bool lf, .slice PA np pc, .slice TA nt tc, .slice KA nk kc], .agg #[.slice A lq c, .int .i64 o]] wr (Still (.int .i64 8) wr) from HF.out ▸ check_at (w := W0) (W := wr) (p := (q, o)) (HB4.out.trans (HR.out.mono HB4.out.size)) HN.out ⟨A, lq, c, rfl, HQL.out, by omega, hc, HQ.out⟩)
                  go_wp2_with (go_at_call 12; refine HCK.out.mono ?_; rintro e w6 ⟨rfl, b6⟩; have HR6 := hd (HR.out.trans (b6.mono HR.out.size)); clear b6 n0 n1 n2 n3 k0 k1 k2 k3; obtain ⟨⟨n0, n1, n2, n3⟩, k0, k1, k2, k3, _, _, _, _⟩ := HK4.out _ HR6.out)
                  go_roundw
                  case rel => exact ⟨o + 1, by rw [HE.out], by first | rfl | go_num, by omega, by omega, HR6⟩
                  case measure => first | (simp [intOf]; done) | (simp [intOf]; omega)
              · have hk2 : ¬ o ≤ (mx.length : Int) + 2 := hk
                have hE : M = (mx.length : Int) + 1 := by rw [hM1]; split; omega; split <;> omega
                have hE2 : (M == (mx.length : Int) + 1) = true := by rw [hE]; simp
                clear hM hM1 hE
                go_wp2
                exact bodyPost_ret (v := .bool true) (by simp [results, Try.results8, go_sem]) rfl ⟨rfl, HB0.out.trans ((HB4.out.trans (HR.out.mono HB4.out.size)).mono HB0.out.size)⟩
    · have HGT := trivial
      have HM1 := trivial
      go_enter Try.func8, Try.ntmps8
      go_wp2_with (first
        | (go_at_call 35; refine Calls.mono (HGT.out _ HB2.out) ?_; intro e w3 h3; obtain ⟨v3, d3, rfl, ht3, hb3⟩ := h3; obtain ⟨d', lf1, ps1, tx1, ks1, PA1, pc1, TA1, tc1, KA1, kc1, _, hm1, rfl, _, _, hf1, _⟩ := (ht3.at_ (B := w3.heap.size) (fun b hb => hb.2)).open_; have hm1' := HM1.out _ hm1; clear hm1; injection hm1' with e1 e2 e3 e4; subst e1 e2 e3 e4; have hf2 := hf1.2.2.1; have HB3 := hd (HB2.out.trans (hb3.mono HB2.out.size)); clear ht3 hb3 hf1)
        | (go_at_call 10; refine Calls.mono (HFW.out _ HB1.out) ?_; rintro e w2 ⟨rfl, b2⟩; have HB2 := hd (HB1.out.trans (b2.mono HB1.out.size)); clear b2 n0 n1 n2 n3; obtain ⟨n0, n1, n2, n3⟩ := HK.out _ HB2.out)
        | (go_at_call 9; rw [HW.out]; refine HLV.out.mono ?_; rintro e w1 ⟨rfl, b1⟩; have HB1 := hd b1; clear b1 n0 n1 n2 n3; obtain ⟨n0, n1, n2, n3⟩ := HK.out _ HB1.out))
      exact bodyPost_ret (v := .bool true) (by simp [results, Try.results8, go_sem]) rfl ⟨rfl, HB0.out.trans (HB2.out.mono HB0.out.size)⟩

end Go.Proofs.Ytjolmnghoigggaa
