/- The chapter's example, and whether trees and paths are small. -/
import Derived.Test.YtggapngibkeodaaTCut
namespace Go.Proofs.Ytggapngibkeodaa
open Go.RowKit

def lfT (l : List Int) : NT := .mk true [] l []
def elT (ks : List NT) : NT := .mk false [(tyKey, { data := #[112] })] [] ks
theorem runes_b : Conv.runesFrom { data := #[98] } (ByteArray.size { data := #[98] }) 0 #[] = (rv [98]).toArray := by kernel_rfl
theorem el_fit {cp kc nk : Nat} (hcp : 1 ≤ cp) (hk : nk ≤ 10) (hkc : nk ≤ kc) : FitN [((tyKey, { data := #[112] }) : Pr)] 0 nk cp 0 kc := ⟨⟨by simp, ex_wide⟩, by simp, by omega, by omega, by simpa using hcp, by omega, hkc⟩
theorem el_two {w : World} {gp cp g1 c1 g2 c2 b : Nat} (hcp : 1 ≤ cp) (hc1 : 1 ≤ c1) (hc2 : 1 ≤ c2) (hp : PL w w.heap.size (some ⟨gp, 0, none⟩) [(tyKey, { data := #[112] })]) (h1 : VL w w.heap.size (some ⟨g1, 0, none⟩) (rv [97])) (h2 : VL w w.heap.size (some ⟨g2, 0, none⟩) (rv [98])) (hb : b < w.heap.size)
    (hc : ∀ j u, #[Value.bool true, .slice none 0 0, .slice (some ⟨g1, 0, none⟩) 1 c1, .slice none 0 0, .bool true, .slice none 0 0, .slice (some ⟨g2, 0, none⟩) 1 c2, .slice none 0 0][j]? = some u → w.cell? ⟨b, j, none⟩ = some u) :
    NodeAt 2 w w.heap.size (.agg #[.bool false, .slice (some ⟨gp, 0, none⟩) 1 cp, .slice none 0 0, .slice (some ⟨b, 0, none⟩) 2 2]) (elT [lfT [97], lfT [98]]) := by
  refine NodeAt.shut rfl rfl rfl hp (VL.nil _ _ _) (el_fit hcp (by decide) (by decide)) (fun k m hk => ?_)
  match k, hk with
  | 0, hk =>
    simp at hk; subst hk
    exact ⟨b, 0, _, rfl, hb, ex_leaf rfl (by simp) hc1 h1, _, _, _, _, rfl, hc 0 _ rfl, hc 1 _ rfl, hc 2 _ rfl, hc 3 _ rfl⟩
  | 1, hk =>
    simp at hk; subst hk
    exact ⟨b, 0, _, rfl, hb, ex_leaf rfl (by simp) hc2 h2, _, _, _, _, rfl, hc 4 _ rfl, hc 5 _ rfl, hc 6 _ rfl, hc 7 _ rfl⟩
  | k + 2, hk => simp at hk
theorem el_one {w : World} {gp cp g1 c1 b : Nat} (hcp : 1 ≤ cp) (hc1 : 1 ≤ c1) (hp : PL w w.heap.size (some ⟨gp, 0, none⟩) [(tyKey, { data := #[112] })]) (h1 : VL w w.heap.size (some ⟨g1, 0, none⟩) (rv [98])) (hb : b < w.heap.size)
    (hc : ∀ j u, #[Value.bool true, .slice none 0 0, .slice (some ⟨g1, 0, none⟩) 1 c1, .slice none 0 0][j]? = some u → w.cell? ⟨b, j, none⟩ = some u) :
    NodeAt 2 w w.heap.size (.agg #[.bool false, .slice (some ⟨gp, 0, none⟩) 1 cp, .slice none 0 0, .slice (some ⟨b, 0, none⟩) 1 1]) (elT [lfT [98]]) := by
  refine NodeAt.shut rfl rfl rfl hp (VL.nil _ _ _) (el_fit hcp (by decide) (by decide)) (fun k m hk => ?_)
  match k, hk with
  | 0, hk =>
    simp at hk; subst hk
    exact ⟨b, 0, _, rfl, hb, ex_leaf rfl (by simp) hc1 h1, _, _, _, _, rfl, hc 0 _ rfl, hc 1 _ rfl, hc 2 _ rfl, hc 3 _ rfl⟩
  | k + 1, hk => simp at hk
theorem live_cut : cutE (elT [lfT [97], lfT [98]]) [0] = (elT [lfT [98]], 0) ∧ cutM (elT [lfT [97], lfT [98]]) [0] = lfT [97] := ⟨rfl, rfl⟩
theorem il_zero {w : World} {b : Nat} (hb : b < w.heap.size) (hc : w.cell? ⟨b, 0, none⟩ = some (.int .i64 0)) : IL w w.heap.size (some ⟨b, 0, none⟩) [0] := fun _ =>
  ⟨b, 0, rfl, hb, fun k hk => by obtain rfl : k = 0 := by simp at hk; omega
                                 exact hc⟩

set_option maxRecDepth 100000 in
set_option maxHeartbeats 8000000 in
theorem live5_any (w : World) : Calls Try.prog 9 #[] w (Still (.bool true) w) := by
  go_enter Try.func9, Try.ntmps9
  go_wp2_with (first
    | (go_at_call 35; refine (leaf_any { data := #[97] } [97] 1 rfl runes_a (by omega) _).mono ?_; rintro e w1 ⟨g1, c1, rfl, v1, b1, hc1⟩; have V1 := hd v1; have B1 := hd b1; clear v1 b1)
    | (go_at_call 35; refine (leaf_any { data := #[98] } [98] 1 rfl runes_b (by omega) _).mono ?_; rintro e w2 ⟨g2, c2, rfl, v2, b2, hc2⟩; have V2 := hd v2; have B2 := hd b2; clear v2 b2)
    | (go_at_call 34; refine (elem_p _ _ _ _).mono ?_; rintro e w4 ⟨gp, cp, rfl, v3, b3, hcp⟩; have V3 := hd v3; have B3 := hd b3; clear v3 b3)
    | (go_at_call 18; refine Calls.mono (tcut_any 2 _ _ (elT [lfT [97], lfT [98]]) _ [0] 1 1 rfl (by omega) (by omega) ((el_two hcp hc1 hc2 V3.out ((V1.out.later B2.out).later (ex_below B3.out)) (V2.out.later (ex_below B3.out)) (b := w2.heap.size) (ex_lt B3.out) (fun j u hj => (B3.out.cell (by simp)).trans ((World.cell?_alloc_at _ _ _ _ rfl).trans hj))).later ((Below.refl _ _).alloc (Nat.le_refl _) _)) (il_zero (by simp) (by rw [World.cell?_alloc_at _ _ _ _ rfl]; rfl))) ?_; rw [live_cut.1, live_cut.2]; intro e w5 h5; obtain ⟨r1, r2, d5, rfl, ht1, ht2, hb5⟩ := h5; obtain ⟨lf4, PA4, np4, pc4, TA4, nt4, tc4, KA4, nk4, kc4, rfl⟩ := (ht1.at_ (B := w5.heap.size) (fun b hb => hb.2)).val; obtain ⟨lf6, PA6, np6, pc6, TA6, nt6, tc6, KA6, nk6, kc6, rfl⟩ := (ht2.at_ (B := w5.heap.size) (fun b hb => hb.2)).val; have HT1 := hd (ht1.at_ (B := w5.heap.size) (fun b hb => hb.2)); have HT2 := hd (ht2.at_ (B := w5.heap.size) (fun b hb => hb.2)); have B5 := hd (ex_below hb5); clear ht1 ht2 hb5))
  have B0 := hd (show Below w.heap.size w w5 from (((B1.out.trans (B2.out.mono B1.out.size)).trans ((ex_below B3.out).mono (by have := B1.out.size; have := B2.out.size; omega)))).trans (B5.out.mono (by have := B1.out.size; have := B2.out.size; have := (ex_below B3.out).size; omega)))
  obtain ⟨h1, h2⟩ := two_boxes w5 (.bool lf4) (.slice PA4 np4 pc4) (.slice TA4 nt4 tc4) (.slice KA4 nk4 kc4) 26 (.bool lf6) (.slice PA6 np6 pc6) (.slice TA6 nt6 tc6) (.slice KA6 nk6 kc6) 26
  have hb0 := below_mono2 (w := w5) (w' := w5) (o := (.cells #[.bool lf4, .slice PA4 np4 pc4, .slice TA4 nt4 tc4, .slice KA4 nk4 kc4] 26)) (o' := (.cells #[.bool lf6, .slice PA6 np6 pc6, .slice TA6 nt6 tc6, .slice KA6 nk6 kc6] 26)) (Below.refl _ _) (Nat.le_refl w5.heap.size)
  clear hc1 hc2 hcp V1 V2 V3 B1 B2 B3 B5
  generalize hW0 : ((w5.alloc (.cells #[.bool lf4, .slice PA4 np4 pc4, .slice TA4 nt4 tc4, .slice KA4 nk4 kc4] 26)).alloc (.cells #[.bool lf6, .slice PA6 np6 pc6, .slice TA6 nt6 tc6, .slice KA6 nk6 kc6] 26)) = W0 at *
  clear hW0
  obtain ⟨x0, x1, x2, x3, _, _, _, _⟩ := blkCells h1
  obtain ⟨y0, y1, y2, y3, _, _, _, _⟩ := blkCells h2
  have HT1' := hd (HT1.out.later hb0)
  have HT2' := hd (HT2.out.later hb0)
  have HB0 := hd (B0.out.trans (hb0.mono B0.out.size))
  have HMK := hd (show ∀ W, Below W0.heap.size W0 W → (Below W0.heap.size W0 W ∧ W.cell? ⟨w5.heap.size, 0, none⟩ = some (.bool lf4) ∧ W.cell? ⟨w5.heap.size, 1, none⟩ = some (.slice PA4 np4 pc4) ∧ W.cell? ⟨w5.heap.size, 2, none⟩ = some (.slice TA4 nt4 tc4) ∧ W.cell? ⟨w5.heap.size, 3, none⟩ = some (.slice KA4 nk4 kc4) ∧ W.cell? ⟨w5.heap.size + 1, 0, none⟩ = some (.bool lf6) ∧ W.cell? ⟨w5.heap.size + 1, 1, none⟩ = some (.slice PA6 np6 pc6) ∧ W.cell? ⟨w5.heap.size + 1, 2, none⟩ = some (.slice TA6 nt6 tc6) ∧ W.cell? ⟨w5.heap.size + 1, 3, none⟩ = some (.slice KA6 nk6 kc6)) from fun W h =>
    ⟨h, (h.cell (cell_in x0)).trans x0, (h.cell (cell_in x1)).trans x1, (h.cell (cell_in x2)).trans x2, (h.cell (cell_in x3)).trans x3, (h.cell (cell_in y0)).trans y0, (h.cell (cell_in y1)).trans y1, (h.cell (cell_in y2)).trans y2, (h.cell (cell_in y3)).trans y3⟩)
  have HSa := hd (HMK.out W0.drew (Below.refl _ _).drew)
  clear h1 h2 hb0 HT1 HT2 B0
  go_region_held3 (fun W => Below W0.heap.size W0 W ∧ W.cell? ⟨w5.heap.size, 0, none⟩ = some (.bool lf4) ∧ W.cell? ⟨w5.heap.size, 1, none⟩ = some (.slice PA4 np4 pc4) ∧ W.cell? ⟨w5.heap.size, 2, none⟩ = some (.slice TA4 nt4 tc4) ∧ W.cell? ⟨w5.heap.size, 3, none⟩ = some (.slice KA4 nk4 kc4) ∧ W.cell? ⟨w5.heap.size + 1, 0, none⟩ = some (.bool lf6) ∧ W.cell? ⟨w5.heap.size + 1, 1, none⟩ = some (.slice PA6 np6 pc6) ∧ W.cell? ⟨w5.heap.size + 1, 2, none⟩ = some (.slice TA6 nt6 tc6) ∧ W.cell? ⟨w5.heap.size + 1, 3, none⟩ = some (.slice KA6 nk6 kc6))
    (first
      | (with_reducible exact HS10)
      | (with_reducible exact HS9)
      | (with_reducible exact HS8)
      | (with_reducible exact HS7)
      | (with_reducible exact HSr)
      | (with_reducible exact HS6)
      | (with_reducible exact HSa.out))
    (first
      | (go_at_call 20; refine Calls.mono (rnsame_any _ 1 _ _ _ (lfT [97]) (lfT [97]) (HT2'.out.later HBW9.out) HN9.out) ?_; rw [eqT_self]; rintro e w10 ⟨rfl, b10⟩; have hbw10 := HBW9.out.trans (b10.mono HBW9.out.size); have HS10 := HMK.out w10 hbw10; have HBW10 := hd hbw10; clear hbw10 b10)
      | (go_at_call 20; refine Calls.mono (rnsame_any _ 2 _ _ _ (elT [lfT [98]]) (elT [lfT [98]]) (HT1'.out.later HBW7.out) HN7.out) ?_; rw [eqT_self]; rintro e w8 ⟨rfl, b8⟩; have hbw8 := HBW7.out.trans (b8.mono HBW7.out.size); have HS8 := HMK.out w8 hbw8; have HBW8 := hd hbw8; clear hbw8 b8)
      | (go_at_call 34; refine (elem_p _ _ _ _).mono ?_; rintro e w7 ⟨gp7, cp7, rfl, v7, b7, hcp7⟩; have hbw7 := HBWr.out.trans (b7.mono HBWr.out.size); have HN7 := hd (el_one hcp7 HC6.out v7 (HV6.out.later (ex_below b7)) (b := w6.heap.size) (ex_lt b7) (fun j u hj => (b7.cell (by simp)).trans ((World.cell?_alloc_at _ _ _ _ rfl).trans hj))); have HS7 := HMK.out w7 hbw7; have HBW7 := hd hbw7; clear hbw7 b7 v7 hcp7)
      | (go_at_call 35; refine (leaf_any { data := #[97] } [97] 1 rfl runes_a (by omega) w8).mono ?_; rintro e w9 ⟨g9, c9, rfl, v9, b9, hc9⟩; have hbw9 := HBW8.out.trans (b9.mono HBW8.out.size); have HN9 := hd (ex_leaf rfl (by simp) hc9 v9); have HS9 := HMK.out w9 hbw9; have HBW9 := hd hbw9; clear hbw9 b9 v9 hc9)
      | (go_at_call 35; refine (leaf_any { data := #[98] } [98] 1 rfl runes_b (by omega) _).mono ?_; rintro e w6 ⟨g6, c6, rfl, v6, b6, hc6⟩; have hbw6 : Below W0.heap.size W0 w6 := (Below.refl _ _).drew.trans b6; have HS6 := HMK.out w6 hbw6; have hbwr := hbw6.alloc hbw6.size (.cells #[.bool true, .slice none 0 0, .slice (some ⟨g6, 0, none⟩) 1 c6, .slice none 0 0] 26); have HSr := HMK.out (w6.alloc (.cells #[.bool true, .slice none 0 0, .slice (some ⟨g6, 0, none⟩) 1 c6, .slice none 0 0] 26)) hbwr; have HBWr := hd hbwr; have HV6 := hd v6; have HC6 := hd hc6; clear hbw6 hbwr b6 v6 hc6))
  go_wp2
  go_ret
  exact ⟨rfl, HB0.out.trans (HBW10.out.mono HB0.out.size)⟩

set_option maxHeartbeats 2000000 in
theorem few5_any (d d' : Nat) (w : World) (v v' : Value) (n m : NT) (A : Option Addr) (lp c : Nat) (r : Bool) (hr : (fewB 100 n && fewB 60 m && decide (lp ≤ 50)) = r) (hl : lp ≤ 9223372036854775807) (hn : NodeAt d w w.heap.size v n) (hm : NodeAt d' w w.heap.size v' m) :
    Calls Try.prog 10 #[v, v', .slice A lp c] w (Still (.bool r) w) := by
  obtain ⟨lf, PA, np, pc, TA, nt, tc, KA, nk, kc, rfl⟩ := hn.val
  obtain ⟨lf', PA', np', pc', TA', nt', tc', KA', nk', kc', rfl⟩ := hm.val
  have hb1 : Below w.heap.size w ((w.alloc (.cells #[.bool lf, .slice PA np pc, .slice TA nt tc, .slice KA nk kc] 26)).alloc (.cells #[.bool lf', .slice PA' np' pc', .slice TA' nt' tc', .slice KA' nk' kc'] 26)) := below_mono2 (Below.refl _ _) (Nat.le_refl _)
  have HC := hd (few_any d _ _ _ 100 (by unfold In64; omega) (hn.later hb1))
  have HC' := fun (w' : World) (hb : Below w.heap.size w w') => hd (few_any d' w' _ _ 60 (by unfold In64; omega) (hm.later hb))
  have HB := hd hb1
  have HR := hd hr
  obtain ⟨F, hF⟩ : ∃ F, F = fewB 100 n := ⟨_, rfl⟩
  obtain ⟨F', hF'⟩ : ∃ F', F' = fewB 60 m := ⟨_, rfl⟩
  rw [← hF] at HC
  simp only [← hF'] at HC'
  rw [← hF, ← hF'] at HR
  clear hn hm hb1 hr hF hF'
  cases F
  · have HF := hd (show r = false by rw [← HR.out]; rfl)
    clear HC'
    go_enter Try.func10, Try.ntmps10
    go_wp2_with (first | (go_at_call 21; refine HC.out.mono ?_; rintro e w1 ⟨rfl, b1⟩))
    go_ret
    exact ⟨ret_bool HF.out.symm, HB.out.trans (b1.mono HB.out.size)⟩
  · cases F'
    · have HF := hd (show r = false by rw [← HR.out]; rfl)
      go_enter Try.func10, Try.ntmps10
      go_wp2_with (first
        | (go_at_call 21; refine (HC' _ B1.out).out.mono ?_; rintro e w2 ⟨rfl, b2⟩)
        | (go_at_call 21; refine HC.out.mono ?_; rintro e w1 ⟨rfl, b1⟩; obtain ⟨X1, ⟨y0, y1, y2, y3⟩, hlt⟩ := box8 b1; have B1 := hd (HB.out.trans (b1.mono HB.out.size)); clear X1))
      go_ret
      exact ⟨ret_bool HF.out.symm, B1.out.trans (b2.mono B1.out.size)⟩
    · by_cases h : lp ≤ 50
      · have HF := hd (show r = true by rw [← HR.out, decide_eq_true h]; rfl)
        go_enter Try.func10, Try.ntmps10
        go_wp2_with (first
          | (go_at_call 21; refine (HC' _ B1.out).out.mono ?_; rintro e w2 ⟨rfl, b2⟩)
          | (go_at_call 21; refine HC.out.mono ?_; rintro e w1 ⟨rfl, b1⟩; obtain ⟨X1, ⟨y0, y1, y2, y3⟩, hlt⟩ := box8 b1; have B1 := hd (HB.out.trans (b1.mono HB.out.size)); clear X1))
        go_ret
        exact ⟨ret_bool (by rw [HF.out, decide_eq_true_iff]; omega), B1.out.trans (b2.mono B1.out.size)⟩
      · have HF := hd (show r = false by rw [← HR.out, decide_eq_false h]; rfl)
        go_enter Try.func10, Try.ntmps10
        go_wp2_with (first
          | (go_at_call 21; refine (HC' _ B1.out).out.mono ?_; rintro e w2 ⟨rfl, b2⟩)
          | (go_at_call 21; refine HC.out.mono ?_; rintro e w1 ⟨rfl, b1⟩; obtain ⟨X1, ⟨y0, y1, y2, y3⟩, hlt⟩ := box8 b1; have B1 := hd (HB.out.trans (b1.mono HB.out.size)); clear X1))
        go_ret
        exact ⟨ret_bool (by rw [HF.out, decide_eq_false_iff_not]; omega), B1.out.trans (b2.mono B1.out.size)⟩

end Go.Proofs.Ytggapngibkeodaa
