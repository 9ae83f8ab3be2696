/- XpathMove answers true. -/
import Derived.Test.YtindjfiomilocaaXLaw
import Derived.Test.YtindjfiomilocaaXPlain
namespace Go.Proofs.Ytindjfiomilocaa
open Go.RowKit

set_option maxRecDepth 100000 in
set_option maxHeartbeats 8000000 in
theorem xmove_law (w : World) (A B C : Option Addr) (p q t : List Int) (n m i c d f : Nat) (hnp : p.length = n) (hnq : q.length = m) (hnt : t.length = i) (hlp : n ≤ 9223372036854775807) (hlq : m ≤ 9223372036854775807) (hlt : i ≤ 9223372036854775807) (hcp : n ≤ c) (hcq : m ≤ d) (hct : i ≤ f) (hp : IL w w.heap.size A p) (hq : IL w w.heap.size B q) (ht : IL w w.heap.size C t) :
    Calls Try.prog 6 #[.slice A n c, .slice B m d, .slice C i f] w (AllTrue w) := by
  have HBc := hd (Below.refl w.heap.size w)
  have HBE := hd (Below.refl w.heap.size w)
  cases hs : (decide (n ≤ 60) && decide (m ≤ 60) && decide (i ≤ 60) && decide (0 ≤ 60) && decide (0 ≤ 60))
  · have HSH := hd hs
    clear hs hp hq ht
    go_enter Try.func6, Try.ntmps6
    go_wp2_with (first
      | (go_at_call 9; refine Calls.mono (live8_any _) ?_; rintro e w9 ⟨rfl, b9⟩; have HBc := hd (step_b HBc.out b9); clear b9)
      | (go_at_call 10; refine Calls.mono (short_3 (by omega) (by omega) hlp hlq hlt HSH.out) ?_; rintro e w9 ⟨rfl, b9⟩; have HBc := hd (step_b HBc.out b9); clear b9))
    go_ret
    exact ⟨rfl, HBE.out.trans (HBc.out.mono HBE.out.size)⟩
  have HSH := hd hs
  simp only [Bool.and_eq_true, decide_eq_true_iff] at hs
  obtain ⟨⟨⟨⟨b1, b2⟩, b3⟩, _⟩, _⟩ := hs
  have HIp := hd (fun W (h : Below w.heap.size w W) => hp.later h)
  have HP := hd (show ∀ W, Below w.heap.size w W → XA W (.slice A n c) p from fun W h => ⟨A, n, c, rfl, hnp, by omega, hcp, hp.later h⟩)
  have HNp := hd hnp
  have HIq := hd (fun W (h : Below w.heap.size w W) => hq.later h)
  have HQ := hd (show ∀ W, Below w.heap.size w W → XA W (.slice B m d) q from fun W h => ⟨B, m, d, rfl, hnq, by omega, hcq, hq.later h⟩)
  have HNq := hd hnq
  have HIt := hd (fun W (h : Below w.heap.size w W) => ht.later h)
  have HT := hd (show ∀ W, Below w.heap.size w W → XA W (.slice C i f) t from fun W h => ⟨C, i, f, rfl, hnt, by omega, hct, ht.later h⟩)
  have HNt := hd hnt
  clear hp hnp hq hnq ht hnt
  cases h1 : smallI p
  · have Sp := hd h1
    clear h1
    go_enter Try.func6, Try.ntmps6
    go_wp2_with (first
      | (go_at_call 9; refine Calls.mono (live8_any _) ?_; rintro e w9 ⟨rfl, b9⟩; have HBc := hd (step_b HBc.out b9); clear b9)
      | (go_at_call 10; refine Calls.mono (short_3 (by omega) (by omega) hlp hlq hlt HSH.out) ?_; rintro e w9 ⟨rfl, b9⟩; have HBc := hd (step_b HBc.out b9); clear b9)
      | (go_at_call 15; refine Calls.mono (rsmall_at (by first | exact HP.out _ HBc.out | exact HQ.out _ HBc.out | exact HT.out _ HBc.out) (by first | exact Sp.out | exact Sq.out | exact St.out)) ?_; rintro e w9 ⟨rfl, b9⟩; have HBc := hd (step_b HBc.out b9); clear b9))
    go_ret
    exact ⟨rfl, HBE.out.trans (HBc.out.mono HBE.out.size)⟩
  have Sp := hd h1
  clear h1
  cases h1 : smallI q
  · have Sq := hd h1
    clear h1
    go_enter Try.func6, Try.ntmps6
    go_wp2_with (first
      | (go_at_call 9; refine Calls.mono (live8_any _) ?_; rintro e w9 ⟨rfl, b9⟩; have HBc := hd (step_b HBc.out b9); clear b9)
      | (go_at_call 10; refine Calls.mono (short_3 (by omega) (by omega) hlp hlq hlt HSH.out) ?_; rintro e w9 ⟨rfl, b9⟩; have HBc := hd (step_b HBc.out b9); clear b9)
      | (go_at_call 15; refine Calls.mono (rsmall_at (by first | exact HP.out _ HBc.out | exact HQ.out _ HBc.out | exact HT.out _ HBc.out) (by first | exact Sp.out | exact Sq.out | exact St.out)) ?_; rintro e w9 ⟨rfl, b9⟩; have HBc := hd (step_b HBc.out b9); clear b9))
    go_ret
    exact ⟨rfl, HBE.out.trans (HBc.out.mono HBE.out.size)⟩
  have Sq := hd h1
  clear h1
  cases h1 : smallI t
  · have St := hd h1
    clear h1
    go_enter Try.func6, Try.ntmps6
    go_wp2_with (first
      | (go_at_call 9; refine Calls.mono (live8_any _) ?_; rintro e w9 ⟨rfl, b9⟩; have HBc := hd (step_b HBc.out b9); clear b9)
      | (go_at_call 10; refine Calls.mono (short_3 (by omega) (by omega) hlp hlq hlt HSH.out) ?_; rintro e w9 ⟨rfl, b9⟩; have HBc := hd (step_b HBc.out b9); clear b9)
      | (go_at_call 15; refine Calls.mono (rsmall_at (by first | exact HP.out _ HBc.out | exact HQ.out _ HBc.out | exact HT.out _ HBc.out) (by first | exact Sp.out | exact Sq.out | exact St.out)) ?_; rintro e w9 ⟨rfl, b9⟩; have HBc := hd (step_b HBc.out b9); clear b9))
    go_ret
    exact ⟨rfl, HBE.out.trans (HBc.out.mono HBE.out.size)⟩
  have St := hd h1
  clear h1
  rcases m with _ | k
  · go_enter Try.func6, Try.ntmps6
    go_wp2_with (first
      | (go_at_call 9; refine Calls.mono (live8_any _) ?_; rintro e w9 ⟨rfl, b9⟩; have HBc := hd (step_b HBc.out b9); clear b9)
      | (go_at_call 10; refine Calls.mono (short_3 (by omega) (by omega) hlp hlq hlt HSH.out) ?_; rintro e w9 ⟨rfl, b9⟩; have HBc := hd (step_b HBc.out b9); clear b9)
      | (go_at_call 15; refine Calls.mono (rsmall_at (by first | exact HP.out _ HBc.out | exact HQ.out _ HBc.out | exact HT.out _ HBc.out) (by first | exact Sp.out | exact Sq.out | exact St.out)) ?_; rintro e w9 ⟨rfl, b9⟩; have HBc := hd (step_b HBc.out b9); clear b9))
    go_ret
    exact ⟨rfl, HBE.out.trans (HBc.out.mono HBE.out.size)⟩
  have hzk : ((k : Int) + 1 == 0) = false := by simp; omega
  rcases i with _ | k2
  · go_enter Try.func6, Try.ntmps6
    go_wp2_with (first
      | (go_at_call 9; refine Calls.mono (live8_any _) ?_; rintro e w9 ⟨rfl, b9⟩; have HBc := hd (step_b HBc.out b9); clear b9)
      | (go_at_call 10; refine Calls.mono (short_3 (by omega) (by omega) hlp hlq hlt HSH.out) ?_; rintro e w9 ⟨rfl, b9⟩; have HBc := hd (step_b HBc.out b9); clear b9)
      | (go_at_call 15; refine Calls.mono (rsmall_at (by first | exact HP.out _ HBc.out | exact HQ.out _ HBc.out | exact HT.out _ HBc.out) (by first | exact Sp.out | exact Sq.out | exact St.out)) ?_; rintro e w9 ⟨rfl, b9⟩; have HBc := hd (step_b HBc.out b9); clear b9))
    go_ret
    exact ⟨rfl, HBE.out.trans (HBc.out.mono HBE.out.size)⟩
  have hzk2 : ((k2 : Int) + 1 == 0) = false := by simp; omega
  obtain ⟨N1, hN1⟩ : ∃ N, ([] ++ p).length = N := ⟨_, rfl⟩
  have HLN1 := hd hN1
  have HLT0 := hd (show ([] : List Int).length + p.length ≤ 10000 by simp only [List.length_nil]; have h0 := HNp.out; omega)
  clear hN1
  obtain ⟨N2, hN2⟩ : ∃ N, ([] ++ p ++ q).length = N := ⟨_, rfl⟩
  have HLN2 := hd hN2
  have HLT1 := hd (show ([] ++ p).length + q.length ≤ 10000 by simp only [List.length_append, List.length_nil]; have h0 := HNp.out; have h1 := HNq.out; omega)
  clear hN2
  obtain ⟨N3, hN3⟩ : ∃ N, ([] ++ p ++ q ++ t).length = N := ⟨_, rfl⟩
  have HLN3 := hd hN3
  have HLT2 := hd (show ([] ++ p ++ q).length + t.length ≤ 10000 by simp only [List.length_append, List.length_nil]; have h0 := HNp.out; have h1 := HNq.out; have h2 := HNt.out; omega)
  clear hN3
  have hNb : N3 ≤ 10000 := by have h := HLN3.out; simp only [List.length_append, List.length_nil] at h; have h0 := HNp.out; have h1 := HNq.out; have h2 := HNt.out; omega
  go_enter Try.func6, Try.ntmps6
  go_wp2_with (first
    | (go_at_call 9; refine Calls.mono (live8_any _) ?_; rintro e w9 ⟨rfl, b9⟩; have HBc := hd (step_b HBc.out b9); clear b9)
    | (go_at_call 10; refine Calls.mono (short_3 (by omega) (by omega) hlp hlq hlt HSH.out) ?_; rintro e w9 ⟨rfl, b9⟩; have HBc := hd (step_b HBc.out b9); clear b9)
    | (go_at_call 15; refine Calls.mono (rsmall_at (by first | exact HP.out _ HBc.out | exact HQ.out _ HBc.out | exact HT.out _ HBc.out) (by first | exact Sp.out | exact Sq.out | exact St.out)) ?_; rintro e w9 ⟨rfl, b9⟩; have HBc := hd (step_b HBc.out b9); clear b9)
    | (at_builtin; have _g := HO2; refine wpList_append_L _ rfl (.tmp 50) (.tmp 51) rfl w.heap.size (.slice A2 N2 c2) ([] ++ p ++ q) t rfl HO2.out C (k2 + 1) f _ rfl HNt.out (HIt.out _ HBc.out) HLT2.out HBc.out.size ?_; intro v9 w9 ho hg; have HBc := hd (hg.below w.heap.size w (Nat.le_refl _) HBc.out.size HBc.out); obtain ⟨A3, c3, rfl, _, h2⟩ := ho.open_at N3 HLN3.out; have HO3 := hd ho; have HI3 := hd h2; clear ho hg h2)
    | (at_builtin; have _g := HO1; refine wpList_append_L _ rfl (.tmp 48) (.tmp 49) rfl w.heap.size (.slice A1 N1 c1) ([] ++ p) q rfl HO1.out B (k + 1) d _ rfl HNq.out (HIq.out _ HBc.out) HLT1.out HBc.out.size ?_; intro v9 w9 ho hg; have HBc := hd (hg.below w.heap.size w (Nat.le_refl _) HBc.out.size HBc.out); obtain ⟨A2, c2, rfl, _, h2⟩ := ho.open_at N2 HLN2.out; have HO2 := hd ho; have HI2 := hd h2; clear ho hg h2)
    | (at_builtin; refine wpList_append_L _ rfl _ _ rfl w.heap.size (.slice none 0 0) ([]) p rfl (OwnI.nil _ _) A n c _ rfl HNp.out (HIp.out _ HBc.out) HLT0.out HBc.out.size ?_; intro v9 w9 ho hg; have HBc := hd (hg.below w.heap.size w (Nat.le_refl _) HBc.out.size HBc.out); obtain ⟨A1, c1, rfl, _, h2⟩ := ho.open_at N1 HLN1.out; have HO1 := hd ho; have HI1 := hd h2; clear ho hg h2))
  have HIL := hd (fun W (h : Below w9.heap.size w9 W) => HI3.out.later h)
  have HP := hd (fun W (h : Below w9.heap.size w9 W) => HP.out W (step_b HBc.out h))
  have HQ := hd (fun W (h : Below w9.heap.size w9 W) => HQ.out W (step_b HBc.out h))
  have HT := hd (fun W (h : Below w9.heap.size w9 W) => HT.out W (step_b HBc.out h))
  have HBE := hd (HBE.out.trans (HBc.out.mono HBE.out.size))
  have HBc := hd (Below.refl w9.heap.size w9)
  go_loopw [54] (fun i wr => ∃ j : Nat, j ≤ N3 ∧ i = .int .i64 j ∧ Hid (Below w9.heap.size w9 wr) ∧ Hid (∀ x, x < j → iAt ([] ++ p ++ q ++ t) x ≠ 1048576)) (fun i _ => N3 - (intOf i).toNat)
  case atStart => exact ⟨0, Nat.zero_le _, rfl, HBc, fun x hx => absurd hx (Nat.not_lt_zero _)⟩
  case round =>
    obtain ⟨j, hj, rfl, HBc, HA⟩ := hrel
    by_cases hlt : j < N3
    · obtain ⟨g1, o1, rfl, hl1, e1⟩ := (HIL.out _ HBc.out).at_ (show j < ([] ++ p ++ q ++ t).length by rw [HLN3.out]; exact hlt)
      obtain ⟨X, hX⟩ : ∃ X, X = iAt ([] ++ p ++ q ++ t) j := ⟨_, rfl⟩
      rw [← hX] at e1
      by_cases h3 : X = 1048576
      · have h3' : (X == 1048576) = true := by simp [h3]
        clear h3 hX
        go_wp2
        go_ret
        exact ⟨rfl, HBE.out.trans (HBc.out.mono HBE.out.size)⟩
      · have HB := one_more (p := fun x => iAt ([] ++ p ++ q ++ t) x ≠ 1048576) HA (by rw [← hX]; exact h3)
        have h3' : (X == 1048576) = false := by simp [h3]
        clear HA h3 hX
        go_wp2
        go_roundw
        case rel => exact ⟨j + 1, by omega, by first | go_num | rfl, HBc, HB⟩
        case measure => first | (simp [intOf]; done) | (simp [intOf]; omega)
    · have hcl := (capless_iff ([] ++ p ++ q ++ t)).2 (fun x hx => HA.out x (by rw [HLN3.out] at hx; omega))
      simp only [List.nil_append, capless_append, Bool.and_eq_true] at hcl
      obtain ⟨a, m1, m2, m3⟩ := law_move HNq.out HNt.out Sp.out Sq.out St.out hcl.1.1
      have HM1 := hd m1
      have HM2 := hd m3
      have HS2 := hd (show samI p p = true from decide_eq_true rfl)
      have HLP := hd (show p.length ≤ 1000 by have := HNp.out; omega)
      have HLA := hd (show a.length ≤ 1000 by have := HNp.out; have := HNt.out; omega)
      clear m1 m2 m3
      clear hcl HA
      go_wp2_with (first
          | (go_at_call 12; have _g := HX; refine Calls.mono (move_at (HX.out _ HBc.out) (HT.out _ HBc.out) (HQ.out _ HBc.out) HM2.out) ?_; rintro e w9 ⟨v9, rfl, ho, b9⟩; have HB9 := hd (step_b HBc.out b9); have HX9 := hd (XA.own ho HLP.out); have HY := hd (fun W (h : Below w9.heap.size w9 W) => HX9.out.later h); have HP := hd (fun W (h : Below w9.heap.size w9 W) => HP.out W (step_b HB9.out h)); have HQ := hd (fun W (h : Below w9.heap.size w9 W) => HQ.out W (step_b HB9.out h)); have HT := hd (fun W (h : Below w9.heap.size w9 W) => HT.out W (step_b HB9.out h)); have HX := hd (fun W (h : Below w9.heap.size w9 W) => HX.out W (step_b HB9.out h)); have HBE := hd (HBE.out.trans (HB9.out.mono HBE.out.size)); have HBc := hd (Below.refl w9.heap.size w9); clear ho b9 HB9 HX9)
          | (go_at_call 12; refine Calls.mono (move_at (HP.out _ HBc.out) (HQ.out _ HBc.out) (HT.out _ HBc.out) HM1.out) ?_; rintro e w9 ⟨v9, rfl, ho, b9⟩; have HB9 := hd (step_b HBc.out b9); have HX9 := hd (XA.own ho HLA.out); have HX := hd (fun W (h : Below w9.heap.size w9 W) => HX9.out.later h); have HP := hd (fun W (h : Below w9.heap.size w9 W) => HP.out W (step_b HB9.out h)); have HQ := hd (fun W (h : Below w9.heap.size w9 W) => HQ.out W (step_b HB9.out h)); have HT := hd (fun W (h : Below w9.heap.size w9 W) => HT.out W (step_b HB9.out h)); have HBE := hd (HBE.out.trans (HB9.out.mono HBE.out.size)); have HBc := hd (Below.refl w9.heap.size w9); clear ho b9 HB9 HX9)
          | (go_at_call 16; refine Calls.mono (same_at (HY.out _ HBc.out) (HP.out _ HBc.out) HS2.out) ?_; rintro e w9 ⟨rfl, b9⟩; have HBc := hd (step_b HBc.out b9); clear b9))
      go_ret
      exact ⟨rfl, HBE.out.trans (HBc.out.mono HBE.out.size)⟩

end Go.Proofs.Ytindjfiomilocaa
