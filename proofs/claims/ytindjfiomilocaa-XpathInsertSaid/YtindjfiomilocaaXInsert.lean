/- XpathInsert answers true. -/
import Derived.Test.YtindjfiomilocaaXLaw
import Derived.Test.YtindjfiomilocaaXPlain
namespace Go.Proofs.Ytindjfiomilocaa
open Go.RowKit

set_option maxRecDepth 100000 in
set_option maxHeartbeats 8000000 in
theorem xinsert_law (w : World) (A B : Option Addr) (p q : List Int) (n m c d : Nat) (hn : p.length = n) (hm : q.length = m) (hl : n ≤ 9223372036854775807) (hl2 : m ≤ 9223372036854775807) (hc : n ≤ c) (hd1 : m ≤ d) (hp : IL w w.heap.size A p) (hq : IL w w.heap.size B q) :
    Calls Try.prog 4 #[.slice A n c, .slice B m d] w (AllTrue w) := by
  have HBc := hd (Below.refl w.heap.size w)
  have HBE := hd (Below.refl w.heap.size w)
  cases hs : (decide (n ≤ 60) && decide (m ≤ 60) && decide (0 ≤ 60) && decide (0 ≤ 60))
  · have HSH := hd hs
    clear hp hq hs
    go_enter Try.func4, Try.ntmps4
    go_wp2_with (first
      | (go_at_call 9; refine Calls.mono (live8_any _) ?_; rintro e w9 ⟨rfl, b9⟩; have HBc := hd (step_b HBc.out b9); clear b9)
      | (go_at_call 10; refine Calls.mono (short_2 (by omega) (by omega) hl hl2 HSH.out) ?_; rintro e w9 ⟨rfl, b9⟩; have HBc := hd (step_b HBc.out b9); clear b9))
    go_ret
    exact ⟨rfl, HBE.out.trans (HBc.out.mono HBE.out.size)⟩
  have HSH := hd hs
  simp only [Bool.and_eq_true, decide_eq_true_iff] at hs
  obtain ⟨⟨⟨b1, b2⟩, _⟩, _⟩ := hs
  have HIP := hd (fun W (h : Below w.heap.size w W) => hp.later h)
  have HP := hd (show ∀ W, Below w.heap.size w W → XA W (.slice A n c) p from fun W h => ⟨A, n, c, rfl, hn, by omega, hc, hp.later h⟩)
  have HQ := hd (show ∀ W, Below w.heap.size w W → XA W (.slice B m d) q from fun W h => ⟨B, m, d, rfl, hm, by omega, hd1, hq.later h⟩)
  have HN := hd hn
  have HM := hd hm
  clear hp hq hn hm
  cases h1 : smallI p
  · have H1 := hd h1
    clear h1
    go_enter Try.func4, Try.ntmps4
    go_wp2_with (first
      | (go_at_call 9; refine Calls.mono (live8_any _) ?_; rintro e w9 ⟨rfl, b9⟩; have HBc := hd (step_b HBc.out b9); clear b9)
      | (go_at_call 10; refine Calls.mono (short_2 (by omega) (by omega) hl hl2 HSH.out) ?_; rintro e w9 ⟨rfl, b9⟩; have HBc := hd (step_b HBc.out b9); clear b9)
      | (go_at_call 15; refine Calls.mono (rsmall_at (by first | exact HP.out _ HBc.out | exact HQ.out _ HBc.out) (by first | exact H1.out | exact H2.out)) ?_; rintro e w9 ⟨rfl, b9⟩; have HBc := hd (step_b HBc.out b9); clear b9))
    go_ret
    exact ⟨rfl, HBE.out.trans (HBc.out.mono HBE.out.size)⟩
  have H1 := hd h1
  cases h2 : smallI q
  · have H2 := hd h2
    clear h1 h2
    go_enter Try.func4, Try.ntmps4
    go_wp2_with (first
      | (go_at_call 9; refine Calls.mono (live8_any _) ?_; rintro e w9 ⟨rfl, b9⟩; have HBc := hd (step_b HBc.out b9); clear b9)
      | (go_at_call 10; refine Calls.mono (short_2 (by omega) (by omega) hl hl2 HSH.out) ?_; rintro e w9 ⟨rfl, b9⟩; have HBc := hd (step_b HBc.out b9); clear b9)
      | (go_at_call 15; refine Calls.mono (rsmall_at (by first | exact HP.out _ HBc.out | exact HQ.out _ HBc.out) (by first | exact H1.out | exact H2.out)) ?_; rintro e w9 ⟨rfl, b9⟩; have HBc := hd (step_b HBc.out b9); clear b9))
    go_ret
    exact ⟨rfl, HBE.out.trans (HBc.out.mono HBE.out.size)⟩
  have H2 := hd h2
  clear h1 h2
  rcases m with _ | k
  · go_enter Try.func4, Try.ntmps4
    go_wp2_with (first
      | (go_at_call 9; refine Calls.mono (live8_any _) ?_; rintro e w9 ⟨rfl, b9⟩; have HBc := hd (step_b HBc.out b9); clear b9)
      | (go_at_call 10; refine Calls.mono (short_2 (by omega) (by omega) hl hl2 HSH.out) ?_; rintro e w9 ⟨rfl, b9⟩; have HBc := hd (step_b HBc.out b9); clear b9)
      | (go_at_call 15; refine Calls.mono (rsmall_at (by first | exact HP.out _ HBc.out | exact HQ.out _ HBc.out) (by first | exact H1.out | exact H2.out)) ?_; rintro e w9 ⟨rfl, b9⟩; have HBc := hd (step_b HBc.out b9); clear b9))
    go_ret
    exact ⟨rfl, HBE.out.trans (HBc.out.mono HBE.out.size)⟩
  go_enter Try.func4, Try.ntmps4
  go_wp2_with (first
      | (go_at_call 9; refine Calls.mono (live8_any _) ?_; rintro e w9 ⟨rfl, b9⟩; have HBc := hd (step_b HBc.out b9); clear b9)
      | (go_at_call 10; refine Calls.mono (short_2 (by omega) (by omega) hl hl2 HSH.out) ?_; rintro e w9 ⟨rfl, b9⟩; have HBc := hd (step_b HBc.out b9); clear b9)
      | (go_at_call 15; refine Calls.mono (rsmall_at (by first | exact HP.out _ HBc.out | exact HQ.out _ HBc.out) (by first | exact H1.out | exact H2.out)) ?_; rintro e w9 ⟨rfl, b9⟩; have HBc := hd (step_b HBc.out b9); clear b9))
  go_loopw [36] (fun i wr => ∃ j : Nat, j ≤ n ∧ i = .int .i64 j ∧ Hid (Below w.heap.size w wr) ∧ Hid (∀ x, x < j → iAt p x ≠ 1048576)) (fun i _ => n - (intOf i).toNat)
  case atStart => exact ⟨0, Nat.zero_le _, rfl, HBc, fun x hx => absurd hx (Nat.not_lt_zero _)⟩
  case round =>
    obtain ⟨j, hj, rfl, HBc, HA⟩ := hrel
    by_cases hlt : j < n
    · obtain ⟨g1, o1, rfl, hl1, c1⟩ := (HIP.out _ HBc.out).at_ (show j < p.length by have := HN.out; omega)
      by_cases h3 : iAt p j = 1048576
      · have h3' : (iAt p j == 1048576) = true := by simp [h3]
        clear h3
        go_wp2
        go_ret
        exact ⟨rfl, HBE.out.trans (HBc.out.mono HBE.out.size)⟩
      · have HB := one_more (p := fun x => iAt p x ≠ 1048576) HA h3
        have h3' : (iAt p j == 1048576) = false := by simp [h3]
        clear HA h3
        go_wp2
        go_roundw
        case rel => exact ⟨j + 1, by omega, by first | go_num | rfl, HBc, HB⟩
        case measure => first | (simp [intOf]; done) | (simp [intOf]; omega)
    · have hcl := (capless_iff p).2 (fun x hx => HA.out x (by have := HN.out; omega))
      obtain ⟨a, m1, m2, m3, m4, m5⟩ := law_insert HM.out H1.out H2.out hcl
      have HM1 := hd m1
      have HM2 := hd m5
      have HS1 := hd m3
      have HS2 := hd (show samI p p = true from decide_eq_true rfl)
      have HA1 := hd m4
      have HLP := hd (show p.length ≤ 1000 by have := HN.out; omega)
      have HLA := hd (show a.length ≤ 1000 by have := HN.out; omega)
      clear m1 m2 m3 m4 m5 hcl HA
      go_wp2_with (first
          | (go_at_call 12; have _g := HX; refine Calls.mono (move_at (HX.out _ HBc.out) (HQ.out _ HBc.out) (xa_nil _ _) HM2.out) ?_; rintro e w9 ⟨v9, rfl, ho, b9⟩; have HB9 := hd (step_b HBc.out b9); have HX9 := hd (XA.own ho HLP.out); have HY := hd (fun W (h : Below w9.heap.size w9 W) => HX9.out.later h); have HP := hd (fun W (h : Below w9.heap.size w9 W) => HP.out W (step_b HB9.out h)); have HQ := hd (fun W (h : Below w9.heap.size w9 W) => HQ.out W (step_b HB9.out h)); have HX := hd (fun W (h : Below w9.heap.size w9 W) => HX.out W (step_b HB9.out h)); have HBE := hd (HBE.out.trans (HB9.out.mono HBE.out.size)); have HBc := hd (Below.refl w9.heap.size w9); clear ho b9 HB9 HX9)
          | (go_at_call 12; refine Calls.mono (move_at (HP.out _ HBc.out) (HQ.out _ HBc.out) (xa_nil _ _) HM1.out) ?_; rintro e w9 ⟨v9, rfl, ho, b9⟩; have HB9 := hd (step_b HBc.out b9); have HX9 := hd (XA.own ho HLA.out); have HX := hd (fun W (h : Below w9.heap.size w9 W) => HX9.out.later h); have HP := hd (fun W (h : Below w9.heap.size w9 W) => HP.out W (step_b HB9.out h)); have HQ := hd (fun W (h : Below w9.heap.size w9 W) => HQ.out W (step_b HB9.out h)); have HBE := hd (HBE.out.trans (HB9.out.mono HBE.out.size)); have HBc := hd (Below.refl w9.heap.size w9); clear ho b9 HB9 HX9)
          | (go_at_call 16; refine Calls.mono (same_at (by first | exact HY.out _ HBc.out | exact HX.out _ HBc.out) (by first | exact HQ.out _ HBc.out | exact HP.out _ HBc.out) (by first | exact HS1.out | exact HS2.out)) ?_; rintro e w9 ⟨rfl, b9⟩; have HBc := hd (step_b HBc.out b9); clear b9)
          | (go_at_call 17; refine Calls.mono (above_at (HQ.out _ HBc.out) (HX.out _ HBc.out) HA1.out) ?_; rintro e w9 ⟨rfl, b9⟩; have HBc := hd (step_b HBc.out b9); clear b9))
      go_ret
      exact ⟨rfl, HBE.out.trans (HBc.out.mono HBE.out.size)⟩

end Go.Proofs.Ytindjfiomilocaa
