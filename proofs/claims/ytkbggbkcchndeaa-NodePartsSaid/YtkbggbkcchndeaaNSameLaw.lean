/- NodeSame answers true. -/
import Derived.Test.YtkbggbkcchndeaaNTypes
namespace Go.Proofs.Ytkbggbkcchndeaa
open Go.RowKit

theorem NodeAt.val {d : Nat} {w : World} {B : Nat} {v : Value} {n : NT} (h : NodeAt d w B v n) : ∃ lf PA np pc TA nt tc KA nk kc, v = .agg #[.bool lf, .slice PA np pc, .slice TA nt tc, .slice KA nk kc] := by
  obtain ⟨d', lf, ps, tx, ks, PA, pc, TA, tc, KA, kc, _, _, e, _⟩ := h.open_
  exact ⟨_, _, _, _, _, _, _, _, _, _, e⟩

set_option maxHeartbeats 8000000 in
theorem samelaw_any (d d' : Nat) (w : World) (v v' : Value) (n n' : NT) (hn : NodeAt d w w.heap.size v n) (hn' : NodeAt d' w w.heap.size v' n') : Calls Try.prog 4 #[v, v'] w (Still (.bool true) w) := by
  obtain ⟨lf, PA, np, pc, TA, nt, tc, KA, nk, kc, rfl⟩ := hn.val
  obtain ⟨lf', PA', np', pc', TA', nt', tc', KA', nk', kc', rfl⟩ := hn'.val
  obtain ⟨wb, hwb⟩ : ∃ wb, wb = (w.alloc (.cells #[.bool lf, .slice PA np pc, .slice TA nt tc, .slice KA nk kc] 26)).alloc (.cells #[.bool lf', .slice PA' np' pc', .slice TA' nt' tc', .slice KA' nk' kc'] 26) := ⟨_, rfl⟩
  have hb1 : Below w.heap.size w wb := hwb ▸ below_mono2 (Below.refl _ _) (Nat.le_refl _)
  have HL := hd (live_any wb)
  have HC := fun (w' : World) (hb : Below w.heap.size w w') => hd (few_any d w' _ _ 200 (by unfold In64; omega) (hn.later hb))
  have HC' := fun (w' : World) (hb : Below w.heap.size w w') => hd (few_any d' w' _ _ 200 (by unfold In64; omega) (hn'.later hb))
  have HN := hd hn
  have HN' := hd hn'
  have HB := hd hb1
  obtain ⟨F, hF⟩ : ∃ F, F = fewB 200 n := ⟨_, rfl⟩
  obtain ⟨F', hF'⟩ : ∃ F', F' = fewB 200 n' := ⟨_, rfl⟩
  simp only [← hF] at HC
  simp only [← hF'] at HC'
  subst hwb
  clear hn hn' hb1 hF hF'
  cases F
  · clear HC' HN HN'
    go_enter Try.func4, Try.ntmps4
    go_wp2_with (first
      | (go_at_call 9; refine HL.out.mono ?_; rintro e w1 ⟨rfl, b1⟩; obtain ⟨⟨x0, x1, x2, x3⟩, ⟨y0, y1, y2, y3⟩, hlt⟩ := box8 b1; have B1 := hd (HB.out.trans (b1.mono HB.out.size)))
      | (go_at_call 10; refine (HC _ B1.out).out.mono ?_; rintro e w2 ⟨rfl, b2⟩))
    go_ret
    exact ⟨rfl, B1.out.trans (b2.mono B1.out.size)⟩
  · cases F'
    · clear HN HN'
      go_enter Try.func4, Try.ntmps4
      go_wp2_with (first
        | (go_at_call 9; refine HL.out.mono ?_; rintro e w1 ⟨rfl, b1⟩; obtain ⟨⟨x0, x1, x2, x3⟩, Y1, hlt⟩ := box8 b1; have HY1 := hd (show Box w1 _ _ _ _ _ from Y1); obtain ⟨y0, y1, y2, y3⟩ := Y1; have B1 := hd (HB.out.trans (b1.mono HB.out.size)))
        | (go_at_call 10; refine (HC' _ B2.out).out.mono ?_; rintro e w3 ⟨rfl, b3⟩)
        | (go_at_call 10; refine (HC _ B1.out).out.mono ?_; rintro e w2 ⟨rfl, b2⟩; have B2 := hd (B1.out.trans (b2.mono B1.out.size)); clear y0 y1 y2 y3; obtain ⟨y0, y1, y2, y3⟩ := HY1.out.keep b2))
      go_ret
      exact ⟨rfl, B2.out.trans (b3.mono B2.out.size)⟩
    · obtain ⟨E, hE⟩ : ∃ E, eqT n n' = E := ⟨_, rfl⟩
      have hE' : eqT n' n = E := (eqT_comm n' n).trans hE
      have hE2 := eqT_self n
      cases E <;>
      · go_enter Try.func4, Try.ntmps4
        go_wp2_with (first
          | (go_at_call 9; refine HL.out.mono ?_; rintro e w1 ⟨rfl, b1⟩; obtain ⟨X1, Y1, hlt⟩ := box8 b1; have HX1 := hd (show Box w1 _ _ _ _ _ from X1); have HY1 := hd (show Box w1 _ _ _ _ _ from Y1); obtain ⟨x0, x1, x2, x3⟩ := X1; obtain ⟨y0, y1, y2, y3⟩ := Y1; have B1 := hd (HB.out.trans (b1.mono HB.out.size)))
          | (go_at_call 10; refine (HC' _ B2.out).out.mono ?_; rintro e w3 ⟨rfl, b3⟩; have B3 := hd (B2.out.trans (b3.mono B2.out.size)); have HX3 := hd (HX2.out.keep b3); have HY3 := hd (HY2.out.keep b3); clear y0 y1 y2 y3 x0 x1 x2 x3)
          | (go_at_call 10; refine (HC _ B1.out).out.mono ?_; rintro e w2 ⟨rfl, b2⟩; have B2 := hd (B1.out.trans (b2.mono B1.out.size)); have HX2 := hd (HX1.out.keep b2); have HY2 := hd (HY1.out.keep b2); clear y0 y1 y2 y3 x0 x1 x2 x3; obtain ⟨y0, y1, y2, y3⟩ := HY2.out; obtain ⟨x0, x1, x2, x3⟩ := HX2.out))
        obtain ⟨x0, x1, x2, x3⟩ := HX3.out
        obtain ⟨y0, y1, y2, y3⟩ := HY3.out
        have l0 := later_cell x0
        have l1 := later_cell x1
        have l2 := later_cell x2
        have l3 := later_cell x3
        have k0 := later_cell y0
        have k1 := later_cell y1
        have k2 := later_cell y2
        have k3 := later_cell y3
        have HA := fun u : Later w3.heap.size w3 => hd (HN.out.later (B3.out.trans (u.2.mono B3.out.size)))
        have HA' := fun u : Later w3.heap.size w3 => hd (HN'.out.later (B3.out.trans (u.2.mono B3.out.size)))
        clear x0 x1 x2 x3 y0 y1 y2 y3 HL HC HC' HX1 HY1 HX2 HY2 HX3 HY3 HN HN'
        refine wp_region_later w3.heap.size (by kernel_rfl) (by kernel_rfl) ?_
        repeat (go_big_quiet_step (first
          | (go_at_call 22; exact later_in (Nat.le_refl _) (nsame_any _ _ _ _ _ _ _ (by first | exact (HA _).out | exact (HA' _).out) (by first | exact (HA _).out | exact (HA' _).out)))
          | (go_at_call 21; exact later_in (Nat.le_refl _) (rnsame_any _ _ _ _ _ _ _ (by first | exact (HA _).out | exact (HA' _).out) (by first | exact (HA _).out | exact (HA' _).out)))))
        refine wpQuiet_nil ?_
        intro _ hu
        obtain ⟨⟨w4, hw4⟩, rfl⟩ := hu
        clear l0 l1 l2 l3 k0 k1 k2 k3 HA HA'
        go_wp2
        go_ret
        exact ⟨rfl, B3.out.trans (hw4.mono B3.out.size)⟩

end Go.Proofs.Ytkbggbkcchndeaa
