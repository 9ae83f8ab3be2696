/- spoil, walked: three loops that write; it calls itself. -/
import Derived.Test.YtkbggbkcchndeaaNSpoil
import Derived.BigRegion
namespace Go.Proofs.Ytkbggbkcchndeaa
open Go.RowKit

theorem Box.spoilt {lo hi : Nat} {w w' : World} {b : Nat} {u0 u1 u2 u3 : Value} (h : Box w b u0 u1 u2 u3) (hs : Spoilt lo hi w w') (hb : hi ≤ b) : Box w' b u0 u1 u2 u3 :=
  ⟨(hs.cell _ (cell_in h.1) (by show ¬ (lo ≤ b ∧ b < hi); omega)).trans h.1, (hs.cell _ (cell_in h.2.1) (by show ¬ (lo ≤ b ∧ b < hi); omega)).trans h.2.1, (hs.cell _ (cell_in h.2.2.1) (by show ¬ (lo ≤ b ∧ b < hi); omega)).trans h.2.2.1, (hs.cell _ (cell_in h.2.2.2) (by show ¬ (lo ≤ b ∧ b < hi); omega)).trans h.2.2.2⟩
theorem Shape.kid {lo hi d : Nat} {w : World} {u : Value} {b q : Nat} (h : Shape lo hi d w u) (hc : Cells4 w b q u) : ∃ lf PA np pc TA nt tc KA nk kc, Shape lo hi d w (.agg #[.bool lf, .slice PA np pc, .slice TA nt tc, .slice KA nk kc]) ∧
    w.cell? ⟨b, q, none⟩ = some (.bool lf) ∧ w.cell? ⟨b, q + 1, none⟩ = some (.slice PA np pc) ∧ w.cell? ⟨b, q + 2, none⟩ = some (.slice TA nt tc) ∧ w.cell? ⟨b, q + 3, none⟩ = some (.slice KA nk kc) := by
  cases d with
  | zero => exact h.elim
  | succ d =>
    have h2 := h
    obtain ⟨c0, c1, c2, c3, eu, a0, a1, a2, a3⟩ := hc
    obtain ⟨lf, PA, np, pc, TA, nt, tc, KA, nk, kc, e, _⟩ := h
    rw [eu] at e
    simp only [Value.agg.injEq, Array.mk.injEq, List.cons.injEq, and_true] at e
    obtain ⟨rfl, rfl, rfl, rfl⟩ := e
    exact ⟨lf, PA, np, pc, TA, nt, tc, KA, nk, kc, eu ▸ h2, a0, a1, a2, a3⟩

theorem kid_flag {lo hi d : Nat} {w w' : World} {lf : Bool} {PA TA : Option Addr} {np pc nt tc b o nk kc k : Nat} (h : Shape lo hi (d + 1) w (.agg #[.bool lf, .slice PA np pc, .slice TA nt tc, .slice (some ⟨b, o, none⟩) nk kc])) (hs : Spoilt lo hi w w') (hk : k < nk) :
    ∃ q, w'.cell? ⟨b, o + k * 4, none⟩ = some (.bool q) ∧ w'.frozen? ⟨b, o + k * 4, none⟩ = false ∧ (lo ≤ b ∧ b < hi) := by
  obtain ⟨lf', PA', np', pc', TA', nt', tc', KA', nk', kc', e, -, -, -, hP⟩ := h.keep hs
  simp only [Value.agg.injEq, Array.mk.injEq, List.cons.injEq, and_true, Value.bool.injEq, Value.slice.injEq] at e
  obtain ⟨rfl, ⟨rfl, rfl, rfl⟩, ⟨rfl, rfl, rfl⟩, ⟨rfl, rfl, rfl⟩⟩ := e
  obtain ⟨b', o', u, e, hb, hsu, hcu, hz⟩ := hP k hk
  simp only [Option.some.injEq, Addr.mk.injEq, and_true] at e
  obtain ⟨rfl, rfl⟩ := e
  obtain ⟨lf1, PA1, np1, pc1, TA1, nt1, tc1, KA1, nk1, kc1, hsv, c0, c1, c2, c3⟩ := hsu.kid hcu
  exact ⟨lf1, c0, hz, hb⟩

/-- What spoil leaves. -/
def Spoils (lo hi : Nat) (w : World) (e : Ending) (w' : World) : Prop := e = .returned (.tuple #[]) ∧ Spoilt lo hi w w'

set_option maxRecDepth 100000 in
set_option maxHeartbeats 8000000 in
theorem spoil_any (lo hi : Nat) (hlh : lo ≤ hi) : ∀ (d : Nat) (w : World) (v : Value), hi ≤ w.heap.size → Shape lo hi d w v → Calls Try.prog 23 #[v] w (Spoils lo hi w) := by
  intro d
  induction d with
  | zero => intro w v _ h; exact h.elim
  | succ d ih =>
    intro w v hw hs
    have hs0 := hs
    obtain ⟨lf, PA, np, pc, TA, nt, tc, KA, nk, kc, rfl, ⟨hn1, hn2, hn3⟩, -, -, -⟩ := hs
    obtain ⟨wb, hwb⟩ : ∃ wb, wb = w.alloc (.cells #[.bool lf, .slice PA np pc, .slice TA nt tc, .slice KA nk kc] 26) := ⟨_, rfl⟩
    have HX := hd (show Box wb w.heap.size (.bool lf) (.slice PA np pc) (.slice TA nt tc) (.slice KA nk kc) from hwb ▸ Box.new w _ _ _ _ _)
    have HSB := hd (show Spoilt lo hi w wb from hwb ▸ (Spoilt.refl lo hi w).alloc (by omega) hw _)
    have HSH := hd (show Shape lo hi (d + 1) wb (.agg #[.bool lf, .slice PA np pc, .slice TA nt tc, .slice KA nk kc]) from hs0.keep HSB.out)
    have hsb := hd (show wb.heap.size = w.heap.size + 1 by rw [hwb]; simp)
    have HWB := hd hwb
    have hsp : Spoilt lo hi wb wb := Spoilt.refl _ _ _
    have HSP := hd (hwb ▸ hsp : Spoilt lo hi wb (w.alloc (.cells #[.bool lf, .slice PA np pc, .slice TA nt tc, .slice KA nk kc] 26)))
    clear hs0 hsp hwb
    go_enter Try.func23, Try.ntmps23
    go_wp2
    go_loopw [8] (fun i wr => ∃ k : Nat, k ≤ np ∧ i = .int .i64 k ∧ Hid (Spoilt lo hi wb wr)) (fun i _ => np - (intOf i).toNat)
    case atStart => exact ⟨0, Nat.zero_le _, rfl, HSP⟩
    case round =>
      obtain ⟨k, hk, rfl, HS⟩ := hrel
      clear HSP
      obtain ⟨x0, x1, x2, x3⟩ := HX.out.spoilt HS.out hw
      have hsz := HS.out.size
      rw [hsb.out] at hsz
      by_cases hlt : k < np
      · obtain ⟨lf', PA', np', pc', TA', nt', tc', KA', nk', kc', e, -, hP, -, -⟩ := HSH.out.keep HS.out
        simp only [Value.agg.injEq, Array.mk.injEq, List.cons.injEq, and_true, Value.bool.injEq, Value.slice.injEq] at e
        obtain ⟨rfl, ⟨rfl, rfl, rfl⟩, ⟨rfl, rfl, rfl⟩, ⟨rfl, rfl, rfl⟩⟩ := e
        obtain ⟨b, o, s, rfl, hb, hc, hz⟩ := hP k hlt
        have hbl := cell_in hc
        have hne : b ≠ w.heap.size := by omega
        have HC := hd hc
        have HBD := hd hb
        clear hP hb
        go_wp2
        go_roundw
        case rel => exact ⟨k + 1, by omega, by go_num, hd (HS.out.setCell HBD.out HC.out (.inr (.inl ⟨_, _, rfl, rfl⟩)))⟩
        case measure => simp [intOf]; omega
      · go_wp2
        have HS1 := HS
        clear HS x0 x1 x2 x3 hsz hlt hk
        obtain ⟨w1, hw1⟩ : ∃ w1 : World, w1 = wr := ⟨_, rfl⟩
        subst hw1
        obtain ⟨k1, hk1⟩ : ∃ k1 : Nat, k1 = k := ⟨_, rfl⟩
        subst hk1
        go_loopw [20] (fun i wr => ∃ k : Nat, k ≤ nt ∧ i = .int .i64 k ∧ Hid (Spoilt lo hi wb wr)) (fun i _ => nt - (intOf i).toNat)
        case atStart => exact ⟨0, Nat.zero_le _, rfl, HS1⟩
        case round =>
          obtain ⟨k, hk, rfl, HS⟩ := hrel
          clear HS1
          obtain ⟨x0, x1, x2, x3⟩ := HX.out.spoilt HS.out hw
          have hsz := HS.out.size
          rw [hsb.out] at hsz
          by_cases hlt : k < nt
          · obtain ⟨lf', PA', np', pc', TA', nt', tc', KA', nk', kc', e, -, -, hP, -⟩ := HSH.out.keep HS.out
            simp only [Value.agg.injEq, Array.mk.injEq, List.cons.injEq, and_true, Value.bool.injEq, Value.slice.injEq] at e
            obtain ⟨rfl, ⟨rfl, rfl, rfl⟩, ⟨rfl, rfl, rfl⟩, ⟨rfl, rfl, rfl⟩⟩ := e
            obtain ⟨b, o, s, rfl, hb, hc, hz⟩ := hP k hlt
            have hbl := cell_in hc
            have hne : b ≠ w.heap.size := by omega
            have HC := hd hc
            have HBD := hd hb
            clear hP hb
            go_wp2
            go_roundw
            case rel => exact ⟨k + 1, by omega, by go_num, hd (HS.out.setCell HBD.out HC.out (.inr (.inr (.inl ⟨_, _, rfl, rfl⟩))))⟩
            case measure => simp [intOf]; omega
          · go_wp2
            have HS1 := HS
            clear HS x0 x1 x2 x3 hsz hlt hk
            obtain ⟨w2, hw2⟩ : ∃ w2 : World, w2 = wr := ⟨_, rfl⟩
            subst hw2
            obtain ⟨k2, hk2⟩ : ∃ k2 : Nat, k2 = k := ⟨_, rfl⟩
            subst hk2
            go_loopw [34] (fun i wr => ∃ k : Nat, k ≤ nk ∧ i = .int .i64 k ∧ Hid (Spoilt lo hi wb wr)) (fun i _ => nk - (intOf i).toNat)
            case atStart => exact ⟨0, Nat.zero_le _, rfl, HS1⟩
            case round =>
              obtain ⟨k, hk, rfl, HS⟩ := hrel
              clear HS1
              obtain ⟨x0, x1, x2, x3⟩ := HX.out.spoilt HS.out hw
              have hsz := HS.out.size
              rw [hsb.out] at hsz
              by_cases hlt : k < nk
              · obtain ⟨lf', PA', np', pc', TA', nt', tc', KA', nk', kc', e, -, -, -, hP⟩ := HSH.out.keep HS.out
                simp only [Value.agg.injEq, Array.mk.injEq, List.cons.injEq, and_true, Value.bool.injEq, Value.slice.injEq] at e
                obtain ⟨rfl, ⟨rfl, rfl, rfl⟩, ⟨rfl, rfl, rfl⟩, ⟨rfl, rfl, rfl⟩⟩ := e
                obtain ⟨b, o, u, rfl, hb, hsu, hcu, hz⟩ := hP k hlt
                obtain ⟨lf1, PA1, np1, pc1, TA1, nt1, tc1, KA1, nk1, kc1, hsv, c0, c1, c2, c3⟩ := hsu.kid hcu
                have HIH := hd (ih wr _ (by omega) hsv)
                have HBD := hd hb
                have HSK := HSH
                clear hP hb hsv hsu hcu hz
                go_wp2_with (first | (refine HIH.out.mono ?_; rintro e w5 ⟨rfl, hs5⟩; have HS5 := hd (HS.out.trans hs5); obtain ⟨y0, y1, y2, y3⟩ := HX.out.spoilt HS5.out hw; obtain ⟨q, z0, z1, z2⟩ := kid_flag HSK.out HS5.out hlt))
                have Z0 := hd z0
                have Z2 := hd z2
                have hki : (k : Int) < (nk : Int) := by omega
                have hk0 : (0 : Int) ≤ (k : Int) := by omega
                clear z2 c0 c1 c2 c3 x0 x1 x2 x3 y0 y1 y2 hs5
                go_region
                all_goals
                  go_wp2
                  go_roundw
                  case rel => exact ⟨k + 1, by omega, by go_num, hd (HS5.out.drew.setCell Z2.out Z0.out (.inr (.inr (.inr ⟨_, _, rfl, rfl⟩))))⟩
                  case measure => simp [intOf]; omega
              · go_wp2
                go_end0
                exact ⟨rfl, HSB.out.trans HS.out⟩

end Go.Proofs.Ytkbggbkcchndeaa
