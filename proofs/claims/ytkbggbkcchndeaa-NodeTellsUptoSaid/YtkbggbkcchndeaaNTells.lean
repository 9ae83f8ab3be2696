/- NodeTells answers true, where the tree is no greater than 1048576. -/
import Derived.Test.YtkbggbkcchndeaaNText
import Derived.Test.YtkbggbkcchndeaaNCopy
namespace Go.Proofs.Ytkbggbkcchndeaa
open Go.RowKit

theorem keep8 {w W W' : World} {B C : Nat} {a b c d e f g h : Value} (hS : Below w.heap.size w W ∧ W.cell? ⟨B, 0, none⟩ = some a ∧ W.cell? ⟨B, 1, none⟩ = some b ∧ W.cell? ⟨B, 2, none⟩ = some c ∧ W.cell? ⟨B, 3, none⟩ = some d ∧ W.cell? ⟨C, 0, none⟩ = some e ∧ W.cell? ⟨C, 1, none⟩ = some f ∧ W.cell? ⟨C, 2, none⟩ = some g ∧ W.cell? ⟨C, 3, none⟩ = some h) (hb : Below W.heap.size W W') :
    Below w.heap.size w W' ∧ W'.cell? ⟨B, 0, none⟩ = some a ∧ W'.cell? ⟨B, 1, none⟩ = some b ∧ W'.cell? ⟨B, 2, none⟩ = some c ∧ W'.cell? ⟨B, 3, none⟩ = some d ∧ W'.cell? ⟨C, 0, none⟩ = some e ∧ W'.cell? ⟨C, 1, none⟩ = some f ∧ W'.cell? ⟨C, 2, none⟩ = some g ∧ W'.cell? ⟨C, 3, none⟩ = some h := by
  obtain ⟨h0, h1, h2, h3, h4, h5, h6, h7, h8⟩ := hS
  exact ⟨h0.trans (hb.mono h0.size), (hb.cell (cell_in h1)).trans h1, (hb.cell (cell_in h2)).trans h2, (hb.cell (cell_in h3)).trans h3, (hb.cell (cell_in h4)).trans h4, (hb.cell (cell_in h5)).trans h5, (hb.cell (cell_in h6)).trans h6, (hb.cell (cell_in h7)).trans h7, (hb.cell (cell_in h8)).trans h8⟩

set_option maxRecDepth 100000 in
set_option maxHeartbeats 16000000 in
theorem tells_any (d : Nat) (w : World) (v : Value) (n : NT) (hs : sizeT n ≤ 1048576) (hn : NodeAt d w w.heap.size v n) : Calls Try.prog 3 #[v] w (Still (.bool true) w) := by
  have hn0 := hn
  obtain ⟨d', lf, ps, tx, ks, PA, pc, TA, tc, KA, kc, hd', rfl, rfl, hp, ht, hf, hks⟩ := hn.open_
  have hb1 : Below w.heap.size w (w.alloc (.cells #[.bool lf, .slice PA ps.length pc, .slice TA tx.length tc, .slice KA ks.length kc] 26)) := (Below.refl _ _).alloc (Nat.le_refl _) _
  have HL := hd (live_any (w.alloc (.cells #[.bool lf, .slice PA ps.length pc, .slice TA tx.length tc, .slice KA ks.length kc] 26)))
  have HC := fun (w' : World) (hb : Below w.heap.size w w') => hd (few_any d w' _ _ 200 (by unfold In64; omega) (hn0.later hb))
  obtain ⟨n, hnn⟩ : ∃ n, n = NT.mk lf ps tx ks := ⟨_, rfl⟩
  rw [← hnn] at hs hn0 HC
  have HN := hd hn0
  have hTY := fun (w' : World) (hb : Below w.heap.size w w') => hd (type_any lf PA ps pc (.slice TA tx.length tc) (.slice KA ks.length kc) w' (by have := hf.2.1; omega) ((hp.below hb).more hb.size))
  have hRTY := fun (w' : World) (hb : Below w.heap.size w w') => hd (rtype_any lf PA ps pc (.slice TA tx.length tc) (.slice KA ks.length kc) w' (by have := hf.2.1; omega) ((hp.below hb).more hb.size))
  have htl := textT_le n
  have HS := fun (w' : World) (hb : Below w.heap.size w w') => hd (size_any d w' _ _ (hn0.later hb))
  have HRS := fun (w' : World) (hb : Below w.heap.size w w') => hd (rsize_any d w' _ _ (hn0.later hb))
  have HK := fun (w' : World) (hb : Below w.heap.size w w') => hd (ncheck_any d w' _ _ (hn0.later hb))
  have HRK := fun (w' : World) (hb : Below w.heap.size w w') => hd (rncheck_any d w' _ _ (hn0.later hb))
  have HT := fun (w' : World) (hb : Below w.heap.size w w') => hd (text_any d w' _ _ (by omega) (hn0.later hb))
  have HRT := fun (w' : World) (hb : Below w.heap.size w w') => hd (rtext_any d w' _ _ (by omega) (hn0.later hb))
  obtain ⟨Z, hZ⟩ : ∃ Z, Z = wrap64 (sizeT n) := ⟨_, rfl⟩
  obtain ⟨C, hC⟩ : ∃ C, C = checkT n := ⟨_, rfl⟩
  obtain ⟨Y, hY⟩ : ∃ Y, Y = typeT lf ps := ⟨_, rfl⟩
  obtain ⟨L, hL⟩ : ∃ L, L = textT n := ⟨_, rfl⟩
  rw [← hZ] at HS HRS
  rw [← hC] at HK HRK
  rw [← hY] at hTY hRTY
  rw [← hL] at HT HRT htl
  have hLl : L.length ≤ 1048576 := by omega
  have HE := hd (sameL_self L)
  have HB := hd hb1
  obtain ⟨F, hF⟩ : ∃ F, F = fewB 200 n := ⟨_, rfl⟩
  simp only [← hF] at HC
  clear hn hn0 hp ht hf hks hd' hb1 hF hZ hC hY hL htl hs hnn
  cases F
  · clear hTY hRTY HS HRS HK HRK HT HRT
    go_enter Try.func3, Try.ntmps3
    go_wp2_with (first
      | (go_at_call 10; refine (HC _ B1.out).out.mono ?_; rintro e w2 ⟨rfl, b2⟩)
      | (go_at_call 9; refine HL.out.mono ?_; rintro e w1 ⟨rfl, b1⟩; obtain ⟨x0, x1, x2, x3⟩ := box4 b1; have B1 := hd (HB.out.trans (b1.mono HB.out.size))))
    go_ret
    exact ⟨rfl, B1.out.trans (b2.mono B1.out.size)⟩
  · go_enter Try.func3, Try.ntmps3
    go_wp2_with (first
      | (go_at_call 11; refine (copy_any d _ _ n (HN.out.later B2.out)).mono ?_; intro e w3 h3; obtain ⟨v3, rfl, t3, b3⟩ := h3; obtain ⟨lf3, PA3, np3, pc3, TA3, nt3, tc3, KA3, nk3, kc3, rfl⟩ := (t3.at_ (B := w3.heap.size) (fun b hb => hb.2)).val; have B3 := hd (B2.out.trans (b3.mono B2.out.size)); have X3 := hd (X2.out.keep b3); have N3 := hd (t3.at_ (B := w3.heap.size) (fun b hb => hb.2)); clear x0 x1 x2 x3; obtain ⟨x0, x1, x2, x3⟩ := X3.out; have hl3 := X3.out.lt; clear b3 t3)
      | (go_at_call 10; refine (HC _ B1.out).out.mono ?_; rintro e w2 ⟨rfl, b2⟩; have X2 := hd (X1.out.keep b2); have B2 := hd (B1.out.trans (b2.mono B1.out.size)); clear x0 x1 x2 x3; obtain ⟨x0, x1, x2, x3⟩ := X2.out; clear b2)
      | (go_at_call 9; refine HL.out.mono ?_; rintro e w1 ⟨rfl, b1⟩; have X1 := hd ((Box.new _ _ _ _ _ _).keep b1); obtain ⟨x0, x1, x2, x3⟩ := X1.out; have B1 := hd (HB.out.trans (b1.mono HB.out.size)); clear b1))
    have hX := X3.out.alloc (.cells #[.bool lf3, .slice PA3 np3 pc3, .slice TA3 nt3 tc3, .slice KA3 nk3 kc3] 26)
    have hC3 := Box.new w3 (.bool lf3) (.slice PA3 np3 pc3) (.slice TA3 nt3 tc3) (.slice KA3 nk3 kc3) 26
    obtain ⟨W0, hW0⟩ : ∃ W0, W0 = w3.alloc (.cells #[.bool lf3, .slice PA3 np3 pc3, .slice TA3 nt3 tc3, .slice KA3 nk3 kc3] 26) := ⟨_, rfl⟩
    have hbw : Below w.heap.size w W0 := hW0 ▸ B3.out.alloc B3.out.size _
    have hb3w : Below w3.heap.size w3 W0 := hW0 ▸ (Below.refl _ _).alloc (Nat.le_refl _) _
    have HUP := hd (fun (W : World) (h : Below W0.heap.size W0 W) => hbw.trans (h.mono hbw.size))
    have HUN := hd (fun (W : World) (h : Below W0.heap.size W0 W) => N3.out.later (hb3w.trans (h.mono hb3w.size)))
    rw [← hW0] at hX hC3
    have hS0 : Below W0.heap.size W0 W0.drew ∧ W0.drew.cell? ⟨w.heap.size, 0, none⟩ = some (.bool lf) ∧ W0.drew.cell? ⟨w.heap.size, 1, none⟩ = some (.slice PA ps.length pc) ∧ W0.drew.cell? ⟨w.heap.size, 2, none⟩ = some (.slice TA tx.length tc) ∧ W0.drew.cell? ⟨w.heap.size, 3, none⟩ = some (.slice KA ks.length kc) ∧ W0.drew.cell? ⟨w3.heap.size, 0, none⟩ = some (.bool lf3) ∧ W0.drew.cell? ⟨w3.heap.size, 1, none⟩ = some (.slice PA3 np3 pc3) ∧ W0.drew.cell? ⟨w3.heap.size, 2, none⟩ = some (.slice TA3 nt3 tc3) ∧ W0.drew.cell? ⟨w3.heap.size, 3, none⟩ = some (.slice KA3 nk3 kc3) :=
      ⟨(Below.refl _ _).drew, hX.1, hX.2.1, hX.2.2.1, hX.2.2.2, hC3.1, hC3.2.1, hC3.2.2.1, hC3.2.2.2⟩
    clear x0 x1 x2 x3 hX hC3 hbw hb3w HL HC X1 X2 X3
    rw [← hW0]
    clear hW0
    go_region_held3 (fun w' => Below W0.heap.size W0 w' ∧ w'.cell? ⟨w.heap.size, 0, none⟩ = some (.bool lf) ∧ w'.cell? ⟨w.heap.size, 1, none⟩ = some (.slice PA ps.length pc) ∧ w'.cell? ⟨w.heap.size, 2, none⟩ = some (.slice TA tx.length tc) ∧ w'.cell? ⟨w.heap.size, 3, none⟩ = some (.slice KA ks.length kc) ∧ w'.cell? ⟨w3.heap.size, 0, none⟩ = some (.bool lf3) ∧ w'.cell? ⟨w3.heap.size, 1, none⟩ = some (.slice PA3 np3 pc3) ∧ w'.cell? ⟨w3.heap.size, 2, none⟩ = some (.slice TA3 nt3 tc3) ∧ w'.cell? ⟨w3.heap.size, 3, none⟩ = some (.slice KA3 nk3 kc3))
      (first
        | assumption
        | exact hS0
        | go_keep)
      (first
        | (go_at_call 12; refine Calls.mono (HS _ ?hh).out ?_; (case hh => (go_split_ands; refine HUP.out _ ?_; assumption)); rintro e v1 ⟨rfl, q1⟩; have g1 := keep8 ‹_› q1)
        | (go_at_call 13; refine Calls.mono (HRS _ ?hh).out ?_; (case hh => (go_split_ands; refine HUP.out _ ?_; assumption)); rintro e v2 ⟨rfl, q2⟩; have g2 := keep8 ‹_› q2)
        | (go_at_call 14; refine Calls.mono (HK _ ?hh).out ?_; (case hh => (go_split_ands; refine HUP.out _ ?_; assumption)); rintro e v3 ⟨rfl, q3⟩; have g3 := keep8 ‹_› q3)
        | (go_at_call 15; refine Calls.mono (HRK _ ?hh).out ?_; (case hh => (go_split_ands; refine HUP.out _ ?_; assumption)); rintro e v4 ⟨rfl, q4⟩; have g4 := keep8 ‹_› q4)
        | (go_at_call 16; refine Calls.mono (hTY _ ?hh).out ?_; (case hh => (go_split_ands; refine HUP.out _ ?_; assumption)); rintro e v5 ⟨rfl, q5⟩; have g5 := keep8 ‹_› q5)
        | (go_at_call 17; refine Calls.mono (hRTY _ ?hh).out ?_; (case hh => (go_split_ands; refine HUP.out _ ?_; assumption)); rintro e v6 ⟨rfl, q6⟩; have g6 := keep8 ‹_› q6)
        | (go_at_call 19; refine Calls.mono (HT _ ?hh).out ?_; (case hh => (go_split_ands; refine HUP.out _ ?_; assumption)); intro e v7 h7; obtain ⟨A7, c7, rfl, _, hv7, _, q7⟩ := h7.own L.length rfl; have g7 := keep8 ‹_› q7; have HV7 := hd hv7; clear hv7)
        | (go_at_call 20; refine Calls.mono (HRT _ ?hh).out ?_; (case hh => (go_split_ands; refine HUP.out _ ?_; assumption)); intro e v8 h8; obtain ⟨A8, c8, rfl, _, hv8, _, q8⟩ := h8.own L.length rfl; have g8 := keep8 ‹_› q8; have HV8 := hd hv8; have HV7' := hd (HV7.out.later q8); clear hv8)
        | (go_at_call 18; refine Calls.mono (rsame_any A7 A8 L L L.length L.length c7 c8 true HE.out _ rfl rfl (by omega) (by omega) HV7'.out HV8.out) ?_; rintro e v9 ⟨rfl, kd, rfl⟩; have g9 := keep8 ‹_› (below_drewN (Below.refl _ _) kd))
        | (go_at_call 21; refine Calls.mono (rnsame_any d d _ _ _ n n ?hh ?h2) ?_; (case hh => (go_split_ands; refine HUN.out _ ?_; assumption)); (case h2 => (go_split_ands; refine HN.out.later (HUP.out _ ?_); assumption)); rintro e v10 ⟨rfl, q10⟩; have g10 := keep8 ‹_› q10))
    go_split_ands
    rw [eqT_self]
    go_wp2
    go_ret
    exact ⟨rfl, HUP.out _ ‹_›⟩

end Go.Proofs.Ytkbggbkcchndeaa
