/- CodePrints answers true. -/
import Derived.Test.YtknkclbjocfhiaaDoorCLive
import Derived.Test.YtknkclbjocfhiaaDoorCRText
namespace Go.Proofs.YtknkclbjocfhiaaDoor
open Go.RowKit

/-- A variable of the call's own that holds a node. -/
structure Var4 (g : Nat) (a b c d : Value) (w : World) : Prop where
  blk : w.heap[g]? = some (.cells #[a, b, c, d] 26 (0, 0))
set_option maxRecDepth 4000 in
theorem Var4.new (w : World) (a b c d : Value) : Var4 w.heap.size a b c d (w.alloc (.cells #[a, b, c, d] 26)) := ⟨boxAt w _ _⟩
set_option maxRecDepth 4000 in
theorem Var4.lt {g : Nat} {a b c d : Value} {w : World} (h : Var4 g a b c d w) : g < w.heap.size := (Array.getElem?_eq_some_iff.1 h.blk).1
set_option maxRecDepth 4000 in
theorem Var4.keep {g : Nat} {a b c d : Value} {w w' : World} (h : Var4 g a b c d w) (hb : Below w.heap.size w w') : Var4 g a b c d w' := ⟨(hb.block _ h.lt).trans h.blk⟩
set_option maxRecDepth 4000 in
theorem Var4.cells {g : Nat} {a b c d : Value} {w : World} (h : Var4 g a b c d w) : w.cell? ⟨g, 0, none⟩ = some a ∧ w.cell? ⟨g, 1, none⟩ = some b ∧ w.cell? ⟨g, 2, none⟩ = some c ∧ w.cell? ⟨g, 3, none⟩ = some d := cell4 h.blk

set_option maxRecDepth 4000 in
set_option maxHeartbeats 4000000 in
theorem prints_any (d : Nat) (w : World) (v : Value) (n : NT) (hT : Hid (Tab w)) (hn : NodeAt d w w.heap.size v n) : Calls Tryd.prog 3 #[v] w (Still (.bool true) w) := by
  obtain ⟨lf, PA, np, pc, TA, nt, tc, KA, nk, kc, rfl⟩ := hn.val
  obtain ⟨W1, hW1⟩ : ∃ W1, W1 = w.alloc (.cells #[.bool lf, .slice PA np pc, .slice TA nt tc, .slice KA nk kc] 26) := ⟨_, rfl⟩
  have hb1 : Below w.heap.size w W1 := hW1 ▸ (Below.refl _ _).alloc (Nat.le_refl _) _
  have HV1 := hd (hW1 ▸ Var4.new w (.bool lf) (.slice PA np pc) (.slice TA nt tc) (.slice KA nk kc))
  have HB1 := hd hb1
  have HN := hd hn
  have HL := hd (live6_any W1 (hd (hT.out.below hb1)))
  obtain ⟨F, hF⟩ : ∃ F, fewB 200 n = F := ⟨_, rfl⟩
  have HF := hd hF
  have HC2 := fun (X : World) (hb : Below w.heap.size w X) => hd (hF ▸ few_any d X _ n 200 (by unfold In64; omega) (HN.out.later hb))
  clear hn hb1 hF
  subst hW1
  go_enter Tryd.func3, Tryd.ntmps3
  go_wp2_with fail
  refine HL.out.mono ?_
  rintro e w2 ⟨rfl, b2⟩
  have HV2 := hd (HV1.out.keep b2)
  have HB2 := hd (HB1.out.trans (b2.mono HB1.out.size))
  have HC3 := HC2 w2 HB2.out
  obtain ⟨x0, x1, x2, x3⟩ := HV2.out.cells
  clear b2
  go_wp2_with fail
  refine HC3.out.mono ?_
  rintro e w3 ⟨rfl, b3⟩
  have HV3 := hd (HV2.out.keep b3)
  have HB3 := hd (HB2.out.trans (b3.mono HB2.out.size))
  clear b3 x0 x1 x2 x3 HC2 HC3
  cases F
  · go_wp2
    go_ret
    exact ⟨rfl, HB3.out⟩
  · obtain ⟨x0, x1, x2, x3⟩ := HV3.out.cells
    have HC4 := hd (print_any d w3 _ n (hd (hT.out.below HB3.out)) (HN.out.later HB3.out) HF.out)
    obtain ⟨S, hS⟩ : ∃ S, bs (printS n) = S := ⟨_, rfl⟩
    obtain ⟨E, hE⟩ : ∃ E, checkT n = E := ⟨_, rfl⟩
    have HS := hd hS
    have HE := hd hE
    clear hS hE
    go_wp2_with fail
    refine HC4.out.mono ?_
    intro e w4 h4
    obtain ⟨he, b4⟩ := h4
    rw [HS.out, HE.out] at he
    subst he
    have HV4 := hd (HV3.out.keep b4)
    have HB4 := hd (HB3.out.trans (b4.mono HB3.out.size))
    have HC5 := hd (dprint_any d w4 _ n (HN.out.later HB4.out) HF.out)
    clear b4 x0 x1 x2 x3
    obtain ⟨x0, x1, x2, x3⟩ := HV4.out.cells
    go_wp2_with fail
    refine HC5.out.mono ?_
    intro e w5 h5
    obtain ⟨he, b5⟩ := h5
    rw [HS.out, HE.out] at he
    subst he
    have HB5 := hd (HB4.out.trans (b5.mono HB4.out.size))
    have hss : (S.toList == S.toList) = true := by simp
    have hee : (E == E) = true := by simp
    clear b5 x0 x1 x2 x3
    go_wp2
    go_ret
    exact ⟨rfl, HB5.out⟩

end Go.Proofs.YtknkclbjocfhiaaDoor
