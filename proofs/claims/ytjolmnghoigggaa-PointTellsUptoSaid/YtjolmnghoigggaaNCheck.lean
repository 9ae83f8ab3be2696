/- Check: a visit that keeps what is wrong in a captured variable; the document's Check. -/
import Derived.Test.YtjolmnghoigggaaNEachs
namespace Go.Proofs.Ytjolmnghoigggaa
open Go.RowKit

theorem One.below {t : TypeId} {g : Nat} {u : Value} {w w' : World} (h : One t g u w) (hb : Below w.heap.size w w') : One t g u w' := (hb.block g (lt_of_block h)).trans h
set_option maxRecDepth 4000 in
theorem Eff.of_below {g : Nat} {w w' : World} (hb : Below w.heap.size w w') (hg : g ≤ w.heap.size) : Eff g none none w w' :=
  ⟨hb.mono hg, hb.size, fun _ hp _ _ => hb.cell hp, .inl rfl⟩

set_option maxRecDepth 4000 in
theorem box_lt {w w' : World} {o : Obj} (hb : Below (w.alloc o).heap.size (w.alloc o) w') : w.heap.size < w'.heap.size := by
  have := hb.size; simp at this; omega

/-- What is wrong so far. -/
def QC (g : Nat) (z : Int) (O : Option Nat) (w : World) : Prop := O = none ∧ One 37 g (.int .i64 z) w

set_option maxRecDepth 4000 in
theorem checkT_long {n : NT} (h : 1048576 < wrap64 (sizeT n)) : checkT n = 2 := by unfold checkT; rw [if_pos h]
set_option maxRecDepth 4000 in
theorem checkT_not {n : NT} (h : ¬ 1048576 < wrap64 (sizeT n)) : checkT n = chkT n := by unfold checkT; rw [if_neg h]

end Go.Proofs.Ytjolmnghoigggaa
