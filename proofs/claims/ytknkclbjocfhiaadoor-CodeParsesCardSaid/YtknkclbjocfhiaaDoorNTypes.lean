/- NodeTypes answers true. -/
import Derived.Test.YtknkclbjocfhiaaDoorNLive
namespace Go.Proofs.YtknkclbjocfhiaaDoor
open Go.RowKit

/-- Block b holds these four cells. -/
def Box (w : World) (b : Nat) (u0 u1 u2 u3 : Value) : Prop := w.cell? ⟨b, 0, none⟩ = some u0 ∧ w.cell? ⟨b, 1, none⟩ = some u1 ∧ w.cell? ⟨b, 2, none⟩ = some u2 ∧ w.cell? ⟨b, 3, none⟩ = some u3
set_option maxRecDepth 4000 in
theorem Box.keep {w w' : World} {b : Nat} {u0 u1 u2 u3 : Value} (h : Box w b u0 u1 u2 u3) (hb : Below w.heap.size w w') : Box w' b u0 u1 u2 u3 :=
  ⟨(hb.cell (cell_in h.1)).trans h.1, (hb.cell (cell_in h.2.1)).trans h.2.1, (hb.cell (cell_in h.2.2.1)).trans h.2.2.1, (hb.cell (cell_in h.2.2.2)).trans h.2.2.2⟩
set_option maxRecDepth 4000 in
theorem Box.lt {w : World} {b : Nat} {u0 u1 u2 u3 : Value} (h : Box w b u0 u1 u2 u3) : b < w.heap.size := cell_in h.1
set_option maxRecDepth 4000 in
theorem Box.new (w : World) (u0 u1 u2 u3 : Value) (t : TypeId) : Box (w.alloc (.cells #[u0, u1, u2, u3] t)) w.heap.size u0 u1 u2 u3 := by
  refine ⟨?_, ?_, ?_, ?_⟩ <;> (rw [World.cell?_alloc_at _ _ _ _ rfl]; rfl)
set_option maxRecDepth 4000 in
theorem Box.alloc {w : World} {b : Nat} {u0 u1 u2 u3 : Value} (h : Box w b u0 u1 u2 u3) (o : Obj) : Box (w.alloc o) b u0 u1 u2 u3 := h.keep ((Below.refl _ _).alloc (Nat.le_refl _) o)

set_option maxRecDepth 4000 in
theorem getV_none {ps : List Pr} {k : ByteArray} (h : getB ps k = false) : getV ps k = ByteArray.empty := by
  unfold getB at h; unfold getV
  cases hf : getF ps k with
  | none => rfl
  | some p => rw [hf] at h; cases h

end Go.Proofs.YtknkclbjocfhiaaDoor
