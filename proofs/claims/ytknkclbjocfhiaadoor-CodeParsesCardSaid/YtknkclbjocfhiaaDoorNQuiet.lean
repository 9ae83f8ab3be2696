/- A region that draws its order and holds calls that make memory, but leave all that was there: one walk in the order of the text, in whatever later world. -/
import Derived.Test.YtknkclbjocfhiaaDoorNCheck
import Derived.BigQuiet
namespace Go.Proofs.YtknkclbjocfhiaaDoor
open Go.RowKit

/-- The worlds that keep what lies below N as it is in w. -/
def Later (N : Nat) (w : World) : Type := { w' : World // Below N w w' }
instance (N : Nat) (w : World) : Nonempty (Later N w) := ⟨⟨w, Below.refl N w⟩⟩
set_option maxRecDepth 4000 in
theorem wp_region_later (N : Nat) {id : Nat} {Q : Exit → Act → World → Prop} {a : Act} {w : World} {l : List Oper} (hm : Tryd.prog.follows .mixedOrders = true) (hB : Region.lexB .any l.toArray = true)
    (h : wpQuiet Tryd.prog l.toArray (fun w' => ∃ u : Later N w, w' = u.1) (fun a' => ∀ w', (∃ u : Later N w, w' = u.1) → Q .normal a' w') l a) : (Code.region id l.toArray true).wp Tryd.prog Q a w :=
  wp_region_quiet (C := fun w' => ∃ u : Later N w, w' = u.1) hm hB ⟨⟨_, (Below.refl N w).drew⟩, rfl⟩ (by simpa using h)
set_option maxRecDepth 4000 in
theorem cell_in {w : World} {a : Addr} {v : Value} (h : w.cell? a = some v) : a.block < w.heap.size := by
  unfold World.cell? at h
  cases hb : w.heap[a.block]? with
  | none => rw [hb] at h; cases h
  | some o => exact (Array.getElem?_eq_some_iff.1 hb).1
set_option maxRecDepth 4000 in
theorem later_cell {w : World} {p : Addr} {v : Value} (h : w.cell? p = some v) : ∀ u : Later w.heap.size w, u.1.cell? p = some v := fun u => (u.2.cell (cell_in h)).trans h
set_option maxRecDepth 4000 in
theorem later_in {f : FuncId} {args : Array Value} {v : Value} {N : Nat} {w : World} {u : Later N w} (hN : N ≤ w.heap.size) (h : Calls Tryd.prog f args u.1 (Still v u.1)) :
    Calls Tryd.prog f args u.1 fun e w'' => e = .returned v ∧ ∃ u' : Later N w, w'' = u'.1 :=
  h.mono fun _ w'' ⟨he, hb⟩ => ⟨he, ⟨w'', u.2.trans (hb.mono (Nat.le_trans hN u.2.size))⟩, rfl⟩

end Go.Proofs.YtknkclbjocfhiaaDoor
