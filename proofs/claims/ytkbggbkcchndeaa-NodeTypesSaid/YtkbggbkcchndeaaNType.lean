/- Type, and the document's; what is wrong with one node. -/
import Derived.Test.YtkbggbkcchndeaaNMem
namespace Go.Proofs.Ytkbggbkcchndeaa
open Go.RowKit

theorem ret_str {a b : ByteArray} (h : a = b) : Ending.returned (.string a) = .returned (.string b) := by rw [h]

set_option maxHeartbeats 1000000 in
theorem type_any (lf : Bool) (PA : Option Addr) (ps : List Pr) (pc : Nat) (t k : Value) (w : World) (hl : ps.length ≤ 9223372036854775807) (hp : PL w w.heap.size PA ps) :
    Calls Try.prog 16 #[.agg #[.bool lf, .slice PA ps.length pc, t, k]] w (Still (.string (typeT lf ps)) w) := by
  have hb1 : Below w.heap.size w (w.alloc (.cells #[.bool lf, .slice PA ps.length pc, t, k] 26)) := (Below.refl _ _).alloc (Nat.le_refl _) _
  have HC := hd (pget_any PA ps pc tyKey _ hl ((hp.below hb1).more hb1.size))
  clear hp
  cases lf
  · go_enter Try.func16, Try.ntmps16
    go_wp2_with (go_at_call 27; refine HC.out.mono ?_; rintro e w' ⟨rfl, hb⟩)
    go_ret
    exact ⟨rfl, hb1.trans (hb.mono hb1.size)⟩
  · go_enter Try.func16, Try.ntmps16
    go_wp2
    go_ret
    exact ⟨rfl, hb1⟩
set_option maxHeartbeats 1000000 in
theorem rtype_any (lf : Bool) (PA : Option Addr) (ps : List Pr) (pc : Nat) (t k : Value) (w : World) (hl : ps.length ≤ 9223372036854775807) (hp : PL w w.heap.size PA ps) :
    Calls Try.prog 17 #[.agg #[.bool lf, .slice PA ps.length pc, t, k]] w (Still (.string (typeT lf ps)) w) := by
  have hb1 : Below w.heap.size w (w.alloc (.cells #[.bool lf, .slice PA ps.length pc, t, k] 26)) := (Below.refl _ _).alloc (Nat.le_refl _) _
  have HC := hd (prget_any PA ps pc tyKey _ hl ((hp.below hb1).more hb1.size))
  clear hp
  cases lf
  · go_enter Try.func17, Try.ntmps17
    go_wp2_with (go_at_call 39; refine HC.out.mono ?_; rintro e w' ⟨rfl, hb⟩)
    go_ret
    exact ⟨rfl, hb1.trans (hb.mono hb1.size)⟩
  · go_enter Try.func17, Try.ntmps17
    go_wp2
    go_ret
    exact ⟨rfl, hb1⟩

end Go.Proofs.Ytkbggbkcchndeaa
