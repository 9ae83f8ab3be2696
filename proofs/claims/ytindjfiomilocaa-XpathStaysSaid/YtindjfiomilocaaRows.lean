/-
  NARROWER THAN 'FOR EVERY INPUT', by the rows' own cells (each row's printed sentence says how): XpathDoes: loops · XpathOrder: loops · XpathStays: loops.
  DERIVED. THE GIVEN ROWS OF THIS SEAT. 6 by the template 'for every input the law returns true; each argument reads behind the call as it read before'; 0 by the template 'total and deterministic' (their statements: YtindjfiomilocaaTotals.lean).
  GIVEN WITH THE SEED: the statements are not yours to turn. If you find one false, say at which input.
  Laid BY PROGRAM, IN A SANDBOX (cutbox-rows.mjs): the forced cells as the released guide's own fill.sh prints them over the translation 13547ff30b8f3ea8… (all of the seat's roots in one cut). By AI agents, Wed Nov 11 2026. No macro, syntax, notation, axiom, sorry.
-/
import Derived.Test.YtindjfiomilocaaChecked
import GoSem.Claim
import GoSem.ClaimJoined
import GoSem.ClaimMapViews
import Derived.JoinedTies
import Derived.KernelRfl
namespace Go.Proofs.Ytindjfiomilocaa
/- THE CELL 'sum', in the pinned program and in every row, IS THE sha256 OF THE DUMP (.gsa) THAT YtindjfiomilocaaProg.lean LOADS. Nothing in Lean hashes anything: it is a label: what it is worth is what the hold of that sum in a sandbox is worth. -/
noncomputable def Try.pinned : Pinned := { name := "ytindjfiomilocaa", sum := "13547ff30b8f3ea8f2fe569ca6c8bbdc443af021cc3510fd15f403a239b2386e", checked := Try.checked }
namespace Rows
def none {H : Type} : Left H := { results := [], args := [] }

/-- 'redlinelaw08.XpathDoes': WHATEVER THE INPUT: true; the input reads as it did. -/
def xpathDoesSpec : ChangeSpec := { name := "xpathDoes", fn := fun _ => fun
  | [d1, d2] => { results := [.lit (.bool true)], args := [d1, d2] }
  | _ => none }
def xpathDoesRow : OpenClaim := { program := "ytindjfiomilocaa", sum := "13547ff30b8f3ea8f2fe569ca6c8bbdc443af021cc3510fd15f403a239b2386e", func := "redline/redlinelaw08.XpathDoes", spec := "xpathDoes", recurses := true, loops := true, apart := false }
def XpathDoesSaid : Prop := xpathDoesRow.holds Try.pinned (OpenSpec.ofChange xpathDoesSpec)

/-- ITS FALSE NEIGHBOUR: 'it returns false'. Refute it at one input. -/
def xpathDoesWrong : ChangeSpec := { name := "xpathDoes", fn := fun _ => fun
  | [d1, d2] => { results := [.lit (.bool false)], args := [d1, d2] }
  | _ => none }
def XpathDoesWrongFalsely : Prop := xpathDoesRow.holds Try.pinned (OpenSpec.ofChange xpathDoesWrong)

/-- 'redlinelaw08.XpathInsert': WHATEVER THE INPUT: true; the input reads as it did. -/
def xpathInsertSpec : ChangeSpec := { name := "xpathInsert", fn := fun _ => fun
  | [d1, d2] => { results := [.lit (.bool true)], args := [d1, d2] }
  | _ => none }
def xpathInsertRow : OpenClaim := { program := "ytindjfiomilocaa", sum := "13547ff30b8f3ea8f2fe569ca6c8bbdc443af021cc3510fd15f403a239b2386e", func := "redline/redlinelaw08.XpathInsert", spec := "xpathInsert", recurses := true, apart := false }
def XpathInsertSaid : Prop := xpathInsertRow.holds Try.pinned (OpenSpec.ofChange xpathInsertSpec)

/-- ITS FALSE NEIGHBOUR: 'it returns false'. Refute it at one input. -/
def xpathInsertWrong : ChangeSpec := { name := "xpathInsert", fn := fun _ => fun
  | [d1, d2] => { results := [.lit (.bool false)], args := [d1, d2] }
  | _ => none }
def XpathInsertWrongFalsely : Prop := xpathInsertRow.holds Try.pinned (OpenSpec.ofChange xpathInsertWrong)

/-- 'redlinelaw08.XpathSplit': WHATEVER THE INPUT: true; the input reads as it did. -/
def xpathSplitSpec : ChangeSpec := { name := "xpathSplit", fn := fun _ => fun
  | [d1, d2, d3] => { results := [.lit (.bool true)], args := [d1, d2, d3] }
  | _ => none }
def xpathSplitRow : OpenClaim := { program := "ytindjfiomilocaa", sum := "13547ff30b8f3ea8f2fe569ca6c8bbdc443af021cc3510fd15f403a239b2386e", func := "redline/redlinelaw08.XpathSplit", spec := "xpathSplit", recurses := true, apart := false }
def XpathSplitSaid : Prop := xpathSplitRow.holds Try.pinned (OpenSpec.ofChange xpathSplitSpec)

/-- ITS FALSE NEIGHBOUR: 'it returns false'. Refute it at one input. -/
def xpathSplitWrong : ChangeSpec := { name := "xpathSplit", fn := fun _ => fun
  | [d1, d2, d3] => { results := [.lit (.bool false)], args := [d1, d2, d3] }
  | _ => none }
def XpathSplitWrongFalsely : Prop := xpathSplitRow.holds Try.pinned (OpenSpec.ofChange xpathSplitWrong)

/-- 'redlinelaw08.XpathMove': WHATEVER THE INPUT: true; the input reads as it did. -/
def xpathMoveSpec : ChangeSpec := { name := "xpathMove", fn := fun _ => fun
  | [d1, d2, d3] => { results := [.lit (.bool true)], args := [d1, d2, d3] }
  | _ => none }
def xpathMoveRow : OpenClaim := { program := "ytindjfiomilocaa", sum := "13547ff30b8f3ea8f2fe569ca6c8bbdc443af021cc3510fd15f403a239b2386e", func := "redline/redlinelaw08.XpathMove", spec := "xpathMove", recurses := true, apart := false }
def XpathMoveSaid : Prop := xpathMoveRow.holds Try.pinned (OpenSpec.ofChange xpathMoveSpec)

/-- ITS FALSE NEIGHBOUR: 'it returns false'. Refute it at one input. -/
def xpathMoveWrong : ChangeSpec := { name := "xpathMove", fn := fun _ => fun
  | [d1, d2, d3] => { results := [.lit (.bool false)], args := [d1, d2, d3] }
  | _ => none }
def XpathMoveWrongFalsely : Prop := xpathMoveRow.holds Try.pinned (OpenSpec.ofChange xpathMoveWrong)

/-- 'redlinelaw08.XpathOrder': WHATEVER THE INPUT: true; the input reads as it did. -/
def xpathOrderSpec : ChangeSpec := { name := "xpathOrder", fn := fun _ => fun
  | [d1, d2, d3] => { results := [.lit (.bool true)], args := [d1, d2, d3] }
  | _ => none }
def xpathOrderRow : OpenClaim := { program := "ytindjfiomilocaa", sum := "13547ff30b8f3ea8f2fe569ca6c8bbdc443af021cc3510fd15f403a239b2386e", func := "redline/redlinelaw08.XpathOrder", spec := "xpathOrder", recurses := true, loops := true, apart := false }
def XpathOrderSaid : Prop := xpathOrderRow.holds Try.pinned (OpenSpec.ofChange xpathOrderSpec)

/-- ITS FALSE NEIGHBOUR: 'it returns false'. Refute it at one input. -/
def xpathOrderWrong : ChangeSpec := { name := "xpathOrder", fn := fun _ => fun
  | [d1, d2, d3] => { results := [.lit (.bool false)], args := [d1, d2, d3] }
  | _ => none }
def XpathOrderWrongFalsely : Prop := xpathOrderRow.holds Try.pinned (OpenSpec.ofChange xpathOrderWrong)

/-- 'redlinelaw08.XpathStays': WHATEVER THE INPUT: true; the input reads as it did. -/
def xpathStaysSpec : ChangeSpec := { name := "xpathStays", fn := fun _ => fun
  | [d1, d2] => { results := [.lit (.bool true)], args := [d1, d2] }
  | _ => none }
def xpathStaysRow : OpenClaim := { program := "ytindjfiomilocaa", sum := "13547ff30b8f3ea8f2fe569ca6c8bbdc443af021cc3510fd15f403a239b2386e", func := "redline/redlinelaw08.XpathStays", spec := "xpathStays", recurses := true, loops := true, apart := false }
def XpathStaysSaid : Prop := xpathStaysRow.holds Try.pinned (OpenSpec.ofChange xpathStaysSpec)

/-- ITS FALSE NEIGHBOUR: 'it returns false'. Refute it at one input. -/
def xpathStaysWrong : ChangeSpec := { name := "xpathStays", fn := fun _ => fun
  | [d1, d2] => { results := [.lit (.bool false)], args := [d1, d2] }
  | _ => none }
def XpathStaysWrongFalsely : Prop := xpathStaysRow.holds Try.pinned (OpenSpec.ofChange xpathStaysWrong)

/- THE SECOND FORM. 'bulk': how many values and letters a reading holds, each counted each time it is reached (what is shared counts as often as it is met; a slice's spare places count too). A statement '..UptoSaid' is the law's where the arguments, and the package variables that the reading takes, are together of bulk at most 1048576: NARROWER than '..Said'. Prove '..Said' where nothing that the law and all that it calls make is longer than what came in: it says more and counts as full. Else prove '..UptoSaid'. A law counts once. -/
mutual
def uptoBulk {H : Type} : DataW H → Nat
  | .lit (.string bytes) => bytes.length + 1
  | .lit _ => 1
  | .nil => 1
  | .ptr d => uptoBulk d + 1
  | .slice elems spare => uptoBulkAll elems + uptoBulkAll spare + 1
  | .agg parts => uptoBulkAll parts + 1
  | .iface _ d => uptoBulk d + 1
  | .map entries => uptoBulkEntries entries + 1
  | .held _ => 1
def uptoBulkAll {H : Type} : List (DataW H) → Nat
  | [] => 0
  | d :: r => uptoBulk d + uptoBulkAll r
def uptoBulkEntries {H : Type} : List (Lit × DataW H) → Nat
  | [] => 0
  | x :: r => uptoBulkEntry x + uptoBulkEntries r
def uptoBulkEntry {H : Type} : Lit × DataW H → Nat
  | (.string bytes, d) => bytes.length + uptoBulk d + 1
  | (_, d) => uptoBulk d + 1
 end
def uptoSmall : (H : Type) → List (DataW H) → Bool := fun _ ds => decide (uptoBulkAll ds ≤ 1048576)
def OpenSpec.upto (s : _root_.Go.ChangeSpec) : _root_.Go.OpenSpec := { _root_.Go.OpenSpec.ofChange s with cond := some uptoSmall }

/-- 'redlinelaw08.XpathDoes', WHERE WHAT IT READS IS OF BULK AT MOST 1048576: true; the input reads as it did. -/
def xpathDoesUptoRow : OpenClaim := { program := "ytindjfiomilocaa", sum := "13547ff30b8f3ea8f2fe569ca6c8bbdc443af021cc3510fd15f403a239b2386e", func := "redline/redlinelaw08.XpathDoes", spec := "xpathDoes", recurses := true, loops := true, apart := false, narrowed := true }
def XpathDoesUptoSaid : Prop := xpathDoesUptoRow.holds Try.pinned (OpenSpec.upto xpathDoesSpec)

/-- 'redlinelaw08.XpathInsert', WHERE WHAT IT READS IS OF BULK AT MOST 1048576: true; the input reads as it did. -/
def xpathInsertUptoRow : OpenClaim := { program := "ytindjfiomilocaa", sum := "13547ff30b8f3ea8f2fe569ca6c8bbdc443af021cc3510fd15f403a239b2386e", func := "redline/redlinelaw08.XpathInsert", spec := "xpathInsert", recurses := true, apart := false, narrowed := true }
def XpathInsertUptoSaid : Prop := xpathInsertUptoRow.holds Try.pinned (OpenSpec.upto xpathInsertSpec)

/-- 'redlinelaw08.XpathSplit', WHERE WHAT IT READS IS OF BULK AT MOST 1048576: true; the input reads as it did. -/
def xpathSplitUptoRow : OpenClaim := { program := "ytindjfiomilocaa", sum := "13547ff30b8f3ea8f2fe569ca6c8bbdc443af021cc3510fd15f403a239b2386e", func := "redline/redlinelaw08.XpathSplit", spec := "xpathSplit", recurses := true, apart := false, narrowed := true }
def XpathSplitUptoSaid : Prop := xpathSplitUptoRow.holds Try.pinned (OpenSpec.upto xpathSplitSpec)

/-- 'redlinelaw08.XpathMove', WHERE WHAT IT READS IS OF BULK AT MOST 1048576: true; the input reads as it did. -/
def xpathMoveUptoRow : OpenClaim := { program := "ytindjfiomilocaa", sum := "13547ff30b8f3ea8f2fe569ca6c8bbdc443af021cc3510fd15f403a239b2386e", func := "redline/redlinelaw08.XpathMove", spec := "xpathMove", recurses := true, apart := false, narrowed := true }
def XpathMoveUptoSaid : Prop := xpathMoveUptoRow.holds Try.pinned (OpenSpec.upto xpathMoveSpec)

/-- 'redlinelaw08.XpathOrder', WHERE WHAT IT READS IS OF BULK AT MOST 1048576: true; the input reads as it did. -/
def xpathOrderUptoRow : OpenClaim := { program := "ytindjfiomilocaa", sum := "13547ff30b8f3ea8f2fe569ca6c8bbdc443af021cc3510fd15f403a239b2386e", func := "redline/redlinelaw08.XpathOrder", spec := "xpathOrder", recurses := true, loops := true, apart := false, narrowed := true }
def XpathOrderUptoSaid : Prop := xpathOrderUptoRow.holds Try.pinned (OpenSpec.upto xpathOrderSpec)

/-- 'redlinelaw08.XpathStays', WHERE WHAT IT READS IS OF BULK AT MOST 1048576: true; the input reads as it did. -/
def xpathStaysUptoRow : OpenClaim := { program := "ytindjfiomilocaa", sum := "13547ff30b8f3ea8f2fe569ca6c8bbdc443af021cc3510fd15f403a239b2386e", func := "redline/redlinelaw08.XpathStays", spec := "xpathStays", recurses := true, loops := true, apart := false, narrowed := true }
def XpathStaysUptoSaid : Prop := xpathStaysUptoRow.holds Try.pinned (OpenSpec.upto xpathStaysSpec)

end Rows
end Go.Proofs.Ytindjfiomilocaa
