/-
  No cell of these rows narrows 'for every input' (looked for: loops, veiled, ifaces, maps, wideKeys, modest, calm, conditions, laid).
  DERIVED. THE GIVEN ROWS OF THIS SEAT. 6 by the template 'for every input the law returns true; each argument reads behind the call as it read before'; 0 by the template 'total and deterministic' (their statements: YtggbafkeogccjaaTotals.lean).
  GIVEN WITH THE SEED: the statements are not yours to turn. If you find one false, say at which input.
  Laid BY PROGRAM, IN A SANDBOX (cutbox-rows.mjs): the forced cells as the released guide's own fill.sh prints them over the translation 1523c6a998c05049… (all of the seat's roots in one cut). By AI agents, Wed Nov 11 2026. No macro, syntax, notation, axiom, sorry.
-/
import Derived.Test.YtggbafkeogccjaaChecked
import GoSem.Claim
import GoSem.ClaimJoined
import GoSem.ClaimMapViews
import Derived.JoinedTies
import Derived.KernelRfl
namespace Go.Proofs.Ytggbafkeogccjaa
/- THE CELL 'sum', in the pinned program and in every row, IS THE sha256 OF THE DUMP (.gsa) THAT YtggbafkeogccjaaProg.lean LOADS. Nothing in Lean hashes anything: it is a label: what it is worth is what the hold of that sum in a sandbox is worth. -/
noncomputable def Try.pinned : Pinned := { name := "ytggbafkeogccjaa", sum := "1523c6a998c050499cede28ea0ed3688ab7e1550b6429ad31eabe50c24fd615d", checked := Try.checked }
namespace Rows
def none {H : Type} : Left H := { results := [], args := [] }

/-- 'redlinelaw01.PropTells': WHATEVER THE INPUT: true; the input reads as it did. -/
def propTellsSpec : ChangeSpec := { name := "propTells", fn := fun _ => fun
  | [d1, d2, d3] => { results := [.lit (.bool true)], args := [d1, d2, d3] }
  | _ => none }
def propTellsRow : OpenClaim := { program := "ytggbafkeogccjaa", sum := "1523c6a998c050499cede28ea0ed3688ab7e1550b6429ad31eabe50c24fd615d", func := "redline/redlinelaw01.PropTells", spec := "propTells", inPlace := ["internal/bytealg.abigen_runtime_cmpstring"], unfollowed := true, recurses := true, apart := false }
def PropTellsSaid : Prop := propTellsRow.holds Try.pinned (OpenSpec.ofChange propTellsSpec)

/-- ITS FALSE NEIGHBOUR: 'it returns false'. Refute it at one input. -/
def propTellsWrong : ChangeSpec := { name := "propTells", fn := fun _ => fun
  | [d1, d2, d3] => { results := [.lit (.bool false)], args := [d1, d2, d3] }
  | _ => none }
def PropTellsWrongFalsely : Prop := propTellsRow.holds Try.pinned (OpenSpec.ofChange propTellsWrong)

/-- 'redlinelaw01.PropChanges': WHATEVER THE INPUT: true; the input reads as it did. -/
def propChangesSpec : ChangeSpec := { name := "propChanges", fn := fun _ => fun
  | [d1, d2, d3] => { results := [.lit (.bool true)], args := [d1, d2, d3] }
  | _ => none }
def propChangesRow : OpenClaim := { program := "ytggbafkeogccjaa", sum := "1523c6a998c050499cede28ea0ed3688ab7e1550b6429ad31eabe50c24fd615d", func := "redline/redlinelaw01.PropChanges", spec := "propChanges", inPlace := ["internal/bytealg.abigen_runtime_cmpstring"], unfollowed := true, recurses := true, apart := false }
def PropChangesSaid : Prop := propChangesRow.holds Try.pinned (OpenSpec.ofChange propChangesSpec)

/-- ITS FALSE NEIGHBOUR: 'it returns false'. Refute it at one input. -/
def propChangesWrong : ChangeSpec := { name := "propChanges", fn := fun _ => fun
  | [d1, d2, d3] => { results := [.lit (.bool false)], args := [d1, d2, d3] }
  | _ => none }
def PropChangesWrongFalsely : Prop := propChangesRow.holds Try.pinned (OpenSpec.ofChange propChangesWrong)

/-- 'redlinelaw01.PropBack': WHATEVER THE INPUT: true; the input reads as it did. -/
def propBackSpec : ChangeSpec := { name := "propBack", fn := fun _ => fun
  | [d1, d2] => { results := [.lit (.bool true)], args := [d1, d2] }
  | _ => none }
def propBackRow : OpenClaim := { program := "ytggbafkeogccjaa", sum := "1523c6a998c050499cede28ea0ed3688ab7e1550b6429ad31eabe50c24fd615d", func := "redline/redlinelaw01.PropBack", spec := "propBack", inPlace := ["internal/bytealg.abigen_runtime_cmpstring"], unfollowed := true, recurses := true, apart := false }
def PropBackSaid : Prop := propBackRow.holds Try.pinned (OpenSpec.ofChange propBackSpec)

/-- ITS FALSE NEIGHBOUR: 'it returns false'. Refute it at one input. -/
def propBackWrong : ChangeSpec := { name := "propBack", fn := fun _ => fun
  | [d1, d2] => { results := [.lit (.bool false)], args := [d1, d2] }
  | _ => none }
def PropBackWrongFalsely : Prop := propBackRow.holds Try.pinned (OpenSpec.ofChange propBackWrong)

/-- 'redlinelaw01.PropUndo': WHATEVER THE INPUT: true; the input reads as it did. -/
def propUndoSpec : ChangeSpec := { name := "propUndo", fn := fun _ => fun
  | [d1, d2, d3] => { results := [.lit (.bool true)], args := [d1, d2, d3] }
  | _ => none }
def propUndoRow : OpenClaim := { program := "ytggbafkeogccjaa", sum := "1523c6a998c050499cede28ea0ed3688ab7e1550b6429ad31eabe50c24fd615d", func := "redline/redlinelaw01.PropUndo", spec := "propUndo", inPlace := ["internal/bytealg.abigen_runtime_cmpstring"], unfollowed := true, recurses := true, apart := false }
def PropUndoSaid : Prop := propUndoRow.holds Try.pinned (OpenSpec.ofChange propUndoSpec)

/-- ITS FALSE NEIGHBOUR: 'it returns false'. Refute it at one input. -/
def propUndoWrong : ChangeSpec := { name := "propUndo", fn := fun _ => fun
  | [d1, d2, d3] => { results := [.lit (.bool false)], args := [d1, d2, d3] }
  | _ => none }
def PropUndoWrongFalsely : Prop := propUndoRow.holds Try.pinned (OpenSpec.ofChange propUndoWrong)

/-- 'redlinelaw01.PropKeys': WHATEVER THE INPUT: true; the input reads as it did. -/
def propKeysSpec : ChangeSpec := { name := "propKeys", fn := fun _ => fun
  | [d1, d2, d3, d4] => { results := [.lit (.bool true)], args := [d1, d2, d3, d4] }
  | _ => none }
def propKeysRow : OpenClaim := { program := "ytggbafkeogccjaa", sum := "1523c6a998c050499cede28ea0ed3688ab7e1550b6429ad31eabe50c24fd615d", func := "redline/redlinelaw01.PropKeys", spec := "propKeys", inPlace := ["internal/bytealg.abigen_runtime_cmpstring"], unfollowed := true, recurses := true, apart := false }
def PropKeysSaid : Prop := propKeysRow.holds Try.pinned (OpenSpec.ofChange propKeysSpec)

/-- ITS FALSE NEIGHBOUR: 'it returns false'. Refute it at one input. -/
def propKeysWrong : ChangeSpec := { name := "propKeys", fn := fun _ => fun
  | [d1, d2, d3, d4] => { results := [.lit (.bool false)], args := [d1, d2, d3, d4] }
  | _ => none }
def PropKeysWrongFalsely : Prop := propKeysRow.holds Try.pinned (OpenSpec.ofChange propKeysWrong)

/-- 'redlinelaw01.PropNone': WHATEVER THE INPUT: true; the input reads as it did. -/
def propNoneSpec : ChangeSpec := { name := "propNone", fn := fun _ => fun
  | [d1, d2] => { results := [.lit (.bool true)], args := [d1, d2] }
  | _ => none }
def propNoneRow : OpenClaim := { program := "ytggbafkeogccjaa", sum := "1523c6a998c050499cede28ea0ed3688ab7e1550b6429ad31eabe50c24fd615d", func := "redline/redlinelaw01.PropNone", spec := "propNone", inPlace := ["internal/bytealg.abigen_runtime_cmpstring"], unfollowed := true, recurses := true, apart := false }
def PropNoneSaid : Prop := propNoneRow.holds Try.pinned (OpenSpec.ofChange propNoneSpec)

/-- ITS FALSE NEIGHBOUR: 'it returns false'. Refute it at one input. -/
def propNoneWrong : ChangeSpec := { name := "propNone", fn := fun _ => fun
  | [d1, d2] => { results := [.lit (.bool false)], args := [d1, d2] }
  | _ => none }
def PropNoneWrongFalsely : Prop := propNoneRow.holds Try.pinned (OpenSpec.ofChange propNoneWrong)

/- THE SECOND FORM. 'bulk': how many values and letters a reading holds, each counted each time it is reached (what is shared counts as often as it is met; a slice's spare places count too). A statement '..UptoSaid' is the law's where the arguments, and the package variables that the reading takes, are together of bulk at most 1048576: NARROWER than '..Said'. Prove '..Said' where nothing that the law and all that it calls make is longer than what came in: it says more and counts as full. Else prove '..UptoSaid'. A law counts once. -/
mutual
def uptoBulk {H : Type} : DataW H → Nat
  | .lit (.string bytes) => bytes.length + 1
  | .lit _ => 1
  | .nil => 1
  | .ptr d => uptoBulk d + 1
  | .slice elems spare => uptoBulkAll elems + uptoBulkAll spare + 1
  | .agg parts => uptoBulkAll parts + 1
  | .iface _ d => uptoBulk d + 1
  | .map entries => uptoBulkEntries entries + 1
  | .held _ => 1
def uptoBulkAll {H : Type} : List (DataW H) → Nat
  | [] => 0
  | d :: r => uptoBulk d + uptoBulkAll r
def uptoBulkEntries {H : Type} : List (Lit × DataW H) → Nat
  | [] => 0
  | x :: r => uptoBulkEntry x + uptoBulkEntries r
def uptoBulkEntry {H : Type} : Lit × DataW H → Nat
  | (.string bytes, d) => bytes.length + uptoBulk d + 1
  | (_, d) => uptoBulk d + 1
 end
def uptoSmall : (H : Type) → List (DataW H) → Bool := fun _ ds => decide (uptoBulkAll ds ≤ 1048576)
def OpenSpec.upto (s : _root_.Go.ChangeSpec) : _root_.Go.OpenSpec := { _root_.Go.OpenSpec.ofChange s with cond := some uptoSmall }

/-- 'redlinelaw01.PropTells', WHERE WHAT IT READS IS OF BULK AT MOST 1048576: true; the input reads as it did. -/
def propTellsUptoRow : OpenClaim := { program := "ytggbafkeogccjaa", sum := "1523c6a998c050499cede28ea0ed3688ab7e1550b6429ad31eabe50c24fd615d", func := "redline/redlinelaw01.PropTells", spec := "propTells", inPlace := ["internal/bytealg.abigen_runtime_cmpstring"], unfollowed := true, recurses := true, apart := false, narrowed := true }
def PropTellsUptoSaid : Prop := propTellsUptoRow.holds Try.pinned (OpenSpec.upto propTellsSpec)

/-- 'redlinelaw01.PropChanges', WHERE WHAT IT READS IS OF BULK AT MOST 1048576: true; the input reads as it did. -/
def propChangesUptoRow : OpenClaim := { program := "ytggbafkeogccjaa", sum := "1523c6a998c050499cede28ea0ed3688ab7e1550b6429ad31eabe50c24fd615d", func := "redline/redlinelaw01.PropChanges", spec := "propChanges", inPlace := ["internal/bytealg.abigen_runtime_cmpstring"], unfollowed := true, recurses := true, apart := false, narrowed := true }
def PropChangesUptoSaid : Prop := propChangesUptoRow.holds Try.pinned (OpenSpec.upto propChangesSpec)

/-- 'redlinelaw01.PropBack', WHERE WHAT IT READS IS OF BULK AT MOST 1048576: true; the input reads as it did. -/
def propBackUptoRow : OpenClaim := { program := "ytggbafkeogccjaa", sum := "1523c6a998c050499cede28ea0ed3688ab7e1550b6429ad31eabe50c24fd615d", func := "redline/redlinelaw01.PropBack", spec := "propBack", inPlace := ["internal/bytealg.abigen_runtime_cmpstring"], unfollowed := true, recurses := true, apart := false, narrowed := true }
def PropBackUptoSaid : Prop := propBackUptoRow.holds Try.pinned (OpenSpec.upto propBackSpec)

/-- 'redlinelaw01.PropUndo', WHERE WHAT IT READS IS OF BULK AT MOST 1048576: true; the input reads as it did. -/
def propUndoUptoRow : OpenClaim := { program := "ytggbafkeogccjaa", sum := "1523c6a998c050499cede28ea0ed3688ab7e1550b6429ad31eabe50c24fd615d", func := "redline/redlinelaw01.PropUndo", spec := "propUndo", inPlace := ["internal/bytealg.abigen_runtime_cmpstring"], unfollowed := true, recurses := true, apart := false, narrowed := true }
def PropUndoUptoSaid : Prop := propUndoUptoRow.holds Try.pinned (OpenSpec.upto propUndoSpec)

/-- 'redlinelaw01.PropKeys', WHERE WHAT IT READS IS OF BULK AT MOST 1048576: true; the input reads as it did. -/
def propKeysUptoRow : OpenClaim := { program := "ytggbafkeogccjaa", sum := "1523c6a998c050499cede28ea0ed3688ab7e1550b6429ad31eabe50c24fd615d", func := "redline/redlinelaw01.PropKeys", spec := "propKeys", inPlace := ["internal/bytealg.abigen_runtime_cmpstring"], unfollowed := true, recurses := true, apart := false, narrowed := true }
def PropKeysUptoSaid : Prop := propKeysUptoRow.holds Try.pinned (OpenSpec.upto propKeysSpec)

/-- 'redlinelaw01.PropNone', WHERE WHAT IT READS IS OF BULK AT MOST 1048576: true; the input reads as it did. -/
def propNoneUptoRow : OpenClaim := { program := "ytggbafkeogccjaa", sum := "1523c6a998c050499cede28ea0ed3688ab7e1550b6429ad31eabe50c24fd615d", func := "redline/redlinelaw01.PropNone", spec := "propNone", inPlace := ["internal/bytealg.abigen_runtime_cmpstring"], unfollowed := true, recurses := true, apart := false, narrowed := true }
def PropNoneUptoSaid : Prop := propNoneUptoRow.holds Try.pinned (OpenSpec.upto propNoneSpec)

end Rows
end Go.Proofs.Ytggbafkeogccjaa
