/-
  NARROWER THAN 'FOR EVERY INPUT', by the rows' own cells (each row's printed sentence says how): HoldRight: loops · HoldBeside: loops · HoldPath: loops.
  DERIVED. THE GIVEN ROWS OF THIS SEAT. 3 by the template 'for every input the law returns true; each argument reads behind the call as it read before'; 0 by the template 'total and deterministic' (their statements: YtmglnjmnabjjgaaGreatTotals.lean).
  GIVEN WITH THE SEED: the statements are not yours to turn. If you find one false, say at which input.
  Laid BY PROGRAM, IN A SANDBOX (cutbox-rows.mjs): the forced cells as the released guide's own fill.sh prints them over the translation f4dc01eeecb29159… (all of the seat's roots in one cut). By AI agents, Wed Nov 11 2026. No macro, syntax, notation, axiom, sorry.
-/
import Derived.Test.YtmglnjmnabjjgaaGreatChecked
import GoSem.Claim
import GoSem.ClaimJoined
import GoSem.ClaimMapViews
import Derived.JoinedTies
import Derived.KernelRfl
namespace Go.Proofs.YtmglnjmnabjjgaaGreat
/- THE CELL 'sum', in the pinned program and in every row, IS THE sha256 OF THE DUMP (.gsa) THAT YtmglnjmnabjjgaaGreatProg.lean LOADS. Nothing in Lean hashes anything: it is a label: what it is worth is what the hold of that sum in a sandbox is worth. -/
noncomputable def Tryz.pinned : Pinned := { name := "ytmglnjmnabjjgaagreat", sum := "f4dc01eeecb291590735244593ee53739588c528093c6a8d82b1a6d6e69fae82", checked := Tryz.checked }
namespace Rows
def none {H : Type} : Left H := { results := [], args := [] }

/-- 'redlinelaw14.HoldRight': WHATEVER THE INPUT: true; the input reads as it did. -/
def holdRightSpec : ChangeSpec := { name := "holdRight", fn := fun _ => fun
  | [d1, d2, d3] => { results := [.lit (.bool true)], args := [d1, d2, d3] }
  | _ => none }
def holdRightRow : OpenClaim := { program := "ytmglnjmnabjjgaagreat", sum := "f4dc01eeecb291590735244593ee53739588c528093c6a8d82b1a6d6e69fae82", func := "redline/redlinelaw14.HoldRight", spec := "holdRight", inPlace := ["internal/bytealg.abigen_runtime_cmpstring"], unfollowed := true, recurses := true, loops := true, apart := false }
def HoldRightSaid : Prop := holdRightRow.holds Tryz.pinned (OpenSpec.ofChange holdRightSpec)

/-- ITS FALSE NEIGHBOUR: 'it returns false'. Refute it at one input. -/
def holdRightWrong : ChangeSpec := { name := "holdRight", fn := fun _ => fun
  | [d1, d2, d3] => { results := [.lit (.bool false)], args := [d1, d2, d3] }
  | _ => none }
def HoldRightWrongFalsely : Prop := holdRightRow.holds Tryz.pinned (OpenSpec.ofChange holdRightWrong)

/-- 'redlinelaw14.HoldBeside': WHATEVER THE INPUT: true; the input reads as it did. -/
def holdBesideSpec : ChangeSpec := { name := "holdBeside", fn := fun _ => fun
  | [d1, d2, d3, d4] => { results := [.lit (.bool true)], args := [d1, d2, d3, d4] }
  | _ => none }
def holdBesideRow : OpenClaim := { program := "ytmglnjmnabjjgaagreat", sum := "f4dc01eeecb291590735244593ee53739588c528093c6a8d82b1a6d6e69fae82", func := "redline/redlinelaw14.HoldBeside", spec := "holdBeside", inPlace := ["internal/bytealg.abigen_runtime_cmpstring"], unfollowed := true, recurses := true, loops := true, apart := false }
def HoldBesideSaid : Prop := holdBesideRow.holds Tryz.pinned (OpenSpec.ofChange holdBesideSpec)

/-- ITS FALSE NEIGHBOUR: 'it returns false'. Refute it at one input. -/
def holdBesideWrong : ChangeSpec := { name := "holdBeside", fn := fun _ => fun
  | [d1, d2, d3, d4] => { results := [.lit (.bool false)], args := [d1, d2, d3, d4] }
  | _ => none }
def HoldBesideWrongFalsely : Prop := holdBesideRow.holds Tryz.pinned (OpenSpec.ofChange holdBesideWrong)

/-- 'redlinelaw14.HoldPath': WHATEVER THE INPUT: true; the input reads as it did. -/
def holdPathSpec : ChangeSpec := { name := "holdPath", fn := fun _ => fun
  | [d1, d2, d3] => { results := [.lit (.bool true)], args := [d1, d2, d3] }
  | _ => none }
def holdPathRow : OpenClaim := { program := "ytmglnjmnabjjgaagreat", sum := "f4dc01eeecb291590735244593ee53739588c528093c6a8d82b1a6d6e69fae82", func := "redline/redlinelaw14.HoldPath", spec := "holdPath", inPlace := ["internal/bytealg.abigen_runtime_cmpstring"], unfollowed := true, recurses := true, loops := true, apart := false }
def HoldPathSaid : Prop := holdPathRow.holds Tryz.pinned (OpenSpec.ofChange holdPathSpec)

/-- ITS FALSE NEIGHBOUR: 'it returns false'. Refute it at one input. -/
def holdPathWrong : ChangeSpec := { name := "holdPath", fn := fun _ => fun
  | [d1, d2, d3] => { results := [.lit (.bool false)], args := [d1, d2, d3] }
  | _ => none }
def HoldPathWrongFalsely : Prop := holdPathRow.holds Tryz.pinned (OpenSpec.ofChange holdPathWrong)

/- THE SECOND FORM. 'bulk': how many values and letters a reading holds, each counted each time it is reached (what is shared counts as often as it is met; a slice's spare places count too). A statement '..UptoSaid' is the law's where the arguments, and the package variables that the reading takes, are together of bulk at most 1048576: NARROWER than '..Said'. Prove '..Said' where nothing that the law and all that it calls make is longer than what came in: it says more and counts as full. Else prove '..UptoSaid'. A law counts once. -/
mutual
def uptoBulk {H : Type} : DataW H → Nat
  | .lit (.string bytes) => bytes.length + 1
  | .lit _ => 1
  | .nil => 1
  | .ptr d => uptoBulk d + 1
  | .slice elems spare => uptoBulkAll elems + uptoBulkAll spare + 1
  | .agg parts => uptoBulkAll parts + 1
  | .iface _ d => uptoBulk d + 1
  | .map entries => uptoBulkEntries entries + 1
  | .held _ => 1
def uptoBulkAll {H : Type} : List (DataW H) → Nat
  | [] => 0
  | d :: r => uptoBulk d + uptoBulkAll r
def uptoBulkEntries {H : Type} : List (Lit × DataW H) → Nat
  | [] => 0
  | x :: r => uptoBulkEntry x + uptoBulkEntries r
def uptoBulkEntry {H : Type} : Lit × DataW H → Nat
  | (.string bytes, d) => bytes.length + uptoBulk d + 1
  | (_, d) => uptoBulk d + 1
 end
def uptoSmall : (H : Type) → List (DataW H) → Bool := fun _ ds => decide (uptoBulkAll ds ≤ 1048576)
def OpenSpec.upto (s : _root_.Go.ChangeSpec) : _root_.Go.OpenSpec := { _root_.Go.OpenSpec.ofChange s with cond := some uptoSmall }

/-- 'redlinelaw14.HoldRight', WHERE WHAT IT READS IS OF BULK AT MOST 1048576: true; the input reads as it did. -/
def holdRightUptoRow : OpenClaim := { program := "ytmglnjmnabjjgaagreat", sum := "f4dc01eeecb291590735244593ee53739588c528093c6a8d82b1a6d6e69fae82", func := "redline/redlinelaw14.HoldRight", spec := "holdRight", inPlace := ["internal/bytealg.abigen_runtime_cmpstring"], unfollowed := true, recurses := true, loops := true, apart := false, narrowed := true }
def HoldRightUptoSaid : Prop := holdRightUptoRow.holds Tryz.pinned (OpenSpec.upto holdRightSpec)

/-- 'redlinelaw14.HoldBeside', WHERE WHAT IT READS IS OF BULK AT MOST 1048576: true; the input reads as it did. -/
def holdBesideUptoRow : OpenClaim := { program := "ytmglnjmnabjjgaagreat", sum := "f4dc01eeecb291590735244593ee53739588c528093c6a8d82b1a6d6e69fae82", func := "redline/redlinelaw14.HoldBeside", spec := "holdBeside", inPlace := ["internal/bytealg.abigen_runtime_cmpstring"], unfollowed := true, recurses := true, loops := true, apart := false, narrowed := true }
def HoldBesideUptoSaid : Prop := holdBesideUptoRow.holds Tryz.pinned (OpenSpec.upto holdBesideSpec)

/-- 'redlinelaw14.HoldPath', WHERE WHAT IT READS IS OF BULK AT MOST 1048576: true; the input reads as it did. -/
def holdPathUptoRow : OpenClaim := { program := "ytmglnjmnabjjgaagreat", sum := "f4dc01eeecb291590735244593ee53739588c528093c6a8d82b1a6d6e69fae82", func := "redline/redlinelaw14.HoldPath", spec := "holdPath", inPlace := ["internal/bytealg.abigen_runtime_cmpstring"], unfollowed := true, recurses := true, loops := true, apart := false, narrowed := true }
def HoldPathUptoSaid : Prop := holdPathUptoRow.holds Tryz.pinned (OpenSpec.upto holdPathSpec)

end Rows
end Go.Proofs.YtmglnjmnabjjgaaGreat
