/- NodeSame answers true. -/
import Derived.Test.YtknkclbjocfhiaaDoorNTypes
namespace Go.Proofs.YtknkclbjocfhiaaDoor
open Go.RowKit

theorem NodeAt.val {d : Nat} {w : World} {B : Nat} {v : Value} {n : NT} (h : NodeAt d w B v n) : ∃ lf PA np pc TA nt tc KA nk kc, v = .agg #[.bool lf, .slice PA np pc, .slice TA nt tc, .slice KA nk kc] := by
  obtain ⟨d', lf, ps, tx, ks, PA, pc, TA, tc, KA, kc, _, _, e, _⟩ := h.open_
  exact ⟨_, _, _, _, _, _, _, _, _, _, e⟩

end Go.Proofs.YtknkclbjocfhiaaDoor
