/- What is wrong with one node, whatever its Kids are. -/
import Derived.Test.YtjolmnghoigggaaNType
namespace Go.Proofs.Ytjolmnghoigggaa
open Go.RowKit

theorem oneE_prop {lf : Bool} {ps : List Pr} {tx : List Int} {nk : Nat} (h : chk ps ≠ 0) : oneE lf ps tx nk = chk ps := by unfold oneE; rw [if_pos h]
set_option maxRecDepth 4000 in
theorem oneE_leaf {lf : Bool} {ps : List Pr} {tx : List Int} {nk : Nat} (h : chk ps = 0) (h1 : lf = true ∧ 0 < nk ∨ lf = false ∧ 0 < tx.length) : oneE lf ps tx nk = 7 := by
  unfold oneE; rw [if_neg (by simp [h]), if_pos]
  rcases h1 with ⟨rfl, h1⟩ | ⟨rfl, h1⟩ <;> simp [h1]
set_option maxRecDepth 4000 in
theorem oneE_text {lf : Bool} {ps : List Pr} {tx : List Int} {nk : Nat} (h : chk ps = 0) (h1 : lf = true ∧ nk = 0 ∨ lf = false ∧ tx.length = 0) : oneE lf ps tx nk = chkL tx := by
  unfold oneE; rw [if_neg (by simp [h]), if_neg]
  rcases h1 with ⟨rfl, h1⟩ | ⟨rfl, h1⟩ <;> simp [h1]

end Go.Proofs.Ytjolmnghoigggaa
