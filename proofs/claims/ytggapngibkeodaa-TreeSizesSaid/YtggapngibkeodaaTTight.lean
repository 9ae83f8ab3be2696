/- A tree's nodes at paths keep its bounds. -/
import Derived.Test.YtggapngibkeodaaTAt
namespace Go.Proofs.Ytggapngibkeodaa
open Go.RowKit

theorem tight_get : ∀ (n : NT) (p : List Int) (x : NT), TightT n → getO n p = some x → TightT x
  | n, [], x => fun h e => by injection e with e; rw [← e]; exact h
  | n, i :: r, x => fun h e => by
    rw [getO_cons] at e
    cases hk : kidT n i with
    | none => rw [hk] at e; cases e
    | some k =>
      rw [hk] at e
      exact tight_get k r x (h.kid (kid_has hk).2.2) e

theorem NewN.newO {g : Nat} {r : NT × Int} {w w' : World} {e : Ending} (h : NewN r w e w') (hg : g < w.heap.size) : NewO g r none w e w' := by
  obtain ⟨v, d, h1, h2, h3⟩ := h
  exact ⟨v, d, h1, h2, Off.of_below h3, h3.block g hg⟩

end Go.Proofs.Ytggapngibkeodaa
