/- Type, and the document's; what is wrong with one node. -/
import Derived.Test.YtjolmnghoigggaaNMem
namespace Go.Proofs.Ytjolmnghoigggaa
open Go.RowKit

theorem ret_str {a b : ByteArray} (h : a = b) : Ending.returned (.string a) = .returned (.string b) := by rw [h]

end Go.Proofs.Ytjolmnghoigggaa
