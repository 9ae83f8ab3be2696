/- The document's Same, that calls itself. -/
import Derived.Test.YtjolmnghoigggaaNSames
namespace Go.Proofs.Ytjolmnghoigggaa
open Go.RowKit
end Go.Proofs.Ytjolmnghoigggaa
