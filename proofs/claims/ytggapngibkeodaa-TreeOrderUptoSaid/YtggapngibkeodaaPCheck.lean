/- Check answers what is wrong with a list first; old memory stays as it was. -/
import Derived.Test.YtggapngibkeodaaPGet
import Derived.Deep.QuietTactic
import Derived.BigQuiet
namespace Go.Proofs.Ytggapngibkeodaa
open Go.RowKit
end Go.Proofs.Ytggapngibkeodaa
