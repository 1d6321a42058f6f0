/- What package four's terms, turned sums, quads and roots asked for answer. -/
import Derived.Test.YtmhcbphkkcmecaaGreatFourCode1
import Derived.Test.YtmhcbphkkcmecaaGreatRow
import Derived.Deep.Cut
import Derived.Deep.CutRange
namespace Go.Proofs.YtmhcbphkkcmecaaGreat
open Go.ChangeShapes Go.WideShapes Go.ChangeAt Go.RowKit
set_option linter.unusedVariables false
set_option maxRecDepth 100000
set_option linter.unusedSimpArgs false


end Go.Proofs.YtmhcbphkkcmecaaGreat
