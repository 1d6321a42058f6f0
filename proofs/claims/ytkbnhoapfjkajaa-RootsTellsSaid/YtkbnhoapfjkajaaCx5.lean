/- What package cx's calls answer. -/
import Derived.Test.YtkbnhoapfjkajaaCx4
namespace Go.Proofs.Ytkbnhoapfjkajaa
open Go.ChangeShapes Go.WideShapes Go.ChangeAt Go.RowKit
set_option linter.unusedVariables false

end Go.Proofs.Ytkbnhoapfjkajaa
