/- What package cx's calls answer. -/
import Derived.Test.YtmmhgcemkbgajaaCx4
namespace Go.Proofs.Ytmmhgcemkbgajaa
open Go.ChangeShapes Go.WideShapes Go.ChangeAt Go.RowKit
set_option linter.unusedVariables false

end Go.Proofs.Ytmmhgcemkbgajaa
