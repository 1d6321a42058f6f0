/- What package cx's within answers: whether one number's parts, or two numbers', are within a limit. -/
import Derived.Test.YtmmhgcemkbgajaaCx2
namespace Go.Proofs.Ytmmhgcemkbgajaa
open Go.ChangeShapes Go.WideShapes Go.ChangeAt Go.RowKit
set_option linter.unusedVariables false

end Go.Proofs.Ytmmhgcemkbgajaa
