/- What the functions of layer 2's reference answer. -/
import Derived.Test.YtkbfniogannlhaaSat
namespace Go.Proofs.Ytkbfniogannlhaa
open Go.ChangeShapes Go.WideShapes Go.ChangeAt Go.RowKit
set_option linter.unusedVariables false

end Go.Proofs.Ytkbfniogannlhaa
