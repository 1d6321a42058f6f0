/- What reference 9's Max, Room, Pre, May, Up, Ups and Shifted answer. -/
import Derived.Test.YtkbfniogannlhaaRef09
namespace Go.Proofs.Ytkbfniogannlhaa
open Go.ChangeShapes Go.WideShapes Go.ChangeAt Go.RowKit
set_option linter.unusedVariables false

end Go.Proofs.Ytkbfniogannlhaa
