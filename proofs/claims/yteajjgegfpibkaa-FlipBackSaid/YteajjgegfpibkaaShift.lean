/- What round.Shift answers: for each mode and each number of places, the quotient rounded; else the error; the world has at most new blocks. -/
import Derived.Test.YteajjgegfpibkaaFns
import Derived.Laws.EntriesVeiled
namespace Go.Proofs.Yteajjgegfpibkaa
open Go.ChangeShapes Go.WideShapes Go.ChangeAt Go.RowKit
set_option linter.unusedVariables false

end Go.Proofs.Yteajjgegfpibkaa
