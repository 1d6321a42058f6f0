/- What round.Shift answers: for each mode and each number of places, the quotient rounded; else the error; the world has at most new blocks. -/
import Derived.Test.YtgmoifhmppkneaaFns
import Derived.Laws.EntriesVeiled
namespace Go.Proofs.Ytgmoifhmppkneaa
open Go.ChangeShapes Go.WideShapes Go.ChangeAt Go.RowKit
set_option linter.unusedVariables false

end Go.Proofs.Ytgmoifhmppkneaa
