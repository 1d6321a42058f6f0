/- What math/bits' Mul64 and Add64 answer, at this program. -/
import Derived.Test.YtkbnhoapfjkajaaFns
import Derived.Shelf.Bits.Mul64
import Derived.Shelf.Spec.BitsCarry
namespace Go.Proofs.Ytkbnhoapfjkajaa
open Go.ChangeShapes Go.WideShapes Go.ChangeAt Go.RowKit Go.Shelf
set_option linter.unusedVariables false

end Go.Proofs.Ytkbnhoapfjkajaa
