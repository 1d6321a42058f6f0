/- What package two's small functions answer. -/
import Derived.Test.YtmhcbphkkcmecaaGreatTwoMath
import Derived.Test.YtmhcbphkkcmecaaGreatCx4
import Derived.Test.YtmhcbphkkcmecaaGreatCxs
import Derived.Laws.Cover1
namespace Go.Proofs.YtmhcbphkkcmecaaGreat
open Go.ChangeShapes Go.WideShapes Go.ChangeAt Go.RowKit
set_option linter.unusedVariables false
set_option maxRecDepth 100000

/-- May bits, a shift and a mode be? -/
def SetsOk2 (b s mo : Int) : Prop := (0 ≤ b ∧ b ≤ 29) ∧ (0 ≤ s ∧ s ≤ 3) ∧ 0 ≤ mo ∧ mo ≤ 2

/-- Which halves may be. -/
def HalfOk2 (h : Int) (n : Nat) : Prop := ∃ k : Nat, 2 ^ k < n ∧ h = ((2 ^ k : Nat) : Int)

end Go.Proofs.YtmhcbphkkcmecaaGreat
