/- What reference 9's Up, Ups and Shifted answer. -/
import Derived.Test.YtkbfniogannlhaaRef09b
namespace Go.Proofs.Ytkbfniogannlhaa
open Go.ChangeShapes Go.WideShapes Go.ChangeAt Go.RowKit
set_option linter.unusedVariables false

theorem map_take_snoc {α β : Type} (f : α → β) {xs : List α} {k : Nat} {x : α} (h : xs[k]? = some x) : (xs.take (k + 1)).map f = (xs.take k).map f ++ [f x] := by
  rw [take_snoc h, List.map_append]; rfl

end Go.Proofs.Ytkbfniogannlhaa
