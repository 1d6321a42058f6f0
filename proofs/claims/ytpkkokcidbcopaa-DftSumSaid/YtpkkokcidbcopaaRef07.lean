/- What reference 7's functions answer. · What reference 7's point, RootOf and Root answer. · What reference 7's RootOf and Root answer. · What reference 7's Root, Table and Bits answer. -/
import Derived.Test.YtpkkokcidbcopaaCircle
import Derived.Test.YtpkkokcidbcopaaCxs
import Derived.Test.YtpkkokcidbcopaaCx4
import Derived.Test.YtpkkokcidbcopaaGiCalls
import Derived.Test.YtpkkokcidbcopaaRoot
import Derived.Test.YtpkkokcidbcopaaSat
import Derived.Deep.Cut
import Derived.Deep.CutRange
import Derived.Maps.AppendAt
namespace Go.Proofs.Ytpkkokcidbcopaa
open Go.ChangeShapes Go.WideShapes Go.ChangeAt Go.RowKit
set_option linter.unusedVariables false
set_option maxRecDepth 100000

end Go.Proofs.Ytpkkokcidbcopaa

namespace Go.Proofs.Ytpkkokcidbcopaa
open Go.ChangeShapes Go.WideShapes Go.ChangeAt Go.RowKit
set_option linter.unusedVariables false

theorem len_log (n log : Int) (h0 : 2 ≤ log) (h1 : log ≤ 6) (hn : n = 2 ^ log.toNat) : IsLen n := by
  unfold IsLen
  rcases (by omega : log = 2 ∨ log = 3 ∨ log = 4 ∨ log = 5 ∨ log = 6) with rfl | rfl | rfl | rfl | rfl <;> simp at hn <;> omega

end Go.Proofs.Ytpkkokcidbcopaa

namespace Go.Proofs.Ytpkkokcidbcopaa
open Go.ChangeShapes Go.WideShapes Go.ChangeAt Go.RowKit
set_option linter.unusedVariables false

end Go.Proofs.Ytpkkokcidbcopaa

namespace Go.Proofs.Ytpkkokcidbcopaa
open Go.ChangeShapes Go.WideShapes Go.ChangeAt Go.RowKit
set_option linter.unusedVariables false

/-- The roots 0 to n - 1. -/
def rootsL (n : Int) (s : Nat) : List Gi := (List.range n.toNat).map (fun k : Nat => rootG n (k : Int) s)
theorem rootsL_len (n : Int) (s : Nat) : (rootsL n s).length = n.toNat := by unfold rootsL; simp

end Go.Proofs.Ytpkkokcidbcopaa
