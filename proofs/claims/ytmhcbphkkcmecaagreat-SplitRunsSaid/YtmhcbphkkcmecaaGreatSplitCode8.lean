/- Package split: Join. -/
import Derived.Test.YtmhcbphkkcmecaaGreatSplitCode6
namespace Go.Proofs.YtmhcbphkkcmecaaGreat
open Go.ChangeShapes Go.WideShapes Go.ChangeAt Go.RowKit
set_option linter.unusedVariables false
set_option linter.unusedSimpArgs false
set_option maxRecDepth 100000

theorem CxsAt.four {W : World} {B : Nat} {t : TypeId} {a b c d : Gi} (h : CellsAt W B t #[.int .i64 a.re, .int .i64 a.im, .int .i64 b.re, .int .i64 b.im, .int .i64 c.re, .int .i64 c.im, .int .i64 d.re, .int .i64 d.im]) : CxsAt W (.slice (some ⟨B, 0, none⟩) 4 4) [a, b, c, d] := by
  refine ⟨some ⟨B, 0, none⟩, 4, rfl, Nat.le_refl _, by unfold maxLen; omega, fun _ => ⟨B, 0, rfl, h.lt, fun j x hj => ?_⟩⟩
  match j, hj with
  | 0, hj => obtain rfl : a = x := by simpa using hj
             exact ⟨h.cell 0, h.cell 1⟩
  | 1, hj => obtain rfl : b = x := by simpa using hj
             exact ⟨h.cell 2, h.cell 3⟩
  | 2, hj => obtain rfl : c = x := by simpa using hj
             exact ⟨h.cell 4, h.cell 5⟩
  | 3, hj => obtain rfl : d = x := by simpa using hj
             exact ⟨h.cell 6, h.cell 7⟩


end Go.Proofs.YtmhcbphkkcmecaaGreat
