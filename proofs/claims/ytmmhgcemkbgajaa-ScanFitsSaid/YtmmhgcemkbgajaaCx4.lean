/- What package cx's within answers in one piece, and which numbers may be multiplied. -/
import Derived.Test.YtmmhgcemkbgajaaCx3
namespace Go.Proofs.Ytmmhgcemkbgajaa
open Go.ChangeShapes Go.WideShapes Go.ChangeAt Go.RowKit
set_option linter.unusedVariables false

theorem enters_re : Enters 52 := enters_of Try.func52 (by kernel_rfl) (by kernel_rfl)
theorem enters_im : Enters 53 := enters_of Try.func53 (by kernel_rfl) (by kernel_rfl)
/-- Two complex numbers lie in memory, one behind the other. -/
structure CxAt2 (w : World) (p : Nat) (x y x' y' : Int) : Prop where
  lt : p < w.heap.size
  c0 : w.cell? ⟨p, 0, none⟩ = some (.int .i64 x)
  c1 : w.cell? ⟨p, 1, none⟩ = some (.int .i64 y)
  c2 : w.cell? ⟨p, 2, none⟩ = some (.int .i64 x')
  c3 : w.cell? ⟨p, 3, none⟩ = some (.int .i64 y')
theorem CxAt2.gr {w W : World} {p : Nat} {x y x' y' : Int} (h : CxAt2 w p x y x' y') (g : Gr w W) : CxAt2 W p x y x' y' :=
  ⟨Nat.lt_of_lt_of_le h.lt g.size, (g.cell (p := ⟨p, 0, none⟩) h.lt).trans h.c0, (g.cell (p := ⟨p, 1, none⟩) h.lt).trans h.c1, (g.cell (p := ⟨p, 2, none⟩) h.lt).trans h.c2, (g.cell (p := ⟨p, 3, none⟩) h.lt).trans h.c3⟩

end Go.Proofs.Ytmmhgcemkbgajaa
