/- GainTells: the walks of its two cases, by what the code's functions answer. -/
import Derived.Test.YtkbnhoapfjkajaaLaw05
namespace Go.Proofs.Ytkbnhoapfjkajaa
open Go.ChangeShapes Go.WideShapes Go.ChangeAt Go.RowKit
set_option linter.unusedVariables false

def RunIs (x z : Int) (W : World) : Prop := Calls Try.prog 77 #[.int .i64 x, .int .i64 z] W fun e w' => e = .returned (.tuple #[.agg #[.int .i64 (trun 45 ⟨x, 0, z⟩).re, .int .i64 (trun 45 ⟨x, 0, z⟩).im], .int .i64 (trun 45 ⟨x, 0, z⟩).left, .int .i64 0]) ∧ Gr W w'
def RunNot (x z : Int) (W : World) : Prop := Calls Try.prog 77 #[.int .i64 x, .int .i64 z] W fun e w' => e = .returned (.tuple #[.agg #[.int .i64 0, .int .i64 0], .int .i64 0, .int .i64 2]) ∧ Gr W w'

theorem angL_ne : angL ≠ [] := by intro e; have := angL_len; rw [e] at this; exact absurd this (by decide)

end Go.Proofs.Ytkbnhoapfjkajaa
