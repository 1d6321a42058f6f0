/- The greatest of four integers. -/
import Derived.Test.YtbdglbpkbpedoaaCxs
import Derived.Laws.Cover1
namespace Go.Proofs.Ytbdglbpkbpedoaa
open Go.ChangeShapes Go.WideShapes Go.ChangeAt Go.RowKit
set_option linter.unusedVariables false
set_option maxRecDepth 100000

theorem max4_cases (a b c d : Int) : ∃ N, (if d > (if c > (if b > a then b else a) then c else (if b > a then b else a)) then d else (if c > (if b > a then b else a) then c else (if b > a then b else a))) = N ∧ (N = a ∨ N = b ∨ N = c ∨ N = d) := by
  refine ⟨_, rfl, ?_⟩
  repeat' split
  all_goals simp

theorem run_max4 (ts : Array TypeId) (t : TypeId) (a b c d N : Int) (h : (if d > (if c > (if b > a then b else a) then c else (if b > a then b else a)) then d else (if c > (if b > a then b else a) then c else (if b > a then b else a))) = N) (w : World) :
    (Builtin.max_ ts t #[.int .i64 a, .int .i64 b, .int .i64 c, .int .i64 d]).run Try.prog w = .ok (.int .i64 N) w := by
  rw [← h]
  simp [Builtin.max_, Builtin.max2]

theorem mod_walk (a n : Int) (h : 0 < n) : 0 ≤ (a.tmod n + n).tmod n ∧ (a.tmod n + n).tmod n < n ∧ -n < a.tmod n ∧ a.tmod n < n := by
  have h1 := Int.lt_tmod_of_pos a h
  have h2 := Int.tmod_lt_of_pos a h
  have h3 := Int.tmod_nonneg n (show 0 ≤ a.tmod n + n by omega)
  have h4 := Int.tmod_lt_of_pos (a.tmod n + n) h
  exact ⟨h3, h4, by omega, h2⟩

end Go.Proofs.Ytbdglbpkbpedoaa
