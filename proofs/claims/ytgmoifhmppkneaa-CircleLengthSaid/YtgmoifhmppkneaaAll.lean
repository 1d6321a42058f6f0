/- The contracts of round.Shift, of the reference's Shift and Div, and of the laws' own small call, each in one piece. -/
import Derived.Test.YtgmoifhmppkneaaRef
namespace Go.Proofs.Ytgmoifhmppkneaa
open Go.ChangeShapes Go.WideShapes Go.ChangeAt Go.RowKit
set_option linter.unusedVariables false

theorem rnd_zero (x mode : Int) : rnd x 0 mode = x := by
  have e : goesUp mode (x / 2 ^ 0) (x % 2 ^ 0) (2 ^ 0) = false := by
    have e0 : x % (2 : Int) ^ 0 = 0 := by simp
    rw [e0]
    simp [goesUp, evenUp]
  rw [rnd, e]
  simp

theorem rnd_floor (x : Int) (n : Nat) : rnd x n 0 = x / 2 ^ n := by simp [rnd, goesUp]

theorem refDiv_c (x d : Int) (wx : -9223372036854775808 ≤ x ∧ x ≤ 9223372036854775807) (h : 1 ≤ d) (w : World) :
    Calls Try.prog 51 #[.int .i64 x, .int .i64 d] w fun e w' => e = .returned (.int .i64 (x / d)) ∧ w' = w := by
  by_cases hx : 0 ≤ x
  · have hq := Int.ediv_le_self d hx
    have hq0 := Int.ediv_nonneg hx (show 0 ≤ d by omega)
    go_enter Try.func51, Try.ntmps51
    go_wp2
    go_ret
    exact ⟨rfl, rfl⟩
  · have E0 := tdiv_mul_wrap x d wx.1 (by omega) h
    have B0 := tmod_bd x d (by omega) h
    by_cases hm : x.tmod d < 0
    · have T : (wrap64 (x.tdiv d * d) != x) = true := by rw [E0]; simp; omega
      have E := Lib.hid (tdiv_low x d wx.1 (by omega) h hm)
      clear E0 B0 hm
      go_enter Try.func51, Try.ntmps51
      go_wp2
      rw [E.out]
      go_ret
      exact ⟨rfl, rfl⟩
    · have T : (wrap64 (x.tdiv d * d) != x) = false := by rw [E0]; simp; omega
      have E := Lib.hid (tdiv_high x d (by omega) h (by omega))
      clear E0 B0 hm
      go_enter Try.func51, Try.ntmps51
      go_wp2
      rw [E.out]
      go_ret
      exact ⟨rfl, rfl⟩

end Go.Proofs.Ytgmoifhmppkneaa
