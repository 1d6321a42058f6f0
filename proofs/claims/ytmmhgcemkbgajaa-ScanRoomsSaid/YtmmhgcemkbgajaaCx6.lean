/- What package cx's calls with one number answer, and its product. -/
import Derived.Test.YtmmhgcemkbgajaaCx5
namespace Go.Proofs.Ytmmhgcemkbgajaa
open Go.ChangeShapes Go.WideShapes Go.ChangeAt Go.RowKit
set_option linter.unusedVariables false

theorem mul_bd (p q a m : Int) (hp : 0 ≤ p) (hq : 0 ≤ q) (a0 : -p ≤ a) (a1 : a ≤ p) (m0 : -q ≤ m) (m1 : m ≤ q) : -(p * q) ≤ a * m ∧ a * m ≤ p * q := by
  have h1 : 0 ≤ (p - a) * (q + m) := Int.mul_nonneg (by omega) (by omega)
  have h2 : 0 ≤ (p + a) * (q - m) := Int.mul_nonneg (by omega) (by omega)
  have h3 : 0 ≤ (p - a) * (q - m) := Int.mul_nonneg (by omega) (by omega)
  have h4 : 0 ≤ (p + a) * (q + m) := Int.mul_nonneg (by omega) (by omega)
  simp only [Int.sub_mul, Int.add_mul, Int.mul_sub, Int.mul_add] at h1 h2 h3 h4
  omega

theorem u64_in (n : Int) (h0 : 0 ≤ n) (h1 : n ≤ 18446744073709551615) : IntKind.u64.wrap n = n := by
  simp [IntKind.wrap, IntKind.bits, IntKind.signed]
  omega

theorem sq_nonneg (x : Int) : 0 ≤ x * x := by
  rcases Int.le_total 0 x with h | h
  · exact Int.mul_nonneg h h
  · exact Int.mul_nonneg_of_nonpos_of_nonpos h h

end Go.Proofs.Ytmmhgcemkbgajaa
