/- What the reference's Shift and Div answer: the same numbers, rounded; neither turns the world. -/
import Derived.Test.YtgmoifhmppkneaaUp
namespace Go.Proofs.Ytgmoifhmppkneaa
open Go.ChangeShapes Go.WideShapes Go.ChangeAt Go.RowKit
set_option linter.unusedVariables false

theorem half_bd (x : Int) (n : Nat) (h0 : -9223372036854775808 ≤ x) (h1 : x ≤ 9223372036854775807) (hn : 1 ≤ n) :
    -4611686018427387904 ≤ x / 2 ^ n ∧ x / 2 ^ n ≤ 4611686018427387904 := by
  obtain ⟨m, rfl⟩ : ∃ m, n = m + 1 := ⟨n - 1, by omega⟩
  have b := div_pow_bd x m h0 h1
  rw [div_pow_succ]
  omega

theorem mul_div_bd (x : Int) (n : Nat) (h0 : -9223372036854775808 ≤ x) (h1 : x ≤ 9223372036854775807) (hn : n ≤ 62) :
    -9223372036854775808 ≤ x / 2 ^ n * 2 ^ n ∧ x / 2 ^ n * 2 ^ n ≤ 9223372036854775807 := by
  have hp := pow_pos2 n
  constructor
  · have e : (-9223372036854775808 : Int) = (-9223372036854775808) / 2 ^ n * 2 ^ n := by
      rw [Int.ediv_mul_cancel]
      exact ⟨-(2 ^ (63 - n)), by rw [Int.mul_neg, ← Int.pow_add, show n + (63 - n) = 63 by omega]; rfl⟩
    rw [e]
    exact Int.mul_le_mul_of_nonneg_right (Int.ediv_le_ediv hp h0) (Int.le_of_lt hp)
  · have := Int.ediv_mul_le x (Int.ne_of_gt hp)
    omega

theorem goesUp_pos (x : Int) (m : Nat) (q : Int) : goesUp 1 q (x % 2 ^ (m + 1)) (2 ^ (m + 1)) = decide (2 ^ m ≤ x % 2 ^ (m + 1)) := by
  have e : (2 : Int) ^ (m + 1) = 2 * 2 ^ m := by rw [Int.pow_succ, Int.mul_comm]
  generalize x % 2 ^ (m + 1) = l
  rw [e, goesUp, if_neg (by decide), if_pos rfl, decide_eq_decide]
  omega

theorem evenUp_pos (x : Int) (m : Nat) (q : Int) : goesUp 2 q (x % 2 ^ (m + 1)) (2 ^ (m + 1)) = if x % 2 ^ (m + 1) = 2 ^ m then (q.tmod 2 != 0) else decide (2 ^ m < x % 2 ^ (m + 1)) := by
  have e : (2 : Int) ^ (m + 1) = 2 * 2 ^ m := by rw [Int.pow_succ, Int.mul_comm]
  generalize x % 2 ^ (m + 1) = l
  rw [e, goesUp, if_neg (by decide), if_neg (by decide), evenUp]
  by_cases h : l = 2 ^ m
  · rw [if_pos h, if_pos (by omega)]
  · rw [if_neg h, if_neg (by omega), decide_eq_decide]
    omega

end Go.Proofs.Ytgmoifhmppkneaa
