/- The numbers of law CxField. -/
import Derived.Test.YtbgdhpcidcnjkaaTurn
namespace Go.Proofs.Ytbgdhpcidcnjkaa.cxField
open Go.ChangeShapes Go.WideShapes Go.ChangeAt Go.RowKit
set_option linter.unusedVariables false

theorem tmod_small (x : Int) : -32767 ≤ x.tmod 32768 ∧ x.tmod 32768 ≤ 32767 := by
  have h := Int.lt_tmod_of_pos x (show (0 : Int) < 32768 by decide)
  have h2 := Int.tmod_lt_of_pos x (show (0 : Int) < 32768 by decide)
  omega

theorem tmod_1000 (x : Int) : -999 ≤ x.tmod 1000 ∧ x.tmod 1000 ≤ 999 := by
  have h := Int.lt_tmod_of_pos x (show (0 : Int) < 1000 by decide)
  have h2 := Int.tmod_lt_of_pos x (show (0 : Int) < 1000 by decide)
  omega

theorem dist0 (a b c d e f : Int) : a * (c + e) - b * (d + f) = a * c - b * d + (a * e - b * f) := by
  rw [Int.mul_add, Int.mul_add]; omega
theorem dist1 (a b c d e f : Int) : a * (d + f) + b * (c + e) = a * d + b * c + (a * f + b * e) := by
  rw [Int.mul_add, Int.mul_add]; omega
theorem norms (a b c d : Int) : (a * a + b * b) * (c * c + d * d) = (a * c - b * d) * (a * c - b * d) + (a * d + b * c) * (a * d + b * c) := by grind
theorem conj0 (a b : Int) : a * a - b * (-b) = a * a + b * b := by rw [Int.mul_neg]; omega
theorem conj1 (a b : Int) : a * (-b) + b * a = 0 := by rw [Int.mul_neg, Int.mul_comm b a]; omega

theorem turn_two (x0 x1 n : Int) (hB : (inB 2305843009213693952 x0 && inB 2305843009213693952 x1) = true) : ∃ t0 t1 : Int,
    (∀ W, Calls Try.prog 10 #[.agg #[.int .i64 x0, .int .i64 x1], .int .i64 (n + 4)] W fun e w' => e = .returned (.tuple #[.agg #[.int .i64 t0, .int .i64 t1], .int .i64 0]) ∧ Gr W w') ∧
    (∀ W, Calls Try.prog 10 #[.agg #[.int .i64 x0, .int .i64 x1], .int .i64 n] W fun e w' => e = .returned (.tuple #[.agg #[.int .i64 t0, .int .i64 t1], .int .i64 0]) ∧ Gr W w') := by
  have hm : n % 4 = 0 ∨ n % 4 = 1 ∨ n % 4 = 2 ∨ n % 4 = 3 := by omega
  have ha := and3 n
  have hc := and3 (n + 4)
  rw [show (n + 4) % 4 = n % 4 by omega] at hc
  rcases hm with hm | hm | hm | hm <;> rw [hm] at ha hc
  · exact ⟨_, _, fun W => cxturn_0 x0 x1 _ hB hc W, fun W => cxturn_0 x0 x1 n hB ha W⟩
  · exact ⟨_, _, fun W => cxturn_1 x0 x1 _ hB hc W, fun W => cxturn_1 x0 x1 n hB ha W⟩
  · exact ⟨_, _, fun W => cxturn_2 x0 x1 _ hB hc W, fun W => cxturn_2 x0 x1 n hB ha W⟩
  · exact ⟨_, _, fun W => cxturn_3 x0 x1 _ hB hc W, fun W => cxturn_3 x0 x1 n hB ha W⟩

theorem times_in (a b c d : Int) (ha : -2147483648 ≤ a ∧ a ≤ 2147483648) (hb : -2147483648 ≤ b ∧ b ≤ 2147483648) (hc : -1073741824 ≤ c ∧ c ≤ 1073741824) (hd : -1073741824 ≤ d ∧ d ≤ 1073741824) :
    (((inB 2147483648 a && inB 2147483648 b) && (inB 1073741824 c && inB 1073741824 d)) || ((inB 2147483648 c && inB 2147483648 d) && (inB 1073741824 a && inB 1073741824 b))) = true := by
  rw [inB_true ha.1 ha.2, inB_true hb.1 hb.2, inB_true hc.1 hc.2, inB_true hd.1 hd.2]; rfl

theorem wide_in (a b : Int) (ha : -2305843009213693952 ≤ a ∧ a ≤ 2305843009213693952) (hb : -2305843009213693952 ≤ b ∧ b ≤ 2305843009213693952) : (inB 2305843009213693952 a && inB 2305843009213693952 b) = true := by
  rw [inB_true ha.1 ha.2, inB_true hb.1 hb.2]; rfl

theorem narrow_in (a b : Int) (ha : -2147483648 ≤ a ∧ a ≤ 2147483648) (hb : -2147483648 ≤ b ∧ b ≤ 2147483648) : (inB 2147483648 a && inB 2147483648 b) = true := by
  rw [inB_true ha.1 ha.2, inB_true hb.1 hb.2]; rfl

theorem sum_in (a b c d : Int) (ha : -2305843009213693952 ≤ a ∧ a ≤ 2305843009213693952) (hb : -2305843009213693952 ≤ b ∧ b ≤ 2305843009213693952) (hc : -2305843009213693952 ≤ c ∧ c ≤ 2305843009213693952) (hd : -2305843009213693952 ≤ d ∧ d ≤ 2305843009213693952) :
    ((inB 2305843009213693952 a && inB 2305843009213693952 c) && (inB 2305843009213693952 b && inB 2305843009213693952 d)) = true := by
  rw [inB_true ha.1 ha.2, inB_true hb.1 hb.2, inB_true hc.1 hc.2, inB_true hd.1 hd.2]; rfl

end Go.Proofs.Ytbgdhpcidcnjkaa.cxField
