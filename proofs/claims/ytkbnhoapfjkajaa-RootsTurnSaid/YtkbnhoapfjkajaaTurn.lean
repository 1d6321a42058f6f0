/- Turns: what the program and the reference answer together; numbers modulo 4. -/
import Derived.Test.YtkbnhoapfjkajaaRef03
namespace Go.Proofs.Ytkbnhoapfjkajaa
open Go.ChangeShapes Go.WideShapes Go.ChangeAt Go.RowKit
set_option linter.unusedVariables false

theorem tmod4 (n : Int) : (n.tmod 4 = n % 4) ∨ (n.tmod 4 = n % 4 - 4 ∧ n % 4 ≠ 0) := by
  rcases Int.le_total 0 n with h | h
  · exact .inl (Int.tmod_eq_emod_of_nonneg h)
  · have e : n.tmod 4 = -((-n) % 4) := by
      rw [← Int.tmod_eq_emod_of_nonneg (show 0 ≤ -n by omega), Int.neg_tmod, Int.neg_neg]
    omega

theorem and3 (n : Int) : bits .and .i64 n 3 = n % 4 := bits_mask n 2 (by omega)

theorem turn_both (x0 x1 n : Int) (hB : (inB 2305843009213693952 x0 && inB 2305843009213693952 x1) = true) : ∃ t0 t1 : Int,
    (∀ W, Calls Try.prog 18 #[.agg #[.int .i64 x0, .int .i64 x1], .int .i64 n] W fun e w' => e = .returned (.tuple #[.agg #[.int .i64 t0, .int .i64 t1], .int .i64 0]) ∧ Gr W w') ∧
    (∀ W, Calls Try.prog 38 #[.agg #[.int .i64 x0, .int .i64 x1], .int .i64 n] W fun e w' => e = .returned (.agg #[.int .i64 t0, .int .i64 t1]) ∧ Gr W w') := by
  have hb := hB
  simp only [Bool.and_eq_true, inB_iff] at hb
  have h0 : wrap64 (-x0) = -x0 := IntWalk.wrap64_in _ (by omega)
  have h1 : wrap64 (-x1) = -x1 := IntWalk.wrap64_in _ (by omega)
  have hm : n % 4 = 0 ∨ n % 4 = 1 ∨ n % 4 = 2 ∨ n % 4 = 3 := by omega
  have ht := tmod4 n
  have ha := and3 n
  rcases hm with hm | hm | hm | hm <;> rw [hm] at ha ht
  · exact ⟨_, _, fun W => cxturn_0 x0 x1 n hB ha W, fun W => rturn_0 x0 x1 n _ _ _ h0 h1 rfl (by omega) W⟩
  · exact ⟨_, _, fun W => cxturn_1 x0 x1 n hB ha W, fun W => rturn_1 x0 x1 n _ _ _ h0 h1 rfl (by omega) W⟩
  · exact ⟨_, _, fun W => cxturn_2 x0 x1 n hB ha W, fun W => rturn_2 x0 x1 n _ _ _ h0 h1 rfl (by omega) W⟩
  · exact ⟨_, _, fun W => cxturn_3 x0 x1 n hB ha W, fun W => rturn_3 x0 x1 n _ _ _ h0 h1 rfl (by omega) W⟩

theorem rturn_any (x0 x1 n : Int) : ∃ t0 t1 : Int,
    ∀ W, Calls Try.prog 38 #[.agg #[.int .i64 x0, .int .i64 x1], .int .i64 n] W fun e w' => e = .returned (.agg #[.int .i64 t0, .int .i64 t1]) ∧ Gr W w' := by
  have hm : n % 4 = 0 ∨ n % 4 = 1 ∨ n % 4 = 2 ∨ n % 4 = 3 := by omega
  have ht := tmod4 n
  rcases hm with hm | hm | hm | hm <;> rw [hm] at ht
  · exact ⟨_, _, fun W => rturn_0 x0 x1 n _ _ _ rfl rfl rfl (by omega) W⟩
  · exact ⟨_, _, fun W => rturn_1 x0 x1 n _ _ _ rfl rfl rfl (by omega) W⟩
  · exact ⟨_, _, fun W => rturn_2 x0 x1 n _ _ _ rfl rfl rfl (by omega) W⟩
  · exact ⟨_, _, fun W => rturn_3 x0 x1 n _ _ _ rfl rfl rfl (by omega) W⟩

theorem times_bd (x0 x1 y0 y1 : Int) (hB : (((inB 2147483648 x0 && inB 2147483648 x1) && (inB 1073741824 y0 && inB 1073741824 y1)) || ((inB 2147483648 y0 && inB 2147483648 y1) && (inB 1073741824 x0 && inB 1073741824 x1))) = true) : (-2305843009213693952 ≤ x0 * y0 ∧ x0 * y0 ≤ 2305843009213693952) ∧ (-2305843009213693952 ≤ x1 * y1 ∧ x1 * y1 ≤ 2305843009213693952) ∧ (-2305843009213693952 ≤ x0 * y1 ∧ x0 * y1 ≤ 2305843009213693952) ∧ (-2305843009213693952 ≤ x1 * y0 ∧ x1 * y0 ≤ 2305843009213693952) := by
  have h := hB
  simp only [Bool.or_eq_true, Bool.and_eq_true, inB_iff] at h
  rcases h with ⟨⟨⟨a0, a1⟩, b0, b1⟩, ⟨c0, c1⟩, d0, d1⟩ | ⟨⟨⟨c0, c1⟩, d0, d1⟩, ⟨a0, a1⟩, b0, b1⟩
  · exact ⟨mul_bd 2147483648 1073741824 x0 y0 (by decide) (by decide) a0 a1 c0 c1, mul_bd 2147483648 1073741824 x1 y1 (by decide) (by decide) b0 b1 d0 d1, mul_bd 2147483648 1073741824 x0 y1 (by decide) (by decide) a0 a1 d0 d1, mul_bd 2147483648 1073741824 x1 y0 (by decide) (by decide) b0 b1 c0 c1⟩
  · exact ⟨mul_bd 1073741824 2147483648 x0 y0 (by decide) (by decide) a0 a1 c0 c1, mul_bd 1073741824 2147483648 x1 y1 (by decide) (by decide) b0 b1 d0 d1, mul_bd 1073741824 2147483648 x0 y1 (by decide) (by decide) a0 a1 d0 d1, mul_bd 1073741824 2147483648 x1 y0 (by decide) (by decide) b0 b1 c0 c1⟩

end Go.Proofs.Ytkbnhoapfjkajaa
