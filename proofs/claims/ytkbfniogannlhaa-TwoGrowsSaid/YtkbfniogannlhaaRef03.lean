/- What the functions of layer 3's reference answer. -/
import Derived.Test.YtkbfniogannlhaaCx7
namespace Go.Proofs.Ytkbfniogannlhaa
open Go.ChangeShapes Go.WideShapes Go.ChangeAt Go.RowKit
set_option linter.unusedVariables false

theorem rwithin_c (x0 x1 m : Int) (m0 : 0 ≤ m) (m1 : m ≤ 4611686018427387904) (w : World) :
    Calls Try.prog 11 #[.agg #[.int .i64 x0, .int .i64 x1], .int .i64 m] w fun e w' => e = .returned (.bool (inB m x0 && inB m x1)) ∧ Gr w w' := by
  by_cases h0 : x0 ≤ m
  · skip
    by_cases h1 : -m ≤ x0
    · skip
      by_cases h2 : x1 ≤ m
      · skip
        by_cases h3 : -m ≤ x1
        · skip
          rw [inB_true (by assumption) (by assumption), inB_true (l := m) (a := x1) (by assumption) (by assumption)]
          go_enter Try.func11, Try.ntmps11
          go_wp2
          go_ret
          exact ⟨rfl, by repeat (first | exact Gr.refl _ | assumption | apply Gr.drew | apply Gr.alloc)⟩
        · skip
          rw [inB_false (l := m) (a := x1) (by omega), Bool.and_false]
          go_enter Try.func11, Try.ntmps11
          go_wp2
          go_ret
          exact ⟨rfl, by repeat (first | exact Gr.refl _ | assumption | apply Gr.drew | apply Gr.alloc)⟩
      · skip
        rw [inB_false (l := m) (a := x1) (by omega), Bool.and_false]
        go_enter Try.func11, Try.ntmps11
        go_wp2
        go_ret
        exact ⟨rfl, by repeat (first | exact Gr.refl _ | assumption | apply Gr.drew | apply Gr.alloc)⟩
    · skip
      rw [inB_false (l := m) (a := x0) (by omega)]
      go_enter Try.func11, Try.ntmps11
      go_wp2
      go_ret
      exact ⟨rfl, by repeat (first | exact Gr.refl _ | assumption | apply Gr.drew | apply Gr.alloc)⟩
  · skip
    rw [inB_false (l := m) (a := x0) (by omega)]
    go_enter Try.func11, Try.ntmps11
    go_wp2
    go_ret
    exact ⟨rfl, by repeat (first | exact Gr.refl _ | assumption | apply Gr.drew | apply Gr.alloc)⟩

theorem rpow61 (w : World) : Calls Try.prog 8 #[.int .i64 61] w fun e w' => e = .returned (.int .i64 2305843009213693952) ∧ w' = w := pow_c 61 (by decide) (by decide) w
theorem rpow31 (w : World) : Calls Try.prog 8 #[.int .i64 31] w fun e w' => e = .returned (.int .i64 2147483648) ∧ w' = w := pow_c 31 (by decide) (by decide) w
theorem rpow30 (w : World) : Calls Try.prog 8 #[.int .i64 30] w fun e w' => e = .returned (.int .i64 1073741824) ∧ w' = w := pow_c 30 (by decide) (by decide) w

theorem rsum_c (x0 x1 y0 y1 r0 r1 : Int) (h0 : wrap64 (x0 + y0) = r0) (h1 : wrap64 (x1 + y1) = r1) (w : World) :
    Calls Try.prog 24 #[.agg #[.int .i64 x0, .int .i64 x1], .agg #[.int .i64 y0, .int .i64 y1]] w fun e w' => e = .returned (.agg #[.int .i64 r0, .int .i64 r1]) ∧ Gr w w' := by
  go_enter Try.func24, Try.ntmps24
  go_wp2
  refine bodyPost_ret (v := .agg #[.int .i64 r0, .int .i64 r1]) ?_ rfl ⟨rfl, ?_⟩
  · simp [results, Try.results24, go_sem]
  · exact by repeat (first | exact Gr.refl _ | assumption | apply Gr.drew | apply Gr.alloc | (refine Gr.setCell ?_ (by first | (simp; done) | (simp; omega)) _))

theorem rless_c (x0 x1 y0 y1 r0 r1 : Int) (h0 : wrap64 (x0 - y0) = r0) (h1 : wrap64 (x1 - y1) = r1) (w : World) :
    Calls Try.prog 28 #[.agg #[.int .i64 x0, .int .i64 x1], .agg #[.int .i64 y0, .int .i64 y1]] w fun e w' => e = .returned (.agg #[.int .i64 r0, .int .i64 r1]) ∧ Gr w w' := by
  go_enter Try.func28, Try.ntmps28
  go_wp2
  refine bodyPost_ret (v := .agg #[.int .i64 r0, .int .i64 r1]) ?_ rfl ⟨rfl, ?_⟩
  · simp [results, Try.results28, go_sem]
  · exact by repeat (first | exact Gr.refl _ | assumption | apply Gr.drew | apply Gr.alloc | (refine Gr.setCell ?_ (by first | (simp; done) | (simp; omega)) _))

theorem rconj_c (x0 x1 r1 : Int) (h1 : wrap64 (-x1) = r1) (w : World) :
    Calls Try.prog 49 #[.agg #[.int .i64 x0, .int .i64 x1]] w fun e w' => e = .returned (.agg #[.int .i64 x0, .int .i64 r1]) ∧ Gr w w' := by
  go_enter Try.func49, Try.ntmps49
  go_wp2
  refine bodyPost_ret (v := .agg #[.int .i64 x0, .int .i64 r1]) ?_ rfl ⟨rfl, ?_⟩
  · simp [results, Try.results49, go_sem]
  · exact by repeat (first | exact Gr.refl _ | assumption | apply Gr.drew | apply Gr.alloc | (refine Gr.setCell ?_ (by first | (simp; done) | (simp; omega)) _))

theorem rtimes_c (x0 x1 y0 y1 p00 p11 p01 p10 r0 r1 : Int) (k0 : wrap64 (x0 * y0) = p00) (k1 : wrap64 (x1 * y1) = p11) (k2 : wrap64 (x0 * y1) = p01) (k3 : wrap64 (x1 * y0) = p10) (h0 : wrap64 (p00 - p11) = r0) (h1 : wrap64 (p01 + p10) = r1) (w : World) :
    Calls Try.prog 26 #[.agg #[.int .i64 x0, .int .i64 x1], .agg #[.int .i64 y0, .int .i64 y1]] w fun e w' => e = .returned (.agg #[.int .i64 r0, .int .i64 r1]) ∧ Gr w w' := by
  go_enter Try.func26, Try.ntmps26
  go_wp2
  refine bodyPost_ret (v := .agg #[.int .i64 r0, .int .i64 r1]) ?_ rfl ⟨rfl, ?_⟩
  · simp [results, Try.results26, go_sem]
  · exact by repeat (first | exact Gr.refl _ | assumption | apply Gr.drew | apply Gr.alloc | (refine Gr.setCell ?_ (by first | (simp; done) | (simp; omega)) _))

end Go.Proofs.Ytkbfniogannlhaa
