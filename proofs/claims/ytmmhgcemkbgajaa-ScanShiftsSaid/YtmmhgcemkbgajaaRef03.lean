/- What the functions of layer 3's reference answer. -/
import Derived.Test.YtmmhgcemkbgajaaCx7
namespace Go.Proofs.Ytmmhgcemkbgajaa
open Go.ChangeShapes Go.WideShapes Go.ChangeAt Go.RowKit
set_option linter.unusedVariables false

theorem rwithin_c (x0 x1 m : Int) (m0 : 0 ≤ m) (m1 : m ≤ 4611686018427387904) (w : World) :
    Calls Try.prog 24 #[.agg #[.int .i64 x0, .int .i64 x1], .int .i64 m] w fun e w' => e = .returned (.bool (inB m x0 && inB m x1)) ∧ Gr w w' := by
  by_cases h0 : x0 ≤ m
  · skip
    by_cases h1 : -m ≤ x0
    · skip
      by_cases h2 : x1 ≤ m
      · skip
        by_cases h3 : -m ≤ x1
        · skip
          rw [inB_true (by assumption) (by assumption), inB_true (l := m) (a := x1) (by assumption) (by assumption)]
          go_enter Try.func24, Try.ntmps24
          go_wp2
          go_ret
          exact ⟨rfl, by repeat (first | exact Gr.refl _ | assumption | apply Gr.drew | apply Gr.alloc)⟩
        · skip
          rw [inB_false (l := m) (a := x1) (by omega), Bool.and_false]
          go_enter Try.func24, Try.ntmps24
          go_wp2
          go_ret
          exact ⟨rfl, by repeat (first | exact Gr.refl _ | assumption | apply Gr.drew | apply Gr.alloc)⟩
      · skip
        rw [inB_false (l := m) (a := x1) (by omega), Bool.and_false]
        go_enter Try.func24, Try.ntmps24
        go_wp2
        go_ret
        exact ⟨rfl, by repeat (first | exact Gr.refl _ | assumption | apply Gr.drew | apply Gr.alloc)⟩
    · skip
      rw [inB_false (l := m) (a := x0) (by omega)]
      go_enter Try.func24, Try.ntmps24
      go_wp2
      go_ret
      exact ⟨rfl, by repeat (first | exact Gr.refl _ | assumption | apply Gr.drew | apply Gr.alloc)⟩
  · skip
    rw [inB_false (l := m) (a := x0) (by omega)]
    go_enter Try.func24, Try.ntmps24
    go_wp2
    go_ret
    exact ⟨rfl, by repeat (first | exact Gr.refl _ | assumption | apply Gr.drew | apply Gr.alloc)⟩

theorem rpow61 (w : World) : Calls Try.prog 25 #[.int .i64 61] w fun e w' => e = .returned (.int .i64 2305843009213693952) ∧ w' = w := pow_c 61 (by decide) (by decide) w
theorem rpow31 (w : World) : Calls Try.prog 25 #[.int .i64 31] w fun e w' => e = .returned (.int .i64 2147483648) ∧ w' = w := pow_c 31 (by decide) (by decide) w
theorem rpow30 (w : World) : Calls Try.prog 25 #[.int .i64 30] w fun e w' => e = .returned (.int .i64 1073741824) ∧ w' = w := pow_c 30 (by decide) (by decide) w

end Go.Proofs.Ytmmhgcemkbgajaa
