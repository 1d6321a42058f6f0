/- What the functions of layer 3's reference answer. -/
import Derived.Test.YtkbnhoapfjkajaaCx7
namespace Go.Proofs.Ytkbnhoapfjkajaa
open Go.ChangeShapes Go.WideShapes Go.ChangeAt Go.RowKit
set_option linter.unusedVariables false

theorem rpow61 (w : World) : Calls Try.prog 28 #[.int .i64 61] w fun e w' => e = .returned (.int .i64 2305843009213693952) ∧ w' = w := pow_c 61 (by decide) (by decide) w
theorem rpow31 (w : World) : Calls Try.prog 28 #[.int .i64 31] w fun e w' => e = .returned (.int .i64 2147483648) ∧ w' = w := pow_c 31 (by decide) (by decide) w
theorem rpow30 (w : World) : Calls Try.prog 28 #[.int .i64 30] w fun e w' => e = .returned (.int .i64 1073741824) ∧ w' = w := pow_c 30 (by decide) (by decide) w

theorem rconj_c (x0 x1 r1 : Int) (h1 : wrap64 (-x1) = r1) (w : World) :
    Calls Try.prog 37 #[.agg #[.int .i64 x0, .int .i64 x1]] w fun e w' => e = .returned (.agg #[.int .i64 x0, .int .i64 r1]) ∧ Gr w w' := by
  go_enter Try.func37, Try.ntmps37
  go_wp2
  refine bodyPost_ret (v := .agg #[.int .i64 x0, .int .i64 r1]) ?_ rfl ⟨rfl, ?_⟩
  · simp [results, Try.results37, go_sem]
  · exact by repeat (first | exact Gr.refl _ | assumption | apply Gr.drew | apply Gr.alloc | (refine Gr.setCell ?_ (by first | (simp; done) | (simp; omega)) _))

theorem rturn_0 (x0 x1 n t : Int) (q0 q1 : Int) (h0 : wrap64 (-x0) = q0) (h1 : wrap64 (-x1) = q1) (ht : n.tmod 4 = t) (h : t = 0) (w : World) :
    Calls Try.prog 38 #[.agg #[.int .i64 x0, .int .i64 x1], .int .i64 n] w fun e w' => e = .returned (.agg #[.int .i64 x0, .int .i64 x1]) ∧ Gr w w' := by
  obtain rfl := h
  all_goals
    go_enter Try.func38, Try.ntmps38
    go_wp2
    refine bodyPost_ret (v := .agg #[.int .i64 x0, .int .i64 x1]) ?_ rfl ⟨rfl, ?_⟩
    · simp [results, Try.results38, go_sem]
    · exact by repeat (first | exact Gr.refl _ | assumption | apply Gr.drew | apply Gr.alloc | (refine Gr.setCell ?_ (by first | (simp; done) | (simp; omega)) _))

theorem rturn_1 (x0 x1 n t : Int) (q0 q1 : Int) (h0 : wrap64 (-x0) = q0) (h1 : wrap64 (-x1) = q1) (ht : n.tmod 4 = t) (h : t = 1 ∨ t = -3) (w : World) :
    Calls Try.prog 38 #[.agg #[.int .i64 x0, .int .i64 x1], .int .i64 n] w fun e w' => e = .returned (.agg #[.int .i64 q1, .int .i64 x0]) ∧ Gr w w' := by
  rcases h with rfl | rfl
  all_goals
    go_enter Try.func38, Try.ntmps38
    go_wp2
    refine bodyPost_ret (v := .agg #[.int .i64 q1, .int .i64 x0]) ?_ rfl ⟨rfl, ?_⟩
    · simp [results, Try.results38, go_sem]
    · exact by repeat (first | exact Gr.refl _ | assumption | apply Gr.drew | apply Gr.alloc | (refine Gr.setCell ?_ (by first | (simp; done) | (simp; omega)) _))

theorem rturn_2 (x0 x1 n t : Int) (q0 q1 : Int) (h0 : wrap64 (-x0) = q0) (h1 : wrap64 (-x1) = q1) (ht : n.tmod 4 = t) (h : t = 2 ∨ t = -2) (w : World) :
    Calls Try.prog 38 #[.agg #[.int .i64 x0, .int .i64 x1], .int .i64 n] w fun e w' => e = .returned (.agg #[.int .i64 q0, .int .i64 q1]) ∧ Gr w w' := by
  rcases h with rfl | rfl
  all_goals
    go_enter Try.func38, Try.ntmps38
    go_wp2
    refine bodyPost_ret (v := .agg #[.int .i64 q0, .int .i64 q1]) ?_ rfl ⟨rfl, ?_⟩
    · simp [results, Try.results38, go_sem]
    · exact by repeat (first | exact Gr.refl _ | assumption | apply Gr.drew | apply Gr.alloc | (refine Gr.setCell ?_ (by first | (simp; done) | (simp; omega)) _))

theorem rturn_3 (x0 x1 n t : Int) (q0 q1 : Int) (h0 : wrap64 (-x0) = q0) (h1 : wrap64 (-x1) = q1) (ht : n.tmod 4 = t) (h : t = 3 ∨ t = -1) (w : World) :
    Calls Try.prog 38 #[.agg #[.int .i64 x0, .int .i64 x1], .int .i64 n] w fun e w' => e = .returned (.agg #[.int .i64 x1, .int .i64 q0]) ∧ Gr w w' := by
  rcases h with rfl | rfl
  all_goals
    go_enter Try.func38, Try.ntmps38
    go_wp2
    refine bodyPost_ret (v := .agg #[.int .i64 x1, .int .i64 q0]) ?_ rfl ⟨rfl, ?_⟩
    · simp [results, Try.results38, go_sem]
    · exact by repeat (first | exact Gr.refl _ | assumption | apply Gr.drew | apply Gr.alloc | (refine Gr.setCell ?_ (by first | (simp; done) | (simp; omega)) _))

end Go.Proofs.Ytkbnhoapfjkajaa
