/- What the functions of layer 2's reference answer. -/
import Derived.Test.YtmmhgcemkbgajaaSat
namespace Go.Proofs.Ytmmhgcemkbgajaa
open Go.ChangeShapes Go.WideShapes Go.ChangeAt Go.RowKit
set_option linter.unusedVariables false

theorem rfmt_c (f : Int) (w : World) : Calls Try.prog 14 #[.int .i64 f] w fun e w' => e = .returned (.bool (f == 0 || f == 1)) ∧ w' = w := by
  by_cases h : (f == 0) = true
  · go_enter Try.func14, Try.ntmps14
    go_wp2
    go_ret
    exact ⟨by simp at h; simp [h], rfl⟩
  · have h' : (f == 0) = false := by simpa using h
    clear h
    go_enter Try.func14, Try.ntmps14
    go_wp2
    go_ret
    exact ⟨by simp at h'; simp [h'], rfl⟩

theorem rfmt_yes (f b p : Int) (H : FB f b p) (w : World) : Calls Try.prog 14 #[.int .i64 f] w fun e w' => e = .returned (.bool true) ∧ w' = w :=
  (rfmt_c f w).mono fun e w' ⟨he, hw⟩ => ⟨by rw [he]; rcases H with ⟨rfl, _⟩ | ⟨rfl, _⟩ <;> rfl, hw⟩

theorem rfmt_no (f : Int) (h : f < 0 ∨ 1 < f) (w : World) : Calls Try.prog 14 #[.int .i64 f] w fun e w' => e = .returned (.bool false) ∧ w' = w :=
  (rfmt_c f w).mono fun e w' ⟨he, hw⟩ => ⟨by rw [he, show (f == 0 || f == 1) = false by simp; omega], hw⟩

theorem rbits_c (f b p : Int) (H : FB f b p) (w : World) : Calls Try.prog 34 #[.int .i64 f] w fun e w' => e = .returned (.int .i64 b) ∧ w' = w := by
  rcases H with ⟨rfl, rfl, rfl⟩ | ⟨rfl, rfl, rfl⟩
  all_goals
    go_enter Try.func34, Try.ntmps34
    go_wp2
    go_ret
    exact ⟨rfl, rfl⟩

theorem rone_c (f b p : Int) (H : FB f b p) (w : World) : Calls Try.prog 29 #[.int .i64 f] w fun e w' => e = .returned (.int .i64 p) ∧ w' = w := by
  have hp := H.pos
  have HB := Lib.hid (rbits_c f b p H)
  have HP := Lib.hid fun W => (pow_c b (by omega) (by omega) W).mono fun e w' ⟨he, hw⟩ => (⟨by rw [he, H.pow], hw⟩ : e = Ending.returned (.int .i64 p) ∧ w' = W)
  clear H hp
  go_enter Try.func29, Try.ntmps29
  go_wp2_with fail
  refine (HB.out _).mono ?_
  rintro e w1 ⟨rfl, rfl⟩
  go_wp2_with fail
  refine (HP.out _).mono ?_
  rintro e w2 ⟨rfl, rfl⟩
  go_wp2
  go_ret
  exact ⟨rfl, rfl⟩

end Go.Proofs.Ytmmhgcemkbgajaa
