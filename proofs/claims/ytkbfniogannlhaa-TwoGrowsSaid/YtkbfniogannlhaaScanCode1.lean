/- What package scan's small functions answer. -/
import Derived.Test.YtkbfniogannlhaaScanMath
import Derived.Test.YtkbfniogannlhaaSat
import Derived.Test.YtkbfniogannlhaaCx7
import Derived.Test.YtkbfniogannlhaaCxMake
import Derived.Test.YtkbfniogannlhaaSmall
import Derived.Laws.Cover1
namespace Go.Proofs.Ytkbfniogannlhaa
open Go.ChangeShapes Go.WideShapes Go.ChangeAt Go.RowKit
set_option linter.unusedVariables false

theorem sMayBe_c (a : Int) (w : World) :
    Calls Try.prog 36 #[.int .i64 a] w fun e w' => e = .returned (.bool (inB 2147483648 a)) ∧ w' = w := by
  by_cases h0 : -2147483648 ≤ a
  · by_cases h1 : a ≤ 2147483648
    · rw [inB_true h0 h1]
      go_enter Try.func36, Try.ntmps36
      go_wp2_with fail
      go_ret
      exact ⟨rfl, rfl⟩
    · rw [inB_false (.inr (by omega))]
      go_enter Try.func36, Try.ntmps36
      go_wp2_with fail
      go_ret
      exact ⟨by simp, rfl⟩
  · rw [inB_false (.inl (by omega))]
    go_enter Try.func36, Try.ntmps36
    go_wp2_with fail
    go_ret
    exact ⟨by simp, rfl⟩

theorem sGreatest_c (B : Nat) (m re im : Int) (h0 : 0 ≤ m) (h1 : m ≤ 2147483648) (r0 : -2147483648 ≤ re ∧ re ≤ 2147483648) (i0 : -2147483648 ≤ im ∧ im ≤ 2147483648) (w : World)
    (hB : B < w.heap.size) (c0 : w.cell? ⟨B, 0, none⟩ = some (.int .i64 m)) (c1 : w.cell? ⟨B, 1, none⟩ = some (.int .i64 re)) (c2 : w.cell? ⟨B, 2, none⟩ = some (.int .i64 im)) :
    Calls Try.prog 37 #[.slice (some ⟨B, 0, none⟩) 3 3] w fun e w' => e = .returned (.int .i64 (max (max m (absI re)) (absI im))) ∧ w' = w := by
  obtain ⟨p, hp⟩ : ∃ p, absI re = p := ⟨_, rfl⟩
  obtain ⟨q, hq⟩ : ∃ q, absI im = q := ⟨_, rfl⟩
  have HP := Lib.hid (show (re < 0 ∧ p = -re) ∨ (0 ≤ re ∧ p = re) by rw [← hp]; unfold absI; split <;> omega)
  have HQ := Lib.hid (show (im < 0 ∧ q = -im) ∨ (0 ≤ im ∧ q = im) by rw [← hq]; unfold absI; split <;> omega)
  rw [hp, hq]
  clear hp hq
  go_enter Try.func37, Try.ntmps37
  go_wp2_with fail
  refine wp_loop_rounds 4 ?_
  rw [rounds_succ]
  go_wp2_with fail
  all_goals
    rw [rounds_succ]
    go_wp2_with fail
  all_goals
    rw [rounds_succ]
    go_wp2_with fail
  all_goals
    rw [rounds_succ]
    go_wp2_with fail
  all_goals
    go_ret
    have hp := HP.out
    have hq := HQ.out
    exact ⟨congrArg (fun z => Ending.returned (.int .i64 z)) (by omega), rfl⟩

end Go.Proofs.Ytkbfniogannlhaa
