/- What package scan's small functions answer. -/
import Derived.Test.YtmmhgcemkbgajaaScanMath
import Derived.Test.YtmmhgcemkbgajaaSat
import Derived.Test.YtmmhgcemkbgajaaCx7
import Derived.Test.YtmmhgcemkbgajaaCxMake
import Derived.Test.YtmmhgcemkbgajaaSmall
import Derived.Laws.Cover1
namespace Go.Proofs.Ytmmhgcemkbgajaa
open Go.ChangeShapes Go.WideShapes Go.ChangeAt Go.RowKit
set_option linter.unusedVariables false

theorem sMayBe_c (a : Int) (w : World) :
    Calls Try.prog 22 #[.int .i64 a] w fun e w' => e = .returned (.bool (inB 2147483648 a)) ∧ w' = w := by
  by_cases h0 : -2147483648 ≤ a
  · by_cases h1 : a ≤ 2147483648
    · rw [inB_true h0 h1]
      go_enter Try.func22, Try.ntmps22
      go_wp2_with fail
      go_ret
      exact ⟨rfl, rfl⟩
    · rw [inB_false (.inr (by omega))]
      go_enter Try.func22, Try.ntmps22
      go_wp2_with fail
      go_ret
      exact ⟨by simp, rfl⟩
  · rw [inB_false (.inl (by omega))]
    go_enter Try.func22, Try.ntmps22
    go_wp2_with fail
    go_ret
    exact ⟨by simp, rfl⟩

theorem sGreatest_c (B : Nat) (m re im : Int) (h0 : 0 ≤ m) (h1 : m ≤ 2147483648) (r0 : -2147483648 ≤ re ∧ re ≤ 2147483648) (i0 : -2147483648 ≤ im ∧ im ≤ 2147483648) (w : World)
    (hB : B < w.heap.size) (c0 : w.cell? ⟨B, 0, none⟩ = some (.int .i64 m)) (c1 : w.cell? ⟨B, 1, none⟩ = some (.int .i64 re)) (c2 : w.cell? ⟨B, 2, none⟩ = some (.int .i64 im)) :
    Calls Try.prog 23 #[.slice (some ⟨B, 0, none⟩) 3 3] w fun e w' => e = .returned (.int .i64 (max (max m (absI re)) (absI im))) ∧ w' = w := by
  obtain ⟨p, hp⟩ : ∃ p, absI re = p := ⟨_, rfl⟩
  obtain ⟨q, hq⟩ : ∃ q, absI im = q := ⟨_, rfl⟩
  have HP := Lib.hid (show (re < 0 ∧ p = -re) ∨ (0 ≤ re ∧ p = re) by rw [← hp]; unfold absI; split <;> omega)
  have HQ := Lib.hid (show (im < 0 ∧ q = -im) ∨ (0 ≤ im ∧ q = im) by rw [← hq]; unfold absI; split <;> omega)
  rw [hp, hq]
  clear hp hq
  go_enter Try.func23, Try.ntmps23
  go_wp2_with fail
  refine wp_loop_rounds 4 ?_
  rw [rounds_succ]
  go_wp2_with fail
  all_goals
    rw [rounds_succ]
    go_wp2_with fail
  all_goals
    rw [rounds_succ]
    go_wp2_with fail
  all_goals
    rw [rounds_succ]
    go_wp2_with fail
  all_goals
    go_ret
    have hp := HP.out
    have hq := HQ.out
    exact ⟨congrArg (fun z => Ending.returned (.int .i64 z)) (by omega), rfl⟩

theorem sBits_ok (m f b p : Int) (H : FB f b p) (h0 : 0 ≤ m) (h1 : m ≤ p) (w : World) :
    Calls Try.prog 27 #[.int .i64 m, .int .i64 f] w fun e w' => e = .returned (.tuple #[.int .i64 b, .int .i64 0]) ∧ w' = w := by
  have HB := Lib.hid (bits_c f b p H)
  rcases H with ⟨rfl, rfl, rfl⟩ | ⟨rfl, rfl, rfl⟩
  all_goals
    go_enter Try.func27, Try.ntmps27
    go_wp2_with (go_at_call 21; refine (HB.out _).mono ?_; rintro e wz ⟨rfl, rfl⟩)
    go_ret2
    exact ⟨rfl, rfl⟩

theorem sBits_fmt (m f : Int) (h : f < 0 ∨ 1 < f) (w : World) :
    Calls Try.prog 27 #[.int .i64 m, .int .i64 f] w fun e w' => e = .returned (.tuple #[.int .i64 0, .int .i64 1]) ∧ w' = w := by
  have HB := Lib.hid (bits_bad f h)
  clear h
  go_enter Try.func27, Try.ntmps27
  go_wp2_with (go_at_call 21; refine (HB.out _).mono ?_; rintro e wz ⟨rfl, rfl⟩)
  go_ret2
  exact ⟨rfl, rfl⟩

theorem sBits_range (m f b p : Int) (H : FB f b p) (h : m < 0 ∨ p < m) (w : World) :
    Calls Try.prog 27 #[.int .i64 m, .int .i64 f] w fun e w' => e = .returned (.tuple #[.int .i64 0, .int .i64 2]) ∧ w' = w := by
  have HB := Lib.hid (bits_c f b p H)
  by_cases h0 : m < 0
  · rcases H with ⟨rfl, rfl, rfl⟩ | ⟨rfl, rfl, rfl⟩
    all_goals
      clear h
      go_enter Try.func27, Try.ntmps27
      go_wp2_with (go_at_call 21; refine (HB.out _).mono ?_; rintro e wz ⟨rfl, rfl⟩)
      go_ret2
      exact ⟨rfl, rfl⟩
  · have h1 : p < m := by omega
    rcases H with ⟨rfl, rfl, rfl⟩ | ⟨rfl, rfl, rfl⟩
    all_goals
      clear h
      go_enter Try.func27, Try.ntmps27
      go_wp2_with (go_at_call 21; refine (HB.out _).mono ?_; rintro e wz ⟨rfl, rfl⟩)
      go_ret2
      exact ⟨rfl, rfl⟩

theorem sMost_2 (w : World) : Calls Try.prog 28 #[.int .i64 2] w fun e w' => e = .returned (.tuple #[.int .i64 2, .bool true]) ∧ w' = w := by
  go_enter Try.func28, Try.ntmps28
  go_wp2_with fail
  go_ret2
  exact ⟨rfl, rfl⟩
theorem sMost_4 (w : World) : Calls Try.prog 28 #[.int .i64 4] w fun e w' => e = .returned (.tuple #[.int .i64 3, .bool true]) ∧ w' = w := by
  go_enter Try.func28, Try.ntmps28
  go_wp2_with fail
  go_ret2
  exact ⟨rfl, rfl⟩
theorem sMost_no (k : Int) (h2 : k ≠ 2) (h4 : k ≠ 4) (w : World) : Calls Try.prog 28 #[.int .i64 k] w fun e w' => e = .returned (.tuple #[.int .i64 0, .bool false]) ∧ w' = w := by
  have e2 : (k == 2) = false := by simpa using h2
  have e4 : (k == 4) = false := by simpa using h4
  go_enter Try.func28, Try.ntmps28
  go_wp2_with fail
  go_ret2
  exact ⟨rfl, rfl⟩

theorem sMode_yes (mo : Int) (m0 : 0 ≤ mo) (m1 : mo ≤ 2) (w : World) : Calls Try.prog 30 #[.int .i64 mo] w fun e w' => e = .returned (.bool true) ∧ Gr w w' := by
  have HS := Lib.hid (shift_ok 0 0 mo (by omega) (by omega) (by omega) m0 m1)
  generalize rnd 0 (Int.toNat 0) mo = r at HS
  clear m0 m1
  go_enter Try.func30, Try.ntmps30
  go_wp2_with (go_at_call 35; refine (HS.out _).mono ?_; rintro e wz ⟨rfl, hg⟩)
  go_ret
  exact ⟨rfl, hg⟩
theorem sMode_no (mo : Int) (h : mo < 0 ∨ 2 < mo) (w : World) : Calls Try.prog 30 #[.int .i64 mo] w fun e w' => e = .returned (.bool false) ∧ Gr w w' := by
  have HS := Lib.hid (shift_bad_mode 0 0 mo h)
  clear h
  go_enter Try.func30, Try.ntmps30
  go_wp2_with (go_at_call 35; refine (HS.out _).mono ?_; rintro e wz ⟨rfl, hg⟩)
  go_ret
  exact ⟨rfl, hg⟩

end Go.Proofs.Ytmmhgcemkbgajaa
