/- What package scan's Pre and Shifted answer. -/
import Derived.Test.YtmmhgcemkbgajaaScanCode2
namespace Go.Proofs.Ytmmhgcemkbgajaa
open Go.ChangeShapes Go.WideShapes Go.ChangeAt Go.RowKit
set_option linter.unusedVariables false

set_option maxHeartbeats 2000000 in
theorem scanPre_15_2 (m : Int) (h0 : 0 ≤ m) (h1 : m ≤ 32768) (w : World) :
    Calls Try.prog 12 #[.int .i64 2, .int .i64 m, .int .i64 0] w fun e w' => e = .returned (.tuple #[.int .i64 (preOf 2 32768 m), .int .i64 0]) ∧ Gr w w' := by
  have HB := Lib.hid (sBits_ok m 0 15 32768 (by first | exact .inl ⟨rfl, rfl, rfl⟩ | exact .inr ⟨rfl, rfl, rfl⟩) (by omega) h1)
  have HM := Lib.hid sMost_2
  by_cases c0 : m ≤ 8192
  · go_enter Try.func12, Try.ntmps12
    go_wp2_with (first | (go_at_call 28; ((with_reducible refine (HM.out _).mono ?_); rintro e w' ⟨rfl, rfl⟩)) | (go_at_call 27; ((with_reducible refine (HB.out _).mono ?_); rintro e w' ⟨rfl, rfl⟩)))
    refine wp_loop_rounds 1 ?_
    rw [rounds_succ]
    go_wp2_with fail
    go_ret2
    refine ⟨?_, Gr.refl _⟩
    rw [show preOf 2 32768 m = 0 by unfold preOf; omega]
    rfl
  · skip
    by_cases c1 : m ≤ 16384
    · go_enter Try.func12, Try.ntmps12
      go_wp2_with (first | (go_at_call 28; ((with_reducible refine (HM.out _).mono ?_); rintro e w' ⟨rfl, rfl⟩)) | (go_at_call 27; ((with_reducible refine (HB.out _).mono ?_); rintro e w' ⟨rfl, rfl⟩)))
      refine wp_loop_rounds 2 ?_
      rw [rounds_succ]
      go_wp2_with fail
      rw [rounds_succ]
      go_wp2_with fail
      go_ret2
      refine ⟨?_, Gr.refl _⟩
      rw [show preOf 2 32768 m = 1 by unfold preOf; omega]
      rfl
    · skip
      go_enter Try.func12, Try.ntmps12
      go_wp2_with (first | (go_at_call 28; ((with_reducible refine (HM.out _).mono ?_); rintro e w' ⟨rfl, rfl⟩)) | (go_at_call 27; ((with_reducible refine (HB.out _).mono ?_); rintro e w' ⟨rfl, rfl⟩)))
      refine wp_loop_rounds 3 ?_
      rw [rounds_succ]
      go_wp2_with fail
      rw [rounds_succ]
      go_wp2_with fail
      rw [rounds_succ]
      go_wp2_with fail
      go_ret2
      refine ⟨?_, Gr.refl _⟩
      rw [show preOf 2 32768 m = 2 by unfold preOf; omega]
      rfl

set_option maxHeartbeats 2000000 in
theorem scanPre_15_4 (m : Int) (h0 : 0 ≤ m) (h1 : m ≤ 32768) (w : World) :
    Calls Try.prog 12 #[.int .i64 4, .int .i64 m, .int .i64 0] w fun e w' => e = .returned (.tuple #[.int .i64 (preOf 4 32768 m), .int .i64 0]) ∧ Gr w w' := by
  have HB := Lib.hid (sBits_ok m 0 15 32768 (by first | exact .inl ⟨rfl, rfl, rfl⟩ | exact .inr ⟨rfl, rfl, rfl⟩) (by omega) h1)
  have HM := Lib.hid sMost_4
  by_cases c0 : m ≤ 4096
  · go_enter Try.func12, Try.ntmps12
    go_wp2_with (first | (go_at_call 28; ((with_reducible refine (HM.out _).mono ?_); rintro e w' ⟨rfl, rfl⟩)) | (go_at_call 27; ((with_reducible refine (HB.out _).mono ?_); rintro e w' ⟨rfl, rfl⟩)))
    refine wp_loop_rounds 1 ?_
    rw [rounds_succ]
    go_wp2_with fail
    go_ret2
    refine ⟨?_, Gr.refl _⟩
    rw [show preOf 4 32768 m = 0 by unfold preOf; omega]
    rfl
  · skip
    by_cases c1 : m ≤ 8192
    · go_enter Try.func12, Try.ntmps12
      go_wp2_with (first | (go_at_call 28; ((with_reducible refine (HM.out _).mono ?_); rintro e w' ⟨rfl, rfl⟩)) | (go_at_call 27; ((with_reducible refine (HB.out _).mono ?_); rintro e w' ⟨rfl, rfl⟩)))
      refine wp_loop_rounds 2 ?_
      rw [rounds_succ]
      go_wp2_with fail
      rw [rounds_succ]
      go_wp2_with fail
      go_ret2
      refine ⟨?_, Gr.refl _⟩
      rw [show preOf 4 32768 m = 1 by unfold preOf; omega]
      rfl
    · skip
      by_cases c2 : m ≤ 16384
      · go_enter Try.func12, Try.ntmps12
        go_wp2_with (first | (go_at_call 28; ((with_reducible refine (HM.out _).mono ?_); rintro e w' ⟨rfl, rfl⟩)) | (go_at_call 27; ((with_reducible refine (HB.out _).mono ?_); rintro e w' ⟨rfl, rfl⟩)))
        refine wp_loop_rounds 3 ?_
        rw [rounds_succ]
        go_wp2_with fail
        rw [rounds_succ]
        go_wp2_with fail
        rw [rounds_succ]
        go_wp2_with fail
        go_ret2
        refine ⟨?_, Gr.refl _⟩
        rw [show preOf 4 32768 m = 2 by unfold preOf; omega]
        rfl
      · skip
        go_enter Try.func12, Try.ntmps12
        go_wp2_with (first | (go_at_call 28; ((with_reducible refine (HM.out _).mono ?_); rintro e w' ⟨rfl, rfl⟩)) | (go_at_call 27; ((with_reducible refine (HB.out _).mono ?_); rintro e w' ⟨rfl, rfl⟩)))
        refine wp_loop_rounds 4 ?_
        rw [rounds_succ]
        go_wp2_with fail
        rw [rounds_succ]
        go_wp2_with fail
        rw [rounds_succ]
        go_wp2_with fail
        rw [rounds_succ]
        go_wp2_with fail
        go_ret2
        refine ⟨?_, Gr.refl _⟩
        rw [show preOf 4 32768 m = 3 by unfold preOf; omega]
        rfl

set_option maxHeartbeats 2000000 in
theorem scanPre_31_2 (m : Int) (h0 : 0 ≤ m) (h1 : m ≤ 2147483648) (w : World) :
    Calls Try.prog 12 #[.int .i64 2, .int .i64 m, .int .i64 1] w fun e w' => e = .returned (.tuple #[.int .i64 (preOf 2 2147483648 m), .int .i64 0]) ∧ Gr w w' := by
  have HB := Lib.hid (sBits_ok m 1 31 2147483648 (by first | exact .inl ⟨rfl, rfl, rfl⟩ | exact .inr ⟨rfl, rfl, rfl⟩) (by omega) h1)
  have HM := Lib.hid sMost_2
  by_cases c0 : m ≤ 536870912
  · go_enter Try.func12, Try.ntmps12
    go_wp2_with (first | (go_at_call 28; ((with_reducible refine (HM.out _).mono ?_); rintro e w' ⟨rfl, rfl⟩)) | (go_at_call 27; ((with_reducible refine (HB.out _).mono ?_); rintro e w' ⟨rfl, rfl⟩)))
    refine wp_loop_rounds 1 ?_
    rw [rounds_succ]
    go_wp2_with fail
    go_ret2
    refine ⟨?_, Gr.refl _⟩
    rw [show preOf 2 2147483648 m = 0 by unfold preOf; omega]
    rfl
  · skip
    by_cases c1 : m ≤ 1073741824
    · go_enter Try.func12, Try.ntmps12
      go_wp2_with (first | (go_at_call 28; ((with_reducible refine (HM.out _).mono ?_); rintro e w' ⟨rfl, rfl⟩)) | (go_at_call 27; ((with_reducible refine (HB.out _).mono ?_); rintro e w' ⟨rfl, rfl⟩)))
      refine wp_loop_rounds 2 ?_
      rw [rounds_succ]
      go_wp2_with fail
      rw [rounds_succ]
      go_wp2_with fail
      go_ret2
      refine ⟨?_, Gr.refl _⟩
      rw [show preOf 2 2147483648 m = 1 by unfold preOf; omega]
      rfl
    · skip
      go_enter Try.func12, Try.ntmps12
      go_wp2_with (first | (go_at_call 28; ((with_reducible refine (HM.out _).mono ?_); rintro e w' ⟨rfl, rfl⟩)) | (go_at_call 27; ((with_reducible refine (HB.out _).mono ?_); rintro e w' ⟨rfl, rfl⟩)))
      refine wp_loop_rounds 3 ?_
      rw [rounds_succ]
      go_wp2_with fail
      rw [rounds_succ]
      go_wp2_with fail
      rw [rounds_succ]
      go_wp2_with fail
      go_ret2
      refine ⟨?_, Gr.refl _⟩
      rw [show preOf 2 2147483648 m = 2 by unfold preOf; omega]
      rfl

set_option maxHeartbeats 2000000 in
theorem scanPre_31_4 (m : Int) (h0 : 0 ≤ m) (h1 : m ≤ 2147483648) (w : World) :
    Calls Try.prog 12 #[.int .i64 4, .int .i64 m, .int .i64 1] w fun e w' => e = .returned (.tuple #[.int .i64 (preOf 4 2147483648 m), .int .i64 0]) ∧ Gr w w' := by
  have HB := Lib.hid (sBits_ok m 1 31 2147483648 (by first | exact .inl ⟨rfl, rfl, rfl⟩ | exact .inr ⟨rfl, rfl, rfl⟩) (by omega) h1)
  have HM := Lib.hid sMost_4
  by_cases c0 : m ≤ 268435456
  · go_enter Try.func12, Try.ntmps12
    go_wp2_with (first | (go_at_call 28; ((with_reducible refine (HM.out _).mono ?_); rintro e w' ⟨rfl, rfl⟩)) | (go_at_call 27; ((with_reducible refine (HB.out _).mono ?_); rintro e w' ⟨rfl, rfl⟩)))
    refine wp_loop_rounds 1 ?_
    rw [rounds_succ]
    go_wp2_with fail
    go_ret2
    refine ⟨?_, Gr.refl _⟩
    rw [show preOf 4 2147483648 m = 0 by unfold preOf; omega]
    rfl
  · skip
    by_cases c1 : m ≤ 536870912
    · go_enter Try.func12, Try.ntmps12
      go_wp2_with (first | (go_at_call 28; ((with_reducible refine (HM.out _).mono ?_); rintro e w' ⟨rfl, rfl⟩)) | (go_at_call 27; ((with_reducible refine (HB.out _).mono ?_); rintro e w' ⟨rfl, rfl⟩)))
      refine wp_loop_rounds 2 ?_
      rw [rounds_succ]
      go_wp2_with fail
      rw [rounds_succ]
      go_wp2_with fail
      go_ret2
      refine ⟨?_, Gr.refl _⟩
      rw [show preOf 4 2147483648 m = 1 by unfold preOf; omega]
      rfl
    · skip
      by_cases c2 : m ≤ 1073741824
      · go_enter Try.func12, Try.ntmps12
        go_wp2_with (first | (go_at_call 28; ((with_reducible refine (HM.out _).mono ?_); rintro e w' ⟨rfl, rfl⟩)) | (go_at_call 27; ((with_reducible refine (HB.out _).mono ?_); rintro e w' ⟨rfl, rfl⟩)))
        refine wp_loop_rounds 3 ?_
        rw [rounds_succ]
        go_wp2_with fail
        rw [rounds_succ]
        go_wp2_with fail
        rw [rounds_succ]
        go_wp2_with fail
        go_ret2
        refine ⟨?_, Gr.refl _⟩
        rw [show preOf 4 2147483648 m = 2 by unfold preOf; omega]
        rfl
      · skip
        go_enter Try.func12, Try.ntmps12
        go_wp2_with (first | (go_at_call 28; ((with_reducible refine (HM.out _).mono ?_); rintro e w' ⟨rfl, rfl⟩)) | (go_at_call 27; ((with_reducible refine (HB.out _).mono ?_); rintro e w' ⟨rfl, rfl⟩)))
        refine wp_loop_rounds 4 ?_
        rw [rounds_succ]
        go_wp2_with fail
        rw [rounds_succ]
        go_wp2_with fail
        rw [rounds_succ]
        go_wp2_with fail
        rw [rounds_succ]
        go_wp2_with fail
        go_ret2
        refine ⟨?_, Gr.refl _⟩
        rw [show preOf 4 2147483648 m = 3 by unfold preOf; omega]
        rfl

theorem scanPre_ok (kernel m f b p : Int) (H : FB f b p) (hk : kernel = 2 ∨ kernel = 4) (h0 : 0 ≤ m) (h1 : m ≤ p) (w : World) :
    Calls Try.prog 12 #[.int .i64 kernel, .int .i64 m, .int .i64 f] w fun e w' => e = .returned (.tuple #[.int .i64 (preOf kernel p m), .int .i64 0]) ∧ Gr w w' := by
  rcases H with ⟨rfl, rfl, rfl⟩ | ⟨rfl, rfl, rfl⟩ <;> rcases hk with rfl | rfl
  · exact scanPre_15_2 m h0 h1 w
  · exact scanPre_15_4 m h0 h1 w
  · exact scanPre_31_2 m h0 h1 w
  · exact scanPre_31_4 m h0 h1 w
theorem scanPre_arg (kernel m f : Int) (h : (f < 0 ∨ 1 < f) ∨ (kernel ≠ 2 ∧ kernel ≠ 4)) (w : World) :
    Calls Try.prog 12 #[.int .i64 kernel, .int .i64 m, .int .i64 f] w fun e w' => e = .returned (.tuple #[.int .i64 0, .int .i64 1]) ∧ Gr w w' := by
  by_cases hk : kernel ≠ 2 ∧ kernel ≠ 4
  · have HM := Lib.hid (sMost_no kernel hk.1 hk.2)
    clear h hk
    go_enter Try.func12, Try.ntmps12
    go_wp2_with (go_at_call 28; ((with_reducible refine (HM.out _).mono ?_); rintro e w' ⟨rfl, rfl⟩))
    go_ret2
    exact ⟨rfl, Gr.refl _⟩
  · have HB := Lib.hid (sBits_fmt m f (by omega))
    have hk2 : kernel = 2 ∨ kernel = 4 := by omega
    clear h hk
    rcases hk2 with rfl | rfl
    · have HM := Lib.hid sMost_2
      go_enter Try.func12, Try.ntmps12
      go_wp2_with (first | (go_at_call 28; ((with_reducible refine (HM.out _).mono ?_); rintro e w' ⟨rfl, rfl⟩)) | (go_at_call 27; ((with_reducible refine (HB.out _).mono ?_); rintro e w' ⟨rfl, rfl⟩)))
      go_ret2
      exact ⟨rfl, Gr.refl _⟩
    · have HM := Lib.hid sMost_4
      go_enter Try.func12, Try.ntmps12
      go_wp2_with (first | (go_at_call 28; ((with_reducible refine (HM.out _).mono ?_); rintro e w' ⟨rfl, rfl⟩)) | (go_at_call 27; ((with_reducible refine (HB.out _).mono ?_); rintro e w' ⟨rfl, rfl⟩)))
      go_ret2
      exact ⟨rfl, Gr.refl _⟩
theorem scanPre_range (kernel m f b p : Int) (H : FB f b p) (hk : kernel = 2 ∨ kernel = 4) (h : m < 0 ∨ p < m) (w : World) :
    Calls Try.prog 12 #[.int .i64 kernel, .int .i64 m, .int .i64 f] w fun e w' => e = .returned (.tuple #[.int .i64 0, .int .i64 2]) ∧ Gr w w' := by
  have HB := Lib.hid (sBits_range m f b p H h)
  clear h H
  rcases hk with rfl | rfl
  · have HM := Lib.hid sMost_2
    go_enter Try.func12, Try.ntmps12
    go_wp2_with (first | (go_at_call 28; ((with_reducible refine (HM.out _).mono ?_); rintro e w' ⟨rfl, rfl⟩)) | (go_at_call 27; ((with_reducible refine (HB.out _).mono ?_); rintro e w' ⟨rfl, rfl⟩)))
    go_ret2
    exact ⟨rfl, Gr.refl _⟩
  · have HM := Lib.hid sMost_4
    go_enter Try.func12, Try.ntmps12
    go_wp2_with (first | (go_at_call 28; ((with_reducible refine (HM.out _).mono ?_); rintro e w' ⟨rfl, rfl⟩)) | (go_at_call 27; ((with_reducible refine (HB.out _).mono ?_); rintro e w' ⟨rfl, rfl⟩)))
    go_ret2
    exact ⟨rfl, Gr.refl _⟩

end Go.Proofs.Ytmmhgcemkbgajaa
