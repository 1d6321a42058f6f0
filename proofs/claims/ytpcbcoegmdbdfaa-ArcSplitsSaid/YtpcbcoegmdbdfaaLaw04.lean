/- The helpers of law 4. -/
import Derived.Test.YtpcbcoegmdbdfaaRef04b
namespace Go.Proofs.Ytpcbcoegmdbdfaa
open Go.ChangeShapes Go.WideShapes Go.ChangeAt Go.RowKit
set_option linter.unusedVariables false

theorem arc_40 : arcOf 1099511627776 = 65536 := by decide +kernel

theorem arcOf_bd (n : Nat) (h : 2 ≤ n) : arcOf n ≤ 36028797018963968 := by
  have h1 := (arc_first n h).1
  have h2 := arcT_bd n 0 h
  omega

theorem alive04_c (w : World) : Calls Try.prog 10 #[] w fun e w' => e = .returned (.bool true) ∧ Gr w w' := by
  have HA : Hid (∀ W, Calls Try.prog 6 #[.int .i64 1099511627776] W fun e w' => e = .returned (.tuple #[.int .i64 65536, .int .i64 0]) ∧ Gr W w') := Lib.hid fun W => by
    have := arc_ok 1099511627776 (by omega) (by omega) W
    rw [arc_40] at this
    exact this
  have HQ := Lib.hid quarter_c
  go_enter Try.func10, Try.ntmps10
  go_wp2_with (first
    | (go_at_call 6; refine (HA.out _).mono ?_; rintro e w1 ⟨rfl, hg1⟩)
    | (go_at_call 8; refine (HQ.out _).mono ?_; rintro e w2 ⟨rfl, hg2⟩))
  go_ret
  exact ⟨rfl, hg1.trans hg2⟩

theorem near_c (a b c : Int) (wa : -1000000000000000000 ≤ a ∧ a ≤ 1000000000000000000) (wb : -1000000000000000000 ≤ b ∧ b ≤ 1000000000000000000) (h1 : a - b ≤ c) (h2 : b - a ≤ c) (w : World) :
    Calls Try.prog 15 #[.int .i64 a, .int .i64 b, .int .i64 c] w fun e w' => e = .returned (.bool true) ∧ w' = w := by
  go_enter Try.func15, Try.ntmps15
  go_wp2
  go_ret
  exact ⟨rfl, rfl⟩

end Go.Proofs.Ytpcbcoegmdbdfaa
