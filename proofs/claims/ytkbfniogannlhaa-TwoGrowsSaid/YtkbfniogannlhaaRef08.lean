/- What reference 8's functions answer. -/
import Derived.Test.YtkbfniogannlhaaFlipCode
import Derived.Test.YtkbfniogannlhaaUp
import Derived.Test.YtkbfniogannlhaaSmall
import Derived.Test.YtkbfniogannlhaaCxs
import Derived.Maps.AppendAt
namespace Go.Proofs.Ytkbfniogannlhaa
open Go.ChangeShapes Go.WideShapes Go.ChangeAt Go.RowKit
set_option linter.unusedVariables false

theorem pow08_c (k p : Int) (h : (2 : Int) ^ k.toNat = p) (h0 : 0 ≤ k) (h1 : k ≤ 62) (w : World) :
    Calls Try.prog 8 #[.int .i64 k] w fun e w' => e = .returned (.int .i64 p) ∧ w' = w := by
  rw [← h]
  exact pow_c k h0 h1 w

set_option maxHeartbeats 1000000 in
theorem rlog08_yes (n : Int) (L : Nat) (h : IsLog n L) (w : World) :
    Calls Try.prog 32 #[.int .i64 n] w fun e w' => e = .returned (.int .i64 L) ∧ w' = w := by
  have P2 := Lib.hid (pow08_c 2 4 (by decide) (by omega) (by omega))
  have P3 := Lib.hid (pow08_c 3 8 (by decide) (by omega) (by omega))
  have P4 := Lib.hid (pow08_c 4 16 (by decide) (by omega) (by omega))
  have P5 := Lib.hid (pow08_c 5 32 (by decide) (by omega) (by omega))
  have P6 := Lib.hid (pow08_c 6 64 (by decide) (by omega) (by omega))
  rcases isLog_cases h with ⟨rfl, rfl⟩ | ⟨rfl, rfl⟩ | ⟨rfl, rfl⟩ | ⟨rfl, rfl⟩ | ⟨rfl, rfl⟩
  all_goals
    clear h
    go_enter Try.func32, Try.ntmps32
    go_wp2_with fail
    refine wp_loop_rounds 6 ?_
    repeat (rw [rounds_succ]; go_wp2_with (go_at_call 8; first | (with_reducible refine (P2.out _).mono ?_; rintro e wz ⟨rfl, rfl⟩) | (with_reducible refine (P3.out _).mono ?_; rintro e wz ⟨rfl, rfl⟩) | (with_reducible refine (P4.out _).mono ?_; rintro e wz ⟨rfl, rfl⟩) | (with_reducible refine (P5.out _).mono ?_; rintro e wz ⟨rfl, rfl⟩) | (with_reducible refine (P6.out _).mono ?_; rintro e wz ⟨rfl, rfl⟩)))
    go_ret
    exact ⟨rfl, rfl⟩

set_option maxHeartbeats 1000000 in
theorem rlog08_no (n : Int) (h4 : n ≠ 4) (h8 : n ≠ 8) (h16 : n ≠ 16) (h32 : n ≠ 32) (h64 : n ≠ 64) (w : World) :
    Calls Try.prog 32 #[.int .i64 n] w fun e w' => e = .returned (.int .i64 (-1)) ∧ w' = w := by
  have P2 := Lib.hid (pow08_c 2 4 (by decide) (by omega) (by omega))
  have P3 := Lib.hid (pow08_c 3 8 (by decide) (by omega) (by omega))
  have P4 := Lib.hid (pow08_c 4 16 (by decide) (by omega) (by omega))
  have P5 := Lib.hid (pow08_c 5 32 (by decide) (by omega) (by omega))
  have P6 := Lib.hid (pow08_c 6 64 (by decide) (by omega) (by omega))
  have e4 : ((4 : Int) == n) = false := by simp; omega
  have e8 : ((8 : Int) == n) = false := by simp; omega
  have e16 : ((16 : Int) == n) = false := by simp; omega
  have e32 : ((32 : Int) == n) = false := by simp; omega
  have e64 : ((64 : Int) == n) = false := by simp; omega
  clear h4 h8 h16 h32 h64
  go_enter Try.func32, Try.ntmps32
  go_wp2_with fail
  refine wp_loop_rounds 6 ?_
  repeat (rw [rounds_succ]; go_wp2_with (go_at_call 8; first | (with_reducible refine (P2.out _).mono ?_; rintro e wz ⟨rfl, rfl⟩) | (with_reducible refine (P3.out _).mono ?_; rintro e wz ⟨rfl, rfl⟩) | (with_reducible refine (P4.out _).mono ?_; rintro e wz ⟨rfl, rfl⟩) | (with_reducible refine (P5.out _).mono ?_; rintro e wz ⟨rfl, rfl⟩) | (with_reducible refine (P6.out _).mono ?_; rintro e wz ⟨rfl, rfl⟩)))
  go_ret
  exact ⟨rfl, rfl⟩

end Go.Proofs.Ytkbfniogannlhaa
