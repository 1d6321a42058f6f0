/- What package flip's functions on places answer. · What reference 8's functions answer. -/
import Derived.Test.YtbdglbpkbpedoaaPlain
import Derived.Test.YtbdglbpkbpedoaaCxs
import Derived.Test.YtbdglbpkbpedoaaFns
import Derived.Deep.OwnRows
import Derived.Maps.AppendAt
namespace Go.Proofs.Ytbdglbpkbpedoaa
open Go.ChangeShapes Go.WideShapes Go.ChangeAt Go.RowKit
set_option linter.unusedVariables false
set_option maxRecDepth 100000

theorem fl_step (k i : Nat) (hk : k < 6) : bits .or .i64 (wrap64 ((fl k i : Int) * 2)) (bits .and .i64 ((i : Int) / 2 ^ k) 1) = ((fl (k + 1) i : Nat) : Int) := by
  have h1 := and1 ((i / 2 ^ k : Nat) : Int)
  have h2 := fl_lt k i
  have h3 : 2 ^ k ≤ 64 := pow_le k (by omega)
  have h4 : wrap64 ((fl k i : Int) * 2) = ((2 * fl k i : Nat) : Int) := by rw [IntWalk.wrap64_in _ (by omega)]; omega
  have h5 : ((i / 2 ^ k : Nat) : Int) % 2 = ((i / 2 ^ k % 2 : Nat) : Int) := by omega
  rw [show (i : Int) / 2 ^ k = ((i / 2 ^ k : Nat) : Int) by simp, h1, h4, h5, or1 (fl k i) _ (by omega) (by omega), fl]

theorem wrap_pow6 (L : Nat) (h : L ≤ 6) : wrap64 (2 ^ L) = ((2 ^ L : Nat) : Int) := by
  have h64 := pow_le L h
  rw [show (2 : Int) ^ L = ((2 ^ L : Nat) : Int) by simp]
  generalize 2 ^ L = n at *
  exact IntWalk.wrap64_in _ ⟨by omega, by omega⟩

/-- The places 0 to 2^L - 1, flipped. -/
def rowL (L : Nat) : List Int := (List.range (2 ^ L)).map (fun k => ((fl L k : Nat) : Int))
theorem rowL_len (L : Nat) : (rowL L).length = 2 ^ L := by unfold rowL; simp
theorem rowL_at (L j : Nat) (h : j < 2 ^ L) : (rowL L)[j]? = some ((fl L j : Nat) : Int) := by unfold rowL; simp [h]

/-- Which power of 2 a length is. -/
def IsLog (n : Int) (L : Nat) : Prop := 2 ≤ L ∧ L ≤ 6 ∧ n = ((2 ^ L : Nat) : Int)
theorem isLog_cases {n : Int} {L : Nat} (h : IsLog n L) : (L = 2 ∧ n = 4) ∨ (L = 3 ∧ n = 8) ∨ (L = 4 ∧ n = 16) ∨ (L = 5 ∧ n = 32) ∨ (L = 6 ∧ n = 64) := by
  obtain ⟨h0, h1, rfl⟩ := h
  have : L = 2 ∨ L = 3 ∨ L = 4 ∨ L = 5 ∨ L = 6 := by omega
  rcases this with rfl | rfl | rfl | rfl | rfl <;> simp

set_option maxHeartbeats 1000000 in
theorem log08_yes (n : Int) (L : Nat) (h : IsLog n L) (w : World) :
    Calls Try.prog 22 #[.int .i64 n] w fun e w' => e = .returned (.tuple #[.int .i64 L, .int .i64 0]) ∧ w' = w := by
  rcases isLog_cases h with ⟨rfl, rfl⟩ | ⟨rfl, rfl⟩ | ⟨rfl, rfl⟩ | ⟨rfl, rfl⟩ | ⟨rfl, rfl⟩
  all_goals
    clear h
    go_enter Try.func22, Try.ntmps22
    go_wp2_with fail
    refine wp_loop_rounds 6 ?_
    repeat (rw [rounds_succ]; go_wp2_with fail)
    go_ret2
    exact ⟨rfl, rfl⟩

set_option maxHeartbeats 1000000 in
theorem log08_no (n : Int) (h4 : n ≠ 4) (h8 : n ≠ 8) (h16 : n ≠ 16) (h32 : n ≠ 32) (h64 : n ≠ 64) (w : World) :
    Calls Try.prog 22 #[.int .i64 n] w fun e w' => e = .returned (.tuple #[.int .i64 0, .int .i64 3]) ∧ w' = w := by
  have e4 : (n == 4) = false := by simpa using h4
  have e8 : (n == 8) = false := by simpa using h8
  have e16 : (n == 16) = false := by simpa using h16
  have e32 : (n == 32) = false := by simpa using h32
  have e64 : (n == 64) = false := by simpa using h64
  clear h4 h8 h16 h32 h64
  go_enter Try.func22, Try.ntmps22
  go_wp2_with fail
  refine wp_loop_rounds 6 ?_
  repeat (rw [rounds_succ]; go_wp2_with fail)
  go_ret2
  exact ⟨rfl, rfl⟩

end Go.Proofs.Ytbdglbpkbpedoaa

namespace Go.Proofs.Ytbdglbpkbpedoaa
open Go.ChangeShapes Go.WideShapes Go.ChangeAt Go.RowKit
set_option linter.unusedVariables false

theorem pow08_c (k p : Int) (h : (2 : Int) ^ k.toNat = p) (h0 : 0 ≤ k) (h1 : k ≤ 62) (w : World) :
    Calls Try.prog 44 #[.int .i64 k] w fun e w' => e = .returned (.int .i64 p) ∧ w' = w := by
  rw [← h]
  exact pow_c k h0 h1 w

set_option maxHeartbeats 1000000 in
theorem rlog08_yes (n : Int) (L : Nat) (h : IsLog n L) (w : World) :
    Calls Try.prog 26 #[.int .i64 n] w fun e w' => e = .returned (.int .i64 L) ∧ w' = w := by
  have P2 := Lib.hid (pow08_c 2 4 (by decide) (by omega) (by omega))
  have P3 := Lib.hid (pow08_c 3 8 (by decide) (by omega) (by omega))
  have P4 := Lib.hid (pow08_c 4 16 (by decide) (by omega) (by omega))
  have P5 := Lib.hid (pow08_c 5 32 (by decide) (by omega) (by omega))
  have P6 := Lib.hid (pow08_c 6 64 (by decide) (by omega) (by omega))
  rcases isLog_cases h with ⟨rfl, rfl⟩ | ⟨rfl, rfl⟩ | ⟨rfl, rfl⟩ | ⟨rfl, rfl⟩ | ⟨rfl, rfl⟩
  all_goals
    clear h
    go_enter Try.func26, Try.ntmps26
    go_wp2_with fail
    refine wp_loop_rounds 6 ?_
    repeat (rw [rounds_succ]; go_wp2_with (go_at_call 44; first | (with_reducible refine (P2.out _).mono ?_; rintro e wz ⟨rfl, rfl⟩) | (with_reducible refine (P3.out _).mono ?_; rintro e wz ⟨rfl, rfl⟩) | (with_reducible refine (P4.out _).mono ?_; rintro e wz ⟨rfl, rfl⟩) | (with_reducible refine (P5.out _).mono ?_; rintro e wz ⟨rfl, rfl⟩) | (with_reducible refine (P6.out _).mono ?_; rintro e wz ⟨rfl, rfl⟩)))
    go_ret
    exact ⟨rfl, rfl⟩

set_option maxHeartbeats 1000000 in
theorem rlog08_no (n : Int) (h4 : n ≠ 4) (h8 : n ≠ 8) (h16 : n ≠ 16) (h32 : n ≠ 32) (h64 : n ≠ 64) (w : World) :
    Calls Try.prog 26 #[.int .i64 n] w fun e w' => e = .returned (.int .i64 (-1)) ∧ w' = w := by
  have P2 := Lib.hid (pow08_c 2 4 (by decide) (by omega) (by omega))
  have P3 := Lib.hid (pow08_c 3 8 (by decide) (by omega) (by omega))
  have P4 := Lib.hid (pow08_c 4 16 (by decide) (by omega) (by omega))
  have P5 := Lib.hid (pow08_c 5 32 (by decide) (by omega) (by omega))
  have P6 := Lib.hid (pow08_c 6 64 (by decide) (by omega) (by omega))
  have e4 : ((4 : Int) == n) = false := by simp; omega
  have e8 : ((8 : Int) == n) = false := by simp; omega
  have e16 : ((16 : Int) == n) = false := by simp; omega
  have e32 : ((32 : Int) == n) = false := by simp; omega
  have e64 : ((64 : Int) == n) = false := by simp; omega
  clear h4 h8 h16 h32 h64
  go_enter Try.func26, Try.ntmps26
  go_wp2_with fail
  refine wp_loop_rounds 6 ?_
  repeat (rw [rounds_succ]; go_wp2_with (go_at_call 44; first | (with_reducible refine (P2.out _).mono ?_; rintro e wz ⟨rfl, rfl⟩) | (with_reducible refine (P3.out _).mono ?_; rintro e wz ⟨rfl, rfl⟩) | (with_reducible refine (P4.out _).mono ?_; rintro e wz ⟨rfl, rfl⟩) | (with_reducible refine (P5.out _).mono ?_; rintro e wz ⟨rfl, rfl⟩) | (with_reducible refine (P6.out _).mono ?_; rintro e wz ⟨rfl, rfl⟩)))
  go_ret
  exact ⟨rfl, rfl⟩

end Go.Proofs.Ytbdglbpkbpedoaa
