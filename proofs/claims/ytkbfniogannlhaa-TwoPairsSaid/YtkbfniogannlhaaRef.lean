/- What the reference's Shift and Div answer: the same numbers, rounded; neither turns the world. -/
import Derived.Test.YtkbfniogannlhaaUp
namespace Go.Proofs.Ytkbfniogannlhaa
open Go.ChangeShapes Go.WideShapes Go.ChangeAt Go.RowKit
set_option linter.unusedVariables false

theorem half_bd (x : Int) (n : Nat) (h0 : -9223372036854775808 ≤ x) (h1 : x ≤ 9223372036854775807) (hn : 1 ≤ n) :
    -4611686018427387904 ≤ x / 2 ^ n ∧ x / 2 ^ n ≤ 4611686018427387904 := by
  obtain ⟨m, rfl⟩ : ∃ m, n = m + 1 := ⟨n - 1, by omega⟩
  have b := div_pow_bd x m h0 h1
  rw [div_pow_succ]
  omega

theorem mul_div_bd (x : Int) (n : Nat) (h0 : -9223372036854775808 ≤ x) (h1 : x ≤ 9223372036854775807) (hn : n ≤ 62) :
    -9223372036854775808 ≤ x / 2 ^ n * 2 ^ n ∧ x / 2 ^ n * 2 ^ n ≤ 9223372036854775807 := by
  have hp := pow_pos2 n
  constructor
  · have e : (-9223372036854775808 : Int) = (-9223372036854775808) / 2 ^ n * 2 ^ n := by
      rw [Int.ediv_mul_cancel]
      exact ⟨-(2 ^ (63 - n)), by rw [Int.mul_neg, ← Int.pow_add, show n + (63 - n) = 63 by omega]; rfl⟩
    rw [e]
    exact Int.mul_le_mul_of_nonneg_right (Int.ediv_le_ediv hp h0) (Int.le_of_lt hp)
  · have := Int.ediv_mul_le x (Int.ne_of_gt hp)
    omega

theorem goesUp_pos (x : Int) (m : Nat) (q : Int) : goesUp 1 q (x % 2 ^ (m + 1)) (2 ^ (m + 1)) = decide (2 ^ m ≤ x % 2 ^ (m + 1)) := by
  have e : (2 : Int) ^ (m + 1) = 2 * 2 ^ m := by rw [Int.pow_succ, Int.mul_comm]
  generalize x % 2 ^ (m + 1) = l
  rw [e, goesUp, if_neg (by decide), if_pos rfl, decide_eq_decide]
  omega

theorem evenUp_pos (x : Int) (m : Nat) (q : Int) : goesUp 2 q (x % 2 ^ (m + 1)) (2 ^ (m + 1)) = if x % 2 ^ (m + 1) = 2 ^ m then (q.tmod 2 != 0) else decide (2 ^ m < x % 2 ^ (m + 1)) := by
  have e : (2 : Int) ^ (m + 1) = 2 * 2 ^ m := by rw [Int.pow_succ, Int.mul_comm]
  generalize x % 2 ^ (m + 1) = l
  rw [e, goesUp, if_neg (by decide), if_neg (by decide), evenUp]
  by_cases h : l = 2 ^ m
  · rw [if_pos h, if_pos (by omega)]
  · rw [if_neg h, if_neg (by omega), decide_eq_decide]
    omega

theorem refShift_zero (x mode : Int) (wx : -9223372036854775808 ≤ x ∧ x ≤ 9223372036854775807) (w : World) :
    Calls Try.prog 44 #[.int .i64 x, .int .i64 0, .int .i64 mode] w fun e w' => e = .returned (.int .i64 x) ∧ w' = w := by
  have HF : Hid (∀ W, Calls Try.prog 59 #[.int .i64 x, .int .i64 0] W fun e w' => e = .returned (.int .i64 x) ∧ w' = W) :=
    Lib.hid fun W => (floor_c x 0 wx (by omega) (by omega) W).mono fun e w' ⟨he, hw⟩ => ⟨by rw [he]; simp, hw⟩
  clear wx
  go_enter Try.func44, Try.ntmps44
  go_wp2_with (go_at_call 59; refine (HF.out _).mono ?_; rintro e w2 ⟨rfl, rfl⟩)
  go_ret
  exact ⟨rfl, rfl⟩

theorem refShift_floor (x s : Int) (wx : -9223372036854775808 ≤ x ∧ x ≤ 9223372036854775807) (h0 : 0 < s) (h1 : s ≤ 62) (w : World) :
    Calls Try.prog 44 #[.int .i64 x, .int .i64 s, .int .i64 0] w fun e w' => e = .returned (.int .i64 (x / 2 ^ s.toNat)) ∧ w' = w := by
  have HF := Lib.hid (floor_c x s wx (by omega) (by omega))
  clear wx
  go_enter Try.func44, Try.ntmps44
  go_wp2_with (go_at_call 59; refine (HF.out _).mono ?_; rintro e w2 ⟨rfl, rfl⟩)
  go_ret
  exact ⟨rfl, rfl⟩

theorem refShift_up_more (x s q l : Int) (h0 : 0 < s) (h1 : s ≤ 62)
    (HF : Hid (∀ W, Calls Try.prog 59 #[.int .i64 x, .int .i64 s] W fun e w' => e = .returned (.int .i64 q) ∧ w' = W))
    (q0 : -4611686018427387904 ≤ q) (q1 : q ≤ 4611686018427387904) (b0 : -9223372036854775808 ≤ q * 2 ^ s.toNat) (b1 : q * 2 ^ s.toNat ≤ 9223372036854775807)
    (l0 : 0 ≤ l) (l1 : l ≤ 4611686018427387904) (hl : x - q * 2 ^ s.toNat = l) (hc : 2 ^ (s.toNat - 1) < l) (w : World) :
    Calls Try.prog 44 #[.int .i64 x, .int .i64 s, .int .i64 1] w fun e w' => e = .returned (.int .i64 (q + 1)) ∧ w' = w := by
    go_enter Try.func44, Try.ntmps44
    go_wp2_with (first
      | (go_at_call 59; refine (HF.out _).mono ?_; rintro e w2 ⟨rfl, rfl⟩)
      | (go_at_call 8; refine (pow_c _ (by omega) (by omega) _).mono ?_; rintro e w2 ⟨rfl, rfl⟩)
      | (go_at_call 60; refine (odd_c _ _).mono ?_; rintro e w2 ⟨rfl, rfl⟩))
    go_ret
    exact ⟨rfl, rfl⟩

theorem refShift_up_mid (x s q l : Int) (h0 : 0 < s) (h1 : s ≤ 62)
    (HF : Hid (∀ W, Calls Try.prog 59 #[.int .i64 x, .int .i64 s] W fun e w' => e = .returned (.int .i64 q) ∧ w' = W))
    (q0 : -4611686018427387904 ≤ q) (q1 : q ≤ 4611686018427387904) (b0 : -9223372036854775808 ≤ q * 2 ^ s.toNat) (b1 : q * 2 ^ s.toNat ≤ 9223372036854775807)
    (l0 : 0 ≤ l) (l1 : l ≤ 4611686018427387904) (hl : x - q * 2 ^ s.toNat = l) (hc : ¬ 2 ^ (s.toNat - 1) < l) (hd : (l == 2 ^ (s.toNat - 1)) = true) (w : World) :
    Calls Try.prog 44 #[.int .i64 x, .int .i64 s, .int .i64 1] w fun e w' => e = .returned (.int .i64 (q + 1)) ∧ w' = w := by
    go_enter Try.func44, Try.ntmps44
    go_wp2_with (first
      | (go_at_call 59; refine (HF.out _).mono ?_; rintro e w2 ⟨rfl, rfl⟩)
      | (go_at_call 8; refine (pow_c _ (by omega) (by omega) _).mono ?_; rintro e w2 ⟨rfl, rfl⟩)
      | (go_at_call 60; refine (odd_c _ _).mono ?_; rintro e w2 ⟨rfl, rfl⟩))
    go_ret
    exact ⟨rfl, rfl⟩

theorem refShift_up_less (x s q l : Int) (h0 : 0 < s) (h1 : s ≤ 62)
    (HF : Hid (∀ W, Calls Try.prog 59 #[.int .i64 x, .int .i64 s] W fun e w' => e = .returned (.int .i64 q) ∧ w' = W))
    (q0 : -4611686018427387904 ≤ q) (q1 : q ≤ 4611686018427387904) (b0 : -9223372036854775808 ≤ q * 2 ^ s.toNat) (b1 : q * 2 ^ s.toNat ≤ 9223372036854775807)
    (l0 : 0 ≤ l) (l1 : l ≤ 4611686018427387904) (hl : x - q * 2 ^ s.toNat = l) (hc : ¬ 2 ^ (s.toNat - 1) < l) (hd : (l == 2 ^ (s.toNat - 1)) = false) (w : World) :
    Calls Try.prog 44 #[.int .i64 x, .int .i64 s, .int .i64 1] w fun e w' => e = .returned (.int .i64 (q)) ∧ w' = w := by
    go_enter Try.func44, Try.ntmps44
    go_wp2_with (first
      | (go_at_call 59; refine (HF.out _).mono ?_; rintro e w2 ⟨rfl, rfl⟩)
      | (go_at_call 8; refine (pow_c _ (by omega) (by omega) _).mono ?_; rintro e w2 ⟨rfl, rfl⟩)
      | (go_at_call 60; refine (odd_c _ _).mono ?_; rintro e w2 ⟨rfl, rfl⟩))
    go_ret
    exact ⟨rfl, rfl⟩

theorem refShift_even_more (x s q l : Int) (h0 : 0 < s) (h1 : s ≤ 62)
    (HF : Hid (∀ W, Calls Try.prog 59 #[.int .i64 x, .int .i64 s] W fun e w' => e = .returned (.int .i64 q) ∧ w' = W))
    (q0 : -4611686018427387904 ≤ q) (q1 : q ≤ 4611686018427387904) (b0 : -9223372036854775808 ≤ q * 2 ^ s.toNat) (b1 : q * 2 ^ s.toNat ≤ 9223372036854775807)
    (l0 : 0 ≤ l) (l1 : l ≤ 4611686018427387904) (hl : x - q * 2 ^ s.toNat = l) (hc : 2 ^ (s.toNat - 1) < l) (w : World) :
    Calls Try.prog 44 #[.int .i64 x, .int .i64 s, .int .i64 2] w fun e w' => e = .returned (.int .i64 (q + 1)) ∧ w' = w := by
    go_enter Try.func44, Try.ntmps44
    go_wp2_with (first
      | (go_at_call 59; refine (HF.out _).mono ?_; rintro e w2 ⟨rfl, rfl⟩)
      | (go_at_call 8; refine (pow_c _ (by omega) (by omega) _).mono ?_; rintro e w2 ⟨rfl, rfl⟩)
      | (go_at_call 60; refine (odd_c _ _).mono ?_; rintro e w2 ⟨rfl, rfl⟩))
    go_ret
    exact ⟨rfl, rfl⟩

theorem refShift_even_mid (x s q l : Int) (h0 : 0 < s) (h1 : s ≤ 62)
    (HF : Hid (∀ W, Calls Try.prog 59 #[.int .i64 x, .int .i64 s] W fun e w' => e = .returned (.int .i64 q) ∧ w' = W))
    (q0 : -4611686018427387904 ≤ q) (q1 : q ≤ 4611686018427387904) (b0 : -9223372036854775808 ≤ q * 2 ^ s.toNat) (b1 : q * 2 ^ s.toNat ≤ 9223372036854775807)
    (l0 : 0 ≤ l) (l1 : l ≤ 4611686018427387904) (hl : x - q * 2 ^ s.toNat = l) (hc : ¬ 2 ^ (s.toNat - 1) < l) (hd : (l == 2 ^ (s.toNat - 1)) = true) (ho : (q.tmod 2 != 0) = true) (w : World) :
    Calls Try.prog 44 #[.int .i64 x, .int .i64 s, .int .i64 2] w fun e w' => e = .returned (.int .i64 (q + 1)) ∧ w' = w := by
    go_enter Try.func44, Try.ntmps44
    go_wp2_with (first
      | (go_at_call 59; refine (HF.out _).mono ?_; rintro e w2 ⟨rfl, rfl⟩)
      | (go_at_call 8; refine (pow_c _ (by omega) (by omega) _).mono ?_; rintro e w2 ⟨rfl, rfl⟩)
      | (go_at_call 60; refine (odd_c _ _).mono ?_; rintro e w2 ⟨rfl, rfl⟩))
    go_ret
    exact ⟨rfl, rfl⟩

theorem refShift_even_mid2 (x s q l : Int) (h0 : 0 < s) (h1 : s ≤ 62)
    (HF : Hid (∀ W, Calls Try.prog 59 #[.int .i64 x, .int .i64 s] W fun e w' => e = .returned (.int .i64 q) ∧ w' = W))
    (q0 : -4611686018427387904 ≤ q) (q1 : q ≤ 4611686018427387904) (b0 : -9223372036854775808 ≤ q * 2 ^ s.toNat) (b1 : q * 2 ^ s.toNat ≤ 9223372036854775807)
    (l0 : 0 ≤ l) (l1 : l ≤ 4611686018427387904) (hl : x - q * 2 ^ s.toNat = l) (hc : ¬ 2 ^ (s.toNat - 1) < l) (hd : (l == 2 ^ (s.toNat - 1)) = true) (ho : (q.tmod 2 != 0) = false) (w : World) :
    Calls Try.prog 44 #[.int .i64 x, .int .i64 s, .int .i64 2] w fun e w' => e = .returned (.int .i64 (q)) ∧ w' = w := by
    go_enter Try.func44, Try.ntmps44
    go_wp2_with (first
      | (go_at_call 59; refine (HF.out _).mono ?_; rintro e w2 ⟨rfl, rfl⟩)
      | (go_at_call 8; refine (pow_c _ (by omega) (by omega) _).mono ?_; rintro e w2 ⟨rfl, rfl⟩)
      | (go_at_call 60; refine (odd_c _ _).mono ?_; rintro e w2 ⟨rfl, rfl⟩))
    go_ret
    exact ⟨rfl, rfl⟩

theorem refShift_even_less (x s q l : Int) (h0 : 0 < s) (h1 : s ≤ 62)
    (HF : Hid (∀ W, Calls Try.prog 59 #[.int .i64 x, .int .i64 s] W fun e w' => e = .returned (.int .i64 q) ∧ w' = W))
    (q0 : -4611686018427387904 ≤ q) (q1 : q ≤ 4611686018427387904) (b0 : -9223372036854775808 ≤ q * 2 ^ s.toNat) (b1 : q * 2 ^ s.toNat ≤ 9223372036854775807)
    (l0 : 0 ≤ l) (l1 : l ≤ 4611686018427387904) (hl : x - q * 2 ^ s.toNat = l) (hc : ¬ 2 ^ (s.toNat - 1) < l) (hd : (l == 2 ^ (s.toNat - 1)) = false) (w : World) :
    Calls Try.prog 44 #[.int .i64 x, .int .i64 s, .int .i64 2] w fun e w' => e = .returned (.int .i64 (q)) ∧ w' = w := by
    go_enter Try.func44, Try.ntmps44
    go_wp2_with (first
      | (go_at_call 59; refine (HF.out _).mono ?_; rintro e w2 ⟨rfl, rfl⟩)
      | (go_at_call 8; refine (pow_c _ (by omega) (by omega) _).mono ?_; rintro e w2 ⟨rfl, rfl⟩)
      | (go_at_call 60; refine (odd_c _ _).mono ?_; rintro e w2 ⟨rfl, rfl⟩))
    go_ret
    exact ⟨rfl, rfl⟩

end Go.Proofs.Ytkbfniogannlhaa
