/- The helpers of law 6. -/
import Derived.Test.YtgmoifhmppkneaaCircle
import Derived.Sort.QuietIn
namespace Go.Proofs.Ytgmoifhmppkneaa
open Go.ChangeShapes Go.WideShapes Go.ChangeAt Go.RowKit
set_option linter.unusedVariables false

theorem near06_c (a b c : Int) (wa : -1000000000000000000 ≤ a ∧ a ≤ 1000000000000000000) (wb : -1000000000000000000 ≤ b ∧ b ≤ 1000000000000000000) (h1 : a - b ≤ c) (h2 : b - a ≤ c) (w : World) :
    Calls Try.prog 14 #[.int .i64 a, .int .i64 b, .int .i64 c] w fun e w' => e = .returned (.bool true) ∧ w' = w := by
  go_enter Try.func14, Try.ntmps14
  go_wp2
  go_ret
  exact ⟨rfl, rfl⟩

theorem mq_nat (x y : Nat) : mq (x : Int) (y : Int) = ((x * y / 72057594037927936 : Nat) : Int) := by
  unfold mq
  rw [← Int.natCast_mul, Int.tdiv_eq_ediv_of_nonneg (by omega)]
  omega
theorem mq_negl (a b : Int) : mq (-a) b = -mq a b := by unfold mq; rw [Int.neg_mul, Int.neg_tdiv]
theorem mq_negr (a b : Int) : mq a (-b) = -mq a b := by unfold mq; rw [Int.mul_neg, Int.neg_tdiv]

set_option maxHeartbeats 1000000 in
theorem mul06_c (a b : Int) (ha : a.natAbs ≤ 144115188075855872) (hb : b.natAbs ≤ 144115188075855872) (w : World) :
    Calls Try.prog 15 #[.int .i64 a, .int .i64 b] w fun e w' => e = .returned (.int .i64 (mq a b)) ∧ w' = w := by
  obtain ⟨x, hx⟩ : ∃ x, a.natAbs = x := ⟨_, rfl⟩
  obtain ⟨y, hy⟩ : ∃ y, b.natAbs = y := ⟨_, rfl⟩
  have HM := Lib.hid (mul64_c x y (by omega) (by omega))
  have q0 : x * y / 72057594037927936 ≤ 288230376151711744 := by
    have : x * y ≤ 144115188075855872 * 144115188075855872 := Nat.mul_le_mul (by omega) (by omega)
    omega
  have nm := mq_nat x y
  obtain ⟨q, hq⟩ : ∃ q, x * y / 72057594037927936 = q := ⟨_, rfl⟩
  have h1 : x * y / 18446744073709551616 < 1125899906842625 := by omega
  have h2 : x * y % 18446744073709551616 < 18446744073709551616 := Nat.mod_lt _ (by decide)
  have h3 : x * y / 18446744073709551616 * 256 + x * y % 18446744073709551616 / 72057594037927936 = q := by omega
  rw [hq] at nm q0
  generalize x * y / 18446744073709551616 = h at *
  generalize x * y % 18446744073709551616 = l at *
  have eb : bits .or .u64 ((h : Int) * 256) ((l : Int) / 72057594037927936) = (q : Int) := by
    have := bits_or_u64_nat (256 * h) (l / 72057594037927936) (by omega) (by omega)
    rw [show ((h : Int) * 256) = ((256 * h : Nat) : Int) by omega, show ((l : Int) / 72057594037927936) = ((l / 72057594037927936 : Nat) : Int) by omega, this]
    congr 1
    have l1 : l / 72057594037927936 < 256 := by omega
    generalize l / 72057594037927936 = c at *
    have := Nat.two_pow_add_eq_or_of_lt (i := 8) (b := c) (by omega) h
    rw [show (2 : Nat) ^ 8 = 256 from rfl] at this
    omega
  have e1 : IntKind.u64.wrap ((h : Int) * 256) = (h : Int) * 256 := by rw [IntKind.wrap_u64]; omega
  have e2 : IntKind.i64.wrap (q : Int) = (q : Int) := IntWalk.i64_in _ ⟨by omega, by omega⟩
  have e3 : IntKind.i64.wrap (-(q : Int)) = -(q : Int) := IntWalk.i64_in _ ⟨by omega, by omega⟩
  have r1 : IntKind.i64.wrap (-a) = -a := IntWalk.i64_in _ ⟨by omega, by omega⟩
  have r2 : IntKind.i64.wrap (-b) = -b := IntWalk.i64_in _ ⟨by omega, by omega⟩
  have w1 : IntKind.u64.wrap a.natAbs = (x : Int) := by rw [IntKind.wrap_u64]; omega
  have w2 : IntKind.u64.wrap b.natAbs = (y : Int) := by rw [IntKind.wrap_u64]; omega
  clear hq h3 h1 h2 q0
  by_cases sa : a < 0
  · by_cases sb : b < 0
    · have K : mq a b = (q : Int) := by
        rw [← nm, ← hx, ← hy]
        rw [show ((a.natAbs : Nat) : Int) = -a by omega, show ((b.natAbs : Nat) : Int) = -b by omega]
        simp only [mq_negl, mq_negr, Int.neg_neg]
      rw [show ((a.natAbs : Nat) : Int) = -a by omega] at w1
      rw [show ((b.natAbs : Nat) : Int) = -b by omega] at w2
      rw [K]
      clear K ha hb hx hy nm
      have ba : decide (a < 0) = true := by simp only [decide_eq_true_eq]; omega
      have bb : decide (b < 0) = true := by simp only [decide_eq_true_eq]; omega
      go_enter Try.func15, Try.ntmps15
      go_wp2_with (go_at_call 24; with_reducible refine (HM.out _).mono ?_; rintro e w1 ⟨rfl, rfl⟩)
      go_ret
      exact ⟨rfl, rfl⟩
    · have K : mq a b = -(q : Int) := by
        rw [← nm, ← hx, ← hy]
        rw [show ((a.natAbs : Nat) : Int) = -a by omega, show ((b.natAbs : Nat) : Int) = b by omega]
        simp only [mq_negl, Int.neg_neg]
      rw [show ((a.natAbs : Nat) : Int) = -a by omega] at w1
      rw [show ((b.natAbs : Nat) : Int) = b by omega] at w2
      rw [K]
      clear K ha hb hx hy nm
      have ba : decide (a < 0) = true := by simp only [decide_eq_true_eq]; omega
      have bb : decide (b < 0) = false := by simp only [decide_eq_false_iff_not]; omega
      go_enter Try.func15, Try.ntmps15
      go_wp2_with (go_at_call 24; with_reducible refine (HM.out _).mono ?_; rintro e w1 ⟨rfl, rfl⟩)
      go_ret
      exact ⟨rfl, rfl⟩
  · by_cases sb : b < 0
    · have K : mq a b = -(q : Int) := by
        rw [← nm, ← hx, ← hy]
        rw [show ((a.natAbs : Nat) : Int) = a by omega, show ((b.natAbs : Nat) : Int) = -b by omega]
        simp only [mq_negr, Int.neg_neg]
      rw [show ((a.natAbs : Nat) : Int) = a by omega] at w1
      rw [show ((b.natAbs : Nat) : Int) = -b by omega] at w2
      rw [K]
      clear K ha hb hx hy nm
      have ba : decide (a < 0) = false := by simp only [decide_eq_false_iff_not]; omega
      have bb : decide (b < 0) = true := by simp only [decide_eq_true_eq]; omega
      go_enter Try.func15, Try.ntmps15
      go_wp2_with (go_at_call 24; with_reducible refine (HM.out _).mono ?_; rintro e w1 ⟨rfl, rfl⟩)
      go_ret
      exact ⟨rfl, rfl⟩
    · have K : mq a b = (q : Int) := by
        rw [← nm, ← hx, ← hy]
        rw [show ((a.natAbs : Nat) : Int) = a by omega, show ((b.natAbs : Nat) : Int) = b by omega]
      rw [show ((a.natAbs : Nat) : Int) = a by omega] at w1
      rw [show ((b.natAbs : Nat) : Int) = b by omega] at w2
      rw [K]
      clear K ha hb hx hy nm
      have ba : decide (a < 0) = false := by simp only [decide_eq_false_iff_not]; omega
      have bb : decide (b < 0) = false := by simp only [decide_eq_false_iff_not]; omega
      go_enter Try.func15, Try.ntmps15
      go_wp2_with (go_at_call 24; with_reducible refine (HM.out _).mono ?_; rintro e w1 ⟨rfl, rfl⟩)
      go_ret
      exact ⟨rfl, rfl⟩

theorem alive06_c (w : World) : Calls Try.prog 11 #[] w fun e w' => e = .returned (.bool true) ∧ Gr w w' := by
  have HP : Hid (∀ W, Calls Try.prog 7 #[.int .i64 0] W fun e w' => e = .returned (.tuple #[.agg #[.int .i64 72057594037927937, .int .i64 2190], .int .i64 0]) ∧ Gr W w') := Lib.hid fun W => by
    have := point_ok 0 (by decide) W
    unfold PtIs at this
    rw [pt_zero.1, pt_zero.2] at this
    exact this
  have N1 := Lib.hid (near06_c 72057594037927937 72057594037927936 8192 (by omega) (by omega) (by omega) (by omega))
  have N2 := Lib.hid (near06_c 2190 0 8192 (by omega) (by omega) (by omega) (by omega))
  go_enter Try.func11, Try.ntmps11
  go_wp2_with fail
  refine (HP.out _).mono ?_
  rintro e w1 ⟨rfl, g1⟩
  go_wp2_with fail
  refine (N1.out _).mono ?_
  rintro e w2 ⟨rfl, rfl⟩
  go_wp2_with fail
  refine (N2.out _).mono ?_
  rintro e w3 ⟨rfl, rfl⟩
  go_wp2_with fail
  go_ret
  exact ⟨rfl, g1.alloc _ _⟩

end Go.Proofs.Ytgmoifhmppkneaa
