/- What reference 8's functions answer. -/
import Derived.Test.YteajjgegfpibkaaFlipCode
import Derived.Test.YteajjgegfpibkaaUp
import Derived.Test.YteajjgegfpibkaaSmall
import Derived.Test.YteajjgegfpibkaaCxs
import Derived.Maps.AppendAt
namespace Go.Proofs.Yteajjgegfpibkaa
open Go.ChangeShapes Go.WideShapes Go.ChangeAt Go.RowKit
set_option linter.unusedVariables false

theorem pow08_c (k p : Int) (h : (2 : Int) ^ k.toNat = p) (h0 : 0 ≤ k) (h1 : k ≤ 62) (w : World) :
    Calls Try.prog 21 #[.int .i64 k] w fun e w' => e = .returned (.int .i64 p) ∧ w' = w := by
  rw [← h]
  exact pow_c k h0 h1 w

theorem bit08_c (i j : Nat) (hi : i < 64) (hj : j ≤ 6) (w : World) :
    Calls Try.prog 22 #[.int .i64 i, .int .i64 j] w fun e w' => e = .returned (.int .i64 (i / 2 ^ j % 2 : Nat)) ∧ w' = w := by
  have HF := Lib.hid (floor_c i j (by omega) (by omega) (by omega))
  have e : ((i : Int) / 2 ^ (j : Int).toNat).tmod 2 = ((i / 2 ^ j % 2 : Nat) : Int) := by
    rw [Int.toNat_natCast, Int.tmod_eq_emod_of_nonneg (Int.ediv_nonneg (by omega) (by exact Int.le_of_lt (pow_pos2 j)))]
    simp
  generalize i / 2 ^ j % 2 = r at *
  generalize (i : Int) / 2 ^ (j : Int).toNat = q at *
  go_enter Try.func22, Try.ntmps22
  go_wp2_with (first | (go_at_call 23; refine (HF.out _).mono ?_; rintro e wz ⟨rfl, rfl⟩))
  go_ret
  exact ⟨rfl, rfl⟩

theorem rbits08_c (i L : Nat) (hL : L ≤ 6) (hi : i < 64) (w : World) :
    Calls Try.prog 10 #[.int .i64 i, .int .i64 L] w fun e w' => e = .returned (.int .i64 (fl L i)) ∧ w' = w := by
  have HB := Lib.hid fun j (hj : j ≤ 6) => bit08_c i j hi hj
  have HE := Lib.hid (rb_fl L i hL hi)
  have HR := Lib.hid fun k => rb_lt L k i
  have HT := Lib.hid fun k => rb_succ L k i
  go_enter Try.func10, Try.ntmps10
  go_wp2
  go_loop [5, 6] (fun o r => ∃ k : Nat, k ≤ L ∧ r = .int .i64 k ∧ o = .int .i64 (rb L k i : Nat)) (fun _ r => L - (intOf r).toNat)
  case atStart => exact ⟨0, Nat.zero_le _, rfl, rfl⟩
  case round =>
    obtain ⟨k, hk, rfl, rfl⟩ := hrel
    by_cases hlt : k < L
    · have hs : (k : Int) < L := by omega
      have HP := Lib.hid (pow_c k (by omega) (by omega))
      obtain ⟨m, hm⟩ : ∃ m, m = L - 1 - k := ⟨_, rfl⟩
      have hm' : (L : Int) - 1 - k = m := by omega
      have HB1 := Lib.hid (HB.out m (by omega))
      have h1 := HR.out k
      have h2 := HR.out (k + 1)
      have h3 := HT.out k
      have h4 : 2 ^ (k + 1) ≤ 64 := pow_le (k + 1) (by omega)
      have hb : i / 2 ^ m % 2 < 2 := Nat.mod_lt _ (by omega)
      rw [← hm] at h3
      rw [Int.toNat_natCast] at HP
      have hpk : (2 : Int) ^ k = ((2 ^ k : Nat) : Int) := by simp
      rw [hpk] at HP
      have h5 : 2 ^ k ≤ 64 := pow_le k (by omega)
      obtain ⟨s, hS⟩ : ∃ s, rb L (k + 1) i = s := ⟨_, rfl⟩
      have HS1 := Lib.hid hS
      rw [hS] at h2 h3
      clear hS
      generalize rb L k i = r at *
      generalize i / 2 ^ m % 2 = b at *
      clear hpk
      generalize 2 ^ (k + 1) = q at *
      generalize 2 ^ k = p at *
      have h6 : b * p ≤ 64 := by
        rcases (show b = 0 ∨ b = 1 by omega) with rfl | rfl <;> omega
      have h7 : (b : Int) * p = ((b * p : Nat) : Int) := by simp
      generalize b * p = bp at *
      have h8 : (r : Int) + bp = s := by omega
      have hr : s ≤ 64 := by omega
      clear h1 h2 h3 h4 hm
      go_wp2_with (first | (go_at_call 22; refine (HB1.out _).mono ?_; rintro e wz ⟨rfl, rfl⟩) | (go_at_call 21; refine (HP.out _).mono ?_; rintro e wz ⟨rfl, rfl⟩))
      go_round
      case rel => exact ⟨k + 1, by omega, by go_num, by rw [HS1.out]⟩
      case measure => simp [intOf]; omega
    · have hs : (L : Int) ≤ k := by omega
      obtain rfl : k = L := by omega
      go_wp2
      go_ret
      exact ⟨by rw [HE.out]; rfl, rfl⟩

theorem may08_yes (i L : Nat) (l0 : 2 ≤ L) (l1 : L ≤ 6) (hi : i < 2 ^ L) (w : World) :
    Calls Try.prog 9 #[.int .i64 i, .int .i64 L] w fun e w' => e = .returned (.bool true) ∧ w' = w := by
  have HL := Lib.hid (log07_yes L (by omega) (by omega))
  have HP := Lib.hid (pow_c L (by omega) (by omega))
  have hpk : (2 : Int) ^ L = ((2 ^ L : Nat) : Int) := by simp
  rw [Int.toNat_natCast, hpk] at HP
  clear hpk
  generalize 2 ^ L = n at *
  go_enter Try.func9, Try.ntmps9
  go_wp2_with (first | (go_at_call 12; refine (HL.out _).mono ?_; rintro e wz ⟨rfl, rfl⟩) | (go_at_call 21; refine (HP.out _).mono ?_; rintro e wz ⟨rfl, rfl⟩))
  go_ret
  exact ⟨by simp <;> omega, rfl⟩

theorem may08_log (i log : Int) (h : log < 2 ∨ 6 < log) (w : World) :
    Calls Try.prog 9 #[.int .i64 i, .int .i64 log] w fun e w' => e = .returned (.bool false) ∧ w' = w := by
  have HL := Lib.hid (log07_no log h)
  clear h
  go_enter Try.func9, Try.ntmps9
  go_wp2_with (first | (go_at_call 12; refine (HL.out _).mono ?_; rintro e wz ⟨rfl, rfl⟩))
  go_ret
  exact ⟨rfl, rfl⟩

theorem may08_neg (i : Int) (L : Nat) (l0 : 2 ≤ L) (l1 : L ≤ 6) (h : i < 0) (w : World) :
    Calls Try.prog 9 #[.int .i64 i, .int .i64 L] w fun e w' => e = .returned (.bool false) ∧ w' = w := by
  have HL := Lib.hid (log07_yes L (by omega) (by omega))
  go_enter Try.func9, Try.ntmps9
  go_wp2_with (first | (go_at_call 12; refine (HL.out _).mono ?_; rintro e wz ⟨rfl, rfl⟩))
  go_ret
  exact ⟨by simp; try omega, rfl⟩

theorem may08_big (i : Int) (L : Nat) (l0 : 2 ≤ L) (l1 : L ≤ 6) (h0 : 0 ≤ i) (h : ((2 ^ L : Nat) : Int) ≤ i) (w : World) :
    Calls Try.prog 9 #[.int .i64 i, .int .i64 L] w fun e w' => e = .returned (.bool false) ∧ w' = w := by
  have HL := Lib.hid (log07_yes L (by omega) (by omega))
  have HP := Lib.hid (pow_c L (by omega) (by omega))
  have hpk : (2 : Int) ^ L = ((2 ^ L : Nat) : Int) := by simp
  rw [Int.toNat_natCast, hpk] at HP
  clear hpk
  generalize 2 ^ L = n at *
  go_enter Try.func9, Try.ntmps9
  go_wp2_with (first | (go_at_call 12; refine (HL.out _).mono ?_; rintro e wz ⟨rfl, rfl⟩) | (go_at_call 21; refine (HP.out _).mono ?_; rintro e wz ⟨rfl, rfl⟩))
  go_ret
  exact ⟨by simp <;> omega, rfl⟩

set_option maxHeartbeats 1000000 in
theorem rlog08_yes (n : Int) (L : Nat) (h : IsLog n L) (w : World) :
    Calls Try.prog 15 #[.int .i64 n] w fun e w' => e = .returned (.int .i64 L) ∧ w' = w := by
  have P2 := Lib.hid (pow08_c 2 4 (by decide) (by omega) (by omega))
  have P3 := Lib.hid (pow08_c 3 8 (by decide) (by omega) (by omega))
  have P4 := Lib.hid (pow08_c 4 16 (by decide) (by omega) (by omega))
  have P5 := Lib.hid (pow08_c 5 32 (by decide) (by omega) (by omega))
  have P6 := Lib.hid (pow08_c 6 64 (by decide) (by omega) (by omega))
  rcases isLog_cases h with ⟨rfl, rfl⟩ | ⟨rfl, rfl⟩ | ⟨rfl, rfl⟩ | ⟨rfl, rfl⟩ | ⟨rfl, rfl⟩
  all_goals
    clear h
    go_enter Try.func15, Try.ntmps15
    go_wp2_with fail
    refine wp_loop_rounds 6 ?_
    repeat (rw [rounds_succ]; go_wp2_with (go_at_call 21; first | (with_reducible refine (P2.out _).mono ?_; rintro e wz ⟨rfl, rfl⟩) | (with_reducible refine (P3.out _).mono ?_; rintro e wz ⟨rfl, rfl⟩) | (with_reducible refine (P4.out _).mono ?_; rintro e wz ⟨rfl, rfl⟩) | (with_reducible refine (P5.out _).mono ?_; rintro e wz ⟨rfl, rfl⟩) | (with_reducible refine (P6.out _).mono ?_; rintro e wz ⟨rfl, rfl⟩)))
    go_ret
    exact ⟨rfl, rfl⟩

set_option maxHeartbeats 1000000 in
theorem rlog08_no (n : Int) (h4 : n ≠ 4) (h8 : n ≠ 8) (h16 : n ≠ 16) (h32 : n ≠ 32) (h64 : n ≠ 64) (w : World) :
    Calls Try.prog 15 #[.int .i64 n] w fun e w' => e = .returned (.int .i64 (-1)) ∧ w' = w := by
  have P2 := Lib.hid (pow08_c 2 4 (by decide) (by omega) (by omega))
  have P3 := Lib.hid (pow08_c 3 8 (by decide) (by omega) (by omega))
  have P4 := Lib.hid (pow08_c 4 16 (by decide) (by omega) (by omega))
  have P5 := Lib.hid (pow08_c 5 32 (by decide) (by omega) (by omega))
  have P6 := Lib.hid (pow08_c 6 64 (by decide) (by omega) (by omega))
  have e4 : ((4 : Int) == n) = false := by simp; omega
  have e8 : ((8 : Int) == n) = false := by simp; omega
  have e16 : ((16 : Int) == n) = false := by simp; omega
  have e32 : ((32 : Int) == n) = false := by simp; omega
  have e64 : ((64 : Int) == n) = false := by simp; omega
  clear h4 h8 h16 h32 h64
  go_enter Try.func15, Try.ntmps15
  go_wp2_with fail
  refine wp_loop_rounds 6 ?_
  repeat (rw [rounds_succ]; go_wp2_with (go_at_call 21; first | (with_reducible refine (P2.out _).mono ?_; rintro e wz ⟨rfl, rfl⟩) | (with_reducible refine (P3.out _).mono ?_; rintro e wz ⟨rfl, rfl⟩) | (with_reducible refine (P4.out _).mono ?_; rintro e wz ⟨rfl, rfl⟩) | (with_reducible refine (P5.out _).mono ?_; rintro e wz ⟨rfl, rfl⟩) | (with_reducible refine (P6.out _).mono ?_; rintro e wz ⟨rfl, rfl⟩)))
  go_ret
  exact ⟨rfl, rfl⟩

end Go.Proofs.Yteajjgegfpibkaa
