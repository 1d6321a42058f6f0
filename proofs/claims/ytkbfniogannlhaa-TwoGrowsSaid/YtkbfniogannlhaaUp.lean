/- What round.Up, round.Div and the reference's functions answer; none of them turns the world. -/
import Derived.Test.YtkbfniogannlhaaMath
import Derived.Test.YtkbfniogannlhaaShift
import Derived.WalkKit
import Derived.ProofKit
import Derived.OpenShut
import Derived.Outline
import Derived.Lib.Hide
namespace Go.Proofs.Ytkbfniogannlhaa
open Go.ChangeShapes Go.WideShapes Go.ChangeAt Go.RowKit
set_option linter.unusedVariables false

theorem up_prod (x s : Int) (h0 : 0 ≤ s) (h1 : s ≤ 62) (ha : -(2 ^ (62 - s).toNat) ≤ x) (hb : x ≤ 2 ^ (62 - s).toNat) :
    -4611686018427387904 ≤ x * 2 ^ s.toNat ∧ x * 2 ^ s.toNat ≤ 4611686018427387904 := by
  have hp := pow_pos2 s.toNat
  have e : (2 : Int) ^ (62 - s).toNat * 2 ^ s.toNat = 4611686018427387904 := by
    rw [← Int.pow_add, show (62 - s).toNat + s.toNat = 62 by omega]; rfl
  have a := Int.mul_le_mul_of_nonneg_right ha (Int.le_of_lt hp)
  have b := Int.mul_le_mul_of_nonneg_right hb (Int.le_of_lt hp)
  rw [Int.neg_mul, e] at a
  rw [e] at b
  exact ⟨a, b⟩

theorem half_c (x : Int) (wx : -9223372036854775808 ≤ x ∧ x ≤ 9223372036854775807) (w : World) :
    Calls Try.prog 67 #[.int .i64 x] w fun e w' => e = .returned (.int .i64 (x / 2)) ∧ w' = w := by
  by_cases h0 : 0 < x
  · by_cases h2 : x % 2 = 0
    · go_enter Try.func67, Try.ntmps67
      go_wp2
      go_ret
      exact ⟨rfl, rfl⟩
    · go_enter Try.func67, Try.ntmps67
      go_wp2
      go_ret
      exact ⟨rfl, rfl⟩
  · by_cases h2 : (x.tmod 2 == 0) = true
    · have E := Lib.hid (half_even x h2)
      go_enter Try.func67, Try.ntmps67
      go_wp2
      rw [E.out]
      go_ret
      exact ⟨rfl, rfl⟩
    · have h2' : (x.tmod 2 == 0) = false := by simpa using h2
      have E := Lib.hid (half_odd x wx.1 (by omega) h2')
      clear h2
      go_enter Try.func67, Try.ntmps67
      go_wp2
      rw [E.out]
      go_ret
      exact ⟨rfl, rfl⟩

theorem odd_c (x : Int) (w : World) :
    Calls Try.prog 60 #[.int .i64 x] w fun e w' => e = .returned (.bool (x.tmod 2 != 0)) ∧ w' = w := by
  go_enter Try.func60, Try.ntmps60
  go_wp2
  go_ret
  exact ⟨rfl, rfl⟩

theorem pow_c (s : Int) (h0 : 0 ≤ s) (h1 : s ≤ 62) (w : World) :
    Calls Try.prog 8 #[.int .i64 s] w fun e w' => e = .returned (.int .i64 (2 ^ s.toNat)) ∧ w' = w := by
  go_enter Try.func8, Try.ntmps8
  go_wp2
  go_loop [3, 4] (fun o i => ∃ k : Nat, k ≤ s.toNat ∧ i = .int .i64 k ∧ o = .int .i64 (2 ^ k)) (fun _ i => s.toNat - (intOf i).toNat)
  case atStart => exact ⟨0, Nat.zero_le _, rfl, rfl⟩
  case round =>
    obtain ⟨k, hk, rfl, rfl⟩ := hrel
    by_cases hlt : k < s.toNat
    · have hp := pow_pos2 k
      have hq := pow_le61 k (by omega)
      have hs : (k : Int) < s := by omega
      have HE := Lib.hid (Int.pow_succ (2 : Int) k)
      go_wp2
      go_round
      case rel => exact ⟨k + 1, by omega, by go_num, by rw [HE.out]; go_num⟩
      case measure => simp [intOf]; omega
    · have hs : s ≤ (k : Int) := by omega
      have he : k = s.toNat := by omega
      have HE := Lib.hid he
      clear he
      go_wp2
      go_ret
      exact ⟨by rw [HE.out]; rfl, rfl⟩

theorem floor_c (x s : Int) (wx : -9223372036854775808 ≤ x ∧ x ≤ 9223372036854775807) (h0 : 0 ≤ s) (h1 : s ≤ 62) (w : World) :
    Calls Try.prog 59 #[.int .i64 x, .int .i64 s] w fun e w' => e = .returned (.int .i64 (x / 2 ^ s.toNat)) ∧ w' = w := by
  have WX := Lib.hid wx
  clear wx
  go_enter Try.func59, Try.ntmps59
  go_wp2
  go_loop [0, 5] (fun o i => ∃ k : Nat, k ≤ s.toNat ∧ i = .int .i64 k ∧ o = .int .i64 (x / 2 ^ k)) (fun _ i => s.toNat - (intOf i).toNat)
  case atStart => exact ⟨0, Nat.zero_le _, rfl, by simp⟩
  case round =>
    obtain ⟨k, hk, rfl, rfl⟩ := hrel
    by_cases hlt : k < s.toNat
    · have hs : (k : Int) < s := by omega
      have HE := Lib.hid (div_pow_succ x k)
      have HH := Lib.hid (half_c (x / 2 ^ k) (div_pow_bd x k WX.out.1 WX.out.2))
      go_wp2_with (go_at_call 67; refine (HH.out _).mono ?_; rintro e w2 ⟨rfl, rfl⟩)
      go_round
      case rel => exact ⟨k + 1, by omega, by go_num, by rw [HE.out]⟩
      case measure => simp [intOf]; omega
    · have hs : s ≤ (k : Int) := by omega
      have he : k = s.toNat := by omega
      have HE := Lib.hid he
      clear he
      go_wp2
      go_ret
      exact ⟨by rw [HE.out]; rfl, rfl⟩

end Go.Proofs.Ytkbfniogannlhaa
