/- What package sat's functions answer: a mantissa's bits, the number clamped, sums and products clamped, or the error. -/
import Derived.Test.YtkbfniogannlhaaAll
namespace Go.Proofs.Ytkbfniogannlhaa
open Go.ChangeShapes Go.WideShapes Go.ChangeAt Go.RowKit
set_option linter.unusedVariables false

/-- A format, how many bits it has behind the sign, and the value of 1. -/
def FB (f b p : Int) : Prop := (f = 0 ∧ b = 15 ∧ p = 32768) ∨ (f = 1 ∧ b = 31 ∧ p = 2147483648)

/-- The number next to x of those from -p to p-1. -/
def clampI (p x : Int) : Int := if x < -p then -p else if p - 1 < x then p - 1 else x

theorem clampI_low {p x : Int} (h : x < -p) : clampI p x = -p := if_pos h

theorem clampI_high {p x : Int} (h0 : 0 < p) (h : p - 1 < x) : clampI p x = p - 1 := by rw [clampI, if_neg (by omega), if_pos h]

theorem clampI_mid {p x : Int} (h0 : -p ≤ x) (h1 : x < p) : clampI p x = x := by rw [clampI, if_neg (by omega), if_neg (by omega)]

theorem clampI_bd (p x : Int) (h0 : 0 < p) : -p ≤ clampI p x ∧ clampI p x < p := by
  unfold clampI
  split
  · omega
  · split <;> omega

theorem FB.pos {f b p : Int} (h : FB f b p) : 0 < p ∧ p ≤ 2147483648 ∧ 0 ≤ b ∧ b ≤ 31 ∧ 0 ≤ f ∧ f ≤ 1 := by
  rcases h with ⟨rfl, rfl, rfl⟩ | ⟨rfl, rfl, rfl⟩ <;> omega

theorem FB.pow {f b p : Int} (h : FB f b p) : (2 : Int) ^ b.toNat = p := by
  rcases h with ⟨rfl, rfl, rfl⟩ | ⟨rfl, rfl, rfl⟩ <;> rfl

theorem FB.of {f : Int} (h0 : 0 ≤ f) (h1 : f ≤ 1) : ∃ b p, FB f b p := by
  by_cases h : f = 0
  · exact ⟨15, 32768, .inl ⟨h, rfl, rfl⟩⟩
  · exact ⟨31, 2147483648, .inr ⟨by omega, rfl, rfl⟩⟩

theorem FB.bp {f b p : Int} (h : FB f b p) : Hid ((b = 15 ∧ p = 32768) ∨ (b = 31 ∧ p = 2147483648)) := by
  rcases h with ⟨_, h⟩ | ⟨_, h⟩
  · exact Lib.hid (.inl h)
  · exact Lib.hid (.inr h)

theorem prod_bd (p a m : Int) (hp : 0 ≤ p) (a0 : -p ≤ a) (a1 : a ≤ p) (m0 : -p ≤ m) (m1 : m ≤ p) : -(p * p) ≤ a * m ∧ a * m ≤ p * p := by
  have h1 : 0 ≤ (p - a) * (p + m) := Int.mul_nonneg (by omega) (by omega)
  have h2 : 0 ≤ (p + a) * (p - m) := Int.mul_nonneg (by omega) (by omega)
  have h3 : 0 ≤ (p - a) * (p - m) := Int.mul_nonneg (by omega) (by omega)
  have h4 : 0 ≤ (p + a) * (p + m) := Int.mul_nonneg (by omega) (by omega)
  simp only [Int.sub_mul, Int.add_mul, Int.mul_sub, Int.mul_add] at h1 h2 h3 h4
  have e : m * p = p * m := Int.mul_comm _ _
  have e2 : a * p = p * a := Int.mul_comm _ _
  omega

theorem prod_fits (p a m : Int) (hp : 0 < p) (hp1 : p ≤ 2147483648) (a0 : -p ≤ a) (a1 : a ≤ p) (m0 : -p ≤ m) (m1 : m ≤ p) : -4611686018427387904 ≤ a * m ∧ a * m ≤ 4611686018427387904 := by
  have h := prod_bd p a m (Int.le_of_lt hp) a0 a1 m0 m1
  have h2 : p * p ≤ 2147483648 * 2147483648 := Int.mul_le_mul hp1 hp1 (by omega) (by decide)
  omega

end Go.Proofs.Ytkbfniogannlhaa
