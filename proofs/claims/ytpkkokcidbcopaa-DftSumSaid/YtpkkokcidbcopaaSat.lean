/- What package sat's functions answer: a mantissa's bits, the number clamped, sums and products clamped, or the error. · What package sat's combined answers for each of the three functions that are handed on to it, and what Add, Sub, Neg and Mul answer. · What package sat's Mul answers of mantissas, and of what is none. · Plain facts on products of mantissas, rounded: only the least one's product with itself is clamped. · What the functions of layer 2's reference answer. -/
import Derived.Test.YtpkkokcidbcopaaFns
import Derived.Test.YtpkkokcidbcopaaPlain
import Derived.LoopN
namespace Go.Proofs.Ytpkkokcidbcopaa
open Go.ChangeShapes Go.WideShapes Go.ChangeAt Go.RowKit
set_option linter.unusedVariables false
set_option maxRecDepth 100000

/-- A format, how many bits it has behind the sign, and the value of 1. -/
def FB (f b p : Int) : Prop := (f = 0 ∧ b = 15 ∧ p = 32768) ∨ (f = 1 ∧ b = 31 ∧ p = 2147483648)

/-- The number next to x of those from -p to p-1. -/
def clampI (p x : Int) : Int := if x < -p then -p else if p - 1 < x then p - 1 else x

theorem clampI_low {p x : Int} (h : x < -p) : clampI p x = -p := if_pos h

theorem clampI_high {p x : Int} (h0 : 0 < p) (h : p - 1 < x) : clampI p x = p - 1 := by rw [clampI, if_neg (by omega), if_pos h]

theorem clampI_mid {p x : Int} (h0 : -p ≤ x) (h1 : x < p) : clampI p x = x := by rw [clampI, if_neg (by omega), if_neg (by omega)]

theorem clampI_bd (p x : Int) (h0 : 0 < p) : -p ≤ clampI p x ∧ clampI p x < p := by
  unfold clampI
  split
  · omega
  · split <;> omega

theorem FB.pos {f b p : Int} (h : FB f b p) : 0 < p ∧ p ≤ 2147483648 ∧ 0 ≤ b ∧ b ≤ 31 ∧ 0 ≤ f ∧ f ≤ 1 := by
  rcases h with ⟨rfl, rfl, rfl⟩ | ⟨rfl, rfl, rfl⟩ <;> omega

theorem FB.pow {f b p : Int} (h : FB f b p) : (2 : Int) ^ b.toNat = p := by
  rcases h with ⟨rfl, rfl, rfl⟩ | ⟨rfl, rfl, rfl⟩ <;> rfl

theorem FB.of {f : Int} (h0 : 0 ≤ f) (h1 : f ≤ 1) : ∃ b p, FB f b p := by
  by_cases h : f = 0
  · exact ⟨15, 32768, .inl ⟨h, rfl, rfl⟩⟩
  · exact ⟨31, 2147483648, .inr ⟨by omega, rfl, rfl⟩⟩

theorem FB.bp {f b p : Int} (h : FB f b p) : Hid ((b = 15 ∧ p = 32768) ∨ (b = 31 ∧ p = 2147483648)) := by
  rcases h with ⟨_, h⟩ | ⟨_, h⟩
  · exact Lib.hid (.inl h)
  · exact Lib.hid (.inr h)

theorem prod_bd (p a m : Int) (hp : 0 ≤ p) (a0 : -p ≤ a) (a1 : a ≤ p) (m0 : -p ≤ m) (m1 : m ≤ p) : -(p * p) ≤ a * m ∧ a * m ≤ p * p := by
  have h1 : 0 ≤ (p - a) * (p + m) := Int.mul_nonneg (by omega) (by omega)
  have h2 : 0 ≤ (p + a) * (p - m) := Int.mul_nonneg (by omega) (by omega)
  have h3 : 0 ≤ (p - a) * (p - m) := Int.mul_nonneg (by omega) (by omega)
  have h4 : 0 ≤ (p + a) * (p + m) := Int.mul_nonneg (by omega) (by omega)
  simp only [Int.sub_mul, Int.add_mul, Int.mul_sub, Int.mul_add] at h1 h2 h3 h4
  have e : m * p = p * m := Int.mul_comm _ _
  have e2 : a * p = p * a := Int.mul_comm _ _
  omega

theorem prod_fits (p a m : Int) (hp : 0 < p) (hp1 : p ≤ 2147483648) (a0 : -p ≤ a) (a1 : a ≤ p) (m0 : -p ≤ m) (m1 : m ≤ p) : -4611686018427387904 ≤ a * m ∧ a * m ≤ 4611686018427387904 := by
  have h := prod_bd p a m (Int.le_of_lt hp) a0 a1 m0 m1
  have h2 : p * p ≤ 2147483648 * 2147483648 := Int.mul_le_mul hp1 hp1 (by omega) (by decide)
  omega

end Go.Proofs.Ytpkkokcidbcopaa

namespace Go.Proofs.Ytpkkokcidbcopaa
open Go.ChangeShapes Go.WideShapes Go.ChangeAt Go.RowKit
set_option linter.unusedVariables false

end Go.Proofs.Ytpkkokcidbcopaa

namespace Go.Proofs.Ytpkkokcidbcopaa
open Go.ChangeShapes Go.WideShapes Go.ChangeAt Go.RowKit
set_option linter.unusedVariables false

end Go.Proofs.Ytpkkokcidbcopaa

namespace Go.Proofs.Ytpkkokcidbcopaa

theorem prod_le (p a m : Int) (hp : 0 < p) (a0 : -p ≤ a) (a1 : a < p) (m0 : -p ≤ m) (m1 : m < p) (h : ¬ (a = -p ∧ m = -p)) : -(p - 1) * p ≤ a * m ∧ a * m ≤ (p - 1) * p := by
  have e : m * p = p * m := Int.mul_comm _ _
  have e2 : a * p = p * a := Int.mul_comm _ _
  by_cases ha : a = -p
  · subst ha
    have hm : -p + 1 ≤ m := by omega
    have h1 : 0 ≤ p * (p - 1 - m) := Int.mul_nonneg (by omega) (by omega)
    have h2 : 0 ≤ p * (m + (p - 1)) := Int.mul_nonneg (by omega) (by omega)
    simp only [Int.mul_sub, Int.mul_add, Int.sub_mul, Int.neg_mul, Int.mul_one, Int.one_mul] at *
    omega
  · by_cases hm : m = -p
    · subst hm
      have h1 : 0 ≤ p * (p - 1 - a) := Int.mul_nonneg (by omega) (by omega)
      have h2 : 0 ≤ p * (a + (p - 1)) := Int.mul_nonneg (by omega) (by omega)
      simp only [Int.mul_sub, Int.mul_add, Int.sub_mul, Int.neg_mul, Int.mul_neg, Int.mul_one, Int.one_mul] at *
      omega
    · have h := prod_bd (p - 1) a m (by omega) (by omega) (by omega) (by omega) (by omega)
      have h2 : (p - 1) * (p - 1) ≤ (p - 1) * p := Int.mul_le_mul_of_nonneg_left (show p - 1 ≤ p by omega) (show 0 ≤ p - 1 by omega)
      rw [Int.neg_mul]
      omega

theorem rnd_in (b p a m mo : Int) (hb : (2 : Int) ^ b.toNat = p) (hp : 0 < p) (hm : mo = 0 ∨ mo = 1 ∨ mo = 2) (a0 : -p ≤ a) (a1 : a < p) (m0 : -p ≤ m) (m1 : m < p) (h : ¬ (a = -p ∧ m = -p)) :
    clampI p (rnd (a * m) b.toNat mo) = rnd (a * m) b.toNat mo := by
  have hx := prod_le p a m hp a0 a1 m0 m1 h
  have h1 := rnd_mono _ _ b.toNat mo hm hx.1
  have h2 := rnd_mono _ _ b.toNat mo hm hx.2
  rw [← hb, rnd_mul _ _ _ hm, hb] at h1 h2
  exact clampI_mid (by omega) (by omega)

theorem rnd_over (b p mo : Int) (hb : (2 : Int) ^ b.toNat = p) (hm : mo = 0 ∨ mo = 1 ∨ mo = 2) : rnd (-p * -p) b.toNat mo = p := by
  have e : -p * -p = p * p := by rw [Int.neg_mul_neg]
  rw [e]
  have := rnd_mul p b.toNat mo hm
  rwa [hb] at this

theorem mul_clamped (b p a m mo : Int) (hb : (2 : Int) ^ b.toNat = p) (hp : 0 < p) (hm : mo = 0 ∨ mo = 1 ∨ mo = 2) (a0 : -p ≤ a) (a1 : a < p) (m0 : -p ≤ m) (m1 : m < p) :
    (clampI p (rnd (a * m) b.toNat mo) != rnd (a * m) b.toNat mo) = (a == -p && m == -p) := by
  by_cases h : a = -p ∧ m = -p
  · obtain ⟨rfl, rfl⟩ := h
    rw [rnd_over b p mo hb hm, clampI_high hp (by omega)]
    simp
    omega
  · rw [rnd_in b p a m mo hb hp hm a0 a1 m0 m1 h]
    simp
    omega

theorem neg_clamped (p a : Int) (hp : 0 < p) (a0 : -p ≤ a) (a1 : a < p) : (clampI p (0 - a) != 0 - a) = (a == -p) := by
  by_cases h : a = -p
  · subst h
    rw [clampI_high hp (by omega)]
    simp
    omega
  · rw [clampI_mid (by omega) (by omega)]
    simp [h]

theorem clampI_mono (p x y : Int) (hp : 0 < p) (h : x ≤ y) : clampI p x ≤ clampI p y := by
  unfold clampI
  split
  · split
    · omega
    · split <;> omega
  · split
    · split <;> omega
    · split
      · omega
      · split <;> omega

theorem tmod_lt (x p : Int) (hp : 0 < p) : -p < x.tmod p ∧ x.tmod p < p := by
  rw [Int.tmod_eq_emod]
  have h0 := Int.emod_nonneg x (Int.ne_of_gt hp)
  have h1 := Int.emod_lt_of_pos x hp
  have e : (p.natAbs : Int) = p := Int.natAbs_of_nonneg (Int.le_of_lt hp)
  split
  · omega
  · rename_i h
    have : x % p ≠ 0 := fun hz => h (.inr (Int.dvd_of_emod_eq_zero hz))
    rw [e]
    omega

end Go.Proofs.Ytpkkokcidbcopaa

namespace Go.Proofs.Ytpkkokcidbcopaa
open Go.ChangeShapes Go.WideShapes Go.ChangeAt Go.RowKit
set_option linter.unusedVariables false

end Go.Proofs.Ytpkkokcidbcopaa
