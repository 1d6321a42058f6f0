/- Plain facts on products of mantissas, rounded: only the least one's product with itself is clamped. -/
import Derived.Test.YtchdeniiponhmaaMath2
import Derived.Test.YtchdeniiponhmaaSat
namespace Go.Proofs.Ytchdeniiponhmaa

theorem prod_le (p a m : Int) (hp : 0 < p) (a0 : -p ≤ a) (a1 : a < p) (m0 : -p ≤ m) (m1 : m < p) (h : ¬ (a = -p ∧ m = -p)) : -(p - 1) * p ≤ a * m ∧ a * m ≤ (p - 1) * p := by
  have e : m * p = p * m := Int.mul_comm _ _
  have e2 : a * p = p * a := Int.mul_comm _ _
  by_cases ha : a = -p
  · subst ha
    have hm : -p + 1 ≤ m := by omega
    have h1 : 0 ≤ p * (p - 1 - m) := Int.mul_nonneg (by omega) (by omega)
    have h2 : 0 ≤ p * (m + (p - 1)) := Int.mul_nonneg (by omega) (by omega)
    simp only [Int.mul_sub, Int.mul_add, Int.sub_mul, Int.neg_mul, Int.mul_one, Int.one_mul] at *
    omega
  · by_cases hm : m = -p
    · subst hm
      have h1 : 0 ≤ p * (p - 1 - a) := Int.mul_nonneg (by omega) (by omega)
      have h2 : 0 ≤ p * (a + (p - 1)) := Int.mul_nonneg (by omega) (by omega)
      simp only [Int.mul_sub, Int.mul_add, Int.sub_mul, Int.neg_mul, Int.mul_neg, Int.mul_one, Int.one_mul] at *
      omega
    · have h := prod_bd (p - 1) a m (by omega) (by omega) (by omega) (by omega) (by omega)
      have h2 : (p - 1) * (p - 1) ≤ (p - 1) * p := Int.mul_le_mul_of_nonneg_left (show p - 1 ≤ p by omega) (show 0 ≤ p - 1 by omega)
      rw [Int.neg_mul]
      omega

theorem rnd_in (b p a m mo : Int) (hb : (2 : Int) ^ b.toNat = p) (hp : 0 < p) (hm : mo = 0 ∨ mo = 1 ∨ mo = 2) (a0 : -p ≤ a) (a1 : a < p) (m0 : -p ≤ m) (m1 : m < p) (h : ¬ (a = -p ∧ m = -p)) :
    clampI p (rnd (a * m) b.toNat mo) = rnd (a * m) b.toNat mo := by
  have hx := prod_le p a m hp a0 a1 m0 m1 h
  have h1 := rnd_mono _ _ b.toNat mo hm hx.1
  have h2 := rnd_mono _ _ b.toNat mo hm hx.2
  rw [← hb, rnd_mul _ _ _ hm, hb] at h1 h2
  exact clampI_mid (by omega) (by omega)

theorem rnd_over (b p mo : Int) (hb : (2 : Int) ^ b.toNat = p) (hm : mo = 0 ∨ mo = 1 ∨ mo = 2) : rnd (-p * -p) b.toNat mo = p := by
  have e : -p * -p = p * p := by rw [Int.neg_mul_neg]
  rw [e]
  have := rnd_mul p b.toNat mo hm
  rwa [hb] at this

theorem mul_clamped (b p a m mo : Int) (hb : (2 : Int) ^ b.toNat = p) (hp : 0 < p) (hm : mo = 0 ∨ mo = 1 ∨ mo = 2) (a0 : -p ≤ a) (a1 : a < p) (m0 : -p ≤ m) (m1 : m < p) :
    (clampI p (rnd (a * m) b.toNat mo) != rnd (a * m) b.toNat mo) = (a == -p && m == -p) := by
  by_cases h : a = -p ∧ m = -p
  · obtain ⟨rfl, rfl⟩ := h
    rw [rnd_over b p mo hb hm, clampI_high hp (by omega)]
    simp
    omega
  · rw [rnd_in b p a m mo hb hp hm a0 a1 m0 m1 h]
    simp
    omega

theorem neg_clamped (p a : Int) (hp : 0 < p) (a0 : -p ≤ a) (a1 : a < p) : (clampI p (0 - a) != 0 - a) = (a == -p) := by
  by_cases h : a = -p
  · subst h
    rw [clampI_high hp (by omega)]
    simp
    omega
  · rw [clampI_mid (by omega) (by omega)]
    simp [h]

theorem clampI_mono (p x y : Int) (hp : 0 < p) (h : x ≤ y) : clampI p x ≤ clampI p y := by
  unfold clampI
  split
  · split
    · omega
    · split <;> omega
  · split
    · split <;> omega
    · split
      · omega
      · split <;> omega

theorem tmod_lt (x p : Int) (hp : 0 < p) : -p < x.tmod p ∧ x.tmod p < p := by
  rw [Int.tmod_eq_emod]
  have h0 := Int.emod_nonneg x (Int.ne_of_gt hp)
  have h1 := Int.emod_lt_of_pos x hp
  have e : (p.natAbs : Int) = p := Int.natAbs_of_nonneg (Int.le_of_lt hp)
  split
  · omega
  · rename_i h
    have : x % p ≠ 0 := fun hz => h (.inr (Int.dvd_of_emod_eq_zero hz))
    rw [e]
    omega

end Go.Proofs.Ytchdeniiponhmaa
