/- Plain facts on numbers rounded: they are near, they keep the order, and what was put up comes back. -/
import Derived.Test.YtkbfniogannlhaaMath
namespace Go.Proofs.Ytkbfniogannlhaa
open Go.RowKit

theorem goesUp_low (q l v m : Int) (_ : 0 ≤ l) (_ : 0 < v) (hm : m = 0 ∨ m = 1 ∨ m = 2) (h : goesUp m q l v = true) : v ≤ 2 * l := by
  rcases hm with rfl | rfl | rfl
  · simp [goesUp] at h
  · simp [goesUp] at h; omega
  · simp only [goesUp, evenUp] at h
    rw [if_neg (by decide), if_neg (by decide)] at h
    split at h
    · omega
    · have := of_decide_eq_true h; omega

theorem goesUp_high (q l v m : Int) (hm : m = 1 ∨ m = 2) (h : goesUp m q l v = false) : 2 * l ≤ v := by
  rcases hm with rfl | rfl
  · simp [goesUp] at h; omega
  · simp only [goesUp, evenUp] at h
    rw [if_neg (by decide), if_neg (by decide)] at h
    split at h
    · omega
    · have := of_decide_eq_false h; omega

theorem goesUp_mono (q l k v m : Int) (hm : m = 0 ∨ m = 1 ∨ m = 2) (hk : l ≤ k) (h : goesUp m q l v = true) : goesUp m q k v = true := by
  rcases hm with rfl | rfl | rfl
  · simp [goesUp] at h
  · simp [goesUp] at h ⊢; omega
  · simp only [goesUp, evenUp] at h ⊢
    rw [if_neg (by decide), if_neg (by decide)] at h ⊢
    split at h
    · split
      · exact h
      · exact decide_eq_true (by omega)
    · have := of_decide_eq_true h
      rw [if_neg (by omega)]
      exact decide_eq_true (by omega)

theorem split_of (x : Int) (n : Nat) : x = x / 2 ^ n * 2 ^ n + x % 2 ^ n := by
  have := Int.emod_add_mul_ediv x (2 ^ n)
  rw [Int.mul_comm] at this
  omega

theorem rnd_off (x : Int) (n : Nat) (m : Int) (hm : m = 0 ∨ m = 1 ∨ m = 2) :
    -(2 ^ n) < x - rnd x n m * 2 ^ n ∧ x - rnd x n m * 2 ^ n < 2 ^ n ∧ (m = 0 ∨ (2 * (x - rnd x n m * 2 ^ n) ≤ 2 ^ n ∧ -(2 ^ n) ≤ 2 * (x - rnd x n m * 2 ^ n))) := by
  have hp := pow_pos2 n
  have l0 := Int.emod_nonneg x (Int.ne_of_gt hp)
  have l1 := Int.emod_lt_of_pos x hp
  have e := split_of x n
  unfold rnd
  cases hu : goesUp m (x / 2 ^ n) (x % 2 ^ n) (2 ^ n)
  · have hh : m = 0 ∨ 2 * (x % 2 ^ n) ≤ 2 ^ n := by
      rcases hm with h | h
      · exact Or.inl h
      · exact Or.inr (goesUp_high _ _ _ _ h hu)
    simp only [cond_false]
    generalize x / 2 ^ n * 2 ^ n = a at *
    generalize x % 2 ^ n = l at *
    generalize (2 : Int) ^ n = P at *
    omega
  · have hh := goesUp_low _ _ _ _ l0 hp hm hu
    simp only [cond_true]
    rw [Int.add_mul, Int.one_mul]
    generalize x / 2 ^ n * 2 ^ n = a at *
    generalize x % 2 ^ n = l at *
    generalize (2 : Int) ^ n = P at *
    omega

theorem rnd_mono (x y : Int) (n : Nat) (m : Int) (hm : m = 0 ∨ m = 1 ∨ m = 2) (h : x ≤ y) : rnd x n m ≤ rnd y n m := by
  have hp := pow_pos2 n
  have hq := Int.ediv_le_ediv hp h
  have a1 : rnd x n m ≤ x / 2 ^ n + 1 := by unfold rnd; cases goesUp m (x / 2 ^ n) (x % 2 ^ n) (2 ^ n) <;> simp only [cond_true, cond_false] <;> omega
  have b0 : y / 2 ^ n ≤ rnd y n m := by unfold rnd; cases goesUp m (y / 2 ^ n) (y % 2 ^ n) (2 ^ n) <;> simp only [cond_true, cond_false] <;> omega
  by_cases e : x / 2 ^ n = y / 2 ^ n
  · have ex := split_of x n
    have ey := split_of y n
    have hl : x % 2 ^ n ≤ y % 2 ^ n := by rw [e] at ex; omega
    unfold rnd
    rw [e]
    cases hu : goesUp m (y / 2 ^ n) (x % 2 ^ n) (2 ^ n)
    · cases goesUp m (y / 2 ^ n) (y % 2 ^ n) (2 ^ n) <;> simp only [cond_true, cond_false] <;> omega
    · rw [goesUp_mono _ _ _ _ _ hm hl hu]
      exact Int.le_refl _
  · omega

theorem rnd_mul (x : Int) (n : Nat) (m : Int) (hm : m = 0 ∨ m = 1 ∨ m = 2) : rnd (x * 2 ^ n) n m = x := by
  have hp := pow_pos2 n
  have e1 : x * 2 ^ n / 2 ^ n = x := Int.mul_ediv_cancel _ (Int.ne_of_gt hp)
  have e2 : x * 2 ^ n % 2 ^ n = 0 := Int.mul_emod_left _ _
  unfold rnd
  rw [e1, e2]
  cases hu : goesUp m x 0 (2 ^ n)
  · rfl
  · have := goesUp_low _ _ _ _ (Int.le_refl 0) hp hm hu
    omega

theorem rnd_two (x : Int) (s t : Nat) : rnd (rnd x s 0) t 0 = rnd x (s + t) 0 := by
  have h : ∀ y : Int, ∀ n : Nat, rnd y n 0 = y / 2 ^ n := fun y n => by simp [rnd, goesUp]
  rw [h, h, h, Int.pow_add]
  exact Int.ediv_ediv_of_nonneg (Int.le_of_lt (pow_pos2 s))

theorem rnd_bd (x : Int) (n : Nat) (m : Int) (h0 : -9223372036854775808 ≤ x) (h1 : x ≤ 9223372036854775807) :
    -9223372036854775808 ≤ rnd x n m ∧ rnd x n m ≤ 9223372036854775807 := by
  have b := div_pow_bd x n h0 h1
  unfold rnd
  cases hu : goesUp m (x / 2 ^ n) (x % 2 ^ n) (2 ^ n)
  · exact b
  · have := up_bd x n h0 h1 m hu
    simp only [cond_true]
    omega

theorem tmod31_bd (x : Int) : -30 ≤ x.tmod 31 ∧ x.tmod 31 ≤ 30 := by
  rw [Int.tmod_eq_emod]
  by_cases h : 0 ≤ x ∨ (31 : Int) ∣ x
  · rw [if_pos h]; omega
  · rw [if_neg h]
    have : (31 : Int).natAbs = 31 := rfl
    omega

theorem tmod3_bd (x : Int) : -2 ≤ x.tmod 3 ∧ x.tmod 3 ≤ 2 := by
  rw [Int.tmod_eq_emod]
  by_cases h : 0 ≤ x ∨ (3 : Int) ∣ x
  · rw [if_pos h]; omega
  · rw [if_neg h]
    have : (3 : Int).natAbs = 3 := rfl
    omega

end Go.Proofs.Ytkbfniogannlhaa
