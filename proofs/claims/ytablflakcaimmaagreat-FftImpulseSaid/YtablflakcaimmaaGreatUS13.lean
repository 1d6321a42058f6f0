import Derived.Test.YtablflakcaimmaaGreatUS4
namespace Go.Proofs.YtablflakcaimmaaGreat
section
def arcN : Nat → Nat → Nat → Nat → Nat
 | 0, _, _, _ => 0
 | f + 1, n, p, d => if p = 0 then 0 else p / d - arcN f n (p / n / n) (d + 2)
def arcOf (n : Nat) : Nat := arcN 40 n (72057594037927936 / n) 1
theorem arcN_zero (f n d : Nat) : arcN f n 0 d = 0 := by
 cases f with
 | zero => rfl
 | succ f => simp [arcN]
end
section
def arcP (n : Nat) : Nat → Nat
 | 0 => 72057594037927936 / n
 | j + 1 => arcP n j / n / n
def arcM (n j : Nat) : Nat := arcP n j / (2 * j + 1)
def arcT (n j : Nat) : Int := if j % 2 = 1 then -(arcM n j : Int) else (arcM n j : Int)
def arcS (n : Nat) : Nat → Int
 | 0 => 0
 | k + 1 => arcS n k + arcT n k
theorem arcP_le (n j : Nat) (h : 2 ≤ n) : arcP n (j + 1) * 4 ≤ arcP n j := by
 rw [arcP, Nat.div_div_eq_div_mul]
 have h1 : 2 * 2 ≤ n * n := Nat.mul_le_mul h h
 have h2 := Nat.div_mul_le_self (arcP n j) (n * n)
 have h3 : arcP n j / (n * n) * 4 ≤ arcP n j / (n * n) * (n * n) := Nat.mul_le_mul_left _ h1
 omega
theorem arcP_bd (n j : Nat) (h : 2 ≤ n) : arcP n j * 4 ^ j ≤ 36028797018963968 := by
 induction j with
 | zero =>
   rw [arcP, Nat.pow_zero, Nat.mul_one]
   exact Nat.div_le_div_left h (by decide)
 | succ j ih =>
   have h1 := arcP_le n j h
   have h2 : arcP n (j + 1) * 4 ^ (j + 1) = arcP n (j + 1) * 4 * 4 ^ j := by rw [Nat.pow_succ, Nat.mul_assoc, Nat.mul_comm (4 ^ j) 4]
   have h3 : arcP n (j + 1) * 4 * 4 ^ j ≤ arcP n j * 4 ^ j := Nat.mul_le_mul_right _ h1
   omega
theorem arcP_28 (n : Nat) (h : 2 ≤ n) : arcP n 28 = 0 := by
 have h1 := arcP_bd n 28 h
 have e : (4 : Nat) ^ 28 = 72057594037927936 := by decide
 rw [e] at h1
 omega
theorem arcP_top (n j : Nat) (h : 2 ≤ n) : arcP n j ≤ 36028797018963968 := by
 induction j with
 | zero => have := arcP_bd n 0 h; simpa using this
 | succ j ih => have := arcP_le n j h; omega
theorem arcP_zero (n j k : Nat) (h : 2 ≤ n) (hj : j ≤ k) (h0 : arcP n j = 0) : arcP n k = 0 := by
 induction k with
 | zero => rw [show j = 0 by omega] at h0; exact h0
 | succ k ih =>
   by_cases e : j = k + 1
   ·rw [← e]; exact h0
   ·have := ih (by omega)
    have := arcP_le n k h
    omega
theorem arcP_live (n j : Nat) (h : 2 ≤ n) (h0 : 0 < arcP n j) : j < 28 := by
 by_cases hj : j < 28
 ·exact hj
 ·have := arcP_zero n 28 j h (by omega) (arcP_28 n h)
  omega
theorem arcM_le (n j : Nat) (h : 2 ≤ n) : arcM n (j + 1) ≤ arcM n j := by
 have h1 := arcP_le n j h
 unfold arcM
 exact Nat.le_trans (Nat.div_le_div_right (c := 2 * (j + 1) + 1) (show arcP n (j + 1) ≤ arcP n j by omega)) (Nat.div_le_div_left (by omega) (by omega))
theorem arcN_le (f n p d : Nat) : arcN f n p d ≤ p / d := by
 cases f with
 | zero => simp [arcN]
 | succ f =>
   rw [arcN]
   split
   ·exact Nat.zero_le _
   ·exact Nat.sub_le _ _
theorem arcN_succ (f n j : Nat) (h : 2 ≤ n) : (arcN (f + 1) n (arcP n j) (2 * j + 1) : Int) = (arcM n j : Int) - (arcN f n (arcP n (j + 1)) (2 * (j + 1) + 1) : Int) := by
 have hl := arcN_le f n (arcP n (j + 1)) (2 * (j + 1) + 1)
 have hm := arcM_le n j h
 rw [arcN]
 split
 ·rename_i h0
  have h1 : arcP n (j + 1) = 0 := arcP_zero n j (j + 1) h (by omega) h0
  rw [h1, arcN_zero, arcM, h0]
  simp
 ·have e : arcP n (j + 1) = arcP n j / n / n := rfl
  rw [← e, show 2 * j + 1 + 2 = 2 * (j + 1) + 1 by omega, arcM]
  rw [arcM, arcM] at hm
  omega
theorem arc_rest (n k f : Nat) (h : 2 ≤ n) : arcS n k + (if k % 2 = 1 then -(arcN f n (arcP n k) (2 * k + 1) : Int) else (arcN f n (arcP n k) (2 * k + 1) : Int)) = (arcN (f + k) n (arcP n 0) 1 : Int) := by
 induction k generalizing f with
 | zero => simp [arcS]
 | succ k ih =>
   have e := arcN_succ f n k h
   have i := ih (f + 1)
   rw [show f + (k + 1) = f + 1 + k by omega, ← i, e, arcS, arcT]
   by_cases hk : k % 2 = 1
   ·rw [if_pos hk, if_neg (by omega), if_pos hk]; omega
   ·rw [if_neg hk, if_pos (by omega), if_neg hk]; omega
theorem arcS_all (n k : Nat) (h : 2 ≤ n) (hk : k ≤ 40) (h0 : arcP n k = 0) : arcS n k = (arcOf n : Int) := by
 have r := arc_rest n k (40 - k) h
 rw [h0, arcN_zero, show 40 - k + k = 40 by omega] at r
 rw [arcOf, ← show arcP n 0 = 72057594037927936 / n from rfl, ← r]
 by_cases hk : k % 2 = 1
 ·rw [if_pos hk]; simp
 ·rw [if_neg hk]; simp
theorem arcS_bd (n k : Nat) (h : 2 ≤ n) : 0 ≤ arcS n k ∧ arcS n k ≤ 36028797018963968 := by
 have r1 := arc_rest n k 0 h
 have r := arc_rest n k 40 h
 have t := arcN_le (40 + k) n (arcP n 0) 1
 have t0 := arcP_top n 0 h
 have lk := arcN_le 40 n (arcP n k) (2 * k + 1)
 by_cases hk : k % 2 = 1
 ·rw [if_pos hk] at r1 r
  simp only [arcN] at r1
  have t1 := arcN_le (0 + k) n (arcP n 0) 1
  rw [Nat.div_one] at t1 t
  omega
 ·rw [if_neg hk] at r1 r
  simp only [arcN] at r1
  have t1 := arcN_le (0 + k) n (arcP n 0) 1
  rw [Nat.div_one] at t1 t
  omega
theorem arcM_top (n j : Nat) (h : 2 ≤ n) : arcM n j ≤ 36028797018963968 :=
 Nat.le_trans (Nat.div_le_self _ _) (arcP_top n j h)
end
end Go.Proofs.YtablflakcaimmaaGreat
