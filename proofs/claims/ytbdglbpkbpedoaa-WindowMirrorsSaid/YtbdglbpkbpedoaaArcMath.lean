/- Angles by series, as plain numbers: how an angle splits into that of the next number and of a far greater one, to 400. · The terms of an angle, one by one: their numbers, their sums, how they get less. -/
import Derived.Test.YtbdglbpkbpedoaaRows
namespace Go.Proofs.Ytbdglbpkbpedoaa

/-- The sum of the terms from p on, d the divisor's odd number: the first, less the sum of the rest. -/
def arcN : Nat → Nat → Nat → Nat → Nat
  | 0, _, _, _ => 0
  | f + 1, n, p, d => if p = 0 then 0 else p / d - arcN f n (p / n / n) (d + 2)

/-- The angle of n. -/
def arcOf (n : Nat) : Nat := arcN 40 n (72057594037927936 / n) 1

theorem arcN_zero (f n d : Nat) : arcN f n 0 d = 0 := by
  cases f with
  | zero => rfl
  | succ f => simp [arcN]

theorem arcN_one (f n p d : Nat) (h : p / n / n = 0) : arcN (f + 1) n p d = p / d := by
  rw [arcN]
  split
  · rename_i h0; rw [h0]; simp
  · rw [h, arcN_zero, Nat.sub_zero]

theorem arcN_two (f n p d : Nat) (h : p / n / n / n / n = 0) : arcN (f + 2) n p d = p / d - p / n / n / (d + 2) := by
  rw [arcN, arcN_one f n _ _ h]
  split
  · rename_i h0; rw [h0]; simp
  · rfl

theorem arc_huge (m : Nat) (h : 67108864 ≤ m) : arcOf m = 72057594037927936 / m := by
  rw [arcOf, arcN_one, Nat.div_one]
  rw [Nat.div_div_eq_div_mul, Nat.div_div_eq_div_mul]
  apply Nat.div_eq_of_lt
  exact Nat.lt_of_lt_of_le (by decide : 72057594037927936 < 67108864 * (67108864 * 67108864)) (Nat.mul_le_mul h (Nat.mul_le_mul h h))

theorem arc_big (n : Nat) (h : 8192 ≤ n) : arcOf n = 72057594037927936 / n - 72057594037927936 / n / n / n / 3 := by
  rw [arcOf, arcN_two, Nat.div_one]
  rw [Nat.div_div_eq_div_mul, Nat.div_div_eq_div_mul, Nat.div_div_eq_div_mul, Nat.div_div_eq_div_mul]
  apply Nat.div_eq_of_lt
  exact Nat.lt_of_lt_of_le (by decide : 72057594037927936 < 8192 * (8192 * (8192 * (8192 * 8192)))) (Nat.mul_le_mul h (Nat.mul_le_mul h (Nat.mul_le_mul h (Nat.mul_le_mul h h))))

/-- One split, as a Bool. -/
def splitB (n : Nat) : Bool :=
  let a := arcOf n
  let b := arcOf (n + 1)
  let c := arcOf (n * n + n + 1)
  Nat.ble b a && (Nat.ble a (b + c + 400) && Nat.ble (b + c) (a + 400))

def splitsB : Nat → Nat → Bool
  | 0, _ => true
  | k + 1, n => splitB n && splitsB k (n + 1)

theorem splitsB_spec : ∀ (k n m : Nat), splitsB k n = true → n ≤ m → m < n + k → splitB m = true
  | 0, n, m, _, h1, h2 => by omega
  | k + 1, n, m, h, h1, h2 => by
    rw [splitsB, Bool.and_eq_true] at h
    by_cases e : m = n
    · rw [e]; exact h.1
    · exact splitsB_spec k (n + 1) m h.2 (by omega) (by omega)

theorem splits_0 : splitsB 4096 2 = true := by decide +kernel
theorem splits_1 : splitsB 4096 4098 = true := by decide +kernel

/-- The quarter, and the four fifths' less another one. -/
theorem quarter_near : arcOf 2 + arcOf 3 ≤ 4 * arcOf 5 - arcOf 239 + 400 ∧ 4 * arcOf 5 - arcOf 239 ≤ arcOf 2 + arcOf 3 + 400 ∧ arcOf 239 ≤ 4 * arcOf 5 := by decide +kernel

/-- What the quotients of n, of the next number, and of n(n+1)+1 have to do with each other. -/
theorem quot_split (n a b c : Int) (h0 : 8192 ≤ n) (ha0 : a * n ≤ 72057594037927936) (ha1 : 72057594037927936 < (a + 1) * n)
    (hb0 : b * (n + 1) ≤ 72057594037927936) (hb1 : 72057594037927936 < (b + 1) * (n + 1))
    (hc0 : c * (n * n + n + 1) ≤ 72057594037927936) (hc1 : 72057594037927936 < (c + 1) * (n * n + n + 1)) : -2 ≤ a - b - c ∧ a - b - c ≤ 18 := by
  -- all over D = n (n+1) m
  have hn : 0 ≤ n := by omega
  obtain ⟨k, hk⟩ : ∃ k, n * (n + 1) = k := ⟨_, rfl⟩
  have hm : n * n + n + 1 = k + 1 := by rw [← hk, Int.mul_add, Int.mul_one]
  rw [hm] at hc0 hc1
  have k0 : 67108864 ≤ k := by
    have : (8192 : Int) * 8192 ≤ n * (n + 1) := Int.mul_le_mul h0 (by omega) (by decide) hn
    omega
  have kn : 0 ≤ k := by omega
  -- a D = a n (n+1) (k+1)
  have A0 : a * n * ((n + 1) * (k + 1)) ≤ 72057594037927936 * ((n + 1) * (k + 1)) := Int.mul_le_mul_of_nonneg_right ha0 (Int.mul_nonneg (by omega) (by omega))
  have A1 : 72057594037927936 * ((n + 1) * (k + 1)) ≤ (a + 1) * n * ((n + 1) * (k + 1)) := Int.mul_le_mul_of_nonneg_right (Int.le_of_lt ha1) (Int.mul_nonneg (by omega) (by omega))
  have B0 : b * (n + 1) * (n * (k + 1)) ≤ 72057594037927936 * (n * (k + 1)) := Int.mul_le_mul_of_nonneg_right hb0 (Int.mul_nonneg (by omega) (by omega))
  have B1 : 72057594037927936 * (n * (k + 1)) ≤ (b + 1) * (n + 1) * (n * (k + 1)) := Int.mul_le_mul_of_nonneg_right (Int.le_of_lt hb1) (Int.mul_nonneg (by omega) (by omega))
  have C0 : c * (k + 1) * k ≤ 72057594037927936 * k := Int.mul_le_mul_of_nonneg_right hc0 kn
  have C1 : 72057594037927936 * k ≤ (c + 1) * (k + 1) * k := Int.mul_le_mul_of_nonneg_right (Int.le_of_lt hc1) kn
  obtain ⟨D, hD⟩ : ∃ D, k * (k + 1) = D := ⟨_, rfl⟩
  have D0 : 4503599627370496 ≤ D := by
    have : (67108864 : Int) * 67108864 ≤ k * (k + 1) := Int.mul_le_mul k0 (by omega) (by decide) kn
    omega
  have eA : a * n * ((n + 1) * (k + 1)) = a * D := by rw [← hD, ← hk]; grind
  have eA1 : (a + 1) * n * ((n + 1) * (k + 1)) = (a + 1) * D := by rw [← hD, ← hk]; grind
  have eB : b * (n + 1) * (n * (k + 1)) = b * D := by rw [← hD, ← hk]; grind
  have eB1 : (b + 1) * (n + 1) * (n * (k + 1)) = (b + 1) * D := by rw [← hD, ← hk]; grind
  have eC : c * (k + 1) * k = c * D := by rw [← hD]; grind
  have eC1 : (c + 1) * (k + 1) * k = (c + 1) * D := by rw [← hD]; grind
  have eP : 72057594037927936 * ((n + 1) * (k + 1)) = 72057594037927936 * (n * (k + 1)) + 72057594037927936 * k + 72057594037927936 := by rw [← hk]; grind
  rw [eA] at A0
  rw [eA1] at A1
  rw [eB] at B0
  rw [eB1] at B1
  rw [eC] at C0
  rw [eC1] at C1
  rw [eP] at A0 A1
  have s1 : (a - b - c - 2) * D ≤ 72057594037927936 := by
    have : (a - b - c - 2) * D = a * D - (b + 1) * D - (c + 1) * D := by grind
    omega
  have s2 : 0 ≤ (a + 1 - b - c) * D := by
    have : (a + 1 - b - c) * D = (a + 1) * D - b * D - c * D := by grind
    omega
  constructor
  · by_cases h : -2 ≤ a - b - c
    · exact h
    · have : (a + 1 - b - c) * D ≤ -2 * D := Int.mul_le_mul_of_nonneg_right (by omega) (by omega)
      omega
  · by_cases h : a - b - c ≤ 18
    · exact h
    · have : 17 * D ≤ (a - b - c - 2) * D := Int.mul_le_mul_of_nonneg_right (by omega) (by omega)
      omega

theorem cube_near (n x y : Int) (h0 : 8192 ≤ n) (y0 : 0 ≤ y) (hx : x * (n * (n * n)) ≤ 72057594037927936) (hy : 72057594037927936 < (y + 1) * ((n + 1) * ((n + 1) * (n + 1)))) : x - y ≤ 100 := by
  by_cases h : x - y ≤ 100
  · exact h
  · exfalso
    obtain ⟨q, hq⟩ : ∃ q, n * n = q := ⟨_, rfl⟩
    have q0 : 67108864 ≤ q := by
      have : (8192 : Int) * 8192 ≤ n * n := Int.mul_le_mul h0 h0 (by decide) (by omega)
      omega
    have qn : 3 * n + 1 ≤ q := by
      have : 8192 * n ≤ n * n := Int.mul_le_mul_of_nonneg_right h0 (by omega)
      omega
    have nq : (8192 : Int) * 67108864 ≤ n * q := Int.mul_le_mul h0 q0 (by decide) (by omega)
    rw [hq] at hx
    have e : (y + 1) * ((n + 1) * ((n + 1) * (n + 1))) = (y + 1) * (n * q) + (y + 1) * (3 * q + 3 * n + 1) := by rw [← hq]; grind
    rw [e] at hy
    have h1 : (y + 101) * (n * q) ≤ x * (n * q) := Int.mul_le_mul_of_nonneg_right (by omega) (by omega)
    have h2 : (y + 1) * (3 * q + 3 * n + 1) ≤ (y + 1) * (4 * q) := Int.mul_le_mul_of_nonneg_left (by omega) (by omega)
    have h3 : (y + 101) * (n * q) = (y + 1) * (n * q) + 100 * n * q := by grind
    have h4 : 100 * n * q < (y + 1) * 4 * q := by
      have : (y + 1) * (4 * q) = (y + 1) * 4 * q := by grind
      omega
    have h5 : 100 * n < (y + 1) * 4 := Int.lt_of_mul_lt_mul_right h4 (by omega)
    have h6 : 204800 * (n * q) ≤ (y + 101) * (n * q) := Int.mul_le_mul_of_nonneg_right (by omega) (by omega)
    omega

theorem mul_le_cast {a n P : Nat} (h : a * n ≤ P) : (a : Int) * (n : Int) ≤ (P : Int) := by rw [← Int.natCast_mul]; exact Int.ofNat_le.2 h
theorem lt_mul_cast {a n P : Nat} (h : P < (a + 1) * n) : (P : Int) < ((a : Int) + 1) * (n : Int) := by
  have := Int.ofNat_lt.2 h
  rw [Int.natCast_mul, Int.natCast_add] at this
  exact this

theorem div_lo (P n : Nat) (_h : 0 < n) : P / n * n ≤ P := Nat.div_mul_le_self P n
theorem div_hi (P n : Nat) (h : 0 < n) : P < (P / n + 1) * n := by
  have := Nat.lt_div_mul_add h (a := P)
  rw [Nat.add_mul, Nat.one_mul]
  omega

theorem split_big (n : Nat) (h : 8192 ≤ n) (h1 : n ≤ 524289) : splitB n = true := by
  have ea := arc_big n h
  have eb := arc_big (n + 1) (by omega)
  have mm : 67108864 ≤ n * n + n + 1 := by
    have : 8192 * 8192 ≤ n * n := Nat.mul_le_mul h h
    omega
  have mx : n * n + n + 1 ≤ 274880266240 := by
    have : n * n ≤ 524289 * 524289 := Nat.mul_le_mul h1 h1
    omega
  have ec := arc_huge (n * n + n + 1) mm
  obtain ⟨a, ha⟩ : ∃ a, 72057594037927936 / n = a := ⟨_, rfl⟩
  obtain ⟨b, hb⟩ : ∃ b, 72057594037927936 / (n + 1) = b := ⟨_, rfl⟩
  obtain ⟨c, hc⟩ : ∃ c, 72057594037927936 / (n * n + n + 1) = c := ⟨_, rfl⟩
  have a0 := div_lo 72057594037927936 n (by omega)
  have a1 := div_hi 72057594037927936 n (by omega)
  have b0 := div_lo 72057594037927936 (n + 1) (by omega)
  have b1 := div_hi 72057594037927936 (n + 1) (by omega)
  have c0 := div_lo 72057594037927936 (n * n + n + 1) (by omega)
  have c1 := div_hi 72057594037927936 (n * n + n + 1) (by omega)
  have cb : 262137 ≤ 72057594037927936 / (n * n + n + 1) := (Nat.le_div_iff_mul_le (by omega)).2 (by omega)
  have x0 := div_lo 72057594037927936 (n * n * n) (Nat.mul_pos (Nat.mul_pos (by omega) (by omega)) (by omega))
  have y1 := div_hi 72057594037927936 ((n + 1) * (n + 1) * (n + 1)) (Nat.mul_pos (Nat.mul_pos (by omega) (by omega)) (by omega))
  have xy : 72057594037927936 / ((n + 1) * (n + 1) * (n + 1)) ≤ 72057594037927936 / (n * n * n) :=
    Nat.div_le_div_left (Nat.mul_le_mul (Nat.mul_le_mul (by omega) (by omega)) (by omega)) (Nat.mul_pos (Nat.mul_pos (by omega) (by omega)) (by omega))
  rw [Nat.div_div_eq_div_mul 72057594037927936 n n, Nat.div_div_eq_div_mul 72057594037927936 (n * n) n] at ea
  rw [Nat.div_div_eq_div_mul 72057594037927936 (n + 1) (n + 1), Nat.div_div_eq_div_mul 72057594037927936 ((n + 1) * (n + 1)) (n + 1)] at eb
  obtain ⟨x, hx⟩ : ∃ x, 72057594037927936 / (n * n * n) = x := ⟨_, rfl⟩
  obtain ⟨y, hy⟩ : ∃ y, 72057594037927936 / ((n + 1) * (n + 1) * (n + 1)) = y := ⟨_, rfl⟩
  rw [ha] at a0 a1 ea
  rw [hb] at b0 b1 eb
  rw [hc] at c0 c1 ec cb
  rw [hx] at x0 ea xy
  rw [hy] at y1 eb xy
  have en : ((n + 1 : Nat) : Int) = (n : Int) + 1 := by simp
  have em : ((n * n + n + 1 : Nat) : Int) = (n : Int) * n + n + 1 := by simp
  have e3 : ((n * n * n : Nat) : Int) = (n : Int) * (n * n) := by rw [Nat.mul_assoc]; simp
  have e4 : (((n + 1) * (n + 1) * (n + 1) : Nat) : Int) = ((n : Int) + 1) * (((n : Int) + 1) * ((n : Int) + 1)) := by rw [Nat.mul_assoc]; simp
  have Q := quot_split n a b c (by omega) (mul_le_cast a0) (lt_mul_cast a1) (by rw [← en]; exact mul_le_cast b0) (by rw [← en]; exact lt_mul_cast b1) (by rw [← em]; exact mul_le_cast c0) (by rw [← em]; exact lt_mul_cast c1)
  have C := cube_near n x y (by omega) (by omega) (by rw [← e3]; exact mul_le_cast x0) (by rw [← e4]; exact lt_mul_cast y1)
  clear e3 e4 em en a0 a1 b0 b1 c0 c1 x0 y1
  have xa : x ≤ a := by
    rw [← hx, ← ha]
    exact Nat.div_le_div_left (by rw [Nat.mul_assoc]; exact Nat.le_mul_of_pos_right n (Nat.mul_pos (by omega) (by omega))) (by omega)
  have yb : y ≤ b := by
    rw [← hy, ← hb]
    exact Nat.div_le_div_left (by rw [Nat.mul_assoc]; exact Nat.le_mul_of_pos_right (n + 1) (Nat.mul_pos (by omega) (by omega))) (by omega)
  simp only [splitB, ea, eb, ec, Bool.and_eq_true, Nat.ble_eq]
  omega

theorem split_all (n : Nat) (h0 : 2 ≤ n) (h1 : n ≤ 524289) : splitB n = true := by
  by_cases h : n < 4098
  · exact splitsB_spec 4096 2 n splits_0 h0 h
  · by_cases h2 : n < 8194
    · exact splitsB_spec 4096 4098 n splits_1 (by omega) h2
    · exact split_big n (by omega) h1

theorem split_spec (n : Nat) (h0 : 2 ≤ n) (h1 : n ≤ 524289) : arcOf (n + 1) ≤ arcOf n ∧ arcOf n ≤ arcOf (n + 1) + arcOf (n * n + n + 1) + 400 ∧ arcOf (n + 1) + arcOf (n * n + n + 1) ≤ arcOf n + 400 := by
  have h := split_all n h0 h1
  simp only [splitB, Bool.and_eq_true, Nat.ble_eq] at h
  exact h

end Go.Proofs.Ytbdglbpkbpedoaa

namespace Go.Proofs.Ytbdglbpkbpedoaa

/-- p of n, and a place. -/
def arcP (n : Nat) : Nat → Nat
  | 0 => 72057594037927936 / n
  | j + 1 => arcP n j / n / n

/-- The term's distance from 0. -/
def arcM (n j : Nat) : Nat := arcP n j / (2 * j + 1)

/-- The term. -/
def arcT (n j : Nat) : Int := if j % 2 = 1 then -(arcM n j : Int) else (arcM n j : Int)

/-- The first k terms together. -/
def arcS (n : Nat) : Nat → Int
  | 0 => 0
  | k + 1 => arcS n k + arcT n k

theorem arcP_le (n j : Nat) (h : 2 ≤ n) : arcP n (j + 1) * 4 ≤ arcP n j := by
  rw [arcP, Nat.div_div_eq_div_mul]
  have h1 : 2 * 2 ≤ n * n := Nat.mul_le_mul h h
  have h2 := Nat.div_mul_le_self (arcP n j) (n * n)
  have h3 : arcP n j / (n * n) * 4 ≤ arcP n j / (n * n) * (n * n) := Nat.mul_le_mul_left _ h1
  omega

theorem arcP_bd (n j : Nat) (h : 2 ≤ n) : arcP n j * 4 ^ j ≤ 36028797018963968 := by
  induction j with
  | zero =>
    rw [arcP, Nat.pow_zero, Nat.mul_one]
    exact Nat.div_le_div_left h (by decide)
  | succ j ih =>
    have h1 := arcP_le n j h
    have h2 : arcP n (j + 1) * 4 ^ (j + 1) = arcP n (j + 1) * 4 * 4 ^ j := by rw [Nat.pow_succ, Nat.mul_assoc, Nat.mul_comm (4 ^ j) 4]
    have h3 : arcP n (j + 1) * 4 * 4 ^ j ≤ arcP n j * 4 ^ j := Nat.mul_le_mul_right _ h1
    omega

theorem arcP_28 (n : Nat) (h : 2 ≤ n) : arcP n 28 = 0 := by
  have h1 := arcP_bd n 28 h
  have e : (4 : Nat) ^ 28 = 72057594037927936 := by decide
  rw [e] at h1
  omega

theorem arcP_top (n j : Nat) (h : 2 ≤ n) : arcP n j ≤ 36028797018963968 := by
  induction j with
  | zero => have := arcP_bd n 0 h; simpa using this
  | succ j ih => have := arcP_le n j h; omega

theorem arcP_zero (n j k : Nat) (h : 2 ≤ n) (hj : j ≤ k) (h0 : arcP n j = 0) : arcP n k = 0 := by
  induction k with
  | zero => rw [show j = 0 by omega] at h0; exact h0
  | succ k ih =>
    by_cases e : j = k + 1
    · rw [← e]; exact h0
    · have := ih (by omega)
      have := arcP_le n k h
      omega

theorem arcP_live (n j : Nat) (h : 2 ≤ n) (h0 : 0 < arcP n j) : j < 28 := by
  by_cases hj : j < 28
  · exact hj
  · have := arcP_zero n 28 j h (by omega) (arcP_28 n h)
    omega

theorem arcM_le (n j : Nat) (h : 2 ≤ n) : arcM n (j + 1) ≤ arcM n j := by
  have h1 := arcP_le n j h
  unfold arcM
  exact Nat.le_trans (Nat.div_le_div_right (c := 2 * (j + 1) + 1) (show arcP n (j + 1) ≤ arcP n j by omega)) (Nat.div_le_div_left (by omega) (by omega))

theorem arcN_le (f n p d : Nat) : arcN f n p d ≤ p / d := by
  cases f with
  | zero => simp [arcN]
  | succ f =>
    rw [arcN]
    split
    · exact Nat.zero_le _
    · exact Nat.sub_le _ _

theorem arcN_succ (f n j : Nat) (h : 2 ≤ n) : (arcN (f + 1) n (arcP n j) (2 * j + 1) : Int) = (arcM n j : Int) - (arcN f n (arcP n (j + 1)) (2 * (j + 1) + 1) : Int) := by
  have hl := arcN_le f n (arcP n (j + 1)) (2 * (j + 1) + 1)
  have hm := arcM_le n j h
  rw [arcN]
  split
  · rename_i h0
    have h1 : arcP n (j + 1) = 0 := arcP_zero n j (j + 1) h (by omega) h0
    rw [h1, arcN_zero, arcM, h0]
    simp
  · have e : arcP n (j + 1) = arcP n j / n / n := rfl
    rw [← e, show 2 * j + 1 + 2 = 2 * (j + 1) + 1 by omega, arcM]
    rw [arcM, arcM] at hm
    omega

/-- What is left behind k terms. -/
theorem arc_rest (n k f : Nat) (h : 2 ≤ n) : arcS n k + (if k % 2 = 1 then -(arcN f n (arcP n k) (2 * k + 1) : Int) else (arcN f n (arcP n k) (2 * k + 1) : Int)) = (arcN (f + k) n (arcP n 0) 1 : Int) := by
  induction k generalizing f with
  | zero => simp [arcS]
  | succ k ih =>
    have e := arcN_succ f n k h
    have i := ih (f + 1)
    rw [show f + (k + 1) = f + 1 + k by omega, ← i, e, arcS, arcT]
    by_cases hk : k % 2 = 1
    · rw [if_pos hk, if_neg (by omega), if_pos hk]; omega
    · rw [if_neg hk, if_pos (by omega), if_neg hk]; omega

theorem arcS_all (n k : Nat) (h : 2 ≤ n) (hk : k ≤ 40) (h0 : arcP n k = 0) : arcS n k = (arcOf n : Int) := by
  have r := arc_rest n k (40 - k) h
  rw [h0, arcN_zero, show 40 - k + k = 40 by omega] at r
  rw [arcOf, ← show arcP n 0 = 72057594037927936 / n from rfl, ← r]
  by_cases hk : k % 2 = 1
  · rw [if_pos hk]; simp
  · rw [if_neg hk]; simp

/-- The angle is not more than its first term, and not less than its first two. -/
theorem arc_first (n : Nat) (h : 2 ≤ n) : (arcOf n : Int) ≤ arcT n 0 ∧ arcT n 0 + arcT n 1 ≤ (arcOf n : Int) := by
  have e := arcN_succ 39 n 0 h
  have hl := arcN_le 39 n (arcP n 1) (2 * 1 + 1)
  have a : arcT n 0 = (arcM n 0 : Int) := by simp [arcT]
  have b : arcT n 1 = -(arcM n 1 : Int) := by simp [arcT]
  rw [show (2 * 0 + 1) = 1 from rfl, show arcP n 0 = 72057594037927936 / n from rfl, show (39 + 1) = 40 from rfl, ← arcOf] at e
  rw [a, b]
  have c : arcM n 1 = arcP n 1 / (2 * 1 + 1) := rfl
  omega

/-- The sums on the way are bounded. -/
theorem arcS_bd (n k : Nat) (h : 2 ≤ n) : 0 ≤ arcS n k ∧ arcS n k ≤ 36028797018963968 := by
  have r1 := arc_rest n k 0 h
  have r := arc_rest n k 40 h
  have t := arcN_le (40 + k) n (arcP n 0) 1
  have t0 := arcP_top n 0 h
  have lk := arcN_le 40 n (arcP n k) (2 * k + 1)
  by_cases hk : k % 2 = 1
  · rw [if_pos hk] at r1 r
    simp only [arcN] at r1
    have t1 := arcN_le (0 + k) n (arcP n 0) 1
    rw [Nat.div_one] at t1 t
    omega
  · rw [if_neg hk] at r1 r
    simp only [arcN] at r1
    have t1 := arcN_le (0 + k) n (arcP n 0) 1
    rw [Nat.div_one] at t1 t
    omega

theorem arcM_top (n j : Nat) (h : 2 ≤ n) : arcM n j ≤ 36028797018963968 :=
  Nat.le_trans (Nat.div_le_self _ _) (arcP_top n j h)

end Go.Proofs.Ytbdglbpkbpedoaa
