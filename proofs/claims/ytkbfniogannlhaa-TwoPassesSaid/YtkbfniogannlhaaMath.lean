/- Plain facts on whole numbers, with no Go in sight: masks, powers of 2, quotients rounded. -/
import Derived.Laws.Entries
import Derived.IntWalk
namespace Go.Proofs.Ytkbfniogannlhaa
open Go.RowKit

theorem pow_pos2 (n : Nat) : (0 : Int) < 2 ^ n := Int.pow_pos (by decide)

theorem pow_le62 (n : Nat) (h : n ≤ 62) : (2 : Int) ^ n ≤ 4611686018427387904 := by
  have h1 : (2 : Nat) ^ n ≤ 2 ^ 62 := Nat.pow_le_pow_right (by decide) h
  have h2 : ((2 ^ n : Nat) : Int) ≤ ((2 ^ 62 : Nat) : Int) := Int.ofNat_le.2 h1
  rw [Int.natCast_pow] at h2
  simpa using h2

theorem pow_le61 (n : Nat) (h : n ≤ 61) : (2 : Int) ^ n ≤ 2305843009213693952 := by
  have := pow_le62 (n + 1) (by omega)
  rw [Int.pow_succ] at this
  omega

theorem div_pow_succ (x : Int) (k : Nat) : x / 2 ^ (k + 1) = x / 2 ^ k / 2 := by
  rw [Int.pow_succ]; exact (Int.ediv_ediv_of_nonneg (Int.le_of_lt (pow_pos2 k))).symm

theorem wrap_pow (n : Nat) (h : n ≤ 62) : wrap64 ((2 : Int) ^ n) = 2 ^ n := by
  have := pow_le62 n h
  have := pow_pos2 n
  exact IntWalk.wrap64_in _ (by omega)

theorem wrap_pow_pred (n : Nat) (h : n ≤ 62) : wrap64 ((2 : Int) ^ n - 1) = 2 ^ n - 1 := by
  have := pow_le62 n h
  have := pow_pos2 n
  exact IntWalk.wrap64_in _ (by omega)

theorem bits_mask (x : Int) (n : Nat) (h : n ≤ 62) : bits .and .i64 x ((2 : Int) ^ n - 1) = x % 2 ^ n := by
  have hp := pow_pos2 n
  have hl := pow_le62 n h
  have hnat : (2 : Nat) ^ n ≤ 2 ^ 62 := Nat.pow_le_pow_right (by decide) h
  have hpn : 0 < (2 : Nat) ^ n := Nat.pow_pos (by decide)
  have e1 : (BitVec.ofInt 64 ((2 : Int) ^ n - 1)).toNat = 2 ^ n - 1 := by
    rw [BitVec.toNat_ofInt]
    have : ((2 : Int) ^ n - 1) = (((2 : Nat) ^ n - 1 : Nat) : Int) := by
      rw [Int.ofNat_sub hpn, Int.natCast_pow]; rfl
    rw [this, ← Int.natCast_emod, Int.toNat_natCast]
    exact Nat.mod_eq_of_lt (by omega)
  have e2 : ((BitVec.ofInt 64 x).toNat : Int) = x % 18446744073709551616 := by
    rw [BitVec.toNat_ofInt, Int.toNat_of_nonneg (Int.emod_nonneg _ (by decide))]
    rfl
  have e3 : (((BitVec.ofInt 64 x &&& BitVec.ofInt 64 ((2 : Int) ^ n - 1)).toNat : Nat) : Int) = x % 2 ^ n := by
    rw [BitVec.toNat_and, e1, Nat.and_two_pow_sub_one_eq_mod, Int.natCast_emod, e2, Int.natCast_pow]
    refine Int.emod_emod_of_dvd x ?_
    exact ⟨2 ^ (64 - n), by rw [show ((2 : Nat) : Int) = 2 from rfl, ← Int.pow_add, show n + (64 - n) = 64 by omega]; rfl⟩
  have hlo := Int.emod_nonneg x (Int.ne_of_gt hp)
  have hhi := Int.emod_lt_of_pos x hp
  show IntKind.i64.wrap ((BitVec.ofInt 64 x &&& BitVec.ofInt 64 ((2 : Int) ^ n - 1)).toNat : Int) = _
  rw [e3]
  exact IntWalk.i64_in _ (by omega)

theorem div_bd (x d : Int) (h0 : -9223372036854775808 ≤ x) (h1 : x ≤ 9223372036854775807) (hd : 1 ≤ d) :
    -9223372036854775808 ≤ x / d ∧ x / d ≤ 9223372036854775807 := by
  constructor
  · refine (Int.le_ediv_iff_mul_le (by omega)).2 ?_
    have h2 : (9223372036854775808 : Int) * 1 ≤ 9223372036854775808 * d := Int.mul_le_mul_of_nonneg_left hd (by decide)
    have h3 : (-9223372036854775808 : Int) * d = - (9223372036854775808 * d) := by rw [Int.neg_mul]
    omega
  · by_cases hx : 0 ≤ x
    · have := Int.ediv_le_self d hx
      omega
    · have : x / d < 0 := Int.ediv_neg_of_neg_of_pos (by omega) (by omega)
      omega

theorem tdiv_low (x d : Int) (h0 : -9223372036854775808 ≤ x) (hx : x < 0) (hd : 1 ≤ d) (hm : x.tmod d < 0) : wrap64 (x.tdiv d - 1) = x / d := by
  have b := div_bd x d h0 (by omega) hd
  have e : x.tdiv d = x / d + 1 := by
    rw [Int.tdiv_eq_ediv]
    by_cases hv : d ∣ x
    · rw [Int.tmod_eq_emod, if_pos (Or.inr hv), Int.emod_eq_zero_of_dvd hv] at hm
      omega
    · rw [if_neg (by intro h; rcases h with h | h; exact absurd h (by omega); exact hv h), Int.sign_eq_one_of_pos (by omega)]
  rw [e, show x / d + 1 - 1 = x / d by omega]
  exact IntWalk.wrap64_in _ b

theorem tdiv_high (x d : Int) (hx : x < 0) (hd : 1 ≤ d) (hm : 0 ≤ x.tmod d) : x.tdiv d = x / d := by
  rw [Int.tdiv_eq_ediv]
  by_cases hv : d ∣ x
  · rw [if_pos (Or.inr hv), Int.add_zero]
  · rw [Int.tmod_eq_emod, if_neg (by intro h; rcases h with h | h; exact absurd h (by omega); exact hv h)] at hm
    have := Int.emod_lt_of_pos x (show 0 < d by omega)
    omega

theorem tmod_bd (x d : Int) (hx : x < 0) (hd : 1 ≤ d) : x.tmod d ≤ 0 ∧ x.tdiv d * d ≤ 0 := by
  have hq : x / d < 0 := Int.ediv_neg_of_neg_of_pos hx (by omega)
  have hr := Int.emod_lt_of_pos x (show 0 < d by omega)
  constructor
  · rw [Int.tmod_eq_emod]
    by_cases hv : d ∣ x
    · rw [if_pos (Or.inr hv), Int.emod_eq_zero_of_dvd hv]; omega
    · rw [if_neg (by intro h; rcases h with h | h; exact absurd h (by omega); exact hv h)]; omega
  · have : x.tdiv d ≤ 0 := by
      rw [Int.tdiv_eq_ediv]
      by_cases hv : d ∣ x
      · rw [if_pos (Or.inr hv)]; omega
      · rw [if_neg (by intro h; rcases h with h | h; exact absurd h (by omega); exact hv h), Int.sign_eq_one_of_pos (by omega)]; omega
    have := Int.mul_le_mul_of_nonneg_right this (show 0 ≤ d by omega)
    omega

theorem tdiv_mul_wrap (x d : Int) (h0 : -9223372036854775808 ≤ x) (hx : x < 0) (hd : 1 ≤ d) : wrap64 (x.tdiv d * d) = x - x.tmod d := by
  have b := tmod_bd x d hx hd
  have e := Int.mul_tdiv_add_tmod x d
  rw [Int.mul_comm] at e
  rw [IntWalk.wrap64_in _ (by omega)]
  omega

theorem tmod2_eq (x : Int) : (x.tmod 2 == 0) = decide (x % 2 = 0) := by
  rw [Int.tmod_eq_emod, Bool.eq_iff_iff]
  simp only [beq_iff_eq, decide_eq_true_eq]
  by_cases hv : 0 ≤ x ∨ (2 : Int) ∣ x
  · rw [if_pos hv]; omega
  · rw [if_neg hv]; omega

theorem half_even (x : Int) (h : (x.tmod 2 == 0) = true) : x.tdiv 2 = x / 2 := by
  rw [tmod2_eq] at h
  have h' : x % 2 = 0 := of_decide_eq_true h
  rw [Int.tdiv_eq_ediv, if_pos (Or.inr (by omega)), Int.add_zero]

theorem half_odd (x : Int) (h0 : -9223372036854775808 ≤ x) (hx : x ≤ 0) (h : (x.tmod 2 == 0) = false) : wrap64 (x.tdiv 2 - 1) = x / 2 := by
  rw [tmod2_eq] at h
  have h' : ¬ x % 2 = 0 := of_decide_eq_false h
  have e : x.tdiv 2 = x / 2 + 1 := by
    rw [Int.tdiv_eq_ediv, if_neg (by omega)]
    rfl
  rw [e, show x / 2 + 1 - 1 = x / 2 by omega]
  exact IntWalk.wrap64_in _ (by omega)

/-- What is left of a quotient, of a divisor v: does it go up, if the even one is taken? -/
def evenUp (d l v : Int) : Bool := if l = v - l then (d.tmod 2 != 0) else decide (v - l < l)

/-- Does what is left go up, in a mode? -/
def goesUp (mode d l v : Int) : Bool := if mode = 0 then false else if mode = 1 then decide (v - l ≤ l) else evenUp d l v

/-- A number divided by 2^n, rounded in a mode. -/
def rnd (x : Int) (n : Nat) (mode : Int) : Int := bif goesUp mode (x / 2 ^ n) (x % 2 ^ n) (2 ^ n) then x / 2 ^ n + 1 else x / 2 ^ n

theorem div_pow_bd (x : Int) (n : Nat) (h0 : -9223372036854775808 ≤ x) (h1 : x ≤ 9223372036854775807) :
    -9223372036854775808 ≤ x / 2 ^ n ∧ x / 2 ^ n ≤ 9223372036854775807 := by
  have hp := pow_pos2 n
  constructor
  · refine (Int.le_ediv_iff_mul_le hp).2 ?_
    have : (1 : Int) ≤ 2 ^ n := hp
    have h2 : (9223372036854775808 : Int) * 1 ≤ 9223372036854775808 * 2 ^ n := Int.mul_le_mul_of_nonneg_left this (by decide)
    have h3 : (-9223372036854775808 : Int) * 2 ^ n = - (9223372036854775808 * 2 ^ n) := by rw [Int.neg_mul]
    omega
  · by_cases hx : 0 ≤ x
    · have := Int.ediv_le_self (2 ^ n) hx
      omega
    · have : x / 2 ^ n < 0 := Int.ediv_neg_of_neg_of_pos (by omega) hp
      omega

/-- Nothing runs over: where what is left goes up, the quotient is not the greatest number. -/
theorem up_bd (x : Int) (n : Nat) (h0 : -9223372036854775808 ≤ x) (h1 : x ≤ 9223372036854775807) (mode : Int)
    (hu : goesUp mode (x / 2 ^ n) (x % 2 ^ n) (2 ^ n) = true) : x / 2 ^ n ≤ 9223372036854775806 := by
  cases n with
  | zero =>
    exfalso
    have e0 : x % (2 : Int) ^ 0 = 0 := by simp
    rw [e0] at hu
    simp [goesUp, evenUp] at hu
  | succ m =>
    have hm := pow_pos2 m
    have hp : (2 : Int) ^ (m + 1) = 2 * 2 ^ m := by rw [Int.pow_succ, Int.mul_comm]
    by_cases hx : 0 ≤ x
    · have h2 : x / 2 ^ (m + 1) = x / 2 / 2 ^ m := by rw [hp]; exact (Int.ediv_ediv_of_nonneg (by decide)).symm
      have h3 := Int.ediv_le_self (2 ^ m) (show 0 ≤ x / 2 by omega)
      rw [h2]; omega
    · have : x / 2 ^ (m + 1) < 0 := Int.ediv_neg_of_neg_of_pos (by omega) (pow_pos2 _)
      omega

end Go.Proofs.Ytkbfniogannlhaa
