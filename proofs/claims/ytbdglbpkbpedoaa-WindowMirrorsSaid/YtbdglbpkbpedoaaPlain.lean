/- Plain facts on whole numbers, with no Go in sight: masks, powers of 2, quotients rounded. · Plain facts on numbers rounded: they are near, they keep the order, and what was put up comes back. · A complex number of whole numbers. · Places told from behind, in plain numbers. -/
import Derived.Laws.Entries
import Derived.IntWalk
import Derived.WalkKit
import Derived.Laws.Bits64b
namespace Go.Proofs.Ytbdglbpkbpedoaa
open Go.RowKit

theorem pow_pos2 (n : Nat) : (0 : Int) < 2 ^ n := Int.pow_pos (by decide)

theorem pow_le62 (n : Nat) (h : n ≤ 62) : (2 : Int) ^ n ≤ 4611686018427387904 := by
  have h1 : (2 : Nat) ^ n ≤ 2 ^ 62 := Nat.pow_le_pow_right (by decide) h
  have h2 : ((2 ^ n : Nat) : Int) ≤ ((2 ^ 62 : Nat) : Int) := Int.ofNat_le.2 h1
  rw [Int.natCast_pow] at h2
  simpa using h2

theorem pow_le61 (n : Nat) (h : n ≤ 61) : (2 : Int) ^ n ≤ 2305843009213693952 := by
  have := pow_le62 (n + 1) (by omega)
  rw [Int.pow_succ] at this
  omega

theorem div_pow_succ (x : Int) (k : Nat) : x / 2 ^ (k + 1) = x / 2 ^ k / 2 := by
  rw [Int.pow_succ]; exact (Int.ediv_ediv_of_nonneg (Int.le_of_lt (pow_pos2 k))).symm

theorem wrap_pow (n : Nat) (h : n ≤ 62) : wrap64 ((2 : Int) ^ n) = 2 ^ n := by
  have := pow_le62 n h
  have := pow_pos2 n
  exact IntWalk.wrap64_in _ (by omega)

theorem wrap_pow_pred (n : Nat) (h : n ≤ 62) : wrap64 ((2 : Int) ^ n - 1) = 2 ^ n - 1 := by
  have := pow_le62 n h
  have := pow_pos2 n
  exact IntWalk.wrap64_in _ (by omega)

theorem bits_mask (x : Int) (n : Nat) (h : n ≤ 62) : bits .and .i64 x ((2 : Int) ^ n - 1) = x % 2 ^ n := by
  have hp := pow_pos2 n
  have hl := pow_le62 n h
  have hnat : (2 : Nat) ^ n ≤ 2 ^ 62 := Nat.pow_le_pow_right (by decide) h
  have hpn : 0 < (2 : Nat) ^ n := Nat.pow_pos (by decide)
  have e1 : (BitVec.ofInt 64 ((2 : Int) ^ n - 1)).toNat = 2 ^ n - 1 := by
    rw [BitVec.toNat_ofInt]
    have : ((2 : Int) ^ n - 1) = (((2 : Nat) ^ n - 1 : Nat) : Int) := by
      rw [Int.ofNat_sub hpn, Int.natCast_pow]; rfl
    rw [this, ← Int.natCast_emod, Int.toNat_natCast]
    exact Nat.mod_eq_of_lt (by omega)
  have e2 : ((BitVec.ofInt 64 x).toNat : Int) = x % 18446744073709551616 := by
    rw [BitVec.toNat_ofInt, Int.toNat_of_nonneg (Int.emod_nonneg _ (by decide))]
    rfl
  have e3 : (((BitVec.ofInt 64 x &&& BitVec.ofInt 64 ((2 : Int) ^ n - 1)).toNat : Nat) : Int) = x % 2 ^ n := by
    rw [BitVec.toNat_and, e1, Nat.and_two_pow_sub_one_eq_mod, Int.natCast_emod, e2, Int.natCast_pow]
    refine Int.emod_emod_of_dvd x ?_
    exact ⟨2 ^ (64 - n), by rw [show ((2 : Nat) : Int) = 2 from rfl, ← Int.pow_add, show n + (64 - n) = 64 by omega]; rfl⟩
  have hlo := Int.emod_nonneg x (Int.ne_of_gt hp)
  have hhi := Int.emod_lt_of_pos x hp
  show IntKind.i64.wrap ((BitVec.ofInt 64 x &&& BitVec.ofInt 64 ((2 : Int) ^ n - 1)).toNat : Int) = _
  rw [e3]
  exact IntWalk.i64_in _ (by omega)

theorem div_bd (x d : Int) (h0 : -9223372036854775808 ≤ x) (h1 : x ≤ 9223372036854775807) (hd : 1 ≤ d) :
    -9223372036854775808 ≤ x / d ∧ x / d ≤ 9223372036854775807 := by
  constructor
  · refine (Int.le_ediv_iff_mul_le (by omega)).2 ?_
    have h2 : (9223372036854775808 : Int) * 1 ≤ 9223372036854775808 * d := Int.mul_le_mul_of_nonneg_left hd (by decide)
    have h3 : (-9223372036854775808 : Int) * d = - (9223372036854775808 * d) := by rw [Int.neg_mul]
    omega
  · by_cases hx : 0 ≤ x
    · have := Int.ediv_le_self d hx
      omega
    · have : x / d < 0 := Int.ediv_neg_of_neg_of_pos (by omega) (by omega)
      omega

theorem tdiv_low (x d : Int) (h0 : -9223372036854775808 ≤ x) (hx : x < 0) (hd : 1 ≤ d) (hm : x.tmod d < 0) : wrap64 (x.tdiv d - 1) = x / d := by
  have b := div_bd x d h0 (by omega) hd
  have e : x.tdiv d = x / d + 1 := by
    rw [Int.tdiv_eq_ediv]
    by_cases hv : d ∣ x
    · rw [Int.tmod_eq_emod, if_pos (Or.inr hv), Int.emod_eq_zero_of_dvd hv] at hm
      omega
    · rw [if_neg (by intro h; rcases h with h | h; exact absurd h (by omega); exact hv h), Int.sign_eq_one_of_pos (by omega)]
  rw [e, show x / d + 1 - 1 = x / d by omega]
  exact IntWalk.wrap64_in _ b

theorem tdiv_high (x d : Int) (hx : x < 0) (hd : 1 ≤ d) (hm : 0 ≤ x.tmod d) : x.tdiv d = x / d := by
  rw [Int.tdiv_eq_ediv]
  by_cases hv : d ∣ x
  · rw [if_pos (Or.inr hv), Int.add_zero]
  · rw [Int.tmod_eq_emod, if_neg (by intro h; rcases h with h | h; exact absurd h (by omega); exact hv h)] at hm
    have := Int.emod_lt_of_pos x (show 0 < d by omega)
    omega

theorem tmod_bd (x d : Int) (hx : x < 0) (hd : 1 ≤ d) : x.tmod d ≤ 0 ∧ x.tdiv d * d ≤ 0 := by
  have hq : x / d < 0 := Int.ediv_neg_of_neg_of_pos hx (by omega)
  have hr := Int.emod_lt_of_pos x (show 0 < d by omega)
  constructor
  · rw [Int.tmod_eq_emod]
    by_cases hv : d ∣ x
    · rw [if_pos (Or.inr hv), Int.emod_eq_zero_of_dvd hv]; omega
    · rw [if_neg (by intro h; rcases h with h | h; exact absurd h (by omega); exact hv h)]; omega
  · have : x.tdiv d ≤ 0 := by
      rw [Int.tdiv_eq_ediv]
      by_cases hv : d ∣ x
      · rw [if_pos (Or.inr hv)]; omega
      · rw [if_neg (by intro h; rcases h with h | h; exact absurd h (by omega); exact hv h), Int.sign_eq_one_of_pos (by omega)]; omega
    have := Int.mul_le_mul_of_nonneg_right this (show 0 ≤ d by omega)
    omega

theorem tdiv_mul_wrap (x d : Int) (h0 : -9223372036854775808 ≤ x) (hx : x < 0) (hd : 1 ≤ d) : wrap64 (x.tdiv d * d) = x - x.tmod d := by
  have b := tmod_bd x d hx hd
  have e := Int.mul_tdiv_add_tmod x d
  rw [Int.mul_comm] at e
  rw [IntWalk.wrap64_in _ (by omega)]
  omega

theorem tmod2_eq (x : Int) : (x.tmod 2 == 0) = decide (x % 2 = 0) := by
  rw [Int.tmod_eq_emod, Bool.eq_iff_iff]
  simp only [beq_iff_eq, decide_eq_true_eq]
  by_cases hv : 0 ≤ x ∨ (2 : Int) ∣ x
  · rw [if_pos hv]; omega
  · rw [if_neg hv]; omega

theorem half_even (x : Int) (h : (x.tmod 2 == 0) = true) : x.tdiv 2 = x / 2 := by
  rw [tmod2_eq] at h
  have h' : x % 2 = 0 := of_decide_eq_true h
  rw [Int.tdiv_eq_ediv, if_pos (Or.inr (by omega)), Int.add_zero]

theorem half_odd (x : Int) (h0 : -9223372036854775808 ≤ x) (hx : x ≤ 0) (h : (x.tmod 2 == 0) = false) : wrap64 (x.tdiv 2 - 1) = x / 2 := by
  rw [tmod2_eq] at h
  have h' : ¬ x % 2 = 0 := of_decide_eq_false h
  have e : x.tdiv 2 = x / 2 + 1 := by
    rw [Int.tdiv_eq_ediv, if_neg (by omega)]
    rfl
  rw [e, show x / 2 + 1 - 1 = x / 2 by omega]
  exact IntWalk.wrap64_in _ (by omega)

/-- What is left of a quotient, of a divisor v: does it go up, if the even one is taken? -/
def evenUp (d l v : Int) : Bool := if l = v - l then (d.tmod 2 != 0) else decide (v - l < l)

/-- Does what is left go up, in a mode? -/
def goesUp (mode d l v : Int) : Bool := if mode = 0 then false else if mode = 1 then decide (v - l ≤ l) else evenUp d l v

/-- A number divided by 2^n, rounded in a mode. -/
def rnd (x : Int) (n : Nat) (mode : Int) : Int := bif goesUp mode (x / 2 ^ n) (x % 2 ^ n) (2 ^ n) then x / 2 ^ n + 1 else x / 2 ^ n

theorem div_pow_bd (x : Int) (n : Nat) (h0 : -9223372036854775808 ≤ x) (h1 : x ≤ 9223372036854775807) :
    -9223372036854775808 ≤ x / 2 ^ n ∧ x / 2 ^ n ≤ 9223372036854775807 := by
  have hp := pow_pos2 n
  constructor
  · refine (Int.le_ediv_iff_mul_le hp).2 ?_
    have : (1 : Int) ≤ 2 ^ n := hp
    have h2 : (9223372036854775808 : Int) * 1 ≤ 9223372036854775808 * 2 ^ n := Int.mul_le_mul_of_nonneg_left this (by decide)
    have h3 : (-9223372036854775808 : Int) * 2 ^ n = - (9223372036854775808 * 2 ^ n) := by rw [Int.neg_mul]
    omega
  · by_cases hx : 0 ≤ x
    · have := Int.ediv_le_self (2 ^ n) hx
      omega
    · have : x / 2 ^ n < 0 := Int.ediv_neg_of_neg_of_pos (by omega) hp
      omega

/-- Nothing runs over: where what is left goes up, the quotient is not the greatest number. -/
theorem up_bd (x : Int) (n : Nat) (h0 : -9223372036854775808 ≤ x) (h1 : x ≤ 9223372036854775807) (mode : Int)
    (hu : goesUp mode (x / 2 ^ n) (x % 2 ^ n) (2 ^ n) = true) : x / 2 ^ n ≤ 9223372036854775806 := by
  cases n with
  | zero =>
    exfalso
    have e0 : x % (2 : Int) ^ 0 = 0 := by simp
    rw [e0] at hu
    simp [goesUp, evenUp] at hu
  | succ m =>
    have hm := pow_pos2 m
    have hp : (2 : Int) ^ (m + 1) = 2 * 2 ^ m := by rw [Int.pow_succ, Int.mul_comm]
    by_cases hx : 0 ≤ x
    · have h2 : x / 2 ^ (m + 1) = x / 2 / 2 ^ m := by rw [hp]; exact (Int.ediv_ediv_of_nonneg (by decide)).symm
      have h3 := Int.ediv_le_self (2 ^ m) (show 0 ≤ x / 2 by omega)
      rw [h2]; omega
    · have : x / 2 ^ (m + 1) < 0 := Int.ediv_neg_of_neg_of_pos (by omega) (pow_pos2 _)
      omega

end Go.Proofs.Ytbdglbpkbpedoaa

namespace Go.Proofs.Ytbdglbpkbpedoaa
open Go.RowKit

theorem goesUp_low (q l v m : Int) (_ : 0 ≤ l) (_ : 0 < v) (hm : m = 0 ∨ m = 1 ∨ m = 2) (h : goesUp m q l v = true) : v ≤ 2 * l := by
  rcases hm with rfl | rfl | rfl
  · simp [goesUp] at h
  · simp [goesUp] at h; omega
  · simp only [goesUp, evenUp] at h
    rw [if_neg (by decide), if_neg (by decide)] at h
    split at h
    · omega
    · have := of_decide_eq_true h; omega

theorem goesUp_high (q l v m : Int) (hm : m = 1 ∨ m = 2) (h : goesUp m q l v = false) : 2 * l ≤ v := by
  rcases hm with rfl | rfl
  · simp [goesUp] at h; omega
  · simp only [goesUp, evenUp] at h
    rw [if_neg (by decide), if_neg (by decide)] at h
    split at h
    · omega
    · have := of_decide_eq_false h; omega

theorem goesUp_mono (q l k v m : Int) (hm : m = 0 ∨ m = 1 ∨ m = 2) (hk : l ≤ k) (h : goesUp m q l v = true) : goesUp m q k v = true := by
  rcases hm with rfl | rfl | rfl
  · simp [goesUp] at h
  · simp [goesUp] at h ⊢; omega
  · simp only [goesUp, evenUp] at h ⊢
    rw [if_neg (by decide), if_neg (by decide)] at h ⊢
    split at h
    · split
      · exact h
      · exact decide_eq_true (by omega)
    · have := of_decide_eq_true h
      rw [if_neg (by omega)]
      exact decide_eq_true (by omega)

theorem split_of (x : Int) (n : Nat) : x = x / 2 ^ n * 2 ^ n + x % 2 ^ n := by
  have := Int.emod_add_mul_ediv x (2 ^ n)
  rw [Int.mul_comm] at this
  omega

theorem rnd_off (x : Int) (n : Nat) (m : Int) (hm : m = 0 ∨ m = 1 ∨ m = 2) :
    -(2 ^ n) < x - rnd x n m * 2 ^ n ∧ x - rnd x n m * 2 ^ n < 2 ^ n ∧ (m = 0 ∨ (2 * (x - rnd x n m * 2 ^ n) ≤ 2 ^ n ∧ -(2 ^ n) ≤ 2 * (x - rnd x n m * 2 ^ n))) := by
  have hp := pow_pos2 n
  have l0 := Int.emod_nonneg x (Int.ne_of_gt hp)
  have l1 := Int.emod_lt_of_pos x hp
  have e := split_of x n
  unfold rnd
  cases hu : goesUp m (x / 2 ^ n) (x % 2 ^ n) (2 ^ n)
  · have hh : m = 0 ∨ 2 * (x % 2 ^ n) ≤ 2 ^ n := by
      rcases hm with h | h
      · exact Or.inl h
      · exact Or.inr (goesUp_high _ _ _ _ h hu)
    simp only [cond_false]
    generalize x / 2 ^ n * 2 ^ n = a at *
    generalize x % 2 ^ n = l at *
    generalize (2 : Int) ^ n = P at *
    omega
  · have hh := goesUp_low _ _ _ _ l0 hp hm hu
    simp only [cond_true]
    rw [Int.add_mul, Int.one_mul]
    generalize x / 2 ^ n * 2 ^ n = a at *
    generalize x % 2 ^ n = l at *
    generalize (2 : Int) ^ n = P at *
    omega

theorem rnd_mono (x y : Int) (n : Nat) (m : Int) (hm : m = 0 ∨ m = 1 ∨ m = 2) (h : x ≤ y) : rnd x n m ≤ rnd y n m := by
  have hp := pow_pos2 n
  have hq := Int.ediv_le_ediv hp h
  have a1 : rnd x n m ≤ x / 2 ^ n + 1 := by unfold rnd; cases goesUp m (x / 2 ^ n) (x % 2 ^ n) (2 ^ n) <;> simp only [cond_true, cond_false] <;> omega
  have b0 : y / 2 ^ n ≤ rnd y n m := by unfold rnd; cases goesUp m (y / 2 ^ n) (y % 2 ^ n) (2 ^ n) <;> simp only [cond_true, cond_false] <;> omega
  by_cases e : x / 2 ^ n = y / 2 ^ n
  · have ex := split_of x n
    have ey := split_of y n
    have hl : x % 2 ^ n ≤ y % 2 ^ n := by rw [e] at ex; omega
    unfold rnd
    rw [e]
    cases hu : goesUp m (y / 2 ^ n) (x % 2 ^ n) (2 ^ n)
    · cases goesUp m (y / 2 ^ n) (y % 2 ^ n) (2 ^ n) <;> simp only [cond_true, cond_false] <;> omega
    · rw [goesUp_mono _ _ _ _ _ hm hl hu]
      exact Int.le_refl _
  · omega

theorem rnd_mul (x : Int) (n : Nat) (m : Int) (hm : m = 0 ∨ m = 1 ∨ m = 2) : rnd (x * 2 ^ n) n m = x := by
  have hp := pow_pos2 n
  have e1 : x * 2 ^ n / 2 ^ n = x := Int.mul_ediv_cancel _ (Int.ne_of_gt hp)
  have e2 : x * 2 ^ n % 2 ^ n = 0 := Int.mul_emod_left _ _
  unfold rnd
  rw [e1, e2]
  cases hu : goesUp m x 0 (2 ^ n)
  · rfl
  · have := goesUp_low _ _ _ _ (Int.le_refl 0) hp hm hu
    omega

theorem rnd_two (x : Int) (s t : Nat) : rnd (rnd x s 0) t 0 = rnd x (s + t) 0 := by
  have h : ∀ y : Int, ∀ n : Nat, rnd y n 0 = y / 2 ^ n := fun y n => by simp [rnd, goesUp]
  rw [h, h, h, Int.pow_add]
  exact Int.ediv_ediv_of_nonneg (Int.le_of_lt (pow_pos2 s))

theorem rnd_bd (x : Int) (n : Nat) (m : Int) (h0 : -9223372036854775808 ≤ x) (h1 : x ≤ 9223372036854775807) :
    -9223372036854775808 ≤ rnd x n m ∧ rnd x n m ≤ 9223372036854775807 := by
  have b := div_pow_bd x n h0 h1
  unfold rnd
  cases hu : goesUp m (x / 2 ^ n) (x % 2 ^ n) (2 ^ n)
  · exact b
  · have := up_bd x n h0 h1 m hu
    simp only [cond_true]
    omega

theorem tmod31_bd (x : Int) : -30 ≤ x.tmod 31 ∧ x.tmod 31 ≤ 30 := by
  rw [Int.tmod_eq_emod]
  by_cases h : 0 ≤ x ∨ (31 : Int) ∣ x
  · rw [if_pos h]; omega
  · rw [if_neg h]
    have : (31 : Int).natAbs = 31 := rfl
    omega

theorem tmod3_bd (x : Int) : -2 ≤ x.tmod 3 ∧ x.tmod 3 ≤ 2 := by
  rw [Int.tmod_eq_emod]
  by_cases h : 0 ≤ x ∨ (3 : Int) ∣ x
  · rw [if_pos h]; omega
  · rw [if_neg h]
    have : (3 : Int).natAbs = 3 := rfl
    omega

end Go.Proofs.Ytbdglbpkbpedoaa

namespace Go.Proofs.Ytbdglbpkbpedoaa
set_option linter.unusedVariables false
set_option maxRecDepth 100000

/-- A complex number of whole numbers. -/
structure Gi where
  re : Int
  im : Int

def Gi.conj (a : Gi) : Gi := ⟨a.re, -a.im⟩
def Gi.swap (a : Gi) : Gi := ⟨a.im, a.re⟩
def Gi.mul (a b : Gi) : Gi := ⟨a.re * b.re - a.im * b.im, a.re * b.im + a.im * b.re⟩
/-- Times i, q times. -/
def Gi.turn (q : Int) (a : Gi) : Gi :=
  if q % 4 = 0 then a else if q % 4 = 1 then ⟨-a.im, a.re⟩ else if q % 4 = 2 then ⟨-a.re, -a.im⟩ else ⟨a.im, -a.re⟩

theorem Gi.ext2 {a b : Gi} (h1 : a.re = b.re) (h2 : a.im = b.im) : a = b := by cases a; cases b; simp_all

end Go.Proofs.Ytbdglbpkbpedoaa

namespace Go.Proofs.Ytbdglbpkbpedoaa
set_option linter.unusedVariables false

/-- The first r bits of i, told from behind. -/
def fl : Nat → Nat → Nat
  | 0, _ => 0
  | r + 1, i => 2 * fl r i + i / 2 ^ r % 2

/-- The sum by definition: the first j terms of it, of L bits. -/
def rb (L : Nat) : Nat → Nat → Nat
  | 0, _ => 0
  | j + 1, i => rb L j i + (i / 2 ^ (L - 1 - j) % 2) * 2 ^ j

theorem fl_lt (r i : Nat) : fl r i < 2 ^ r := by
  induction r with
  | zero => exact Nat.one_pos
  | succ r ih => rw [fl, Nat.pow_succ]; omega

theorem rb_succ (L k i : Nat) : rb L (k + 1) i = rb L k i + (i / 2 ^ (L - 1 - k) % 2) * 2 ^ k := rfl

theorem rb_lt (L j i : Nat) : rb L j i < 2 ^ j := by
  induction j with
  | zero => exact Nat.one_pos
  | succ j ih =>
    rw [rb, Nat.pow_succ]
    rcases Nat.mod_two_eq_zero_or_one (i / 2 ^ (L - 1 - j)) with h | h <;> rw [h] <;> omega

theorem rb_fl_all : ∀ L : Fin 7, ∀ i : Fin 64, rb L.val L.val i.val = fl L.val i.val := by decide +kernel
theorem rb_fl (L i : Nat) (hL : L ≤ 6) (hi : i < 64) : rb L L i = fl L i := rb_fl_all ⟨L, by omega⟩ ⟨i, hi⟩

theorem fl_fl_all : ∀ L : Fin 7, ∀ i : Fin 64, i.val < 2 ^ L.val → fl L.val (fl L.val i.val) = i.val := by decide +kernel
theorem pow_le (L : Nat) (hL : L ≤ 6) : 2 ^ L ≤ 64 := Nat.pow_le_pow_right (n := 2) (by omega) hL
theorem fl_fl (L i : Nat) (hL : L ≤ 6) (hi : i < 2 ^ L) : fl L (fl L i) = i := fl_fl_all ⟨L, by omega⟩ ⟨i, by have := pow_le L hL; omega⟩ hi

theorem fl_half_all : ∀ L : Fin 6, ∀ i : Fin 32, i.val < 2 ^ L.val → fl (L.val + 1) i.val = 2 * fl L.val i.val := by decide +kernel
/-- The first half of the places flipped, halved, are those of half the length. -/
theorem fl_half (L i : Nat) (hL : L ≤ 5) (hi : i < 2 ^ L) : fl (L + 1) i = 2 * fl L i := fl_half_all ⟨L, by omega⟩ ⟨i, by have := Nat.pow_le_pow_right (n := 2) (by omega) hL; omega⟩ hi

theorem and1 (n : Int) : Go.bits .and .i64 n 1 = n % 2 := bits_mask n 1 (by omega)
theorem or1_all : ∀ f : Fin 64, ∀ b : Fin 2, Go.bits .or .i64 ((2 * f.val : Nat) : Int) ((b.val : Nat) : Int) = ((2 * f.val + b.val : Nat) : Int) := by decide +kernel
theorem or1 (f b : Nat) (hf : f < 64) (hb : b < 2) : Go.bits .or .i64 ((2 * f : Nat) : Int) ((b : Nat) : Int) = ((2 * f + b : Nat) : Int) := or1_all ⟨f, hf⟩ ⟨b, hb⟩

/-- Which places of 2^L are among the first j flipped: as bits of one number. -/
def seen (L : Nat) : Nat → Nat
  | 0 => 0
  | j + 1 => seen L j ||| 1 <<< fl L j

theorem seen_lt_all : ∀ L : Fin 7, ∀ j : Fin 65, j.val ≤ 2 ^ L.val → seen L.val j.val < 18446744073709551616 := by decide +kernel
theorem seen_lt (L j : Nat) (hL : L ≤ 6) (hj : j ≤ 2 ^ L) : seen L j < 18446744073709551616 := seen_lt_all ⟨L, by omega⟩ ⟨j, by have := pow_le L hL; omega⟩ hj
theorem seen_new_all : ∀ L : Fin 7, ∀ j : Fin 64, j.val < 2 ^ L.val → seen L.val j.val / 2 ^ fl L.val j.val % 2 = 0 := by decide +kernel
theorem seen_new (L j : Nat) (hL : L ≤ 6) (hj : j < 2 ^ L) : seen L j / 2 ^ fl L j % 2 = 0 := seen_new_all ⟨L, by omega⟩ ⟨j, by have := pow_le L hL; omega⟩ hj

theorem seen_and (s f : Nat) (hs : s < 18446744073709551616) (hn : s / 2 ^ f % 2 = 0) : Go.bits .and .u64 ((s : Int) / 2 ^ f) 1 = 0 := by
  have h1 : s / 2 ^ f ≤ s := Nat.div_le_self _ _
  rw [show (s : Int) / 2 ^ f = ((s / 2 ^ f : Nat) : Int) by simp, show (1 : Int) = ((1 : Nat) : Int) from rfl, Go.bits_and_u64_nat _ 1 (by omega) (by omega), Nat.and_one_is_mod, hn]
  rfl

theorem seen_or (s f : Nat) (hs : s < 18446744073709551616) (hf : f < 64) : Go.bits .or .u64 (s : Int) (IntKind.u64.wrap (2 ^ f)) = ((s ||| 1 <<< f : Nat) : Int) := by
  have h1 : 2 ^ f ≤ 2 ^ 63 := Nat.pow_le_pow_right (by omega) (by omega)
  rw [Nat.one_shiftLeft, show (2 : Int) ^ f = ((2 ^ f : Nat) : Int) by simp]
  generalize 2 ^ f = p at *
  rw [show IntKind.u64.wrap (p : Int) = (p : Int) by rw [IntKind.wrap_u64]; omega, Go.bits_or_u64_nat _ _ hs (by omega)]

end Go.Proofs.Ytbdglbpkbpedoaa
