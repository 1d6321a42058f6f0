/- Roots of 1 in whole numbers: what they are, and what is exactly the same. -/
import Derived.Test.YtkbnhoapfjkajaaRot8
import Derived.Test.YtkbnhoapfjkajaaMath2
namespace Go.Proofs.Ytkbnhoapfjkajaa
set_option linter.unusedVariables false

/-- A complex number of whole numbers. -/
structure Gi where
  re : Int
  im : Int

def Gi.conj (a : Gi) : Gi := ⟨a.re, -a.im⟩
def Gi.swap (a : Gi) : Gi := ⟨a.im, a.re⟩
def Gi.mul (a b : Gi) : Gi := ⟨a.re * b.re - a.im * b.im, a.re * b.im + a.im * b.re⟩
/-- Times i, q times. -/
def Gi.turn (q : Int) (a : Gi) : Gi :=
  if q % 4 = 0 then a else if q % 4 = 1 then ⟨-a.im, a.re⟩ else if q % 4 = 2 then ⟨-a.re, -a.im⟩ else ⟨a.im, -a.re⟩

/-- The angle of an eighth's part, of n. -/
def eZ (n j : Int) : Int := 56593902016227522 * j / n
theorem eighthZ_eq (k log : Int) : eighthZ k log = eZ (2 ^ log.toNat) k := rfl
def ptG (z : Int) : Gi := ⟨(pt z).re, (pt z).im⟩

/-- The point of u of n parts of a quarter turn. -/
def rptF (f : Int → Gi) (n u : Int) : Gi := if 2 * u < n then f (eZ n (2 * u)) else if n < 2 * u then (f (eZ n (2 * (n - u)))).swap else ⟨(f (eZ n n)).re, (f (eZ n n)).re⟩
def rpt (n u : Int) : Gi := rptF ptG n u
def rsh (s : Nat) (a : Gi) : Gi := ⟨rnd a.re s 1, rnd a.im s 1⟩
/-- The root k of n, in 56 - s bits. -/
def rootG (n k : Int) (s : Nat) : Gi := ((rsh s (rpt n (4 * (k % n) % n))).turn (4 * (k % n) / n)).conj

def IsLen (n : Int) : Prop := n = 4 ∨ n = 8 ∨ n = 16 ∨ n = 32 ∨ n = 64

theorem Gi.ext2 {a b : Gi} (h1 : a.re = b.re) (h2 : a.im = b.im) : a = b := by cases a; cases b; simp_all

theorem turn_congr (p q : Int) (h : p % 4 = q % 4) (a : Gi) : a.turn p = a.turn q := by unfold Gi.turn; rw [h]

theorem q4 (q : Int) : q % 4 = 0 ∨ q % 4 = 1 ∨ q % 4 = 2 ∨ q % 4 = 3 := by omega

/-- A quarter more. -/
theorem conj_turn_succ (p q : Int) (h : p % 4 = (q + 1) % 4) (a : Gi) : (a.turn p).conj = ((a.turn q).conj).turn (-1) := by
  unfold Gi.turn Gi.conj
  rcases q4 q with h1 | h1 | h1 | h1
  · have h2 : p % 4 = 1 := by omega
    simp [h1, h2]
  · have h2 : p % 4 = 2 := by omega
    simp [h1, h2]
  · have h2 : p % 4 = 3 := by omega
    simp [h1, h2]
  · have h2 : p % 4 = 0 := by omega
    simp [h1, h2]

theorem conj_turn_real (p q : Int) (h : p % 4 = (-q) % 4) (a : Gi) (ha : a.im = 0) : (a.turn p).conj = ((a.turn q).conj).conj := by
  unfold Gi.turn Gi.conj
  rcases q4 q with h1 | h1 | h1 | h1
  · have h2 : p % 4 = 0 := by omega
    simp [h1, h2]; omega
  · have h2 : p % 4 = 3 := by omega
    simp [h1, h2]; omega
  · have h2 : p % 4 = 2 := by omega
    simp [h1, h2]; omega
  · have h2 : p % 4 = 1 := by omega
    simp [h1, h2]; omega

theorem conj_turn_swap (p q : Int) (h : p % 4 = (3 - q) % 4) (a : Gi) : (a.swap.turn p).conj = ((a.turn q).conj).conj := by
  unfold Gi.turn Gi.conj Gi.swap
  rcases q4 q with h1 | h1 | h1 | h1
  · have h2 : p % 4 = 3 := by omega
    simp [h1, h2]
  · have h2 : p % 4 = 2 := by omega
    simp [h1, h2]
  · have h2 : p % 4 = 1 := by omega
    simp [h1, h2]
  · have h2 : p % 4 = 0 := by omega
    simp [h1, h2]

theorem root_again (n k : Int) (hn : IsLen n) (s : Nat) : rootG n (k + n) s = rootG n k s := by
  have e : (k + n) % n = k % n := by rcases hn with rfl | rfl | rfl | rfl | rfl <;> omega
  unfold rootG
  rw [e]

theorem root_quarter (n k : Int) (hn : IsLen n) (s : Nat) : rootG n (k + n / 4) s = (rootG n k s).turn (-1) := by
  have e : 4 * ((k + n / 4) % n) % n = 4 * (k % n) % n ∧ (4 * ((k + n / 4) % n) / n) % 4 = (4 * (k % n) / n + 1) % 4 := by rcases hn with rfl | rfl | rfl | rfl | rfl <;> omega
  unfold rootG
  rw [e.1]
  exact conj_turn_succ _ _ e.2 _

theorem rptF_swap (f : Int → Gi) (n u : Int) (h0 : 0 < u) (h1 : u < n) : rptF f n (n - u) = (rptF f n u).swap := by
  unfold rptF
  by_cases a : 2 * u < n
  · rw [if_neg (by omega), if_pos (by omega), if_pos a, show n - (n - u) = u by omega]
  · by_cases b : n < 2 * u
    · rw [if_pos (by omega), if_neg a, if_pos b]
      rfl
    · rw [if_neg (by omega), if_neg (by omega), if_neg a, if_neg b]
      rfl
theorem rpt_swap (n u : Int) (h0 : 0 < u) (h1 : u < n) : rpt n (n - u) = (rpt n u).swap := rptF_swap ptG n u h0 h1

set_option maxRecDepth 100000 in
theorem real_all : (List.range 57).all (fun s => Nat.blt s 16 || (decide (rnd 2190 s 1 = 0) && decide (rnd 72057594037927937 s 1 = 2 ^ (56 - s)))) = true := by decide +kernel
theorem rsh_zero (n : Int) (hn : IsLen n) (s : Nat) (h0 : 16 ≤ s) (h1 : s ≤ 56) : rsh s (rpt n 0) = ⟨2 ^ (56 - s), 0⟩ := by
  have h := List.all_eq_true.1 real_all s (List.mem_range.2 (by omega))
  simp only [Bool.or_eq_true, Bool.and_eq_true, decide_eq_true_eq, Nat.blt_eq] at h
  have hb : rnd 2190 s 1 = 0 ∧ rnd 72057594037927937 s 1 = 2 ^ (56 - s) := by rcases h with h | h; omega; exact h
  have e : eZ n (2 * 0) = 0 := by unfold eZ; simp
  have hn0 : (2 : Int) * 0 < n := by rcases hn with rfl | rfl | rfl | rfl | rfl <;> omega
  unfold rsh rpt rptF
  rw [if_pos hn0, e]
  unfold ptG
  simp only
  rw [pt_zero.1, pt_zero.2, hb.1, hb.2]

theorem root_zero (n : Int) (hn : IsLen n) (s : Nat) (h0 : 16 ≤ s) (h1 : s ≤ 56) : rootG n 0 s = ⟨2 ^ (56 - s), 0⟩ := by
  have e : 4 * ((0 : Int) % n) % n = 0 ∧ 4 * ((0 : Int) % n) / n = 0 := by rcases hn with rfl | rfl | rfl | rfl | rfl <;> omega
  unfold rootG
  rw [e.1, e.2, rsh_zero n hn s h0 h1]
  rfl

theorem rsh_swap (s : Nat) (a : Gi) : rsh s a.swap = (rsh s a).swap := rfl

theorem root_back (n k : Int) (hn : IsLen n) (s : Nat) (h0 : 16 ≤ s) (h1 : s ≤ 56) : rootG n (-k) s = (rootG n k s).conj := by
  by_cases hu : 4 * (k % n) % n = 0
  · have e : 4 * ((-k) % n) % n = 0 ∧ (4 * ((-k) % n) / n) % 4 = (-(4 * (k % n) / n)) % 4 := by rcases hn with rfl | rfl | rfl | rfl | rfl <;> omega
    unfold rootG
    rw [e.1, hu]
    exact conj_turn_real _ _ e.2 _ (by rw [rsh_zero n hn s h0 h1])
  · have e : 4 * ((-k) % n) % n = n - 4 * (k % n) % n ∧ (4 * ((-k) % n) / n) % 4 = (3 - (4 * (k % n) / n)) % 4 := by rcases hn with rfl | rfl | rfl | rfl | rfl <;> omega
    unfold rootG
    rw [e.1, rpt_swap n _ (by rcases hn with rfl | rfl | rfl | rfl | rfl <;> omega) (by rcases hn with rfl | rfl | rfl | rfl | rfl <;> omega), rsh_swap]
    exact conj_turn_swap _ _ e.2 _

theorem root_half (n m j : Int) (hm : m = 4 ∨ m = 8 ∨ m = 16 ∨ m = 32) (hn : n = 2 * m) (s : Nat) : rootG m j s = rootG n (j * 2) s := by
  have e : 4 * ((j * 2) % n) % n = 2 * (4 * (j % m) % m) ∧ 4 * ((j * 2) % n) / n = 4 * (j % m) / m := by subst hn; rcases hm with rfl | rfl | rfl | rfl <;> omega
  have hu : 0 ≤ 4 * (j % m) % m ∧ 4 * (j % m) % m < m := by rcases hm with rfl | rfl | rfl | rfl <;> omega
  unfold rootG
  rw [e.1, e.2]
  generalize 4 * (j % m) % m = u at *
  have key : ∀ f, rptF f m u = rptF f n (2 * u) := by
    intro f
    unfold rptF
    by_cases a : 2 * u < m
    · rw [if_pos a, if_pos (by omega)]
      congr 1
      unfold eZ
      subst hn
      rcases hm with rfl | rfl | rfl | rfl <;> omega
    · by_cases b : m < 2 * u
      · rw [if_neg a, if_pos b, if_neg (by omega), if_pos (by omega)]
        congr 2
        unfold eZ
        subst hn
        rcases hm with rfl | rfl | rfl | rfl <;> omega
      · have h1 : eZ m m = eZ n n := by
          unfold eZ
          subst hn
          rcases hm with rfl | rfl | rfl | rfl <;> omega
        rw [if_neg a, if_neg b, if_neg (by omega), if_neg (by omega), h1]
  unfold rpt
  rw [key]

/-- No part is more than a little above 2^56. -/
theorem pt_bd2 (z : Int) (hz : z.natAbs ≤ 72057594037927936) : (pt z).re.natAbs ≤ 72057594037932032 ∧ (pt z).im.natAbs ≤ 72057594037932032 := by
  have h := (pt_square z hz).2
  generalize (pt z).re = a at *
  generalize (pt z).im = b at *
  have qa : ((a.natAbs * a.natAbs : Nat) : Int) = a * a := Int.natAbs_mul_self
  have qb : ((b.natAbs * b.natAbs : Nat) : Int) = b * b := Int.natAbs_mul_self
  generalize a.natAbs = m at *
  generalize b.natAbs = n at *
  constructor
  · by_cases c : m ≤ 72057594037932032
    · exact c
    · have := Nat.mul_le_mul (show 72057594037932033 ≤ m by omega) (show 72057594037932033 ≤ m by omega)
      generalize m * m = p at *
      generalize n * n = q at *
      omega
  · by_cases c : n ≤ 72057594037932032
    · exact c
    · have := Nat.mul_le_mul (show 72057594037932033 ≤ n by omega) (show 72057594037932033 ≤ n by omega)
      generalize m * m = p at *
      generalize n * n = q at *
      omega

theorem eZ_bd (n j : Int) (hn : IsLen n) (h0 : 0 ≤ j) (h1 : j ≤ n) : 0 ≤ eZ n j ∧ eZ n j ≤ 56593902016227522 := by
  unfold eZ
  rcases hn with rfl | rfl | rfl | rfl | rfl <;> omega

theorem rptF_bd (f : Int → Gi) (M : Nat) (hf : ∀ z : Int, 0 ≤ z → z ≤ 56593902016227522 → (f z).re.natAbs ≤ M ∧ (f z).im.natAbs ≤ M) (n u : Int) (hn : IsLen n) (h0 : 0 ≤ u) (h1 : u < n) : (rptF f n u).re.natAbs ≤ M ∧ (rptF f n u).im.natAbs ≤ M := by
  unfold rptF
  split
  · have := eZ_bd n (2 * u) hn (by omega) (by omega)
    exact hf _ this.1 this.2
  · split
    · have := eZ_bd n (2 * (n - u)) hn (by omega) (by omega)
      exact (hf _ this.1 this.2).symm
    · have := eZ_bd n n hn (by omega) (by omega)
      exact ⟨(hf _ this.1 this.2).1, (hf _ this.1 this.2).1⟩
theorem ptG_bd (z : Int) (z0 : 0 ≤ z) (z1 : z ≤ 56593902016227522) : (ptG z).re.natAbs ≤ 72057594037932032 ∧ (ptG z).im.natAbs ≤ 72057594037932032 := by
  have := pt_bd2 z (by omega)
  unfold ptG
  simp only
  generalize pt z = s at *
  exact this
theorem rpt_bd (n u : Int) (hn : IsLen n) (h0 : 0 ≤ u) (h1 : u < n) : (rpt n u).re.natAbs ≤ 72057594037932032 ∧ (rpt n u).im.natAbs ≤ 72057594037932032 :=
  rptF_bd ptG 72057594037932032 ptG_bd n u hn h0 h1

/-- .. so that no part of a root is more than 2^bits. -/
theorem rnd_top (x : Int) (s : Nat) (h0 : 16 ≤ s) (h1 : s ≤ 56) (hx : x.natAbs ≤ 72057594037932032) : (rnd x s 1).natAbs ≤ 2 ^ (56 - s) := by
  have h := rnd_off x s 1 (by omega)
  have h2 := h.2.2
  have hp : (2 : Int) ^ s * 2 ^ (56 - s) = 72057594037927936 := by rw [← Int.pow_add, show s + (56 - s) = 56 by omega]; rfl
  have hp2 : (65536 : Int) ≤ 2 ^ s := by
    have : (2 : Nat) ^ 16 ≤ 2 ^ s := Nat.pow_le_pow_right (by decide) h0
    have c : ((2 ^ s : Nat) : Int) = 2 ^ s := by rw [Int.natCast_pow]; rfl
    omega
  have hc : (((2 : Nat) ^ (56 - s) : Nat) : Int) = 2 ^ (56 - s) := by rw [Int.natCast_pow]; rfl
  generalize (2 : Int) ^ (56 - s) = B at *
  generalize (2 : Nat) ^ (56 - s) = B' at *
  generalize (2 : Int) ^ s = S at *
  generalize rnd x s 1 = r at *
  have a1 : r ≤ B := by
    by_cases c : r ≤ B
    · exact c
    · exfalso
      have := Int.mul_le_mul_of_nonneg_right (show B + 1 ≤ r by omega) (show 0 ≤ S by omega)
      rw [Int.add_mul, Int.one_mul, Int.mul_comm B S, hp] at this
      omega
  have a2 : -B ≤ r := by
    by_cases c : -B ≤ r
    · exact c
    · exfalso
      have := Int.mul_le_mul_of_nonneg_right (show r ≤ -B - 1 by omega) (show 0 ≤ S by omega)
      rw [Int.sub_mul, Int.one_mul, Int.neg_mul, Int.mul_comm B S, hp] at this
      omega
  omega

theorem turn_bd (q : Int) (a : Gi) (M : Nat) (h : a.re.natAbs ≤ M ∧ a.im.natAbs ≤ M) : (a.turn q).re.natAbs ≤ M ∧ (a.turn q).im.natAbs ≤ M := by
  unfold Gi.turn
  rcases q4 q with h1 | h1 | h1 | h1 <;> simp [h1] <;> omega

theorem len_u (n k : Int) (hn : IsLen n) : 0 ≤ 4 * (k % n) % n ∧ 4 * (k % n) % n < n ∧ 0 ≤ 4 * (k % n) / n ∧ 4 * (k % n) / n < 4 ∧ 0 ≤ k % n ∧ k % n < n := by
  rcases hn with rfl | rfl | rfl | rfl | rfl <;> omega

theorem root_bd (n k : Int) (hn : IsLen n) (s : Nat) (h0 : 16 ≤ s) (h1 : s ≤ 56) : (rootG n k s).re.natAbs ≤ 2 ^ (56 - s) ∧ (rootG n k s).im.natAbs ≤ 2 ^ (56 - s) := by
  have hu := len_u n k hn
  have hb := rpt_bd n _ hn hu.1 hu.2.1
  have hr : (rsh s (rpt n (4 * (k % n) % n))).re.natAbs ≤ 2 ^ (56 - s) ∧ (rsh s (rpt n (4 * (k % n) % n))).im.natAbs ≤ 2 ^ (56 - s) := ⟨rnd_top _ s h0 h1 hb.1, rnd_top _ s h0 h1 hb.2⟩
  have := turn_bd (4 * (k % n) / n) _ _ hr
  unfold rootG Gi.conj
  simp only [Int.natAbs_neg]
  exact this

end Go.Proofs.Ytkbnhoapfjkajaa
