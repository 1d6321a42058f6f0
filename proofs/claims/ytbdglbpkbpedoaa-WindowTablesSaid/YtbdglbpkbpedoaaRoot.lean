/- Roots of 1 in whole numbers: what they are, and what is exactly the same. · Roots of 1: products of two are near the root of the sum. · Roots of 1: the product of two, in whole numbers. -/
import Derived.Test.YtbdglbpkbpedoaaPlain
import Derived.Test.YtbdglbpkbpedoaaRot
namespace Go.Proofs.Ytbdglbpkbpedoaa
set_option linter.unusedVariables false
set_option maxRecDepth 100000

/-- The angle of an eighth's part, of n. -/
def eZ (n j : Int) : Int := 56593902016227522 * j / n
theorem eighthZ_eq (k log : Int) : eighthZ k log = eZ (2 ^ log.toNat) k := rfl
def ptG (z : Int) : Gi := ⟨(pt z).re, (pt z).im⟩

/-- The point of u of n parts of a quarter turn. -/
def rptF (f : Int → Gi) (n u : Int) : Gi := if 2 * u < n then f (eZ n (2 * u)) else if n < 2 * u then (f (eZ n (2 * (n - u)))).swap else ⟨(f (eZ n n)).re, (f (eZ n n)).re⟩
def rpt (n u : Int) : Gi := rptF ptG n u
def rsh (s : Nat) (a : Gi) : Gi := ⟨rnd a.re s 1, rnd a.im s 1⟩
/-- The root k of n, in 56 - s bits. -/
def rootG (n k : Int) (s : Nat) : Gi := ((rsh s (rpt n (4 * (k % n) % n))).turn (4 * (k % n) / n)).conj

def IsLen (n : Int) : Prop := n = 4 ∨ n = 8 ∨ n = 16 ∨ n = 32 ∨ n = 64

theorem turn_congr (p q : Int) (h : p % 4 = q % 4) (a : Gi) : a.turn p = a.turn q := by unfold Gi.turn; rw [h]

theorem q4 (q : Int) : q % 4 = 0 ∨ q % 4 = 1 ∨ q % 4 = 2 ∨ q % 4 = 3 := by omega

/-- A quarter more. -/
theorem conj_turn_succ (p q : Int) (h : p % 4 = (q + 1) % 4) (a : Gi) : (a.turn p).conj = ((a.turn q).conj).turn (-1) := by
  unfold Gi.turn Gi.conj
  rcases q4 q with h1 | h1 | h1 | h1
  · have h2 : p % 4 = 1 := by omega
    simp [h1, h2]
  · have h2 : p % 4 = 2 := by omega
    simp [h1, h2]
  · have h2 : p % 4 = 3 := by omega
    simp [h1, h2]
  · have h2 : p % 4 = 0 := by omega
    simp [h1, h2]

theorem conj_turn_real (p q : Int) (h : p % 4 = (-q) % 4) (a : Gi) (ha : a.im = 0) : (a.turn p).conj = ((a.turn q).conj).conj := by
  unfold Gi.turn Gi.conj
  rcases q4 q with h1 | h1 | h1 | h1
  · have h2 : p % 4 = 0 := by omega
    simp [h1, h2]; omega
  · have h2 : p % 4 = 3 := by omega
    simp [h1, h2]; omega
  · have h2 : p % 4 = 2 := by omega
    simp [h1, h2]; omega
  · have h2 : p % 4 = 1 := by omega
    simp [h1, h2]; omega

theorem conj_turn_swap (p q : Int) (h : p % 4 = (3 - q) % 4) (a : Gi) : (a.swap.turn p).conj = ((a.turn q).conj).conj := by
  unfold Gi.turn Gi.conj Gi.swap
  rcases q4 q with h1 | h1 | h1 | h1
  · have h2 : p % 4 = 3 := by omega
    simp [h1, h2]
  · have h2 : p % 4 = 2 := by omega
    simp [h1, h2]
  · have h2 : p % 4 = 1 := by omega
    simp [h1, h2]
  · have h2 : p % 4 = 0 := by omega
    simp [h1, h2]

theorem root_again (n k : Int) (hn : IsLen n) (s : Nat) : rootG n (k + n) s = rootG n k s := by
  have e : (k + n) % n = k % n := by rcases hn with rfl | rfl | rfl | rfl | rfl <;> omega
  unfold rootG
  rw [e]

theorem root_quarter (n k : Int) (hn : IsLen n) (s : Nat) : rootG n (k + n / 4) s = (rootG n k s).turn (-1) := by
  have e : 4 * ((k + n / 4) % n) % n = 4 * (k % n) % n ∧ (4 * ((k + n / 4) % n) / n) % 4 = (4 * (k % n) / n + 1) % 4 := by rcases hn with rfl | rfl | rfl | rfl | rfl <;> omega
  unfold rootG
  rw [e.1]
  exact conj_turn_succ _ _ e.2 _

theorem rptF_swap (f : Int → Gi) (n u : Int) (h0 : 0 < u) (h1 : u < n) : rptF f n (n - u) = (rptF f n u).swap := by
  unfold rptF
  by_cases a : 2 * u < n
  · rw [if_neg (by omega), if_pos (by omega), if_pos a, show n - (n - u) = u by omega]
  · by_cases b : n < 2 * u
    · rw [if_pos (by omega), if_neg a, if_pos b]
      rfl
    · rw [if_neg (by omega), if_neg (by omega), if_neg a, if_neg b]
      rfl
theorem rpt_swap (n u : Int) (h0 : 0 < u) (h1 : u < n) : rpt n (n - u) = (rpt n u).swap := rptF_swap ptG n u h0 h1

set_option maxRecDepth 100000 in
theorem real_all : (List.range 57).all (fun s => Nat.blt s 16 || (decide (rnd 2190 s 1 = 0) && decide (rnd 72057594037927937 s 1 = 2 ^ (56 - s)))) = true := by decide +kernel
theorem rsh_zero (n : Int) (hn : IsLen n) (s : Nat) (h0 : 16 ≤ s) (h1 : s ≤ 56) : rsh s (rpt n 0) = ⟨2 ^ (56 - s), 0⟩ := by
  have h := List.all_eq_true.1 real_all s (List.mem_range.2 (by omega))
  simp only [Bool.or_eq_true, Bool.and_eq_true, decide_eq_true_eq, Nat.blt_eq] at h
  have hb : rnd 2190 s 1 = 0 ∧ rnd 72057594037927937 s 1 = 2 ^ (56 - s) := by rcases h with h | h; omega; exact h
  have e : eZ n (2 * 0) = 0 := by unfold eZ; simp
  have hn0 : (2 : Int) * 0 < n := by rcases hn with rfl | rfl | rfl | rfl | rfl <;> omega
  unfold rsh rpt rptF
  rw [if_pos hn0, e]
  unfold ptG
  simp only
  rw [pt_zero.1, pt_zero.2, hb.1, hb.2]

theorem root_zero (n : Int) (hn : IsLen n) (s : Nat) (h0 : 16 ≤ s) (h1 : s ≤ 56) : rootG n 0 s = ⟨2 ^ (56 - s), 0⟩ := by
  have e : 4 * ((0 : Int) % n) % n = 0 ∧ 4 * ((0 : Int) % n) / n = 0 := by rcases hn with rfl | rfl | rfl | rfl | rfl <;> omega
  unfold rootG
  rw [e.1, e.2, rsh_zero n hn s h0 h1]
  rfl

theorem rsh_swap (s : Nat) (a : Gi) : rsh s a.swap = (rsh s a).swap := rfl

theorem root_back (n k : Int) (hn : IsLen n) (s : Nat) (h0 : 16 ≤ s) (h1 : s ≤ 56) : rootG n (-k) s = (rootG n k s).conj := by
  by_cases hu : 4 * (k % n) % n = 0
  · have e : 4 * ((-k) % n) % n = 0 ∧ (4 * ((-k) % n) / n) % 4 = (-(4 * (k % n) / n)) % 4 := by rcases hn with rfl | rfl | rfl | rfl | rfl <;> omega
    unfold rootG
    rw [e.1, hu]
    exact conj_turn_real _ _ e.2 _ (by rw [rsh_zero n hn s h0 h1])
  · have e : 4 * ((-k) % n) % n = n - 4 * (k % n) % n ∧ (4 * ((-k) % n) / n) % 4 = (3 - (4 * (k % n) / n)) % 4 := by rcases hn with rfl | rfl | rfl | rfl | rfl <;> omega
    unfold rootG
    rw [e.1, rpt_swap n _ (by rcases hn with rfl | rfl | rfl | rfl | rfl <;> omega) (by rcases hn with rfl | rfl | rfl | rfl | rfl <;> omega), rsh_swap]
    exact conj_turn_swap _ _ e.2 _

theorem root_half (n m j : Int) (hm : m = 4 ∨ m = 8 ∨ m = 16 ∨ m = 32) (hn : n = 2 * m) (s : Nat) : rootG m j s = rootG n (j * 2) s := by
  have e : 4 * ((j * 2) % n) % n = 2 * (4 * (j % m) % m) ∧ 4 * ((j * 2) % n) / n = 4 * (j % m) / m := by subst hn; rcases hm with rfl | rfl | rfl | rfl <;> omega
  have hu : 0 ≤ 4 * (j % m) % m ∧ 4 * (j % m) % m < m := by rcases hm with rfl | rfl | rfl | rfl <;> omega
  unfold rootG
  rw [e.1, e.2]
  generalize 4 * (j % m) % m = u at *
  have key : ∀ f, rptF f m u = rptF f n (2 * u) := by
    intro f
    unfold rptF
    by_cases a : 2 * u < m
    · rw [if_pos a, if_pos (by omega)]
      congr 1
      unfold eZ
      subst hn
      rcases hm with rfl | rfl | rfl | rfl <;> omega
    · by_cases b : m < 2 * u
      · rw [if_neg a, if_pos b, if_neg (by omega), if_pos (by omega)]
        congr 2
        unfold eZ
        subst hn
        rcases hm with rfl | rfl | rfl | rfl <;> omega
      · have h1 : eZ m m = eZ n n := by
          unfold eZ
          subst hn
          rcases hm with rfl | rfl | rfl | rfl <;> omega
        rw [if_neg a, if_neg b, if_neg (by omega), if_neg (by omega), h1]
  unfold rpt
  rw [key]

/-- No part is more than a little above 2^56. -/
theorem pt_bd2 (z : Int) (hz : z.natAbs ≤ 72057594037927936) : (pt z).re.natAbs ≤ 72057594037932032 ∧ (pt z).im.natAbs ≤ 72057594037932032 := by
  have h := (pt_square z hz).2
  generalize (pt z).re = a at *
  generalize (pt z).im = b at *
  have qa : ((a.natAbs * a.natAbs : Nat) : Int) = a * a := Int.natAbs_mul_self
  have qb : ((b.natAbs * b.natAbs : Nat) : Int) = b * b := Int.natAbs_mul_self
  generalize a.natAbs = m at *
  generalize b.natAbs = n at *
  constructor
  · by_cases c : m ≤ 72057594037932032
    · exact c
    · have := Nat.mul_le_mul (show 72057594037932033 ≤ m by omega) (show 72057594037932033 ≤ m by omega)
      generalize m * m = p at *
      generalize n * n = q at *
      omega
  · by_cases c : n ≤ 72057594037932032
    · exact c
    · have := Nat.mul_le_mul (show 72057594037932033 ≤ n by omega) (show 72057594037932033 ≤ n by omega)
      generalize m * m = p at *
      generalize n * n = q at *
      omega

theorem eZ_bd (n j : Int) (hn : IsLen n) (h0 : 0 ≤ j) (h1 : j ≤ n) : 0 ≤ eZ n j ∧ eZ n j ≤ 56593902016227522 := by
  unfold eZ
  rcases hn with rfl | rfl | rfl | rfl | rfl <;> omega

theorem rptF_bd (f : Int → Gi) (M : Nat) (hf : ∀ z : Int, 0 ≤ z → z ≤ 56593902016227522 → (f z).re.natAbs ≤ M ∧ (f z).im.natAbs ≤ M) (n u : Int) (hn : IsLen n) (h0 : 0 ≤ u) (h1 : u < n) : (rptF f n u).re.natAbs ≤ M ∧ (rptF f n u).im.natAbs ≤ M := by
  unfold rptF
  split
  · have := eZ_bd n (2 * u) hn (by omega) (by omega)
    exact hf _ this.1 this.2
  · split
    · have := eZ_bd n (2 * (n - u)) hn (by omega) (by omega)
      exact (hf _ this.1 this.2).symm
    · have := eZ_bd n n hn (by omega) (by omega)
      exact ⟨(hf _ this.1 this.2).1, (hf _ this.1 this.2).1⟩
theorem ptG_bd (z : Int) (z0 : 0 ≤ z) (z1 : z ≤ 56593902016227522) : (ptG z).re.natAbs ≤ 72057594037932032 ∧ (ptG z).im.natAbs ≤ 72057594037932032 := by
  have := pt_bd2 z (by omega)
  unfold ptG
  simp only
  generalize pt z = s at *
  exact this
theorem rpt_bd (n u : Int) (hn : IsLen n) (h0 : 0 ≤ u) (h1 : u < n) : (rpt n u).re.natAbs ≤ 72057594037932032 ∧ (rpt n u).im.natAbs ≤ 72057594037932032 :=
  rptF_bd ptG 72057594037932032 ptG_bd n u hn h0 h1

/-- .. so that no part of a root is more than 2^bits. -/
theorem rnd_top (x : Int) (s : Nat) (h0 : 16 ≤ s) (h1 : s ≤ 56) (hx : x.natAbs ≤ 72057594037932032) : (rnd x s 1).natAbs ≤ 2 ^ (56 - s) := by
  have h := rnd_off x s 1 (by omega)
  have h2 := h.2.2
  have hp : (2 : Int) ^ s * 2 ^ (56 - s) = 72057594037927936 := by rw [← Int.pow_add, show s + (56 - s) = 56 by omega]; rfl
  have hp2 : (65536 : Int) ≤ 2 ^ s := by
    have : (2 : Nat) ^ 16 ≤ 2 ^ s := Nat.pow_le_pow_right (by decide) h0
    have c : ((2 ^ s : Nat) : Int) = 2 ^ s := by rw [Int.natCast_pow]; rfl
    omega
  have hc : (((2 : Nat) ^ (56 - s) : Nat) : Int) = 2 ^ (56 - s) := by rw [Int.natCast_pow]; rfl
  generalize (2 : Int) ^ (56 - s) = B at *
  generalize (2 : Nat) ^ (56 - s) = B' at *
  generalize (2 : Int) ^ s = S at *
  generalize rnd x s 1 = r at *
  have a1 : r ≤ B := by
    by_cases c : r ≤ B
    · exact c
    · exfalso
      have := Int.mul_le_mul_of_nonneg_right (show B + 1 ≤ r by omega) (show 0 ≤ S by omega)
      rw [Int.add_mul, Int.one_mul, Int.mul_comm B S, hp] at this
      omega
  have a2 : -B ≤ r := by
    by_cases c : -B ≤ r
    · exact c
    · exfalso
      have := Int.mul_le_mul_of_nonneg_right (show r ≤ -B - 1 by omega) (show 0 ≤ S by omega)
      rw [Int.sub_mul, Int.one_mul, Int.neg_mul, Int.mul_comm B S, hp] at this
      omega
  omega

theorem turn_bd (q : Int) (a : Gi) (M : Nat) (h : a.re.natAbs ≤ M ∧ a.im.natAbs ≤ M) : (a.turn q).re.natAbs ≤ M ∧ (a.turn q).im.natAbs ≤ M := by
  unfold Gi.turn
  rcases q4 q with h1 | h1 | h1 | h1 <;> simp [h1] <;> omega

theorem len_u (n k : Int) (hn : IsLen n) : 0 ≤ 4 * (k % n) % n ∧ 4 * (k % n) % n < n ∧ 0 ≤ 4 * (k % n) / n ∧ 4 * (k % n) / n < 4 ∧ 0 ≤ k % n ∧ k % n < n := by
  rcases hn with rfl | rfl | rfl | rfl | rfl <;> omega

theorem root_bd (n k : Int) (hn : IsLen n) (s : Nat) (h0 : 16 ≤ s) (h1 : s ≤ 56) : (rootG n k s).re.natAbs ≤ 2 ^ (56 - s) ∧ (rootG n k s).im.natAbs ≤ 2 ^ (56 - s) := by
  have hu := len_u n k hn
  have hb := rpt_bd n _ hn hu.1 hu.2.1
  have hr : (rsh s (rpt n (4 * (k % n) % n))).re.natAbs ≤ 2 ^ (56 - s) ∧ (rsh s (rpt n (4 * (k % n) % n))).im.natAbs ≤ 2 ^ (56 - s) := ⟨rnd_top _ s h0 h1 hb.1, rnd_top _ s h0 h1 hb.2⟩
  have := turn_bd (4 * (k % n) / n) _ _ hr
  unfold rootG Gi.conj
  simp only [Int.natAbs_neg]
  exact this

end Go.Proofs.Ytbdglbpkbpedoaa

namespace Go.Proofs.Ytbdglbpkbpedoaa
set_option linter.unusedVariables false

/-- A whole complex number among the fractions. -/
def gc (a : Gi) : Zc := ⟨(a.re : Rat), (a.im : Rat)⟩
theorem ptC_gc (z : Int) : ptC z = gc (ptG z) := by unfold ptC gc ptG; simp only

/-- i. -/
def ic : Zc := ⟨0, 1⟩
theorem ic_N1 : N1 ic 1 := by constructor <;> decide +kernel

/-- The quarter turn: its power is i, to 400 of 2^-56. -/
def quarterB : Bool :=
  let s := ppw 80 28976077832308491264
  decide (abI s.x + abI (s.y - 6277101735386680763835789423207666416102355444464034512896) + s.e ≤ 400 * 2 ^ 136)
set_option maxRecDepth 100000 in
theorem quarter_ok : quarterB = true := by decide +kernel

theorem quarter_rot : N1 ((rot 28976077832308491264).sub ic) (400 * ea) := by
  have hs := quarter_ok
  unfold quarterB at hs
  simp only [decide_eq_true_eq] at hs
  have hA := ppw_spec 80 28976077832308491264 (by decide)
  have hr : rot 28976077832308491264 = pw 28976077832308491264 := by
    rw [← rot_nat]; rfl
  rw [hr]
  unfold Ap at hA
  generalize pw 28976077832308491264 = p at *
  generalize ppw 80 28976077832308491264 = s at *
  obtain ⟨x, y, e⟩ := s
  simp only at hs hA
  have g2 := N1_int x (y - 6277101735386680763835789423207666416102355444464034512896)
  have k1 := rat_int_le hs
  have c2 : ((400 * 2 ^ 136 : Int) : Rat) = (P2 : Rat) * (400 * ea) := by decide +kernel
  have c3 : ((6277101735386680763835789423207666416102355444464034512896 : Int) : Rat) = (P2 : Rat) := rfl
  rw [Rat.intCast_add, Rat.intCast_add, c2] at k1
  rw [Rat.intCast_sub, c3] at g2
  have g3 := (hA.add g2).mono (e := (P2 : Rat) * (400 * ea)) (by grind)
  apply N1_shrink P2_pos
  refine cast (congrArg (fun z => N1 z _) ?_) g3
  apply Zc.ext2 <;> simp only [Zc.sub, Zc.add, Zc.smul, ic] <;> grind

theorem eZ_sum (n u : Int) (hn : IsLen n) (h0 : 0 ≤ u) (h1 : u < n) : (28976077832308491264 - 256 * eZ n (2 * (n - u)) - 256 * eZ n (2 * u)).natAbs ≤ 256 := by
  unfold eZ
  rcases hn with rfl | rfl | rfl | rfl | rfl <;> omega

/-- The point of a part of a quarter turn, by its rule, is near the power by its angle. -/
theorem rpt_near (n u : Int) (hn : IsLen n) (h0 : 0 ≤ u) (h1 : u < n) : N1 ((gc (rpt n u)).sub ((rot (256 * eZ n (2 * u))).smul 72057594037927936)) 27000 := by
  unfold rpt rptF
  by_cases a : 2 * u < n
  · rw [if_pos a, ← ptC_gc]
    have hz := eZ_bd n (2 * u) hn (by omega) (by omega)
    exact (pt_rot (eZ n (2 * u)) (by omega)).mono (by decide +kernel)
  · by_cases b : n < 2 * u
    · rw [if_neg a, if_pos b]
      have he := eZ_bd n (2 * (n - u)) hn (by omega) (by omega)
      have hs := eZ_sum n u hn h0 h1
      have h2 : (eZ n (2 * u)).natAbs ≤ 113187804032455100 := by omega
      generalize eZ n (2 * (n - u)) = e at *
      generalize eZ n (2 * u) = y at *
      have g1 := ic_N1.mul (pt_rot e (by omega)).conj
      have r1 := rot_N1 (-(256 * e)) (by omega)
      have g2 := ((quarter_rot.mul r1).smul (r := 72057594037927936) (by decide +kernel)).neg0
      have g3 := (rot_mul 28976077832308491264 (-(256 * e)) (by decide) (by omega)).smul (r := 72057594037927936) (by decide +kernel)
      have g4 := (rot_near (28976077832308491264 + -(256 * e)) (256 * y) 256 (by omega) (by omega) (by omega)).smul (r := 72057594037927936) (by decide +kernel)
      have g := ((g1.add g2).add g3).add g4
      have eb : (1 : Rat) * 6600 + 72057594037927936 * (400 * ea * (3 / 2)) + 72057594037927936 * ep + 72057594037927936 * (3 / 2 * (((256 : Nat) : Rat) * b2) + ep) ≤ 27000 := by decide +kernel
      refine cast (congrArg (fun z => N1 z _) ?_) (g.mono eb)
      rw [ptC_gc, rot_conj]
      unfold gc Gi.swap
      generalize rot (28976077832308491264 + -(256 * e)) = p1
      generalize rot 28976077832308491264 = p2
      generalize rot (256 * e) = p3
      generalize rot (256 * y) = p4
      apply Zc.ext2 <;> simp only [Zc.sub, Zc.add, Zc.smul, Zc.mul, Zc.conj, ic] <;> grind
    · rw [if_neg a, if_neg b]
      have e1 : eZ n n = 56593902016227522 ∧ eZ n (2 * u) = 56593902016227522 := by
        unfold eZ
        rcases hn with rfl | rfl | rfl | rfl | rfl <;> omega
      rw [e1.1, e1.2]
      have g1 := pt_rot 56593902016227522 (by decide)
      rw [ptC_gc] at g1
      have w : ((ptG 56593902016227522).re - (ptG 56593902016227522).im).natAbs ≤ 20000 := by
        have := pt_whole
        unfold ptG
        simp only
        exact this
      generalize ptG 56593902016227522 = p at *
      have k1 := rat_int_le (show p.re - p.im ≤ 20000 by omega)
      have k2 := rat_int_le (show -20000 ≤ p.re - p.im by omega)
      have c1 : ((20000 : Int) : Rat) = 20000 := rfl
      have c2 : ((-20000 : Int) : Rat) = -20000 := rfl
      rw [Rat.intCast_sub, c1] at k1
      rw [Rat.intCast_sub, c2] at k2
      have g2 : N1 (⟨0, (p.re : Rat) - (p.im : Rat)⟩ : Zc) 20000 := N1.of (p := 0) (q := 20000) ⟨by simp only; grind, by simp only; grind⟩ ⟨by simp only; grind, by simp only; grind⟩ (by grind)
      have g := (g1.add g2).mono (e := 27000) (by decide +kernel)
      refine cast (congrArg (fun z => N1 z _) ?_) g
      unfold gc
      apply Zc.ext2 <;> simp only [Zc.sub, Zc.add, Zc.smul] <;> grind

/-- A root's point, rounded: how far it is off. -/
structure Off (z : Zc) : Prop where
  n : N1 z (1001 / 1000)
  re : -(501 / 1000) ≤ z.re ∧ z.re ≤ 501 / 1000
  im : -(501 / 1000) ≤ z.im ∧ z.im ≤ 501 / 1000

theorem rsh_near (p : Gi) (r : Zc) (s : Nat) (h0 : 26 ≤ s) (h1 : s ≤ 56) (h : N1 ((gc p).sub (r.smul 72057594037927936)) 27000) :
    Off ((gc (rsh s p)).sub (r.smul (((2 ^ (56 - s) : Int)) : Rat))) := by
  have ha := rnd_off p.re s 1 (by omega)
  have hb := rnd_off p.im s 1 (by omega)
  have hp : (2 : Int) ^ s * 2 ^ (56 - s) = 72057594037927936 := by rw [← Int.pow_add, show s + (56 - s) = 56 by omega]; rfl
  have hp2 : (67108864 : Int) ≤ 2 ^ s := by
    have : (2 : Nat) ^ 26 ≤ 2 ^ s := Nat.pow_le_pow_right (by decide) h0
    have c : ((2 ^ s : Nat) : Int) = 2 ^ s := by rw [Int.natCast_pow]; rfl
    omega
  unfold rsh gc at *
  simp only
  generalize rnd p.re s 1 = x at *
  generalize rnd p.im s 1 = y at *
  generalize p.re = a at *
  generalize p.im = b at *
  generalize (2 : Int) ^ (56 - s) = B at *
  generalize (2 : Int) ^ s = S at *
  have a2 := ha.2.2
  have b2 := hb.2.2
  have q1 := rat_int_le (show 2 * (a - x * S) ≤ S by omega)
  have q2 := rat_int_le (show -S ≤ 2 * (a - x * S) by omega)
  have q3 := rat_int_le (show 2 * (b - y * S) ≤ S by omega)
  have q4 := rat_int_le (show -S ≤ 2 * (b - y * S) by omega)
  have q5 := rat_int_le hp2
  have c0 : ((2 : Int) : Rat) = 2 := rfl
  have c1 : ((67108864 : Int) : Rat) = 67108864 := rfl
  have c2 : ((72057594037927936 : Int) : Rat) = 72057594037927936 := rfl
  have q6 : (S : Rat) * (B : Rat) = 72057594037927936 := by rw [← Rat.intCast_mul, hp, c2]
  rw [Rat.intCast_mul, Rat.intCast_sub, Rat.intCast_mul, c0] at q1 q3
  rw [Rat.intCast_mul, Rat.intCast_sub, Rat.intCast_mul, Rat.intCast_neg, c0] at q2 q4
  rw [c1] at q5
  clear ha hb hp hp2 a2 b2
  generalize (a : Rat) = a at *
  generalize (b : Rat) = b at *
  generalize (x : Rat) = x at *
  generalize (y : Rat) = y at *
  generalize (B : Rat) = B at *
  generalize (S : Rat) = S at *
  have S0 : 0 < S := by grind
  have k := h.re
  have k' := h.im
  have kk := h
  obtain ⟨hpp, hpm, hmp, hmm⟩ := h
  simp only [Zc.sub, Zc.smul] at *
  have div : ∀ z d : Rat, S * z ≤ S * d → z ≤ d := fun z d hh => Rat.le_of_mul_le_mul_left hh S0
  refine ⟨⟨?_, ?_, ?_, ?_⟩, ⟨?_, ?_⟩, ⟨?_, ?_⟩⟩ <;> apply div <;> simp only <;> grind

end Go.Proofs.Ytbdglbpkbpedoaa

namespace Go.Proofs.Ytbdglbpkbpedoaa
set_option linter.unusedVariables false

def Gi.less (a b : Gi) : Gi := ⟨a.re - b.re, a.im - b.im⟩
def Gi.up (B : Int) (a : Gi) : Gi := ⟨a.re * B, a.im * B⟩

theorem mul_turn (p q : Int) (a b : Gi) : (a.turn p).mul (b.turn q) = (a.mul b).turn (p + q) := by
  unfold Gi.turn Gi.mul
  rcases q4 p with h1 | h1 | h1 | h1 <;> rcases q4 q with h2 | h2 | h2 | h2 <;> first
    | (have h3 : (p + q) % 4 = 0 := by omega
       simp only [h1, h2, h3]; apply Gi.ext2 <;> simp <;> grind)
    | (have h3 : (p + q) % 4 = 1 := by omega
       simp only [h1, h2, h3]; apply Gi.ext2 <;> simp <;> grind)
    | (have h3 : (p + q) % 4 = 2 := by omega
       simp only [h1, h2, h3]; apply Gi.ext2 <;> simp <;> grind)
    | (have h3 : (p + q) % 4 = 3 := by omega
       simp only [h1, h2, h3]; apply Gi.ext2 <;> simp <;> grind)

theorem conj_mul_gi (a b : Gi) : a.conj.mul b.conj = (a.mul b).conj := by
  apply Gi.ext2 <;> simp only [Gi.mul, Gi.conj] <;> grind
theorem turn_less (q : Int) (a b : Gi) : (a.less b).turn q = (a.turn q).less (b.turn q) := by
  unfold Gi.turn Gi.less
  rcases q4 q with h | h | h | h <;> simp [h] <;> omega
theorem turn_up (q B : Int) (a : Gi) : (a.up B).turn q = (a.turn q).up B := by
  unfold Gi.turn Gi.up
  rcases q4 q with h | h | h | h <;> simp [h, Int.neg_mul]
theorem conj_less (a b : Gi) : (a.less b).conj = a.conj.less b.conj := by
  apply Gi.ext2 <;> simp only [Gi.less, Gi.conj] <;> omega
theorem conj_up (B : Int) (a : Gi) : (a.up B).conj = a.conj.up B := by
  apply Gi.ext2 <;> simp only [Gi.up, Gi.conj]
  rw [Int.neg_mul]
theorem turn_turn (p q : Int) (a : Gi) : (a.turn p).turn q = a.turn (p + q) := by
  unfold Gi.turn
  rcases q4 p with h1 | h1 | h1 | h1 <;> rcases q4 q with h2 | h2 | h2 | h2 <;> first
    | (have h3 : (p + q) % 4 = 0 := by omega
       simp [h1, h2, h3]; done)
    | (have h3 : (p + q) % 4 = 1 := by omega
       simp [h1, h2, h3]; done)
    | (have h3 : (p + q) % 4 = 2 := by omega
       simp [h1, h2, h3]; done)
    | (have h3 : (p + q) % 4 = 3 := by omega
       simp [h1, h2, h3]; done)

/-- The sum of what is off. -/
theorem off_prod (ra rb rc ea' eb' ec t : Zc) (B : Rat) (hB : 4096 ≤ B) (hB2 : B ≤ 1073741824) (ha : N1 ra (3 / 2)) (hb : N1 rb (3 / 2)) (oa : Off ea') (ob : Off eb') (oc : Off ec)
    (ht : N1 (((ra.mul rb).sub (t.mul rc))) (2000 * ea)) (tt : t = Zc.one ∨ t = ic) (x y : Rat)
    (hx : x = ((ra.smul B).add ea').re * ((rb.smul B).add eb').re - ((ra.smul B).add ea').im * ((rb.smul B).add eb').im - B * (t.mul ((rc.smul B).add ec)).re)
    (hy : y = ((ra.smul B).add ea').re * ((rb.smul B).add eb').im + ((ra.smul B).add ea').im * ((rb.smul B).add eb').re - B * (t.mul ((rc.smul B).add ec)).im) :
    (-(4 * B) ≤ x ∧ x ≤ 4 * B) ∧ (-(4 * B) ≤ y ∧ y ≤ 4 * B) := by
  have B0 : 0 ≤ B := by grind
  have BB : B * B ≤ 1073741824 * B := Rat.mul_le_mul_of_nonneg_right hB2 B0
  have g1 := (ht.smul (r := B * B) (Rat.mul_nonneg B0 B0))
  have g2 := (ha.mul ob.n).smul B0
  have g3 := (oa.n.mul hb).smul B0
  have g4 := oa.n.mul ob.n
  have g := ((g1.add g2).add g3).add g4
  have eap : 0 ≤ ea := by decide +kernel
  have e1 : (1073741824 : Rat) * (2000 * ea) ≤ 1 / 1000 := by decide +kernel
  have k1 := Rat.mul_le_mul_of_nonneg_right BB (show 0 ≤ 2000 * ea by grind)
  have k2 := Rat.mul_le_mul_of_nonneg_right e1 B0
  have g' := g.mono (e := 3005 / 1000 * B + 1003 / 1000) (by grind)
  have r1 := g'.re
  have i1 := g'.im
  have c1 := oc.re
  have c2 := oc.im
  have m1 := Rat.mul_le_mul_of_nonneg_left c1.1 B0
  have m2 := Rat.mul_le_mul_of_nonneg_left c1.2 B0
  have m3 := Rat.mul_le_mul_of_nonneg_left c2.1 B0
  have m4 := Rat.mul_le_mul_of_nonneg_left c2.2 B0
  clear g g1 g2 g3 g4 g' ht ha hb oa ob oc k1 k2 BB
  rcases tt with rfl | rfl
  · simp only [Zc.add, Zc.sub, Zc.smul, Zc.mul, Zc.one] at *
    refine ⟨⟨?_, ?_⟩, ⟨?_, ?_⟩⟩ <;> subst hx hy <;> grind
  · simp only [Zc.add, Zc.sub, Zc.smul, Zc.mul, ic] at *
    refine ⟨⟨?_, ?_⟩, ⟨?_, ?_⟩⟩ <;> subst hx hy <;> grind

theorem one_mul' (r : Zc) : Zc.one.mul r = r := by apply Zc.ext2 <;> simp only [Zc.mul, Zc.one] <;> grind

theorem tau (ya yb yc c : Int) (hc : c = 0 ∨ c = 1) (a0 : 0 ≤ ya) (a1 : ya ≤ 113187804032455044) (b0 : 0 ≤ yb) (b1 : yb ≤ 113187804032455044) (c0 : 0 ≤ yc) (c1 : yc ≤ 113187804032455044)
    (h : (ya + yb - (yc + c * 113187804032455044)).natAbs ≤ 1) :
    N1 (((rot (256 * ya)).mul (rot (256 * yb))).sub ((if c = 0 then Zc.one else ic).mul (rot (256 * yc)))) (2000 * ea) := by
  have g1 := rot_mul (256 * ya) (256 * yb) (by omega) (by omega)
  rcases hc with rfl | rfl
  · rw [if_pos rfl, one_mul']
    have g2 := rot_near (256 * ya + 256 * yb) (256 * yc) 256 (by omega) (by omega) (by omega)
    have g := (g1.add g2).mono (e := 2000 * ea) (by decide +kernel)
    refine cast (congrArg (fun z => N1 z _) ?_) g
    generalize rot (256 * ya + 256 * yb) = p1
    apply Zc.ext2 <;> simp only [Zc.sub, Zc.add, Zc.mul] <;> grind
  · rw [if_neg (by decide)]
    have g2 := rot_near (256 * ya + 256 * yb) (28976077832308491264 + 256 * yc) 256 (by omega) (by omega) (by omega)
    have g3 := (rot_mul 28976077832308491264 (256 * yc) (by decide) (by omega)).neg0
    have g4 := quarter_rot.mul (rot_N1 (256 * yc) (by omega))
    have g := (((g1.add g2).add g3).add g4).mono (e := 2000 * ea) (by decide +kernel)
    refine cast (congrArg (fun z => N1 z _) ?_) g
    generalize rot (256 * ya + 256 * yb) = p1
    generalize rot (28976077832308491264 + 256 * yc) = p2
    generalize rot 28976077832308491264 = p3
    generalize rot (256 * ya) = p4
    generalize rot (256 * yb) = p5
    generalize rot (256 * yc) = p6
    apply Zc.ext2 <;> simp only [Zc.sub, Zc.add, Zc.mul] <;> grind

theorem carry (n k m : Int) (hn : IsLen n) : ∃ c : Int, (c = 0 ∨ c = 1) ∧ 4 * (k % n) % n + 4 * (m % n) % n = 4 * ((k + m) % n) % n + c * n ∧ (4 * ((k + m) % n) / n) % 4 = (4 * (k % n) / n + 4 * (m % n) / n + c) % 4 := by
  refine ⟨(4 * (k % n) % n + 4 * (m % n) % n) / n, ?_, ?_, ?_⟩ <;> rcases hn with rfl | rfl | rfl | rfl | rfl <;> omega

theorem eZ_carry (n ua ub uc c : Int) (hn : IsLen n) (hc : c = 0 ∨ c = 1) (h : ua + ub = uc + c * n) (a0 : 0 ≤ ua) (a1 : ua < n) (b0 : 0 ≤ ub) (b1 : ub < n) (c0 : 0 ≤ uc) (c1 : uc < n) :
    (eZ n (2 * ua) + eZ n (2 * ub) - (eZ n (2 * uc) + c * 113187804032455044)).natAbs ≤ 1 ∧ 0 ≤ eZ n (2 * ua) ∧ eZ n (2 * ua) ≤ 113187804032455044 ∧ 0 ≤ eZ n (2 * ub) ∧ eZ n (2 * ub) ≤ 113187804032455044 ∧ 0 ≤ eZ n (2 * uc) ∧ eZ n (2 * uc) ≤ 113187804032455044 := by
  unfold eZ
  rcases hn with rfl | rfl | rfl | rfl | rfl <;> rcases hc with rfl | rfl <;> omega

theorem one_turn (c : Int) (hc : c = 0 ∨ c = 1) (a : Gi) : gc (a.turn c) = (if c = 0 then Zc.one else ic).mul (gc a) := by
  rcases hc with rfl | rfl
  · rw [if_pos rfl, one_mul']; rfl
  · rw [if_neg (by decide)]
    unfold gc Gi.turn
    apply Zc.ext2 <;> simp [Zc.mul, ic, Rat.intCast_neg] <;> grind

theorem int_le4 (x B : Int) (h0 : -(4 * (B : Rat)) ≤ (x : Rat)) (h1 : (x : Rat) ≤ 4 * (B : Rat)) : -(4 * B) ≤ x ∧ x ≤ 4 * B := by
  have c : ((4 * B : Int) : Rat) = 4 * (B : Rat) := by rw [Rat.intCast_mul]; rfl
  have c' : ((-(4 * B) : Int) : Rat) = -(4 * (B : Rat)) := by rw [Rat.intCast_neg, c]
  rw [← c] at h1
  rw [← c'] at h0
  exact ⟨Rat.intCast_le_intCast.1 h0, Rat.intCast_le_intCast.1 h1⟩

theorem root_prod (n k m : Int) (hn : IsLen n) (s : Nat) (h0 : 26 ≤ s) (h1 : s ≤ 44) (B : Int) (hB : B = 2 ^ (56 - s)) :
    (((rootG n k s).mul (rootG n m s)).less ((rootG n (k + m) s).up B)).re.natAbs ≤ (4 * B).toNat ∧ (((rootG n k s).mul (rootG n m s)).less ((rootG n (k + m) s).up B)).im.natAbs ≤ (4 * B).toNat := by
  obtain ⟨c, hc, hu, hq⟩ := carry n k m hn
  have la := len_u n k hn
  have lb := len_u n m hn
  have lc := len_u n (k + m) hn
  have ez := eZ_carry n _ _ _ c hn hc hu la.1 la.2.1 lb.1 lb.2.1 lc.1 lc.2.1
  have na := rpt_near n _ hn la.1 la.2.1
  have nb := rpt_near n _ hn lb.1 lb.2.1
  have nc := rpt_near n _ hn lc.1 lc.2.1
  unfold rootG
  generalize 4 * (k % n) % n = ua at *
  generalize 4 * (m % n) % n = ub at *
  generalize 4 * ((k + m) % n) % n = uc at *
  generalize 4 * (k % n) / n = qa at *
  generalize 4 * (m % n) / n = qb at *
  generalize 4 * ((k + m) % n) / n = qc at *
  have oa := rsh_near _ _ s h0 (by omega) na
  have ob := rsh_near _ _ s h0 (by omega) nb
  have oc := rsh_near _ _ s h0 (by omega) nc
  rw [← hB] at oa ob oc
  have ht := tau _ _ _ c hc ez.2.1 ez.2.2.1 ez.2.2.2.1 ez.2.2.2.2.1 ez.2.2.2.2.2.1 ez.2.2.2.2.2.2 ez.1
  have ra := rot_N1 (256 * eZ n (2 * ua)) (by omega)
  have rb := rot_N1 (256 * eZ n (2 * ub)) (by omega)
  have B1 : (4096 : Int) ≤ B := by
    have : (2 : Nat) ^ 12 ≤ 2 ^ (56 - s) := Nat.pow_le_pow_right (by decide) (by omega)
    have c : ((2 ^ (56 - s) : Nat) : Int) = 2 ^ (56 - s) := by rw [Int.natCast_pow]; rfl
    omega
  have B2 : B ≤ 1073741824 := by
    have : (2 : Nat) ^ (56 - s) ≤ 2 ^ 30 := Nat.pow_le_pow_right (by decide) (by omega)
    have c : ((2 ^ (56 - s) : Nat) : Int) = 2 ^ (56 - s) := by rw [Int.natCast_pow]; rfl
    omega
  clear na nb nc ez hB hu la lb lc
  generalize rsh s (rpt n ua) = a at *
  generalize rsh s (rpt n ub) = b at *
  generalize rsh s (rpt n uc) = d at *
  generalize rot (256 * eZ n (2 * ua)) = pa at *
  generalize rot (256 * eZ n (2 * ub)) = pb at *
  generalize rot (256 * eZ n (2 * uc)) = pc at *
  -- the turns
  have e1 : ((a.turn qa).conj.mul (b.turn qb).conj).less ((d.turn qc).conj.up B) = (((a.mul b).less ((d.turn c).up B)).turn (qa + qb)).conj := by
    rw [conj_mul_gi, mul_turn, ← conj_up, ← conj_less]
    congr 1
    rw [turn_less, turn_up, turn_turn, turn_congr qc (c + (qa + qb)) (by omega)]
  rw [e1]
  have key : ((a.mul b).less ((d.turn c).up B)).re.natAbs ≤ (4 * B).toNat ∧ ((a.mul b).less ((d.turn c).up B)).im.natAbs ≤ (4 * B).toNat := by
    have K1 := rat_int_le B1
    have K2 := rat_int_le B2
    have tt : (if c = 0 then Zc.one else ic) = Zc.one ∨ (if c = 0 then Zc.one else ic) = ic := by split; exact .inl rfl; exact .inr rfl
    have ed := one_turn c hc d
    generalize (if c = 0 then Zc.one else ic) = t at *
    generalize d.turn c = d' at *
    have fa : (pa.smul (B : Rat)).add ((gc a).sub (pa.smul (B : Rat))) = gc a := by apply Zc.ext2 <;> simp only [Zc.add, Zc.sub, Zc.smul] <;> grind
    have fb : (pb.smul (B : Rat)).add ((gc b).sub (pb.smul (B : Rat))) = gc b := by apply Zc.ext2 <;> simp only [Zc.add, Zc.sub, Zc.smul] <;> grind
    have fc : (pc.smul (B : Rat)).add ((gc d).sub (pc.smul (B : Rat))) = gc d := by apply Zc.ext2 <;> simp only [Zc.add, Zc.sub, Zc.smul] <;> grind
    have P := off_prod pa pb pc _ _ _ t (B : Rat) K1 K2 ra rb oa ob oc ht tt (((a.mul b).less (d'.up B)).re : Int) (((a.mul b).less (d'.up B)).im : Int)
      (by rw [fa, fb, fc, ← ed]; simp only [Gi.mul, Gi.less, Gi.up, gc]; rw [Rat.intCast_sub, Rat.intCast_sub, Rat.intCast_mul, Rat.intCast_mul, Rat.intCast_mul]; grind)
      (by rw [fa, fb, fc, ← ed]; simp only [Gi.mul, Gi.less, Gi.up, gc]; rw [Rat.intCast_sub, Rat.intCast_add, Rat.intCast_mul, Rat.intCast_mul, Rat.intCast_mul]; grind)
    have p1 := int_le4 _ _ P.1.1 P.1.2
    have p2 := int_le4 _ _ P.2.1 P.2.2
    omega
  have := turn_bd (qa + qb) _ _ key
  unfold Gi.conj
  simp only [Int.natAbs_neg]
  exact this

end Go.Proofs.Ytbdglbpkbpedoaa
