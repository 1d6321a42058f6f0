/- Points: how great they are, products of two, opposites, all as whole numbers. -/
import Derived.Test.YtkbnhoapfjkajaaRot7
namespace Go.Proofs.Ytkbnhoapfjkajaa

theorem pt_bd (z : Int) (hz : z.natAbs ≤ 72057594037927936) : (pt z).re.natAbs ≤ 144115188075855872 ∧ (pt z).im.natAbs ≤ 144115188075855872 := by
  have h := (pt_square z hz).2
  generalize (pt z).re = a at *
  generalize (pt z).im = b at *
  have qa : ((a.natAbs * a.natAbs : Nat) : Int) = a * a := Int.natAbs_mul_self
  have qb : ((b.natAbs * b.natAbs : Nat) : Int) = b * b := Int.natAbs_mul_self
  generalize a.natAbs = m at *
  generalize b.natAbs = n at *
  constructor
  · by_cases c : m ≤ 144115188075855872
    · exact c
    · have := Nat.mul_le_mul (show 144115188075855872 ≤ m by omega) (show 144115188075855872 ≤ m by omega)
      generalize m * m = p at *
      generalize n * n = q at *
      omega
  · by_cases c : n ≤ 144115188075855872
    · exact c
    · have := Nat.mul_le_mul (show 144115188075855872 ≤ n by omega) (show 144115188075855872 ≤ n by omega)
      generalize m * m = p at *
      generalize n * n = q at *
      omega

/-- Two points' product is near the point of both angles, or of one next to it. -/
theorem pt_prod (y z s : Int) (hy : y.natAbs ≤ 72057594037927936) (hz : z.natAbs ≤ 72057594037927936) (hs : s.natAbs ≤ 72057594037927936) (hd : (s - (y + z)).natAbs ≤ 1) :
    N1 (((ptC s).smul 72057594037927936).sub ((ptC y).mul (ptC z))) (72057594037927936 * 30000) := by
  have h1 := pt_rot y hy
  have h2 := pt_rot z hz
  have h3 := (pt_rot s hs).smul (r := 72057594037927936) (by decide +kernel)
  have n1 := rot_near (256 * s) (256 * y + 256 * z) 256 (by omega) (by omega) (by omega)
  have n2 := rot_mul (256 * y) (256 * z) (by omega) (by omega)
  have r1 := rot_N1 (256 * y) (by omega)
  have r2 := rot_N1 (256 * z) (by omega)
  have g1 := n1.smul (r := 5192296858534827628530496329220096) (by decide +kernel)
  have g2 := (n2.smul (r := 5192296858534827628530496329220096) (by decide +kernel)).neg0
  have g3 := ((r1.mul h2).smul (r := 72057594037927936) (by decide +kernel)).neg0
  have g4 := ((h1.mul r2).smul (r := 72057594037927936) (by decide +kernel)).neg0
  have g5 := (h1.mul h2).neg0
  have g := ((((h3.add g1).add g2).add g3).add g4).add g5
  have e : (72057594037927936 : Rat) * 6600 + 5192296858534827628530496329220096 * (3 / 2 * (((256 : Nat) : Rat) * b2) + ep) + 5192296858534827628530496329220096 * ep + 72057594037927936 * (3 / 2 * 6600) + 72057594037927936 * (6600 * (3 / 2)) + 6600 * 6600 ≤ 72057594037927936 * 30000 := by decide +kernel
  clear n1 n2 g1 g2 g3 g4 g5 h1 h2 h3 r1 r2
  refine cast (congrArg (fun z => N1 z _) ?_) (g.mono e)
  generalize rot (256 * s) = a
  generalize rot (256 * y + 256 * z) = b
  generalize rot (256 * y) = c
  generalize rot (256 * z) = d
  generalize ptC s = p
  generalize ptC y = q
  generalize ptC z = r
  apply Zc.ext2 <;> simp only [Zc.sub, Zc.add, Zc.smul, Zc.mul] <;> grind

/-- .. in whole numbers. -/
theorem pt_prodZ (y z s : Int) (hy : y.natAbs ≤ 72057594037927936) (hz : z.natAbs ≤ 72057594037927936) (hs : s.natAbs ≤ 72057594037927936) (hd : (s - (y + z)).natAbs ≤ 1) :
    (72057594037927936 * (pt s).re - ((pt y).re * (pt z).re - (pt y).im * (pt z).im)).natAbs ≤ 2161727821137838080000 ∧
    (72057594037927936 * (pt s).im - ((pt y).re * (pt z).im + (pt y).im * (pt z).re)).natAbs ≤ 2161727821137838080000 := by
  have g := pt_prod y z s hy hz hs hd
  have c : ((2161727821137838080000 : Int) : Rat) = 72057594037927936 * 30000 := by decide +kernel
  have c' : ((-2161727821137838080000 : Int) : Rat) = -(72057594037927936 * 30000) := by decide +kernel
  have o : ((72057594037927936 : Int) : Rat) = 72057594037927936 := by decide +kernel
  have h1 := g.re
  have h2 := g.im
  simp only [Zc.sub, Zc.smul, Zc.mul, ptC] at h1 h2
  have key : ∀ x : Int, -(72057594037927936 * 30000) ≤ (x : Rat) → (x : Rat) ≤ 72057594037927936 * 30000 → x.natAbs ≤ 2161727821137838080000 := by
    intro x a b
    rw [← c] at b
    rw [← c'] at a
    have := Rat.intCast_le_intCast.1 a
    have := Rat.intCast_le_intCast.1 b
    omega
  constructor
  · refine key _ ?_ ?_ <;> simp only [Rat.intCast_sub, Rat.intCast_mul, o]
    · exact h1.1
    · exact h1.2
  · refine key _ ?_ ?_ <;> simp only [Rat.intCast_sub, Rat.intCast_add, Rat.intCast_mul, o]
    · exact h2.1
    · exact h2.2

/-- A product of two numbers of 2^56 a one, rounded towards 0. -/
def mq (a b : Int) : Int := (a * b).tdiv 72057594037927936
theorem mq_bd (a b : Int) : 72057594037927936 * mq a b - 72057594037927936 < a * b ∧ a * b < 72057594037927936 * mq a b + 72057594037927936 := by
  unfold mq
  generalize a * b = p
  have h1 := Int.mul_tdiv_add_tmod p 72057594037927936
  have h2 := Int.tmod_lt_of_pos p (show (0 : Int) < 72057594037927936 by decide)
  have h3 : -72057594037927936 < p.tmod 72057594037927936 := by
    have := Int.lt_tmod_of_pos p (show (0 : Int) < 72057594037927936 by decide)
    omega
  omega

theorem pt_mul (y z s : Int) (hy : y.natAbs ≤ 72057594037927936) (hz : z.natAbs ≤ 72057594037927936) (hs : s.natAbs ≤ 72057594037927936) (hd : (s - (y + z)).natAbs ≤ 1) :
    ((pt s).re - (mq (pt y).re (pt z).re - mq (pt y).im (pt z).im)).natAbs ≤ 30002 ∧ ((pt s).im - (mq (pt y).re (pt z).im + mq (pt y).im (pt z).re)).natAbs ≤ 30002 := by
  have h := pt_prodZ y z s hy hz hs hd
  have a1 := mq_bd (pt y).re (pt z).re
  have a2 := mq_bd (pt y).im (pt z).im
  have a3 := mq_bd (pt y).re (pt z).im
  have a4 := mq_bd (pt y).im (pt z).re
  generalize (pt y).re * (pt z).re = p1 at *
  generalize (pt y).im * (pt z).im = p2 at *
  generalize (pt y).re * (pt z).im = p3 at *
  generalize (pt y).im * (pt z).re = p4 at *
  omega

theorem pt_len (z : Int) (hz : z.natAbs ≤ 72057594037927936) : (mq (pt z).re (pt z).re + mq (pt z).im (pt z).im - 72057594037927936).natAbs ≤ 8200 := by
  have h := pt_square z hz
  have a1 := mq_bd (pt z).re (pt z).re
  have a2 := mq_bd (pt z).im (pt z).im
  generalize (pt z).re * (pt z).re = p1 at *
  generalize (pt z).im * (pt z).im = p2 at *
  omega

theorem mq_size (a b : Int) (ha : a.natAbs ≤ 144115188075855872) (hb : b.natAbs ≤ 144115188075855872) : (mq a b).natAbs ≤ 288230376151711745 := by
  have h := mq_bd a b
  have q : (a * b).natAbs ≤ 144115188075855872 * 144115188075855872 := by rw [Int.natAbs_mul]; exact Nat.mul_le_mul ha hb
  generalize a * b = p at *
  omega

theorem N1.toInt {x y : Int} {n : Nat} (h : N1 ⟨(x : Rat), (y : Rat)⟩ (n : Rat)) : x.natAbs ≤ n ∧ y.natAbs ≤ n := by
  have h1 := h.re
  have h2 := h.im
  simp only at h1 h2
  have c : ((n : Nat) : Rat) = ((n : Int) : Rat) := rfl
  rw [c] at h1 h2
  have d : -((n : Int) : Rat) = ((-(n : Int) : Int) : Rat) := by rw [Rat.intCast_neg]
  rw [d] at h1 h2
  have := Rat.intCast_le_intCast.1 h1.1
  have := Rat.intCast_le_intCast.1 h1.2
  have := Rat.intCast_le_intCast.1 h2.1
  have := Rat.intCast_le_intCast.1 h2.2
  omega

/-- The opposite angle's point. -/
theorem pt_conj (z : Int) (hz : z.natAbs ≤ 72057594037927936) : ((pt z).re - (pt (-z)).re).natAbs ≤ 13200 ∧ ((pt z).im + (pt (-z)).im).natAbs ≤ 13200 := by
  have h1 := pt_rot z hz
  have h2 := (pt_rot (-z) (by omega)).conj
  rw [Int.mul_neg, rot_conj] at h2
  have g := h1.add h2.neg0
  have e : (6600 : Rat) + 6600 = ((13200 : Nat) : Rat) := by decide +kernel
  rw [e] at g
  have := N1.toInt (x := (pt z).re - (pt (-z)).re) (y := (pt z).im + (pt (-z)).im) (n := 13200) (by
    refine cast (congrArg (fun z => N1 z _) ?_) g
    simp only [ptC]
    generalize rot (256 * z) = r
    rw [Rat.intCast_sub, Rat.intCast_add]
    apply Zc.ext2 <;> simp only [Zc.sub, Zc.add, Zc.smul, Zc.conj] <;> grind)
  exact this

/-- An eighth's whole: its parts are as long. -/
theorem pt_whole : ((pt 56593902016227522).re - (pt 56593902016227522).im).natAbs ≤ 20000 := by
  have e0 : ((ang 0 : Nat) : Int) = 56593902016227522 := by decide +kernel
  have h := pt_rot 56593902016227522 (by decide)
  obtain ⟨s1, s2⟩ := step_near 0 (by omega)
  rw [e0] at s1
  have hj0 : hj 0 = 1 := by decide +kernel
  rw [hj0] at s1
  generalize rot (256 * 56593902016227522) = r at *
  generalize rr 0 = m at *
  unfold ptC at h
  generalize (pt 56593902016227522).re = a at *
  generalize (pt 56593902016227522).im = b at *
  have k1 := s1.pm
  have k2 := s1.mp
  have h1 := h.pm
  have h2 := h.mp
  simp only [Zc.sub, Zc.smul] at k1 k2 h1 h2
  have ea0 : (72057594037927936 : Rat) * ea = 1 := ea_eq
  have eap : 0 ≤ ea := by decide +kernel
  have d1 : r.re - r.im ≤ 3 * ea := by
    by_cases c : 0 ≤ r.re - r.im
    · have := Rat.mul_le_mul_of_nonneg_right s2 c
      grind
    · grind
  have d2 : r.im - r.re ≤ 3 * ea := by
    by_cases c : 0 ≤ r.im - r.re
    · have := Rat.mul_le_mul_of_nonneg_right s2 c
      grind
    · grind
  have f1 : ((a - b : Int) : Rat) ≤ ((20000 : Int) : Rat) := by
    rw [Rat.intCast_sub, show ((20000 : Int) : Rat) = 20000 by decide +kernel]; grind
  have f2 : ((b - a : Int) : Rat) ≤ ((20000 : Int) : Rat) := by
    rw [Rat.intCast_sub, show ((20000 : Int) : Rat) = 20000 by decide +kernel]; grind
  have := Rat.intCast_le_intCast.1 f1
  have := Rat.intCast_le_intCast.1 f2
  omega

set_option maxRecDepth 100000 in
theorem pt_zero : (pt 0).re = 72057594037927937 ∧ (pt 0).im = 2190 := by decide +kernel

/-- The angle of an eighth's part. -/
def eighthZ (k log : Int) : Int := 56593902016227522 * k / 2 ^ log.toNat

theorem eighthZ_bd (k log : Int) (h0 : 0 ≤ log) (h1 : log ≤ 6) (k0 : 0 ≤ k) (k1 : k ≤ 2 ^ log.toNat) : (eighthZ k log).natAbs ≤ 72057594037927936 ∧ 0 ≤ eighthZ k log ∧ k ≤ 64 := by
  unfold eighthZ
  rcases (by omega : log = 0 ∨ log = 1 ∨ log = 2 ∨ log = 3 ∨ log = 4 ∨ log = 5 ∨ log = 6) with rfl | rfl | rfl | rfl | rfl | rfl | rfl <;> simp at k1 ⊢ <;> omega

end Go.Proofs.Ytkbnhoapfjkajaa
