/- Turns by steps, with whole numbers, and the powers that they are near to. -/
import Derived.Test.YtkbnhoapfjkajaaRot4
namespace Go.Proofs.Ytkbnhoapfjkajaa

/-- A length that is turned, and what is left of the angle. -/
structure Tn where
  re : Int
  im : Int
  left : Int

def tstep (j : Nat) (s : Tn) : Tn :=
  if 0 ≤ s.left then ⟨s.re - s.im / 2 ^ j, s.im + s.re / 2 ^ j, s.left - ang j⟩ else ⟨s.re + s.im / 2 ^ j, s.im - s.re / 2 ^ j, s.left + ang j⟩

def trun : Nat → Tn → Tn
  | 0, s => s
  | k + 1, s => tstep k (trun k s)

/-- The lengths of the first k steps, together. -/
def lp : Nat → Rat
  | 0 => 1
  | k + 1 => lp k * rr k

def asum : Nat → Nat
  | 0 => 0
  | k + 1 => asum k + ang k

def gainK : Int := 43757185469210200

set_option maxRecDepth 100000 in
theorem lp_hi : (gainK : Rat) * lp 45 ≤ 72057594037927952 := by decide +kernel
set_option maxRecDepth 100000 in
theorem lp_lo : (72057594037927920 : Rat) ≤ (gainK : Rat) * lp 45 := by decide +kernel
set_option maxRecDepth 100000 in
theorem asum_hi : asum 45 ≤ 144115188075855872 := by decide +kernel

theorem lp_pos (k : Nat) (h : k ≤ 45) : 1 ≤ lp k := by
  induction k with
  | zero => decide +kernel
  | succ k ih =>
    have h1 := (step_near k (by omega)).2
    have h2 := ih (by omega)
    have := Rat.mul_le_mul_of_nonneg_left h1 (show 0 ≤ lp k by grind)
    rw [lp]
    grind
theorem lp_mono (k : Nat) (h : k ≤ 45) : lp k ≤ lp 45 := by
  have key : ∀ d, d ≤ 45 → lp (45 - d) ≤ lp 45 := by
    intro d
    induction d with
    | zero => intro _; exact Rat.le_refl
    | succ d ih =>
      intro hd
      have h1 := ih (by omega)
      have h2 := (step_near (45 - (d + 1)) (by omega)).2
      have h3 := lp_pos (45 - (d + 1)) (by omega)
      have e : lp (45 - d) = lp (45 - (d + 1)) * rr (45 - (d + 1)) := by
        rw [show 45 - d = 45 - (d + 1) + 1 by omega, lp]
      have := Rat.mul_le_mul_of_nonneg_left h2 (show 0 ≤ lp (45 - (d + 1)) by grind)
      grind
  have := key (45 - k) (by omega)
  rwa [show 45 - (45 - k) = k by omega] at this
theorem asum_mono (k : Nat) (h : k ≤ 45) : asum k ≤ asum 45 := by
  have key : ∀ d, d ≤ 45 → asum (45 - d) ≤ asum 45 := by
    intro d
    induction d with
    | zero => intro _; exact Nat.le_refl _
    | succ d ih =>
      intro hd
      have h1 := ih (by omega)
      have e : asum (45 - d) = asum (45 - (d + 1)) + ang (45 - (d + 1)) := by
        rw [show 45 - d = 45 - (d + 1) + 1 by omega, asum]
      omega
  have := key (45 - k) (by omega)
  rwa [show 45 - (45 - k) = k by omega] at this

/-- How far the ends may be apart. -/
def dn : Nat → Nat
  | 0 => 0
  | k + 1 => dn k + dn k / 2 ^ k + 8
theorem dn_45 : dn 45 ≤ 400 := by decide +kernel

theorem left_bd (s : Tn) (k : Nat) : ((trun k s).left - s.left).natAbs ≤ asum k := by
  induction k with
  | zero => simp [trun, asum]
  | succ k ih =>
    rw [trun, tstep, asum]
    split <;> simp only <;> omega

/-- One step, either way, of what is near a length times a power. -/
theorem step_way (k : Nat) (hk : k < 45) (re im re' im' : Int) (t s : Int) (d m : Rat) (hs : s = 1 ∨ s = -1)
    (h : N1 ((⟨(re : Rat), (im : Rat)⟩ : Zc).sub ((rot (256 * t)).smul m)) d) (m0 : 0 ≤ m) (m1 : m * rr k ≤ 72057594037927952) (ht : t.natAbs ≤ 144115188075855872) (ha : ang k ≤ 144115188075855872)
    (e1 : re' = re - s * (im / 2 ^ k)) (e2 : im' = im + s * (re / 2 ^ k)) :
    N1 ((⟨(re' : Rat), (im' : Rat)⟩ : Zc).sub ((rot (256 * (t + s * ang k))).smul (m * rr k))) (d * (1 + hj k) + 7) := by
  obtain ⟨n1, n2⟩ := step_near k hk
  -- the step's turn, either way
  have hc : N1 (((rot (256 * (s * ang k))).smul (rr k)).sub ⟨1, (s : Rat) * hj k⟩) (3 * ea) := by
    rcases hs with rfl | rfl
    · rw [Int.one_mul]
      refine cast (congrArg (fun z => N1 z _) ?_) n1
      apply Zc.ext2 <;> simp only [Zc.sub, Zc.smul] <;> grind
    · rw [show (256 : Int) * (-1 * (ang k : Int)) = -(256 * (ang k : Int)) by omega, rot_conj]
      refine cast (congrArg (fun z => N1 z _) ?_) n1.conj
      apply Zc.ext2 <;> simp only [Zc.sub, Zc.smul, Zc.conj] <;> grind
  have hj0 : 0 ≤ hj k := by
    have h1 := hj_eq k
    have h2 := Rat.pow_pos (n := k) (show (0 : Rat) < 2 by decide +kernel)
    by_cases h : 0 ≤ hj k
    · exact h
    · have := Rat.mul_le_mul_of_nonneg_left (show hj k ≤ 0 by grind) (show 0 ≤ (2 : Rat) ^ k by grind)
      grind
  have hcn : N1 (⟨1, (s : Rat) * hj k⟩ : Zc) (1 + hj k) := by
    rcases hs with rfl | rfl <;> constructor <;> simp only <;> grind
  -- what was apart, turned
  have g1 := h.mul hcn
  -- the power's part
  have r1 := rot_mul (256 * t) (256 * (s * ang k)) (by omega) (by rcases hs with rfl | rfl <;> omega)
  rw [← Int.mul_add] at r1
  have m2 : 0 ≤ m * rr k := Rat.mul_nonneg m0 (by grind)
  have g2 := r1.smul m2
  have g3 := ((rot_N1 (256 * t) (by omega)).mul hc).smul m0
  -- the rounding
  have fl : ∀ x : Int, ((x / 2 ^ k : Int) : Rat) ≤ hj k * (x : Rat) ∧ hj k * (x : Rat) ≤ ((x / 2 ^ k : Int) : Rat) + 1 := by
    intro x
    have f := rat_floor x (2 ^ k) (Int.pow_pos (by decide))
    have c : (((2 : Int) ^ k : Int) : Rat) = (2 : Rat) ^ k := by rw [Rat.intCast_pow]; rfl
    rw [c] at f
    have h1 := hj_eq k
    have k1 := Rat.mul_le_mul_of_nonneg_left f.1 hj0
    have k2 := Rat.mul_le_mul_of_nonneg_left f.2 hj0
    generalize ((x / 2 ^ k : Int) : Rat) = q at *
    generalize (2 : Rat) ^ k = p at *
    constructor
    · have : hj k * (p * q) = q := by grind
      grind
    · have : hj k * (p * q + p) = q + 1 := by grind
      grind
  have f1 := fl im
  have f2 := fl re
  have c1 : (re' : Rat) = (re : Rat) - (s : Rat) * ((im / 2 ^ k : Int) : Rat) := by rw [e1, Rat.intCast_sub, Rat.intCast_mul]
  have c2 : (im' : Rat) = (im : Rat) + (s : Rat) * ((re / 2 ^ k : Int) : Rat) := by rw [e2, Rat.intCast_add, Rat.intCast_mul]
  have g4 : N1 ((⟨(re' : Rat), (im' : Rat)⟩ : Zc).sub ((⟨(re : Rat), (im : Rat)⟩ : Zc).mul ⟨1, (s : Rat) * hj k⟩)) 2 := by
    rw [c1, c2]
    generalize ((im / 2 ^ k : Int) : Rat) = A at *
    generalize ((re / 2 ^ k : Int) : Rat) = B at *
    have es : (s : Rat) = 1 ∨ (s : Rat) = -1 := by
      rcases hs with h | h
      · left; rw [h]; rfl
      · right; rw [h]; rfl
    clear g1 g2 g3 h e1 e2 c1 c2 fl r1 hc hcn n1
    rcases es with es | es <;> rw [es] <;> refine N1.of (p := 1) (q := 1) ⟨?_, ?_⟩ ⟨?_, ?_⟩ (by grind) <;> simp only [Zc.sub, Zc.mul] <;> grind
  have g3' : N1 ((⟨0, 0⟩ : Zc).sub (((rot (256 * t)).mul (((rot (256 * (s * ang k))).smul (rr k)).sub ⟨1, (s : Rat) * hj k⟩)).smul m)) (m * (3 / 2 * (3 * ea))) := N1.neg0 g3
  have g5 := ((g1.add g2).add g3').add g4
  have m3 := Rat.mul_le_mul_of_nonneg_left n2 m0
  have b1 := Rat.mul_le_mul_of_nonneg_right m1 ep_pos
  have ea0 : 0 ≤ ea := by decide +kernel
  have b2 := Rat.mul_le_mul_of_nonneg_right (show m ≤ 72057594037927952 by grind) ea0
  have v1 : (72057594037927952 : Rat) * ep ≤ 1 / 8 := by decide +kernel
  have v2 : (72057594037927952 : Rat) * ea ≤ 65 / 64 := by decide +kernel
  have g6 := g5.mono (e := d * (1 + hj k) + 7) (by grind)
  refine cast (congrArg (fun z => N1 z _) ?_) g6
  apply Zc.ext2 <;> simp only [Zc.sub, Zc.mul, Zc.add, Zc.smul] <;> grind

theorem ang_bd (k : Nat) (h : k < 45) : ang k ≤ 144115188075855872 := by
  have h1 := asum_mono (k + 1) (by omega)
  have h2 := asum_hi
  rw [asum] at h1
  omega

theorem dn_succ (k : Nat) : (dn k : Rat) * (1 + hj k) + 7 ≤ (dn (k + 1) : Rat) := by
  have h : dn k ≤ 2 ^ k * (dn k / 2 ^ k) + 2 ^ k := Nat.le_of_lt (Nat.lt_mul_div_succ _ (Nat.pow_pos (by decide)))
  have h1 := cast_le h
  rw [Rat.natCast_add, Rat.natCast_mul] at h1
  have c : (((2 : Nat) ^ k : Nat) : Rat) = (2 : Rat) ^ k := by rw [Rat.natCast_pow]; rfl
  rw [c] at h1
  have e : (dn (k + 1) : Rat) = (dn k : Rat) + ((dn k / 2 ^ k : Nat) : Rat) + 8 := by
    rw [dn, Rat.natCast_add, Rat.natCast_add]; rfl
  rw [e]
  have h2 := hj_eq k
  have hj0 : 0 ≤ hj k := by
    have h3 := Rat.pow_pos (n := k) (show (0 : Rat) < 2 by decide +kernel)
    by_cases h : 0 ≤ hj k
    · exact h
    · have := Rat.mul_le_mul_of_nonneg_left (show hj k ≤ 0 by grind) (show 0 ≤ (2 : Rat) ^ k by grind)
      grind
  have k1 := Rat.mul_le_mul_of_nonneg_left h1 hj0
  generalize ((dn k / 2 ^ k : Nat) : Rat) = q at *
  generalize (2 : Rat) ^ k = p at *
  have : hj k * (p * q + p) = q + 1 := by grind
  grind

/-- Where a turn of the inverse by an angle is behind k steps. -/
theorem run_near (z : Int) (k : Nat) (hk : k ≤ 45) :
    N1 ((⟨((trun k ⟨gainK, 0, z⟩).re : Rat), ((trun k ⟨gainK, 0, z⟩).im : Rat)⟩ : Zc).sub ((rot (256 * (z - (trun k ⟨gainK, 0, z⟩).left))).smul ((gainK : Rat) * lp k))) (dn k) := by
  induction k with
  | zero =>
    have e : (⟨((trun 0 ⟨gainK, 0, z⟩).re : Rat), ((trun 0 ⟨gainK, 0, z⟩).im : Rat)⟩ : Zc).sub ((rot (256 * (z - (trun 0 ⟨gainK, 0, z⟩).left))).smul ((gainK : Rat) * lp 0)) = ⟨0, 0⟩ := by
      simp only [trun, Int.sub_self, Int.mul_zero, rot_zero, lp]
      apply Zc.ext2 <;> simp only [Zc.sub, Zc.smul, Zc.one] <;> grind
    rw [e]
    exact N1.zero Rat.le_refl
  | succ k ih =>
    have ih := ih (by omega)
    have hl := left_bd ⟨gainK, 0, z⟩ k
    have hs := asum_mono k (by omega)
    have ha := asum_hi
    have hang := ang_bd k (by omega)
    simp only at hl
    have K0 : (0 : Rat) ≤ (gainK : Rat) := by decide +kernel
    have l1 := lp_pos k (by omega)
    have l2 := lp_mono (k + 1) hk
    have l3 := Rat.mul_le_mul_of_nonneg_left l2 K0
    have m0 : 0 ≤ (gainK : Rat) * lp k := Rat.mul_nonneg K0 (by grind)
    have m1 : (gainK : Rat) * lp k * rr k ≤ 72057594037927952 := by
      have h45 := lp_hi
      rw [lp] at l3
      grind
    have el : (gainK : Rat) * lp (k + 1) = (gainK : Rat) * lp k * rr k := by rw [lp]; grind
    rw [el]
    rw [trun]
    generalize trun k ⟨gainK, 0, z⟩ = s at *
    obtain ⟨re, im, left⟩ := s
    simp only at ih hl
    rw [tstep]
    split
    · have := step_way k (by omega) re im (re - im / 2 ^ k) (im + re / 2 ^ k) (z - left) 1 (dn k) _ (.inl rfl) ih m0 m1 (by omega) hang (by omega) (by omega)
      simp only
      rw [show z - (left - (ang k : Int)) = z - left + 1 * (ang k : Int) by omega]
      exact this.mono (dn_succ k)
    · have := step_way k (by omega) re im (re + im / 2 ^ k) (im - re / 2 ^ k) (z - left) (-1) (dn k) _ (.inr rfl) ih m0 m1 (by omega) hang (by omega) (by omega)
      simp only
      rw [show z - (left + (ang k : Int)) = z - left + -1 * (ang k : Int) by omega]
      exact this.mono (dn_succ k)

end Go.Proofs.Ytkbnhoapfjkajaa
