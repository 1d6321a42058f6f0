/- Roots of 1: products of two are near the root of the sum. -/
import Derived.Test.YtkbnhoapfjkajaaRoot1
namespace Go.Proofs.Ytkbnhoapfjkajaa
set_option linter.unusedVariables false

/-- A whole complex number among the fractions. -/
def gc (a : Gi) : Zc := ⟨(a.re : Rat), (a.im : Rat)⟩
theorem ptC_gc (z : Int) : ptC z = gc (ptG z) := by unfold ptC gc ptG; simp only

/-- i. -/
def ic : Zc := ⟨0, 1⟩
theorem ic_N1 : N1 ic 1 := by constructor <;> decide +kernel

/-- The quarter turn: its power is i, to 400 of 2^-56. -/
def quarterB : Bool :=
  let s := ppw 80 28976077832308491264
  decide (abI s.x + abI (s.y - 6277101735386680763835789423207666416102355444464034512896) + s.e ≤ 400 * 2 ^ 136)
set_option maxRecDepth 100000 in
theorem quarter_ok : quarterB = true := by decide +kernel

theorem quarter_rot : N1 ((rot 28976077832308491264).sub ic) (400 * ea) := by
  have hs := quarter_ok
  unfold quarterB at hs
  simp only [decide_eq_true_eq] at hs
  have hA := ppw_spec 80 28976077832308491264 (by decide)
  have hr : rot 28976077832308491264 = pw 28976077832308491264 := by
    rw [← rot_nat]; rfl
  rw [hr]
  unfold Ap at hA
  generalize pw 28976077832308491264 = p at *
  generalize ppw 80 28976077832308491264 = s at *
  obtain ⟨x, y, e⟩ := s
  simp only at hs hA
  have g2 := N1_int x (y - 6277101735386680763835789423207666416102355444464034512896)
  have k1 := rat_int_le hs
  have c2 : ((400 * 2 ^ 136 : Int) : Rat) = (P2 : Rat) * (400 * ea) := by decide +kernel
  have c3 : ((6277101735386680763835789423207666416102355444464034512896 : Int) : Rat) = (P2 : Rat) := rfl
  rw [Rat.intCast_add, Rat.intCast_add, c2] at k1
  rw [Rat.intCast_sub, c3] at g2
  have g3 := (hA.add g2).mono (e := (P2 : Rat) * (400 * ea)) (by grind)
  apply N1_shrink P2_pos
  refine cast (congrArg (fun z => N1 z _) ?_) g3
  apply Zc.ext2 <;> simp only [Zc.sub, Zc.add, Zc.smul, ic] <;> grind

theorem eZ_sum (n u : Int) (hn : IsLen n) (h0 : 0 ≤ u) (h1 : u < n) : (28976077832308491264 - 256 * eZ n (2 * (n - u)) - 256 * eZ n (2 * u)).natAbs ≤ 256 := by
  unfold eZ
  rcases hn with rfl | rfl | rfl | rfl | rfl <;> omega

/-- The point of a part of a quarter turn, by its rule, is near the power by its angle. -/
theorem rpt_near (n u : Int) (hn : IsLen n) (h0 : 0 ≤ u) (h1 : u < n) : N1 ((gc (rpt n u)).sub ((rot (256 * eZ n (2 * u))).smul 72057594037927936)) 27000 := by
  unfold rpt rptF
  by_cases a : 2 * u < n
  · rw [if_pos a, ← ptC_gc]
    have hz := eZ_bd n (2 * u) hn (by omega) (by omega)
    exact (pt_rot (eZ n (2 * u)) (by omega)).mono (by decide +kernel)
  · by_cases b : n < 2 * u
    · rw [if_neg a, if_pos b]
      have he := eZ_bd n (2 * (n - u)) hn (by omega) (by omega)
      have hs := eZ_sum n u hn h0 h1
      have h2 : (eZ n (2 * u)).natAbs ≤ 113187804032455100 := by omega
      generalize eZ n (2 * (n - u)) = e at *
      generalize eZ n (2 * u) = y at *
      have g1 := ic_N1.mul (pt_rot e (by omega)).conj
      have r1 := rot_N1 (-(256 * e)) (by omega)
      have g2 := ((quarter_rot.mul r1).smul (r := 72057594037927936) (by decide +kernel)).neg0
      have g3 := (rot_mul 28976077832308491264 (-(256 * e)) (by decide) (by omega)).smul (r := 72057594037927936) (by decide +kernel)
      have g4 := (rot_near (28976077832308491264 + -(256 * e)) (256 * y) 256 (by omega) (by omega) (by omega)).smul (r := 72057594037927936) (by decide +kernel)
      have g := ((g1.add g2).add g3).add g4
      have eb : (1 : Rat) * 6600 + 72057594037927936 * (400 * ea * (3 / 2)) + 72057594037927936 * ep + 72057594037927936 * (3 / 2 * (((256 : Nat) : Rat) * b2) + ep) ≤ 27000 := by decide +kernel
      refine cast (congrArg (fun z => N1 z _) ?_) (g.mono eb)
      rw [ptC_gc, rot_conj]
      unfold gc Gi.swap
      generalize rot (28976077832308491264 + -(256 * e)) = p1
      generalize rot 28976077832308491264 = p2
      generalize rot (256 * e) = p3
      generalize rot (256 * y) = p4
      apply Zc.ext2 <;> simp only [Zc.sub, Zc.add, Zc.smul, Zc.mul, Zc.conj, ic] <;> grind
    · rw [if_neg a, if_neg b]
      have e1 : eZ n n = 56593902016227522 ∧ eZ n (2 * u) = 56593902016227522 := by
        unfold eZ
        rcases hn with rfl | rfl | rfl | rfl | rfl <;> omega
      rw [e1.1, e1.2]
      have g1 := pt_rot 56593902016227522 (by decide)
      rw [ptC_gc] at g1
      have w : ((ptG 56593902016227522).re - (ptG 56593902016227522).im).natAbs ≤ 20000 := by
        have := pt_whole
        unfold ptG
        simp only
        exact this
      generalize ptG 56593902016227522 = p at *
      have k1 := rat_int_le (show p.re - p.im ≤ 20000 by omega)
      have k2 := rat_int_le (show -20000 ≤ p.re - p.im by omega)
      have c1 : ((20000 : Int) : Rat) = 20000 := rfl
      have c2 : ((-20000 : Int) : Rat) = -20000 := rfl
      rw [Rat.intCast_sub, c1] at k1
      rw [Rat.intCast_sub, c2] at k2
      have g2 : N1 (⟨0, (p.re : Rat) - (p.im : Rat)⟩ : Zc) 20000 := N1.of (p := 0) (q := 20000) ⟨by simp only; grind, by simp only; grind⟩ ⟨by simp only; grind, by simp only; grind⟩ (by grind)
      have g := (g1.add g2).mono (e := 27000) (by decide +kernel)
      refine cast (congrArg (fun z => N1 z _) ?_) g
      unfold gc
      apply Zc.ext2 <;> simp only [Zc.sub, Zc.add, Zc.smul] <;> grind

/-- A root's point, rounded: how far it is off. -/
structure Off (z : Zc) : Prop where
  n : N1 z (1001 / 1000)
  re : -(501 / 1000) ≤ z.re ∧ z.re ≤ 501 / 1000
  im : -(501 / 1000) ≤ z.im ∧ z.im ≤ 501 / 1000

theorem rsh_near (p : Gi) (r : Zc) (s : Nat) (h0 : 26 ≤ s) (h1 : s ≤ 56) (h : N1 ((gc p).sub (r.smul 72057594037927936)) 27000) :
    Off ((gc (rsh s p)).sub (r.smul (((2 ^ (56 - s) : Int)) : Rat))) := by
  have ha := rnd_off p.re s 1 (by omega)
  have hb := rnd_off p.im s 1 (by omega)
  have hp : (2 : Int) ^ s * 2 ^ (56 - s) = 72057594037927936 := by rw [← Int.pow_add, show s + (56 - s) = 56 by omega]; rfl
  have hp2 : (67108864 : Int) ≤ 2 ^ s := by
    have : (2 : Nat) ^ 26 ≤ 2 ^ s := Nat.pow_le_pow_right (by decide) h0
    have c : ((2 ^ s : Nat) : Int) = 2 ^ s := by rw [Int.natCast_pow]; rfl
    omega
  unfold rsh gc at *
  simp only
  generalize rnd p.re s 1 = x at *
  generalize rnd p.im s 1 = y at *
  generalize p.re = a at *
  generalize p.im = b at *
  generalize (2 : Int) ^ (56 - s) = B at *
  generalize (2 : Int) ^ s = S at *
  have a2 := ha.2.2
  have b2 := hb.2.2
  have q1 := rat_int_le (show 2 * (a - x * S) ≤ S by omega)
  have q2 := rat_int_le (show -S ≤ 2 * (a - x * S) by omega)
  have q3 := rat_int_le (show 2 * (b - y * S) ≤ S by omega)
  have q4 := rat_int_le (show -S ≤ 2 * (b - y * S) by omega)
  have q5 := rat_int_le hp2
  have c0 : ((2 : Int) : Rat) = 2 := rfl
  have c1 : ((67108864 : Int) : Rat) = 67108864 := rfl
  have c2 : ((72057594037927936 : Int) : Rat) = 72057594037927936 := rfl
  have q6 : (S : Rat) * (B : Rat) = 72057594037927936 := by rw [← Rat.intCast_mul, hp, c2]
  rw [Rat.intCast_mul, Rat.intCast_sub, Rat.intCast_mul, c0] at q1 q3
  rw [Rat.intCast_mul, Rat.intCast_sub, Rat.intCast_mul, Rat.intCast_neg, c0] at q2 q4
  rw [c1] at q5
  clear ha hb hp hp2 a2 b2
  generalize (a : Rat) = a at *
  generalize (b : Rat) = b at *
  generalize (x : Rat) = x at *
  generalize (y : Rat) = y at *
  generalize (B : Rat) = B at *
  generalize (S : Rat) = S at *
  have S0 : 0 < S := by grind
  have k := h.re
  have k' := h.im
  have kk := h
  obtain ⟨hpp, hpm, hmp, hmm⟩ := h
  simp only [Zc.sub, Zc.smul] at *
  have div : ∀ z d : Rat, S * z ≤ S * d → z ≤ d := fun z d hh => Rat.le_of_mul_le_mul_left hh S0
  refine ⟨⟨?_, ?_, ?_, ?_⟩, ⟨?_, ?_⟩, ⟨?_, ?_⟩⟩ <;> apply div <;> simp only <;> grind

end Go.Proofs.Ytkbnhoapfjkajaa
