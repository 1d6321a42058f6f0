/- Quads and passes of kernel 4, in plain numbers. -/
import Derived.Test.YtbdglbpkbpedoaaTwoMath
namespace Go.Proofs.Ytbdglbpkbpedoaa
set_option linter.unusedVariables false
set_option maxRecDepth 100000

def gadd (a b : Gi) : Gi := ⟨a.re + b.re, a.im + b.im⟩
/-- A number times 2^bits. -/
def gscale (bits : Nat) (a : Gi) : Gi := ⟨a.re * 2 ^ bits, a.im * 2 ^ bits⟩
/-- How often term 1 is turned for number q. -/
def turns1 (inv : Bool) (q : Int) : Int := if inv then q else -q
/-- Number q of a quad, not yet shifted: the sum of its terms, turned. -/
def quadSum (inv : Bool) (q : Int) (t0 t1 t2 t3 : Gi) : Gi := gadd (gadd (gadd t0 (Gi.turn (turns1 inv q) t1)) (Gi.turn (2 * q) t2)) (Gi.turn (-(turns1 inv q)) t3)
def grnd (n : Nat) (mo : Int) (a : Gi) : Gi := ⟨rnd a.re n mo, rnd a.im n mo⟩
/-- Number q of a quad. -/
def quadOut (bits s : Nat) (mo : Int) (inv : Bool) (q : Int) (a0 a1 a2 a3 w1 w2 w3 : Gi) : Gi :=
  grnd (bits + s) mo (quadSum inv q (gscale bits a0) (gmul a1 w1) (gmul a2 w2) (gmul a3 w3))

/-- Both parts are from -l to l. -/
def Bd (l : Int) (a : Gi) : Prop := absI a.re ≤ l ∧ absI a.im ≤ l
theorem Bd.le {l : Int} {a : Gi} (h : Bd l a) : (-l ≤ a.re ∧ a.re ≤ l) ∧ (-l ≤ a.im ∧ a.im ≤ l) := ⟨absI_le.1 h.1, absI_le.1 h.2⟩
theorem Bd.mk {l : Int} {a : Gi} (h : (-l ≤ a.re ∧ a.re ≤ l) ∧ (-l ≤ a.im ∧ a.im ≤ l)) : Bd l a := ⟨absI_le.2 h.1, absI_le.2 h.2⟩
theorem Bd.turn {l : Int} {a : Gi} (h : Bd l a) (q : Int) : Bd l (Gi.turn q a) := by
  have := h.le
  unfold Gi.turn
  split
  · exact h
  · split
    · exact Bd.mk (by simp only; omega)
    · split
      · exact Bd.mk (by simp only; omega)
      · exact Bd.mk (by simp only; omega)
theorem Bd.add {l m : Int} {a b : Gi} (h : Bd l a) (k : Bd m b) : Bd (l + m) (gadd a b) := by
  have := h.le
  have := k.le
  exact Bd.mk (by unfold gadd; simp only; omega)
theorem Bd.scale {l : Int} {a : Gi} (h : Bd l a) (bits : Nat) : Bd (l * 2 ^ bits) (gscale bits a) := by
  have hb := Int.le_of_lt (pow_pos2 bits)
  obtain ⟨⟨h1, h2⟩, h3, h4⟩ := h.le
  refine Bd.mk ⟨⟨?_, ?_⟩, ?_, ?_⟩
  · rw [← Int.neg_mul]; exact Int.mul_le_mul_of_nonneg_right h1 hb
  · exact Int.mul_le_mul_of_nonneg_right h2 hb
  · rw [← Int.neg_mul]; exact Int.mul_le_mul_of_nonneg_right h3 hb
  · exact Int.mul_le_mul_of_nonneg_right h4 hb
theorem Bd.mul {l m : Int} {a w : Gi} (h : Bd l a) (k : Bd m w) : Bd (2 * (l * m)) (gmul a w) := by
  have h0 : 0 ≤ l := Int.le_trans (absI_nonneg _) h.1
  exact gmul_bd a w l m h0 h k
theorem Bd.mono {l m : Int} {a : Gi} (h : Bd l a) (e : l ≤ m) : Bd m a := ⟨Int.le_trans h.1 e, Int.le_trans h.2 e⟩

theorem quadSum_bd (inv : Bool) (q L M : Int) (t0 t1 t2 t3 : Gi) (h0 : Bd L t0) (h1 : Bd M t1) (h2 : Bd M t2) (h3 : Bd M t3) : Bd (L + M + M + M) (quadSum inv q t0 t1 t2 t3) :=
  ((h0.add (h1.turn _)).add (h2.turn _)).add (h3.turn _)

/-- A part behind its shift: (n - 1) 2^s is not more than 7 times the greatest one. -/
theorem key_grow (t m : Int) (k : Int) (bits s : Nat) (mo : Int) (hm : mo = 0 ∨ mo = 1 ∨ mo = 2) (ht : absI t ≤ k * (m * 2 ^ bits)) : (absI (rnd t (bits + s) mo) - 1) * 2 ^ s ≤ k * m := by
  have hb := pow_pos2 bits
  have g := rnd_grow t _ (bits + s) mo hm ht
  rw [Int.pow_add, Int.mul_comm (2 ^ bits) (2 ^ s), ← Int.mul_assoc] at g
  generalize (absI (rnd t (bits + s) mo) - 1) * 2 ^ s = y at *
  have g2 : y * 2 ^ bits < (k * m) * 2 ^ bits + 1 := by rw [Int.mul_assoc]; exact g
  refine Int.not_lt.1 fun h => ?_
  have g3 : (k * m + 1) * 2 ^ bits ≤ y * 2 ^ bits := Int.mul_le_mul_of_nonneg_right (by omega) (Int.le_of_lt hb)
  rw [Int.add_mul, Int.one_mul] at g3
  omega
theorem quad_grow (bits s : Nat) (mo : Int) (inv : Bool) (q m : Int) (a0 a1 a2 a3 w1 w2 w3 : Gi) (hm : mo = 0 ∨ mo = 1 ∨ mo = 2) (h0 : Bd m a0) (h1 : Bd m a1) (h2 : Bd m a2) (h3 : Bd m a3) (k1 : Bd (2 ^ bits) w1) (k2 : Bd (2 ^ bits) w2) (k3 : Bd (2 ^ bits) w3) :
    (absI (quadOut bits s mo inv q a0 a1 a2 a3 w1 w2 w3).re - 1) * 2 ^ s ≤ 7 * m ∧ (absI (quadOut bits s mo inv q a0 a1 a2 a3 w1 w2 w3).im - 1) * 2 ^ s ≤ 7 * m := by
  have h := quadSum_bd inv q _ _ _ _ _ _ (h0.scale bits) (h1.mul k1) (h2.mul k2) (h3.mul k3)
  have h' : Bd (7 * (m * 2 ^ bits)) (quadSum inv q (gscale bits a0) (gmul a1 w1) (gmul a2 w2) (gmul a3 w3)) := h.mono (by omega)
  exact ⟨key_grow _ m 7 bits s mo hm h'.1, key_grow _ m 7 bits s mo hm h'.2⟩

/-- The terms' turns over all four numbers cancel: what is left is 4 times term 0. -/
theorem quad_four (inv : Bool) (t0 t1 t2 t3 : Gi) :
    (quadSum inv 0 t0 t1 t2 t3).re + (quadSum inv 1 t0 t1 t2 t3).re + (quadSum inv 2 t0 t1 t2 t3).re + (quadSum inv 3 t0 t1 t2 t3).re = 4 * t0.re ∧
    (quadSum inv 0 t0 t1 t2 t3).im + (quadSum inv 1 t0 t1 t2 t3).im + (quadSum inv 2 t0 t1 t2 t3).im + (quadSum inv 3 t0 t1 t2 t3).im = 4 * t0.im := by
  cases inv <;> (simp [quadSum, gadd, Gi.turn, turns1]; omega)

theorem four_near (x0 x1 x2 x3 a : Int) (bits s : Nat) (mo : Int) (hm : mo = 0 ∨ mo = 1 ∨ mo = 2) (h : x0 + x1 + x2 + x3 = 4 * (a * 2 ^ bits)) :
    absI ((rnd x0 (bits + s) mo + rnd x1 (bits + s) mo + rnd x2 (bits + s) mo + rnd x3 (bits + s) mo) * 2 ^ s - 4 * a) ≤ 4 * 2 ^ s := by
  have hb := pow_pos2 bits
  have h0 := rnd_off x0 (bits + s) mo hm
  have h1 := rnd_off x1 (bits + s) mo hm
  have h2 := rnd_off x2 (bits + s) mo hm
  have h3 := rnd_off x3 (bits + s) mo hm
  obtain ⟨a0, b0, _⟩ := h0
  obtain ⟨a1, b1, _⟩ := h1
  obtain ⟨a2, b2, _⟩ := h2
  obtain ⟨a3, b3, _⟩ := h3
  generalize rnd x0 (bits + s) mo = r0 at *
  generalize rnd x1 (bits + s) mo = r1 at *
  generalize rnd x2 (bits + s) mo = r2 at *
  generalize rnd x3 (bits + s) mo = r3 at *
  have e : (r0 + r1 + r2 + r3) * 2 ^ (bits + s) = r0 * 2 ^ (bits + s) + r1 * 2 ^ (bits + s) + r2 * 2 ^ (bits + s) + r3 * 2 ^ (bits + s) := by rw [Int.add_mul, Int.add_mul, Int.add_mul]
  have e2 : (r0 + r1 + r2 + r3) * 2 ^ (bits + s) = ((r0 + r1 + r2 + r3) * 2 ^ s) * 2 ^ bits := by rw [Int.pow_add, Int.mul_comm (2 ^ bits) (2 ^ s), Int.mul_assoc]
  have e3 : (2 : Int) ^ (bits + s) = 2 ^ s * 2 ^ bits := by rw [Int.pow_add, Int.mul_comm]
  rw [e2] at e
  generalize (r0 + r1 + r2 + r3) * 2 ^ s = y at *
  generalize r0 * 2 ^ (bits + s) = R0 at *
  generalize r1 * 2 ^ (bits + s) = R1 at *
  generalize r2 * 2 ^ (bits + s) = R2 at *
  generalize r3 * 2 ^ (bits + s) = R3 at *
  rw [e3] at a0 a1 a2 a3 b0 b1 b2 b3
  generalize (2 : Int) ^ s = S at *
  have f1 : (y - 4 * a) * 2 ^ bits = y * 2 ^ bits - 4 * (a * 2 ^ bits) := by rw [Int.sub_mul, Int.mul_assoc]
  have f2 : (4 * S) * 2 ^ bits = 4 * (S * 2 ^ bits) := by rw [Int.mul_assoc]
  generalize y - 4 * a = d at *
  have g1 : d * 2 ^ bits ≤ (4 * S) * 2 ^ bits := by
    rw [f1, f2]
    generalize y * 2 ^ bits = Y at *
    generalize a * 2 ^ bits = A at *
    generalize S * 2 ^ bits = T at *
    omega
  have g2 : (-(4 * S)) * 2 ^ bits ≤ d * 2 ^ bits := by
    rw [Int.neg_mul, f1, f2]
    generalize y * 2 ^ bits = Y at *
    generalize a * 2 ^ bits = A at *
    generalize S * 2 ^ bits = T at *
    omega
  exact absI_le.2 ⟨Int.le_of_mul_le_mul_right g2 hb, Int.le_of_mul_le_mul_right g1 hb⟩

theorem quad_sums (bits s : Nat) (mo : Int) (inv : Bool) (a0 a1 a2 a3 w1 w2 w3 : Gi) (hm : mo = 0 ∨ mo = 1 ∨ mo = 2) :
    absI (((quadOut bits s mo inv 0 a0 a1 a2 a3 w1 w2 w3).re + (quadOut bits s mo inv 1 a0 a1 a2 a3 w1 w2 w3).re + (quadOut bits s mo inv 2 a0 a1 a2 a3 w1 w2 w3).re + (quadOut bits s mo inv 3 a0 a1 a2 a3 w1 w2 w3).re) * 2 ^ s - 4 * a0.re) ≤ 4 * 2 ^ s ∧
    absI (((quadOut bits s mo inv 0 a0 a1 a2 a3 w1 w2 w3).im + (quadOut bits s mo inv 1 a0 a1 a2 a3 w1 w2 w3).im + (quadOut bits s mo inv 2 a0 a1 a2 a3 w1 w2 w3).im + (quadOut bits s mo inv 3 a0 a1 a2 a3 w1 w2 w3).im) * 2 ^ s - 4 * a0.im) ≤ 4 * 2 ^ s := by
  have h := quad_four inv (gscale bits a0) (gmul a1 w1) (gmul a2 w2) (gmul a3 w3)
  exact ⟨four_near _ _ _ _ _ bits s mo hm h.1, four_near _ _ _ _ _ bits s mo hm h.2⟩

/-- Number i behind a pass of quarters h. -/
def fourAt (xs ws : List Gi) (h bits s : Nat) (mo : Int) (inv : Bool) (i : Nat) : Gi :=
  let u := xs.length / (4 * h)
  let g := i - i % (4 * h)
  let j := i % h
  quadOut bits s mo inv (((i - g) / h : Nat) : Int) (xs.getD (g + j) ⟨0, 0⟩) (xs.getD (g + 2 * h + j) ⟨0, 0⟩) (xs.getD (g + h + j) ⟨0, 0⟩) (xs.getD (g + 3 * h + j) ⟨0, 0⟩)
    (rootOf ws inv (j * u)) (rootOf ws inv (2 * j * u)) (rootOf ws inv (3 * j * u))
def fourL (xs ws : List Gi) (h bits s : Nat) (mo : Int) (inv : Bool) : List Gi := (List.range xs.length).map (fourAt xs ws h bits s mo inv)
theorem fourL_len (xs ws : List Gi) (h bits s : Nat) (mo : Int) (inv : Bool) : (fourL xs ws h bits s mo inv).length = xs.length := by unfold fourL; simp

theorem rnd0 (x mo : Int) : rnd x 0 mo = x := by
  unfold rnd goesUp evenUp
  simp only [Int.pow_zero, Int.ediv_one, Int.emod_one]
  split
  · simp
  · split
    · simp
    · simp

/-- A first pass, not shifted, of roots of a quarter in no bits: two passes of kernel 2. -/
theorem four_twos (x0 x1 x2 x3 : Gi) (inv : Bool) :
    fourL [x0, x1, x2, x3] [⟨1, 0⟩, ⟨0, -1⟩, ⟨-1, 0⟩, ⟨0, 1⟩] 1 0 0 0 inv = twoL (twoL [x0, x1, x2, x3] [⟨1, 0⟩, ⟨0, -1⟩, ⟨-1, 0⟩, ⟨0, 1⟩] 1 0 0 0 inv) [⟨1, 0⟩, ⟨0, -1⟩, ⟨-1, 0⟩, ⟨0, 1⟩] 2 0 0 0 inv := by
  obtain ⟨a0, b0⟩ := x0
  obtain ⟨a1, b1⟩ := x1
  obtain ⟨a2, b2⟩ := x2
  obtain ⟨a3, b3⟩ := x3
  have r4 : List.range 4 = [0, 1, 2, 3] := rfl
  cases inv <;>
  · simp [fourL, twoL, r4, fourAt, twoAt, quadOut, quadSum, grnd, gscale, gmul, gadd, Gi.turn, turns1, rootOf, Gi.conj, pairUp, pairDown, padd, psub, rnd0]
    omega

end Go.Proofs.Ytbdglbpkbpedoaa
