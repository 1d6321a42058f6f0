/- Pairs and passes of kernel 2, in plain numbers. -/
import Derived.Test.YtkbfniogannlhaaScanMath
import Derived.Test.YtkbfniogannlhaaMath2
namespace Go.Proofs.Ytkbfniogannlhaa
set_option linter.unusedVariables false

/-- Two numbers' product. -/
def gmul (b w : Gi) : Gi := ⟨b.re * w.re - b.im * w.im, b.re * w.im + b.im * w.re⟩
/-- A number times 2^bits, and another one: each part divided by 2^n and rounded. -/
def padd (bits n : Nat) (mo : Int) (a t : Gi) : Gi := ⟨rnd (a.re * 2 ^ bits + t.re) n mo, rnd (a.im * 2 ^ bits + t.im) n mo⟩
def psub (bits n : Nat) (mo : Int) (a t : Gi) : Gi := ⟨rnd (a.re * 2 ^ bits - t.re) n mo, rnd (a.im * 2 ^ bits - t.im) n mo⟩
/-- A pair: sum and difference. -/
def pairUp (bits s : Nat) (mo : Int) (a b w : Gi) : Gi := padd bits (bits + s) mo a (gmul b w)
def pairDown (bits s : Nat) (mo : Int) (a b w : Gi) : Gi := psub bits (bits + s) mo a (gmul b w)

theorem mulG_bd (x y k l : Int) (hk : 0 ≤ k) (hx : -k ≤ x ∧ x ≤ k) (hy : -l ≤ y ∧ y ≤ l) : -(k * l) ≤ x * y ∧ x * y ≤ k * l := by
  have hl : 0 ≤ l := by omega
  have h1 : (x * y).natAbs ≤ (k * l).natAbs := by
    rw [Int.natAbs_mul, Int.natAbs_mul]
    exact Nat.mul_le_mul (by omega) (by omega)
  have h2 : 0 ≤ k * l := Int.mul_nonneg hk hl
  omega

/-- A product's parts: twice the greatest part times the root's. -/
theorem gmul_bd (b w : Gi) (k l : Int) (hk : 0 ≤ k) (hb : absI b.re ≤ k ∧ absI b.im ≤ k) (hw : absI w.re ≤ l ∧ absI w.im ≤ l) :
    absI (gmul b w).re ≤ 2 * (k * l) ∧ absI (gmul b w).im ≤ 2 * (k * l) := by
  have b1 := absI_le.1 hb.1
  have b2 := absI_le.1 hb.2
  have w1 := absI_le.1 hw.1
  have w2 := absI_le.1 hw.2
  have m1 := mulG_bd b.re w.re k l hk b1 w1
  have m2 := mulG_bd b.im w.im k l hk b2 w2
  have m3 := mulG_bd b.re w.im k l hk b1 w2
  have m4 := mulG_bd b.im w.re k l hk b2 w1
  unfold gmul
  generalize b.re * w.re = p1 at *
  generalize b.im * w.im = p2 at *
  generalize b.re * w.im = p3 at *
  generalize b.im * w.re = p4 at *
  generalize k * l = q at *
  exact ⟨absI_le.2 (by simp only; omega), absI_le.2 (by simp only; omega)⟩

/-- What is rounded is no more than the number divided, and 1. -/
theorem rnd_grow (x M : Int) (n : Nat) (mo : Int) (hm : mo = 0 ∨ mo = 1 ∨ mo = 2) (hx : absI x ≤ M) : (absI (rnd x n mo) - 1) * 2 ^ n < M + 1 := by
  have h := rnd_off x n mo hm
  have hp := pow_pos2 n
  have hx1 := absI_le.1 hx
  obtain ⟨h1, h2, _⟩ := h
  generalize rnd x n mo = r at *
  rw [Int.sub_mul, Int.one_mul]
  unfold absI
  split
  · rw [Int.neg_mul]
    generalize r * 2 ^ n = t at *
    generalize (2 : Int) ^ n = P at *
    omega
  · generalize r * 2 ^ n = t at *
    generalize (2 : Int) ^ n = P at *
    omega

/-- A part of a pair: (n - 1) 2^s is not more than 3 times the greatest one. -/
theorem part_grow (x p m : Int) (bits s : Nat) (mo : Int) (hm : mo = 0 ∨ mo = 1 ∨ mo = 2) (hx : absI x ≤ m) (hp : absI p ≤ 2 * (m * 2 ^ bits)) (h0 : 0 ≤ m) :
    (absI (rnd (x * 2 ^ bits + p) (bits + s) mo) - 1) * 2 ^ s ≤ 3 * m ∧ (absI (rnd (x * 2 ^ bits - p) (bits + s) mo) - 1) * 2 ^ s ≤ 3 * m := by
  have hb := pow_pos2 bits
  have hx1 := absI_le.1 hx
  have hp1 := absI_le.1 hp
  have e1 : -(m * 2 ^ bits) ≤ x * 2 ^ bits ∧ x * 2 ^ bits ≤ m * 2 ^ bits := by
    have a := Int.mul_le_mul_of_nonneg_right hx1.1 (Int.le_of_lt hb)
    have b := Int.mul_le_mul_of_nonneg_right hx1.2 (Int.le_of_lt hb)
    rw [Int.neg_mul] at a
    exact ⟨a, b⟩
  have key : ∀ t : Int, absI t ≤ 3 * (m * 2 ^ bits) → (absI (rnd t (bits + s) mo) - 1) * 2 ^ s ≤ 3 * m := by
    intro t ht
    have g := rnd_grow t _ (bits + s) mo hm ht
    rw [Int.pow_add, Int.mul_comm (2 ^ bits) (2 ^ s), ← Int.mul_assoc] at g
    generalize (absI (rnd t (bits + s) mo) - 1) * 2 ^ s = y at *
    have g2 : y * 2 ^ bits < (3 * m) * 2 ^ bits + 1 := by rw [Int.mul_assoc]; exact g
    refine Int.not_lt.1 fun h => ?_
    have g3 : (3 * m + 1) * 2 ^ bits ≤ y * 2 ^ bits := Int.mul_le_mul_of_nonneg_right (by omega) (Int.le_of_lt hb)
    rw [Int.add_mul, Int.one_mul] at g3
    omega
  generalize x * 2 ^ bits = X at *
  generalize hM : m * 2 ^ bits = M at *
  exact ⟨key _ (absI_le.2 (by omega)), key _ (absI_le.2 (by omega))⟩

theorem rnd_of_zero (n : Nat) (mo : Int) (hm : mo = 0 ∨ mo = 1 ∨ mo = 2) : rnd 0 n mo = 0 := by
  have := rnd_mul 0 n mo hm
  rwa [Int.zero_mul] at this

/-- Sum and difference together are the first one doubled, to 2; so is their difference. -/
theorem pair_sums (x p : Int) (n : Nat) (mo : Int) (hm : mo = 0 ∨ mo = 1 ∨ mo = 2) :
    absI ((rnd (x + p) n mo + rnd (x - p) n mo) * 2 ^ n - 2 * x) ≤ 2 * 2 ^ n ∧ absI ((rnd (x + p) n mo + -rnd (x - p) n mo) * 2 ^ n - 2 * p) ≤ 2 * 2 ^ n := by
  have h1 := rnd_off (x + p) n mo hm
  have h2 := rnd_off (x - p) n mo hm
  obtain ⟨a1, a2, _⟩ := h1
  obtain ⟨b1, b2, _⟩ := h2
  generalize rnd (x + p) n mo = u at *
  generalize rnd (x - p) n mo = v at *
  rw [Int.add_mul, Int.add_mul, Int.neg_mul]
  generalize u * 2 ^ n = U at *
  generalize v * 2 ^ n = V at *
  generalize (2 : Int) ^ n = P at *
  exact ⟨absI_le.2 (by omega), absI_le.2 (by omega)⟩

/-- The root of a table, that may be conjugate. -/
def rootOf (ws : List Gi) (inv : Bool) (k : Nat) : Gi := if inv then (ws.getD k ⟨0, 0⟩).conj else ws.getD k ⟨0, 0⟩
/-- Number i behind a pass of halves h. -/
def twoAt (xs ws : List Gi) (h bits s : Nat) (mo : Int) (inv : Bool) (i : Nat) : Gi :=
  if i % (2 * h) < h then pairUp bits s mo (xs.getD i ⟨0, 0⟩) (xs.getD (i + h) ⟨0, 0⟩) (rootOf ws inv (i % (2 * h) * (xs.length / (2 * h))))
  else pairDown bits s mo (xs.getD (i - h) ⟨0, 0⟩) (xs.getD i ⟨0, 0⟩) (rootOf ws inv ((i % (2 * h) - h) * (xs.length / (2 * h))))
def twoL (xs ws : List Gi) (h bits s : Nat) (mo : Int) (inv : Bool) : List Gi := (List.range xs.length).map (twoAt xs ws h bits s mo inv)
theorem twoL_len (xs ws : List Gi) (h bits s : Nat) (mo : Int) (inv : Bool) : (twoL xs ws h bits s mo inv).length = xs.length := by unfold twoL; simp

end Go.Proofs.Ytkbfniogannlhaa
