/- A power's numbers, reckoned in whole numbers of 2^-192; the steps' turns. -/
import Derived.Test.YtkbnhoapfjkajaaRot2
import Derived.Test.YtkbnhoapfjkajaaArcMath
namespace Go.Proofs.Ytkbnhoapfjkajaa

/-- A power, held in whole numbers of 2^-192, and how far it may be off. -/
structure Pst where
  x : Int
  y : Int
  e : Int

def abI (x : Int) : Int := if 0 ≤ x then x else -x
def P2 : Int := 6277101735386680763835789423207666416102355444464034512896

def psq (s : Pst) : Pst := ⟨(s.x * s.x - s.y * s.y) / P2, (2 * s.x * s.y) / P2, (2 * (abI s.x + abI s.y) * s.e + s.e * s.e) / P2 + 3⟩
def pmu (s : Pst) : Pst := ⟨s.x - s.y / 18446744073709551616, s.y + s.x / 18446744073709551616, s.e + s.e / 18446744073709551616 + 3⟩
def ppw : Nat → Nat → Pst
  | 0, _ => ⟨P2, 0, 0⟩
  | f + 1, n => if n = 0 then ⟨P2, 0, 0⟩ else if n % 2 = 1 then pmu (psq (ppw f (n / 2))) else psq (ppw f (n / 2))

theorem rat_int_le {a b : Int} (h : a ≤ b) : (a : Rat) ≤ (b : Rat) := Rat.intCast_le_intCast.2 h
theorem rat_int_lt {a b : Int} (h : a < b) : (a : Rat) < (b : Rat) := Rat.intCast_lt_intCast.2 h

/-- A whole quotient, as a fraction's neighbour. -/
theorem rat_floor (a P : Int) (h : 0 < P) : (P : Rat) * ((a / P : Int) : Rat) ≤ (a : Rat) ∧ (a : Rat) ≤ (P : Rat) * ((a / P : Int) : Rat) + (P : Rat) := by
  have h1 : P * (a / P) ≤ a := Int.mul_ediv_self_le (Int.ne_of_gt h)
  have h2 : a ≤ P * (a / P) + P := Int.le_of_lt (Int.lt_mul_ediv_self_add h)
  have k1 := rat_int_le h1
  have k2 := rat_int_le h2
  rw [Rat.intCast_mul] at k1
  rw [Rat.intCast_add, Rat.intCast_mul] at k2
  exact ⟨k1, k2⟩

theorem abI_le (x : Int) : -((abI x : Int) : Rat) ≤ (x : Rat) ∧ (x : Rat) ≤ ((abI x : Int) : Rat) := by
  have h : -(abI x) ≤ x ∧ x ≤ abI x := by unfold abI; split <;> omega
  have h1 := rat_int_le h.1
  rw [Rat.intCast_neg] at h1
  exact ⟨h1, rat_int_le h.2⟩

theorem N1_int (x y : Int) : N1 ⟨(x : Rat), (y : Rat)⟩ ((abI x : Int) + (abI y : Int) : Rat) :=
  N1.of (abI_le x) (abI_le y) Rat.le_refl

theorem N1_shrink {z : Zc} {d P : Rat} (hP : 0 < P) (h : N1 (z.smul P) (P * d)) : N1 z d := by
  obtain ⟨a, b, c, e⟩ := h
  constructor <;> apply Rat.le_of_mul_le_mul_left _ hP <;> simp only [Zc.smul] at * <;> grind

/-- s holds the n-th power. -/
def Ap (n : Nat) (s : Pst) : Prop := N1 (((pw n).smul (P2 : Rat)).sub ⟨(s.x : Rat), (s.y : Rat)⟩) (s.e : Rat)

theorem P2_pos : (0 : Rat) < (P2 : Rat) := by decide +kernel

theorem psq_spec {n : Nat} {s : Pst} (h : Ap n s) : Ap (n + n) (psq s) := by
  obtain ⟨x, y, e⟩ := s
  unfold Ap at h ⊢
  simp only [psq]
  apply N1_shrink P2_pos
  have f1 := rat_floor (x * x - y * y) P2 (by decide)
  have f2 := rat_floor (2 * x * y) P2 (by decide)
  have f3 := rat_floor (2 * (abI x + abI y) * e + e * e) P2 (by decide)
  rw [Rat.intCast_sub, Rat.intCast_mul, Rat.intCast_mul] at f1
  rw [Rat.intCast_mul, Rat.intCast_mul] at f2
  rw [Rat.intCast_add, Rat.intCast_mul, Rat.intCast_mul, Rat.intCast_mul, Rat.intCast_add] at f3
  have g1 := (N1_int x y).mul h
  have g2 := h.mul h
  have g3 := (g1.add g1).add g2
  rw [Rat.intCast_add]
  rw [pw_add]
  have P0 := P2_pos
  generalize (((x * x - y * y) / P2 : Int) : Rat) = X at *
  generalize (((2 * x * y) / P2 : Int) : Rat) = Y at *
  generalize (((2 * (abI x + abI y) * e + e * e) / P2 : Int) : Rat) = E at *
  have r : N1 (⟨(x : Rat) * x - y * y - (P2 : Rat) * X, ((2 : Int) : Rat) * x * y - (P2 : Rat) * Y⟩ : Zc) ((P2 : Rat) + (P2 : Rat)) := by
    refine N1.of (p := (P2 : Rat)) (q := (P2 : Rat)) ⟨?_, ?_⟩ ⟨?_, ?_⟩ Rat.le_refl <;> simp only <;> grind
  have g4 := g3.add r
  have e2 : ((2 : Int) : Rat) = 2 := rfl
  have e3 : ((3 : Int) : Rat) = 3 := rfl
  rw [e2] at *
  rw [e3] at *
  have g5 := g4.mono (e := (P2 : Rat) * (E + 3)) (by grind)
  refine cast (congrArg (fun z => N1 z _) ?_) g5
  apply Zc.ext2 <;> simp only [Zc.mul, Zc.sub, Zc.add, Zc.smul] <;> grind

theorem pmu_spec {n : Nat} {s : Pst} (h : Ap n s) : Ap (n + 1) (pmu s) := by
  obtain ⟨x, y, e⟩ := s
  unfold Ap at h ⊢
  simp only [pmu]
  have T0 : (0 : Rat) < 18446744073709551616 := by decide +kernel
  apply N1_shrink T0
  have f1 := rat_floor y 18446744073709551616 (by decide)
  have f2 := rat_floor x 18446744073709551616 (by decide)
  have f3 := rat_floor e 18446744073709551616 (by decide)
  have eT : ((18446744073709551616 : Int) : Rat) = 18446744073709551616 := rfl
  rw [eT] at f1 f2 f3
  have b1 : N1 (⟨18446744073709551616, 1⟩ : Zc) 18446744073709551617 := by constructor <;> decide +kernel
  have g1 := b1.mul h
  rw [Rat.intCast_sub, Rat.intCast_add, Rat.intCast_add, Rat.intCast_add, pw, uu_def]
  have hb := bb_eq
  generalize ((y / 18446744073709551616 : Int) : Rat) = Y at *
  generalize ((x / 18446744073709551616 : Int) : Rat) = X at *
  generalize ((e / 18446744073709551616 : Int) : Rat) = E at *
  have r : N1 (⟨18446744073709551616 * Y - (y : Rat), (x : Rat) - 18446744073709551616 * X⟩ : Zc) (18446744073709551616 + 18446744073709551616) := by
    refine N1.of (p := 18446744073709551616) (q := 18446744073709551616) ⟨?_, ?_⟩ ⟨?_, ?_⟩ Rat.le_refl <;> simp only <;> grind
  have g2 := g1.add r
  have e3 : ((3 : Int) : Rat) = 3 := rfl
  rw [e3]
  have g5 := g2.mono (e := 18446744073709551616 * ((e : Rat) + E + 3)) (by grind)
  refine cast (congrArg (fun z => N1 z _) ?_) g5
  apply Zc.ext2 <;> simp only [Zc.mul, Zc.sub, Zc.add, Zc.smul] <;> grind

theorem ppw_spec : ∀ (f n : Nat), n < 2 ^ f → Ap n (ppw f n)
  | f, 0, _ => by
    have h0 : Ap 0 ⟨P2, 0, 0⟩ := by
      unfold Ap
      have e : ((pw 0).smul (P2 : Rat)).sub ⟨(P2 : Rat), ((0 : Int) : Rat)⟩ = ⟨0, 0⟩ := by
        apply Zc.ext2 <;> simp only [pw, Zc.one, Zc.smul, Zc.sub] <;> grind
      rw [e]
      exact N1.zero Rat.le_refl
    cases f with
    | zero => exact h0
    | succ f => rw [ppw, if_pos rfl]; exact h0
  | 0, n + 1, h => absurd h (by omega)
  | f + 1, n + 1, h => by
    have h1 := ppw_spec f ((n + 1) / 2) (by omega)
    rw [ppw, if_neg (by omega)]
    split
    · have := pmu_spec (psq_spec h1)
      rw [show (n + 1) / 2 + (n + 1) / 2 + 1 = n + 1 by omega] at this
      exact this
    · have := psq_spec h1
      rw [show (n + 1) / 2 + (n + 1) / 2 = n + 1 by omega] at this
      exact this

end Go.Proofs.Ytkbnhoapfjkajaa
