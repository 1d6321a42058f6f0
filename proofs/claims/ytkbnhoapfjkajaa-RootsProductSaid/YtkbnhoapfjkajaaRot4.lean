/- The steps' turns, and where a turn by steps ends: near a length times a power. -/
import Derived.Test.YtkbnhoapfjkajaaRot3
namespace Go.Proofs.Ytkbnhoapfjkajaa

/-- The steps' angles. -/
def ang (j : Nat) : Nat := if j = 0 then 56593902016227522 else arcOf (2 ^ j)

/-- The steps' lengths, times 2^96. -/
def rlL : List Int := [112045541949572279837463876454, 88579778557147855148050858080, 81666520642478385872185137491, 79844733389260544582489567998, 79382754197876852108294670498, 79266838700367913179241544870, 79237833330597490869036302401, 79230580329011204561433264044, 79228766974868319490935883519, 79228313629847674508992184321, 79228200293187193355745883648, 79228171958996740382948065270, 79228164875447543843995516927, 79228163104560145753226362879, 79228162661838290045781410047, 79228162551157825732373118979, 79228162523487709629861855232, 79228162516570180602724089856, 79228162514840798345845276672, 79228162514408452781619675136, 79228162514300366390562906112, 79228162514273344792798690816, 79228162514266589393357635552, 79228162514264900543497371646, 79228162514264478331032305663, 79228162514264372777916039167, 79228162514264346389636972543, 79228162514264339792567205887, 79228162514264338143299764223, 79228162514264337730982903807, 79228162514264337627903688703, 79228162514264337602133884927, 79228162514264337595691433983, 79228162514264337594080821247, 79228162514264337593678168063, 79228162514264337593577504767, 79228162514264337593552338943, 79228162514264337593546047487, 79228162514264337593544474623, 79228162514264337593544081407, 79228162514264337593543983103, 79228162514264337593543958527, 79228162514264337593543952383, 79228162514264337593543950847, 79228162514264337593543950463]
def rl (j : Nat) : Int := rlL.getD j 0

/-- A step's turn is its length times the power by its angle, to 3 of 2^-56. -/
def stepB (j : Nat) : Bool :=
  let s := ppw 80 (256 * ang j)
  decide (abI (rl j * s.x - 2 ^ 288) + abI (rl j * s.y - 2 ^ (288 - j)) + rl j * s.e ≤ 3 * 2 ^ 232) && decide (2 ^ 96 ≤ rl j) && decide (256 * ang j < 2 ^ 80)

set_option maxRecDepth 100000 in
theorem steps_all : (List.range 45).all stepB = true := by decide +kernel

theorem steps_at (j : Nat) (h : j < 45) : stepB j = true := List.all_eq_true.1 steps_all j (List.mem_range.2 h)

/-- 2^-j. -/
def hj (j : Nat) : Rat := 1 / 2 ^ j
theorem hj_eq (j : Nat) : (2 : Rat) ^ j * hj j = 1 := by
  have h : (2 : Rat) ^ j ≠ 0 := by
    have := Rat.pow_pos (n := j) (show (0 : Rat) < 2 by decide +kernel)
    grind
  unfold hj
  grind
def rr (j : Nat) : Rat := (rl j : Rat) / 79228162514264337593543950336
theorem rr_eq (j : Nat) : 79228162514264337593543950336 * rr j = (rl j : Rat) := by unfold rr; grind

/-- 2^-56. -/
def ea : Rat := 1 / 72057594037927936
theorem ea_eq : 72057594037927936 * ea = 1 := by decide +kernel

theorem step_near (j : Nat) (h : j < 45) : N1 (((rot (256 * (ang j : Int))).smul (rr j)).sub ⟨1, hj j⟩) (3 * ea) ∧ 1 ≤ rr j := by
  have hs := steps_at j h
  unfold stepB at hs
  simp only [Bool.and_eq_true, decide_eq_true_eq] at hs
  obtain ⟨⟨h1, h2⟩, h3⟩ := hs
  have hA := ppw_spec 80 (256 * ang j) h3
  have hr : rot (256 * (ang j : Int)) = pw (256 * ang j) := by rw [← rot_nat]; congr 1
  rw [hr]
  generalize ppw 80 (256 * ang j) = s at *
  obtain ⟨x, y, e⟩ := s
  unfold Ap at hA
  simp only at h1 hA
  have k2 := rat_int_le h2
  have e96 : ((2 ^ 96 : Int) : Rat) = 79228162514264337593543950336 := by decide +kernel
  rw [e96] at k2
  have hrr := rr_eq j
  have one : 1 ≤ rr j := by grind
  refine ⟨?_, one⟩
  have k1 := rat_int_le h1
  have g1 := hA.smul (r := (rl j : Rat)) (by grind)
  have g2 := N1_int (rl j * x - 2 ^ 288) (rl j * y - 2 ^ (288 - j))
  have g3 := g1.add g2
  -- 2^288 is 2^96 times 2^192
  have c0 : ((2 ^ 288 : Int) : Rat) = 79228162514264337593543950336 * (P2 : Rat) := by decide +kernel
  have c1 : ((2 ^ (288 - j) : Int) : Rat) = 79228162514264337593543950336 * (P2 : Rat) * hj j := by
    have p : (2 : Int) ^ (288 - j) * 2 ^ j = 2 ^ 288 := by rw [← Int.pow_add, show 288 - j + j = 288 by omega]
    have p2 : (((2 : Int) ^ (288 - j) * 2 ^ j : Int) : Rat) = ((2 ^ 288 : Int) : Rat) := by rw [p]
    rw [Rat.intCast_mul, c0] at p2
    have p3 : (((2 : Int) ^ j : Int) : Rat) = (2 : Rat) ^ j := by rw [Rat.intCast_pow]; rfl
    rw [p3] at p2
    have := hj_eq j
    grind
  have c2 : ((3 * 2 ^ 232 : Int) : Rat) = 79228162514264337593543950336 * (P2 : Rat) * (3 * ea) := by decide +kernel
  rw [Rat.intCast_add, Rat.intCast_add, Rat.intCast_mul, c2] at k1
  rw [Rat.intCast_sub, Rat.intCast_sub, Rat.intCast_mul, Rat.intCast_mul, c0, c1] at g3
  have P0 := P2_pos
  apply N1_shrink (P := 79228162514264337593543950336 * (P2 : Rat)) (Rat.mul_pos (by decide +kernel) P0)
  have g4 := g3.mono (e := 79228162514264337593543950336 * (P2 : Rat) * (3 * ea)) (by grind)
  refine cast (congrArg (fun z => N1 z _) ?_) g4
  rw [← hrr]
  apply Zc.ext2 <;> simp only [Zc.sub, Zc.add, Zc.smul] <;> grind

end Go.Proofs.Ytkbnhoapfjkajaa
