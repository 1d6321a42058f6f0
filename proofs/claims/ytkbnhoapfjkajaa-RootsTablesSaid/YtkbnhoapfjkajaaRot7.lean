/- Turns by steps: no part gets great; the gain and the inverse. -/
import Derived.Test.YtkbnhoapfjkajaaRot6
namespace Go.Proofs.Ytkbnhoapfjkajaa

/-- How great the parts can get together. -/
def bn : Nat → Nat
  | 0 => 144115188075855872
  | k + 1 => bn k + bn k / 2 ^ k + 2
set_option maxRecDepth 100000 in
theorem bn_all : (List.range 46).all (fun k => Nat.ble (bn k) 1152921504606846976) = true := by decide +kernel
theorem bn_bd (k : Nat) (h : k ≤ 45) : bn k ≤ 1152921504606846976 := by
  have := List.all_eq_true.1 bn_all k (List.mem_range.2 (by omega))
  simpa using this

theorem fl_abs (t : Int) (k : Nat) : (t / 2 ^ k).natAbs ≤ t.natAbs / 2 ^ k + 1 := by
  have hp : (0 : Int) < 2 ^ k := Int.pow_pos (by decide)
  have c : ((2 ^ k : Nat) : Int) = 2 ^ k := by simp
  by_cases h : 0 ≤ t
  · obtain ⟨n, rfl⟩ := Int.eq_ofNat_of_zero_le h
    have : ((n : Int) / 2 ^ k) = ((n / 2 ^ k : Nat) : Int) := by rw [← c, Int.natCast_ediv]
    rw [this, Int.natAbs_natCast, Int.natAbs_natCast]
    omega
  · obtain ⟨n, rfl⟩ : ∃ n : Nat, t = -(n : Int) := ⟨t.natAbs, by omega⟩
    have h1 := Int.mul_ediv_self_le (x := -(n : Int)) (Int.ne_of_gt hp)
    have h2 := Int.lt_mul_ediv_self_add (x := -(n : Int)) hp
    have h3 : n / 2 ^ k * 2 ^ k ≤ n := Nat.div_mul_le_self _ _
    have h4 : n < (n / 2 ^ k + 1) * 2 ^ k := by rw [Nat.mul_comm]; exact Nat.lt_mul_div_succ _ (Nat.pow_pos (by decide))
    have h4' : (n : Int) < ((n / 2 ^ k : Nat) + 1) * 2 ^ k := by rw [← c]; exact_mod_cast h4
    rw [Int.natAbs_neg, Int.natAbs_natCast]
    generalize n / 2 ^ k = q at *
    have k1 : -(n : Int) / 2 ^ k ≤ 0 := by
      by_cases hh : -(n : Int) / 2 ^ k ≤ 0
      · exact hh
      · have := Int.mul_le_mul_of_nonneg_left (show (1 : Int) ≤ -(n : Int) / 2 ^ k by omega) (Int.le_of_lt hp)
        omega
    have k2 : -((q : Int) + 1) ≤ -(n : Int) / 2 ^ k := by
      by_cases hh : -((q : Int) + 1) ≤ -(n : Int) / 2 ^ k
      · exact hh
      · exfalso
        have := Int.mul_le_mul_of_nonneg_left (show -(n : Int) / 2 ^ k + 1 ≤ -((q : Int) + 1) by omega) (Int.le_of_lt hp)
        have e1 : (2 : Int) ^ k * (-(n : Int) / 2 ^ k + 1) = 2 ^ k * (-(n : Int) / 2 ^ k) + 2 ^ k := by rw [Int.mul_add, Int.mul_one]
        have e2 : (2 : Int) ^ k * (-((q : Int) + 1)) = -(((q : Int) + 1) * 2 ^ k) := by rw [Int.mul_neg, Int.mul_comm]
        omega
    omega

theorem parts_bd (x z : Int) (h0 : 0 ≤ x) (h1 : x ≤ 144115188075855872) (k : Nat) (hk : k ≤ 45) : (trun k ⟨x, 0, z⟩).re.natAbs + (trun k ⟨x, 0, z⟩).im.natAbs ≤ bn k := by
  induction k with
  | zero => simp only [trun, bn]; omega
  | succ k ih =>
    have ih := ih (by omega)
    rw [trun, tstep, bn]
    have f1 := fl_abs (trun k ⟨x, 0, z⟩).re k
    have f2 := fl_abs (trun k ⟨x, 0, z⟩).im k
    have f3 : (trun k ⟨x, 0, z⟩).re.natAbs / 2 ^ k + (trun k ⟨x, 0, z⟩).im.natAbs / 2 ^ k ≤ bn k / 2 ^ k := by
      rw [Nat.le_div_iff_mul_le (Nat.pow_pos (by decide)), Nat.add_mul]
      have a := Nat.div_mul_le_self (trun k ⟨x, 0, z⟩).re.natAbs (2 ^ k)
      have b := Nat.div_mul_le_self (trun k ⟨x, 0, z⟩).im.natAbs (2 ^ k)
      omega
    split <;> simp only <;> omega

/-- All that a step reckons stays far within Go's whole numbers. -/
theorem trun_bd (x z : Int) (h0 : 0 ≤ x) (h1 : x ≤ 144115188075855872) (hz : z.natAbs ≤ 72057594037927936) (k : Nat) (hk : k ≤ 45) :
    (trun k ⟨x, 0, z⟩).re.natAbs ≤ 1152921504606846976 ∧ (trun k ⟨x, 0, z⟩).im.natAbs ≤ 1152921504606846976 ∧ (trun k ⟨x, 0, z⟩).left.natAbs ≤ 288230376151711744 := by
  have a := parts_bd x z h0 h1 k hk
  have b := bn_bd k hk
  have c := left_small x 0 z hz k hk
  have d := asum_hi
  have e : rest k ≤ 144115188075859968 := by unfold rest; omega
  omega

def gainG : Int := 118661582157481174
set_option maxRecDepth 100000 in
theorem gain_run : (trun 45 ⟨72057594037927936, 0, 0⟩).re = gainG := by decide +kernel
theorem gain_inv : (5192296858534827628530496329220096 : Int) / gainG = gainK := by decide +kernel
theorem gain_lo : gainG * gainK ≤ 5192296858534827628530496329220096 := by decide +kernel
theorem gain_hi : 5192296858534827628530496329220096 < gainG * (gainK + 1) := by decide +kernel

end Go.Proofs.Ytkbnhoapfjkajaa
