/- The points: what is left of the angle, and how near they are to the powers. -/
import Derived.Test.YtkbnhoapfjkajaaRot5
namespace Go.Proofs.Ytkbnhoapfjkajaa

/-- What the steps from k on can still take. -/
def rest (k : Nat) : Nat := asum 45 - asum k + 4096

set_option maxRecDepth 100000 in
theorem rest_all : (List.range 45).all (fun k => Nat.ble (ang k) (rest (k + 1)) && Nat.ble (asum (k + 1)) (asum 45)) = true := by decide +kernel
set_option maxRecDepth 100000 in
theorem rest_0 : 72057594037927936 ≤ rest 0 := by decide +kernel
theorem rest_45 : rest 45 = 4096 := by unfold rest; omega

theorem left_small (x y z : Int) (hz : z.natAbs ≤ 72057594037927936) (k : Nat) (hk : k ≤ 45) : (trun k ⟨x, y, z⟩).left.natAbs ≤ rest k := by
  induction k with
  | zero => have := rest_0; simp only [trun]; omega
  | succ k ih =>
    have ih := ih (by omega)
    have h := List.all_eq_true.1 rest_all k (List.mem_range.2 (by omega))
    simp only [Bool.and_eq_true, Nat.ble_eq] at h
    obtain ⟨h1, h2⟩ := h
    have e : rest k = rest (k + 1) + ang k := by
      have ea : asum (k + 1) = asum k + ang k := rfl
      unfold rest at h1 ⊢
      omega
    rw [trun, tstep]
    split <;> simp only <;> omega

/-- The point of an angle. -/
def pt (z : Int) : Tn := trun 45 ⟨gainK, 0, z⟩
def ptC (z : Int) : Zc := ⟨((pt z).re : Rat), ((pt z).im : Rat)⟩

theorem pt_left (z : Int) (hz : z.natAbs ≤ 72057594037927936) : (pt z).left.natAbs ≤ 4096 := by
  have := left_small gainK 0 z hz 45 (by omega)
  rwa [rest_45] at this

/-- The point of an angle is near the power by it: to 424 of what was turned; to 6600 of the angle. -/
theorem pt_turned (z : Int) (hz : z.natAbs ≤ 72057594037927936) : N1 ((ptC z).sub ((rot (256 * (z - (pt z).left))).smul 72057594037927936)) 424 := by
  have h := run_near z 45 (by omega)
  have hl := pt_left z hz
  unfold ptC
  unfold pt at hl ⊢
  have h1 := lp_hi
  have h2 := lp_lo
  have h3 := cast_le dn_45
  have h3' : (dn 45 : Rat) ≤ 400 := h3
  generalize trun 45 ⟨gainK, 0, z⟩ = s at *
  have hr := rot_N1 (256 * (z - s.left)) (by omega)
  generalize rot (256 * (z - s.left)) = r at *
  generalize (gainK : Rat) * lp 45 = m at *
  by_cases hm : 72057594037927936 ≤ m
  · have g := h.add (hr.smul (r := m - 72057594037927936) (by grind))
    have g2 := g.mono (e := 424) (by grind)
    refine cast (congrArg (fun z => N1 z _) ?_) g2
    apply Zc.ext2 <;> simp only [Zc.sub, Zc.add, Zc.smul] <;> grind
  · have g := h.add (N1.neg0 (hr.smul (r := 72057594037927936 - m) (by grind)))
    have g2 := g.mono (e := 424) (by grind)
    refine cast (congrArg (fun z => N1 z _) ?_) g2
    apply Zc.ext2 <;> simp only [Zc.sub, Zc.add, Zc.smul] <;> grind

theorem pt_rot (z : Int) (hz : z.natAbs ≤ 72057594037927936) : N1 ((ptC z).sub ((rot (256 * z)).smul 72057594037927936)) 6600 := by
  have h := pt_turned z hz
  have hl := pt_left z hz
  have h2 := (rot_near (256 * (z - (pt z).left)) (256 * z) 1048576 (by omega) (by omega) (by omega)).smul (r := 72057594037927936) (by decide +kernel)
  have g := h.add h2
  have e : (424 : Rat) + 72057594037927936 * (3 / 2 * (((1048576 : Nat) : Rat) * b2) + ep) ≤ 6600 := by decide +kernel
  refine cast (congrArg (fun z => N1 z _) ?_) (g.mono e)
  apply Zc.ext2 <;> simp only [Zc.sub, Zc.add, Zc.smul] <;> grind

/-- A point's length. -/
theorem pt_square (z : Int) (hz : z.natAbs ≤ 72057594037927936) :
    5192296858534827628530496329220096 - 590295810358705651712 ≤ (pt z).re * (pt z).re + (pt z).im * (pt z).im ∧ (pt z).re * (pt z).re + (pt z).im * (pt z).im ≤ 5192296858534827628530496329220096 + 590295810358705651712 := by
  have h := pt_turned z hz
  have hl := pt_left z hz
  have key : ((5192296858534827628530496329220096 - 590295810358705651712 : Int) : Rat) ≤ (((pt z).re * (pt z).re + (pt z).im * (pt z).im : Int) : Rat) ∧ (((pt z).re * (pt z).re + (pt z).im * (pt z).im : Int) : Rat) ≤ ((5192296858534827628530496329220096 + 590295810358705651712 : Int) : Rat) := by
    rw [Rat.intCast_add, Rat.intCast_mul, Rat.intCast_mul]
    unfold ptC at h
    have hn : (rot (256 * (z - (pt z).left))).nsq = gq (256 * (z - (pt z).left)).natAbs := by
      rcases Int.eq_nat_or_neg (256 * (z - (pt z).left)) with ⟨n, e | e⟩
      · rw [e, rot_nat, nsq_pw, Int.natAbs_natCast]
      · rw [e, rot_neg, Int.natAbs_neg, Int.natAbs_natCast, ← nsq_pw]
        simp only [Zc.nsq, Zc.conj]; grind
    have q1 := gq_ge (256 * (z - (pt z).left)).natAbs
    have q2 := gq_bd (256 * (z - (pt z).left)).natAbs (by omega)
    have hr := rot_N1 (256 * (z - (pt z).left)) (by omega)
    rw [← hn] at q1 q2
    generalize rot (256 * (z - (pt z).left)) = r at *
    generalize ((pt z).re : Rat) = a at *
    generalize ((pt z).im : Rat) = b at *
    have hr' : N1 (⟨r.re, -r.im⟩ : Zc) (3 / 2) := hr.conj
    have s1 := (hr'.mul h).re
    have h1 := h.re
    have h2 := h.im
    simp only [Zc.sub, Zc.smul, Zc.mul, Zc.nsq] at s1 h1 h2 q1 q2
    generalize r.re = u at *
    generalize r.im = v at *
    have t1 := rat_lin (a - 72057594037927936 * u) (b - 72057594037927936 * v) (a - 72057594037927936 * u) (b - 72057594037927936 * v) 848 424 (by grind) (by grind) (by grind) (by grind) (by grind) (by grind) (by grind) (by grind)
    have t2 := rat_sq_nonneg (a - 72057594037927936 * u)
    have t3 := rat_sq_nonneg (b - 72057594037927936 * v)
    have e1 := ep_eq
    have c1 : ((5192296858534827628530496329220096 - 590295810358705651712 : Int) : Rat) = 5192296858534827628530496329220096 - 590295810358705651712 := by decide +kernel
    have c2 : ((5192296858534827628530496329220096 + 590295810358705651712 : Int) : Rat) = 5192296858534827628530496329220096 + 590295810358705651712 := by decide +kernel
    rw [c1, c2]
    have i1 : a * a + b * b = 5192296858534827628530496329220096 * (u * u + v * v) + 2 * 72057594037927936 * (u * (a - 72057594037927936 * u) - -v * (b - 72057594037927936 * v)) + ((a - 72057594037927936 * u) * (a - 72057594037927936 * u) + (b - 72057594037927936 * v) * (b - 72057594037927936 * v)) := by grind
    rw [i1]
    generalize u * u + v * v = w at *
    generalize u * (a - 72057594037927936 * u) - -v * (b - 72057594037927936 * v) = p at *
    generalize (a - 72057594037927936 * u) * (a - 72057594037927936 * u) = f at *
    generalize (b - 72057594037927936 * v) * (b - 72057594037927936 * v) = g at *
    constructor <;> grind
  exact ⟨Rat.intCast_le_intCast.1 key.1, Rat.intCast_le_intCast.1 key.2⟩

end Go.Proofs.Ytkbnhoapfjkajaa
