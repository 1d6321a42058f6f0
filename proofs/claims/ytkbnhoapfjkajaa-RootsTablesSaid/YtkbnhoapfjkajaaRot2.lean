/- How near two turns are; a power's numbers, reckoned. -/
import Derived.Test.YtkbnhoapfjkajaaRot
namespace Go.Proofs.Ytkbnhoapfjkajaa

/-- 2^-64. -/
def bb : Rat := 1 / 18446744073709551616
theorem bb_eq : 18446744073709551616 * bb = 1 := by decide +kernel
theorem bb_pos : 0 ≤ bb := by decide +kernel
theorem uu_def : uu = ⟨1, bb⟩ := rfl
theorem uu_N1 : N1 uu (1 + bb) := by
  have := bb_pos
  rw [uu_def]
  constructor <;> grind

theorem pw_one_near (n : Nat) (h : (n : Rat) * bb ≤ 1) : N1 ((pw n).sub Zc.one) ((n : Rat) * bb * (1 + (n : Rat) * bb)) := by
  induction n with
  | zero =>
    have e : (pw 0).sub Zc.one = ⟨0, 0⟩ := sub_self' _
    rw [e]
    apply N1.zero
    have := Rat.mul_nonneg (cast_nn 0) bb_pos
    have := Rat.mul_nonneg this (show 0 ≤ 1 + ((0 : Nat) : Rat) * bb by grind)
    exact this
  | succ n ih =>
    rw [cast_succ] at h ⊢
    have b0 := bb_pos
    have n0 := cast_nn n
    have nb := Rat.mul_nonneg n0 b0
    have h1 := (ih (by grind)).mul uu_N1
    have h2 : N1 (⟨0, bb⟩ : Zc) bb := by constructor <;> grind
    have h3 := h1.add h2
    have e : (((pw n).sub Zc.one).mul uu).add ⟨0, bb⟩ = (pw (n + 1)).sub Zc.one := by
      rw [pw, uu_def]
      apply Zc.ext2 <;> simp only [Zc.mul, Zc.sub, Zc.add, Zc.one] <;> grind
    rw [e] at h3
    refine h3.mono ?_
    -- n b (1 + n b) (1 + b) + b <= (n+1) b (1 + (n+1) b)
    have k1 : (n : Rat) * bb * bb ≤ 1 * bb := Rat.mul_le_mul_of_nonneg_right (by grind) b0
    have k2 := Rat.mul_le_mul_of_nonneg_left k1 nb
    have k3 := Rat.mul_nonneg b0 b0
    grind

/-- 2^-64 and a little. -/
def b2 : Rat := 1048577 / 19342813113834066795298816
theorem b2_eq : 19342813113834066795298816 * b2 = 1048577 := by decide +kernel
theorem b2_bb : 1048576 * b2 = 1048577 * bb := by decide +kernel

theorem pw_one_le (n : Nat) (h : n ≤ 17592186044416) : N1 ((pw n).sub Zc.one) ((n : Rat) * b2) := by
  have b0 := bb_pos
  have hb := bb_eq
  have h1 : (n : Rat) ≤ 17592186044416 := cast_le h
  have h2 := Rat.mul_le_mul_of_nonneg_right h1 b0
  have nb := Rat.mul_nonneg (cast_nn n) b0
  refine (pw_one_near n (by grind)).mono ?_
  have e := b2_bb
  have e2 : (1048576 : Rat) * (n * b2) = 1048577 * (n * bb) := by grind
  have h4 : 1048576 * ((n : Rat) * bb) ≤ 1 := by grind
  generalize (n : Rat) * bb = x at *
  generalize (n : Rat) * b2 = y at *
  have h3 := Rat.mul_le_mul_of_nonneg_left h4 nb
  clear e h2 hb h1
  grind

theorem rot_one_le (a : Int) (n : Nat) (h : a.natAbs ≤ n) (hn : n ≤ 17592186044416) : N1 ((rot a).sub Zc.one) ((n : Rat) * b2) := by
  have b0 : 0 ≤ b2 := by decide +kernel
  have m : ∀ k : Nat, k ≤ n → N1 ((pw k).sub Zc.one) ((n : Rat) * b2) := fun k hk =>
    (pw_one_le k (by omega)).mono (Rat.mul_le_mul_of_nonneg_right (cast_le hk) b0)
  rcases Int.eq_nat_or_neg a with ⟨k, rfl | rfl⟩
  · rw [rot_nat]; exact m k (by omega)
  · rw [rot_neg]
    have := (m k (by omega)).conj
    refine cast (congrArg (fun z => N1 z _) ?_) this
    apply Zc.ext2 <;> simp only [Zc.conj, Zc.sub, Zc.one] <;> grind

/-- Turns by nearly the same angle are near. -/
theorem rot_near (a b : Int) (n : Nat) (hb : b.natAbs ≤ 73786976294838206464) (h : (a - b).natAbs ≤ n) (hn : n ≤ 17592186044416) :
    N1 ((rot a).sub (rot b)) (3 / 2 * ((n : Rat) * b2) + ep) := by
  have h1 := (rot_N1 b (by omega)).mul (rot_one_le (a - b) n h hn)
  have h2 := rot_mul b (a - b) (by omega) (by omega)
  rw [show b + (a - b) = a by omega] at h2
  have h3 : N1 (((rot a).sub ((rot b).mul (rot (a - b))))) ep := by
    obtain ⟨p, q, r, s⟩ := h2
    constructor <;> simp only [Zc.sub] at * <;> grind
  have h4 := h1.add h3
  refine cast (congrArg (fun z => N1 z _) ?_) h4
  apply Zc.ext2 <;> simp only [Zc.mul, Zc.sub, Zc.add, Zc.one] <;> grind

end Go.Proofs.Ytkbnhoapfjkajaa
