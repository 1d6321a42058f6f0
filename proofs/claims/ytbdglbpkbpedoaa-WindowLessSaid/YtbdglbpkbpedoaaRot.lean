/- Turns as powers of one small turn, in exact fractions: what two powers' product is, how near two powers are, and a power's own numbers. · How near two turns are; a power's numbers, reckoned. · A power's numbers, reckoned in whole numbers of 2^-192; the steps' turns. · The steps' turns, and where a turn by steps ends: near a length times a power. · Turns by steps, with whole numbers, and the powers that they are near to. · The points: what is left of the angle, and how near they are to the powers. · Turns by steps: no part gets great; the gain and the inverse. · Points: how great they are, products of two, opposites, all as whole numbers. -/
import Derived.Test.YtbdglbpkbpedoaaPlain
import Derived.Test.YtbdglbpkbpedoaaArcMath
namespace Go.Proofs.Ytbdglbpkbpedoaa

/-- A number of two parts. -/
structure Zc where
  re : Rat
  im : Rat

theorem Zc.ext2 {a b : Zc} (h1 : a.re = b.re) (h2 : a.im = b.im) : a = b := by cases a; cases b; simp_all

def Zc.mul (a b : Zc) : Zc := ⟨a.re * b.re - a.im * b.im, a.re * b.im + a.im * b.re⟩
def Zc.add (a b : Zc) : Zc := ⟨a.re + b.re, a.im + b.im⟩
def Zc.sub (a b : Zc) : Zc := ⟨a.re - b.re, a.im - b.im⟩
def Zc.conj (a : Zc) : Zc := ⟨a.re, -a.im⟩
def Zc.smul (r : Rat) (a : Zc) : Zc := ⟨r * a.re, r * a.im⟩
def Zc.nsq (a : Zc) : Rat := a.re * a.re + a.im * a.im
def Zc.one : Zc := ⟨1, 0⟩

/-- The parts' distances from 0 are together not more than d. -/
structure N1 (z : Zc) (d : Rat) : Prop where
  pp : z.re + z.im ≤ d
  pm : z.re - z.im ≤ d
  mp : -z.re + z.im ≤ d
  mm : -z.re - z.im ≤ d

theorem N1.nonneg {z : Zc} {d : Rat} (h : N1 z d) : 0 ≤ d := by have := h.pp; have := h.mm; grind
theorem N1.mono {z : Zc} {d e : Rat} (h : N1 z d) (k : d ≤ e) : N1 z e := ⟨Rat.le_trans h.pp k, Rat.le_trans h.pm k, Rat.le_trans h.mp k, Rat.le_trans h.mm k⟩
theorem N1.conj {z : Zc} {d : Rat} (h : N1 z d) : N1 z.conj d := by
  have := h.pp; have := h.pm; have := h.mp; have := h.mm
  constructor <;> simp only [Zc.conj] <;> grind
theorem N1.neg0 {z : Zc} {d : Rat} (h : N1 z d) : N1 ((⟨0, 0⟩ : Zc).sub z) d := by
  have := h.pp; have := h.pm; have := h.mp; have := h.mm
  constructor <;> simp only [Zc.sub] <;> grind
theorem N1.add {a b : Zc} {p q : Rat} (h : N1 a p) (k : N1 b q) : N1 (a.add b) (p + q) := by
  have := h.pp; have := h.pm; have := h.mp; have := h.mm
  have := k.pp; have := k.pm; have := k.mp; have := k.mm
  constructor <;> simp only [Zc.add] <;> grind
theorem N1.smul {a : Zc} {p r : Rat} (h : N1 a p) (hr : 0 ≤ r) : N1 (a.smul r) (r * p) := by
  have h1 := Rat.mul_le_mul_of_nonneg_left h.pp hr
  have h2 := Rat.mul_le_mul_of_nonneg_left h.pm hr
  have h3 := Rat.mul_le_mul_of_nonneg_left h.mp hr
  have h4 := Rat.mul_le_mul_of_nonneg_left h.mm hr
  constructor <;> simp only [Zc.smul] <;> grind
theorem N1.re {z : Zc} {d : Rat} (h : N1 z d) : -d ≤ z.re ∧ z.re ≤ d := by
  have := h.pp; have := h.pm; have := h.mp; have := h.mm
  constructor <;> grind
theorem N1.im {z : Zc} {d : Rat} (h : N1 z d) : -d ≤ z.im ∧ z.im ≤ d := by
  have := h.pp; have := h.pm; have := h.mp; have := h.mm
  constructor <;> grind
theorem N1.of {z : Zc} {p q d : Rat} (h1 : -p ≤ z.re ∧ z.re ≤ p) (h2 : -q ≤ z.im ∧ z.im ≤ q) (h : p + q ≤ d) : N1 z d := by
  obtain ⟨a, b⟩ := h1
  obtain ⟨c, e⟩ := h2
  constructor <;> grind

theorem rat_lin (x y s t p q : Rat) (s1 : s ≤ q) (s2 : -q ≤ s) (t1 : t ≤ q) (t2 : -q ≤ t) (h1 : x + y ≤ p) (h2 : x - y ≤ p) (h3 : -x + y ≤ p) (h4 : -x - y ≤ p) : x * s + y * t ≤ p * q := by
  have hq : 0 ≤ q := by grind
  have hx : x * s ≤ x * q ∨ x * s ≤ -x * q := by
    by_cases h : 0 ≤ x
    · exact .inl (Rat.mul_le_mul_of_nonneg_left s1 h)
    · right
      have := Rat.mul_le_mul_of_nonneg_left s2 (show 0 ≤ -x by grind)
      grind
  have hy : y * t ≤ y * q ∨ y * t ≤ -y * q := by
    by_cases h : 0 ≤ y
    · exact .inl (Rat.mul_le_mul_of_nonneg_left t1 h)
    · right
      have := Rat.mul_le_mul_of_nonneg_left t2 (show 0 ≤ -y by grind)
      grind
  have a1 := Rat.mul_le_mul_of_nonneg_right h1 hq
  have a2 := Rat.mul_le_mul_of_nonneg_right h2 hq
  have a3 := Rat.mul_le_mul_of_nonneg_right h3 hq
  have a4 := Rat.mul_le_mul_of_nonneg_right h4 hq
  rcases hx with hx | hx <;> rcases hy with hy | hy <;> grind

theorem N1.mul {a b : Zc} {p q : Rat} (h : N1 a p) (k : N1 b q) : N1 (a.mul b) (p * q) := by
  obtain ⟨h1, h2, h3, h4⟩ := h
  obtain ⟨k1, k2, k3, k4⟩ := k
  have e1 := rat_lin a.re a.im (b.re + b.im) (b.re - b.im) p q (by grind) (by grind) (by grind) (by grind) h1 h2 h3 h4
  have e2 := rat_lin a.re a.im (b.re - b.im) (-b.re - b.im) p q (by grind) (by grind) (by grind) (by grind) h1 h2 h3 h4
  have e3 := rat_lin a.re a.im (-b.re + b.im) (b.re + b.im) p q (by grind) (by grind) (by grind) (by grind) h1 h2 h3 h4
  have e4 := rat_lin a.re a.im (-b.re - b.im) (-b.re + b.im) p q (by grind) (by grind) (by grind) (by grind) h1 h2 h3 h4
  constructor <;> simp only [Zc.mul] <;> grind

theorem nsq_mul (a b : Zc) : (a.mul b).nsq = a.nsq * b.nsq := by simp only [Zc.mul, Zc.nsq]; grind

theorem rat_sq (s : Rat) (h : s * s ≤ 9 / 4) : s ≤ 3 / 2 := by
  by_cases k : s ≤ 3 / 2
  · exact k
  · exfalso
    have h1 : (3 / 2 : Rat) ≤ s := by grind
    have h2 := Rat.mul_le_mul_of_nonneg_left h1 (show (0 : Rat) ≤ s by grind)
    have h3 : (3 / 2 : Rat) * (3 / 2) < s * (3 / 2) := by grind
    grind

theorem rat_sq_nonneg (s : Rat) : 0 ≤ s * s := by
  by_cases h : 0 ≤ s
  · exact Rat.mul_nonneg h h
  · have := Rat.mul_nonneg (show 0 ≤ -s by grind) (show 0 ≤ -s by grind)
    grind

theorem N1_of_nsq {z : Zc} (h : z.nsq ≤ 9 / 8) : N1 z (3 / 2) := by
  unfold Zc.nsq at h
  have s1 := rat_sq_nonneg (z.re + z.im)
  have s2 := rat_sq_nonneg (z.re - z.im)
  constructor <;> apply rat_sq <;> grind

/-- The small turn, not brought to length 1. -/
def uu : Zc := ⟨1, 1 / 18446744073709551616⟩
def qq : Rat := 1 / 340282366920938463463374607431768211456

def pw : Nat → Zc
  | 0 => Zc.one
  | n + 1 => (pw n).mul uu

def gq : Nat → Rat
  | 0 => 1
  | n + 1 => gq n * (1 + qq)

theorem pw_add (m n : Nat) : pw (m + n) = (pw m).mul (pw n) := by
  induction n with
  | zero => apply Zc.ext2 <;> simp only [Nat.add_zero, pw, Zc.mul, Zc.one] <;> grind
  | succ n ih => rw [Nat.add_succ, pw, ih, pw]; apply Zc.ext2 <;> simp only [Zc.mul] <;> grind

theorem uu_nsq : uu.nsq = 1 + qq := by decide +kernel

theorem nsq_pw (n : Nat) : (pw n).nsq = gq n := by
  induction n with
  | zero => decide +kernel
  | succ n ih => rw [pw, nsq_mul, ih, gq, uu_nsq]

theorem qq_pos : 0 ≤ qq := by decide +kernel

theorem gq_ge (n : Nat) : 1 ≤ gq n := by
  induction n with
  | zero => decide +kernel
  | succ n ih =>
    rw [gq]
    have := Rat.mul_nonneg (show 0 ≤ gq n by grind) qq_pos
    grind

theorem cast_succ (n : Nat) : ((n + 1 : Nat) : Rat) = (n : Rat) + 1 := by rw [Rat.natCast_add]; rfl
theorem cast_nn (n : Nat) : (0 : Rat) ≤ (n : Rat) := Rat.natCast_nonneg

theorem gq_le (n : Nat) (h : 2 * (n : Rat) * qq ≤ 1) : gq n ≤ 1 + 2 * (n : Rat) * qq := by
  induction n with
  | zero => rw [gq]; have := Rat.mul_nonneg (Rat.mul_nonneg (show (0 : Rat) ≤ 2 by grind) (cast_nn 0)) qq_pos; grind
  | succ n ih =>
    rw [cast_succ] at h ⊢
    have q0 := qq_pos
    have h1 : 2 * (n : Rat) * qq ≤ 1 := by grind
    have h2 := Rat.mul_le_mul_of_nonneg_right (ih h1) (show 0 ≤ 1 + qq by grind)
    have h3 := Rat.mul_le_mul_of_nonneg_right h1 q0
    rw [gq]
    grind

theorem cast_le {a b : Nat} (h : a ≤ b) : (a : Rat) ≤ (b : Rat) := Rat.natCast_le_natCast.2 h

/-- 2^-60. -/
def ep : Rat := 1 / 1152921504606846976
theorem ep_eq : 1152921504606846976 * ep = 1 := by decide +kernel
theorem ep_qq : 295147905179352825856 * qq = ep := by decide +kernel
theorem ep_pos : 0 ≤ ep := by decide +kernel
theorem ep_le : ep ≤ 1 / 8 := by decide +kernel

/-- How far the powers' length may be off. -/
theorem gq_bd (n : Nat) (h : n ≤ 73786976294838206464) : 2 * (gq n - 1) ≤ ep := by
  have h1 : (n : Rat) ≤ 73786976294838206464 := cast_le h
  have h2 := Rat.mul_le_mul_of_nonneg_right h1 qq_pos
  have e := ep_qq
  have h3 : 2 * (2 * (n : Rat) * qq) ≤ ep := by grind
  have := ep_le
  have := gq_le n (by grind)
  grind

theorem pw_N1 (n : Nat) (h : n ≤ 73786976294838206464) : N1 (pw n) (3 / 2) := by
  apply N1_of_nsq
  rw [nsq_pw]
  have := gq_bd n h
  have := ep_le
  grind

/-- The turn by a whole number of small angles, either way. -/
def rot : Int → Zc
  | .ofNat n => pw n
  | .negSucc n => (pw (n + 1)).conj

theorem rot_nat (n : Nat) : rot (n : Int) = pw n := rfl
theorem rot_neg (n : Nat) : rot (-(n : Int)) = (pw n).conj := by
  cases n with
  | zero => apply Zc.ext2 <;> simp [rot, pw, Zc.one, Zc.conj] <;> rfl
  | succ n => rfl
theorem rot_conj (a : Int) : rot (-a) = (rot a).conj := by
  rcases Int.eq_nat_or_neg a with ⟨n, rfl | rfl⟩
  · rw [rot_neg, rot_nat]
  · rw [Int.neg_neg, rot_neg, rot_nat]
    apply Zc.ext2 <;> simp only [Zc.conj] <;> grind
theorem rot_zero : rot 0 = Zc.one := rfl

theorem rot_N1 (a : Int) (h : a.natAbs ≤ 73786976294838206464) : N1 (rot a) (3 / 2) := by
  rcases Int.eq_nat_or_neg a with ⟨n, rfl | rfl⟩
  · rw [rot_nat]; exact pw_N1 n (by omega)
  · rw [rot_neg]; exact (pw_N1 n (by omega)).conj

theorem conj_mul (a b : Zc) : (a.mul b).conj = a.conj.mul b.conj := by apply Zc.ext2 <;> simp only [Zc.mul, Zc.conj] <;> grind
theorem mul_comm' (a b : Zc) : a.mul b = b.mul a := by apply Zc.ext2 <;> simp only [Zc.mul] <;> grind

/-- A power and another one's conjugate. -/
theorem pw_conj (k r : Nat) : (pw (k + r)).mul (pw k).conj = (pw r).smul (gq k) := by
  have h := nsq_pw k
  unfold Zc.nsq at h
  rw [pw_add, ← h]
  apply Zc.ext2 <;> simp only [Zc.mul, Zc.conj, Zc.smul] <;> grind

theorem pw_conj_near (k r : Nat) (hk : k ≤ 73786976294838206464) (hr : r ≤ 73786976294838206464) : N1 (((pw (k + r)).mul (pw k).conj).sub (pw r)) ep := by
  rw [pw_conj]
  have h1 := gq_bd k hk
  have h2 := gq_ge k
  have h3 := (pw_N1 r hr).smul (r := gq k - 1) (by grind)
  have e : ((pw r).smul (gq k)).sub (pw r) = (pw r).smul (gq k - 1) := by apply Zc.ext2 <;> simp only [Zc.smul, Zc.sub] <;> grind
  rw [e]
  refine h3.mono ?_
  grind

theorem N1.zero {d : Rat} (h : 0 ≤ d) : N1 ⟨0, 0⟩ d := by constructor <;> grind
theorem sub_self' (a : Zc) : a.sub a = ⟨0, 0⟩ := by apply Zc.ext2 <;> simp only [Zc.sub] <;> grind

/-- Two turns' product is the turn by both, but for 2^-60. -/
theorem rot_mul (a b : Int) (ha : a.natAbs ≤ 73786976294838206464) (hb : b.natAbs ≤ 73786976294838206464) : N1 (((rot a).mul (rot b)).sub (rot (a + b))) ep := by
  have key : ∀ (m k : Nat), m ≤ 73786976294838206464 → k ≤ 73786976294838206464 → N1 (((rot (m : Int)).mul (rot (-(k : Int)))).sub (rot ((m : Int) + -(k : Int)))) ep := by
    intro m k hm hk
    rw [rot_nat, rot_neg]
    by_cases h : k ≤ m
    · obtain ⟨r, rfl⟩ : ∃ r, m = k + r := ⟨m - k, by omega⟩
      rw [show ((k + r : Nat) : Int) + -(k : Int) = (r : Int) by omega, rot_nat]
      exact pw_conj_near k r hk (by omega)
    · obtain ⟨r, rfl⟩ : ∃ r, k = m + r := ⟨k - m, by omega⟩
      rw [show (m : Int) + -((m + r : Nat) : Int) = -(r : Int) by omega, rot_neg]
      have := (pw_conj_near m r hm (by omega)).conj
      refine cast (congrArg (fun z => N1 z _) ?_) this
      apply Zc.ext2 <;> simp only [Zc.mul, Zc.conj, Zc.sub] <;> grind
  rcases Int.eq_nat_or_neg a with ⟨m, rfl | rfl⟩ <;> rcases Int.eq_nat_or_neg b with ⟨k, rfl | rfl⟩
  · rw [← Int.natCast_add, rot_nat, rot_nat, rot_nat, pw_add, sub_self']
    exact N1.zero ep_pos
  · exact key m k (by omega) (by omega)
  · rw [Int.add_comm, mul_comm']
    exact key k m (by omega) (by omega)
  · rw [← Int.neg_add, ← Int.natCast_add, rot_neg, rot_neg, rot_neg, ← conj_mul, pw_add, sub_self']
    exact N1.zero ep_pos

end Go.Proofs.Ytbdglbpkbpedoaa

namespace Go.Proofs.Ytbdglbpkbpedoaa

/-- 2^-64. -/
def bb : Rat := 1 / 18446744073709551616
theorem bb_eq : 18446744073709551616 * bb = 1 := by decide +kernel
theorem bb_pos : 0 ≤ bb := by decide +kernel
theorem uu_def : uu = ⟨1, bb⟩ := rfl
theorem uu_N1 : N1 uu (1 + bb) := by
  have := bb_pos
  rw [uu_def]
  constructor <;> grind

theorem pw_one_near (n : Nat) (h : (n : Rat) * bb ≤ 1) : N1 ((pw n).sub Zc.one) ((n : Rat) * bb * (1 + (n : Rat) * bb)) := by
  induction n with
  | zero =>
    have e : (pw 0).sub Zc.one = ⟨0, 0⟩ := sub_self' _
    rw [e]
    apply N1.zero
    have := Rat.mul_nonneg (cast_nn 0) bb_pos
    have := Rat.mul_nonneg this (show 0 ≤ 1 + ((0 : Nat) : Rat) * bb by grind)
    exact this
  | succ n ih =>
    rw [cast_succ] at h ⊢
    have b0 := bb_pos
    have n0 := cast_nn n
    have nb := Rat.mul_nonneg n0 b0
    have h1 := (ih (by grind)).mul uu_N1
    have h2 : N1 (⟨0, bb⟩ : Zc) bb := by constructor <;> grind
    have h3 := h1.add h2
    have e : (((pw n).sub Zc.one).mul uu).add ⟨0, bb⟩ = (pw (n + 1)).sub Zc.one := by
      rw [pw, uu_def]
      apply Zc.ext2 <;> simp only [Zc.mul, Zc.sub, Zc.add, Zc.one] <;> grind
    rw [e] at h3
    refine h3.mono ?_
    -- n b (1 + n b) (1 + b) + b <= (n+1) b (1 + (n+1) b)
    have k1 : (n : Rat) * bb * bb ≤ 1 * bb := Rat.mul_le_mul_of_nonneg_right (by grind) b0
    have k2 := Rat.mul_le_mul_of_nonneg_left k1 nb
    have k3 := Rat.mul_nonneg b0 b0
    grind

/-- 2^-64 and a little. -/
def b2 : Rat := 1048577 / 19342813113834066795298816
theorem b2_eq : 19342813113834066795298816 * b2 = 1048577 := by decide +kernel
theorem b2_bb : 1048576 * b2 = 1048577 * bb := by decide +kernel

theorem pw_one_le (n : Nat) (h : n ≤ 17592186044416) : N1 ((pw n).sub Zc.one) ((n : Rat) * b2) := by
  have b0 := bb_pos
  have hb := bb_eq
  have h1 : (n : Rat) ≤ 17592186044416 := cast_le h
  have h2 := Rat.mul_le_mul_of_nonneg_right h1 b0
  have nb := Rat.mul_nonneg (cast_nn n) b0
  refine (pw_one_near n (by grind)).mono ?_
  have e := b2_bb
  have e2 : (1048576 : Rat) * (n * b2) = 1048577 * (n * bb) := by grind
  have h4 : 1048576 * ((n : Rat) * bb) ≤ 1 := by grind
  generalize (n : Rat) * bb = x at *
  generalize (n : Rat) * b2 = y at *
  have h3 := Rat.mul_le_mul_of_nonneg_left h4 nb
  clear e h2 hb h1
  grind

theorem rot_one_le (a : Int) (n : Nat) (h : a.natAbs ≤ n) (hn : n ≤ 17592186044416) : N1 ((rot a).sub Zc.one) ((n : Rat) * b2) := by
  have b0 : 0 ≤ b2 := by decide +kernel
  have m : ∀ k : Nat, k ≤ n → N1 ((pw k).sub Zc.one) ((n : Rat) * b2) := fun k hk =>
    (pw_one_le k (by omega)).mono (Rat.mul_le_mul_of_nonneg_right (cast_le hk) b0)
  rcases Int.eq_nat_or_neg a with ⟨k, rfl | rfl⟩
  · rw [rot_nat]; exact m k (by omega)
  · rw [rot_neg]
    have := (m k (by omega)).conj
    refine cast (congrArg (fun z => N1 z _) ?_) this
    apply Zc.ext2 <;> simp only [Zc.conj, Zc.sub, Zc.one] <;> grind

/-- Turns by nearly the same angle are near. -/
theorem rot_near (a b : Int) (n : Nat) (hb : b.natAbs ≤ 73786976294838206464) (h : (a - b).natAbs ≤ n) (hn : n ≤ 17592186044416) :
    N1 ((rot a).sub (rot b)) (3 / 2 * ((n : Rat) * b2) + ep) := by
  have h1 := (rot_N1 b (by omega)).mul (rot_one_le (a - b) n h hn)
  have h2 := rot_mul b (a - b) (by omega) (by omega)
  rw [show b + (a - b) = a by omega] at h2
  have h3 : N1 (((rot a).sub ((rot b).mul (rot (a - b))))) ep := by
    obtain ⟨p, q, r, s⟩ := h2
    constructor <;> simp only [Zc.sub] at * <;> grind
  have h4 := h1.add h3
  refine cast (congrArg (fun z => N1 z _) ?_) h4
  apply Zc.ext2 <;> simp only [Zc.mul, Zc.sub, Zc.add, Zc.one] <;> grind

end Go.Proofs.Ytbdglbpkbpedoaa

namespace Go.Proofs.Ytbdglbpkbpedoaa

/-- A power, held in whole numbers of 2^-192, and how far it may be off. -/
structure Pst where
  x : Int
  y : Int
  e : Int

def abI (x : Int) : Int := if 0 ≤ x then x else -x
def P2 : Int := 6277101735386680763835789423207666416102355444464034512896

def psq (s : Pst) : Pst := ⟨(s.x * s.x - s.y * s.y) / P2, (2 * s.x * s.y) / P2, (2 * (abI s.x + abI s.y) * s.e + s.e * s.e) / P2 + 3⟩
def pmu (s : Pst) : Pst := ⟨s.x - s.y / 18446744073709551616, s.y + s.x / 18446744073709551616, s.e + s.e / 18446744073709551616 + 3⟩
def ppw : Nat → Nat → Pst
  | 0, _ => ⟨P2, 0, 0⟩
  | f + 1, n => if n = 0 then ⟨P2, 0, 0⟩ else if n % 2 = 1 then pmu (psq (ppw f (n / 2))) else psq (ppw f (n / 2))

theorem rat_int_le {a b : Int} (h : a ≤ b) : (a : Rat) ≤ (b : Rat) := Rat.intCast_le_intCast.2 h
theorem rat_int_lt {a b : Int} (h : a < b) : (a : Rat) < (b : Rat) := Rat.intCast_lt_intCast.2 h

/-- A whole quotient, as a fraction's neighbour. -/
theorem rat_floor (a P : Int) (h : 0 < P) : (P : Rat) * ((a / P : Int) : Rat) ≤ (a : Rat) ∧ (a : Rat) ≤ (P : Rat) * ((a / P : Int) : Rat) + (P : Rat) := by
  have h1 : P * (a / P) ≤ a := Int.mul_ediv_self_le (Int.ne_of_gt h)
  have h2 : a ≤ P * (a / P) + P := Int.le_of_lt (Int.lt_mul_ediv_self_add h)
  have k1 := rat_int_le h1
  have k2 := rat_int_le h2
  rw [Rat.intCast_mul] at k1
  rw [Rat.intCast_add, Rat.intCast_mul] at k2
  exact ⟨k1, k2⟩

theorem abI_le (x : Int) : -((abI x : Int) : Rat) ≤ (x : Rat) ∧ (x : Rat) ≤ ((abI x : Int) : Rat) := by
  have h : -(abI x) ≤ x ∧ x ≤ abI x := by unfold abI; split <;> omega
  have h1 := rat_int_le h.1
  rw [Rat.intCast_neg] at h1
  exact ⟨h1, rat_int_le h.2⟩

theorem N1_int (x y : Int) : N1 ⟨(x : Rat), (y : Rat)⟩ ((abI x : Int) + (abI y : Int) : Rat) :=
  N1.of (abI_le x) (abI_le y) Rat.le_refl

theorem N1_shrink {z : Zc} {d P : Rat} (hP : 0 < P) (h : N1 (z.smul P) (P * d)) : N1 z d := by
  obtain ⟨a, b, c, e⟩ := h
  constructor <;> apply Rat.le_of_mul_le_mul_left _ hP <;> simp only [Zc.smul] at * <;> grind

/-- s holds the n-th power. -/
def Ap (n : Nat) (s : Pst) : Prop := N1 (((pw n).smul (P2 : Rat)).sub ⟨(s.x : Rat), (s.y : Rat)⟩) (s.e : Rat)

theorem P2_pos : (0 : Rat) < (P2 : Rat) := by decide +kernel

theorem psq_spec {n : Nat} {s : Pst} (h : Ap n s) : Ap (n + n) (psq s) := by
  obtain ⟨x, y, e⟩ := s
  unfold Ap at h ⊢
  simp only [psq]
  apply N1_shrink P2_pos
  have f1 := rat_floor (x * x - y * y) P2 (by decide)
  have f2 := rat_floor (2 * x * y) P2 (by decide)
  have f3 := rat_floor (2 * (abI x + abI y) * e + e * e) P2 (by decide)
  rw [Rat.intCast_sub, Rat.intCast_mul, Rat.intCast_mul] at f1
  rw [Rat.intCast_mul, Rat.intCast_mul] at f2
  rw [Rat.intCast_add, Rat.intCast_mul, Rat.intCast_mul, Rat.intCast_mul, Rat.intCast_add] at f3
  have g1 := (N1_int x y).mul h
  have g2 := h.mul h
  have g3 := (g1.add g1).add g2
  rw [Rat.intCast_add]
  rw [pw_add]
  have P0 := P2_pos
  generalize (((x * x - y * y) / P2 : Int) : Rat) = X at *
  generalize (((2 * x * y) / P2 : Int) : Rat) = Y at *
  generalize (((2 * (abI x + abI y) * e + e * e) / P2 : Int) : Rat) = E at *
  have r : N1 (⟨(x : Rat) * x - y * y - (P2 : Rat) * X, ((2 : Int) : Rat) * x * y - (P2 : Rat) * Y⟩ : Zc) ((P2 : Rat) + (P2 : Rat)) := by
    refine N1.of (p := (P2 : Rat)) (q := (P2 : Rat)) ⟨?_, ?_⟩ ⟨?_, ?_⟩ Rat.le_refl <;> simp only <;> grind
  have g4 := g3.add r
  have e2 : ((2 : Int) : Rat) = 2 := rfl
  have e3 : ((3 : Int) : Rat) = 3 := rfl
  rw [e2] at *
  rw [e3] at *
  have g5 := g4.mono (e := (P2 : Rat) * (E + 3)) (by grind)
  refine cast (congrArg (fun z => N1 z _) ?_) g5
  apply Zc.ext2 <;> simp only [Zc.mul, Zc.sub, Zc.add, Zc.smul] <;> grind

theorem pmu_spec {n : Nat} {s : Pst} (h : Ap n s) : Ap (n + 1) (pmu s) := by
  obtain ⟨x, y, e⟩ := s
  unfold Ap at h ⊢
  simp only [pmu]
  have T0 : (0 : Rat) < 18446744073709551616 := by decide +kernel
  apply N1_shrink T0
  have f1 := rat_floor y 18446744073709551616 (by decide)
  have f2 := rat_floor x 18446744073709551616 (by decide)
  have f3 := rat_floor e 18446744073709551616 (by decide)
  have eT : ((18446744073709551616 : Int) : Rat) = 18446744073709551616 := rfl
  rw [eT] at f1 f2 f3
  have b1 : N1 (⟨18446744073709551616, 1⟩ : Zc) 18446744073709551617 := by constructor <;> decide +kernel
  have g1 := b1.mul h
  rw [Rat.intCast_sub, Rat.intCast_add, Rat.intCast_add, Rat.intCast_add, pw, uu_def]
  have hb := bb_eq
  generalize ((y / 18446744073709551616 : Int) : Rat) = Y at *
  generalize ((x / 18446744073709551616 : Int) : Rat) = X at *
  generalize ((e / 18446744073709551616 : Int) : Rat) = E at *
  have r : N1 (⟨18446744073709551616 * Y - (y : Rat), (x : Rat) - 18446744073709551616 * X⟩ : Zc) (18446744073709551616 + 18446744073709551616) := by
    refine N1.of (p := 18446744073709551616) (q := 18446744073709551616) ⟨?_, ?_⟩ ⟨?_, ?_⟩ Rat.le_refl <;> simp only <;> grind
  have g2 := g1.add r
  have e3 : ((3 : Int) : Rat) = 3 := rfl
  rw [e3]
  have g5 := g2.mono (e := 18446744073709551616 * ((e : Rat) + E + 3)) (by grind)
  refine cast (congrArg (fun z => N1 z _) ?_) g5
  apply Zc.ext2 <;> simp only [Zc.mul, Zc.sub, Zc.add, Zc.smul] <;> grind

theorem ppw_spec : ∀ (f n : Nat), n < 2 ^ f → Ap n (ppw f n)
  | f, 0, _ => by
    have h0 : Ap 0 ⟨P2, 0, 0⟩ := by
      unfold Ap
      have e : ((pw 0).smul (P2 : Rat)).sub ⟨(P2 : Rat), ((0 : Int) : Rat)⟩ = ⟨0, 0⟩ := by
        apply Zc.ext2 <;> simp only [pw, Zc.one, Zc.smul, Zc.sub] <;> grind
      rw [e]
      exact N1.zero Rat.le_refl
    cases f with
    | zero => exact h0
    | succ f => rw [ppw, if_pos rfl]; exact h0
  | 0, n + 1, h => absurd h (by omega)
  | f + 1, n + 1, h => by
    have h1 := ppw_spec f ((n + 1) / 2) (by omega)
    rw [ppw, if_neg (by omega)]
    split
    · have := pmu_spec (psq_spec h1)
      rw [show (n + 1) / 2 + (n + 1) / 2 + 1 = n + 1 by omega] at this
      exact this
    · have := psq_spec h1
      rw [show (n + 1) / 2 + (n + 1) / 2 = n + 1 by omega] at this
      exact this

end Go.Proofs.Ytbdglbpkbpedoaa

namespace Go.Proofs.Ytbdglbpkbpedoaa

/-- The steps' angles. -/
def ang (j : Nat) : Nat := if j = 0 then 56593902016227522 else arcOf (2 ^ j)

/-- The steps' lengths, times 2^96. -/
def rlL : List Int := [112045541949572279837463876454, 88579778557147855148050858080, 81666520642478385872185137491, 79844733389260544582489567998, 79382754197876852108294670498, 79266838700367913179241544870, 79237833330597490869036302401, 79230580329011204561433264044, 79228766974868319490935883519, 79228313629847674508992184321, 79228200293187193355745883648, 79228171958996740382948065270, 79228164875447543843995516927, 79228163104560145753226362879, 79228162661838290045781410047, 79228162551157825732373118979, 79228162523487709629861855232, 79228162516570180602724089856, 79228162514840798345845276672, 79228162514408452781619675136, 79228162514300366390562906112, 79228162514273344792798690816, 79228162514266589393357635552, 79228162514264900543497371646, 79228162514264478331032305663, 79228162514264372777916039167, 79228162514264346389636972543, 79228162514264339792567205887, 79228162514264338143299764223, 79228162514264337730982903807, 79228162514264337627903688703, 79228162514264337602133884927, 79228162514264337595691433983, 79228162514264337594080821247, 79228162514264337593678168063, 79228162514264337593577504767, 79228162514264337593552338943, 79228162514264337593546047487, 79228162514264337593544474623, 79228162514264337593544081407, 79228162514264337593543983103, 79228162514264337593543958527, 79228162514264337593543952383, 79228162514264337593543950847, 79228162514264337593543950463]
def rl (j : Nat) : Int := rlL.getD j 0

/-- A step's turn is its length times the power by its angle, to 3 of 2^-56. -/
def rotStep (j : Nat) : Bool :=
  let s := ppw 80 (256 * ang j)
  decide (abI (rl j * s.x - 2 ^ 288) + abI (rl j * s.y - 2 ^ (288 - j)) + rl j * s.e ≤ 3 * 2 ^ 232) && decide (2 ^ 96 ≤ rl j) && decide (256 * ang j < 2 ^ 80)

set_option maxRecDepth 100000 in
theorem steps_all : (List.range 45).all rotStep = true := by decide +kernel

theorem steps_at (j : Nat) (h : j < 45) : rotStep j = true := List.all_eq_true.1 steps_all j (List.mem_range.2 h)

/-- 2^-j. -/
def hj (j : Nat) : Rat := 1 / 2 ^ j
theorem hj_eq (j : Nat) : (2 : Rat) ^ j * hj j = 1 := by
  have h : (2 : Rat) ^ j ≠ 0 := by
    have := Rat.pow_pos (n := j) (show (0 : Rat) < 2 by decide +kernel)
    grind
  unfold hj
  grind
def rr (j : Nat) : Rat := (rl j : Rat) / 79228162514264337593543950336
theorem rr_eq (j : Nat) : 79228162514264337593543950336 * rr j = (rl j : Rat) := by unfold rr; grind

/-- 2^-56. -/
def ea : Rat := 1 / 72057594037927936
theorem ea_eq : 72057594037927936 * ea = 1 := by decide +kernel

theorem step_near (j : Nat) (h : j < 45) : N1 (((rot (256 * (ang j : Int))).smul (rr j)).sub ⟨1, hj j⟩) (3 * ea) ∧ 1 ≤ rr j := by
  have hs := steps_at j h
  unfold rotStep at hs
  simp only [Bool.and_eq_true, decide_eq_true_eq] at hs
  obtain ⟨⟨h1, h2⟩, h3⟩ := hs
  have hA := ppw_spec 80 (256 * ang j) h3
  have hr : rot (256 * (ang j : Int)) = pw (256 * ang j) := by rw [← rot_nat]; congr 1
  rw [hr]
  generalize ppw 80 (256 * ang j) = s at *
  obtain ⟨x, y, e⟩ := s
  unfold Ap at hA
  simp only at h1 hA
  have k2 := rat_int_le h2
  have e96 : ((2 ^ 96 : Int) : Rat) = 79228162514264337593543950336 := by decide +kernel
  rw [e96] at k2
  have hrr := rr_eq j
  have one : 1 ≤ rr j := by grind
  refine ⟨?_, one⟩
  have k1 := rat_int_le h1
  have g1 := hA.smul (r := (rl j : Rat)) (by grind)
  have g2 := N1_int (rl j * x - 2 ^ 288) (rl j * y - 2 ^ (288 - j))
  have g3 := g1.add g2
  -- 2^288 is 2^96 times 2^192
  have c0 : ((2 ^ 288 : Int) : Rat) = 79228162514264337593543950336 * (P2 : Rat) := by decide +kernel
  have c1 : ((2 ^ (288 - j) : Int) : Rat) = 79228162514264337593543950336 * (P2 : Rat) * hj j := by
    have p : (2 : Int) ^ (288 - j) * 2 ^ j = 2 ^ 288 := by rw [← Int.pow_add, show 288 - j + j = 288 by omega]
    have p2 : (((2 : Int) ^ (288 - j) * 2 ^ j : Int) : Rat) = ((2 ^ 288 : Int) : Rat) := by rw [p]
    rw [Rat.intCast_mul, c0] at p2
    have p3 : (((2 : Int) ^ j : Int) : Rat) = (2 : Rat) ^ j := by rw [Rat.intCast_pow]; rfl
    rw [p3] at p2
    have := hj_eq j
    grind
  have c2 : ((3 * 2 ^ 232 : Int) : Rat) = 79228162514264337593543950336 * (P2 : Rat) * (3 * ea) := by decide +kernel
  rw [Rat.intCast_add, Rat.intCast_add, Rat.intCast_mul, c2] at k1
  rw [Rat.intCast_sub, Rat.intCast_sub, Rat.intCast_mul, Rat.intCast_mul, c0, c1] at g3
  have P0 := P2_pos
  apply N1_shrink (P := 79228162514264337593543950336 * (P2 : Rat)) (Rat.mul_pos (by decide +kernel) P0)
  have g4 := g3.mono (e := 79228162514264337593543950336 * (P2 : Rat) * (3 * ea)) (by grind)
  refine cast (congrArg (fun z => N1 z _) ?_) g4
  rw [← hrr]
  apply Zc.ext2 <;> simp only [Zc.sub, Zc.add, Zc.smul] <;> grind

end Go.Proofs.Ytbdglbpkbpedoaa

namespace Go.Proofs.Ytbdglbpkbpedoaa

/-- A length that is turned, and what is left of the angle. -/
structure Tn where
  re : Int
  im : Int
  left : Int

def tstep (j : Nat) (s : Tn) : Tn :=
  if 0 ≤ s.left then ⟨s.re - s.im / 2 ^ j, s.im + s.re / 2 ^ j, s.left - ang j⟩ else ⟨s.re + s.im / 2 ^ j, s.im - s.re / 2 ^ j, s.left + ang j⟩

def trun : Nat → Tn → Tn
  | 0, s => s
  | k + 1, s => tstep k (trun k s)

/-- The lengths of the first k steps, together. -/
def lp : Nat → Rat
  | 0 => 1
  | k + 1 => lp k * rr k

def asum : Nat → Nat
  | 0 => 0
  | k + 1 => asum k + ang k

def gainK : Int := 43757185469210200

set_option maxRecDepth 100000 in
theorem lp_hi : (gainK : Rat) * lp 45 ≤ 72057594037927952 := by decide +kernel
set_option maxRecDepth 100000 in
theorem lp_lo : (72057594037927920 : Rat) ≤ (gainK : Rat) * lp 45 := by decide +kernel
set_option maxRecDepth 100000 in
theorem asum_hi : asum 45 ≤ 144115188075855872 := by decide +kernel

theorem lp_pos (k : Nat) (h : k ≤ 45) : 1 ≤ lp k := by
  induction k with
  | zero => decide +kernel
  | succ k ih =>
    have h1 := (step_near k (by omega)).2
    have h2 := ih (by omega)
    have := Rat.mul_le_mul_of_nonneg_left h1 (show 0 ≤ lp k by grind)
    rw [lp]
    grind
theorem lp_mono (k : Nat) (h : k ≤ 45) : lp k ≤ lp 45 := by
  have key : ∀ d, d ≤ 45 → lp (45 - d) ≤ lp 45 := by
    intro d
    induction d with
    | zero => intro _; exact Rat.le_refl
    | succ d ih =>
      intro hd
      have h1 := ih (by omega)
      have h2 := (step_near (45 - (d + 1)) (by omega)).2
      have h3 := lp_pos (45 - (d + 1)) (by omega)
      have e : lp (45 - d) = lp (45 - (d + 1)) * rr (45 - (d + 1)) := by
        rw [show 45 - d = 45 - (d + 1) + 1 by omega, lp]
      have := Rat.mul_le_mul_of_nonneg_left h2 (show 0 ≤ lp (45 - (d + 1)) by grind)
      grind
  have := key (45 - k) (by omega)
  rwa [show 45 - (45 - k) = k by omega] at this
theorem asum_mono (k : Nat) (h : k ≤ 45) : asum k ≤ asum 45 := by
  have key : ∀ d, d ≤ 45 → asum (45 - d) ≤ asum 45 := by
    intro d
    induction d with
    | zero => intro _; exact Nat.le_refl _
    | succ d ih =>
      intro hd
      have h1 := ih (by omega)
      have e : asum (45 - d) = asum (45 - (d + 1)) + ang (45 - (d + 1)) := by
        rw [show 45 - d = 45 - (d + 1) + 1 by omega, asum]
      omega
  have := key (45 - k) (by omega)
  rwa [show 45 - (45 - k) = k by omega] at this

/-- How far the ends may be apart. -/
def dn : Nat → Nat
  | 0 => 0
  | k + 1 => dn k + dn k / 2 ^ k + 8
theorem dn_45 : dn 45 ≤ 400 := by decide +kernel

theorem left_bd (s : Tn) (k : Nat) : ((trun k s).left - s.left).natAbs ≤ asum k := by
  induction k with
  | zero => simp [trun, asum]
  | succ k ih =>
    rw [trun, tstep, asum]
    split <;> simp only <;> omega

/-- One step, either way, of what is near a length times a power. -/
theorem step_way (k : Nat) (hk : k < 45) (re im re' im' : Int) (t s : Int) (d m : Rat) (hs : s = 1 ∨ s = -1)
    (h : N1 ((⟨(re : Rat), (im : Rat)⟩ : Zc).sub ((rot (256 * t)).smul m)) d) (m0 : 0 ≤ m) (m1 : m * rr k ≤ 72057594037927952) (ht : t.natAbs ≤ 144115188075855872) (ha : ang k ≤ 144115188075855872)
    (e1 : re' = re - s * (im / 2 ^ k)) (e2 : im' = im + s * (re / 2 ^ k)) :
    N1 ((⟨(re' : Rat), (im' : Rat)⟩ : Zc).sub ((rot (256 * (t + s * ang k))).smul (m * rr k))) (d * (1 + hj k) + 7) := by
  obtain ⟨n1, n2⟩ := step_near k hk
  -- the step's turn, either way
  have hc : N1 (((rot (256 * (s * ang k))).smul (rr k)).sub ⟨1, (s : Rat) * hj k⟩) (3 * ea) := by
    rcases hs with rfl | rfl
    · rw [Int.one_mul]
      refine cast (congrArg (fun z => N1 z _) ?_) n1
      apply Zc.ext2 <;> simp only [Zc.sub, Zc.smul] <;> grind
    · rw [show (256 : Int) * (-1 * (ang k : Int)) = -(256 * (ang k : Int)) by omega, rot_conj]
      refine cast (congrArg (fun z => N1 z _) ?_) n1.conj
      apply Zc.ext2 <;> simp only [Zc.sub, Zc.smul, Zc.conj] <;> grind
  have hj0 : 0 ≤ hj k := by
    have h1 := hj_eq k
    have h2 := Rat.pow_pos (n := k) (show (0 : Rat) < 2 by decide +kernel)
    by_cases h : 0 ≤ hj k
    · exact h
    · have := Rat.mul_le_mul_of_nonneg_left (show hj k ≤ 0 by grind) (show 0 ≤ (2 : Rat) ^ k by grind)
      grind
  have hcn : N1 (⟨1, (s : Rat) * hj k⟩ : Zc) (1 + hj k) := by
    rcases hs with rfl | rfl <;> constructor <;> simp only <;> grind
  -- what was apart, turned
  have g1 := h.mul hcn
  -- the power's part
  have r1 := rot_mul (256 * t) (256 * (s * ang k)) (by omega) (by rcases hs with rfl | rfl <;> omega)
  rw [← Int.mul_add] at r1
  have m2 : 0 ≤ m * rr k := Rat.mul_nonneg m0 (by grind)
  have g2 := r1.smul m2
  have g3 := ((rot_N1 (256 * t) (by omega)).mul hc).smul m0
  -- the rounding
  have fl : ∀ x : Int, ((x / 2 ^ k : Int) : Rat) ≤ hj k * (x : Rat) ∧ hj k * (x : Rat) ≤ ((x / 2 ^ k : Int) : Rat) + 1 := by
    intro x
    have f := rat_floor x (2 ^ k) (Int.pow_pos (by decide))
    have c : (((2 : Int) ^ k : Int) : Rat) = (2 : Rat) ^ k := by rw [Rat.intCast_pow]; rfl
    rw [c] at f
    have h1 := hj_eq k
    have k1 := Rat.mul_le_mul_of_nonneg_left f.1 hj0
    have k2 := Rat.mul_le_mul_of_nonneg_left f.2 hj0
    generalize ((x / 2 ^ k : Int) : Rat) = q at *
    generalize (2 : Rat) ^ k = p at *
    constructor
    · have : hj k * (p * q) = q := by grind
      grind
    · have : hj k * (p * q + p) = q + 1 := by grind
      grind
  have f1 := fl im
  have f2 := fl re
  have c1 : (re' : Rat) = (re : Rat) - (s : Rat) * ((im / 2 ^ k : Int) : Rat) := by rw [e1, Rat.intCast_sub, Rat.intCast_mul]
  have c2 : (im' : Rat) = (im : Rat) + (s : Rat) * ((re / 2 ^ k : Int) : Rat) := by rw [e2, Rat.intCast_add, Rat.intCast_mul]
  have g4 : N1 ((⟨(re' : Rat), (im' : Rat)⟩ : Zc).sub ((⟨(re : Rat), (im : Rat)⟩ : Zc).mul ⟨1, (s : Rat) * hj k⟩)) 2 := by
    rw [c1, c2]
    generalize ((im / 2 ^ k : Int) : Rat) = A at *
    generalize ((re / 2 ^ k : Int) : Rat) = B at *
    have es : (s : Rat) = 1 ∨ (s : Rat) = -1 := by
      rcases hs with h | h
      · left; rw [h]; rfl
      · right; rw [h]; rfl
    clear g1 g2 g3 h e1 e2 c1 c2 fl r1 hc hcn n1
    rcases es with es | es <;> rw [es] <;> refine N1.of (p := 1) (q := 1) ⟨?_, ?_⟩ ⟨?_, ?_⟩ (by grind) <;> simp only [Zc.sub, Zc.mul] <;> grind
  have g3' : N1 ((⟨0, 0⟩ : Zc).sub (((rot (256 * t)).mul (((rot (256 * (s * ang k))).smul (rr k)).sub ⟨1, (s : Rat) * hj k⟩)).smul m)) (m * (3 / 2 * (3 * ea))) := N1.neg0 g3
  have g5 := ((g1.add g2).add g3').add g4
  have m3 := Rat.mul_le_mul_of_nonneg_left n2 m0
  have b1 := Rat.mul_le_mul_of_nonneg_right m1 ep_pos
  have ea0 : 0 ≤ ea := by decide +kernel
  have b2 := Rat.mul_le_mul_of_nonneg_right (show m ≤ 72057594037927952 by grind) ea0
  have v1 : (72057594037927952 : Rat) * ep ≤ 1 / 8 := by decide +kernel
  have v2 : (72057594037927952 : Rat) * ea ≤ 65 / 64 := by decide +kernel
  have g6 := g5.mono (e := d * (1 + hj k) + 7) (by grind)
  refine cast (congrArg (fun z => N1 z _) ?_) g6
  apply Zc.ext2 <;> simp only [Zc.sub, Zc.mul, Zc.add, Zc.smul] <;> grind

theorem ang_bd (k : Nat) (h : k < 45) : ang k ≤ 144115188075855872 := by
  have h1 := asum_mono (k + 1) (by omega)
  have h2 := asum_hi
  rw [asum] at h1
  omega

theorem dn_succ (k : Nat) : (dn k : Rat) * (1 + hj k) + 7 ≤ (dn (k + 1) : Rat) := by
  have h : dn k ≤ 2 ^ k * (dn k / 2 ^ k) + 2 ^ k := Nat.le_of_lt (Nat.lt_mul_div_succ _ (Nat.pow_pos (by decide)))
  have h1 := cast_le h
  rw [Rat.natCast_add, Rat.natCast_mul] at h1
  have c : (((2 : Nat) ^ k : Nat) : Rat) = (2 : Rat) ^ k := by rw [Rat.natCast_pow]; rfl
  rw [c] at h1
  have e : (dn (k + 1) : Rat) = (dn k : Rat) + ((dn k / 2 ^ k : Nat) : Rat) + 8 := by
    rw [dn, Rat.natCast_add, Rat.natCast_add]; rfl
  rw [e]
  have h2 := hj_eq k
  have hj0 : 0 ≤ hj k := by
    have h3 := Rat.pow_pos (n := k) (show (0 : Rat) < 2 by decide +kernel)
    by_cases h : 0 ≤ hj k
    · exact h
    · have := Rat.mul_le_mul_of_nonneg_left (show hj k ≤ 0 by grind) (show 0 ≤ (2 : Rat) ^ k by grind)
      grind
  have k1 := Rat.mul_le_mul_of_nonneg_left h1 hj0
  generalize ((dn k / 2 ^ k : Nat) : Rat) = q at *
  generalize (2 : Rat) ^ k = p at *
  have : hj k * (p * q + p) = q + 1 := by grind
  grind

/-- Where a turn of the inverse by an angle is behind k steps. -/
theorem run_near (z : Int) (k : Nat) (hk : k ≤ 45) :
    N1 ((⟨((trun k ⟨gainK, 0, z⟩).re : Rat), ((trun k ⟨gainK, 0, z⟩).im : Rat)⟩ : Zc).sub ((rot (256 * (z - (trun k ⟨gainK, 0, z⟩).left))).smul ((gainK : Rat) * lp k))) (dn k) := by
  induction k with
  | zero =>
    have e : (⟨((trun 0 ⟨gainK, 0, z⟩).re : Rat), ((trun 0 ⟨gainK, 0, z⟩).im : Rat)⟩ : Zc).sub ((rot (256 * (z - (trun 0 ⟨gainK, 0, z⟩).left))).smul ((gainK : Rat) * lp 0)) = ⟨0, 0⟩ := by
      simp only [trun, Int.sub_self, Int.mul_zero, rot_zero, lp]
      apply Zc.ext2 <;> simp only [Zc.sub, Zc.smul, Zc.one] <;> grind
    rw [e]
    exact N1.zero Rat.le_refl
  | succ k ih =>
    have ih := ih (by omega)
    have hl := left_bd ⟨gainK, 0, z⟩ k
    have hs := asum_mono k (by omega)
    have ha := asum_hi
    have hang := ang_bd k (by omega)
    simp only at hl
    have K0 : (0 : Rat) ≤ (gainK : Rat) := by decide +kernel
    have l1 := lp_pos k (by omega)
    have l2 := lp_mono (k + 1) hk
    have l3 := Rat.mul_le_mul_of_nonneg_left l2 K0
    have m0 : 0 ≤ (gainK : Rat) * lp k := Rat.mul_nonneg K0 (by grind)
    have m1 : (gainK : Rat) * lp k * rr k ≤ 72057594037927952 := by
      have h45 := lp_hi
      rw [lp] at l3
      grind
    have el : (gainK : Rat) * lp (k + 1) = (gainK : Rat) * lp k * rr k := by rw [lp]; grind
    rw [el]
    rw [trun]
    generalize trun k ⟨gainK, 0, z⟩ = s at *
    obtain ⟨re, im, left⟩ := s
    simp only at ih hl
    rw [tstep]
    split
    · have := step_way k (by omega) re im (re - im / 2 ^ k) (im + re / 2 ^ k) (z - left) 1 (dn k) _ (.inl rfl) ih m0 m1 (by omega) hang (by omega) (by omega)
      simp only
      rw [show z - (left - (ang k : Int)) = z - left + 1 * (ang k : Int) by omega]
      exact this.mono (dn_succ k)
    · have := step_way k (by omega) re im (re + im / 2 ^ k) (im - re / 2 ^ k) (z - left) (-1) (dn k) _ (.inr rfl) ih m0 m1 (by omega) hang (by omega) (by omega)
      simp only
      rw [show z - (left + (ang k : Int)) = z - left + -1 * (ang k : Int) by omega]
      exact this.mono (dn_succ k)

end Go.Proofs.Ytbdglbpkbpedoaa

namespace Go.Proofs.Ytbdglbpkbpedoaa

/-- What the steps from k on can still take. -/
def rest (k : Nat) : Nat := asum 45 - asum k + 4096

set_option maxRecDepth 100000 in
theorem rest_all : (List.range 45).all (fun k => Nat.ble (ang k) (rest (k + 1)) && Nat.ble (asum (k + 1)) (asum 45)) = true := by decide +kernel
set_option maxRecDepth 100000 in
theorem rest_0 : 72057594037927936 ≤ rest 0 := by decide +kernel
theorem rest_45 : rest 45 = 4096 := by unfold rest; omega

theorem left_small (x y z : Int) (hz : z.natAbs ≤ 72057594037927936) (k : Nat) (hk : k ≤ 45) : (trun k ⟨x, y, z⟩).left.natAbs ≤ rest k := by
  induction k with
  | zero => have := rest_0; simp only [trun]; omega
  | succ k ih =>
    have ih := ih (by omega)
    have h := List.all_eq_true.1 rest_all k (List.mem_range.2 (by omega))
    simp only [Bool.and_eq_true, Nat.ble_eq] at h
    obtain ⟨h1, h2⟩ := h
    have e : rest k = rest (k + 1) + ang k := by
      have ea : asum (k + 1) = asum k + ang k := rfl
      unfold rest at h1 ⊢
      omega
    rw [trun, tstep]
    split <;> simp only <;> omega

/-- The point of an angle. -/
def pt (z : Int) : Tn := trun 45 ⟨gainK, 0, z⟩
def ptC (z : Int) : Zc := ⟨((pt z).re : Rat), ((pt z).im : Rat)⟩

theorem pt_left (z : Int) (hz : z.natAbs ≤ 72057594037927936) : (pt z).left.natAbs ≤ 4096 := by
  have := left_small gainK 0 z hz 45 (by omega)
  rwa [rest_45] at this

/-- The point of an angle is near the power by it: to 424 of what was turned; to 6600 of the angle. -/
theorem pt_turned (z : Int) (hz : z.natAbs ≤ 72057594037927936) : N1 ((ptC z).sub ((rot (256 * (z - (pt z).left))).smul 72057594037927936)) 424 := by
  have h := run_near z 45 (by omega)
  have hl := pt_left z hz
  unfold ptC
  unfold pt at hl ⊢
  have h1 := lp_hi
  have h2 := lp_lo
  have h3 := cast_le dn_45
  have h3' : (dn 45 : Rat) ≤ 400 := h3
  generalize trun 45 ⟨gainK, 0, z⟩ = s at *
  have hr := rot_N1 (256 * (z - s.left)) (by omega)
  generalize rot (256 * (z - s.left)) = r at *
  generalize (gainK : Rat) * lp 45 = m at *
  by_cases hm : 72057594037927936 ≤ m
  · have g := h.add (hr.smul (r := m - 72057594037927936) (by grind))
    have g2 := g.mono (e := 424) (by grind)
    refine cast (congrArg (fun z => N1 z _) ?_) g2
    apply Zc.ext2 <;> simp only [Zc.sub, Zc.add, Zc.smul] <;> grind
  · have g := h.add (N1.neg0 (hr.smul (r := 72057594037927936 - m) (by grind)))
    have g2 := g.mono (e := 424) (by grind)
    refine cast (congrArg (fun z => N1 z _) ?_) g2
    apply Zc.ext2 <;> simp only [Zc.sub, Zc.add, Zc.smul] <;> grind

theorem pt_rot (z : Int) (hz : z.natAbs ≤ 72057594037927936) : N1 ((ptC z).sub ((rot (256 * z)).smul 72057594037927936)) 6600 := by
  have h := pt_turned z hz
  have hl := pt_left z hz
  have h2 := (rot_near (256 * (z - (pt z).left)) (256 * z) 1048576 (by omega) (by omega) (by omega)).smul (r := 72057594037927936) (by decide +kernel)
  have g := h.add h2
  have e : (424 : Rat) + 72057594037927936 * (3 / 2 * (((1048576 : Nat) : Rat) * b2) + ep) ≤ 6600 := by decide +kernel
  refine cast (congrArg (fun z => N1 z _) ?_) (g.mono e)
  apply Zc.ext2 <;> simp only [Zc.sub, Zc.add, Zc.smul] <;> grind

/-- A point's length. -/
theorem pt_square (z : Int) (hz : z.natAbs ≤ 72057594037927936) :
    5192296858534827628530496329220096 - 590295810358705651712 ≤ (pt z).re * (pt z).re + (pt z).im * (pt z).im ∧ (pt z).re * (pt z).re + (pt z).im * (pt z).im ≤ 5192296858534827628530496329220096 + 590295810358705651712 := by
  have h := pt_turned z hz
  have hl := pt_left z hz
  have key : ((5192296858534827628530496329220096 - 590295810358705651712 : Int) : Rat) ≤ (((pt z).re * (pt z).re + (pt z).im * (pt z).im : Int) : Rat) ∧ (((pt z).re * (pt z).re + (pt z).im * (pt z).im : Int) : Rat) ≤ ((5192296858534827628530496329220096 + 590295810358705651712 : Int) : Rat) := by
    rw [Rat.intCast_add, Rat.intCast_mul, Rat.intCast_mul]
    unfold ptC at h
    have hn : (rot (256 * (z - (pt z).left))).nsq = gq (256 * (z - (pt z).left)).natAbs := by
      rcases Int.eq_nat_or_neg (256 * (z - (pt z).left)) with ⟨n, e | e⟩
      · rw [e, rot_nat, nsq_pw, Int.natAbs_natCast]
      · rw [e, rot_neg, Int.natAbs_neg, Int.natAbs_natCast, ← nsq_pw]
        simp only [Zc.nsq, Zc.conj]; grind
    have q1 := gq_ge (256 * (z - (pt z).left)).natAbs
    have q2 := gq_bd (256 * (z - (pt z).left)).natAbs (by omega)
    have hr := rot_N1 (256 * (z - (pt z).left)) (by omega)
    rw [← hn] at q1 q2
    generalize rot (256 * (z - (pt z).left)) = r at *
    generalize ((pt z).re : Rat) = a at *
    generalize ((pt z).im : Rat) = b at *
    have hr' : N1 (⟨r.re, -r.im⟩ : Zc) (3 / 2) := hr.conj
    have s1 := (hr'.mul h).re
    have h1 := h.re
    have h2 := h.im
    simp only [Zc.sub, Zc.smul, Zc.mul, Zc.nsq] at s1 h1 h2 q1 q2
    generalize r.re = u at *
    generalize r.im = v at *
    have t1 := rat_lin (a - 72057594037927936 * u) (b - 72057594037927936 * v) (a - 72057594037927936 * u) (b - 72057594037927936 * v) 848 424 (by grind) (by grind) (by grind) (by grind) (by grind) (by grind) (by grind) (by grind)
    have t2 := rat_sq_nonneg (a - 72057594037927936 * u)
    have t3 := rat_sq_nonneg (b - 72057594037927936 * v)
    have e1 := ep_eq
    have c1 : ((5192296858534827628530496329220096 - 590295810358705651712 : Int) : Rat) = 5192296858534827628530496329220096 - 590295810358705651712 := by decide +kernel
    have c2 : ((5192296858534827628530496329220096 + 590295810358705651712 : Int) : Rat) = 5192296858534827628530496329220096 + 590295810358705651712 := by decide +kernel
    rw [c1, c2]
    have i1 : a * a + b * b = 5192296858534827628530496329220096 * (u * u + v * v) + 2 * 72057594037927936 * (u * (a - 72057594037927936 * u) - -v * (b - 72057594037927936 * v)) + ((a - 72057594037927936 * u) * (a - 72057594037927936 * u) + (b - 72057594037927936 * v) * (b - 72057594037927936 * v)) := by grind
    rw [i1]
    generalize u * u + v * v = w at *
    generalize u * (a - 72057594037927936 * u) - -v * (b - 72057594037927936 * v) = p at *
    generalize (a - 72057594037927936 * u) * (a - 72057594037927936 * u) = f at *
    generalize (b - 72057594037927936 * v) * (b - 72057594037927936 * v) = g at *
    constructor <;> grind
  exact ⟨Rat.intCast_le_intCast.1 key.1, Rat.intCast_le_intCast.1 key.2⟩

end Go.Proofs.Ytbdglbpkbpedoaa

namespace Go.Proofs.Ytbdglbpkbpedoaa

/-- How great the parts can get together. -/
def bn : Nat → Nat
  | 0 => 144115188075855872
  | k + 1 => bn k + bn k / 2 ^ k + 2
set_option maxRecDepth 100000 in
theorem bn_all : (List.range 46).all (fun k => Nat.ble (bn k) 1152921504606846976) = true := by decide +kernel
theorem bn_bd (k : Nat) (h : k ≤ 45) : bn k ≤ 1152921504606846976 := by
  have := List.all_eq_true.1 bn_all k (List.mem_range.2 (by omega))
  simpa using this

theorem fl_abs (t : Int) (k : Nat) : (t / 2 ^ k).natAbs ≤ t.natAbs / 2 ^ k + 1 := by
  have hp : (0 : Int) < 2 ^ k := Int.pow_pos (by decide)
  have c : ((2 ^ k : Nat) : Int) = 2 ^ k := by simp
  by_cases h : 0 ≤ t
  · obtain ⟨n, rfl⟩ := Int.eq_ofNat_of_zero_le h
    have : ((n : Int) / 2 ^ k) = ((n / 2 ^ k : Nat) : Int) := by rw [← c, Int.natCast_ediv]
    rw [this, Int.natAbs_natCast, Int.natAbs_natCast]
    omega
  · obtain ⟨n, rfl⟩ : ∃ n : Nat, t = -(n : Int) := ⟨t.natAbs, by omega⟩
    have h1 := Int.mul_ediv_self_le (x := -(n : Int)) (Int.ne_of_gt hp)
    have h2 := Int.lt_mul_ediv_self_add (x := -(n : Int)) hp
    have h3 : n / 2 ^ k * 2 ^ k ≤ n := Nat.div_mul_le_self _ _
    have h4 : n < (n / 2 ^ k + 1) * 2 ^ k := by rw [Nat.mul_comm]; exact Nat.lt_mul_div_succ _ (Nat.pow_pos (by decide))
    have h4' : (n : Int) < ((n / 2 ^ k : Nat) + 1) * 2 ^ k := by rw [← c]; exact_mod_cast h4
    rw [Int.natAbs_neg, Int.natAbs_natCast]
    generalize n / 2 ^ k = q at *
    have k1 : -(n : Int) / 2 ^ k ≤ 0 := by
      by_cases hh : -(n : Int) / 2 ^ k ≤ 0
      · exact hh
      · have := Int.mul_le_mul_of_nonneg_left (show (1 : Int) ≤ -(n : Int) / 2 ^ k by omega) (Int.le_of_lt hp)
        omega
    have k2 : -((q : Int) + 1) ≤ -(n : Int) / 2 ^ k := by
      by_cases hh : -((q : Int) + 1) ≤ -(n : Int) / 2 ^ k
      · exact hh
      · exfalso
        have := Int.mul_le_mul_of_nonneg_left (show -(n : Int) / 2 ^ k + 1 ≤ -((q : Int) + 1) by omega) (Int.le_of_lt hp)
        have e1 : (2 : Int) ^ k * (-(n : Int) / 2 ^ k + 1) = 2 ^ k * (-(n : Int) / 2 ^ k) + 2 ^ k := by rw [Int.mul_add, Int.mul_one]
        have e2 : (2 : Int) ^ k * (-((q : Int) + 1)) = -(((q : Int) + 1) * 2 ^ k) := by rw [Int.mul_neg, Int.mul_comm]
        omega
    omega

theorem parts_bd (x z : Int) (h0 : 0 ≤ x) (h1 : x ≤ 144115188075855872) (k : Nat) (hk : k ≤ 45) : (trun k ⟨x, 0, z⟩).re.natAbs + (trun k ⟨x, 0, z⟩).im.natAbs ≤ bn k := by
  induction k with
  | zero => simp only [trun, bn]; omega
  | succ k ih =>
    have ih := ih (by omega)
    rw [trun, tstep, bn]
    have f1 := fl_abs (trun k ⟨x, 0, z⟩).re k
    have f2 := fl_abs (trun k ⟨x, 0, z⟩).im k
    have f3 : (trun k ⟨x, 0, z⟩).re.natAbs / 2 ^ k + (trun k ⟨x, 0, z⟩).im.natAbs / 2 ^ k ≤ bn k / 2 ^ k := by
      rw [Nat.le_div_iff_mul_le (Nat.pow_pos (by decide)), Nat.add_mul]
      have a := Nat.div_mul_le_self (trun k ⟨x, 0, z⟩).re.natAbs (2 ^ k)
      have b := Nat.div_mul_le_self (trun k ⟨x, 0, z⟩).im.natAbs (2 ^ k)
      omega
    split <;> simp only <;> omega

/-- All that a step reckons stays far within Go's whole numbers. -/
theorem trun_bd (x z : Int) (h0 : 0 ≤ x) (h1 : x ≤ 144115188075855872) (hz : z.natAbs ≤ 72057594037927936) (k : Nat) (hk : k ≤ 45) :
    (trun k ⟨x, 0, z⟩).re.natAbs ≤ 1152921504606846976 ∧ (trun k ⟨x, 0, z⟩).im.natAbs ≤ 1152921504606846976 ∧ (trun k ⟨x, 0, z⟩).left.natAbs ≤ 288230376151711744 := by
  have a := parts_bd x z h0 h1 k hk
  have b := bn_bd k hk
  have c := left_small x 0 z hz k hk
  have d := asum_hi
  have e : rest k ≤ 144115188075859968 := by unfold rest; omega
  omega

def gainG : Int := 118661582157481174
set_option maxRecDepth 100000 in
theorem gain_run : (trun 45 ⟨72057594037927936, 0, 0⟩).re = gainG := by decide +kernel
theorem gain_inv : (5192296858534827628530496329220096 : Int) / gainG = gainK := by decide +kernel
theorem gain_lo : gainG * gainK ≤ 5192296858534827628530496329220096 := by decide +kernel
theorem gain_hi : 5192296858534827628530496329220096 < gainG * (gainK + 1) := by decide +kernel

end Go.Proofs.Ytbdglbpkbpedoaa

namespace Go.Proofs.Ytbdglbpkbpedoaa

theorem pt_bd (z : Int) (hz : z.natAbs ≤ 72057594037927936) : (pt z).re.natAbs ≤ 144115188075855872 ∧ (pt z).im.natAbs ≤ 144115188075855872 := by
  have h := (pt_square z hz).2
  generalize (pt z).re = a at *
  generalize (pt z).im = b at *
  have qa : ((a.natAbs * a.natAbs : Nat) : Int) = a * a := Int.natAbs_mul_self
  have qb : ((b.natAbs * b.natAbs : Nat) : Int) = b * b := Int.natAbs_mul_self
  generalize a.natAbs = m at *
  generalize b.natAbs = n at *
  constructor
  · by_cases c : m ≤ 144115188075855872
    · exact c
    · have := Nat.mul_le_mul (show 144115188075855872 ≤ m by omega) (show 144115188075855872 ≤ m by omega)
      generalize m * m = p at *
      generalize n * n = q at *
      omega
  · by_cases c : n ≤ 144115188075855872
    · exact c
    · have := Nat.mul_le_mul (show 144115188075855872 ≤ n by omega) (show 144115188075855872 ≤ n by omega)
      generalize m * m = p at *
      generalize n * n = q at *
      omega

/-- Two points' product is near the point of both angles, or of one next to it. -/
theorem pt_prod (y z s : Int) (hy : y.natAbs ≤ 72057594037927936) (hz : z.natAbs ≤ 72057594037927936) (hs : s.natAbs ≤ 72057594037927936) (hd : (s - (y + z)).natAbs ≤ 1) :
    N1 (((ptC s).smul 72057594037927936).sub ((ptC y).mul (ptC z))) (72057594037927936 * 30000) := by
  have h1 := pt_rot y hy
  have h2 := pt_rot z hz
  have h3 := (pt_rot s hs).smul (r := 72057594037927936) (by decide +kernel)
  have n1 := rot_near (256 * s) (256 * y + 256 * z) 256 (by omega) (by omega) (by omega)
  have n2 := rot_mul (256 * y) (256 * z) (by omega) (by omega)
  have r1 := rot_N1 (256 * y) (by omega)
  have r2 := rot_N1 (256 * z) (by omega)
  have g1 := n1.smul (r := 5192296858534827628530496329220096) (by decide +kernel)
  have g2 := (n2.smul (r := 5192296858534827628530496329220096) (by decide +kernel)).neg0
  have g3 := ((r1.mul h2).smul (r := 72057594037927936) (by decide +kernel)).neg0
  have g4 := ((h1.mul r2).smul (r := 72057594037927936) (by decide +kernel)).neg0
  have g5 := (h1.mul h2).neg0
  have g := ((((h3.add g1).add g2).add g3).add g4).add g5
  have e : (72057594037927936 : Rat) * 6600 + 5192296858534827628530496329220096 * (3 / 2 * (((256 : Nat) : Rat) * b2) + ep) + 5192296858534827628530496329220096 * ep + 72057594037927936 * (3 / 2 * 6600) + 72057594037927936 * (6600 * (3 / 2)) + 6600 * 6600 ≤ 72057594037927936 * 30000 := by decide +kernel
  clear n1 n2 g1 g2 g3 g4 g5 h1 h2 h3 r1 r2
  refine cast (congrArg (fun z => N1 z _) ?_) (g.mono e)
  generalize rot (256 * s) = a
  generalize rot (256 * y + 256 * z) = b
  generalize rot (256 * y) = c
  generalize rot (256 * z) = d
  generalize ptC s = p
  generalize ptC y = q
  generalize ptC z = r
  apply Zc.ext2 <;> simp only [Zc.sub, Zc.add, Zc.smul, Zc.mul] <;> grind

/-- .. in whole numbers. -/
theorem pt_prodZ (y z s : Int) (hy : y.natAbs ≤ 72057594037927936) (hz : z.natAbs ≤ 72057594037927936) (hs : s.natAbs ≤ 72057594037927936) (hd : (s - (y + z)).natAbs ≤ 1) :
    (72057594037927936 * (pt s).re - ((pt y).re * (pt z).re - (pt y).im * (pt z).im)).natAbs ≤ 2161727821137838080000 ∧
    (72057594037927936 * (pt s).im - ((pt y).re * (pt z).im + (pt y).im * (pt z).re)).natAbs ≤ 2161727821137838080000 := by
  have g := pt_prod y z s hy hz hs hd
  have c : ((2161727821137838080000 : Int) : Rat) = 72057594037927936 * 30000 := by decide +kernel
  have c' : ((-2161727821137838080000 : Int) : Rat) = -(72057594037927936 * 30000) := by decide +kernel
  have o : ((72057594037927936 : Int) : Rat) = 72057594037927936 := by decide +kernel
  have h1 := g.re
  have h2 := g.im
  simp only [Zc.sub, Zc.smul, Zc.mul, ptC] at h1 h2
  have key : ∀ x : Int, -(72057594037927936 * 30000) ≤ (x : Rat) → (x : Rat) ≤ 72057594037927936 * 30000 → x.natAbs ≤ 2161727821137838080000 := by
    intro x a b
    rw [← c] at b
    rw [← c'] at a
    have := Rat.intCast_le_intCast.1 a
    have := Rat.intCast_le_intCast.1 b
    omega
  constructor
  · refine key _ ?_ ?_ <;> simp only [Rat.intCast_sub, Rat.intCast_mul, o]
    · exact h1.1
    · exact h1.2
  · refine key _ ?_ ?_ <;> simp only [Rat.intCast_sub, Rat.intCast_add, Rat.intCast_mul, o]
    · exact h2.1
    · exact h2.2

/-- A product of two numbers of 2^56 a one, rounded towards 0. -/
def mq (a b : Int) : Int := (a * b).tdiv 72057594037927936
theorem mq_bd (a b : Int) : 72057594037927936 * mq a b - 72057594037927936 < a * b ∧ a * b < 72057594037927936 * mq a b + 72057594037927936 := by
  unfold mq
  generalize a * b = p
  have h1 := Int.mul_tdiv_add_tmod p 72057594037927936
  have h2 := Int.tmod_lt_of_pos p (show (0 : Int) < 72057594037927936 by decide)
  have h3 : -72057594037927936 < p.tmod 72057594037927936 := by
    have := Int.lt_tmod_of_pos p (show (0 : Int) < 72057594037927936 by decide)
    omega
  omega

theorem pt_mul (y z s : Int) (hy : y.natAbs ≤ 72057594037927936) (hz : z.natAbs ≤ 72057594037927936) (hs : s.natAbs ≤ 72057594037927936) (hd : (s - (y + z)).natAbs ≤ 1) :
    ((pt s).re - (mq (pt y).re (pt z).re - mq (pt y).im (pt z).im)).natAbs ≤ 30002 ∧ ((pt s).im - (mq (pt y).re (pt z).im + mq (pt y).im (pt z).re)).natAbs ≤ 30002 := by
  have h := pt_prodZ y z s hy hz hs hd
  have a1 := mq_bd (pt y).re (pt z).re
  have a2 := mq_bd (pt y).im (pt z).im
  have a3 := mq_bd (pt y).re (pt z).im
  have a4 := mq_bd (pt y).im (pt z).re
  generalize (pt y).re * (pt z).re = p1 at *
  generalize (pt y).im * (pt z).im = p2 at *
  generalize (pt y).re * (pt z).im = p3 at *
  generalize (pt y).im * (pt z).re = p4 at *
  omega

theorem pt_len (z : Int) (hz : z.natAbs ≤ 72057594037927936) : (mq (pt z).re (pt z).re + mq (pt z).im (pt z).im - 72057594037927936).natAbs ≤ 8200 := by
  have h := pt_square z hz
  have a1 := mq_bd (pt z).re (pt z).re
  have a2 := mq_bd (pt z).im (pt z).im
  generalize (pt z).re * (pt z).re = p1 at *
  generalize (pt z).im * (pt z).im = p2 at *
  omega

theorem mq_size (a b : Int) (ha : a.natAbs ≤ 144115188075855872) (hb : b.natAbs ≤ 144115188075855872) : (mq a b).natAbs ≤ 288230376151711745 := by
  have h := mq_bd a b
  have q : (a * b).natAbs ≤ 144115188075855872 * 144115188075855872 := by rw [Int.natAbs_mul]; exact Nat.mul_le_mul ha hb
  generalize a * b = p at *
  omega

theorem N1.toInt {x y : Int} {n : Nat} (h : N1 ⟨(x : Rat), (y : Rat)⟩ (n : Rat)) : x.natAbs ≤ n ∧ y.natAbs ≤ n := by
  have h1 := h.re
  have h2 := h.im
  simp only at h1 h2
  have c : ((n : Nat) : Rat) = ((n : Int) : Rat) := rfl
  rw [c] at h1 h2
  have d : -((n : Int) : Rat) = ((-(n : Int) : Int) : Rat) := by rw [Rat.intCast_neg]
  rw [d] at h1 h2
  have := Rat.intCast_le_intCast.1 h1.1
  have := Rat.intCast_le_intCast.1 h1.2
  have := Rat.intCast_le_intCast.1 h2.1
  have := Rat.intCast_le_intCast.1 h2.2
  omega

/-- The opposite angle's point. -/
theorem pt_conj (z : Int) (hz : z.natAbs ≤ 72057594037927936) : ((pt z).re - (pt (-z)).re).natAbs ≤ 13200 ∧ ((pt z).im + (pt (-z)).im).natAbs ≤ 13200 := by
  have h1 := pt_rot z hz
  have h2 := (pt_rot (-z) (by omega)).conj
  rw [Int.mul_neg, rot_conj] at h2
  have g := h1.add h2.neg0
  have e : (6600 : Rat) + 6600 = ((13200 : Nat) : Rat) := by decide +kernel
  rw [e] at g
  have := N1.toInt (x := (pt z).re - (pt (-z)).re) (y := (pt z).im + (pt (-z)).im) (n := 13200) (by
    refine cast (congrArg (fun z => N1 z _) ?_) g
    simp only [ptC]
    generalize rot (256 * z) = r
    rw [Rat.intCast_sub, Rat.intCast_add]
    apply Zc.ext2 <;> simp only [Zc.sub, Zc.add, Zc.smul, Zc.conj] <;> grind)
  exact this

/-- An eighth's whole: its parts are as long. -/
theorem pt_whole : ((pt 56593902016227522).re - (pt 56593902016227522).im).natAbs ≤ 20000 := by
  have e0 : ((ang 0 : Nat) : Int) = 56593902016227522 := by decide +kernel
  have h := pt_rot 56593902016227522 (by decide)
  obtain ⟨s1, s2⟩ := step_near 0 (by omega)
  rw [e0] at s1
  have hj0 : hj 0 = 1 := by decide +kernel
  rw [hj0] at s1
  generalize rot (256 * 56593902016227522) = r at *
  generalize rr 0 = m at *
  unfold ptC at h
  generalize (pt 56593902016227522).re = a at *
  generalize (pt 56593902016227522).im = b at *
  have k1 := s1.pm
  have k2 := s1.mp
  have h1 := h.pm
  have h2 := h.mp
  simp only [Zc.sub, Zc.smul] at k1 k2 h1 h2
  have ea0 : (72057594037927936 : Rat) * ea = 1 := ea_eq
  have eap : 0 ≤ ea := by decide +kernel
  have d1 : r.re - r.im ≤ 3 * ea := by
    by_cases c : 0 ≤ r.re - r.im
    · have := Rat.mul_le_mul_of_nonneg_right s2 c
      grind
    · grind
  have d2 : r.im - r.re ≤ 3 * ea := by
    by_cases c : 0 ≤ r.im - r.re
    · have := Rat.mul_le_mul_of_nonneg_right s2 c
      grind
    · grind
  have f1 : ((a - b : Int) : Rat) ≤ ((20000 : Int) : Rat) := by
    rw [Rat.intCast_sub, show ((20000 : Int) : Rat) = 20000 by decide +kernel]; grind
  have f2 : ((b - a : Int) : Rat) ≤ ((20000 : Int) : Rat) := by
    rw [Rat.intCast_sub, show ((20000 : Int) : Rat) = 20000 by decide +kernel]; grind
  have := Rat.intCast_le_intCast.1 f1
  have := Rat.intCast_le_intCast.1 f2
  omega

set_option maxRecDepth 100000 in
theorem pt_zero : (pt 0).re = 72057594037927937 ∧ (pt 0).im = 2190 := by decide +kernel

/-- The angle of an eighth's part. -/
def eighthZ (k log : Int) : Int := 56593902016227522 * k / 2 ^ log.toNat

theorem eighthZ_bd (k log : Int) (h0 : 0 ≤ log) (h1 : log ≤ 6) (k0 : 0 ≤ k) (k1 : k ≤ 2 ^ log.toNat) : (eighthZ k log).natAbs ≤ 72057594037927936 ∧ 0 ≤ eighthZ k log ∧ k ≤ 64 := by
  unfold eighthZ
  rcases (by omega : log = 0 ∨ log = 1 ∨ log = 2 ∨ log = 3 ∨ log = 4 ∨ log = 5 ∨ log = 6) with rfl | rfl | rfl | rfl | rfl | rfl | rfl <;> simp at k1 ⊢ <;> omega

end Go.Proofs.Ytbdglbpkbpedoaa
