/- Turns as powers of one small turn, in exact fractions: what two powers' product is, how near two powers are, and a power's own numbers. -/
import Derived.Test.YtkbnhoapfjkajaaMath
namespace Go.Proofs.Ytkbnhoapfjkajaa

/-- A number of two parts. -/
structure Zc where
  re : Rat
  im : Rat

theorem Zc.ext2 {a b : Zc} (h1 : a.re = b.re) (h2 : a.im = b.im) : a = b := by cases a; cases b; simp_all

def Zc.mul (a b : Zc) : Zc := ⟨a.re * b.re - a.im * b.im, a.re * b.im + a.im * b.re⟩
def Zc.add (a b : Zc) : Zc := ⟨a.re + b.re, a.im + b.im⟩
def Zc.sub (a b : Zc) : Zc := ⟨a.re - b.re, a.im - b.im⟩
def Zc.conj (a : Zc) : Zc := ⟨a.re, -a.im⟩
def Zc.smul (r : Rat) (a : Zc) : Zc := ⟨r * a.re, r * a.im⟩
def Zc.nsq (a : Zc) : Rat := a.re * a.re + a.im * a.im
def Zc.one : Zc := ⟨1, 0⟩

/-- The parts' distances from 0 are together not more than d. -/
structure N1 (z : Zc) (d : Rat) : Prop where
  pp : z.re + z.im ≤ d
  pm : z.re - z.im ≤ d
  mp : -z.re + z.im ≤ d
  mm : -z.re - z.im ≤ d

theorem N1.nonneg {z : Zc} {d : Rat} (h : N1 z d) : 0 ≤ d := by have := h.pp; have := h.mm; grind
theorem N1.mono {z : Zc} {d e : Rat} (h : N1 z d) (k : d ≤ e) : N1 z e := ⟨Rat.le_trans h.pp k, Rat.le_trans h.pm k, Rat.le_trans h.mp k, Rat.le_trans h.mm k⟩
theorem N1.conj {z : Zc} {d : Rat} (h : N1 z d) : N1 z.conj d := by
  have := h.pp; have := h.pm; have := h.mp; have := h.mm
  constructor <;> simp only [Zc.conj] <;> grind
theorem N1.neg0 {z : Zc} {d : Rat} (h : N1 z d) : N1 ((⟨0, 0⟩ : Zc).sub z) d := by
  have := h.pp; have := h.pm; have := h.mp; have := h.mm
  constructor <;> simp only [Zc.sub] <;> grind
theorem N1.add {a b : Zc} {p q : Rat} (h : N1 a p) (k : N1 b q) : N1 (a.add b) (p + q) := by
  have := h.pp; have := h.pm; have := h.mp; have := h.mm
  have := k.pp; have := k.pm; have := k.mp; have := k.mm
  constructor <;> simp only [Zc.add] <;> grind
theorem N1.smul {a : Zc} {p r : Rat} (h : N1 a p) (hr : 0 ≤ r) : N1 (a.smul r) (r * p) := by
  have h1 := Rat.mul_le_mul_of_nonneg_left h.pp hr
  have h2 := Rat.mul_le_mul_of_nonneg_left h.pm hr
  have h3 := Rat.mul_le_mul_of_nonneg_left h.mp hr
  have h4 := Rat.mul_le_mul_of_nonneg_left h.mm hr
  constructor <;> simp only [Zc.smul] <;> grind
theorem N1.re {z : Zc} {d : Rat} (h : N1 z d) : -d ≤ z.re ∧ z.re ≤ d := by
  have := h.pp; have := h.pm; have := h.mp; have := h.mm
  constructor <;> grind
theorem N1.im {z : Zc} {d : Rat} (h : N1 z d) : -d ≤ z.im ∧ z.im ≤ d := by
  have := h.pp; have := h.pm; have := h.mp; have := h.mm
  constructor <;> grind
theorem N1.of {z : Zc} {p q d : Rat} (h1 : -p ≤ z.re ∧ z.re ≤ p) (h2 : -q ≤ z.im ∧ z.im ≤ q) (h : p + q ≤ d) : N1 z d := by
  obtain ⟨a, b⟩ := h1
  obtain ⟨c, e⟩ := h2
  constructor <;> grind

theorem rat_lin (x y s t p q : Rat) (s1 : s ≤ q) (s2 : -q ≤ s) (t1 : t ≤ q) (t2 : -q ≤ t) (h1 : x + y ≤ p) (h2 : x - y ≤ p) (h3 : -x + y ≤ p) (h4 : -x - y ≤ p) : x * s + y * t ≤ p * q := by
  have hq : 0 ≤ q := by grind
  have hx : x * s ≤ x * q ∨ x * s ≤ -x * q := by
    by_cases h : 0 ≤ x
    · exact .inl (Rat.mul_le_mul_of_nonneg_left s1 h)
    · right
      have := Rat.mul_le_mul_of_nonneg_left s2 (show 0 ≤ -x by grind)
      grind
  have hy : y * t ≤ y * q ∨ y * t ≤ -y * q := by
    by_cases h : 0 ≤ y
    · exact .inl (Rat.mul_le_mul_of_nonneg_left t1 h)
    · right
      have := Rat.mul_le_mul_of_nonneg_left t2 (show 0 ≤ -y by grind)
      grind
  have a1 := Rat.mul_le_mul_of_nonneg_right h1 hq
  have a2 := Rat.mul_le_mul_of_nonneg_right h2 hq
  have a3 := Rat.mul_le_mul_of_nonneg_right h3 hq
  have a4 := Rat.mul_le_mul_of_nonneg_right h4 hq
  rcases hx with hx | hx <;> rcases hy with hy | hy <;> grind

theorem N1.mul {a b : Zc} {p q : Rat} (h : N1 a p) (k : N1 b q) : N1 (a.mul b) (p * q) := by
  obtain ⟨h1, h2, h3, h4⟩ := h
  obtain ⟨k1, k2, k3, k4⟩ := k
  have e1 := rat_lin a.re a.im (b.re + b.im) (b.re - b.im) p q (by grind) (by grind) (by grind) (by grind) h1 h2 h3 h4
  have e2 := rat_lin a.re a.im (b.re - b.im) (-b.re - b.im) p q (by grind) (by grind) (by grind) (by grind) h1 h2 h3 h4
  have e3 := rat_lin a.re a.im (-b.re + b.im) (b.re + b.im) p q (by grind) (by grind) (by grind) (by grind) h1 h2 h3 h4
  have e4 := rat_lin a.re a.im (-b.re - b.im) (-b.re + b.im) p q (by grind) (by grind) (by grind) (by grind) h1 h2 h3 h4
  constructor <;> simp only [Zc.mul] <;> grind

theorem nsq_mul (a b : Zc) : (a.mul b).nsq = a.nsq * b.nsq := by simp only [Zc.mul, Zc.nsq]; grind

theorem rat_sq (s : Rat) (h : s * s ≤ 9 / 4) : s ≤ 3 / 2 := by
  by_cases k : s ≤ 3 / 2
  · exact k
  · exfalso
    have h1 : (3 / 2 : Rat) ≤ s := by grind
    have h2 := Rat.mul_le_mul_of_nonneg_left h1 (show (0 : Rat) ≤ s by grind)
    have h3 : (3 / 2 : Rat) * (3 / 2) < s * (3 / 2) := by grind
    grind

theorem rat_sq_nonneg (s : Rat) : 0 ≤ s * s := by
  by_cases h : 0 ≤ s
  · exact Rat.mul_nonneg h h
  · have := Rat.mul_nonneg (show 0 ≤ -s by grind) (show 0 ≤ -s by grind)
    grind

theorem N1_of_nsq {z : Zc} (h : z.nsq ≤ 9 / 8) : N1 z (3 / 2) := by
  unfold Zc.nsq at h
  have s1 := rat_sq_nonneg (z.re + z.im)
  have s2 := rat_sq_nonneg (z.re - z.im)
  constructor <;> apply rat_sq <;> grind

/-- The small turn, not brought to length 1. -/
def uu : Zc := ⟨1, 1 / 18446744073709551616⟩
def qq : Rat := 1 / 340282366920938463463374607431768211456

def pw : Nat → Zc
  | 0 => Zc.one
  | n + 1 => (pw n).mul uu

def gq : Nat → Rat
  | 0 => 1
  | n + 1 => gq n * (1 + qq)

theorem pw_add (m n : Nat) : pw (m + n) = (pw m).mul (pw n) := by
  induction n with
  | zero => apply Zc.ext2 <;> simp only [Nat.add_zero, pw, Zc.mul, Zc.one] <;> grind
  | succ n ih => rw [Nat.add_succ, pw, ih, pw]; apply Zc.ext2 <;> simp only [Zc.mul] <;> grind

theorem uu_nsq : uu.nsq = 1 + qq := by decide +kernel

theorem nsq_pw (n : Nat) : (pw n).nsq = gq n := by
  induction n with
  | zero => decide +kernel
  | succ n ih => rw [pw, nsq_mul, ih, gq, uu_nsq]

theorem qq_pos : 0 ≤ qq := by decide +kernel

theorem gq_ge (n : Nat) : 1 ≤ gq n := by
  induction n with
  | zero => decide +kernel
  | succ n ih =>
    rw [gq]
    have := Rat.mul_nonneg (show 0 ≤ gq n by grind) qq_pos
    grind

theorem cast_succ (n : Nat) : ((n + 1 : Nat) : Rat) = (n : Rat) + 1 := by rw [Rat.natCast_add]; rfl
theorem cast_nn (n : Nat) : (0 : Rat) ≤ (n : Rat) := Rat.natCast_nonneg

theorem gq_le (n : Nat) (h : 2 * (n : Rat) * qq ≤ 1) : gq n ≤ 1 + 2 * (n : Rat) * qq := by
  induction n with
  | zero => rw [gq]; have := Rat.mul_nonneg (Rat.mul_nonneg (show (0 : Rat) ≤ 2 by grind) (cast_nn 0)) qq_pos; grind
  | succ n ih =>
    rw [cast_succ] at h ⊢
    have q0 := qq_pos
    have h1 : 2 * (n : Rat) * qq ≤ 1 := by grind
    have h2 := Rat.mul_le_mul_of_nonneg_right (ih h1) (show 0 ≤ 1 + qq by grind)
    have h3 := Rat.mul_le_mul_of_nonneg_right h1 q0
    rw [gq]
    grind

theorem cast_le {a b : Nat} (h : a ≤ b) : (a : Rat) ≤ (b : Rat) := Rat.natCast_le_natCast.2 h

/-- 2^-60. -/
def ep : Rat := 1 / 1152921504606846976
theorem ep_eq : 1152921504606846976 * ep = 1 := by decide +kernel
theorem ep_qq : 295147905179352825856 * qq = ep := by decide +kernel
theorem ep_pos : 0 ≤ ep := by decide +kernel
theorem ep_le : ep ≤ 1 / 8 := by decide +kernel

/-- How far the powers' length may be off. -/
theorem gq_bd (n : Nat) (h : n ≤ 73786976294838206464) : 2 * (gq n - 1) ≤ ep := by
  have h1 : (n : Rat) ≤ 73786976294838206464 := cast_le h
  have h2 := Rat.mul_le_mul_of_nonneg_right h1 qq_pos
  have e := ep_qq
  have h3 : 2 * (2 * (n : Rat) * qq) ≤ ep := by grind
  have := ep_le
  have := gq_le n (by grind)
  grind

theorem pw_N1 (n : Nat) (h : n ≤ 73786976294838206464) : N1 (pw n) (3 / 2) := by
  apply N1_of_nsq
  rw [nsq_pw]
  have := gq_bd n h
  have := ep_le
  grind

/-- The turn by a whole number of small angles, either way. -/
def rot : Int → Zc
  | .ofNat n => pw n
  | .negSucc n => (pw (n + 1)).conj

theorem rot_nat (n : Nat) : rot (n : Int) = pw n := rfl
theorem rot_neg (n : Nat) : rot (-(n : Int)) = (pw n).conj := by
  cases n with
  | zero => apply Zc.ext2 <;> simp [rot, pw, Zc.one, Zc.conj] <;> rfl
  | succ n => rfl
theorem rot_conj (a : Int) : rot (-a) = (rot a).conj := by
  rcases Int.eq_nat_or_neg a with ⟨n, rfl | rfl⟩
  · rw [rot_neg, rot_nat]
  · rw [Int.neg_neg, rot_neg, rot_nat]
    apply Zc.ext2 <;> simp only [Zc.conj] <;> grind
theorem rot_zero : rot 0 = Zc.one := rfl

theorem rot_N1 (a : Int) (h : a.natAbs ≤ 73786976294838206464) : N1 (rot a) (3 / 2) := by
  rcases Int.eq_nat_or_neg a with ⟨n, rfl | rfl⟩
  · rw [rot_nat]; exact pw_N1 n (by omega)
  · rw [rot_neg]; exact (pw_N1 n (by omega)).conj

theorem conj_mul (a b : Zc) : (a.mul b).conj = a.conj.mul b.conj := by apply Zc.ext2 <;> simp only [Zc.mul, Zc.conj] <;> grind
theorem mul_comm' (a b : Zc) : a.mul b = b.mul a := by apply Zc.ext2 <;> simp only [Zc.mul] <;> grind

/-- A power and another one's conjugate. -/
theorem pw_conj (k r : Nat) : (pw (k + r)).mul (pw k).conj = (pw r).smul (gq k) := by
  have h := nsq_pw k
  unfold Zc.nsq at h
  rw [pw_add, ← h]
  apply Zc.ext2 <;> simp only [Zc.mul, Zc.conj, Zc.smul] <;> grind

theorem pw_conj_near (k r : Nat) (hk : k ≤ 73786976294838206464) (hr : r ≤ 73786976294838206464) : N1 (((pw (k + r)).mul (pw k).conj).sub (pw r)) ep := by
  rw [pw_conj]
  have h1 := gq_bd k hk
  have h2 := gq_ge k
  have h3 := (pw_N1 r hr).smul (r := gq k - 1) (by grind)
  have e : ((pw r).smul (gq k)).sub (pw r) = (pw r).smul (gq k - 1) := by apply Zc.ext2 <;> simp only [Zc.smul, Zc.sub] <;> grind
  rw [e]
  refine h3.mono ?_
  grind

theorem N1.zero {d : Rat} (h : 0 ≤ d) : N1 ⟨0, 0⟩ d := by constructor <;> grind
theorem sub_self' (a : Zc) : a.sub a = ⟨0, 0⟩ := by apply Zc.ext2 <;> simp only [Zc.sub] <;> grind

/-- Two turns' product is the turn by both, but for 2^-60. -/
theorem rot_mul (a b : Int) (ha : a.natAbs ≤ 73786976294838206464) (hb : b.natAbs ≤ 73786976294838206464) : N1 (((rot a).mul (rot b)).sub (rot (a + b))) ep := by
  have key : ∀ (m k : Nat), m ≤ 73786976294838206464 → k ≤ 73786976294838206464 → N1 (((rot (m : Int)).mul (rot (-(k : Int)))).sub (rot ((m : Int) + -(k : Int)))) ep := by
    intro m k hm hk
    rw [rot_nat, rot_neg]
    by_cases h : k ≤ m
    · obtain ⟨r, rfl⟩ : ∃ r, m = k + r := ⟨m - k, by omega⟩
      rw [show ((k + r : Nat) : Int) + -(k : Int) = (r : Int) by omega, rot_nat]
      exact pw_conj_near k r hk (by omega)
    · obtain ⟨r, rfl⟩ : ∃ r, k = m + r := ⟨k - m, by omega⟩
      rw [show (m : Int) + -((m + r : Nat) : Int) = -(r : Int) by omega, rot_neg]
      have := (pw_conj_near m r hm (by omega)).conj
      refine cast (congrArg (fun z => N1 z _) ?_) this
      apply Zc.ext2 <;> simp only [Zc.mul, Zc.conj, Zc.sub] <;> grind
  rcases Int.eq_nat_or_neg a with ⟨m, rfl | rfl⟩ <;> rcases Int.eq_nat_or_neg b with ⟨k, rfl | rfl⟩
  · rw [← Int.natCast_add, rot_nat, rot_nat, rot_nat, pw_add, sub_self']
    exact N1.zero ep_pos
  · exact key m k (by omega) (by omega)
  · rw [Int.add_comm, mul_comm']
    exact key k m (by omega) (by omega)
  · rw [← Int.neg_add, ← Int.natCast_add, rot_neg, rot_neg, rot_neg, ← conj_mul, pw_add, sub_self']
    exact N1.zero ep_pos

end Go.Proofs.Ytkbnhoapfjkajaa
