/- The helpers of law 5. -/
import Derived.Test.YtaogjlmcdacbeaaGain1
import Derived.Test.YtaogjlmcdacbeaaBits
import Derived.Sort.QuietIn
namespace Go.Proofs.Ytaogjlmcdacbeaa
open Go.ChangeShapes Go.WideShapes Go.ChangeAt Go.RowKit
set_option linter.unusedVariables false

theorem square_nums (a b m : Nat) (hm : m = 256) (h0 : 5192296858534827628530496329220096 - 590295810358705651712 ≤ a * a + b * b) (h1 : a * a + b * b ≤ 5192296858534827628530496329220096 + 590295810358705651712) (p q : Nat) (hp : a * a = p) (hq : b * b = q) :
    281474976710656 - 256 ≤ p / 18446744073709551616 + q / 18446744073709551616 + (p % 18446744073709551616 + q % 18446744073709551616) / 18446744073709551616 ∧ p / 18446744073709551616 + q / 18446744073709551616 + (p % 18446744073709551616 + q % 18446744073709551616) / 18446744073709551616 ≤ 281474976710656 + 256 := by
  rw [hp, hq] at h0 h1
  omega

set_option maxHeartbeats 2000000 in
theorem square_c (re im : Int) (h1 : re.natAbs ≤ 1152921504606846976) (h2 : im.natAbs ≤ 1152921504606846976)
    (n0 : 5192296858534827628530496329220096 - 590295810358705651712 ≤ re * re + im * im) (n1 : re * re + im * im ≤ 5192296858534827628530496329220096 + 590295810358705651712) (w : World) :
    Calls Try.prog 19 #[.agg #[.int .i64 re, .int .i64 im], .int .u64 256] w fun e w' => e = .returned (.bool true) ∧ Gr w w' := by
  obtain ⟨a, ha⟩ : ∃ a, re.natAbs = a := ⟨_, rfl⟩
  obtain ⟨b, hb⟩ : ∃ b, im.natAbs = b := ⟨_, rfl⟩
  have qa : ((a * a : Nat) : Int) = re * re := by rw [← ha]; exact Int.natAbs_mul_self
  have qb : ((b * b : Nat) : Int) = im * im := by rw [← hb]; exact Int.natAbs_mul_self
  obtain ⟨p, hp⟩ : ∃ p, a * a = p := ⟨_, rfl⟩
  obtain ⟨q, hq⟩ : ∃ q, b * b = q := ⟨_, rfl⟩
  have HN := square_nums a b 256 rfl (by omega) (by omega) p q hp hq
  have HA := Lib.hid (mul64_c a a (by omega) (by omega))
  have HB := Lib.hid (mul64_c b b (by omega) (by omega))
  rw [hp] at HA qa
  rw [hq] at HB qb
  have r1 : IntKind.i64.wrap (-re) = -re := IntWalk.i64_in _ ⟨by omega, by omega⟩
  have r2 : IntKind.i64.wrap (-im) = -im := IntWalk.i64_in _ ⟨by omega, by omega⟩
  have r3 : (if re < -re then -re else re) = (a : Int) := by split <;> omega
  have r4 : (if im < -im then -im else im) = (b : Int) := by split <;> omega
  have r5 : IntKind.u64.wrap (a : Int) = (a : Int) := by rw [IntKind.wrap_u64]; omega
  have r6 : IntKind.u64.wrap (b : Int) = (b : Int) := by rw [IntKind.wrap_u64]; omega
  have lp : p < 1329227995784915872903807060280344576 * 2 := by
    have : a * a ≤ 1152921504606846976 * 1152921504606846976 := Nat.mul_le_mul (by omega) (by omega)
    omega
  have lq : q < 1329227995784915872903807060280344576 * 2 := by
    have : b * b ≤ 1152921504606846976 * 1152921504606846976 := Nat.mul_le_mul (by omega) (by omega)
    omega
  have l1 : p / 18446744073709551616 ≤ 288230376151711744 := by omega
  have l2 : q / 18446744073709551616 ≤ 288230376151711744 := by omega
  have l3 : p % 18446744073709551616 < 18446744073709551616 := Nat.mod_lt _ (by decide)
  have l4 : q % 18446744073709551616 < 18446744073709551616 := Nat.mod_lt _ (by decide)
  clear ha hb h1 h2 n0 n1 qa qb hp hq lp lq
  generalize p / 18446744073709551616 = h at *
  generalize p % 18446744073709551616 = l at *
  generalize q / 18446744073709551616 = i at *
  generalize q % 18446744073709551616 = m at *
  have ad := add64_c (l : Int) (m : Int) (by omega) (by omega)
  obtain ⟨c, hc⟩ : ∃ c, (l + m) / 18446744073709551616 = c := ⟨_, rfl⟩
  have hc' : ((l : Int) + (m : Int)) / 18446744073709551616 = (c : Int) := by rw [← hc]; omega
  rw [hc'] at ad
  rw [hc] at HN
  have c1 : c ≤ 1 := by omega
  obtain ⟨g1, g2⟩ := HN
  have s1 : (281474976710400 : Int) ≤ (h : Int) + i + c := by omega
  have s2 : (h : Int) + i + c ≤ (281474976710912 : Int) := by omega
  clear hc hc' g1 g2 l3 l4
  go_enter Try.func19, Try.ntmps19
  go_wp2_with fail
  go_quiet (fail)
  clear r1 r2 r3 r4 r5 r6
  go_wp2_with (first
    | (go_at_call 17; with_reducible refine (HA.out _).mono ?_; rintro e w1 ⟨rfl, hw⟩; rw [hw])
    | (go_at_call 17; with_reducible refine (HB.out _).mono ?_; rintro e w2 ⟨rfl, hw⟩; rw [hw]))
  go_ret
  exact ⟨rfl, ((Gr.refl w).alloc _ _).drewN _⟩

/-- What the code's functions answer, as the law asks it. -/
def AngIs (W : World) : Prop := Calls Try.prog 8 #[] W fun e w' => ∃ v, e = .returned v ∧ IntsAt w' v angL ∧ Gr W w'
def GainIs (W : World) : Prop := Calls Try.prog 10 #[] W fun e w' => e = .returned (.int .i64 118661582157481174) ∧ Gr W w'
def InvIs (W : World) : Prop := Calls Try.prog 12 #[] W fun e w' => e = .returned (.int .i64 43757185469210200) ∧ Gr W w'

theorem alive05_c (HG : ∀ W, GainIs W) (HA : ∀ W, AngIs W) (w : World) : Calls Try.prog 14 #[] w fun e w' => e = .returned (.bool true) ∧ Gr w w' := by
  have G := Lib.hid HG
  have A := Lib.hid HA
  have hL := angL_len
  clear HG HA
  go_enter Try.func14, Try.ntmps14
  go_wp2_with fail
  refine (G.out w).mono ?_
  rintro e w1 ⟨rfl, hg1⟩
  go_wp2_with fail
  refine (A.out w1).mono ?_
  rintro e w2 ⟨v, rfl, hI, hg2⟩
  obtain ⟨p, cap, rfl⟩ := hI.len
  rw [hL]
  clear hI hL
  go_wp2_with fail
  go_ret
  exact ⟨rfl, hg1.trans hg2⟩

end Go.Proofs.Ytaogjlmcdacbeaa
