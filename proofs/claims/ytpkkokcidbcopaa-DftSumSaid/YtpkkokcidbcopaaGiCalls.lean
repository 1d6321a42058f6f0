/- What cx's and reference 3's calls answer, in whole complex numbers. -/
import Derived.Test.YtpkkokcidbcopaaCx4
import Derived.Test.YtpkkokcidbcopaaFourMath
namespace Go.Proofs.Ytpkkokcidbcopaa
open Go.ChangeShapes Go.WideShapes Go.ChangeAt Go.RowKit
set_option linter.unusedVariables false
set_option maxRecDepth 100000

theorem q4g (q : Int) : q % 4 = 0 ∨ q % 4 = 1 ∨ q % 4 = 2 ∨ q % 4 = 3 := by omega
theorem cxconj_gi (a : Gi) (h : a.re.natAbs ≤ 2305843009213693952 ∧ a.im.natAbs ≤ 2305843009213693952) (w : World) :
    Calls Try.prog 18 #[.agg #[.int .i64 a.re, .int .i64 a.im]] w fun e w' => e = .returned (.tuple #[.agg #[.int .i64 a.conj.re, .int .i64 a.conj.im], .int .i64 0]) ∧ Gr w w' :=
  cxconj_ok a.re a.im (by simp only [Bool.and_eq_true, inB_iff]; omega) w

theorem cxturn_gi (a : Gi) (q : Int) (h : a.re.natAbs ≤ 2305843009213693952 ∧ a.im.natAbs ≤ 2305843009213693952) (w : World) :
    Calls Try.prog 41 #[.agg #[.int .i64 a.re, .int .i64 a.im], .int .i64 q] w fun e w' => e = .returned (.tuple #[.agg #[.int .i64 (a.turn q).re, .int .i64 (a.turn q).im], .int .i64 0]) ∧ Gr w w' := by
  have hB : (inB 2305843009213693952 a.re && inB 2305843009213693952 a.im) = true := by simp only [Bool.and_eq_true, inB_iff]; omega
  have ha := and3 q
  unfold Gi.turn
  rcases q4g q with hm | hm | hm | hm <;> rw [hm] at ha <;> simp only [hm]
  · exact cxturn_0 a.re a.im q hB ha w
  · exact cxturn_1 a.re a.im q hB ha w
  · exact cxturn_2 a.re a.im q hB ha w
  · exact cxturn_3 a.re a.im q hB ha w


theorem cxtimes_gi (a w : Gi) (ha : absI a.re ≤ 2147483648 ∧ absI a.im ≤ 2147483648) (hw : absI w.re ≤ 1073741824 ∧ absI w.im ≤ 1073741824) (W : World) :
    Calls Try.prog 25 #[.agg #[.int .i64 a.re, .int .i64 a.im], .agg #[.int .i64 w.re, .int .i64 w.im]] W fun e w' => e = .returned (.tuple #[.agg #[.int .i64 (gmul a w).re, .int .i64 (gmul a w).im], .int .i64 0]) ∧ Gr W w' := by
  have a1 := absI_le.1 ha.1
  have a2 := absI_le.1 ha.2
  have b1 := absI_le.1 hw.1
  have b2 := absI_le.1 hw.2
  exact cxtimes_ok a.re a.im w.re w.im (by simp only [Bool.or_eq_true, Bool.and_eq_true, inB_iff]; omega) W
theorem cxshift_gi (a : Gi) (n : Nat) (mo : Int) (h : (-9223372036854775808 ≤ a.re ∧ a.re ≤ 9223372036854775807) ∧ -9223372036854775808 ≤ a.im ∧ a.im ≤ 9223372036854775807) (hn : n ≤ 62) (m0 : 0 ≤ mo) (m1 : mo ≤ 2) (W : World) :
    Calls Try.prog 27 #[.agg #[.int .i64 a.re, .int .i64 a.im], .int .i64 (n : Int), .int .i64 mo] W fun e w' => e = .returned (.tuple #[.agg #[.int .i64 (grnd n mo a).re, .int .i64 (grnd n mo a).im], .int .i64 0]) ∧ Gr W w' := by
  have := cxshift_ok a.re a.im (n : Int) mo h.1 h.2 (by omega) (by omega) m0 m1 W
  rwa [Int.toNat_natCast] at this
end Go.Proofs.Ytpkkokcidbcopaa
