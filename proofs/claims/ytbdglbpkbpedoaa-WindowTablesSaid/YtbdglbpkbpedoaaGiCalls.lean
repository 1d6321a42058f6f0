/- What cx's and reference 3's calls answer, in whole complex numbers. -/
import Derived.Test.YtbdglbpkbpedoaaCx4
import Derived.Test.YtbdglbpkbpedoaaFourMath
namespace Go.Proofs.Ytbdglbpkbpedoaa
open Go.ChangeShapes Go.WideShapes Go.ChangeAt Go.RowKit
set_option linter.unusedVariables false
set_option maxRecDepth 100000

theorem q4g (q : Int) : q % 4 = 0 ∨ q % 4 = 1 ∨ q % 4 = 2 ∨ q % 4 = 3 := by omega
theorem rturn_gi (a : Gi) (q : Int) (h : a.re.natAbs ≤ 2305843009213693952 ∧ a.im.natAbs ≤ 2305843009213693952) (w : World) :
    Calls Try.prog 67 #[.agg #[.int .i64 a.re, .int .i64 a.im], .int .i64 q] w fun e w' => e = .returned (.agg #[.int .i64 (a.turn q).re, .int .i64 (a.turn q).im]) ∧ Gr w w' := by
  have h0 : wrap64 (-a.re) = -a.re := IntWalk.wrap64_in _ (by omega)
  have h1 : wrap64 (-a.im) = -a.im := IntWalk.wrap64_in _ (by omega)
  have ht := tmod4 q
  unfold Gi.turn
  rcases q4g q with hm | hm | hm | hm <;> rw [hm] at ht <;> simp only [hm]
  · exact rturn_0 a.re a.im q _ _ _ h0 h1 rfl (by omega) w
  · exact rturn_1 a.re a.im q _ _ _ h0 h1 rfl (by omega) w
  · exact rturn_2 a.re a.im q _ _ _ h0 h1 rfl (by omega) w
  · exact rturn_3 a.re a.im q _ _ _ h0 h1 rfl (by omega) w

theorem rconj_gi (a : Gi) (h : a.im.natAbs ≤ 2305843009213693952) (w : World) :
    Calls Try.prog 66 #[.agg #[.int .i64 a.re, .int .i64 a.im]] w fun e w' => e = .returned (.agg #[.int .i64 a.conj.re, .int .i64 a.conj.im]) ∧ Gr w w' :=
  rconj_c a.re a.im _ (IntWalk.wrap64_in _ (by omega)) w

theorem cxconj_gi (a : Gi) (h : a.re.natAbs ≤ 2305843009213693952 ∧ a.im.natAbs ≤ 2305843009213693952) (w : World) :
    Calls Try.prog 59 #[.agg #[.int .i64 a.re, .int .i64 a.im]] w fun e w' => e = .returned (.tuple #[.agg #[.int .i64 a.conj.re, .int .i64 a.conj.im], .int .i64 0]) ∧ Gr w w' :=
  cxconj_ok a.re a.im (by simp only [Bool.and_eq_true, inB_iff]; omega) w

theorem cxturn_gi (a : Gi) (q : Int) (h : a.re.natAbs ≤ 2305843009213693952 ∧ a.im.natAbs ≤ 2305843009213693952) (w : World) :
    Calls Try.prog 58 #[.agg #[.int .i64 a.re, .int .i64 a.im], .int .i64 q] w fun e w' => e = .returned (.tuple #[.agg #[.int .i64 (a.turn q).re, .int .i64 (a.turn q).im], .int .i64 0]) ∧ Gr w w' := by
  have hB : (inB 2305843009213693952 a.re && inB 2305843009213693952 a.im) = true := by simp only [Bool.and_eq_true, inB_iff]; omega
  have ha := and3 q
  unfold Gi.turn
  rcases q4g q with hm | hm | hm | hm <;> rw [hm] at ha <;> simp only [hm]
  · exact cxturn_0 a.re a.im q hB ha w
  · exact cxturn_1 a.re a.im q hB ha w
  · exact cxturn_2 a.re a.im q hB ha w
  · exact cxturn_3 a.re a.im q hB ha w


theorem cxshift_gi (a : Gi) (n : Nat) (mo : Int) (h : (-9223372036854775808 ≤ a.re ∧ a.re ≤ 9223372036854775807) ∧ -9223372036854775808 ≤ a.im ∧ a.im ≤ 9223372036854775807) (hn : n ≤ 62) (m0 : 0 ≤ mo) (m1 : mo ≤ 2) (W : World) :
    Calls Try.prog 57 #[.agg #[.int .i64 a.re, .int .i64 a.im], .int .i64 (n : Int), .int .i64 mo] W fun e w' => e = .returned (.tuple #[.agg #[.int .i64 (grnd n mo a).re, .int .i64 (grnd n mo a).im], .int .i64 0]) ∧ Gr W w' := by
  have := cxshift_ok a.re a.im (n : Int) mo h.1 h.2 (by omega) (by omega) m0 m1 W
  rwa [Int.toNat_natCast] at this
set_option maxHeartbeats 1000000 in
theorem rshift03_gi (a : Gi) (n : Nat) (mo : Int) (h : (-9223372036854775808 ≤ a.re ∧ a.re ≤ 9223372036854775807) ∧ -9223372036854775808 ≤ a.im ∧ a.im ≤ 9223372036854775807) (hn : n ≤ 62) (m0 : 0 ≤ mo) (m1 : mo ≤ 2) (w : World) :
    Calls Try.prog 64 #[.agg #[.int .i64 a.re, .int .i64 a.im], .int .i64 (n : Int), .int .i64 mo] w fun e w' => e = .returned (.agg #[.int .i64 (grnd n mo a).re, .int .i64 (grnd n mo a).im]) ∧ Gr w w' := by
  have HX := Lib.hid (refShift_c a.re (n : Int) mo h.1 (by omega) (by omega) m0 m1)
  have HY := Lib.hid (refShift_c a.im (n : Int) mo h.2 (by omega) (by omega) m0 m1)
  rw [Int.toNat_natCast] at HX HY
  unfold grnd
  obtain ⟨x, y⟩ := a
  simp only at HX HY ⊢
  generalize rnd x n mo = r0 at HX ⊢
  generalize rnd y n mo = r1 at HY ⊢
  clear h hn m0 m1
  go_enter Try.func64, Try.ntmps64
  go_wp2_with fail
  go_region_held3 (fun W => W.cell? ⟨w.heap.size, 0, none⟩ = some (.int .i64 x) ∧ W.cell? ⟨w.heap.size, 1, none⟩ = some (.int .i64 y))
    (go_keep)
    (first | (go_at_call 30; ((with_reducible refine (HX.out _).mono ?_); rintro e w' ⟨rfl, rfl⟩)) | (go_at_call 30; ((with_reducible refine (HY.out _).mono ?_); rintro e w' ⟨rfl, rfl⟩)))
  go_wp2
  refine bodyPost_ret (v := .agg #[.int .i64 r0, .int .i64 r1]) ?_ rfl ⟨rfl, ?_⟩
  · simp [results, Try.results64, go_sem]
  · exact by repeat (first | exact Gr.refl _ | assumption | apply Gr.drew | apply Gr.alloc | (refine Gr.setCell ?_ (by first | (simp; done) | (simp; omega)) _))

end Go.Proofs.Ytbdglbpkbpedoaa
