/- Proved: for every input, the law CxTimes answers true at this commit, and its arguments read afterwards as before. No condition. -/
import Derived.Test.YtbgdhpcidcnjkaaRows
import Derived.WalkKit
import Derived.ProofKit
import Derived.OpenShut
import Derived.Lib.SmallJoins
import Derived.Test.YtbgdhpcidcnjkaaCxTimesCore
namespace Go.Proofs.Ytbgdhpcidcnjkaa.cxTimes
open Go.ChangeShapes Go.WideShapes Go.ChangeAt Go.RowKit Go.Joins
set_option linter.unusedVariables false

theorem own : ownKnob Try.prog.godebug = none := by kernel_rfl
theorem cellsC : Try.prog.cellsOf 23 = 2 := by kernel_rfl


set_option maxHeartbeats 4000000 in
set_option maxRecDepth 100000 in
theorem walk (x0 y0 : Int) (x1 y1 : Int) (wx0 : (Lit.int .i64 x0).wf = true) (wy0 : (Lit.int .i64 y0).wf = true) (wx1 : (Lit.int .i64 x1).wf = true) (wy1 : (Lit.int .i64 y1).wf = true) (w : World) :
    Calls Try.prog 4 #[.agg #[.int .i64 x0, .int .i64 y0], .agg #[.int .i64 x1, .int .i64 y1]] w fun e w' => e = .returned (.bool true) ∧ Grown w w' := by
  have main : ∃ (vx0 vx1 ex rx0 rx1 : Int), ((∀ W, Calls Try.prog 18 #[.agg #[.int .i64 x0, .int .i64 y0], .agg #[.int .i64 x1, .int .i64 y1]] W fun e w' => e = .returned (.tuple #[.agg #[.int .i64 vx0, .int .i64 vx1], .int .i64 ex]) ∧ Gr W w') ∧ (∀ W, Calls Try.prog 21 #[.agg #[.int .i64 x0, .int .i64 y0], .agg #[.int .i64 x1, .int .i64 y1]] W fun e w' => e = .returned (.agg #[.int .i64 rx0, .int .i64 rx1]) ∧ Gr W w') ∧
      (∀ W, Calls Try.prog 13 #[.agg #[.int .i64 vx0, .int .i64 vx1], .int .i64 ex, .bool (((inB 2147483648 x0 && inB 2147483648 y0) && (inB 1073741824 x1 && inB 1073741824 y1)) || ((inB 2147483648 x1 && inB 2147483648 y1) && (inB 1073741824 x0 && inB 1073741824 y0))), .agg #[.int .i64 rx0, .int .i64 rx1]] W fun e w' => e = .returned (.bool true) ∧ Gr W w')) := by
    cases hM : (((inB 2147483648 x0 && inB 2147483648 y0) && (inB 1073741824 x1 && inB 1073741824 y1)) || ((inB 2147483648 x1 && inB 2147483648 y1) && (inB 1073741824 x0 && inB 1073741824 y0)))
    · have hM2 := hM
      simp only [Bool.or_eq_false_iff] at hM2
      exact ⟨_, _, _, _, _, cxtimes_bad x0 y0 x1 y1 hM2.1 hM2.2, rtimes_c x0 y0 x1 y1 _ _ _ _ _ _ rfl rfl rfl rfl rfl rfl, told_no _ _⟩
    · have bd := times_bd x0 y0 x1 y1 hM
      obtain ⟨⟨u0, u1⟩, ⟨u2, u3⟩, ⟨u4, u5⟩, u6, u7⟩ := bd
      exact ⟨_, _, _, _, _, cxtimes_ok x0 y0 x1 y1 hM, rtimes_c x0 y0 x1 y1 _ _ _ _ _ _ (IntWalk.wrap64_in _ (by omega)) (IntWalk.wrap64_in _ (by omega)) (IntWalk.wrap64_in _ (by omega)) (IntWalk.wrap64_in _ (by omega)) (IntWalk.wrap64_in _ (by omega)) (IntWalk.wrap64_in _ (by omega)), told_yes _ _⟩
  obtain ⟨vx0, vx1, ex, rx0, rx1, H1, H2, H3⟩ := main
  cases hN : (inB 2147483648 x0 && inB 2147483648 y0)
  · exact (core_f x0 y0 x1 y1 vx0 vx1 ex rx0 rx1 _ (Lib.hid H1) (Lib.hid (cxnorm_bad x0 y0 hN)) (Lib.hid (rmay_c x0 y0 x1 y1)) (Lib.hid H2) (Lib.hid H3)
      (Lib.hid fun W => (rwithin_c x0 y0 2147483648 (by decide) (by decide) W).mono fun e w' ⟨he, hg⟩ => ⟨by rw [he, hN], hg⟩) w).mono fun e w' ⟨he, hg⟩ => ⟨he, hg.out⟩
  · have hb := hN
    simp only [Bool.and_eq_true, inB_iff] at hb
    have p0 := mul_bd 2147483648 2147483648 x0 x0 (by decide) (by decide) hb.1.1 hb.1.2 hb.1.1 hb.1.2
    have p1 := mul_bd 2147483648 2147483648 y0 y0 (by decide) (by decide) hb.2.1 hb.2.2 hb.2.1 hb.2.2
    exact (core_t x0 y0 x1 y1 vx0 vx1 ex rx0 rx1 _ _ (Lib.hid H1) (Lib.hid (cxnorm_ok x0 y0 hN)) (Lib.hid (rmay_c x0 y0 x1 y1)) (Lib.hid H2) (Lib.hid H3)
      (Lib.hid fun W => (rwithin_c x0 y0 2147483648 (by decide) (by decide) W).mono fun e w' ⟨he, hg⟩ => ⟨by rw [he, hN], hg⟩) (Lib.hid (rnorm_c x0 y0 (sq_nonneg x0) (by omega) (sq_nonneg y0) (by omega))) w).mono fun e w' ⟨he, hg⟩ => ⟨he, hg.out⟩

set_option maxHeartbeats 4000000 in
set_option maxRecDepth 100000 in
theorem lifted (os : Os) (started : os.Started) (H : Type) (enc : TypeId × Value → H) :
    ReturnsInHanded {} Try.checked os 4 .any (Rows.cxTimesSpec.pre6 enc Try.prog Try.f4 Rows.cxTimesRow.domain false) (Rows.cxTimesSpec.post enc Try.prog Try.f4 false true false false) := by
  refine returnsInHanded_of_change (C := Try.checked) own started (by kernel_rfl) Try.func4
    (ChangeSpec.witness6 (enc := enc) (C := Try.checked) false ⟨#[], #[.agg #[.int .i64 0, .int .i64 0], .agg #[.int .i64 0, .int .i64 0]], []⟩ 8 (by kernel_rfl) (by kernel_rfl) (by kernel_rfl) (by kernel_rfl)) ?_
  intro W base args ds gs before hval0 hW hcnd _
  have hval : ∀ (j : Nat) t v, Try.f4.params[j]? = some t → args[j]? = some v → Value.okWide Try.prog W .any base t v := hval0
  have hW' := hW
  obtain ⟨p, q, hA0, hV, rfl, hfz, hnd⟩ := hW
  have hA : DataW.TrodAll enc Try.prog W 0 (fun _ => true) true Try.f4.params.toList args.toList ds p := hA0
  rw [Try.params4] at hA hval
  obtain ⟨v0, vs0, d0, ds0, p0, q0, hargs, rfl, rfl, h0, r0⟩ := trodAll_cons hA
  obtain ⟨v1, vs1, d1, ds1, p1, q1, rfl, rfl, rfl, h1, r1⟩ := trodAll_cons r0
  obtain ⟨rfl, rfl, rfl⟩ := trodAll_nil r1
  obtain rfl : args = #[v0, v1] := by cases args; simp_all
  obtain ⟨rfl, rfl⟩ := trodVars_none hV
  obtain ⟨c00, c01, z00, z01, m0, rfl, rfl, rfl, hy00, hy01⟩ := open_agg2 Try.underlying23 (by kernel_rfl) cellsC (hval 0 23 v0 rfl rfl) h0
  obtain ⟨x0, e00, rfl, wx0⟩ := DataW.trod_int Try.underlying3 hy00
  obtain ⟨y0, e01, rfl, wy0⟩ := DataW.trod_int Try.underlying3 hy01
  simp at e00 e01
  subst e00 e01
  have s0 : ∀ (W' : World) (sp : Nat → Bool), DataW.Trod enc Try.prog W' 0 sp true 23 (.agg #[.int .i64 x0, .int .i64 y0]) (.agg [.lit (.int .i64 x0), .lit (.int .i64 y0)]) [] := fun W' sp =>
    shut_agg2 (y0 := (.lit (.int .i64 x0), [])) (y1 := (.lit (.int .i64 y0), [])) Try.underlying23 (by kernel_rfl) cellsC ⟨1, by simp [DataW.trod, Try.underlying3, wx0]⟩ ⟨1, by simp [DataW.trod, Try.underlying3, wy0]⟩
  obtain ⟨c10, c11, z10, z11, m1, rfl, rfl, rfl, hy10, hy11⟩ := open_agg2 Try.underlying23 (by kernel_rfl) cellsC (hval 1 23 v1 rfl rfl) h1
  obtain ⟨x1, e10, rfl, wx1⟩ := DataW.trod_int Try.underlying3 hy10
  obtain ⟨y1, e11, rfl, wy1⟩ := DataW.trod_int Try.underlying3 hy11
  simp at e10 e11
  subst e10 e11
  have s1 : ∀ (W' : World) (sp : Nat → Bool), DataW.Trod enc Try.prog W' 0 sp true 23 (.agg #[.int .i64 x1, .int .i64 y1]) (.agg [.lit (.int .i64 x1), .lit (.int .i64 y1)]) [] := fun W' sp =>
    shut_agg2 (y0 := (.lit (.int .i64 x1), [])) (y1 := (.lit (.int .i64 y1), [])) Try.underlying23 (by kernel_rfl) cellsC ⟨1, by simp [DataW.trod, Try.underlying3, wx1]⟩ ⟨1, by simp [DataW.trod, Try.underlying3, wy1]⟩
  clear hA0 hval0
  simp only [List.append_nil] at hW'
  refine (walk x0 y0 x1 y1 wx0 wy0 wx1 wy1 W).mono fun e W' ⟨he, hg⟩ => ?_
  subst he
  exact ⟨_, rfl, post_of_same (pa := []) (pv := []) hW' (fun _ _ _ => (trodAll_cons_mk (shut_bool Try.underlying4 _) trodAll_mk0)) (fun sp _ => (trodAll_cons_mk (s0 _ _) (trodAll_cons_mk (s1 _ _) trodAll_mk0))) (fun _ _ => rfl) rfl
    (hg.frame _) hg.2.1 (ok_one (by kernel_rfl) rfl (okWide_bool_mk Try.underlying4 _))⟩

theorem over : Rows.cxTimesRow.holds Try.pinned (OpenSpec.ofChange Rows.cxTimesSpec) :=
  OpenClaim.holds_of_wide 4 Try.f4 rfl rfl rfl rfl rfl rfl rfl ⟨rfl, rfl, rfl, rfl, rfl⟩ rfl rfl rfl rfl rfl (by kernel_rfl) Try.func4 (by kernel_rfl)
    (of_decide_eq_true (by kernel_rfl)) (by unfold Func.isWrapper; first | (rw [if_pos (by decide +kernel)]; kernel_rfl) | (rw [if_neg (by decide +kernel)]; exact ⟨rfl, rfl⟩))
    (fun os started H enc _ => lifted os started H enc)

/-- THE STATEMENT -/
theorem proved : Rows.CxTimesSaid :=
  over
#print axioms proved
end Go.Proofs.Ytbgdhpcidcnjkaa.cxTimes
