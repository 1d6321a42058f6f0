/- Proved: for every input, the law BudgetSteps answers true at this commit, and its arguments read afterwards as before. No condition. -/
import Derived.Test.YtmjghakodgihiaaRows
import Derived.WalkKit
import Derived.ProofKit
import Derived.OpenShut
import Derived.Lib.SmallJoins
import Derived.ChangeOld
import Derived.Below
import Derived.Test.YtmjghakodgihiaaLaw14
import Derived.Test.YtmjghakodgihiaaBudgetCode
import Derived.Test.YtmjghakodgihiaaPlanArg
namespace Go.Proofs.Ytmjghakodgihiaa.budgetSteps
open Go.ChangeShapes Go.WideShapes Go.ChangeAt Go.RowKit Go.Joins
set_option linter.unusedVariables false

theorem own : ownKnob Try.prog.godebug = none := by kernel_rfl




set_option maxHeartbeats 4000000 in
set_option maxRecDepth 100000 in
theorem walk (w : World) (a0 : Int) (a1 : Int) (a2 : Int) (a3 : Int) (fo4 lo4 ke4 sc4 mo4 : Int) (iv4 : Bool) (w0 : (Lit.int .i64 a0).wf = true) (w1 : (Lit.int .i64 a1).wf = true) (w2 : (Lit.int .i64 a2).wf = true) (w3 : (Lit.int .i64 a3).wf = true) (v4 : (Lit.int .i64 fo4).wf = true ∧ (Lit.int .i64 lo4).wf = true ∧ (Lit.int .i64 ke4).wf = true ∧ (Lit.int .i64 sc4).wf = true ∧ (Lit.int .i64 mo4).wf = true) :
    Calls Try.prog 3 #[.int .i64 a0, .int .i64 a1, .int .i64 a2, .int .i64 a3, .agg #[.int .i64 fo4, .int .i64 lo4, .int .i64 ke4, .int .i64 sc4, .int .i64 mo4, .bool iv4]] w fun e w' => e = .returned (.bool true) ∧ Gr w w' := by
  have HC := fun (b : Bool) (hb : okF fo4 lo4 ke4 sc4 mo4 = b) => Lib.hid fun W => refCheck_c fo4 lo4 ke4 sc4 mo4 iv4 b hb W
  have HRS := Lib.hid fun W => start14_c fo4 lo4 ke4 sc4 mo4 iv4 W
  have HM := fun (b : Bool) (hb : mayB a0 a1 a2 a3 = b) => Lib.hid fun W => by have := calls_gr (may14_c a0 a1 a2 a3 W); rw [hb] at this; exact this
  have HRT := fun (h : mayB a0 a1 a2 a3 = true) => Lib.hid fun W => calls_gr (step14_c a0 a1 a2 a3 h W)
  cases hok : okF fo4 lo4 ke4 sc4 mo4
  · cases hm : mayB a0 a1 a2 a3
    · exact budgetSteps_nn a0 a1 a2 a3 fo4 lo4 ke4 sc4 mo4 iv4 (Lib.hid fun W => budgetStep_arg a0 a1 a2 a3 hm W) (Lib.hid fun W => budgetStart_bad fo4 lo4 ke4 sc4 mo4 iv4 hok W) (HC _ hok) (HM _ hm) (Lib.hid alive14_c) w
    · exact budgetSteps_ny a0 a1 a2 a3 fo4 lo4 ke4 sc4 mo4 _ iv4 (Lib.hid fun W => budgetStep_ok a0 a1 a2 a3 hm W) (Lib.hid fun W => budgetStart_bad fo4 lo4 ke4 sc4 mo4 iv4 hok W) (HC _ hok) (HM _ hm) (HRT hm) (Lib.hid alive14_c) w
  · cases hm : mayB a0 a1 a2 a3
    · exact budgetSteps_yn a0 a1 a2 a3 fo4 lo4 ke4 sc4 mo4 _ iv4 (Lib.hid fun W => budgetStep_arg a0 a1 a2 a3 hm W) (Lib.hid fun W => budgetStart_ok fo4 lo4 ke4 sc4 mo4 iv4 hok W) (HC _ hok) HRS (HM _ hm) (Lib.hid alive14_c) w
    · exact budgetSteps_yy a0 a1 a2 a3 fo4 lo4 ke4 sc4 mo4 _ _ iv4 (Lib.hid fun W => budgetStep_ok a0 a1 a2 a3 hm W) (Lib.hid fun W => budgetStart_ok fo4 lo4 ke4 sc4 mo4 iv4 hok W) (HC _ hok) HRS (HM _ hm) (HRT hm) (Lib.hid alive14_c) w

set_option maxHeartbeats 4000000 in
set_option maxRecDepth 100000 in
theorem lifted (os : Os) (started : os.Started) (H : Type) (enc : TypeId × Value → H) :
    ReturnsInHanded {} Try.checked os 3 .any (Rows.budgetStepsSpec.pre6 enc Try.prog Try.f3 Rows.budgetStepsRow.domain false) (Rows.budgetStepsSpec.post enc Try.prog Try.f3 false true false false) := by
  refine returnsInHanded_of_change (C := Try.checked) own started (by kernel_rfl) Try.func3
    (ChangeSpec.witness6 (enc := enc) (C := Try.checked) false ⟨#[], #[.int .i64 0, .int .i64 0, .int .i64 0, .int .i64 0, .agg #[.int .i64 0, .int .i64 0, .int .i64 0, .int .i64 0, .int .i64 0, .bool false]], []⟩ 8 (by kernel_rfl) (by kernel_rfl) (by kernel_rfl) (by kernel_rfl)) ?_
  intro W base args ds gs before hval0 hW hcnd _
  have hval : ∀ (j : Nat) t v, Try.f3.params[j]? = some t → args[j]? = some v → Value.okWide Try.prog W .any base t v := hval0
  have hW' := hW
  obtain ⟨p, q, hA0, hV, rfl, hfz, hnd⟩ := hW
  have hA : DataW.TrodAll enc Try.prog W 0 (fun _ => true) true Try.f3.params.toList args.toList ds p := hA0
  rw [Try.params3] at hA hval
  obtain ⟨v0, vs0, d0, ds0, p0, q0, hargs, rfl, rfl, h0, r0⟩ := trodAll_cons hA
  obtain ⟨v1, vs1, d1, ds1, p1, q1, rfl, rfl, rfl, h1, r1⟩ := trodAll_cons r0
  obtain ⟨v2, vs2, d2, ds2, p2, q2, rfl, rfl, rfl, h2, r2⟩ := trodAll_cons r1
  obtain ⟨v3, vs3, d3, ds3, p3, q3, rfl, rfl, rfl, h3, r3⟩ := trodAll_cons r2
  obtain ⟨v4, vs4, d4, ds4, p4, q4, rfl, rfl, rfl, h4, r4⟩ := trodAll_cons r3
  obtain ⟨rfl, rfl, rfl⟩ := trodAll_nil r4
  obtain rfl : args = #[v0, v1, v2, v3, v4] := by cases args; simp_all
  obtain ⟨rfl, rfl⟩ := trodVars_none hV
  obtain ⟨a0, rfl, rfl, rfl, w0⟩ := open_int Try.underlying3 (hval 0 3 v0 rfl rfl) h0
  obtain ⟨a1, rfl, rfl, rfl, w1⟩ := open_int Try.underlying3 (hval 1 3 v1 rfl rfl) h1
  obtain ⟨a2, rfl, rfl, rfl, w2⟩ := open_int Try.underlying3 (hval 2 3 v2 rfl rfl) h2
  obtain ⟨a3, rfl, rfl, rfl, w3⟩ := open_int Try.underlying3 (hval 3 3 v3 rfl rfl) h3
  obtain ⟨fo4, lo4, ke4, sc4, mo4, iv4, rfl, rfl, s4, v4⟩ := plan_open (hval 4 23 v4 rfl rfl) h4
  clear hA0 hval0
  simp only [List.append_nil] at hW'
  refine (walk W a0 a1 a2 a3 fo4 lo4 ke4 sc4 mo4 iv4 w0 w1 w2 w3 v4).mono fun e W' ⟨he, hg⟩ => ?_
  subst he
  exact ⟨_, rfl, post_gr (pa := []) (pv := []) hW' (fun _ _ _ => (trodAll_cons_mk (shut_bool Try.underlying4 _) trodAll_mk0)) (fun sp _ => (trodAll_cons_mk (shut_int Try.underlying3 w0) (trodAll_cons_mk (shut_int Try.underlying3 w1) (trodAll_cons_mk (shut_int Try.underlying3 w2) (trodAll_cons_mk (shut_int Try.underlying3 w3) (trodAll_cons_mk (s4 _ _) trodAll_mk0)))))) (fun _ _ => rfl) rfl hg⟩

theorem over : Rows.budgetStepsRow.holds Try.pinned (OpenSpec.ofChange Rows.budgetStepsSpec) :=
  OpenClaim.holds_of_wide 3 Try.f3 rfl rfl rfl rfl rfl rfl rfl ⟨rfl, rfl, rfl, rfl, rfl⟩ rfl rfl rfl rfl rfl (by kernel_rfl) Try.func3 (by kernel_rfl)
    (of_decide_eq_true (by kernel_rfl)) (by unfold Func.isWrapper; first | (rw [if_pos (by decide +kernel)]; kernel_rfl) | (rw [if_neg (by decide +kernel)]; exact ⟨rfl, rfl⟩))
    (fun os started H enc _ => lifted os started H enc)

/-- THE STATEMENT -/
theorem proved : Rows.BudgetStepsSaid :=
  over
#print axioms proved
end Go.Proofs.Ytmjghakodgihiaa.budgetSteps
