/- Proved: for every input, the law PlanChecks answers true at this commit, and its arguments read afterwards as before. No condition. -/
import Derived.Test.YtomjldaonpjloaaRows
import Derived.WalkKit
import Derived.ProofKit
import Derived.OpenShut
import Derived.Lib.SmallJoins
import Derived.ChangeOld
import Derived.Below
import Derived.Test.YtomjldaonpjloaaPlanChecksCore
import Derived.Test.YtomjldaonpjloaaPlanArg
namespace Go.Proofs.Ytomjldaonpjloaa.planChecks
open Go.ChangeShapes Go.WideShapes Go.ChangeAt Go.RowKit Go.Joins
set_option linter.unusedVariables false

theorem own : ownKnob Try.prog.godebug = none := by kernel_rfl




set_option maxHeartbeats 4000000 in
set_option maxRecDepth 100000 in
theorem walk (w : World) (fo0 lo0 ke0 sc0 mo0 : Int) (iv0 : Bool) (v0 : (Lit.int .i64 fo0).wf = true ∧ (Lit.int .i64 lo0).wf = true ∧ (Lit.int .i64 ke0).wf = true ∧ (Lit.int .i64 sc0).wf = true ∧ (Lit.int .i64 mo0).wf = true) :
    Calls Try.prog 3 #[.agg #[.int .i64 fo0, .int .i64 lo0, .int .i64 ke0, .int .i64 sc0, .int .i64 mo0, .bool iv0]] w fun e w' => e = .returned (.bool true) ∧ Gr w w' := by
  cases hok : okF fo0 lo0 ke0 sc0 mo0
  · exact planChecks_bad fo0 lo0 ke0 sc0 mo0 iv0 (Lib.hid fun W => passes_bad fo0 lo0 ke0 sc0 mo0 iv0 hok W) (Lib.hid fun W => refCheck_c fo0 lo0 ke0 sc0 mo0 iv0 false hok W) (Lib.hid fun W => check_c fo0 lo0 ke0 sc0 mo0 iv0 4 (by rw [hok]; rfl) W) (Lib.hid alive13_c) w
  · exact planChecks_ok fo0 lo0 ke0 sc0 mo0 iv0 (passL ke0 lo0) (Lib.hid fun W => passes_ok fo0 lo0 ke0 sc0 mo0 0 iv0 hok W) (Lib.hid fun W => refCheck_c fo0 lo0 ke0 sc0 mo0 iv0 true hok W) (Lib.hid fun W => check_c fo0 lo0 ke0 sc0 mo0 iv0 0 (by rw [hok]; rfl) W) (Lib.hid fun W => refPasses_c fo0 lo0 ke0 sc0 mo0 iv0 hok W) (Lib.hid alive13_c) w

set_option maxHeartbeats 4000000 in
set_option maxRecDepth 100000 in
theorem lifted (os : Os) (started : os.Started) (H : Type) (enc : TypeId × Value → H) :
    ReturnsInHanded {} Try.checked os 3 .any (Rows.planChecksSpec.pre6 enc Try.prog Try.f3 Rows.planChecksRow.domain false) (Rows.planChecksSpec.post enc Try.prog Try.f3 false true false false) := by
  refine returnsInHanded_of_change (C := Try.checked) own started (by kernel_rfl) Try.func3
    (ChangeSpec.witness6 (enc := enc) (C := Try.checked) false ⟨#[], #[.agg #[.int .i64 0, .int .i64 0, .int .i64 0, .int .i64 0, .int .i64 0, .bool false]], []⟩ 8 (by kernel_rfl) (by kernel_rfl) (by kernel_rfl) (by kernel_rfl)) ?_
  intro W base args ds gs before hval0 hW hcnd _
  have hval : ∀ (j : Nat) t v, Try.f3.params[j]? = some t → args[j]? = some v → Value.okWide Try.prog W .any base t v := hval0
  have hW' := hW
  obtain ⟨p, q, hA0, hV, rfl, hfz, hnd⟩ := hW
  have hA : DataW.TrodAll enc Try.prog W 0 (fun _ => true) true Try.f3.params.toList args.toList ds p := hA0
  rw [Try.params3] at hA hval
  obtain ⟨v0, vs0, d0, ds0, p0, q0, hargs, rfl, rfl, h0, r0⟩ := trodAll_cons hA
  obtain ⟨rfl, rfl, rfl⟩ := trodAll_nil r0
  obtain rfl : args = #[v0] := by cases args; simp_all
  obtain ⟨rfl, rfl⟩ := trodVars_none hV
  obtain ⟨fo0, lo0, ke0, sc0, mo0, iv0, rfl, rfl, s0, v0⟩ := plan_open (hval 0 23 v0 rfl rfl) h0
  clear hA0 hval0
  simp only [List.append_nil] at hW'
  refine (walk W fo0 lo0 ke0 sc0 mo0 iv0 v0).mono fun e W' ⟨he, hg⟩ => ?_
  subst he
  exact ⟨_, rfl, post_gr (pa := []) (pv := []) hW' (fun _ _ _ => (trodAll_cons_mk (shut_bool Try.underlying4 _) trodAll_mk0)) (fun sp _ => (trodAll_cons_mk (s0 _ _) trodAll_mk0)) (fun _ _ => rfl) rfl hg⟩

theorem over : Rows.planChecksRow.holds Try.pinned (OpenSpec.ofChange Rows.planChecksSpec) :=
  OpenClaim.holds_of_wide 3 Try.f3 rfl rfl rfl rfl rfl rfl rfl ⟨rfl, rfl, rfl, rfl, rfl⟩ rfl rfl rfl rfl rfl (by kernel_rfl) Try.func3 (by kernel_rfl)
    (of_decide_eq_true (by kernel_rfl)) (by unfold Func.isWrapper; first | (rw [if_pos (by decide +kernel)]; kernel_rfl) | (rw [if_neg (by decide +kernel)]; exact ⟨rfl, rfl⟩))
    (fun os started H enc _ => lifted os started H enc)

/-- THE STATEMENT -/
theorem proved : Rows.PlanChecksSaid :=
  over
#print axioms proved
end Go.Proofs.Ytomjldaonpjloaa.planChecks
