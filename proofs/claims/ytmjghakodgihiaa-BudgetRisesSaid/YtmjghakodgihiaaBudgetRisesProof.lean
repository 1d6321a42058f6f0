/- Proved: for every input, the law BudgetRises answers true at this commit, and its arguments read afterwards as before. No condition. -/
import Derived.Test.YtmjghakodgihiaaRows
import Derived.WalkKit
import Derived.ProofKit
import Derived.OpenShut
import Derived.Lib.SmallJoins
import Derived.ChangeOld
import Derived.Below
import Derived.Test.YtmjghakodgihiaaBudgetRisesCore
import Derived.Test.YtmjghakodgihiaaBudgetCode
namespace Go.Proofs.Ytmjghakodgihiaa.budgetRises
open Go.ChangeShapes Go.WideShapes Go.ChangeAt Go.RowKit Go.Joins
set_option linter.unusedVariables false

theorem own : ownKnob Try.prog.godebug = none := by kernel_rfl




set_option maxHeartbeats 4000000 in
set_option maxRecDepth 100000 in
theorem walk (w : World) (a0 : Int) (a1 : Int) (a2 : Int) (a3 : Int) (a4 : Int) (w0 : (Lit.int .i64 a0).wf = true) (w1 : (Lit.int .i64 a1).wf = true) (w2 : (Lit.int .i64 a2).wf = true) (w3 : (Lit.int .i64 a3).wf = true) (w4 : (Lit.int .i64 a4).wf = true) :
    Calls Try.prog 6 #[.int .i64 a0, .int .i64 a1, .int .i64 a2, .int .i64 a3, .int .i64 a4] w fun e w' => e = .returned (.bool true) ∧ Gr w w' := by
  obtain ⟨e, he⟩ : ∃ e, a0 % 549755813888 = e := ⟨_, rfl⟩
  obtain ⟨m, hm⟩ : ∃ m, a1 % 549755813888 = m := ⟨_, rfl⟩
  have h1 : bits BinOp.and IntKind.i64 a0 549755813887 = e := by rw [and39, he]
  have h2 : bits BinOp.and IntKind.i64 a1 549755813887 = m := by rw [and39, hm]
  have e0 : 0 ≤ e := by omega
  have e1 : e ≤ 549755813887 := by omega
  have m0 : 0 ≤ m := by omega
  have m1 : m ≤ 549755813887 := by omega
  clear he hm
  cases hok : mayB e a2 a3 a4
  · have hok2 : mayB (e + m) a2 a3 a4 = false := by
      rw [Bool.eq_false_iff, Ne, mayB_iff] at hok ⊢
      omega
    exact budgetRises_bad a0 a1 a2 a3 a4 e m h1 h2 e0 e1 m0 m1 (Lib.hid fun W => budgetStep_arg e a2 a3 a4 hok W) (Lib.hid fun W => budgetStep_arg (e + m) a2 a3 a4 hok2 W) (Lib.hid alive14_c) w
  · have hb := mayB_iff.1 hok
    have hok2 : mayB (e + m) a2 a3 a4 = true := mayB_iff.2 (by omega)
    have hab := stepB_mono e (e + m) a2 a3 a4 (by omega)
    have had := stepB_more e a2 a3 a4 e0 (by omega)
    cases hok3 : mayB e a2 a3 (a4 + 1)
    · exact budgetRises_end a0 a1 a2 a3 a4 e m _ _ 0 (e / 8) h1 h2 e0 e1 m0 m1 (by omega) (by omega) rfl hab had (Lib.hid fun W => budgetStep_ok e a2 a3 a4 hok W) (Lib.hid fun W => budgetStep_ok (e + m) a2 a3 a4 hok2 W) (Lib.hid fun W => budgetStep_arg e a2 a3 (a4 + 1) hok3 W) (Lib.hid alive14_c) w
    · exact budgetRises_ok a0 a1 a2 a3 a4 e m _ _ _ (e / 8) h1 h2 e0 e1 m0 m1 (by omega) (by omega) rfl hab had (stepB_anti e a2 a3 a4 (a4 + 1) e0 (by omega) (by omega) (by omega)) (Lib.hid fun W => budgetStep_ok e a2 a3 a4 hok W) (Lib.hid fun W => budgetStep_ok (e + m) a2 a3 a4 hok2 W) (Lib.hid fun W => budgetStep_ok e a2 a3 (a4 + 1) hok3 W) (Lib.hid alive14_c) w

set_option maxHeartbeats 4000000 in
set_option maxRecDepth 100000 in
theorem lifted (os : Os) (started : os.Started) (H : Type) (enc : TypeId × Value → H) :
    ReturnsInHanded {} Try.checked os 6 .any (Rows.budgetRisesSpec.pre6 enc Try.prog Try.f6 Rows.budgetRisesRow.domain false) (Rows.budgetRisesSpec.post enc Try.prog Try.f6 false true false false) := by
  refine returnsInHanded_of_change (C := Try.checked) own started (by kernel_rfl) Try.func6
    (ChangeSpec.witness6 (enc := enc) (C := Try.checked) false ⟨#[], #[.int .i64 0, .int .i64 0, .int .i64 0, .int .i64 0, .int .i64 0], []⟩ 8 (by kernel_rfl) (by kernel_rfl) (by kernel_rfl) (by kernel_rfl)) ?_
  intro W base args ds gs before hval0 hW hcnd _
  have hval : ∀ (j : Nat) t v, Try.f6.params[j]? = some t → args[j]? = some v → Value.okWide Try.prog W .any base t v := hval0
  have hW' := hW
  obtain ⟨p, q, hA0, hV, rfl, hfz, hnd⟩ := hW
  have hA : DataW.TrodAll enc Try.prog W 0 (fun _ => true) true Try.f6.params.toList args.toList ds p := hA0
  rw [Try.params6] at hA hval
  obtain ⟨v0, vs0, d0, ds0, p0, q0, hargs, rfl, rfl, h0, r0⟩ := trodAll_cons hA
  obtain ⟨v1, vs1, d1, ds1, p1, q1, rfl, rfl, rfl, h1, r1⟩ := trodAll_cons r0
  obtain ⟨v2, vs2, d2, ds2, p2, q2, rfl, rfl, rfl, h2, r2⟩ := trodAll_cons r1
  obtain ⟨v3, vs3, d3, ds3, p3, q3, rfl, rfl, rfl, h3, r3⟩ := trodAll_cons r2
  obtain ⟨v4, vs4, d4, ds4, p4, q4, rfl, rfl, rfl, h4, r4⟩ := trodAll_cons r3
  obtain ⟨rfl, rfl, rfl⟩ := trodAll_nil r4
  obtain rfl : args = #[v0, v1, v2, v3, v4] := by cases args; simp_all
  obtain ⟨rfl, rfl⟩ := trodVars_none hV
  obtain ⟨a0, rfl, rfl, rfl, w0⟩ := open_int Try.underlying3 (hval 0 3 v0 rfl rfl) h0
  obtain ⟨a1, rfl, rfl, rfl, w1⟩ := open_int Try.underlying3 (hval 1 3 v1 rfl rfl) h1
  obtain ⟨a2, rfl, rfl, rfl, w2⟩ := open_int Try.underlying3 (hval 2 3 v2 rfl rfl) h2
  obtain ⟨a3, rfl, rfl, rfl, w3⟩ := open_int Try.underlying3 (hval 3 3 v3 rfl rfl) h3
  obtain ⟨a4, rfl, rfl, rfl, w4⟩ := open_int Try.underlying3 (hval 4 3 v4 rfl rfl) h4
  clear hA0 hval0
  simp only [List.append_nil] at hW'
  refine (walk W a0 a1 a2 a3 a4 w0 w1 w2 w3 w4).mono fun e W' ⟨he, hg⟩ => ?_
  subst he
  exact ⟨_, rfl, post_gr (pa := []) (pv := []) hW' (fun _ _ _ => (trodAll_cons_mk (shut_bool Try.underlying4 _) trodAll_mk0)) (fun sp _ => (trodAll_cons_mk (shut_int Try.underlying3 w0) (trodAll_cons_mk (shut_int Try.underlying3 w1) (trodAll_cons_mk (shut_int Try.underlying3 w2) (trodAll_cons_mk (shut_int Try.underlying3 w3) (trodAll_cons_mk (shut_int Try.underlying3 w4) trodAll_mk0)))))) (fun _ _ => rfl) rfl hg⟩

theorem over : Rows.budgetRisesRow.holds Try.pinned (OpenSpec.ofChange Rows.budgetRisesSpec) :=
  OpenClaim.holds_of_wide 6 Try.f6 rfl rfl rfl rfl rfl rfl rfl ⟨rfl, rfl, rfl, rfl, rfl⟩ rfl rfl rfl rfl rfl (by kernel_rfl) Try.func6 (by kernel_rfl)
    (of_decide_eq_true (by kernel_rfl)) (by unfold Func.isWrapper; first | (rw [if_pos (by decide +kernel)]; kernel_rfl) | (rw [if_neg (by decide +kernel)]; exact ⟨rfl, rfl⟩))
    (fun os started H enc _ => lifted os started H enc)

/-- THE STATEMENT -/
theorem proved : Rows.BudgetRisesSaid :=
  over
#print axioms proved
end Go.Proofs.Ytmjghakodgihiaa.budgetRises
