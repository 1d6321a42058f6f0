/- Proved: for every input, the law PlanGoes answers true at this commit, and its arguments read afterwards as before. No condition. -/
import Derived.Test.YtomjldaonpjloaaRows
import Derived.WalkKit
import Derived.ProofKit
import Derived.OpenShut
import Derived.Lib.SmallJoins
import Derived.ChangeOld
import Derived.Below
import Derived.Test.YtomjldaonpjloaaPlanGoesCore
import Derived.Test.YtomjldaonpjloaaPlanArg
namespace Go.Proofs.Ytomjldaonpjloaa.planGoes
open Go.ChangeShapes Go.WideShapes Go.ChangeAt Go.RowKit Go.Joins
set_option linter.unusedVariables false

theorem own : ownKnob Try.prog.godebug = none := by kernel_rfl




set_option maxHeartbeats 4000000 in
set_option maxRecDepth 100000 in
theorem walk (w : World) (fo0 lo0 ke0 sc0 mo0 : Int) (iv0 : Bool) (a1 : Int) (a2 : Int) (v0 : (Lit.int .i64 fo0).wf = true ∧ (Lit.int .i64 lo0).wf = true ∧ (Lit.int .i64 ke0).wf = true ∧ (Lit.int .i64 sc0).wf = true ∧ (Lit.int .i64 mo0).wf = true) (w1 : (Lit.int .i64 a1).wf = true) (w2 : (Lit.int .i64 a2).wf = true) :
    Calls Try.prog 5 #[.agg #[.int .i64 fo0, .int .i64 lo0, .int .i64 ke0, .int .i64 sc0, .int .i64 mo0, .bool iv0], .int .i64 a1, .int .i64 a2] w fun e w' => e = .returned (.bool true) ∧ Gr w w' := by
  cases hok : okF fo0 lo0 ke0 sc0 mo0
  · exact planGoes_bad fo0 lo0 ke0 sc0 mo0 a1 a2 iv0 (Lib.hid fun W => passes_bad fo0 lo0 ke0 sc0 mo0 iv0 hok W) (Lib.hid alive13_c) w
  · have hf := okF_iff.1 hok
    obtain ⟨h1, h2, h3⟩ := passL_goes ke0 lo0 (by omega) (by omega) (by omega) (by omega)
    obtain ⟨h4, h5⟩ := passL_nums ke0 lo0 (by omega) (by omega) (by omega) (by omega)
    obtain ⟨n, hn⟩ : ∃ n : Int, n = 2 ^ lo0.toNat := ⟨_, rfl⟩
    obtain ⟨n0, n1, hs⟩ := pow_log lo0 n (by omega) (by omega) hn
    refine planGoes_ok fo0 lo0 ke0 sc0 mo0 a1 a2 n iv0 (passL ke0 lo0) h4 (Lib.hid h1) h5 (by rw [hs]; exact IntWalk.wrap64_in _ ⟨by omega, by omega⟩) (by omega) ?_ ?_ (Lib.hid fun W => passes_ok fo0 lo0 ke0 sc0 mo0 0 iv0 hok W) (Lib.hid alive13_c) w
    · by_cases hk : ke0 = 2
      · rw [h3 hk]
        right
        refine ⟨?_, by simp [hk], rfl⟩
        have : ¬ prodK [] = n := by simp only [prodK, List.foldl_nil]; omega
        simpa using this
      · left
        rw [h2 hk, hn]
        simp
    · cases hq : okF fo0 lo0 ke0 a1 a2
      · exact .inr (Lib.hid fun W => passes_bad fo0 lo0 ke0 a1 a2 (!iv0) hq W)
      · exact .inl (Lib.hid fun W => passes_ok fo0 lo0 ke0 a1 a2 0 (!iv0) hq W)

set_option maxHeartbeats 4000000 in
set_option maxRecDepth 100000 in
theorem lifted (os : Os) (started : os.Started) (H : Type) (enc : TypeId × Value → H) :
    ReturnsInHanded {} Try.checked os 5 .any (Rows.planGoesSpec.pre6 enc Try.prog Try.f5 Rows.planGoesRow.domain false) (Rows.planGoesSpec.post enc Try.prog Try.f5 false true false false) := by
  refine returnsInHanded_of_change (C := Try.checked) own started (by kernel_rfl) Try.func5
    (ChangeSpec.witness6 (enc := enc) (C := Try.checked) false ⟨#[], #[.agg #[.int .i64 0, .int .i64 0, .int .i64 0, .int .i64 0, .int .i64 0, .bool false], .int .i64 0, .int .i64 0], []⟩ 8 (by kernel_rfl) (by kernel_rfl) (by kernel_rfl) (by kernel_rfl)) ?_
  intro W base args ds gs before hval0 hW hcnd _
  have hval : ∀ (j : Nat) t v, Try.f5.params[j]? = some t → args[j]? = some v → Value.okWide Try.prog W .any base t v := hval0
  have hW' := hW
  obtain ⟨p, q, hA0, hV, rfl, hfz, hnd⟩ := hW
  have hA : DataW.TrodAll enc Try.prog W 0 (fun _ => true) true Try.f5.params.toList args.toList ds p := hA0
  rw [Try.params5] at hA hval
  obtain ⟨v0, vs0, d0, ds0, p0, q0, hargs, rfl, rfl, h0, r0⟩ := trodAll_cons hA
  obtain ⟨v1, vs1, d1, ds1, p1, q1, rfl, rfl, rfl, h1, r1⟩ := trodAll_cons r0
  obtain ⟨v2, vs2, d2, ds2, p2, q2, rfl, rfl, rfl, h2, r2⟩ := trodAll_cons r1
  obtain ⟨rfl, rfl, rfl⟩ := trodAll_nil r2
  obtain rfl : args = #[v0, v1, v2] := by cases args; simp_all
  obtain ⟨rfl, rfl⟩ := trodVars_none hV
  obtain ⟨fo0, lo0, ke0, sc0, mo0, iv0, rfl, rfl, s0, v0⟩ := plan_open (hval 0 23 v0 rfl rfl) h0
  obtain ⟨a1, rfl, rfl, rfl, w1⟩ := open_int Try.underlying3 (hval 1 3 v1 rfl rfl) h1
  obtain ⟨a2, rfl, rfl, rfl, w2⟩ := open_int Try.underlying3 (hval 2 3 v2 rfl rfl) h2
  clear hA0 hval0
  simp only [List.append_nil] at hW'
  refine (walk W fo0 lo0 ke0 sc0 mo0 iv0 a1 a2 v0 w1 w2).mono fun e W' ⟨he, hg⟩ => ?_
  subst he
  exact ⟨_, rfl, post_gr (pa := []) (pv := []) hW' (fun _ _ _ => (trodAll_cons_mk (shut_bool Try.underlying4 _) trodAll_mk0)) (fun sp _ => (trodAll_cons_mk (s0 _ _) (trodAll_cons_mk (shut_int Try.underlying3 w1) (trodAll_cons_mk (shut_int Try.underlying3 w2) trodAll_mk0)))) (fun _ _ => rfl) rfl hg⟩

theorem over : Rows.planGoesRow.holds Try.pinned (OpenSpec.ofChange Rows.planGoesSpec) :=
  OpenClaim.holds_of_wide 5 Try.f5 rfl rfl rfl rfl rfl rfl rfl ⟨rfl, rfl, rfl, rfl, rfl⟩ rfl rfl rfl rfl rfl (by kernel_rfl) Try.func5 (by kernel_rfl)
    (of_decide_eq_true (by kernel_rfl)) (by unfold Func.isWrapper; first | (rw [if_pos (by decide +kernel)]; kernel_rfl) | (rw [if_neg (by decide +kernel)]; exact ⟨rfl, rfl⟩))
    (fun os started H enc _ => lifted os started H enc)

/-- THE STATEMENT -/
theorem proved : Rows.PlanGoesSaid :=
  over
#print axioms proved
end Go.Proofs.Ytomjldaonpjloaa.planGoes
