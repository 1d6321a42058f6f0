/- Proved: for every input, the law CircleSum answers true at this commit, and its arguments read afterwards as before. No condition. -/
import Derived.Test.YtgmoifhmppkneaaRows
import Derived.WalkKit
import Derived.ProofKit
import Derived.OpenShut
import Derived.Lib.SmallJoins
import Derived.Test.YtgmoifhmppkneaaCircleSumCore
namespace Go.Proofs.Ytgmoifhmppkneaa.circleSum
open Go.ChangeShapes Go.WideShapes Go.ChangeAt Go.RowKit Go.Joins
set_option linter.unusedVariables false

theorem own : ownKnob Try.prog.godebug = none := by kernel_rfl



set_option maxHeartbeats 4000000 in
set_option maxRecDepth 100000 in
theorem walk (a0 : Int) (a1 : Int) (w0 : (Lit.int .i64 a0).wf = true) (w1 : (Lit.int .i64 a1).wf = true) (w : World) :
    Calls Try.prog 5 #[.int .i64 a0, .int .i64 a1] w fun e w' => e = .returned (.bool true) ∧ Gr w w' := by
  have W0 := bounds_i64 w0
  have W1 := bounds_i64 w1
  have hy : (a0 / 256).natAbs ≤ 36028797018963968 := by omega
  have hz : (a1 / 256).natAbs ≤ 36028797018963968 := by omega
  generalize hq : a0 / 256 = y at *
  generalize hr : a1 / 256 = z at *
  have b1 := pt_bd y (by omega)
  have b2 := pt_bd z (by omega)
  have b3 := pt_bd (y + z) (by omega)
  have s0 := mq_size _ _ b1.1 b2.1
  have s1 := mq_size _ _ b1.2 b2.2
  have s2 := mq_size _ _ b1.1 b2.2
  have s3 := mq_size _ _ b1.2 b2.1
  have hm := pt_mul y z (y + z) (by omega) (by omega) (by omega) (by omega)
  exact csum_c a0 a1 y z _ _ _ _ _ _ _ _ _ _ hq hr (by omega) (by omega) (by omega) (by omega) (by omega) (by omega) (Lib.hid (point_ok y (by omega))) (Lib.hid (point_ok z (by omega))) (Lib.hid (point_ok (y + z) (by omega))) (Lib.hid (mul06_c _ _ b1.1 b2.1)) (Lib.hid (mul06_c _ _ b1.2 b2.2)) (Lib.hid (mul06_c _ _ b1.1 b2.2)) (Lib.hid (mul06_c _ _ b1.2 b2.1))
    (Lib.hid (near06_c _ _ _ (by omega) (by omega) (by omega) (by omega))) (Lib.hid (near06_c _ _ _ (by omega) (by omega) (by omega) (by omega))) w

set_option maxHeartbeats 4000000 in
set_option maxRecDepth 100000 in
theorem lifted (os : Os) (started : os.Started) (H : Type) (enc : TypeId × Value → H) :
    ReturnsInHanded {} Try.checked os 5 .any (Rows.circleSumSpec.pre6 enc Try.prog Try.f5 Rows.circleSumRow.domain false) (Rows.circleSumSpec.post enc Try.prog Try.f5 false true false false) := by
  refine returnsInHanded_of_change (C := Try.checked) own started (by kernel_rfl) Try.func5
    (ChangeSpec.witness6 (enc := enc) (C := Try.checked) false ⟨#[], #[.int .i64 0, .int .i64 0], []⟩ 8 (by kernel_rfl) (by kernel_rfl) (by kernel_rfl) (by kernel_rfl)) ?_
  intro W base args ds gs before hval0 hW hcnd _
  have hval : ∀ (j : Nat) t v, Try.f5.params[j]? = some t → args[j]? = some v → Value.okWide Try.prog W .any base t v := hval0
  have hW' := hW
  obtain ⟨p, q, hA0, hV, rfl, hfz, hnd⟩ := hW
  have hA : DataW.TrodAll enc Try.prog W 0 (fun _ => true) true Try.f5.params.toList args.toList ds p := hA0
  rw [Try.params5] at hA hval
  obtain ⟨v0, vs0, d0, ds0, p0, q0, hargs, rfl, rfl, h0, r0⟩ := trodAll_cons hA
  obtain ⟨v1, vs1, d1, ds1, p1, q1, rfl, rfl, rfl, h1, r1⟩ := trodAll_cons r0
  obtain ⟨rfl, rfl, rfl⟩ := trodAll_nil r1
  obtain rfl : args = #[v0, v1] := by cases args; simp_all
  obtain ⟨rfl, rfl⟩ := trodVars_none hV
  obtain ⟨a0, rfl, rfl, rfl, w0⟩ := open_int Try.underlying3 (hval 0 3 v0 rfl rfl) h0
  obtain ⟨a1, rfl, rfl, rfl, w1⟩ := open_int Try.underlying3 (hval 1 3 v1 rfl rfl) h1
  clear hA0 hval0
  simp only [List.append_nil] at hW'
  refine (walk a0 a1 w0 w1 W).mono fun e W' ⟨he, hg⟩ => ?_
  subst he
  exact ⟨_, rfl, post_gr (pa := []) (pv := []) hW' (fun _ _ _ => (trodAll_cons_mk (shut_bool Try.underlying4 _) trodAll_mk0)) (fun sp _ => (trodAll_cons_mk (shut_int Try.underlying3 w0) (trodAll_cons_mk (shut_int Try.underlying3 w1) trodAll_mk0))) (fun _ _ => rfl) rfl hg⟩

theorem over : Rows.circleSumRow.holds Try.pinned (OpenSpec.ofChange Rows.circleSumSpec) :=
  OpenClaim.holds_of_wide 5 Try.f5 rfl rfl rfl rfl rfl rfl rfl ⟨rfl, rfl, rfl, rfl, rfl⟩ rfl rfl rfl rfl rfl (by kernel_rfl) Try.func5 (by kernel_rfl)
    (of_decide_eq_true (by kernel_rfl)) (by unfold Func.isWrapper; first | (rw [if_pos (by decide +kernel)]; kernel_rfl) | (rw [if_neg (by decide +kernel)]; exact ⟨rfl, rfl⟩))
    (fun os started H enc _ => lifted os started H enc)

/-- THE STATEMENT -/
theorem proved : Rows.CircleSumSaid :=
  over
#print axioms proved
end Go.Proofs.Ytgmoifhmppkneaa.circleSum
