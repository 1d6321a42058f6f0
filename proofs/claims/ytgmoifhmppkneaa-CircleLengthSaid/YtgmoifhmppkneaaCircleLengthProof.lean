/- Proved: for every input, the law CircleLength answers true at this commit, and its arguments read afterwards as before. No condition. -/
import Derived.Test.YtgmoifhmppkneaaRows
import Derived.WalkKit
import Derived.ProofKit
import Derived.OpenShut
import Derived.Lib.SmallJoins
import Derived.Test.YtgmoifhmppkneaaCircleLengthCore
namespace Go.Proofs.Ytgmoifhmppkneaa.circleLength
open Go.ChangeShapes Go.WideShapes Go.ChangeAt Go.RowKit Go.Joins
set_option linter.unusedVariables false

theorem own : ownKnob Try.prog.godebug = none := by kernel_rfl



set_option maxHeartbeats 4000000 in
set_option maxRecDepth 100000 in
theorem walk (a0 : Int) (w0 : (Lit.int .i64 a0).wf = true) (w : World) :
    Calls Try.prog 4 #[.int .i64 a0] w fun e w' => e = .returned (.bool true) ∧ Gr w w' := by
  have W0 := bounds_i64 w0
  have hz : (a0 / 128).natAbs ≤ 72057594037927936 := by omega
  generalize hq : a0 / 128 = z at *
  have b1 := pt_bd z hz
  have b2 := pt_bd (-z) (by omega)
  have s0 := mq_size _ _ b1.1 b1.1
  have s1 := mq_size _ _ b1.2 b1.2
  have hl := pt_len z hz
  have hc := pt_conj z hz
  exact clength_c a0 z _ _ _ _ _ _ hq (by omega) (by omega) (by omega) (by omega) (Lib.hid (point_ok z hz)) (Lib.hid (point_ok (-z) (by omega))) (Lib.hid (mul06_c _ _ b1.1 b1.1)) (Lib.hid (mul06_c _ _ b1.2 b1.2))
    (Lib.hid (near06_c _ _ _ (by omega) (by omega) (by omega) (by omega))) (Lib.hid (near06_c _ _ _ (by omega) (by omega) (by omega) (by omega))) (Lib.hid (near06_c _ _ _ (by omega) (by omega) (by omega) (by omega))) w

set_option maxHeartbeats 4000000 in
set_option maxRecDepth 100000 in
theorem lifted (os : Os) (started : os.Started) (H : Type) (enc : TypeId × Value → H) :
    ReturnsInHanded {} Try.checked os 4 .any (Rows.circleLengthSpec.pre6 enc Try.prog Try.f4 Rows.circleLengthRow.domain false) (Rows.circleLengthSpec.post enc Try.prog Try.f4 false true false false) := by
  refine returnsInHanded_of_change (C := Try.checked) own started (by kernel_rfl) Try.func4
    (ChangeSpec.witness6 (enc := enc) (C := Try.checked) false ⟨#[], #[.int .i64 0], []⟩ 8 (by kernel_rfl) (by kernel_rfl) (by kernel_rfl) (by kernel_rfl)) ?_
  intro W base args ds gs before hval0 hW hcnd _
  have hval : ∀ (j : Nat) t v, Try.f4.params[j]? = some t → args[j]? = some v → Value.okWide Try.prog W .any base t v := hval0
  have hW' := hW
  obtain ⟨p, q, hA0, hV, rfl, hfz, hnd⟩ := hW
  have hA : DataW.TrodAll enc Try.prog W 0 (fun _ => true) true Try.f4.params.toList args.toList ds p := hA0
  rw [Try.params4] at hA hval
  obtain ⟨v0, vs0, d0, ds0, p0, q0, hargs, rfl, rfl, h0, r0⟩ := trodAll_cons hA
  obtain ⟨rfl, rfl, rfl⟩ := trodAll_nil r0
  obtain rfl : args = #[v0] := by cases args; simp_all
  obtain ⟨rfl, rfl⟩ := trodVars_none hV
  obtain ⟨a0, rfl, rfl, rfl, w0⟩ := open_int Try.underlying3 (hval 0 3 v0 rfl rfl) h0
  clear hA0 hval0
  simp only [List.append_nil] at hW'
  refine (walk a0 w0 W).mono fun e W' ⟨he, hg⟩ => ?_
  subst he
  exact ⟨_, rfl, post_gr (pa := []) (pv := []) hW' (fun _ _ _ => (trodAll_cons_mk (shut_bool Try.underlying4 _) trodAll_mk0)) (fun sp _ => (trodAll_cons_mk (shut_int Try.underlying3 w0) trodAll_mk0)) (fun _ _ => rfl) rfl hg⟩

theorem over : Rows.circleLengthRow.holds Try.pinned (OpenSpec.ofChange Rows.circleLengthSpec) :=
  OpenClaim.holds_of_wide 4 Try.f4 rfl rfl rfl rfl rfl rfl rfl ⟨rfl, rfl, rfl, rfl, rfl⟩ rfl rfl rfl rfl rfl (by kernel_rfl) Try.func4 (by kernel_rfl)
    (of_decide_eq_true (by kernel_rfl)) (by unfold Func.isWrapper; first | (rw [if_pos (by decide +kernel)]; kernel_rfl) | (rw [if_neg (by decide +kernel)]; exact ⟨rfl, rfl⟩))
    (fun os started H enc _ => lifted os started H enc)

/-- THE STATEMENT -/
theorem proved : Rows.CircleLengthSaid :=
  over
#print axioms proved
end Go.Proofs.Ytgmoifhmppkneaa.circleLength
