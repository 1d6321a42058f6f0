/- Proved: for every input, the law CxShifts answers true at this commit, and its arguments read afterwards as before. No condition. -/
import Derived.Test.YtbgdhpcidcnjkaaRows
import Derived.WalkKit
import Derived.ProofKit
import Derived.OpenShut
import Derived.Lib.SmallJoins
import Derived.Test.YtbgdhpcidcnjkaaCxShiftsCore
namespace Go.Proofs.Ytbgdhpcidcnjkaa.cxShifts
open Go.ChangeShapes Go.WideShapes Go.ChangeAt Go.RowKit Go.Joins
set_option linter.unusedVariables false

theorem own : ownKnob Try.prog.godebug = none := by kernel_rfl
theorem cellsC : Try.prog.cellsOf 23 = 2 := by kernel_rfl


set_option maxHeartbeats 4000000 in
set_option maxRecDepth 100000 in
theorem walk (x0 y0 : Int) (a1 : Int) (a2 : Int) (wx0 : (Lit.int .i64 x0).wf = true) (wy0 : (Lit.int .i64 y0).wf = true) (w1 : (Lit.int .i64 a1).wf = true) (w2 : (Lit.int .i64 a2).wf = true) (w : World) :
    Calls Try.prog 5 #[.agg #[.int .i64 x0, .int .i64 y0], .int .i64 a1, .int .i64 a2] w fun e w' => e = .returned (.bool true) ∧ Grown w w' := by
  have WX0 := bounds_i64 wx0
  have WY0 := bounds_i64 wy0
  clear wx0 wy0 w1 w2
  by_cases d0 : 0 ≤ a1
  · by_cases d1 : a1 ≤ 62
    · by_cases d2 : 0 ≤ a2
      · by_cases d3 : a2 ≤ 2
        · exact (core_ok x0 y0 a1 a2 _ _ d0 d1 d2 d3 (Lib.hid (cxshift_ok x0 y0 a1 a2 WX0 WY0 d0 d1 d2 d3)) (Lib.hid (rshift_c x0 y0 a1 a2 WX0 WY0 d0 d1 d2 d3)) w).mono fun e w' ⟨he, hg⟩ => ⟨he, hg.out⟩
        · exact (core_bad3 x0 y0 a1 a2 d0 d1 d2 (by omega) (Lib.hid (cxshift_bad x0 y0 a1 a2 (by omega))) w).mono fun e w' ⟨he, hg⟩ => ⟨he, hg.out⟩
      · exact (core_bad2 x0 y0 a1 a2 d0 d1 (by omega) (Lib.hid (cxshift_bad x0 y0 a1 a2 (by omega))) w).mono fun e w' ⟨he, hg⟩ => ⟨he, hg.out⟩
    · exact (core_bad1 x0 y0 a1 a2 d0 (by omega) (Lib.hid (cxshift_bad x0 y0 a1 a2 (by omega))) w).mono fun e w' ⟨he, hg⟩ => ⟨he, hg.out⟩
  · exact (core_bad0 x0 y0 a1 a2 (by omega) (Lib.hid (cxshift_bad x0 y0 a1 a2 (by omega))) w).mono fun e w' ⟨he, hg⟩ => ⟨he, hg.out⟩

set_option maxHeartbeats 4000000 in
set_option maxRecDepth 100000 in
theorem lifted (os : Os) (started : os.Started) (H : Type) (enc : TypeId × Value → H) :
    ReturnsInHanded {} Try.checked os 5 .any (Rows.cxShiftsSpec.pre6 enc Try.prog Try.f5 Rows.cxShiftsRow.domain false) (Rows.cxShiftsSpec.post enc Try.prog Try.f5 false true false false) := by
  refine returnsInHanded_of_change (C := Try.checked) own started (by kernel_rfl) Try.func5
    (ChangeSpec.witness6 (enc := enc) (C := Try.checked) false ⟨#[], #[.agg #[.int .i64 0, .int .i64 0], .int .i64 0, .int .i64 0], []⟩ 8 (by kernel_rfl) (by kernel_rfl) (by kernel_rfl) (by kernel_rfl)) ?_
  intro W base args ds gs before hval0 hW hcnd _
  have hval : ∀ (j : Nat) t v, Try.f5.params[j]? = some t → args[j]? = some v → Value.okWide Try.prog W .any base t v := hval0
  have hW' := hW
  obtain ⟨p, q, hA0, hV, rfl, hfz, hnd⟩ := hW
  have hA : DataW.TrodAll enc Try.prog W 0 (fun _ => true) true Try.f5.params.toList args.toList ds p := hA0
  rw [Try.params5] at hA hval
  obtain ⟨v0, vs0, d0, ds0, p0, q0, hargs, rfl, rfl, h0, r0⟩ := trodAll_cons hA
  obtain ⟨v1, vs1, d1, ds1, p1, q1, rfl, rfl, rfl, h1, r1⟩ := trodAll_cons r0
  obtain ⟨v2, vs2, d2, ds2, p2, q2, rfl, rfl, rfl, h2, r2⟩ := trodAll_cons r1
  obtain ⟨rfl, rfl, rfl⟩ := trodAll_nil r2
  obtain rfl : args = #[v0, v1, v2] := by cases args; simp_all
  obtain ⟨rfl, rfl⟩ := trodVars_none hV
  obtain ⟨c00, c01, z00, z01, m0, rfl, rfl, rfl, hy00, hy01⟩ := open_agg2 Try.underlying23 (by kernel_rfl) cellsC (hval 0 23 v0 rfl rfl) h0
  obtain ⟨x0, e00, rfl, wx0⟩ := DataW.trod_int Try.underlying3 hy00
  obtain ⟨y0, e01, rfl, wy0⟩ := DataW.trod_int Try.underlying3 hy01
  simp at e00 e01
  subst e00 e01
  have s0 : ∀ (W' : World) (sp : Nat → Bool), DataW.Trod enc Try.prog W' 0 sp true 23 (.agg #[.int .i64 x0, .int .i64 y0]) (.agg [.lit (.int .i64 x0), .lit (.int .i64 y0)]) [] := fun W' sp =>
    shut_agg2 (y0 := (.lit (.int .i64 x0), [])) (y1 := (.lit (.int .i64 y0), [])) Try.underlying23 (by kernel_rfl) cellsC ⟨1, by simp [DataW.trod, Try.underlying3, wx0]⟩ ⟨1, by simp [DataW.trod, Try.underlying3, wy0]⟩
  obtain ⟨a1, rfl, rfl, rfl, w1⟩ := open_int Try.underlying3 (hval 1 3 v1 rfl rfl) h1
  obtain ⟨a2, rfl, rfl, rfl, w2⟩ := open_int Try.underlying3 (hval 2 3 v2 rfl rfl) h2
  clear hA0 hval0
  simp only [List.append_nil] at hW'
  refine (walk x0 y0 a1 a2 wx0 wy0 w1 w2 W).mono fun e W' ⟨he, hg⟩ => ?_
  subst he
  exact ⟨_, rfl, post_of_same (pa := []) (pv := []) hW' (fun _ _ _ => (trodAll_cons_mk (shut_bool Try.underlying4 _) trodAll_mk0)) (fun sp _ => (trodAll_cons_mk (s0 _ _) (trodAll_cons_mk (shut_int Try.underlying3 w1) (trodAll_cons_mk (shut_int Try.underlying3 w2) trodAll_mk0)))) (fun _ _ => rfl) rfl
    (hg.frame _) hg.2.1 (ok_one (by kernel_rfl) rfl (okWide_bool_mk Try.underlying4 _))⟩

theorem over : Rows.cxShiftsRow.holds Try.pinned (OpenSpec.ofChange Rows.cxShiftsSpec) :=
  OpenClaim.holds_of_wide 5 Try.f5 rfl rfl rfl rfl rfl rfl rfl ⟨rfl, rfl, rfl, rfl, rfl⟩ rfl rfl rfl rfl rfl (by kernel_rfl) Try.func5 (by kernel_rfl)
    (of_decide_eq_true (by kernel_rfl)) (by unfold Func.isWrapper; first | (rw [if_pos (by decide +kernel)]; kernel_rfl) | (rw [if_neg (by decide +kernel)]; exact ⟨rfl, rfl⟩))
    (fun os started H enc _ => lifted os started H enc)

/-- THE STATEMENT -/
theorem proved : Rows.CxShiftsSaid :=
  over
#print axioms proved
end Go.Proofs.Ytbgdhpcidcnjkaa.cxShifts
