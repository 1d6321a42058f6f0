/- Proved: for every input, the law CxSums answers true at this commit, and its arguments read afterwards as before. No condition. -/
import Derived.Test.YtbgdhpcidcnjkaaRows
import Derived.WalkKit
import Derived.ProofKit
import Derived.OpenShut
import Derived.Lib.SmallJoins
import Derived.Test.YtbgdhpcidcnjkaaCxSumsCore
import Derived.Test.YtbgdhpcidcnjkaaTurn
namespace Go.Proofs.Ytbgdhpcidcnjkaa.cxSums
open Go.ChangeShapes Go.WideShapes Go.ChangeAt Go.RowKit Go.Joins
set_option linter.unusedVariables false

theorem own : ownKnob Try.prog.godebug = none := by kernel_rfl
theorem cellsC : Try.prog.cellsOf 23 = 2 := by kernel_rfl


set_option maxHeartbeats 4000000 in
set_option maxRecDepth 100000 in
theorem walk (x0 y0 : Int) (x1 y1 : Int) (a2 : Int) (wx0 : (Lit.int .i64 x0).wf = true) (wy0 : (Lit.int .i64 y0).wf = true) (wx1 : (Lit.int .i64 x1).wf = true) (wy1 : (Lit.int .i64 y1).wf = true) (w2 : (Lit.int .i64 a2).wf = true) (w : World) :
    Calls Try.prog 3 #[.agg #[.int .i64 x0, .int .i64 y0], .agg #[.int .i64 x1, .int .i64 y1], .int .i64 a2] w fun e w' => e = .returned (.bool true) ∧ Grown w w' := by
  have WX0 := bounds_i64 wx0
  have WY0 := bounds_i64 wy0
  have WX1 := bounds_i64 wx1
  have WY1 := bounds_i64 wy1
  cases hA : (inB 2305843009213693952 x0 && inB 2305843009213693952 y0)
  · have hS : ((inB 2305843009213693952 x0 && inB 2305843009213693952 x1) && (inB 2305843009213693952 y0 && inB 2305843009213693952 y1)) = false := by
      revert hA; cases inB 2305843009213693952 x0 <;> cases inB 2305843009213693952 y0 <;> simp
    obtain ⟨t0, t1, ht⟩ := rturn_any x0 y0 a2
    exact (core_f x0 y0 x1 y1 a2 0 0 2 0 0 2 0 0 2 0 0 2 _ _ _ _ _ _ _ _ false (Lib.hid (cxsum_bad x0 y0 x1 y1 hS)) (Lib.hid (cxless_bad x0 y0 x1 y1 hS)) (Lib.hid (cxconj_bad x0 y0 hA)) (Lib.hid (cxturn_bad x0 y0 a2 hA))
      (Lib.hid fun W => (rwide_c x0 y0 W).mono fun e w' ⟨he, hg⟩ => ⟨by rw [he, hA], hg⟩) (Lib.hid (rsum_c x0 y0 x1 y1 _ _ rfl rfl)) (Lib.hid (rless_c x0 y0 x1 y1 _ _ rfl rfl)) (Lib.hid (rconj_c x0 y0 _ rfl)) (Lib.hid ht)
      (Lib.hid (told_no _ _)) (Lib.hid (told_no _ _)) (Lib.hid (told_no _ _)) (Lib.hid (told_no _ _)) w).mono fun e w' ⟨he, hg⟩ => ⟨he, hg.out⟩
  · have hb := hA
    simp only [Bool.and_eq_true, inB_iff] at hb
    obtain ⟨t0, t1, hT, hR⟩ := turn_both x0 y0 a2 hA
    have RC := rconj_c x0 y0 (-y0) (IntWalk.wrap64_in _ (by omega))
    cases hB : (inB 2305843009213693952 x1 && inB 2305843009213693952 y1)
    · have hS : ((inB 2305843009213693952 x0 && inB 2305843009213693952 x1) && (inB 2305843009213693952 y0 && inB 2305843009213693952 y1)) = false := by
        revert hB; cases inB 2305843009213693952 x1 <;> cases inB 2305843009213693952 y1 <;> simp
      exact (core_t x0 y0 x1 y1 a2 0 0 2 0 0 2 _ _ 0 _ _ 0 _ _ _ _ _ _ _ _ false (Lib.hid (cxsum_bad x0 y0 x1 y1 hS)) (Lib.hid (cxless_bad x0 y0 x1 y1 hS)) (Lib.hid (cxconj_ok x0 y0 hA)) (Lib.hid hT)
        (Lib.hid fun W => (rwide_c x0 y0 W).mono fun e w' ⟨he, hg⟩ => ⟨by rw [he, hA], hg⟩) (Lib.hid fun W => (rwide_c x1 y1 W).mono fun e w' ⟨he, hg⟩ => ⟨by rw [he, hB], hg⟩) (Lib.hid (rsum_c x0 y0 x1 y1 _ _ rfl rfl)) (Lib.hid (rless_c x0 y0 x1 y1 _ _ rfl rfl)) (Lib.hid RC) (Lib.hid hR)
        (Lib.hid (told_no _ _)) (Lib.hid (told_no _ _)) (Lib.hid (told_yes _ _)) (Lib.hid (told_yes _ _)) w).mono fun e w' ⟨he, hg⟩ => ⟨he, hg.out⟩
    · have hS : ((inB 2305843009213693952 x0 && inB 2305843009213693952 x1) && (inB 2305843009213693952 y0 && inB 2305843009213693952 y1)) = true := by
        revert hA hB; cases inB 2305843009213693952 x0 <;> cases inB 2305843009213693952 y0 <;> cases inB 2305843009213693952 x1 <;> cases inB 2305843009213693952 y1 <;> simp
      have hc := hB
      simp only [Bool.and_eq_true, inB_iff] at hc
      exact (core_t x0 y0 x1 y1 a2 _ _ 0 _ _ 0 _ _ 0 _ _ 0 _ _ _ _ _ _ _ _ true (Lib.hid (cxsum_ok x0 y0 x1 y1 hS)) (Lib.hid (cxless_ok x0 y0 x1 y1 hS)) (Lib.hid (cxconj_ok x0 y0 hA)) (Lib.hid hT)
        (Lib.hid fun W => (rwide_c x0 y0 W).mono fun e w' ⟨he, hg⟩ => ⟨by rw [he, hA], hg⟩) (Lib.hid fun W => (rwide_c x1 y1 W).mono fun e w' ⟨he, hg⟩ => ⟨by rw [he, hB], hg⟩)
        (Lib.hid (rsum_c x0 y0 x1 y1 _ _ (IntWalk.wrap64_in _ (by omega)) (IntWalk.wrap64_in _ (by omega)))) (Lib.hid (rless_c x0 y0 x1 y1 _ _ (IntWalk.wrap64_in _ (by omega)) (IntWalk.wrap64_in _ (by omega)))) (Lib.hid RC) (Lib.hid hR)
        (Lib.hid (told_yes _ _)) (Lib.hid (told_yes _ _)) (Lib.hid (told_yes _ _)) (Lib.hid (told_yes _ _)) w).mono fun e w' ⟨he, hg⟩ => ⟨he, hg.out⟩

set_option maxHeartbeats 4000000 in
set_option maxRecDepth 100000 in
theorem lifted (os : Os) (started : os.Started) (H : Type) (enc : TypeId × Value → H) :
    ReturnsInHanded {} Try.checked os 3 .any (Rows.cxSumsSpec.pre6 enc Try.prog Try.f3 Rows.cxSumsRow.domain false) (Rows.cxSumsSpec.post enc Try.prog Try.f3 false true false false) := by
  refine returnsInHanded_of_change (C := Try.checked) own started (by kernel_rfl) Try.func3
    (ChangeSpec.witness6 (enc := enc) (C := Try.checked) false ⟨#[], #[.agg #[.int .i64 0, .int .i64 0], .agg #[.int .i64 0, .int .i64 0], .int .i64 0], []⟩ 8 (by kernel_rfl) (by kernel_rfl) (by kernel_rfl) (by kernel_rfl)) ?_
  intro W base args ds gs before hval0 hW hcnd _
  have hval : ∀ (j : Nat) t v, Try.f3.params[j]? = some t → args[j]? = some v → Value.okWide Try.prog W .any base t v := hval0
  have hW' := hW
  obtain ⟨p, q, hA0, hV, rfl, hfz, hnd⟩ := hW
  have hA : DataW.TrodAll enc Try.prog W 0 (fun _ => true) true Try.f3.params.toList args.toList ds p := hA0
  rw [Try.params3] at hA hval
  obtain ⟨v0, vs0, d0, ds0, p0, q0, hargs, rfl, rfl, h0, r0⟩ := trodAll_cons hA
  obtain ⟨v1, vs1, d1, ds1, p1, q1, rfl, rfl, rfl, h1, r1⟩ := trodAll_cons r0
  obtain ⟨v2, vs2, d2, ds2, p2, q2, rfl, rfl, rfl, h2, r2⟩ := trodAll_cons r1
  obtain ⟨rfl, rfl, rfl⟩ := trodAll_nil r2
  obtain rfl : args = #[v0, v1, v2] := by cases args; simp_all
  obtain ⟨rfl, rfl⟩ := trodVars_none hV
  obtain ⟨c00, c01, z00, z01, m0, rfl, rfl, rfl, hy00, hy01⟩ := open_agg2 Try.underlying23 (by kernel_rfl) cellsC (hval 0 23 v0 rfl rfl) h0
  obtain ⟨x0, e00, rfl, wx0⟩ := DataW.trod_int Try.underlying3 hy00
  obtain ⟨y0, e01, rfl, wy0⟩ := DataW.trod_int Try.underlying3 hy01
  simp at e00 e01
  subst e00 e01
  have s0 : ∀ (W' : World) (sp : Nat → Bool), DataW.Trod enc Try.prog W' 0 sp true 23 (.agg #[.int .i64 x0, .int .i64 y0]) (.agg [.lit (.int .i64 x0), .lit (.int .i64 y0)]) [] := fun W' sp =>
    shut_agg2 (y0 := (.lit (.int .i64 x0), [])) (y1 := (.lit (.int .i64 y0), [])) Try.underlying23 (by kernel_rfl) cellsC ⟨1, by simp [DataW.trod, Try.underlying3, wx0]⟩ ⟨1, by simp [DataW.trod, Try.underlying3, wy0]⟩
  obtain ⟨c10, c11, z10, z11, m1, rfl, rfl, rfl, hy10, hy11⟩ := open_agg2 Try.underlying23 (by kernel_rfl) cellsC (hval 1 23 v1 rfl rfl) h1
  obtain ⟨x1, e10, rfl, wx1⟩ := DataW.trod_int Try.underlying3 hy10
  obtain ⟨y1, e11, rfl, wy1⟩ := DataW.trod_int Try.underlying3 hy11
  simp at e10 e11
  subst e10 e11
  have s1 : ∀ (W' : World) (sp : Nat → Bool), DataW.Trod enc Try.prog W' 0 sp true 23 (.agg #[.int .i64 x1, .int .i64 y1]) (.agg [.lit (.int .i64 x1), .lit (.int .i64 y1)]) [] := fun W' sp =>
    shut_agg2 (y0 := (.lit (.int .i64 x1), [])) (y1 := (.lit (.int .i64 y1), [])) Try.underlying23 (by kernel_rfl) cellsC ⟨1, by simp [DataW.trod, Try.underlying3, wx1]⟩ ⟨1, by simp [DataW.trod, Try.underlying3, wy1]⟩
  obtain ⟨a2, rfl, rfl, rfl, w2⟩ := open_int Try.underlying3 (hval 2 3 v2 rfl rfl) h2
  clear hA0 hval0
  simp only [List.append_nil] at hW'
  refine (walk x0 y0 x1 y1 a2 wx0 wy0 wx1 wy1 w2 W).mono fun e W' ⟨he, hg⟩ => ?_
  subst he
  exact ⟨_, rfl, post_of_same (pa := []) (pv := []) hW' (fun _ _ _ => (trodAll_cons_mk (shut_bool Try.underlying4 _) trodAll_mk0)) (fun sp _ => (trodAll_cons_mk (s0 _ _) (trodAll_cons_mk (s1 _ _) (trodAll_cons_mk (shut_int Try.underlying3 w2) trodAll_mk0)))) (fun _ _ => rfl) rfl
    (hg.frame _) hg.2.1 (ok_one (by kernel_rfl) rfl (okWide_bool_mk Try.underlying4 _))⟩

theorem over : Rows.cxSumsRow.holds Try.pinned (OpenSpec.ofChange Rows.cxSumsSpec) :=
  OpenClaim.holds_of_wide 3 Try.f3 rfl rfl rfl rfl rfl rfl rfl ⟨rfl, rfl, rfl, rfl, rfl⟩ rfl rfl rfl rfl rfl (by kernel_rfl) Try.func3 (by kernel_rfl)
    (of_decide_eq_true (by kernel_rfl)) (by unfold Func.isWrapper; first | (rw [if_pos (by decide +kernel)]; kernel_rfl) | (rw [if_neg (by decide +kernel)]; exact ⟨rfl, rfl⟩))
    (fun os started H enc _ => lifted os started H enc)

/-- THE STATEMENT -/
theorem proved : Rows.CxSumsSaid :=
  over
#print axioms proved
end Go.Proofs.Ytbgdhpcidcnjkaa.cxSums
