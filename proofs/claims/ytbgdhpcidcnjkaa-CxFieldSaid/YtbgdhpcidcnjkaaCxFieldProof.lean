/- Proved: for every input, the law CxField answers true at this commit, and its arguments read afterwards as before. No condition. -/
import Derived.Test.YtbgdhpcidcnjkaaRows
import Derived.WalkKit
import Derived.ProofKit
import Derived.OpenShut
import Derived.Lib.SmallJoins
import Derived.Test.YtbgdhpcidcnjkaaCxFieldCore
import Derived.Test.YtbgdhpcidcnjkaaCxFieldCore2
import Derived.Test.YtbgdhpcidcnjkaaCxFieldMath
namespace Go.Proofs.Ytbgdhpcidcnjkaa.cxField
open Go.ChangeShapes Go.WideShapes Go.ChangeAt Go.RowKit Go.Joins
set_option linter.unusedVariables false

theorem own : ownKnob Try.prog.godebug = none := by kernel_rfl
theorem cellsC : Try.prog.cellsOf 23 = 2 := by kernel_rfl


set_option maxHeartbeats 4000000 in
set_option maxRecDepth 100000 in
theorem walk (x0 y0 : Int) (x1 y1 : Int) (x2 y2 : Int) (a3 : Int) (wx0 : (Lit.int .i64 x0).wf = true) (wy0 : (Lit.int .i64 y0).wf = true) (wx1 : (Lit.int .i64 x1).wf = true) (wy1 : (Lit.int .i64 y1).wf = true) (wx2 : (Lit.int .i64 x2).wf = true) (wy2 : (Lit.int .i64 y2).wf = true) (w3 : (Lit.int .i64 a3).wf = true) (w : World) :
    Calls Try.prog 6 #[.agg #[.int .i64 x0, .int .i64 y0], .agg #[.int .i64 x1, .int .i64 y1], .agg #[.int .i64 x2, .int .i64 y2], .int .i64 a3] w fun e w' => e = .returned (.bool true) ∧ Grown w w' := by
  obtain ⟨A0, hA0, A0l, A0h⟩ : ∃ A, x0.tmod 32768 = A ∧ -32767 ≤ A ∧ A ≤ 32767 := ⟨_, rfl, tmod_small x0⟩
  obtain ⟨B0, hB0, B0l, B0h⟩ : ∃ A, y0.tmod 32768 = A ∧ -32767 ≤ A ∧ A ≤ 32767 := ⟨_, rfl, tmod_small y0⟩
  obtain ⟨A1, hA1, A1l, A1h⟩ : ∃ A, x1.tmod 32768 = A ∧ -32767 ≤ A ∧ A ≤ 32767 := ⟨_, rfl, tmod_small x1⟩
  obtain ⟨B1, hB1, B1l, B1h⟩ : ∃ A, y1.tmod 32768 = A ∧ -32767 ≤ A ∧ A ≤ 32767 := ⟨_, rfl, tmod_small y1⟩
  obtain ⟨A2, hA2, A2l, A2h⟩ : ∃ A, x2.tmod 32768 = A ∧ -32767 ≤ A ∧ A ≤ 32767 := ⟨_, rfl, tmod_small x2⟩
  obtain ⟨B2, hB2, B2l, B2h⟩ : ∃ A, y2.tmod 32768 = A ∧ -32767 ≤ A ∧ A ≤ 32767 := ⟨_, rfl, tmod_small y2⟩
  obtain ⟨k, hk, k0, k1⟩ : ∃ k, a3.tmod 1000 = k ∧ -999 ≤ k ∧ k ≤ 999 := ⟨_, rfl, tmod_1000 a3⟩
  clear wx0 wy0 wx1 wy1 wx2 wy2 w3
  have m00 := mul_bd 32767 32767 A0 A1 (by decide) (by decide) A0l A0h A1l A1h
  have m01 := mul_bd 32767 32767 B0 B1 (by decide) (by decide) B0l B0h B1l B1h
  have m02 := mul_bd 32767 32767 A0 B1 (by decide) (by decide) A0l A0h B1l B1h
  have m03 := mul_bd 32767 32767 B0 A1 (by decide) (by decide) B0l B0h A1l A1h
  have n00 := mul_bd 32767 32767 A0 A2 (by decide) (by decide) A0l A0h A2l A2h
  have n01 := mul_bd 32767 32767 B0 B2 (by decide) (by decide) B0l B0h B2l B2h
  have n02 := mul_bd 32767 32767 A0 B2 (by decide) (by decide) A0l A0h B2l B2h
  have n03 := mul_bd 32767 32767 B0 A2 (by decide) (by decide) B0l B0h A2l A2h
  have sA := mul_bd 32767 32767 A0 A0 (by decide) (by decide) A0l A0h A0l A0h
  have sB := mul_bd 32767 32767 B0 B0 (by decide) (by decide) B0l B0h B0l B0h
  have tA := mul_bd 32767 32767 A1 A1 (by decide) (by decide) A1l A1h A1l A1h
  have tB := mul_bd 32767 32767 B1 B1 (by decide) (by decide) B1l B1h B1l B1h
  have sA0 := sq_nonneg A0
  have sB0 := sq_nonneg B0
  have tA0 := sq_nonneg A1
  have tB0 := sq_nonneg B1
  have H1 := cxtimes_ok A0 B0 A1 B1 (times_in _ _ _ _ (by omega) (by omega) (by omega) (by omega))
  have H2 := cxtimes_ok A0 B0 A2 B2 (times_in _ _ _ _ (by omega) (by omega) (by omega) (by omega))
  have H3 := cxsum_ok A1 B1 A2 B2 (sum_in _ _ _ _ (by omega) (by omega) (by omega) (by omega))
  have H4 := cxtimes_ok A0 B0 (A1 + A2) (B1 + B2) (times_in _ _ _ _ (by omega) (by omega) (by omega) (by omega))
  have H5 := cxsum_ok (A0 * A1 - B0 * B1) (A0 * B1 + B0 * A1) (A0 * A2 - B0 * B2) (A0 * B2 + B0 * A2) (sum_in _ _ _ _ (by omega) (by omega) (by omega) (by omega))
  rw [dist0, dist1] at H4
  have H6 := cxnorm_ok A0 B0 (narrow_in _ _ (by omega) (by omega))
  have H7 := cxnorm_ok A1 B1 (narrow_in _ _ (by omega) (by omega))
  have H8 := cxnorm_ok (A0 * A1 - B0 * B1) (A0 * B1 + B0 * A1) (narrow_in _ _ (by omega) (by omega))
  rw [← norms] at H8
  have H9 := cxconj_ok A0 B0 (wide_in _ _ (by omega) (by omega))
  have H10 := cxtimes_ok A0 B0 A0 (-B0) (times_in _ _ _ _ (by omega) (by omega) (by omega) (by omega))
  rw [conj0, conj1] at H10
  have hw := wide_in A0 B0 (by omega) (by omega)
  obtain ⟨t0, t1, H12, H13⟩ := turn_two A0 B0 k hw
  have pos := mul_bd 4294836225 4294836225 (A0 * A0 + B0 * B0) (A1 * A1 + B1 * B1) (by decide) (by decide) (by omega) (by omega) (by omega) (by omega)
  have pos0 : 0 ≤ (A0 * A0 + B0 * B0) * (A1 * A1 + B1 * B1) := Int.mul_nonneg (by omega) (by omega)
  have hnp : IntKind.u64.wrap ((A0 * A0 + B0 * B0) * (A1 * A1 + B1 * B1)) = (A0 * A0 + B0 * B0) * (A1 * A1 + B1 * B1) := u64_in _ pos0 (by omega)
  have hna : IntKind.u64.wrap (A0 * A0 + B0 * B0) = A0 * A0 + B0 * B0 := u64_in _ (by omega) (by omega)
  cases hz : (a3.tmod 4 != 0)
  · have hz4 : a3 % 4 = 0 := by
      have := tmod4 a3
      have hz' : a3.tmod 4 = 0 := by simpa using hz
      omega
    have H11 := cxturn_0 A0 B0 a3 hw (by rw [and3, hz4])
    exact (core_f x0 y0 x1 y1 x2 y2 a3 k A0 B0 A1 B1 A2 B2 _ _ _ _ _ _ _ _ _ _ _ _ _ _ _ hA0 hB0 hA1 hB1 hA2 hB2 hk k0 k1 hz hnp hna (Lib.hid H1) (Lib.hid H2) (Lib.hid H3) (Lib.hid H4) (Lib.hid H5) (Lib.hid H6) (Lib.hid H7) (Lib.hid H8) (Lib.hid H9) (Lib.hid H10) (Lib.hid H11) (Lib.hid H12) (Lib.hid H13) w).mono fun e w' ⟨he, hg⟩ => ⟨he, hg.out⟩
  · obtain ⟨u0, u1, H11, _⟩ := turn_both A0 B0 a3 hw
    exact (core_t x0 y0 x1 y1 x2 y2 a3 k A0 B0 A1 B1 A2 B2 _ _ _ _ _ _ _ _ _ _ _ _ _ _ _ _ _ hA0 hB0 hA1 hB1 hA2 hB2 hk k0 k1 hz hnp hna (Lib.hid H1) (Lib.hid H2) (Lib.hid H3) (Lib.hid H4) (Lib.hid H5) (Lib.hid H6) (Lib.hid H7) (Lib.hid H8) (Lib.hid H9) (Lib.hid H10) (Lib.hid H11) (Lib.hid H12) (Lib.hid H13) w).mono fun e w' ⟨he, hg⟩ => ⟨he, hg.out⟩

set_option maxHeartbeats 4000000 in
set_option maxRecDepth 100000 in
theorem lifted (os : Os) (started : os.Started) (H : Type) (enc : TypeId × Value → H) :
    ReturnsInHanded {} Try.checked os 6 .any (Rows.cxFieldSpec.pre6 enc Try.prog Try.f6 Rows.cxFieldRow.domain false) (Rows.cxFieldSpec.post enc Try.prog Try.f6 false true false false) := by
  refine returnsInHanded_of_change (C := Try.checked) own started (by kernel_rfl) Try.func6
    (ChangeSpec.witness6 (enc := enc) (C := Try.checked) false ⟨#[], #[.agg #[.int .i64 0, .int .i64 0], .agg #[.int .i64 0, .int .i64 0], .agg #[.int .i64 0, .int .i64 0], .int .i64 0], []⟩ 8 (by kernel_rfl) (by kernel_rfl) (by kernel_rfl) (by kernel_rfl)) ?_
  intro W base args ds gs before hval0 hW hcnd _
  have hval : ∀ (j : Nat) t v, Try.f6.params[j]? = some t → args[j]? = some v → Value.okWide Try.prog W .any base t v := hval0
  have hW' := hW
  obtain ⟨p, q, hA0, hV, rfl, hfz, hnd⟩ := hW
  have hA : DataW.TrodAll enc Try.prog W 0 (fun _ => true) true Try.f6.params.toList args.toList ds p := hA0
  rw [Try.params6] at hA hval
  obtain ⟨v0, vs0, d0, ds0, p0, q0, hargs, rfl, rfl, h0, r0⟩ := trodAll_cons hA
  obtain ⟨v1, vs1, d1, ds1, p1, q1, rfl, rfl, rfl, h1, r1⟩ := trodAll_cons r0
  obtain ⟨v2, vs2, d2, ds2, p2, q2, rfl, rfl, rfl, h2, r2⟩ := trodAll_cons r1
  obtain ⟨v3, vs3, d3, ds3, p3, q3, rfl, rfl, rfl, h3, r3⟩ := trodAll_cons r2
  obtain ⟨rfl, rfl, rfl⟩ := trodAll_nil r3
  obtain rfl : args = #[v0, v1, v2, v3] := by cases args; simp_all
  obtain ⟨rfl, rfl⟩ := trodVars_none hV
  obtain ⟨c00, c01, z00, z01, m0, rfl, rfl, rfl, hy00, hy01⟩ := open_agg2 Try.underlying23 (by kernel_rfl) cellsC (hval 0 23 v0 rfl rfl) h0
  obtain ⟨x0, e00, rfl, wx0⟩ := DataW.trod_int Try.underlying3 hy00
  obtain ⟨y0, e01, rfl, wy0⟩ := DataW.trod_int Try.underlying3 hy01
  simp at e00 e01
  subst e00 e01
  have s0 : ∀ (W' : World) (sp : Nat → Bool), DataW.Trod enc Try.prog W' 0 sp true 23 (.agg #[.int .i64 x0, .int .i64 y0]) (.agg [.lit (.int .i64 x0), .lit (.int .i64 y0)]) [] := fun W' sp =>
    shut_agg2 (y0 := (.lit (.int .i64 x0), [])) (y1 := (.lit (.int .i64 y0), [])) Try.underlying23 (by kernel_rfl) cellsC ⟨1, by simp [DataW.trod, Try.underlying3, wx0]⟩ ⟨1, by simp [DataW.trod, Try.underlying3, wy0]⟩
  obtain ⟨c10, c11, z10, z11, m1, rfl, rfl, rfl, hy10, hy11⟩ := open_agg2 Try.underlying23 (by kernel_rfl) cellsC (hval 1 23 v1 rfl rfl) h1
  obtain ⟨x1, e10, rfl, wx1⟩ := DataW.trod_int Try.underlying3 hy10
  obtain ⟨y1, e11, rfl, wy1⟩ := DataW.trod_int Try.underlying3 hy11
  simp at e10 e11
  subst e10 e11
  have s1 : ∀ (W' : World) (sp : Nat → Bool), DataW.Trod enc Try.prog W' 0 sp true 23 (.agg #[.int .i64 x1, .int .i64 y1]) (.agg [.lit (.int .i64 x1), .lit (.int .i64 y1)]) [] := fun W' sp =>
    shut_agg2 (y0 := (.lit (.int .i64 x1), [])) (y1 := (.lit (.int .i64 y1), [])) Try.underlying23 (by kernel_rfl) cellsC ⟨1, by simp [DataW.trod, Try.underlying3, wx1]⟩ ⟨1, by simp [DataW.trod, Try.underlying3, wy1]⟩
  obtain ⟨c20, c21, z20, z21, m2, rfl, rfl, rfl, hy20, hy21⟩ := open_agg2 Try.underlying23 (by kernel_rfl) cellsC (hval 2 23 v2 rfl rfl) h2
  obtain ⟨x2, e20, rfl, wx2⟩ := DataW.trod_int Try.underlying3 hy20
  obtain ⟨y2, e21, rfl, wy2⟩ := DataW.trod_int Try.underlying3 hy21
  simp at e20 e21
  subst e20 e21
  have s2 : ∀ (W' : World) (sp : Nat → Bool), DataW.Trod enc Try.prog W' 0 sp true 23 (.agg #[.int .i64 x2, .int .i64 y2]) (.agg [.lit (.int .i64 x2), .lit (.int .i64 y2)]) [] := fun W' sp =>
    shut_agg2 (y0 := (.lit (.int .i64 x2), [])) (y1 := (.lit (.int .i64 y2), [])) Try.underlying23 (by kernel_rfl) cellsC ⟨1, by simp [DataW.trod, Try.underlying3, wx2]⟩ ⟨1, by simp [DataW.trod, Try.underlying3, wy2]⟩
  obtain ⟨a3, rfl, rfl, rfl, w3⟩ := open_int Try.underlying3 (hval 3 3 v3 rfl rfl) h3
  clear hA0 hval0
  simp only [List.append_nil] at hW'
  refine (walk x0 y0 x1 y1 x2 y2 a3 wx0 wy0 wx1 wy1 wx2 wy2 w3 W).mono fun e W' ⟨he, hg⟩ => ?_
  subst he
  exact ⟨_, rfl, post_of_same (pa := []) (pv := []) hW' (fun _ _ _ => (trodAll_cons_mk (shut_bool Try.underlying4 _) trodAll_mk0)) (fun sp _ => (trodAll_cons_mk (s0 _ _) (trodAll_cons_mk (s1 _ _) (trodAll_cons_mk (s2 _ _) (trodAll_cons_mk (shut_int Try.underlying3 w3) trodAll_mk0))))) (fun _ _ => rfl) rfl
    (hg.frame _) hg.2.1 (ok_one (by kernel_rfl) rfl (okWide_bool_mk Try.underlying4 _))⟩

theorem over : Rows.cxFieldRow.holds Try.pinned (OpenSpec.ofChange Rows.cxFieldSpec) :=
  OpenClaim.holds_of_wide 6 Try.f6 rfl rfl rfl rfl rfl rfl rfl ⟨rfl, rfl, rfl, rfl, rfl⟩ rfl rfl rfl rfl rfl (by kernel_rfl) Try.func6 (by kernel_rfl)
    (of_decide_eq_true (by kernel_rfl)) (by unfold Func.isWrapper; first | (rw [if_pos (by decide +kernel)]; kernel_rfl) | (rw [if_neg (by decide +kernel)]; exact ⟨rfl, rfl⟩))
    (fun os started H enc _ => lifted os started H enc)

/-- THE STATEMENT -/
theorem proved : Rows.CxFieldSaid :=
  over
#print axioms proved
end Go.Proofs.Ytbgdhpcidcnjkaa.cxField
