/- Proved: for every input, the law SplitJoins answers true at this commit, and its arguments read afterwards as before. No condition. -/
import Derived.Test.YtmhcbphkkcmecaaRows
import Derived.WalkKit
import Derived.ProofKit
import Derived.OpenShut
import Derived.Lib.SmallJoins
import Derived.ChangeOld
import Derived.Below
import Derived.Test.YtmhcbphkkcmecaaSplitJoinsCore
import Derived.Test.YtmhcbphkkcmecaaCxs
namespace Go.Proofs.Ytmhcbphkkcmecaa.splitJoins
open Go.ChangeShapes Go.WideShapes Go.ChangeAt Go.RowKit Go.Joins
set_option linter.unusedVariables false

theorem own : ownKnob Try.prog.godebug = none := by kernel_rfl

theorem cellsC : Try.prog.cellsOf 23 = 2 := by kernel_rfl

theorem joins_all (b mo : Int) (inv : Bool) (ju jv jy jz ja jc : Gi) (w : World) :
    Calls Try.prog 7 #[.agg #[.int .i64 ju.re, .int .i64 ju.im], .agg #[.int .i64 jv.re, .int .i64 jv.im], .agg #[.int .i64 jy.re, .int .i64 jy.im], .agg #[.int .i64 jz.re, .int .i64 jz.im], .agg #[.int .i64 ja.re, .int .i64 ja.im], .agg #[.int .i64 jc.re, .int .i64 jc.im], .int .i64 b, .int .i64 mo, .bool inv] w fun e w' => e = .returned (.bool true) ∧ Gr w w' := by
  by_cases hS : SetsOk3 b mo
  · obtain ⟨B, rfl⟩ : ∃ B : Nat, b = (B : Int) := ⟨b.toNat, by have := hS.1.1; omega⟩
    have hb : B ≤ 29 := by have := hS.1.2; omega
    by_cases h : JoinsOk B ju jv jy jz ja jc
    · have k4 := (allIn_iff _ _).1 h.1
      have k2 := (allIn_iff _ _).1 h.2
      exact splitJoins_ok B mo inv ju jv jy jz ja jc (fun q => joinG B mo inv q ju jv jy jz ja jc) (by omega) (by omega) hS.2.1 hS.2.2 (Lib.hid (sJoin_ok B mo inv ju jv jy jz ja jc hS h)) (Lib.hid (rJoins12_c B ju jv jy jz ja jc hb true (by rw [h.1, h.2]; rfl)))
        (Lib.hid fun q hq => rJoin12_c B mo inv q hq ju jv jy jz ja jc hb hS.2.1 hS.2.2 (k4 _ (by simp)) (k4 _ (by simp)) (k4 _ (by simp)) (k4 _ (by simp)) (k2 _ (by simp)) (k2 _ (by simp))) (Lib.hid alive12_c) w
    · have hz : (allIn 2147483648 [ju, jv, jy, jz] && allIn (2 ^ B) [ja, jc]) = false := by
        rw [Bool.eq_false_iff]
        intro k
        rw [Bool.and_eq_true] at k
        exact h k
      exact splitJoins_range B mo inv ju jv jy jz ja jc (by omega) (by omega) hS.2.1 hS.2.2 (Lib.hid (sJoin_range B mo inv ju jv jy jz ja jc hS h)) (Lib.hid (rJoins12_c B ju jv jy jz ja jc hb false hz.symm)) (Lib.hid alive12_c) w
  · exact splitJoins_arg b mo inv ju jv jy jz ja jc (by unfold SetsOk3 at hS; omega) (Lib.hid (sJoin_arg b mo inv ju jv jy jz ja jc hS)) (Lib.hid alive12_c) w


set_option maxHeartbeats 4000000 in
set_option maxRecDepth 100000 in
theorem walk (w : World) (x0 y0 : Int) (x1 y1 : Int) (x2 y2 : Int) (x3 y3 : Int) (x4 y4 : Int) (x5 y5 : Int) (a6 : Int) (a7 : Int) (a8 : Bool) (wx0 : (Lit.int .i64 x0).wf = true) (wy0 : (Lit.int .i64 y0).wf = true) (wx1 : (Lit.int .i64 x1).wf = true) (wy1 : (Lit.int .i64 y1).wf = true) (wx2 : (Lit.int .i64 x2).wf = true) (wy2 : (Lit.int .i64 y2).wf = true) (wx3 : (Lit.int .i64 x3).wf = true) (wy3 : (Lit.int .i64 y3).wf = true) (wx4 : (Lit.int .i64 x4).wf = true) (wy4 : (Lit.int .i64 y4).wf = true) (wx5 : (Lit.int .i64 x5).wf = true) (wy5 : (Lit.int .i64 y5).wf = true) (w6 : (Lit.int .i64 a6).wf = true) (w7 : (Lit.int .i64 a7).wf = true) :
    Calls Try.prog 7 #[.agg #[.int .i64 x0, .int .i64 y0], .agg #[.int .i64 x1, .int .i64 y1], .agg #[.int .i64 x2, .int .i64 y2], .agg #[.int .i64 x3, .int .i64 y3], .agg #[.int .i64 x4, .int .i64 y4], .agg #[.int .i64 x5, .int .i64 y5], .int .i64 a6, .int .i64 a7, .bool a8] w fun e w' => e = .returned (.bool true) ∧ Gr w w' := by
  exact joins_all a6 a7 a8 ⟨x0, y0⟩ ⟨x1, y1⟩ ⟨x2, y2⟩ ⟨x3, y3⟩ ⟨x4, y4⟩ ⟨x5, y5⟩ w

set_option maxHeartbeats 4000000 in
set_option maxRecDepth 100000 in
theorem lifted (os : Os) (started : os.Started) (H : Type) (enc : TypeId × Value → H) :
    ReturnsInHanded {} Try.checked os 7 .any (Rows.splitJoinsSpec.pre6 enc Try.prog Try.f7 Rows.splitJoinsRow.domain false) (Rows.splitJoinsSpec.post enc Try.prog Try.f7 false true false false) := by
  refine returnsInHanded_of_change (C := Try.checked) own started (by kernel_rfl) Try.func7
    (ChangeSpec.witness6 (enc := enc) (C := Try.checked) false ⟨#[], #[.agg #[.int .i64 0, .int .i64 0], .agg #[.int .i64 0, .int .i64 0], .agg #[.int .i64 0, .int .i64 0], .agg #[.int .i64 0, .int .i64 0], .agg #[.int .i64 0, .int .i64 0], .agg #[.int .i64 0, .int .i64 0], .int .i64 0, .int .i64 0, .bool false], []⟩ 8 (by kernel_rfl) (by kernel_rfl) (by kernel_rfl) (by kernel_rfl)) ?_
  intro W base args ds gs before hval0 hW hcnd _
  have hval : ∀ (j : Nat) t v, Try.f7.params[j]? = some t → args[j]? = some v → Value.okWide Try.prog W .any base t v := hval0
  have hW' := hW
  obtain ⟨p, q, hA0, hV, rfl, hfz, hnd⟩ := hW
  have hA : DataW.TrodAll enc Try.prog W 0 (fun _ => true) true Try.f7.params.toList args.toList ds p := hA0
  rw [Try.params7] at hA hval
  obtain ⟨v0, vs0, d0, ds0, p0, q0, hargs, rfl, rfl, h0, r0⟩ := trodAll_cons hA
  obtain ⟨v1, vs1, d1, ds1, p1, q1, rfl, rfl, rfl, h1, r1⟩ := trodAll_cons r0
  obtain ⟨v2, vs2, d2, ds2, p2, q2, rfl, rfl, rfl, h2, r2⟩ := trodAll_cons r1
  obtain ⟨v3, vs3, d3, ds3, p3, q3, rfl, rfl, rfl, h3, r3⟩ := trodAll_cons r2
  obtain ⟨v4, vs4, d4, ds4, p4, q4, rfl, rfl, rfl, h4, r4⟩ := trodAll_cons r3
  obtain ⟨v5, vs5, d5, ds5, p5, q5, rfl, rfl, rfl, h5, r5⟩ := trodAll_cons r4
  obtain ⟨v6, vs6, d6, ds6, p6, q6, rfl, rfl, rfl, h6, r6⟩ := trodAll_cons r5
  obtain ⟨v7, vs7, d7, ds7, p7, q7, rfl, rfl, rfl, h7, r7⟩ := trodAll_cons r6
  obtain ⟨v8, vs8, d8, ds8, p8, q8, rfl, rfl, rfl, h8, r8⟩ := trodAll_cons r7
  obtain ⟨rfl, rfl, rfl⟩ := trodAll_nil r8
  obtain rfl : args = #[v0, v1, v2, v3, v4, v5, v6, v7, v8] := by cases args; simp_all
  obtain ⟨rfl, rfl⟩ := trodVars_none hV
  obtain ⟨c00, c01, z00, z01, m0, rfl, rfl, rfl, hy00, hy01⟩ := open_agg2 Try.underlying23 (by kernel_rfl) cellsC (hval 0 23 v0 rfl rfl) h0
  obtain ⟨x0, e00, rfl, wx0⟩ := DataW.trod_int Try.underlying3 hy00
  obtain ⟨y0, e01, rfl, wy0⟩ := DataW.trod_int Try.underlying3 hy01
  simp at e00 e01
  subst e00 e01
  have s0 : ∀ (W' : World) (sp : Nat → Bool), DataW.Trod enc Try.prog W' 0 sp true 23 (.agg #[.int .i64 x0, .int .i64 y0]) (.agg [.lit (.int .i64 x0), .lit (.int .i64 y0)]) [] := fun W' sp =>
    shut_agg2 (y0 := (.lit (.int .i64 x0), [])) (y1 := (.lit (.int .i64 y0), [])) Try.underlying23 (by kernel_rfl) cellsC ⟨1, by simp [DataW.trod, Try.underlying3, wx0]⟩ ⟨1, by simp [DataW.trod, Try.underlying3, wy0]⟩
  obtain ⟨c10, c11, z10, z11, m1, rfl, rfl, rfl, hy10, hy11⟩ := open_agg2 Try.underlying23 (by kernel_rfl) cellsC (hval 1 23 v1 rfl rfl) h1
  obtain ⟨x1, e10, rfl, wx1⟩ := DataW.trod_int Try.underlying3 hy10
  obtain ⟨y1, e11, rfl, wy1⟩ := DataW.trod_int Try.underlying3 hy11
  simp at e10 e11
  subst e10 e11
  have s1 : ∀ (W' : World) (sp : Nat → Bool), DataW.Trod enc Try.prog W' 0 sp true 23 (.agg #[.int .i64 x1, .int .i64 y1]) (.agg [.lit (.int .i64 x1), .lit (.int .i64 y1)]) [] := fun W' sp =>
    shut_agg2 (y0 := (.lit (.int .i64 x1), [])) (y1 := (.lit (.int .i64 y1), [])) Try.underlying23 (by kernel_rfl) cellsC ⟨1, by simp [DataW.trod, Try.underlying3, wx1]⟩ ⟨1, by simp [DataW.trod, Try.underlying3, wy1]⟩
  obtain ⟨c20, c21, z20, z21, m2, rfl, rfl, rfl, hy20, hy21⟩ := open_agg2 Try.underlying23 (by kernel_rfl) cellsC (hval 2 23 v2 rfl rfl) h2
  obtain ⟨x2, e20, rfl, wx2⟩ := DataW.trod_int Try.underlying3 hy20
  obtain ⟨y2, e21, rfl, wy2⟩ := DataW.trod_int Try.underlying3 hy21
  simp at e20 e21
  subst e20 e21
  have s2 : ∀ (W' : World) (sp : Nat → Bool), DataW.Trod enc Try.prog W' 0 sp true 23 (.agg #[.int .i64 x2, .int .i64 y2]) (.agg [.lit (.int .i64 x2), .lit (.int .i64 y2)]) [] := fun W' sp =>
    shut_agg2 (y0 := (.lit (.int .i64 x2), [])) (y1 := (.lit (.int .i64 y2), [])) Try.underlying23 (by kernel_rfl) cellsC ⟨1, by simp [DataW.trod, Try.underlying3, wx2]⟩ ⟨1, by simp [DataW.trod, Try.underlying3, wy2]⟩
  obtain ⟨c30, c31, z30, z31, m3, rfl, rfl, rfl, hy30, hy31⟩ := open_agg2 Try.underlying23 (by kernel_rfl) cellsC (hval 3 23 v3 rfl rfl) h3
  obtain ⟨x3, e30, rfl, wx3⟩ := DataW.trod_int Try.underlying3 hy30
  obtain ⟨y3, e31, rfl, wy3⟩ := DataW.trod_int Try.underlying3 hy31
  simp at e30 e31
  subst e30 e31
  have s3 : ∀ (W' : World) (sp : Nat → Bool), DataW.Trod enc Try.prog W' 0 sp true 23 (.agg #[.int .i64 x3, .int .i64 y3]) (.agg [.lit (.int .i64 x3), .lit (.int .i64 y3)]) [] := fun W' sp =>
    shut_agg2 (y0 := (.lit (.int .i64 x3), [])) (y1 := (.lit (.int .i64 y3), [])) Try.underlying23 (by kernel_rfl) cellsC ⟨1, by simp [DataW.trod, Try.underlying3, wx3]⟩ ⟨1, by simp [DataW.trod, Try.underlying3, wy3]⟩
  obtain ⟨c40, c41, z40, z41, m4, rfl, rfl, rfl, hy40, hy41⟩ := open_agg2 Try.underlying23 (by kernel_rfl) cellsC (hval 4 23 v4 rfl rfl) h4
  obtain ⟨x4, e40, rfl, wx4⟩ := DataW.trod_int Try.underlying3 hy40
  obtain ⟨y4, e41, rfl, wy4⟩ := DataW.trod_int Try.underlying3 hy41
  simp at e40 e41
  subst e40 e41
  have s4 : ∀ (W' : World) (sp : Nat → Bool), DataW.Trod enc Try.prog W' 0 sp true 23 (.agg #[.int .i64 x4, .int .i64 y4]) (.agg [.lit (.int .i64 x4), .lit (.int .i64 y4)]) [] := fun W' sp =>
    shut_agg2 (y0 := (.lit (.int .i64 x4), [])) (y1 := (.lit (.int .i64 y4), [])) Try.underlying23 (by kernel_rfl) cellsC ⟨1, by simp [DataW.trod, Try.underlying3, wx4]⟩ ⟨1, by simp [DataW.trod, Try.underlying3, wy4]⟩
  obtain ⟨c50, c51, z50, z51, m5, rfl, rfl, rfl, hy50, hy51⟩ := open_agg2 Try.underlying23 (by kernel_rfl) cellsC (hval 5 23 v5 rfl rfl) h5
  obtain ⟨x5, e50, rfl, wx5⟩ := DataW.trod_int Try.underlying3 hy50
  obtain ⟨y5, e51, rfl, wy5⟩ := DataW.trod_int Try.underlying3 hy51
  simp at e50 e51
  subst e50 e51
  have s5 : ∀ (W' : World) (sp : Nat → Bool), DataW.Trod enc Try.prog W' 0 sp true 23 (.agg #[.int .i64 x5, .int .i64 y5]) (.agg [.lit (.int .i64 x5), .lit (.int .i64 y5)]) [] := fun W' sp =>
    shut_agg2 (y0 := (.lit (.int .i64 x5), [])) (y1 := (.lit (.int .i64 y5), [])) Try.underlying23 (by kernel_rfl) cellsC ⟨1, by simp [DataW.trod, Try.underlying3, wx5]⟩ ⟨1, by simp [DataW.trod, Try.underlying3, wy5]⟩
  obtain ⟨a6, rfl, rfl, rfl, w6⟩ := open_int Try.underlying3 (hval 6 3 v6 rfl rfl) h6
  obtain ⟨a7, rfl, rfl, rfl, w7⟩ := open_int Try.underlying3 (hval 7 3 v7 rfl rfl) h7
  obtain ⟨a8, rfl, rfl, rfl⟩ := open_bool Try.underlying4 (hval 8 4 v8 rfl rfl) h8
  clear hA0 hval0
  simp only [List.append_nil] at hW'
  refine (walk W x0 y0 x1 y1 x2 y2 x3 y3 x4 y4 x5 y5 a6 a7 a8 wx0 wy0 wx1 wy1 wx2 wy2 wx3 wy3 wx4 wy4 wx5 wy5 w6 w7).mono fun e W' ⟨he, hg⟩ => ?_
  subst he
  exact ⟨_, rfl, post_gr (pa := []) (pv := []) hW' (fun _ _ _ => (trodAll_cons_mk (shut_bool Try.underlying4 _) trodAll_mk0)) (fun sp _ => (trodAll_cons_mk (s0 _ _) (trodAll_cons_mk (s1 _ _) (trodAll_cons_mk (s2 _ _) (trodAll_cons_mk (s3 _ _) (trodAll_cons_mk (s4 _ _) (trodAll_cons_mk (s5 _ _) (trodAll_cons_mk (shut_int Try.underlying3 w6) (trodAll_cons_mk (shut_int Try.underlying3 w7) (trodAll_cons_mk (shut_bool Try.underlying4 a8) trodAll_mk0)))))))))) (fun _ _ => rfl) rfl hg⟩

theorem over : Rows.splitJoinsRow.holds Try.pinned (OpenSpec.ofChange Rows.splitJoinsSpec) :=
  OpenClaim.holds_of_wide 7 Try.f7 rfl rfl rfl rfl rfl rfl rfl ⟨rfl, rfl, rfl, rfl, rfl⟩ rfl rfl rfl rfl rfl (by kernel_rfl) Try.func7 (by kernel_rfl)
    (of_decide_eq_true (by kernel_rfl)) (by unfold Func.isWrapper; first | (rw [if_pos (by decide +kernel)]; kernel_rfl) | (rw [if_neg (by decide +kernel)]; exact ⟨rfl, rfl⟩))
    (fun os started H enc _ => lifted os started H enc)

/-- THE STATEMENT -/
theorem proved : Rows.SplitJoinsSaid :=
  over
#print axioms proved
end Go.Proofs.Ytmhcbphkkcmecaa.splitJoins
