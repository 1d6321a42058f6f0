/- Proved: for every input, the law SatMuls answers true at this commit, and its arguments read afterwards as before. No condition. -/
import Derived.Test.YtchdeniiponhmaaRows
import Derived.WalkKit
import Derived.ProofKit
import Derived.OpenShut
import Derived.Test.YtchdeniiponhmaaSat3
import Derived.Test.YtchdeniiponhmaaRef02
namespace Go.Proofs.Ytchdeniiponhmaa.satMuls
open Go.ChangeShapes Go.WideShapes Go.ChangeAt Go.RowKit
set_option linter.unusedVariables false      -- a walk need not use every 'w<i>' (that an integer argument fits its kind)

theorem own : ownKnob Try.prog.godebug = none := by kernel_rfl

theorem law_core (a0 a1 a2 a3 x e : Int) (q : Bool)
    (HM : Hid (∀ W, Calls Try.prog 17 #[.int .i64 a0, .int .i64 a1, .int .i64 a2, .int .i64 a3] W fun E w' => E = .returned (.tuple #[.int .i64 x, .bool q, .int .i64 e]) ∧ Gr W w'))
    (HR : Hid (∀ W, Calls Try.prog 16 #[.int .i64 a0, .int .i64 a1, .int .i64 a2, .int .i64 a3, .int .i64 2] W fun E w' => E = .returned (.agg #[.int .i64 x, .bool q, .int .i64 e]) ∧ Gr W w'))
    (w : World) :
    Calls Try.prog 5 #[.int .i64 a0, .int .i64 a1, .int .i64 a2, .int .i64 a3] w fun e w' => e = .returned (.bool true) ∧ Gr w w' := by
  go_enter Try.func5, Try.ntmps5
  go_wp2_with fail
  refine (HM.out _).mono ?_
  rintro E w2 ⟨rfl, hg2⟩
  go_wp2_with fail
  refine (HR.out _).mono ?_
  rintro E w3 ⟨rfl, hg3⟩
  go_wp2_with fail
  refine (alive02_c _).mono ?_
  rintro E w4 ⟨rfl, hg4⟩
  have c0 : w4.cell? ⟨w3.heap.size, 0, none⟩ = some (.int .i64 x) := (hg4.cell (p := ⟨w3.heap.size, 0, none⟩) (by simp)).trans (by go_simp)
  have c1 : w4.cell? ⟨w3.heap.size, 1, none⟩ = some (.bool q) := (hg4.cell (p := ⟨w3.heap.size, 1, none⟩) (by simp)).trans (by go_simp)
  have c2 : w4.cell? ⟨w3.heap.size, 2, none⟩ = some (.int .i64 e) := (hg4.cell (p := ⟨w3.heap.size, 2, none⟩) (by simp)).trans (by go_simp)
  go_wp2
  go_ret
  exact ⟨by simp, (hg2.trans hg3).trans (((Gr.refl _).alloc _ _).trans hg4)⟩

/-! ### STEP 1: THE WALK: the Go text returns true. 'Grown w w'': the world has at most new blocks (Derived/RowKit3.lean). Part the cases AHEAD of 'go_enter' where a test parts the walk; take each callee by a contract of your own. -/
set_option maxHeartbeats 4000000 in
theorem walk (a0 : Int) (a1 : Int) (a2 : Int) (a3 : Int) (w0 : (Lit.int .i64 a0).wf = true) (w1 : (Lit.int .i64 a1).wf = true) (w2 : (Lit.int .i64 a2).wf = true) (w3 : (Lit.int .i64 a3).wf = true) (w : World) :
    Calls Try.prog 5 #[.int .i64 a0, .int .i64 a1, .int .i64 a2, .int .i64 a3] w fun e w' => e = .returned (.bool true) ∧ Grown w w' := by
  by_cases hf : a2 < 0 ∨ 1 < a2
  · exact (law_core a0 a1 a2 a3 0 1 false (Lib.hid (mul_bad a2 a0 a1 a3 hf)) (Lib.hid (two_bad a0 a1 a2 a3 2 (.inl hf))) w).mono fun e w' ⟨he, hg⟩ => ⟨he, hg.out⟩
  · obtain ⟨b, p, H⟩ := FB.of (f := a2) (by omega) (by omega)
    by_cases hm : a3 < 0 ∨ 2 < a3
    · exact (law_core a0 a1 a2 a3 0 1 false (Lib.hid (mul_bad_mode a2 b p a0 a1 a3 H hm)) (Lib.hid (two_bad a0 a1 a2 a3 2 (.inr hm))) w).mono fun e w' ⟨he, hg⟩ => ⟨he, hg.out⟩
    · by_cases hr : (-p ≤ a0 ∧ a0 < p) ∧ -p ≤ a1 ∧ a1 < p
      · obtain ⟨⟨x0, x1⟩, y0, y1⟩ := hr
        exact (law_core a0 a1 a2 a3 _ 0 _ (Lib.hid (mul_c a2 b p a0 a1 a3 H x0 x1 y0 y1 (by omega) (by omega))) (Lib.hid (two_mul a0 a1 a2 b p a3 H (by omega) (by omega) x0 x1 y0 y1)) w).mono fun e w' ⟨he, hg⟩ => ⟨he, hg.out⟩
      · exact (law_core a0 a1 a2 a3 0 2 false (Lib.hid (mul_range a2 b p a0 a1 a3 H hr (by omega) (by omega))) (Lib.hid (two_range a0 a1 a2 b p a3 2 H (by omega) (by omega) hr)) w).mono fun e w' ⟨he, hg⟩ => ⟨he, hg.out⟩

/-! ### THE ROW's STEP: WRITTEN OUT: LEAVE IT -/
set_option maxRecDepth 100000 in
theorem lifted (os : Os) (started : os.Started) (H : Type) (enc : TypeId × Value → H) :
    ReturnsInHanded {} Try.checked os 5 .any (Rows.satMulsSpec.pre6 enc Try.prog Try.f5 Rows.satMulsRow.domain false) (Rows.satMulsSpec.post enc Try.prog Try.f5 false true false false) := by
  refine returnsInHanded_of_change (C := Try.checked) own started (by kernel_rfl) Try.func5
    (ChangeSpec.witness6 (enc := enc) (C := Try.checked) false ⟨#[], #[.int .i64 0, .int .i64 0, .int .i64 0, .int .i64 0], []⟩ 8 (by kernel_rfl) (by kernel_rfl) (by kernel_rfl) (by kernel_rfl)) ?_
  intro W base args ds gs before hval0 hW hcnd _
  have hval : ∀ (j : Nat) t v, Try.f5.params[j]? = some t → args[j]? = some v → Value.okWide Try.prog W .any base t v := hval0
  have hW' := hW
  obtain ⟨p, q, hA0, hV, rfl, hfz, hnd⟩ := hW
  have hA : DataW.TrodAll enc Try.prog W 0 (fun _ => true) true Try.f5.params.toList args.toList ds p := hA0
  rw [Try.params5] at hA hval
  obtain ⟨v0, vs0, d0, ds0, p0, q0, hargs, rfl, rfl, h0, r0⟩ := trodAll_cons hA
  obtain ⟨v1, vs1, d1, ds1, p1, q1, rfl, rfl, rfl, h1, r1⟩ := trodAll_cons r0
  obtain ⟨v2, vs2, d2, ds2, p2, q2, rfl, rfl, rfl, h2, r2⟩ := trodAll_cons r1
  obtain ⟨v3, vs3, d3, ds3, p3, q3, rfl, rfl, rfl, h3, r3⟩ := trodAll_cons r2
  obtain ⟨rfl, rfl, rfl⟩ := trodAll_nil r3
  obtain rfl : args = #[v0, v1, v2, v3] := by cases args; simp_all
  obtain ⟨rfl, rfl⟩ := trodVars_none hV
  obtain ⟨a0, rfl, rfl, rfl, w0⟩ := open_int Try.underlying3 (hval 0 3 v0 rfl rfl) h0
  obtain ⟨a1, rfl, rfl, rfl, w1⟩ := open_int Try.underlying3 (hval 1 3 v1 rfl rfl) h1
  obtain ⟨a2, rfl, rfl, rfl, w2⟩ := open_int Try.underlying3 (hval 2 3 v2 rfl rfl) h2
  obtain ⟨a3, rfl, rfl, rfl, w3⟩ := open_int Try.underlying3 (hval 3 3 v3 rfl rfl) h3
  clear hA0 hval0
  simp only [List.append_nil] at hW'
  refine (walk a0 a1 a2 a3 w0 w1 w2 w3 W).mono fun e W' ⟨he, hg⟩ => ?_
  subst he
  exact ⟨_, rfl, post_of_same (pa := []) (pv := []) hW' (fun _ _ _ => (trodAll_cons_mk (shut_bool Try.underlying4 _) trodAll_mk0)) (fun sp _ => (trodAll_cons_mk (shut_int Try.underlying3 w0) (trodAll_cons_mk (shut_int Try.underlying3 w1) (trodAll_cons_mk (shut_int Try.underlying3 w2) (trodAll_cons_mk (shut_int Try.underlying3 w3) trodAll_mk0))))) (fun _ _ => rfl) rfl
    (hg.frame _) hg.2.1 (ok_one (by kernel_rfl) rfl (okWide_bool_mk Try.underlying4 _))⟩

theorem over : Rows.satMulsRow.holds Try.pinned (OpenSpec.ofChange Rows.satMulsSpec) :=
  OpenClaim.holds_of_wide 5 Try.f5 rfl rfl rfl rfl rfl rfl rfl ⟨rfl, rfl, rfl, rfl, rfl⟩ rfl rfl rfl rfl rfl (by kernel_rfl) Try.func5 (by kernel_rfl)
    (of_decide_eq_true (by kernel_rfl)) (by unfold Func.isWrapper; first | (rw [if_pos (by decide +kernel)]; kernel_rfl) | (rw [if_neg (by decide +kernel)]; exact ⟨rfl, rfl⟩))
    (fun os started H enc _ => lifted os started H enc)

/-- ████ THE STATEMENT ████ -/
theorem proved : Rows.SatMulsSaid :=
  over
#print axioms proved
end Go.Proofs.Ytchdeniiponhmaa.satMuls
