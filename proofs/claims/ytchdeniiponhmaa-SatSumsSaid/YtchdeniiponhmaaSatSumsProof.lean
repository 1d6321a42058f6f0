/- Proved: for every input, the law SatSums answers true at this commit, and its arguments read afterwards as before. No condition. -/
import Derived.Test.YtchdeniiponhmaaRows
import Derived.WalkKit
import Derived.ProofKit
import Derived.OpenShut
import Derived.Test.YtchdeniiponhmaaSat3
import Derived.Test.YtchdeniiponhmaaRef02
namespace Go.Proofs.Ytchdeniiponhmaa.satSums
open Go.ChangeShapes Go.WideShapes Go.ChangeAt Go.RowKit
set_option linter.unusedVariables false      -- a walk need not use every 'w<i>' (that an integer argument fits its kind)

theorem own : ownKnob Try.prog.godebug = none := by kernel_rfl

theorem law_core (a0 a1 a2 x1 e1 x2 e2 x3 e3 : Int) (q1 q2 q3 : Bool)
    (C1 : Hid (∀ W, Calls Try.prog 13 #[.int .i64 a0, .int .i64 a1, .int .i64 a2] W fun E w' => E = .returned (.tuple #[.int .i64 x1, .bool q1, .int .i64 e1]) ∧ Gr W w'))
    (C2 : Hid (∀ W, Calls Try.prog 14 #[.int .i64 a0, .int .i64 a1, .int .i64 a2] W fun E w' => E = .returned (.tuple #[.int .i64 x2, .bool q2, .int .i64 e2]) ∧ Gr W w'))
    (C3 : Hid (∀ W, Calls Try.prog 15 #[.int .i64 a0, .int .i64 a2] W fun E w' => E = .returned (.tuple #[.int .i64 x3, .bool q3, .int .i64 e3]) ∧ Gr W w'))
    (R1 : Hid (∀ W, Calls Try.prog 16 #[.int .i64 a0, .int .i64 a1, .int .i64 a2, .int .i64 0, .int .i64 0] W fun E w' => E = .returned (.agg #[.int .i64 x1, .bool q1, .int .i64 e1]) ∧ Gr W w'))
    (R2 : Hid (∀ W, Calls Try.prog 16 #[.int .i64 a0, .int .i64 a1, .int .i64 a2, .int .i64 0, .int .i64 1] W fun E w' => E = .returned (.agg #[.int .i64 x2, .bool q2, .int .i64 e2]) ∧ Gr W w'))
    (R3 : Hid (∀ W, Calls Try.prog 16 #[.int .i64 0, .int .i64 a0, .int .i64 a2, .int .i64 0, .int .i64 1] W fun E w' => E = .returned (.agg #[.int .i64 x3, .bool q3, .int .i64 e3]) ∧ Gr W w'))
    (w : World) :
    Calls Try.prog 4 #[.int .i64 a0, .int .i64 a1, .int .i64 a2] w fun e w' => e = .returned (.bool true) ∧ Gr w w' := by
  go_enter Try.func4, Try.ntmps4
  go_wp2_with fail
  refine (C1.out _).mono ?_
  rintro E v1 ⟨rfl, k1⟩
  go_wp2_with fail
  refine (C2.out _).mono ?_
  rintro E v2 ⟨rfl, k2⟩
  go_wp2_with fail
  refine (C3.out _).mono ?_
  rintro E v3 ⟨rfl, k3⟩
  go_wp2_with fail
  refine (R1.out _).mono ?_
  rintro E w1 ⟨rfl, g1⟩
  go_wp2_with fail
  refine (R2.out _).mono ?_
  rintro E w2 ⟨rfl, g2⟩
  go_wp2_with fail
  refine (R3.out _).mono ?_
  rintro E w3 ⟨rfl, g3⟩
  have z2 : w2.heap.size + 2 ≤ w3.heap.size := by have := g3.size; simpa using this
  have s0 : w3.cell? ⟨w2.heap.size, 0, none⟩ = some (.int .i64 x1) := (g3.cell (p := ⟨w2.heap.size, 0, none⟩) (by simp; omega)).trans (by go_simp)
  have s1 : w3.cell? ⟨w2.heap.size, 1, none⟩ = some (.bool q1) := (g3.cell (p := ⟨w2.heap.size, 1, none⟩) (by simp; omega)).trans (by go_simp)
  have s2 : w3.cell? ⟨w2.heap.size, 2, none⟩ = some (.int .i64 e1) := (g3.cell (p := ⟨w2.heap.size, 2, none⟩) (by simp; omega)).trans (by go_simp)
  have t0 : w3.cell? ⟨w2.heap.size + 1, 0, none⟩ = some (.int .i64 x2) := (g3.cell (p := ⟨w2.heap.size + 1, 0, none⟩) (by simp)).trans (by go_simp)
  have t1 : w3.cell? ⟨w2.heap.size + 1, 1, none⟩ = some (.bool q2) := (g3.cell (p := ⟨w2.heap.size + 1, 1, none⟩) (by simp)).trans (by go_simp)
  have t2 : w3.cell? ⟨w2.heap.size + 1, 2, none⟩ = some (.int .i64 e2) := (g3.cell (p := ⟨w2.heap.size + 1, 2, none⟩) (by simp)).trans (by go_simp)
  go_wp2_with fail
  refine (alive02_c _).mono ?_
  rintro E w4 ⟨rfl, g4⟩
  have u0 : w4.cell? ⟨w3.heap.size, 0, none⟩ = some (.int .i64 x3) := (g4.cell (p := ⟨w3.heap.size, 0, none⟩) (by simp)).trans (by go_simp)
  have u1 : w4.cell? ⟨w3.heap.size, 1, none⟩ = some (.bool q3) := (g4.cell (p := ⟨w3.heap.size, 1, none⟩) (by simp)).trans (by go_simp)
  have u2 : w4.cell? ⟨w3.heap.size, 2, none⟩ = some (.int .i64 e3) := (g4.cell (p := ⟨w3.heap.size, 2, none⟩) (by simp)).trans (by go_simp)
  have s'0 := ((Gr.trans ((Gr.refl _).alloc _ _) g4).cell (p := ⟨w2.heap.size, 0, none⟩) (by simp; omega)).trans s0
  have s'1 := ((Gr.trans ((Gr.refl _).alloc _ _) g4).cell (p := ⟨w2.heap.size, 1, none⟩) (by simp; omega)).trans s1
  have s'2 := ((Gr.trans ((Gr.refl _).alloc _ _) g4).cell (p := ⟨w2.heap.size, 2, none⟩) (by simp; omega)).trans s2
  have t'0 := ((Gr.trans ((Gr.refl _).alloc _ _) g4).cell (p := ⟨w2.heap.size + 1, 0, none⟩) (by simp; omega)).trans t0
  have t'1 := ((Gr.trans ((Gr.refl _).alloc _ _) g4).cell (p := ⟨w2.heap.size + 1, 1, none⟩) (by simp; omega)).trans t1
  have t'2 := ((Gr.trans ((Gr.refl _).alloc _ _) g4).cell (p := ⟨w2.heap.size + 1, 2, none⟩) (by simp; omega)).trans t2
  clear s0 s1 s2 t0 t1 t2
  go_wp2
  go_ret
  exact ⟨by simp, (((((k1.trans k2).trans k3).trans g1).trans g2).trans ((((Gr.refl _).alloc _ _).alloc _ _).trans g3)).trans (((Gr.refl _).alloc _ _).trans g4)⟩

/-! ### STEP 1: THE WALK: the Go text returns true. 'Grown w w'': the world has at most new blocks (Derived/RowKit3.lean). Part the cases AHEAD of 'go_enter' where a test parts the walk; take each callee by a contract of your own. -/
set_option maxHeartbeats 4000000 in
theorem walk (a0 : Int) (a1 : Int) (a2 : Int) (w0 : (Lit.int .i64 a0).wf = true) (w1 : (Lit.int .i64 a1).wf = true) (w2 : (Lit.int .i64 a2).wf = true) (w : World) :
    Calls Try.prog 4 #[.int .i64 a0, .int .i64 a1, .int .i64 a2] w fun e w' => e = .returned (.bool true) ∧ Grown w w' := by
  by_cases hf : a2 < 0 ∨ 1 < a2
  · exact (law_core a0 a1 a2 0 1 0 1 0 1 false false false (Lib.hid (add_bad a2 a0 a1 hf)) (Lib.hid (sub_bad a2 a0 a1 hf)) (Lib.hid (neg_bad a2 a0 hf)) (Lib.hid (two_bad a0 a1 a2 0 0 (.inl hf))) (Lib.hid (two_bad a0 a1 a2 0 1 (.inl hf))) (Lib.hid (two_bad 0 a0 a2 0 1 (.inl hf))) w).mono fun e w' ⟨he, hg⟩ => ⟨he, hg.out⟩
  · obtain ⟨b, p, H⟩ := FB.of (f := a2) (by omega) (by omega)
    have hp := H.pos
    by_cases h0 : -p ≤ a0 ∧ a0 < p
    · have N := Lib.hid (neg_c a2 b p a0 H h0.1 h0.2)
      have N2 := Lib.hid (two_diff 0 a0 a2 b p 0 H (by omega) (by omega) (by omega) (by omega) h0.1 h0.2)
      by_cases hr : -p ≤ a1 ∧ a1 < p
      · exact (law_core a0 a1 a2 _ 0 _ 0 _ 0 _ _ _ (Lib.hid (add_c a2 b p a0 a1 H h0.1 h0.2 hr.1 hr.2)) (Lib.hid (sub_c a2 b p a0 a1 H h0.1 h0.2 hr.1 hr.2)) N
          (Lib.hid (two_sum a0 a1 a2 b p 0 H (by omega) (by omega) h0.1 h0.2 hr.1 hr.2)) (Lib.hid (two_diff a0 a1 a2 b p 0 H (by omega) (by omega) h0.1 h0.2 hr.1 hr.2)) N2 w).mono fun e w' ⟨he, hg⟩ => ⟨he, hg.out⟩
      · have hn : ¬ ((-p ≤ a0 ∧ a0 < p) ∧ -p ≤ a1 ∧ a1 < p) := fun h => hr h.2
        exact (law_core a0 a1 a2 0 2 0 2 _ 0 false false _ (Lib.hid (add_range a2 b p a0 a1 H hn)) (Lib.hid (sub_range a2 b p a0 a1 H hn)) N
          (Lib.hid (two_range a0 a1 a2 b p 0 0 H (by omega) (by omega) hn)) (Lib.hid (two_range a0 a1 a2 b p 0 1 H (by omega) (by omega) hn)) N2 w).mono fun e w' ⟨he, hg⟩ => ⟨he, hg.out⟩
    · have hn : ¬ ((-p ≤ a0 ∧ a0 < p) ∧ -p ≤ a1 ∧ a1 < p) := fun h => h0 h.1
      have hn2 : ¬ ((-p ≤ (0 : Int) ∧ 0 < p) ∧ -p ≤ a0 ∧ a0 < p) := fun h => h0 h.2
      exact (law_core a0 a1 a2 0 2 0 2 0 2 false false false (Lib.hid (add_range a2 b p a0 a1 H hn)) (Lib.hid (sub_range a2 b p a0 a1 H hn)) (Lib.hid (neg_range a2 b p a0 H (by omega)))
          (Lib.hid (two_range a0 a1 a2 b p 0 0 H (by omega) (by omega) hn)) (Lib.hid (two_range a0 a1 a2 b p 0 1 H (by omega) (by omega) hn)) (Lib.hid (two_range 0 a0 a2 b p 0 1 H (by omega) (by omega) hn2)) w).mono fun e w' ⟨he, hg⟩ => ⟨he, hg.out⟩

/-! ### THE ROW's STEP: WRITTEN OUT: LEAVE IT -/
set_option maxRecDepth 100000 in
theorem lifted (os : Os) (started : os.Started) (H : Type) (enc : TypeId × Value → H) :
    ReturnsInHanded {} Try.checked os 4 .any (Rows.satSumsSpec.pre6 enc Try.prog Try.f4 Rows.satSumsRow.domain false) (Rows.satSumsSpec.post enc Try.prog Try.f4 false true false false) := by
  refine returnsInHanded_of_change (C := Try.checked) own started (by kernel_rfl) Try.func4
    (ChangeSpec.witness6 (enc := enc) (C := Try.checked) false ⟨#[], #[.int .i64 0, .int .i64 0, .int .i64 0], []⟩ 8 (by kernel_rfl) (by kernel_rfl) (by kernel_rfl) (by kernel_rfl)) ?_
  intro W base args ds gs before hval0 hW hcnd _
  have hval : ∀ (j : Nat) t v, Try.f4.params[j]? = some t → args[j]? = some v → Value.okWide Try.prog W .any base t v := hval0
  have hW' := hW
  obtain ⟨p, q, hA0, hV, rfl, hfz, hnd⟩ := hW
  have hA : DataW.TrodAll enc Try.prog W 0 (fun _ => true) true Try.f4.params.toList args.toList ds p := hA0
  rw [Try.params4] at hA hval
  obtain ⟨v0, vs0, d0, ds0, p0, q0, hargs, rfl, rfl, h0, r0⟩ := trodAll_cons hA
  obtain ⟨v1, vs1, d1, ds1, p1, q1, rfl, rfl, rfl, h1, r1⟩ := trodAll_cons r0
  obtain ⟨v2, vs2, d2, ds2, p2, q2, rfl, rfl, rfl, h2, r2⟩ := trodAll_cons r1
  obtain ⟨rfl, rfl, rfl⟩ := trodAll_nil r2
  obtain rfl : args = #[v0, v1, v2] := by cases args; simp_all
  obtain ⟨rfl, rfl⟩ := trodVars_none hV
  obtain ⟨a0, rfl, rfl, rfl, w0⟩ := open_int Try.underlying3 (hval 0 3 v0 rfl rfl) h0
  obtain ⟨a1, rfl, rfl, rfl, w1⟩ := open_int Try.underlying3 (hval 1 3 v1 rfl rfl) h1
  obtain ⟨a2, rfl, rfl, rfl, w2⟩ := open_int Try.underlying3 (hval 2 3 v2 rfl rfl) h2
  clear hA0 hval0
  simp only [List.append_nil] at hW'
  refine (walk a0 a1 a2 w0 w1 w2 W).mono fun e W' ⟨he, hg⟩ => ?_
  subst he
  exact ⟨_, rfl, post_of_same (pa := []) (pv := []) hW' (fun _ _ _ => (trodAll_cons_mk (shut_bool Try.underlying4 _) trodAll_mk0)) (fun sp _ => (trodAll_cons_mk (shut_int Try.underlying3 w0) (trodAll_cons_mk (shut_int Try.underlying3 w1) (trodAll_cons_mk (shut_int Try.underlying3 w2) trodAll_mk0)))) (fun _ _ => rfl) rfl
    (hg.frame _) hg.2.1 (ok_one (by kernel_rfl) rfl (okWide_bool_mk Try.underlying4 _))⟩

theorem over : Rows.satSumsRow.holds Try.pinned (OpenSpec.ofChange Rows.satSumsSpec) :=
  OpenClaim.holds_of_wide 4 Try.f4 rfl rfl rfl rfl rfl rfl rfl ⟨rfl, rfl, rfl, rfl, rfl⟩ rfl rfl rfl rfl rfl (by kernel_rfl) Try.func4 (by kernel_rfl)
    (of_decide_eq_true (by kernel_rfl)) (by unfold Func.isWrapper; first | (rw [if_pos (by decide +kernel)]; kernel_rfl) | (rw [if_neg (by decide +kernel)]; exact ⟨rfl, rfl⟩))
    (fun os started H enc _ => lifted os started H enc)

/-- ████ THE STATEMENT ████ -/
theorem proved : Rows.SatSumsSaid :=
  over
#print axioms proved
end Go.Proofs.Ytchdeniiponhmaa.satSums
