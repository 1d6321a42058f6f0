/- Proved: for every input, the law RootsTables answers true at this commit, and its arguments read afterwards as before. No condition. -/
import Derived.Test.YtkbnhoapfjkajaaRows
import Derived.WalkKit
import Derived.ProofKit
import Derived.OpenShut
import Derived.Lib.SmallJoins
import Derived.Test.YtkbnhoapfjkajaaLaw07
import Derived.Test.YtkbnhoapfjkajaaRootsTablesCore
namespace Go.Proofs.Ytkbnhoapfjkajaa.rootsTables
open Go.ChangeShapes Go.WideShapes Go.ChangeAt Go.RowKit Go.Joins
set_option linter.unusedVariables false

theorem own : ownKnob Try.prog.godebug = none := by kernel_rfl



set_option maxHeartbeats 4000000 in
set_option maxRecDepth 100000 in
theorem walk (a0 : Int) (a1 : Int) (a2 : Int) (w0 : (Lit.int .i64 a0).wf = true) (w1 : (Lit.int .i64 a1).wf = true) (w2 : (Lit.int .i64 a2).wf = true) (w : World) :
    Calls Try.prog 4 #[.int .i64 a0, .int .i64 a1, .int .i64 a2] w fun e w' => e = .returned (.bool true) ∧ Gr w w' := by
  have HF : (∃ b p, FB a2 b p) ∨ (a2 < 0 ∨ 1 < a2) := by
    rcases (by omega : a2 = 0 ∨ a2 = 1 ∨ a2 < 0 ∨ 1 < a2) with h | h | h
    · exact .inl ⟨_, _, .inl ⟨h, rfl, rfl⟩⟩
    · exact .inl ⟨_, _, .inr ⟨h, rfl, rfl⟩⟩
    · exact .inr h
  by_cases h : 2 ≤ a0 ∧ a0 ≤ 6
  · by_cases hb : 0 ≤ a1 ∧ a1 ≤ 40
    · rcases HF with ⟨b, p, H⟩ | hf
      · have hbb : 15 ≤ b ∧ b ≤ 31 := by rcases H with ⟨_, rfl, _⟩ | ⟨_, rfl, _⟩ <;> omega
        exact rtables_tt a0 a1 a2 (b - 2) _ _ (Lib.hid (rTable_ok a0 _ a1 h.1 h.2 rfl hb.1 hb.2)) (Lib.hid (rTwiddles_ok a0 _ a2 b p h.1 h.2 rfl H)) (Lib.hid (may07_yes a0 a1 h.1 h.2 hb.1 hb.2)) (Lib.hid (table07_c a0 _ a1 h.1 h.2 rfl hb.1 hb.2)) (Lib.hid (log07_yes a0 h.1 h.2)) (Lib.hid (rfmt_yes a2 b p H)) (Lib.hid (bits07_c a2 b p H)) (Lib.hid (table07_c a0 _ (b - 2) h.1 h.2 rfl (by omega) (by omega))) (Lib.hid alive07_c) w
      · exact rtables_tf a0 a1 a2 0 _ [] (Lib.hid (rTable_ok a0 _ a1 h.1 h.2 rfl hb.1 hb.2)) (Lib.hid (rTwiddles_fmt a0 a2 hf)) (Lib.hid (may07_yes a0 a1 h.1 h.2 hb.1 hb.2)) (Lib.hid (table07_c a0 _ a1 h.1 h.2 rfl hb.1 hb.2)) true false rfl (Lib.hid (log07_yes a0 h.1 h.2)) (Lib.hid (rfmt_no a2 hf)) (Lib.hid alive07_c) w
    · rcases HF with ⟨b, p, H⟩ | hf
      · have hbb : 15 ≤ b ∧ b ≤ 31 := by rcases H with ⟨_, rfl, _⟩ | ⟨_, rfl, _⟩ <;> omega
        exact rtables_ft a0 a1 a2 (b - 2) [] _ (Lib.hid (rTable_bad a0 a1 (by omega))) (Lib.hid (rTwiddles_ok a0 _ a2 b p h.1 h.2 rfl H)) (Lib.hid (may07_no a0 a1 (by omega))) (Lib.hid (log07_yes a0 h.1 h.2)) (Lib.hid (rfmt_yes a2 b p H)) (Lib.hid (bits07_c a2 b p H)) (Lib.hid (table07_c a0 _ (b - 2) h.1 h.2 rfl (by omega) (by omega))) (Lib.hid alive07_c) w
      · exact rtables_ff a0 a1 a2 0 [] [] (Lib.hid (rTable_bad a0 a1 (by omega))) (Lib.hid (rTwiddles_fmt a0 a2 hf)) (Lib.hid (may07_no a0 a1 (by omega))) true false rfl (Lib.hid (log07_yes a0 h.1 h.2)) (Lib.hid (rfmt_no a2 hf)) (Lib.hid alive07_c) w
  · rcases HF with ⟨b, p, H⟩ | hf
    · exact rtables_ff a0 a1 a2 0 [] [] (Lib.hid (rTable_bad a0 a1 (by omega))) (Lib.hid (rTwiddles_log a0 a2 b p (by omega) H)) (Lib.hid (may07_no a0 a1 (by omega))) false true rfl (Lib.hid (log07_no a0 (by omega))) (Lib.hid (rfmt_yes a2 b p H)) (Lib.hid alive07_c) w
    · exact rtables_ff a0 a1 a2 0 [] [] (Lib.hid (rTable_bad a0 a1 (by omega))) (Lib.hid (rTwiddles_fmt a0 a2 hf)) (Lib.hid (may07_no a0 a1 (by omega))) false false rfl (Lib.hid (log07_no a0 (by omega))) (Lib.hid (rfmt_no a2 hf)) (Lib.hid alive07_c) w

set_option maxHeartbeats 4000000 in
set_option maxRecDepth 100000 in
theorem lifted (os : Os) (started : os.Started) (H : Type) (enc : TypeId × Value → H) :
    ReturnsInHanded {} Try.checked os 4 .any (Rows.rootsTablesSpec.pre6 enc Try.prog Try.f4 Rows.rootsTablesRow.domain false) (Rows.rootsTablesSpec.post enc Try.prog Try.f4 false true false false) := by
  refine returnsInHanded_of_change (C := Try.checked) own started (by kernel_rfl) Try.func4
    (ChangeSpec.witness6 (enc := enc) (C := Try.checked) false ⟨#[], #[.int .i64 0, .int .i64 0, .int .i64 0], []⟩ 8 (by kernel_rfl) (by kernel_rfl) (by kernel_rfl) (by kernel_rfl)) ?_
  intro W base args ds gs before hval0 hW hcnd _
  have hval : ∀ (j : Nat) t v, Try.f4.params[j]? = some t → args[j]? = some v → Value.okWide Try.prog W .any base t v := hval0
  have hW' := hW
  obtain ⟨p, q, hA0, hV, rfl, hfz, hnd⟩ := hW
  have hA : DataW.TrodAll enc Try.prog W 0 (fun _ => true) true Try.f4.params.toList args.toList ds p := hA0
  rw [Try.params4] at hA hval
  obtain ⟨v0, vs0, d0, ds0, p0, q0, hargs, rfl, rfl, h0, r0⟩ := trodAll_cons hA
  obtain ⟨v1, vs1, d1, ds1, p1, q1, rfl, rfl, rfl, h1, r1⟩ := trodAll_cons r0
  obtain ⟨v2, vs2, d2, ds2, p2, q2, rfl, rfl, rfl, h2, r2⟩ := trodAll_cons r1
  obtain ⟨rfl, rfl, rfl⟩ := trodAll_nil r2
  obtain rfl : args = #[v0, v1, v2] := by cases args; simp_all
  obtain ⟨rfl, rfl⟩ := trodVars_none hV
  obtain ⟨a0, rfl, rfl, rfl, w0⟩ := open_int Try.underlying3 (hval 0 3 v0 rfl rfl) h0
  obtain ⟨a1, rfl, rfl, rfl, w1⟩ := open_int Try.underlying3 (hval 1 3 v1 rfl rfl) h1
  obtain ⟨a2, rfl, rfl, rfl, w2⟩ := open_int Try.underlying3 (hval 2 3 v2 rfl rfl) h2
  clear hA0 hval0
  simp only [List.append_nil] at hW'
  refine (walk a0 a1 a2 w0 w1 w2 W).mono fun e W' ⟨he, hg⟩ => ?_
  subst he
  exact ⟨_, rfl, post_gr (pa := []) (pv := []) hW' (fun _ _ _ => (trodAll_cons_mk (shut_bool Try.underlying4 _) trodAll_mk0)) (fun sp _ => (trodAll_cons_mk (shut_int Try.underlying3 w0) (trodAll_cons_mk (shut_int Try.underlying3 w1) (trodAll_cons_mk (shut_int Try.underlying3 w2) trodAll_mk0)))) (fun _ _ => rfl) rfl hg⟩

theorem over : Rows.rootsTablesRow.holds Try.pinned (OpenSpec.ofChange Rows.rootsTablesSpec) :=
  OpenClaim.holds_of_wide 4 Try.f4 rfl rfl rfl rfl rfl rfl rfl ⟨rfl, rfl, rfl, rfl, rfl⟩ rfl rfl rfl rfl rfl (by kernel_rfl) Try.func4 (by kernel_rfl)
    (of_decide_eq_true (by kernel_rfl)) (by unfold Func.isWrapper; first | (rw [if_pos (by decide +kernel)]; kernel_rfl) | (rw [if_neg (by decide +kernel)]; exact ⟨rfl, rfl⟩))
    (fun os started H enc _ => lifted os started H enc)

/-- THE STATEMENT -/
theorem proved : Rows.RootsTablesSaid :=
  over
#print axioms proved
end Go.Proofs.Ytkbnhoapfjkajaa.rootsTables
