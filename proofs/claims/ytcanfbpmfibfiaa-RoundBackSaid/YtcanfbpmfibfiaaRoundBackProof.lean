/- Proved: for every input, the law RoundBack answers true at this commit, and its arguments read afterwards as before. No condition. -/
import Derived.Test.YtcanfbpmfibfiaaRows
import Derived.WalkKit
import Derived.ProofKit
import Derived.OpenShut
import Derived.Test.YtcanfbpmfibfiaaAll
import Derived.Test.YtcanfbpmfibfiaaMath2
namespace Go.Proofs.Ytcanfbpmfibfiaa.roundBack
open Go.ChangeShapes Go.WideShapes Go.ChangeAt Go.RowKit
set_option linter.unusedVariables false      -- a walk need not use every 'w<i>' (that an integer argument fits its kind)

theorem own : ownKnob Try.prog.godebug = none := by kernel_rfl

theorem law_core (a0 a1 a2 a3 S T M A B : Int) (hS : (a1.tmod 31 + 31) % 31 = S) (hT : (a2.tmod 31 + 31) % 31 = T) (hM : (a3.tmod 3 + 3) % 3 = M)
    (t1 : -30 ≤ a1.tmod 31 ∧ a1.tmod 31 ≤ 30) (t2 : -30 ≤ a2.tmod 31 ∧ a2.tmod 31 ≤ 30) (t3 : -2 ≤ a3.tmod 3 ∧ a3.tmod 3 ≤ 2)
    (HA : Hid (∀ W, Calls Try.prog 7 #[.int .i64 a0, .int .i64 S, .int .i64 0] W fun e w' => e = .returned (.tuple #[.int .i64 A, .int .i64 0]) ∧ Gr W w'))
    (HB : Hid (∀ W, Calls Try.prog 7 #[.int .i64 A, .int .i64 T, .int .i64 0] W fun e w' => e = .returned (.tuple #[.int .i64 B, .int .i64 0]) ∧ Gr W w'))
    (HC : Hid (∀ W, Calls Try.prog 7 #[.int .i64 a0, .int .i64 (S + T), .int .i64 0] W fun e w' => e = .returned (.tuple #[.int .i64 B, .int .i64 0]) ∧ Gr W w'))
    (HU : (∃ E : Int, Hid ((E == 0) = false ∧ ∀ W, Calls Try.prog 10 #[.int .i64 a0, .int .i64 a1] W fun e w' => e = .returned (.tuple #[.int .i64 0, .int .i64 E]) ∧ w' = W)) ∨
      (∃ N : Int, Hid ((∀ W, Calls Try.prog 10 #[.int .i64 a0, .int .i64 a1] W fun e w' => e = .returned (.tuple #[.int .i64 N, .int .i64 0]) ∧ w' = W) ∧
        ∀ W, Calls Try.prog 7 #[.int .i64 N, .int .i64 a1, .int .i64 M] W fun e w' => e = .returned (.tuple #[.int .i64 a0, .int .i64 0]) ∧ Gr W w')))
    (w : World) :
    Calls Try.prog 6 #[.int .i64 a0, .int .i64 a1, .int .i64 a2, .int .i64 a3] w fun e w' => e = .returned (.bool true) ∧ Gr w w' := by
  obtain ⟨t10, t11⟩ := t1
  obtain ⟨t20, t21⟩ := t2
  obtain ⟨t30, t31⟩ := t3
  have S0 : 0 ≤ S := by omega
  have S1 : S ≤ 30 := by omega
  have T0 : 0 ≤ T := by omega
  have T1 : T ≤ 30 := by omega
  rcases HU with ⟨E, HU⟩ | ⟨N, HU⟩
  · have hE := HU.out.1
    go_enter Try.func6, Try.ntmps6
    go_wp2_with (first
      | (go_at_call 10; refine (HU.out.2 _).mono ?_; rintro e w1 ⟨rfl, rfl⟩)
      | (go_at_call 7; with_reducible refine (HA.out _).mono ?_; rintro e w2 ⟨rfl, hg2⟩)
      | (go_at_call 7; with_reducible refine (HB.out _).mono ?_; rintro e w3 ⟨rfl, hg3⟩)
      | (go_at_call 7; with_reducible refine (HC.out _).mono ?_; rintro e w4 ⟨rfl, hg4⟩)
      | (go_at_call 8; refine (alive_c _).mono ?_; rintro e w5 ⟨rfl, hg5⟩))
    go_ret
    exact ⟨rfl, ((hg2.trans hg3).trans hg4).trans hg5⟩
  · go_enter Try.func6, Try.ntmps6
    go_wp2_with (first
      | (go_at_call 10; refine (HU.out.1 _).mono ?_; rintro e w1 ⟨rfl, rfl⟩)
      | (go_at_call 7; with_reducible refine (HU.out.2 _).mono ?_; rintro e w6 ⟨rfl, hg6⟩)
      | (go_at_call 7; with_reducible refine (HA.out _).mono ?_; rintro e w2 ⟨rfl, hg2⟩)
      | (go_at_call 7; with_reducible refine (HB.out _).mono ?_; rintro e w3 ⟨rfl, hg3⟩)
      | (go_at_call 7; with_reducible refine (HC.out _).mono ?_; rintro e w4 ⟨rfl, hg4⟩)
      | (go_at_call 8; refine (alive_c _).mono ?_; rintro e w5 ⟨rfl, hg5⟩))
    go_ret
    exact ⟨rfl, (((hg6.trans hg2).trans hg3).trans hg4).trans hg5⟩

/-! ### STEP 1: THE WALK: the Go text returns true. 'Grown w w'': the world has at most new blocks (Derived/RowKit3.lean). Part the cases AHEAD of 'go_enter' where a test parts the walk; take each callee by a contract of your own. -/
set_option maxHeartbeats 4000000 in
theorem walk (a0 : Int) (a1 : Int) (a2 : Int) (a3 : Int) (w0 : (Lit.int .i64 a0).wf = true) (w1 : (Lit.int .i64 a1).wf = true) (w2 : (Lit.int .i64 a2).wf = true) (w3 : (Lit.int .i64 a3).wf = true) (w : World) :
    Calls Try.prog 6 #[.int .i64 a0, .int .i64 a1, .int .i64 a2, .int .i64 a3] w fun e w' => e = .returned (.bool true) ∧ Grown w w' := by
  have WX := bounds_i64 w0
  have t1 := tmod31_bd a1
  have t2 := tmod31_bd a2
  have t3 := tmod3_bd a3
  obtain ⟨S, hS⟩ : ∃ S, (a1.tmod 31 + 31) % 31 = S := ⟨_, rfl⟩
  obtain ⟨T, hT⟩ : ∃ T, (a2.tmod 31 + 31) % 31 = T := ⟨_, rfl⟩
  obtain ⟨M, hM⟩ : ∃ M, (a3.tmod 3 + 3) % 3 = M := ⟨_, rfl⟩
  have hm : M = 0 ∨ M = 1 ∨ M = 2 := by omega
  obtain ⟨A, hA⟩ : ∃ A, rnd a0 S.toNat 0 = A := ⟨_, rfl⟩
  obtain ⟨B, hB⟩ : ∃ B, rnd A T.toNat 0 = B := ⟨_, rfl⟩
  have bA := rnd_bd a0 S.toNat 0 WX.1 WX.2
  rw [hA] at bA
  have hC : rnd a0 (S + T).toNat 0 = B := by
    rw [← hB, ← hA, rnd_two, show (S + T).toNat = S.toNat + T.toNat by omega]
  have HA := Lib.hid fun W => (shift_ok a0 S 0 WX (by omega) (by omega) (by omega) (by omega) W).mono fun e w' ⟨he, hg⟩ =>
    (⟨by rw [he, hA], hg⟩ : e = Ending.returned (.tuple #[.int .i64 A, .int .i64 0]) ∧ Gr W w')
  have HB := Lib.hid fun W => (shift_ok A T 0 bA (by omega) (by omega) (by omega) (by omega) W).mono fun e w' ⟨he, hg⟩ =>
    (⟨by rw [he, hB], hg⟩ : e = Ending.returned (.tuple #[.int .i64 B, .int .i64 0]) ∧ Gr W w')
  have HC := Lib.hid fun W => (shift_ok a0 (S + T) 0 WX (by omega) (by omega) (by omega) (by omega) W).mono fun e w' ⟨he, hg⟩ =>
    (⟨by rw [he, hC], hg⟩ : e = Ending.returned (.tuple #[.int .i64 B, .int .i64 0]) ∧ Gr W w')
  refine (law_core a0 a1 a2 a3 S T M A B hS hT hM t1 t2 t3 HA HB HC ?_ w).mono fun e w' ⟨he, hg⟩ => ⟨he, hg.out⟩
  by_cases hs : a1 < 0 ∨ 62 < a1
  · exact Or.inl ⟨1, Lib.hid ⟨rfl, up_bad a0 a1 hs⟩⟩
  · by_cases hr : a0 < -(2 ^ (62 - a1).toNat) ∨ 2 ^ (62 - a1).toNat < a0
    · exact Or.inl ⟨2, Lib.hid ⟨rfl, up_range a0 a1 (by omega) (by omega) hr⟩⟩
    · have hx : -(2 ^ (62 - a1).toNat) ≤ a0 ∧ a0 ≤ 2 ^ (62 - a1).toNat := by omega
      have hp := up_prod a0 a1 (by omega) (by omega) hx.1 hx.2
      refine Or.inr ⟨a0 * 2 ^ a1.toNat, Lib.hid ⟨up_ok a0 a1 (by omega) (by omega) hx.1 hx.2, fun W => ?_⟩⟩
      exact (shift_ok (a0 * 2 ^ a1.toNat) a1 M (by omega) (by omega) (by omega) (by omega) (by omega) W).mono fun e w' ⟨he, hg⟩ =>
        ⟨by rw [he, rnd_mul _ _ _ hm], hg⟩

/-! ### THE ROW's STEP: WRITTEN OUT: LEAVE IT -/
set_option maxRecDepth 100000 in
theorem lifted (os : Os) (started : os.Started) (H : Type) (enc : TypeId × Value → H) :
    ReturnsInHanded {} Try.checked os 6 .any (Rows.roundBackSpec.pre6 enc Try.prog Try.f6 Rows.roundBackRow.domain false) (Rows.roundBackSpec.post enc Try.prog Try.f6 false true false false) := by
  refine returnsInHanded_of_change (C := Try.checked) own started (by kernel_rfl) Try.func6
    (ChangeSpec.witness6 (enc := enc) (C := Try.checked) false ⟨#[], #[.int .i64 0, .int .i64 0, .int .i64 0, .int .i64 0], []⟩ 8 (by kernel_rfl) (by kernel_rfl) (by kernel_rfl) (by kernel_rfl)) ?_
  intro W base args ds gs before hval0 hW hcnd _
  have hval : ∀ (j : Nat) t v, Try.f6.params[j]? = some t → args[j]? = some v → Value.okWide Try.prog W .any base t v := hval0
  have hW' := hW
  obtain ⟨p, q, hA0, hV, rfl, hfz, hnd⟩ := hW
  have hA : DataW.TrodAll enc Try.prog W 0 (fun _ => true) true Try.f6.params.toList args.toList ds p := hA0
  rw [Try.params6] at hA hval
  obtain ⟨v0, vs0, d0, ds0, p0, q0, hargs, rfl, rfl, h0, r0⟩ := trodAll_cons hA
  obtain ⟨v1, vs1, d1, ds1, p1, q1, rfl, rfl, rfl, h1, r1⟩ := trodAll_cons r0
  obtain ⟨v2, vs2, d2, ds2, p2, q2, rfl, rfl, rfl, h2, r2⟩ := trodAll_cons r1
  obtain ⟨v3, vs3, d3, ds3, p3, q3, rfl, rfl, rfl, h3, r3⟩ := trodAll_cons r2
  obtain ⟨rfl, rfl, rfl⟩ := trodAll_nil r3
  obtain rfl : args = #[v0, v1, v2, v3] := by cases args; simp_all
  obtain ⟨rfl, rfl⟩ := trodVars_none hV
  obtain ⟨a0, rfl, rfl, rfl, w0⟩ := open_int Try.underlying3 (hval 0 3 v0 rfl rfl) h0
  obtain ⟨a1, rfl, rfl, rfl, w1⟩ := open_int Try.underlying3 (hval 1 3 v1 rfl rfl) h1
  obtain ⟨a2, rfl, rfl, rfl, w2⟩ := open_int Try.underlying3 (hval 2 3 v2 rfl rfl) h2
  obtain ⟨a3, rfl, rfl, rfl, w3⟩ := open_int Try.underlying3 (hval 3 3 v3 rfl rfl) h3
  clear hA0 hval0
  simp only [List.append_nil] at hW'
  refine (walk a0 a1 a2 a3 w0 w1 w2 w3 W).mono fun e W' ⟨he, hg⟩ => ?_
  subst he
  exact ⟨_, rfl, post_of_same (pa := []) (pv := []) hW' (fun _ _ _ => (trodAll_cons_mk (shut_bool Try.underlying4 _) trodAll_mk0)) (fun sp _ => (trodAll_cons_mk (shut_int Try.underlying3 w0) (trodAll_cons_mk (shut_int Try.underlying3 w1) (trodAll_cons_mk (shut_int Try.underlying3 w2) (trodAll_cons_mk (shut_int Try.underlying3 w3) trodAll_mk0))))) (fun _ _ => rfl) rfl
    (hg.frame _) hg.2.1 (ok_one (by kernel_rfl) rfl (okWide_bool_mk Try.underlying4 _))⟩

theorem over : Rows.roundBackRow.holds Try.pinned (OpenSpec.ofChange Rows.roundBackSpec) :=
  OpenClaim.holds_of_wide 6 Try.f6 rfl rfl rfl rfl rfl rfl rfl ⟨rfl, rfl, rfl, rfl, rfl⟩ rfl rfl rfl rfl rfl (by kernel_rfl) Try.func6 (by kernel_rfl)
    (of_decide_eq_true (by kernel_rfl)) (by unfold Func.isWrapper; first | (rw [if_pos (by decide +kernel)]; kernel_rfl) | (rw [if_neg (by decide +kernel)]; exact ⟨rfl, rfl⟩))
    (fun os started H enc _ => lifted os started H enc)

/-- ████ THE STATEMENT ████ -/
theorem proved : Rows.RoundBackSaid :=
  over
#print axioms proved
end Go.Proofs.Ytcanfbpmfibfiaa.roundBack
