/- Proved: for every input, the law RoundNear answers true at this commit, and its arguments read afterwards as before. No condition. -/
import Derived.Test.YtcanfbpmfibfiaaRows
import Derived.WalkKit
import Derived.ProofKit
import Derived.OpenShut
import Derived.Test.YtcanfbpmfibfiaaAll
import Derived.Test.YtcanfbpmfibfiaaMath2
namespace Go.Proofs.Ytcanfbpmfibfiaa.roundNear
open Go.ChangeShapes Go.WideShapes Go.ChangeAt Go.RowKit
set_option linter.unusedVariables false      -- a walk need not use every 'w<i>' (that an integer argument fits its kind)

theorem own : ownKnob Try.prog.godebug = none := by kernel_rfl

set_option maxHeartbeats 4000000 in
theorem core (a0 a1 a2 a3 X Y S M A B D P : Int) (hX : a0 / 4 = X) (hY : a1 / 4 = Y) (hS : (a2.tmod 31 + 31) % 31 = S) (hM : (a3.tmod 3 + 3) % 3 = M) (hP : (2 : Int) ^ S.toNat = P)
    (x0 : -2305843009213693952 ≤ X) (x1 : X ≤ 2305843009213693951)
    (t20 : -30 ≤ a2.tmod 31) (t21 : a2.tmod 31 ≤ 30) (t30 : -2 ≤ a3.tmod 3) (t31 : a3.tmod 3 ≤ 2) (P0 : 0 < P) (P1 : P ≤ 1073741824)
    (hD : X - A * P = D) (D0 : -P < D) (D1 : D < P) (D2 : M = 0 ∨ (2 * D ≤ P ∧ -P ≤ 2 * D)) (hxy : X ≤ Y → A ≤ B) (hyx : Y ≤ X → B ≤ A)
    (HA : Hid (∀ W, Calls Try.prog 7 #[.int .i64 X, .int .i64 S, .int .i64 M] W fun e w' => e = .returned (.tuple #[.int .i64 A, .int .i64 0]) ∧ Gr W w'))
    (HB : Hid (∀ W, Calls Try.prog 7 #[.int .i64 Y, .int .i64 S, .int .i64 M] W fun e w' => e = .returned (.tuple #[.int .i64 B, .int .i64 0]) ∧ Gr W w'))
    (w : World) :
    Calls Try.prog 5 #[.int .i64 a0, .int .i64 a1, .int .i64 a2, .int .i64 a3] w fun e w' => e = .returned (.bool true) ∧ Gr w w' := by
  have S0 : 0 ≤ S := by omega
  have S1 : S ≤ 30 := by omega
  have b0 : -4611686018427387904 ≤ A * P := by omega
  have b1 : A * P ≤ 4611686018427387904 := by omega
  by_cases c1 : X ≤ Y
  · have h1 := hxy c1
    by_cases c2 : Y ≤ X
    · have h2 := hyx c2
      clear hxy hyx
      by_cases d0 : D < 0
      · by_cases m0 : (M == 0) = true
        · clear D2
          go_enter Try.func5, Try.ntmps5
          go_wp2_with fail
          refine (HA.out _).mono ?_
          rintro e w1 ⟨rfl, hg1⟩
          go_wp2_with fail
          refine (HB.out _).mono ?_
          rintro e w2 ⟨rfl, hg2⟩
          go_wp2_with (go_at_call 8; refine (alive_c _).mono ?_; rintro e w5 ⟨rfl, hg5⟩)
          go_ret
          exact ⟨rfl, (hg1.trans hg2).trans hg5⟩
        · have m0 : (M == 0) = false := by simpa using m0
          have D2 : 2 * D ≤ P ∧ -P ≤ 2 * D := by simp at m0; omega
          obtain ⟨D2, D3⟩ := D2
          have D4 : decide (2 * -D ≤ P) = true := decide_eq_true (by omega)
          go_enter Try.func5, Try.ntmps5
          go_wp2_with fail
          refine (HA.out _).mono ?_
          rintro e w1 ⟨rfl, hg1⟩
          go_wp2_with fail
          refine (HB.out _).mono ?_
          rintro e w2 ⟨rfl, hg2⟩
          go_wp2_with (go_at_call 8; refine (alive_c _).mono ?_; rintro e w5 ⟨rfl, hg5⟩)
          go_ret
          exact ⟨rfl, (hg1.trans hg2).trans hg5⟩
      · by_cases m0 : (M == 0) = true
        · clear D2
          go_enter Try.func5, Try.ntmps5
          go_wp2_with fail
          refine (HA.out _).mono ?_
          rintro e w1 ⟨rfl, hg1⟩
          go_wp2_with fail
          refine (HB.out _).mono ?_
          rintro e w2 ⟨rfl, hg2⟩
          go_wp2_with (go_at_call 8; refine (alive_c _).mono ?_; rintro e w5 ⟨rfl, hg5⟩)
          go_ret
          exact ⟨rfl, (hg1.trans hg2).trans hg5⟩
        · have m0 : (M == 0) = false := by simpa using m0
          have D2 : 2 * D ≤ P ∧ -P ≤ 2 * D := by simp at m0; omega
          obtain ⟨D2, D3⟩ := D2
          have D4 : decide (2 * -D ≤ P) = true := decide_eq_true (by omega)
          go_enter Try.func5, Try.ntmps5
          go_wp2_with fail
          refine (HA.out _).mono ?_
          rintro e w1 ⟨rfl, hg1⟩
          go_wp2_with fail
          refine (HB.out _).mono ?_
          rintro e w2 ⟨rfl, hg2⟩
          go_wp2_with (go_at_call 8; refine (alive_c _).mono ?_; rintro e w5 ⟨rfl, hg5⟩)
          go_ret
          exact ⟨rfl, (hg1.trans hg2).trans hg5⟩
    · clear hxy hyx
      by_cases d0 : D < 0
      · by_cases m0 : (M == 0) = true
        · clear D2
          go_enter Try.func5, Try.ntmps5
          go_wp2_with fail
          refine (HA.out _).mono ?_
          rintro e w1 ⟨rfl, hg1⟩
          go_wp2_with fail
          refine (HB.out _).mono ?_
          rintro e w2 ⟨rfl, hg2⟩
          go_wp2_with (go_at_call 8; refine (alive_c _).mono ?_; rintro e w5 ⟨rfl, hg5⟩)
          go_ret
          exact ⟨rfl, (hg1.trans hg2).trans hg5⟩
        · have m0 : (M == 0) = false := by simpa using m0
          have D2 : 2 * D ≤ P ∧ -P ≤ 2 * D := by simp at m0; omega
          obtain ⟨D2, D3⟩ := D2
          have D4 : decide (2 * -D ≤ P) = true := decide_eq_true (by omega)
          go_enter Try.func5, Try.ntmps5
          go_wp2_with fail
          refine (HA.out _).mono ?_
          rintro e w1 ⟨rfl, hg1⟩
          go_wp2_with fail
          refine (HB.out _).mono ?_
          rintro e w2 ⟨rfl, hg2⟩
          go_wp2_with (go_at_call 8; refine (alive_c _).mono ?_; rintro e w5 ⟨rfl, hg5⟩)
          go_ret
          exact ⟨rfl, (hg1.trans hg2).trans hg5⟩
      · by_cases m0 : (M == 0) = true
        · clear D2
          go_enter Try.func5, Try.ntmps5
          go_wp2_with fail
          refine (HA.out _).mono ?_
          rintro e w1 ⟨rfl, hg1⟩
          go_wp2_with fail
          refine (HB.out _).mono ?_
          rintro e w2 ⟨rfl, hg2⟩
          go_wp2_with (go_at_call 8; refine (alive_c _).mono ?_; rintro e w5 ⟨rfl, hg5⟩)
          go_ret
          exact ⟨rfl, (hg1.trans hg2).trans hg5⟩
        · have m0 : (M == 0) = false := by simpa using m0
          have D2 : 2 * D ≤ P ∧ -P ≤ 2 * D := by simp at m0; omega
          obtain ⟨D2, D3⟩ := D2
          have D4 : decide (2 * -D ≤ P) = true := decide_eq_true (by omega)
          go_enter Try.func5, Try.ntmps5
          go_wp2_with fail
          refine (HA.out _).mono ?_
          rintro e w1 ⟨rfl, hg1⟩
          go_wp2_with fail
          refine (HB.out _).mono ?_
          rintro e w2 ⟨rfl, hg2⟩
          go_wp2_with (go_at_call 8; refine (alive_c _).mono ?_; rintro e w5 ⟨rfl, hg5⟩)
          go_ret
          exact ⟨rfl, (hg1.trans hg2).trans hg5⟩
  · have c2 : Y ≤ X := by omega
    have h2 := hyx c2
    clear hxy hyx
    by_cases d0 : D < 0
    · by_cases m0 : (M == 0) = true
      · clear D2
        go_enter Try.func5, Try.ntmps5
        go_wp2_with fail
        refine (HA.out _).mono ?_
        rintro e w1 ⟨rfl, hg1⟩
        go_wp2_with fail
        refine (HB.out _).mono ?_
        rintro e w2 ⟨rfl, hg2⟩
        go_wp2_with (go_at_call 8; refine (alive_c _).mono ?_; rintro e w5 ⟨rfl, hg5⟩)
        go_ret
        exact ⟨rfl, (hg1.trans hg2).trans hg5⟩
      · have m0 : (M == 0) = false := by simpa using m0
        have D2 : 2 * D ≤ P ∧ -P ≤ 2 * D := by simp at m0; omega
        obtain ⟨D2, D3⟩ := D2
        have D4 : decide (2 * -D ≤ P) = true := decide_eq_true (by omega)
        go_enter Try.func5, Try.ntmps5
        go_wp2_with fail
        refine (HA.out _).mono ?_
        rintro e w1 ⟨rfl, hg1⟩
        go_wp2_with fail
        refine (HB.out _).mono ?_
        rintro e w2 ⟨rfl, hg2⟩
        go_wp2_with (go_at_call 8; refine (alive_c _).mono ?_; rintro e w5 ⟨rfl, hg5⟩)
        go_ret
        exact ⟨rfl, (hg1.trans hg2).trans hg5⟩
    · by_cases m0 : (M == 0) = true
      · clear D2
        go_enter Try.func5, Try.ntmps5
        go_wp2_with fail
        refine (HA.out _).mono ?_
        rintro e w1 ⟨rfl, hg1⟩
        go_wp2_with fail
        refine (HB.out _).mono ?_
        rintro e w2 ⟨rfl, hg2⟩
        go_wp2_with (go_at_call 8; refine (alive_c _).mono ?_; rintro e w5 ⟨rfl, hg5⟩)
        go_ret
        exact ⟨rfl, (hg1.trans hg2).trans hg5⟩
      · have m0 : (M == 0) = false := by simpa using m0
        have D2 : 2 * D ≤ P ∧ -P ≤ 2 * D := by simp at m0; omega
        obtain ⟨D2, D3⟩ := D2
        have D4 : decide (2 * -D ≤ P) = true := decide_eq_true (by omega)
        go_enter Try.func5, Try.ntmps5
        go_wp2_with fail
        refine (HA.out _).mono ?_
        rintro e w1 ⟨rfl, hg1⟩
        go_wp2_with fail
        refine (HB.out _).mono ?_
        rintro e w2 ⟨rfl, hg2⟩
        go_wp2_with (go_at_call 8; refine (alive_c _).mono ?_; rintro e w5 ⟨rfl, hg5⟩)
        go_ret
        exact ⟨rfl, (hg1.trans hg2).trans hg5⟩

/-! ### STEP 1: THE WALK: the Go text returns true. 'Grown w w'': the world has at most new blocks (Derived/RowKit3.lean). Part the cases AHEAD of 'go_enter' where a test parts the walk; take each callee by a contract of your own. -/
set_option maxHeartbeats 4000000 in
theorem walk (a0 : Int) (a1 : Int) (a2 : Int) (a3 : Int) (w0 : (Lit.int .i64 a0).wf = true) (w1 : (Lit.int .i64 a1).wf = true) (w2 : (Lit.int .i64 a2).wf = true) (w3 : (Lit.int .i64 a3).wf = true) (w : World) :
    Calls Try.prog 5 #[.int .i64 a0, .int .i64 a1, .int .i64 a2, .int .i64 a3] w fun e w' => e = .returned (.bool true) ∧ Grown w w' := by
  have WX := bounds_i64 w0
  have WY := bounds_i64 w1
  have t2 := tmod31_bd a2
  have t3 := tmod3_bd a3
  obtain ⟨S, hS⟩ : ∃ S, (a2.tmod 31 + 31) % 31 = S := ⟨_, rfl⟩
  obtain ⟨M, hM⟩ : ∃ M, (a3.tmod 3 + 3) % 3 = M := ⟨_, rfl⟩
  have hm : M = 0 ∨ M = 1 ∨ M = 2 := by omega
  have ho := rnd_off (a0 / 4) S.toNat M hm
  have hP : (2 : Int) ^ S.toNat ≤ 2 ^ 30 := by
    have h : (2 : Nat) ^ S.toNat ≤ 2 ^ 30 := Nat.pow_le_pow_right (by decide) (by omega)
    have h2 : ((2 ^ S.toNat : Nat) : Int) ≤ ((2 ^ 30 : Nat) : Int) := Int.ofNat_le.2 h
    rw [Int.natCast_pow] at h2
    exact h2
  have hp := pow_pos2 S.toNat
  exact (core a0 a1 a2 a3 (a0 / 4) (a1 / 4) S M (rnd (a0 / 4) S.toNat M) (rnd (a1 / 4) S.toNat M) _ _ rfl rfl hS hM rfl (by omega) (by omega) t2.1 t2.2 t3.1 t3.2 hp hP rfl ho.1 ho.2.1 ho.2.2
    (rnd_mono _ _ _ _ hm) (rnd_mono _ _ _ _ hm)
    (Lib.hid fun W => shift_ok (a0 / 4) S M (by omega) (by omega) (by omega) (by omega) (by omega) W)
    (Lib.hid fun W => shift_ok (a1 / 4) S M (by omega) (by omega) (by omega) (by omega) (by omega) W) w).mono fun e w' ⟨he, hg⟩ => ⟨he, hg.out⟩

/-! ### THE ROW's STEP: WRITTEN OUT: LEAVE IT -/
set_option maxRecDepth 100000 in
theorem lifted (os : Os) (started : os.Started) (H : Type) (enc : TypeId × Value → H) :
    ReturnsInHanded {} Try.checked os 5 .any (Rows.roundNearSpec.pre6 enc Try.prog Try.f5 Rows.roundNearRow.domain false) (Rows.roundNearSpec.post enc Try.prog Try.f5 false true false false) := by
  refine returnsInHanded_of_change (C := Try.checked) own started (by kernel_rfl) Try.func5
    (ChangeSpec.witness6 (enc := enc) (C := Try.checked) false ⟨#[], #[.int .i64 0, .int .i64 0, .int .i64 0, .int .i64 0], []⟩ 8 (by kernel_rfl) (by kernel_rfl) (by kernel_rfl) (by kernel_rfl)) ?_
  intro W base args ds gs before hval0 hW hcnd _
  have hval : ∀ (j : Nat) t v, Try.f5.params[j]? = some t → args[j]? = some v → Value.okWide Try.prog W .any base t v := hval0
  have hW' := hW
  obtain ⟨p, q, hA0, hV, rfl, hfz, hnd⟩ := hW
  have hA : DataW.TrodAll enc Try.prog W 0 (fun _ => true) true Try.f5.params.toList args.toList ds p := hA0
  rw [Try.params5] at hA hval
  obtain ⟨v0, vs0, d0, ds0, p0, q0, hargs, rfl, rfl, h0, r0⟩ := trodAll_cons hA
  obtain ⟨v1, vs1, d1, ds1, p1, q1, rfl, rfl, rfl, h1, r1⟩ := trodAll_cons r0
  obtain ⟨v2, vs2, d2, ds2, p2, q2, rfl, rfl, rfl, h2, r2⟩ := trodAll_cons r1
  obtain ⟨v3, vs3, d3, ds3, p3, q3, rfl, rfl, rfl, h3, r3⟩ := trodAll_cons r2
  obtain ⟨rfl, rfl, rfl⟩ := trodAll_nil r3
  obtain rfl : args = #[v0, v1, v2, v3] := by cases args; simp_all
  obtain ⟨rfl, rfl⟩ := trodVars_none hV
  obtain ⟨a0, rfl, rfl, rfl, w0⟩ := open_int Try.underlying3 (hval 0 3 v0 rfl rfl) h0
  obtain ⟨a1, rfl, rfl, rfl, w1⟩ := open_int Try.underlying3 (hval 1 3 v1 rfl rfl) h1
  obtain ⟨a2, rfl, rfl, rfl, w2⟩ := open_int Try.underlying3 (hval 2 3 v2 rfl rfl) h2
  obtain ⟨a3, rfl, rfl, rfl, w3⟩ := open_int Try.underlying3 (hval 3 3 v3 rfl rfl) h3
  clear hA0 hval0
  simp only [List.append_nil] at hW'
  refine (walk a0 a1 a2 a3 w0 w1 w2 w3 W).mono fun e W' ⟨he, hg⟩ => ?_
  subst he
  exact ⟨_, rfl, post_of_same (pa := []) (pv := []) hW' (fun _ _ _ => (trodAll_cons_mk (shut_bool Try.underlying4 _) trodAll_mk0)) (fun sp _ => (trodAll_cons_mk (shut_int Try.underlying3 w0) (trodAll_cons_mk (shut_int Try.underlying3 w1) (trodAll_cons_mk (shut_int Try.underlying3 w2) (trodAll_cons_mk (shut_int Try.underlying3 w3) trodAll_mk0))))) (fun _ _ => rfl) rfl
    (hg.frame _) hg.2.1 (ok_one (by kernel_rfl) rfl (okWide_bool_mk Try.underlying4 _))⟩

theorem over : Rows.roundNearRow.holds Try.pinned (OpenSpec.ofChange Rows.roundNearSpec) :=
  OpenClaim.holds_of_wide 5 Try.f5 rfl rfl rfl rfl rfl rfl rfl ⟨rfl, rfl, rfl, rfl, rfl⟩ rfl rfl rfl rfl rfl (by kernel_rfl) Try.func5 (by kernel_rfl)
    (of_decide_eq_true (by kernel_rfl)) (by unfold Func.isWrapper; first | (rw [if_pos (by decide +kernel)]; kernel_rfl) | (rw [if_neg (by decide +kernel)]; exact ⟨rfl, rfl⟩))
    (fun os started H enc _ => lifted os started H enc)

/-- ████ THE STATEMENT ████ -/
theorem proved : Rows.RoundNearSaid :=
  over
#print axioms proved
end Go.Proofs.Ytcanfbpmfibfiaa.roundNear
