/- Proved: for every input, the law SatOnly answers true at this commit, and its arguments read afterwards as before. No condition. -/
import Derived.Test.YtchdeniiponhmaaRows
import Derived.WalkKit
import Derived.ProofKit
import Derived.OpenShut
import Derived.Test.YtchdeniiponhmaaSat3
import Derived.Test.YtchdeniiponhmaaRef02
import Derived.Test.YtchdeniiponhmaaMath3
namespace Go.Proofs.Ytchdeniiponhmaa.satOnly
open Go.ChangeShapes Go.WideShapes Go.ChangeAt Go.RowKit
set_option linter.unusedVariables false      -- a walk need not use every 'w<i>' (that an integer argument fits its kind)

theorem own : ownKnob Try.prog.godebug = none := by kernel_rfl

set_option maxRecDepth 100000 in
set_option maxHeartbeats 4000000 in
theorem law_core (a0 a1 a2 a3 a4 F M b P C A B D n x s u : Int) (x1 x2 up q : Bool) (hF : (a3.tmod 2 + 2) % 2 = F) (hM : (a4.tmod 3 + 3) % 3 = M)
    (t30 : -1 ≤ a3.tmod 2) (t31 : a3.tmod 2 ≤ 1) (t40 : -2 ≤ a4.tmod 3) (t41 : a4.tmod 3 ≤ 2) (F0 : 0 ≤ F) (F1 : F ≤ 1) (b0 : 15 ≤ b) (b1 : b ≤ 31)
    (hP : (2 : Int) ^ b.toNat = P) (P0 : 32768 ≤ P) (P1 : P ≤ 2147483648) (hC : a2.tmod P = C) (C0 : -P < C) (C1 : C < P)
    (c1 : (bits .and .i64 C 1 == 1) = x1) (c2 : (bits .and .i64 C 2 == 2) = x2)
    (hA : (x1 = true ∧ A = -P) ∨ (x1 = false ∧ a0.tmod P = A)) (hB : (x2 = true ∧ B = -P) ∨ (x2 = false ∧ a1.tmod P = B)) (hD : (A < C ∧ D = C) ∨ (C ≤ A ∧ D = A))
    (A0 : -P ≤ A) (A1 : A < P) (B0 : -P ≤ B) (B1 : B < P) (eA : (A == -P) = x1) (eB : (B == -P) = x2)
    (n0 : -P ≤ n) (n1 : n < P) (y0 : -P ≤ x) (y1 : x < P) (s0 : -P ≤ s) (s1 : s < P) (us : s ≤ u)
    (HT : Hid (∀ W, Calls Try.prog 7 #[.int .i64 F] W fun e w' => e = .returned (.tuple #[.int .i64 b, .int .i64 0]) ∧ w' = W))
    (HN : Hid (∀ W, Calls Try.prog 15 #[.int .i64 A, .int .i64 F] W fun e w' => e = .returned (.tuple #[.int .i64 n, .bool x1, .int .i64 0]) ∧ Gr W w'))
    (HX : Hid (∀ W, Calls Try.prog 17 #[.int .i64 A, .int .i64 B, .int .i64 F, .int .i64 M] W fun e w' => e = .returned (.tuple #[.int .i64 x, .bool (x1 && x2), .int .i64 0]) ∧ Gr W w'))
    (HY : Hid (∀ W, Calls Try.prog 17 #[.int .i64 B, .int .i64 A, .int .i64 F, .int .i64 M] W fun e w' => e = .returned (.tuple #[.int .i64 x, .bool (x1 && x2), .int .i64 0]) ∧ Gr W w'))
    (HS : Hid (∀ W, Calls Try.prog 13 #[.int .i64 A, .int .i64 B, .int .i64 F] W fun e w' => e = .returned (.tuple #[.int .i64 s, .bool up, .int .i64 0]) ∧ Gr W w'))
    (HR : Hid (∀ W, Calls Try.prog 13 #[.int .i64 B, .int .i64 A, .int .i64 F] W fun e w' => e = .returned (.tuple #[.int .i64 s, .bool up, .int .i64 0]) ∧ Gr W w'))
    (HU : Hid (∀ W, Calls Try.prog 13 #[.int .i64 D, .int .i64 B, .int .i64 F] W fun e w' => e = .returned (.tuple #[.int .i64 u, .bool q, .int .i64 0]) ∧ Gr W w'))
    (w : World) :
    Calls Try.prog 6 #[.int .i64 a0, .int .i64 a1, .int .i64 a2, .int .i64 a3, .int .i64 a4] w fun e w' => e = .returned (.bool true) ∧ Gr w w' := by
  rcases hA with ⟨rfl, rfl⟩ | ⟨rfl, hA⟩ <;> rcases hB with ⟨rfl, rfl⟩ | ⟨rfl, hB⟩ <;> rcases hD with ⟨hD, rfl⟩ | ⟨hD, rfl⟩
  all_goals first | (exfalso; omega; done) | skip
  all_goals
    have P2 : P ≠ 0 := by omega
    have q0 : decide (n < -P) = false := by simp; omega
    have q1 : decide (x < -P) = false := by simp; omega
    have q2 : decide (s < -P) = false := by simp; omega
    have r0 : decide (P ≤ n) = false := by simp; omega
    have r1 : decide (P ≤ x) = false := by simp; omega
    have r2 : decide (P ≤ s) = false := by simp; omega
    go_enter Try.func6, Try.ntmps6
    go_wp2_with fail
    refine (HT.out _).mono ?_
    rintro e w1 ⟨rfl, rfl⟩
    go_wp2_with fail
    go_region
    go_wp2_with fail
    refine (HN.out _).mono ?_
    rintro e v1 ⟨rfl, g1⟩
    go_wp2_with fail
    refine (HX.out _).mono ?_
    rintro e v2 ⟨rfl, g2⟩
    go_wp2_with fail
    refine (HY.out _).mono ?_
    rintro e v3 ⟨rfl, g3⟩
    go_wp2_with fail
    refine (HS.out _).mono ?_
    rintro e v4 ⟨rfl, g4⟩
    go_wp2_with fail
    refine (HR.out _).mono ?_
    rintro e v5 ⟨rfl, g5⟩
    go_wp2_with fail
    refine (HU.out _).mono ?_
    rintro e v6 ⟨rfl, g6⟩
    go_wp2_with fail
    refine wp_loop_rounds 7 ?_
    rw [rounds_succ]; go_wp2_with fail
    rw [rounds_succ]; go_wp2_with fail
    rw [rounds_succ]; go_wp2_with fail
    rw [rounds_succ]; go_wp2_with fail
    rw [rounds_succ]; go_wp2_with fail
    rw [rounds_succ]; go_wp2_with fail
    rw [rounds_succ]; go_wp2_with fail
    refine wp_loop_rounds 4 ?_
    rw [rounds_succ]; go_wp2_with fail
    rw [rounds_succ]; go_wp2_with fail
    rw [rounds_succ]; go_wp2_with fail
    rw [rounds_succ]; go_wp2_with fail
    refine (alive02_c _).mono ?_
    rintro e v7 ⟨rfl, g7⟩
    go_wp2
    go_ret
    exact ⟨by simp, by (repeat (first | exact Gr.refl _ | assumption | apply Gr.drew | apply Gr.alloc | (refine Gr.setCell ?_ (by simp) _) | refine Gr.trans ?_ (by assumption)))⟩

/-! ### STEP 1: THE WALK: the Go text returns true. 'Grown w w'': the world has at most new blocks (Derived/RowKit3.lean). Part the cases AHEAD of 'go_enter' where a test parts the walk; take each callee by a contract of your own. -/
set_option maxHeartbeats 4000000 in
theorem walk (a0 : Int) (a1 : Int) (a2 : Int) (a3 : Int) (a4 : Int) (w0 : (Lit.int .i64 a0).wf = true) (w1 : (Lit.int .i64 a1).wf = true) (w2 : (Lit.int .i64 a2).wf = true) (w3 : (Lit.int .i64 a3).wf = true) (w4 : (Lit.int .i64 a4).wf = true) (w : World) :
    Calls Try.prog 6 #[.int .i64 a0, .int .i64 a1, .int .i64 a2, .int .i64 a3, .int .i64 a4] w fun e w' => e = .returned (.bool true) ∧ Grown w w' := by
  have t3 : -1 ≤ a3.tmod 2 ∧ a3.tmod 2 ≤ 1 := by have := tmod_lt a3 2 (by decide); omega
  have t4 : -2 ≤ a4.tmod 3 ∧ a4.tmod 3 ≤ 2 := by have := tmod_lt a4 3 (by decide); omega
  obtain ⟨F, hF⟩ : ∃ F, (a3.tmod 2 + 2) % 2 = F := ⟨_, rfl⟩
  obtain ⟨M, hM⟩ : ∃ M, (a4.tmod 3 + 3) % 3 = M := ⟨_, rfl⟩
  obtain ⟨b, P, H⟩ := FB.of (f := F) (by omega) (by omega)
  have hp := H.pos
  have hb : 15 ≤ b ∧ 32768 ≤ P := by rcases H with ⟨_, rfl, rfl⟩ | ⟨_, rfl, rfl⟩ <;> omega
  have l0 := tmod_lt a0 P hp.1
  have l1 := tmod_lt a1 P hp.1
  have l2 := tmod_lt a2 P hp.1
  obtain ⟨C, hC⟩ : ∃ C, a2.tmod P = C := ⟨_, rfl⟩
  rw [hC] at l2
  obtain ⟨x1, c1⟩ : ∃ x1, (bits .and .i64 C 1 == 1) = x1 := ⟨_, rfl⟩
  obtain ⟨x2, c2⟩ : ∃ x2, (bits .and .i64 C 2 == 2) = x2 := ⟨_, rfl⟩
  obtain ⟨A, hA, A0, A1, eA⟩ : ∃ A, ((x1 = true ∧ A = -P) ∨ (x1 = false ∧ a0.tmod P = A)) ∧ -P ≤ A ∧ A < P ∧ (A == -P) = x1 := by
    cases x1
    · exact ⟨_, .inr ⟨rfl, rfl⟩, by omega, by omega, by simp; omega⟩
    · exact ⟨_, .inl ⟨rfl, rfl⟩, by omega, by omega, by simp⟩
  obtain ⟨B, hB, B0, B1, eB⟩ : ∃ B, ((x2 = true ∧ B = -P) ∨ (x2 = false ∧ a1.tmod P = B)) ∧ -P ≤ B ∧ B < P ∧ (B == -P) = x2 := by
    cases x2
    · exact ⟨_, .inr ⟨rfl, rfl⟩, by omega, by omega, by simp; omega⟩
    · exact ⟨_, .inl ⟨rfl, rfl⟩, by omega, by omega, by simp⟩
  obtain ⟨D, hD, D0, D1, D2⟩ : ∃ D, ((A < C ∧ D = C) ∨ (C ≤ A ∧ D = A)) ∧ -P ≤ D ∧ D < P ∧ A ≤ D := by
    by_cases h : A < C
    · exact ⟨_, .inl ⟨h, rfl⟩, by omega, by omega, by omega⟩
    · exact ⟨_, .inr ⟨by omega, rfl⟩, by omega, by omega, by omega⟩
  have hm : M = 0 ∨ M = 1 ∨ M = 2 := by omega
  have kN := clampI_bd P (0 - A) hp.1
  have kX := clampI_bd P (rnd (A * B) b.toNat M) hp.1
  have kS := clampI_bd P (A + B) hp.1
  have kU := clampI_mono P (A + B) (D + B) hp.1 (by omega)
  have eN := neg_clamped P A hp.1 A0 A1
  have eX := mul_clamped b P A B M H.pow hp.1 hm A0 A1 B0 B1
  rw [eA] at eN
  rw [eA, eB] at eX
  have HN := neg_c F b P A H A0 A1
  have HX := mul_c F b P A B M H A0 A1 B0 B1 (by omega) (by omega)
  have HY := mul_c F b P B A M H B0 B1 A0 A1 (by omega) (by omega)
  have HS := add_c F b P A B H A0 A1 B0 B1
  have HR := add_c F b P B A H B0 B1 A0 A1
  have HU := add_c F b P D B H D0 D1 B0 B1
  rw [eN] at HN
  rw [eX] at HX
  rw [Int.mul_comm B A, eX] at HY
  rw [Int.add_comm B A] at HR
  exact (law_core a0 a1 a2 a3 a4 F M b P C A B D _ _ _ _ x1 x2 _ _ hF hM t3.1 t3.2 t4.1 t4.2 (by omega) (by omega) hb.1 (by omega) H.pow hb.2 hp.2.1 hC l2.1 l2.2 c1 c2 hA hB hD A0 A1 B0 B1 eA eB
    kN.1 kN.2 kX.1 kX.2 kS.1 kS.2 kU (Lib.hid (bits_c F b P H)) (Lib.hid HN) (Lib.hid HX) (Lib.hid HY) (Lib.hid HS) (Lib.hid HR) (Lib.hid HU) w).mono fun e w' ⟨he, hg⟩ => ⟨he, hg.out⟩

/-! ### THE ROW's STEP: WRITTEN OUT: LEAVE IT -/
set_option maxRecDepth 100000 in
theorem lifted (os : Os) (started : os.Started) (H : Type) (enc : TypeId × Value → H) :
    ReturnsInHanded {} Try.checked os 6 .any (Rows.satOnlySpec.pre6 enc Try.prog Try.f6 Rows.satOnlyRow.domain false) (Rows.satOnlySpec.post enc Try.prog Try.f6 false true false false) := by
  refine returnsInHanded_of_change (C := Try.checked) own started (by kernel_rfl) Try.func6
    (ChangeSpec.witness6 (enc := enc) (C := Try.checked) false ⟨#[], #[.int .i64 0, .int .i64 0, .int .i64 0, .int .i64 0, .int .i64 0], []⟩ 8 (by kernel_rfl) (by kernel_rfl) (by kernel_rfl) (by kernel_rfl)) ?_
  intro W base args ds gs before hval0 hW hcnd _
  have hval : ∀ (j : Nat) t v, Try.f6.params[j]? = some t → args[j]? = some v → Value.okWide Try.prog W .any base t v := hval0
  have hW' := hW
  obtain ⟨p, q, hA0, hV, rfl, hfz, hnd⟩ := hW
  have hA : DataW.TrodAll enc Try.prog W 0 (fun _ => true) true Try.f6.params.toList args.toList ds p := hA0
  rw [Try.params6] at hA hval
  obtain ⟨v0, vs0, d0, ds0, p0, q0, hargs, rfl, rfl, h0, r0⟩ := trodAll_cons hA
  obtain ⟨v1, vs1, d1, ds1, p1, q1, rfl, rfl, rfl, h1, r1⟩ := trodAll_cons r0
  obtain ⟨v2, vs2, d2, ds2, p2, q2, rfl, rfl, rfl, h2, r2⟩ := trodAll_cons r1
  obtain ⟨v3, vs3, d3, ds3, p3, q3, rfl, rfl, rfl, h3, r3⟩ := trodAll_cons r2
  obtain ⟨v4, vs4, d4, ds4, p4, q4, rfl, rfl, rfl, h4, r4⟩ := trodAll_cons r3
  obtain ⟨rfl, rfl, rfl⟩ := trodAll_nil r4
  obtain rfl : args = #[v0, v1, v2, v3, v4] := by cases args; simp_all
  obtain ⟨rfl, rfl⟩ := trodVars_none hV
  obtain ⟨a0, rfl, rfl, rfl, w0⟩ := open_int Try.underlying3 (hval 0 3 v0 rfl rfl) h0
  obtain ⟨a1, rfl, rfl, rfl, w1⟩ := open_int Try.underlying3 (hval 1 3 v1 rfl rfl) h1
  obtain ⟨a2, rfl, rfl, rfl, w2⟩ := open_int Try.underlying3 (hval 2 3 v2 rfl rfl) h2
  obtain ⟨a3, rfl, rfl, rfl, w3⟩ := open_int Try.underlying3 (hval 3 3 v3 rfl rfl) h3
  obtain ⟨a4, rfl, rfl, rfl, w4⟩ := open_int Try.underlying3 (hval 4 3 v4 rfl rfl) h4
  clear hA0 hval0
  simp only [List.append_nil] at hW'
  refine (walk a0 a1 a2 a3 a4 w0 w1 w2 w3 w4 W).mono fun e W' ⟨he, hg⟩ => ?_
  subst he
  exact ⟨_, rfl, post_of_same (pa := []) (pv := []) hW' (fun _ _ _ => (trodAll_cons_mk (shut_bool Try.underlying4 _) trodAll_mk0)) (fun sp _ => (trodAll_cons_mk (shut_int Try.underlying3 w0) (trodAll_cons_mk (shut_int Try.underlying3 w1) (trodAll_cons_mk (shut_int Try.underlying3 w2) (trodAll_cons_mk (shut_int Try.underlying3 w3) (trodAll_cons_mk (shut_int Try.underlying3 w4) trodAll_mk0)))))) (fun _ _ => rfl) rfl
    (hg.frame _) hg.2.1 (ok_one (by kernel_rfl) rfl (okWide_bool_mk Try.underlying4 _))⟩

theorem over : Rows.satOnlyRow.holds Try.pinned (OpenSpec.ofChange Rows.satOnlySpec) :=
  OpenClaim.holds_of_wide 6 Try.f6 rfl rfl rfl rfl rfl rfl rfl ⟨rfl, rfl, rfl, rfl, rfl⟩ rfl rfl rfl rfl rfl (by kernel_rfl) Try.func6 (by kernel_rfl)
    (of_decide_eq_true (by kernel_rfl)) (by unfold Func.isWrapper; first | (rw [if_pos (by decide +kernel)]; kernel_rfl) | (rw [if_neg (by decide +kernel)]; exact ⟨rfl, rfl⟩))
    (fun os started H enc _ => lifted os started H enc)

/-- ████ THE STATEMENT ████ -/
theorem proved : Rows.SatOnlySaid :=
  over
#print axioms proved
end Go.Proofs.Ytchdeniiponhmaa.satOnly
