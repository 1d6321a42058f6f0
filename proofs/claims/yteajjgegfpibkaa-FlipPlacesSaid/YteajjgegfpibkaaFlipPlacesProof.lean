/- Proved: for every input, the law FlipPlaces answers true at this commit, and its arguments read afterwards as before. No condition. -/
import Derived.Test.YteajjgegfpibkaaRows
import Derived.WalkKit
import Derived.ProofKit
import Derived.OpenShut
import Derived.Lib.SmallJoins
import Derived.ChangeOld
import Derived.Below
import Derived.Test.YteajjgegfpibkaaRef08b
namespace Go.Proofs.Yteajjgegfpibkaa.flipPlaces
open Go.ChangeShapes Go.WideShapes Go.ChangeAt Go.RowKit Go.Joins
set_option linter.unusedVariables false

theorem own : ownKnob Try.prog.godebug = none := by kernel_rfl



set_option maxHeartbeats 4000000 in
set_option maxRecDepth 100000 in
theorem core_ok (i log n k e m g r : Int) (is : Bool) (xs : List Int) (hx : xs ≠ [])
    (HB : Hid (∀ W, Calls Try.prog 6 #[.int .i64 i, .int .i64 log] W fun e' w' => e' = .returned (.tuple #[.int .i64 k, .int .i64 e]) ∧ w' = W))
    (HM : Hid (∀ W, Calls Try.prog 9 #[.int .i64 i, .int .i64 log] W fun e' w' => e' = .returned (.bool is) ∧ w' = W))
    (HC : Hid (is = true → ∀ W, Calls Try.prog 10 #[.int .i64 i, .int .i64 log] W fun e' w' => e' = .returned (.int .i64 k) ∧ w' = W))
    (hI : (is = true ∧ e = 0) ∨ (is = false ∧ e = 1 ∧ k = 0))
    (HL : Hid (∀ W, Calls Try.prog 12 #[.int .i64 log] W fun e' w' => e' = .returned (.bool true) ∧ w' = W))
    (HR : Hid (∀ W, Calls Try.prog 7 #[.int .i64 log] W fun e' w' => ∃ v, e' = .returned (.tuple #[v, .int .i64 0]) ∧ IntsAt w' v xs ∧ Gr W w'))
    (HQ : Hid (∀ W, Calls Try.prog 14 #[.int .i64 log] W fun e' w' => ∃ v, e' = .returned v ∧ IntsAt w' v xs ∧ Gr W w'))
    (HG : Hid (∀ W, Calls Try.prog 8 #[.int .i64 n] W fun e' w' => e' = .returned (.tuple #[.int .i64 m, .int .i64 g]) ∧ w' = W))
    (HN : Hid (∀ W, Calls Try.prog 15 #[.int .i64 n] W fun e' w' => e' = .returned (.int .i64 r) ∧ w' = W))
    (hN : (0 ≤ r ∧ g = 0 ∧ m = r) ∨ (r = -1 ∧ g = 3 ∧ m = 0)) (w : World) :
    Calls Try.prog 3 #[.int .i64 i, .int .i64 log, .int .i64 n] w fun e w' => e = .returned (.bool true) ∧ Gr w w' := by
  have HA := Lib.hid alive08_c
  have HX := Lib.hid hx
  clear hx
  rcases hI with ⟨rfl, rfl⟩ | ⟨rfl, rfl, rfl⟩ <;> rcases hN with ⟨h0, rfl, rfl⟩ | ⟨rfl, rfl, rfl⟩
  all_goals
    try have HC1 := Lib.hid (HC.out rfl)
    clear HC
    go_enter Try.func3, Try.ntmps3
    go_wp2_with (go_at_call 6; refine (HB.out _).mono ?_; rintro e wz ⟨rfl, rfl⟩)
    refine (HR.out _).mono ?_
    rintro e w1 ⟨v1, rfl, hI1, g1⟩
    obtain ⟨b1, o1, cap1, rfl, hlen1, _⟩ := same_len hI1 HX.out
    have J1 := Lib.hid hI1
    clear hI1 HR
    go_wp2_with (first
      | (go_at_call 8; refine (HG.out _).mono ?_; rintro e wz ⟨rfl, rfl⟩)
      | (go_at_call 9; refine (HM.out _).mono ?_; rintro e wz ⟨rfl, rfl⟩)
      | (go_at_call 10; refine (HC1.out _).mono ?_; rintro e wz ⟨rfl, rfl⟩)
      | (go_at_call 11; refine (HA.out _).mono ?_; rintro e wz ⟨rfl, rfl⟩)
      | (go_at_call 12; refine (HL.out _).mono ?_; rintro e wz ⟨rfl, rfl⟩))
    refine (HQ.out _).mono ?_
    rintro e w2 ⟨v2, rfl, hI2, g2⟩
    have HS := Lib.hid (same_c _ _ xs HX.out w2 (J1.out.gr g2) hI2)
    have gg := g1.trans g2
    go_wp2_with (first
      | (go_at_call 13; refine HS.out.mono ?_; rintro e w3 ⟨rfl, g3⟩; replace gg := gg.trans g3)
      | (go_at_call 15; refine (HN.out _).mono ?_; rintro e wz ⟨rfl, rfl⟩))
    go_ret
    exact ⟨by simp, gg⟩

set_option maxHeartbeats 4000000 in
set_option maxRecDepth 100000 in
theorem core_bad (i log n m g r : Int) (h : log < 2 ∨ 6 < log)
    (HG : Hid (∀ W, Calls Try.prog 8 #[.int .i64 n] W fun e' w' => e' = .returned (.tuple #[.int .i64 m, .int .i64 g]) ∧ w' = W))
    (HN : Hid (∀ W, Calls Try.prog 15 #[.int .i64 n] W fun e' w' => e' = .returned (.int .i64 r) ∧ w' = W))
    (hN : (0 ≤ r ∧ g = 0 ∧ m = r) ∨ (r = -1 ∧ g = 3 ∧ m = 0)) (w : World) :
    Calls Try.prog 3 #[.int .i64 i, .int .i64 log, .int .i64 n] w fun e w' => e = .returned (.bool true) ∧ Gr w w' := by
  have HA := Lib.hid alive08_c
  have HB := Lib.hid (bits08_log i log h)
  have HM := Lib.hid (may08_log i log h)
  have HL := Lib.hid (log07_no log h)
  have HR := Lib.hid (row08_bad log h)
  clear h
  rcases hN with ⟨h0, rfl, rfl⟩ | ⟨rfl, rfl, rfl⟩
  all_goals
    go_enter Try.func3, Try.ntmps3
    go_wp2_with (first
      | (go_at_call 6; refine (HB.out _).mono ?_; rintro e wz ⟨rfl, rfl⟩)
      | (go_at_call 7; refine (HR.out _).mono ?_; rintro e wz ⟨rfl, rfl⟩)
      | (go_at_call 8; refine (HG.out _).mono ?_; rintro e wz ⟨rfl, rfl⟩)
      | (go_at_call 9; refine (HM.out _).mono ?_; rintro e wz ⟨rfl, rfl⟩)
      | (go_at_call 15; refine (HN.out _).mono ?_; rintro e wz ⟨rfl, rfl⟩)
      | (go_at_call 11; refine (HA.out _).mono ?_; rintro e wz ⟨rfl, rfl⟩)
      | (go_at_call 12; refine (HL.out _).mono ?_; rintro e wz ⟨rfl, rfl⟩))
    go_ret
    exact ⟨by simp, Gr.refl _⟩

theorem log_both (n : Int) : ∃ m g r : Int, (∀ W, Calls Try.prog 8 #[.int .i64 n] W fun e' w' => e' = .returned (.tuple #[.int .i64 m, .int .i64 g]) ∧ w' = W) ∧
    (∀ W, Calls Try.prog 15 #[.int .i64 n] W fun e' w' => e' = .returned (.int .i64 r) ∧ w' = W) ∧ ((0 ≤ r ∧ g = 0 ∧ m = r) ∨ (r = -1 ∧ g = 3 ∧ m = 0)) := by
  by_cases h : ∃ L, IsLog n L
  · obtain ⟨L, h⟩ := h
    exact ⟨L, 0, L, log08_yes n L h, rlog08_yes n L h, .inl ⟨by omega, rfl, rfl⟩⟩
  · have h4 : n ≠ 4 := fun e => h ⟨2, by omega, by omega, by rw [e]; rfl⟩
    have h8 : n ≠ 8 := fun e => h ⟨3, by omega, by omega, by rw [e]; rfl⟩
    have h16 : n ≠ 16 := fun e => h ⟨4, by omega, by omega, by rw [e]; rfl⟩
    have h32 : n ≠ 32 := fun e => h ⟨5, by omega, by omega, by rw [e]; rfl⟩
    have h64 : n ≠ 64 := fun e => h ⟨6, by omega, by omega, by rw [e]; rfl⟩
    exact ⟨0, 3, -1, log08_no n h4 h8 h16 h32 h64, rlog08_no n h4 h8 h16 h32 h64, .inr ⟨rfl, rfl, rfl⟩⟩


set_option maxHeartbeats 4000000 in
set_option maxRecDepth 100000 in
theorem walk (w : World) (a0 : Int) (a1 : Int) (a2 : Int) (w0 : (Lit.int .i64 a0).wf = true) (w1 : (Lit.int .i64 a1).wf = true) (w2 : (Lit.int .i64 a2).wf = true) :
    Calls Try.prog 3 #[.int .i64 a0, .int .i64 a1, .int .i64 a2] w fun e w' => e = .returned (.bool true) ∧ Gr w w' := by
  obtain ⟨m, g, r, hg, hn, hN⟩ := log_both a2
  by_cases hl : 2 ≤ a1 ∧ a1 ≤ 6
  · obtain ⟨L, rfl⟩ : ∃ L : Nat, a1 = (L : Int) := ⟨a1.toNat, by omega⟩
    have l0 : 2 ≤ L := by omega
    have l1 : L ≤ 6 := by omega
    have h64 := pow_le L l1
    have hx : rowL L ≠ [] := by
      intro e
      have := rowL_len L
      rw [e] at this
      have := Nat.pow_le_pow_right (n := 2) (by omega) l0
      simp at *
      omega
    by_cases h0 : a0 < 0
    · exact core_ok a0 L a2 0 1 m g r false _ hx (Lib.hid (bits08_neg a0 L l0 l1 h0)) (Lib.hid (may08_neg a0 L l0 l1 h0)) (Lib.hid (fun e => by cases e)) (.inr ⟨rfl, rfl, rfl⟩) (Lib.hid (log07_yes L (by omega) (by omega))) (Lib.hid (row08_ok L l0 l1)) (Lib.hid (rrow08_c L l0 l1)) (Lib.hid hg) (Lib.hid hn) hN w
    · by_cases h1 : ((2 ^ L : Nat) : Int) ≤ a0
      · exact core_ok a0 L a2 0 1 m g r false _ hx (Lib.hid (bits08_big a0 L l0 l1 (by omega) h1)) (Lib.hid (may08_big a0 L l0 l1 (by omega) h1)) (Lib.hid (fun e => by cases e)) (.inr ⟨rfl, rfl, rfl⟩) (Lib.hid (log07_yes L (by omega) (by omega))) (Lib.hid (row08_ok L l0 l1)) (Lib.hid (rrow08_c L l0 l1)) (Lib.hid hg) (Lib.hid hn) hN w
      · obtain ⟨i, rfl⟩ : ∃ i : Nat, a0 = (i : Int) := ⟨a0.toNat, by omega⟩
        have hi : i < 2 ^ L := by omega
        exact core_ok i L a2 (fl L i : Nat) 0 m g r true _ hx (Lib.hid (bits08_ok i L l0 l1 hi)) (Lib.hid (may08_yes i L l0 l1 hi)) (Lib.hid (fun _ => rbits08_c i L l1 (by omega))) (.inl ⟨rfl, rfl⟩) (Lib.hid (log07_yes L (by omega) (by omega))) (Lib.hid (row08_ok L l0 l1)) (Lib.hid (rrow08_c L l0 l1)) (Lib.hid hg) (Lib.hid hn) hN w
  · exact core_bad a0 a1 a2 m g r (by omega) (Lib.hid hg) (Lib.hid hn) hN w

set_option maxHeartbeats 4000000 in
set_option maxRecDepth 100000 in
theorem lifted (os : Os) (started : os.Started) (H : Type) (enc : TypeId × Value → H) :
    ReturnsInHanded {} Try.checked os 3 .any (Rows.flipPlacesSpec.pre6 enc Try.prog Try.f3 Rows.flipPlacesRow.domain false) (Rows.flipPlacesSpec.post enc Try.prog Try.f3 false true false false) := by
  refine returnsInHanded_of_change (C := Try.checked) own started (by kernel_rfl) Try.func3
    (ChangeSpec.witness6 (enc := enc) (C := Try.checked) false ⟨#[], #[.int .i64 0, .int .i64 0, .int .i64 0], []⟩ 8 (by kernel_rfl) (by kernel_rfl) (by kernel_rfl) (by kernel_rfl)) ?_
  intro W base args ds gs before hval0 hW hcnd _
  have hval : ∀ (j : Nat) t v, Try.f3.params[j]? = some t → args[j]? = some v → Value.okWide Try.prog W .any base t v := hval0
  have hW' := hW
  obtain ⟨p, q, hA0, hV, rfl, hfz, hnd⟩ := hW
  have hA : DataW.TrodAll enc Try.prog W 0 (fun _ => true) true Try.f3.params.toList args.toList ds p := hA0
  rw [Try.params3] at hA hval
  obtain ⟨v0, vs0, d0, ds0, p0, q0, hargs, rfl, rfl, h0, r0⟩ := trodAll_cons hA
  obtain ⟨v1, vs1, d1, ds1, p1, q1, rfl, rfl, rfl, h1, r1⟩ := trodAll_cons r0
  obtain ⟨v2, vs2, d2, ds2, p2, q2, rfl, rfl, rfl, h2, r2⟩ := trodAll_cons r1
  obtain ⟨rfl, rfl, rfl⟩ := trodAll_nil r2
  obtain rfl : args = #[v0, v1, v2] := by cases args; simp_all
  obtain ⟨rfl, rfl⟩ := trodVars_none hV
  obtain ⟨a0, rfl, rfl, rfl, w0⟩ := open_int Try.underlying3 (hval 0 3 v0 rfl rfl) h0
  obtain ⟨a1, rfl, rfl, rfl, w1⟩ := open_int Try.underlying3 (hval 1 3 v1 rfl rfl) h1
  obtain ⟨a2, rfl, rfl, rfl, w2⟩ := open_int Try.underlying3 (hval 2 3 v2 rfl rfl) h2
  clear hA0 hval0
  simp only [List.append_nil] at hW'
  refine (walk W a0 a1 a2 w0 w1 w2).mono fun e W' ⟨he, hg⟩ => ?_
  subst he
  exact ⟨_, rfl, post_gr (pa := []) (pv := []) hW' (fun _ _ _ => (trodAll_cons_mk (shut_bool Try.underlying4 _) trodAll_mk0)) (fun sp _ => (trodAll_cons_mk (shut_int Try.underlying3 w0) (trodAll_cons_mk (shut_int Try.underlying3 w1) (trodAll_cons_mk (shut_int Try.underlying3 w2) trodAll_mk0)))) (fun _ _ => rfl) rfl hg⟩

theorem over : Rows.flipPlacesRow.holds Try.pinned (OpenSpec.ofChange Rows.flipPlacesSpec) :=
  OpenClaim.holds_of_wide 3 Try.f3 rfl rfl rfl rfl rfl rfl rfl ⟨rfl, rfl, rfl, rfl, rfl⟩ rfl rfl rfl rfl rfl (by kernel_rfl) Try.func3 (by kernel_rfl)
    (of_decide_eq_true (by kernel_rfl)) (by unfold Func.isWrapper; first | (rw [if_pos (by decide +kernel)]; kernel_rfl) | (rw [if_neg (by decide +kernel)]; exact ⟨rfl, rfl⟩))
    (fun os started H enc _ => lifted os started H enc)

/-- THE STATEMENT -/
theorem proved : Rows.FlipPlacesSaid :=
  over
#print axioms proved
end Go.Proofs.Yteajjgegfpibkaa.flipPlaces
