/- Proved: for every input, the law TwoPairs answers true at this commit, and its arguments read afterwards as before. No condition. -/
import Derived.Test.YtkbfniogannlhaaRows
import Derived.WalkKit
import Derived.ProofKit
import Derived.OpenShut
import Derived.Lib.SmallJoins
import Derived.ChangeOld
import Derived.Below
import Derived.Test.YtkbfniogannlhaaTwoPairsCore
import Derived.Test.YtkbfniogannlhaaCxsArg
namespace Go.Proofs.Ytkbfniogannlhaa.twoPairs
open Go.ChangeShapes Go.WideShapes Go.ChangeAt Go.RowKit Go.Joins
set_option linter.unusedVariables false

theorem own : ownKnob Try.prog.godebug = none := by kernel_rfl

theorem cellsC : Try.prog.cellsOf 23 = 2 := by kernel_rfl

theorem in_one (l a b : Int) : allIn l [⟨a, b⟩] = (inB l a && inB l b) := by simp [allIn]
theorem in_two (l a b c d : Int) : allIn l [⟨a, b⟩, ⟨c, d⟩] = ((inB l a && inB l b) && (inB l c && inB l d)) := by simp [allIn]

theorem pairs_all (ax ay bx by0 wx wy b s mo : Int) (w : World) :
    Calls Try.prog 3 #[.agg #[.int .i64 ax, .int .i64 ay], .agg #[.int .i64 bx, .int .i64 by0], .agg #[.int .i64 wx, .int .i64 wy], .int .i64 b, .int .i64 s, .int .i64 mo] w fun e w' => e = .returned (.bool true) ∧ Gr w w' := by
  have HN := Lib.hid (pow08_c' 31 2147483648 rfl (by omega))
  have AL := Lib.hid alive10_c
  by_cases hS : SetsOk2 b s mo
  · obtain ⟨B, rfl⟩ : ∃ B : Nat, b = (B : Int) := ⟨b.toNat, by have := hS.1.1; omega⟩
    obtain ⟨sN, rfl⟩ : ∃ sN : Nat, s = (sN : Int) := ⟨s.toNat, by have := hS.2.1.1; omega⟩
    have hB : B ≤ 29 := by have := hS.1.2; omega
    have hs : sN ≤ 3 := by have := hS.2.1.2; omega
    have HS := Lib.hid (settings10_yes B sN mo hS)
    have HA := Lib.hid (rwithin_c ax ay 2147483648 (by omega) (by omega))
    have HB := Lib.hid (rwithin_c bx by0 2147483648 (by omega) (by omega))
    have HQ := Lib.hid (pow08_c' B _ rfl (by omega))
    have hp : (2 : Int) ^ B ≤ 2147483648 := pow_le31 _ (by omega)
    have hp0 := pow_pos2 B
    have HW := Lib.hid (rwithin_c wx wy (2 ^ B) (by omega) (by omega))
    have HR := twoPair_range ⟨ax, ay⟩ ⟨bx, by0⟩ ⟨wx, wy⟩ B sN mo hS
    have HO := twoPair_ok ⟨ax, ay⟩ ⟨bx, by0⟩ ⟨wx, wy⟩ B sN mo hS
    have e1 := in_two 2147483648 ax ay bx by0
    have e2 := in_one (2 ^ B) wx wy
    rw [e1, e2] at HR
    cases h1 : (inB 2147483648 ax && inB 2147483648 ay)
    · rw [h1] at HA HR
      exact twoPairs_ra _ _ _ _ _ _ _ _ _ (Lib.hid (HR (by simp))) HN HS HA AL w
    · rw [h1] at HA HR e1
      cases h2 : (inB 2147483648 bx && inB 2147483648 by0)
      · rw [h2] at HB HR
        exact twoPairs_rb _ _ _ _ _ _ _ _ _ (Lib.hid (HR (by simp))) HN HS HA HB AL w
      · rw [h2] at HB HR e1
        cases h3 : (inB (2 ^ B) wx && inB (2 ^ B) wy)
        · rw [h3] at HW HR
          exact twoPairs_rw _ _ _ _ _ _ _ _ _ (2 ^ B) (Lib.hid (HR (by simp))) HN HS HA HB HQ HW AL w
        · rw [h3] at HW e2
          have b1 := (allIn_iff _ _).1 e1
          have b2 := (allIn_iff _ _).1 e2
          exact twoPairs_ok _ _ _ _ _ _ _ _ _ (2 ^ B) _ _ _ _ (Lib.hid (HO e1 e2)) HN HS HA HB HQ HW
            (Lib.hid (up10_c ⟨ax, ay⟩ ⟨bx, by0⟩ ⟨wx, wy⟩ B sN mo hB hs hS.2.2.1 hS.2.2.2 (b1 _ (by simp)) (b1 _ (by simp)) (b2 _ (by simp))))
            (Lib.hid (down10_c ⟨ax, ay⟩ ⟨bx, by0⟩ ⟨wx, wy⟩ B sN mo hB hs hS.2.2.1 hS.2.2.2 (b1 _ (by simp)) (b1 _ (by simp)) (b2 _ (by simp)))) AL w
  · exact twoPairs_arg _ _ _ _ _ _ _ _ _ (Lib.hid (twoPair_arg ⟨ax, ay⟩ ⟨bx, by0⟩ ⟨wx, wy⟩ b s mo hS)) HN (Lib.hid (settings10_no b s mo hS)) AL w


set_option maxHeartbeats 4000000 in
set_option maxRecDepth 100000 in
theorem walk (w : World) (x0 y0 : Int) (x1 y1 : Int) (x2 y2 : Int) (a3 : Int) (a4 : Int) (a5 : Int) (wx0 : (Lit.int .i64 x0).wf = true) (wy0 : (Lit.int .i64 y0).wf = true) (wx1 : (Lit.int .i64 x1).wf = true) (wy1 : (Lit.int .i64 y1).wf = true) (wx2 : (Lit.int .i64 x2).wf = true) (wy2 : (Lit.int .i64 y2).wf = true) (w3 : (Lit.int .i64 a3).wf = true) (w4 : (Lit.int .i64 a4).wf = true) (w5 : (Lit.int .i64 a5).wf = true) :
    Calls Try.prog 3 #[.agg #[.int .i64 x0, .int .i64 y0], .agg #[.int .i64 x1, .int .i64 y1], .agg #[.int .i64 x2, .int .i64 y2], .int .i64 a3, .int .i64 a4, .int .i64 a5] w fun e w' => e = .returned (.bool true) ∧ Gr w w' := by
  exact pairs_all x0 y0 x1 y1 x2 y2 a3 a4 a5 w

set_option maxHeartbeats 4000000 in
set_option maxRecDepth 100000 in
theorem lifted (os : Os) (started : os.Started) (H : Type) (enc : TypeId × Value → H) :
    ReturnsInHanded {} Try.checked os 3 .any (Rows.twoPairsSpec.pre6 enc Try.prog Try.f3 Rows.twoPairsRow.domain false) (Rows.twoPairsSpec.post enc Try.prog Try.f3 false true false false) := by
  refine returnsInHanded_of_change (C := Try.checked) own started (by kernel_rfl) Try.func3
    (ChangeSpec.witness6 (enc := enc) (C := Try.checked) false ⟨#[], #[.agg #[.int .i64 0, .int .i64 0], .agg #[.int .i64 0, .int .i64 0], .agg #[.int .i64 0, .int .i64 0], .int .i64 0, .int .i64 0, .int .i64 0], []⟩ 8 (by kernel_rfl) (by kernel_rfl) (by kernel_rfl) (by kernel_rfl)) ?_
  intro W base args ds gs before hval0 hW hcnd _
  have hval : ∀ (j : Nat) t v, Try.f3.params[j]? = some t → args[j]? = some v → Value.okWide Try.prog W .any base t v := hval0
  have hW' := hW
  obtain ⟨p, q, hA0, hV, rfl, hfz, hnd⟩ := hW
  have hA : DataW.TrodAll enc Try.prog W 0 (fun _ => true) true Try.f3.params.toList args.toList ds p := hA0
  rw [Try.params3] at hA hval
  obtain ⟨v0, vs0, d0, ds0, p0, q0, hargs, rfl, rfl, h0, r0⟩ := trodAll_cons hA
  obtain ⟨v1, vs1, d1, ds1, p1, q1, rfl, rfl, rfl, h1, r1⟩ := trodAll_cons r0
  obtain ⟨v2, vs2, d2, ds2, p2, q2, rfl, rfl, rfl, h2, r2⟩ := trodAll_cons r1
  obtain ⟨v3, vs3, d3, ds3, p3, q3, rfl, rfl, rfl, h3, r3⟩ := trodAll_cons r2
  obtain ⟨v4, vs4, d4, ds4, p4, q4, rfl, rfl, rfl, h4, r4⟩ := trodAll_cons r3
  obtain ⟨v5, vs5, d5, ds5, p5, q5, rfl, rfl, rfl, h5, r5⟩ := trodAll_cons r4
  obtain ⟨rfl, rfl, rfl⟩ := trodAll_nil r5
  obtain rfl : args = #[v0, v1, v2, v3, v4, v5] := by cases args; simp_all
  obtain ⟨rfl, rfl⟩ := trodVars_none hV
  obtain ⟨c00, c01, z00, z01, m0, rfl, rfl, rfl, hy00, hy01⟩ := open_agg2 Try.underlying23 (by kernel_rfl) cellsC (hval 0 23 v0 rfl rfl) h0
  obtain ⟨x0, e00, rfl, wx0⟩ := DataW.trod_int Try.underlying3 hy00
  obtain ⟨y0, e01, rfl, wy0⟩ := DataW.trod_int Try.underlying3 hy01
  simp at e00 e01
  subst e00 e01
  have s0 : ∀ (W' : World) (sp : Nat → Bool), DataW.Trod enc Try.prog W' 0 sp true 23 (.agg #[.int .i64 x0, .int .i64 y0]) (.agg [.lit (.int .i64 x0), .lit (.int .i64 y0)]) [] := fun W' sp =>
    shut_agg2 (y0 := (.lit (.int .i64 x0), [])) (y1 := (.lit (.int .i64 y0), [])) Try.underlying23 (by kernel_rfl) cellsC ⟨1, by simp [DataW.trod, Try.underlying3, wx0]⟩ ⟨1, by simp [DataW.trod, Try.underlying3, wy0]⟩
  obtain ⟨c10, c11, z10, z11, m1, rfl, rfl, rfl, hy10, hy11⟩ := open_agg2 Try.underlying23 (by kernel_rfl) cellsC (hval 1 23 v1 rfl rfl) h1
  obtain ⟨x1, e10, rfl, wx1⟩ := DataW.trod_int Try.underlying3 hy10
  obtain ⟨y1, e11, rfl, wy1⟩ := DataW.trod_int Try.underlying3 hy11
  simp at e10 e11
  subst e10 e11
  have s1 : ∀ (W' : World) (sp : Nat → Bool), DataW.Trod enc Try.prog W' 0 sp true 23 (.agg #[.int .i64 x1, .int .i64 y1]) (.agg [.lit (.int .i64 x1), .lit (.int .i64 y1)]) [] := fun W' sp =>
    shut_agg2 (y0 := (.lit (.int .i64 x1), [])) (y1 := (.lit (.int .i64 y1), [])) Try.underlying23 (by kernel_rfl) cellsC ⟨1, by simp [DataW.trod, Try.underlying3, wx1]⟩ ⟨1, by simp [DataW.trod, Try.underlying3, wy1]⟩
  obtain ⟨c20, c21, z20, z21, m2, rfl, rfl, rfl, hy20, hy21⟩ := open_agg2 Try.underlying23 (by kernel_rfl) cellsC (hval 2 23 v2 rfl rfl) h2
  obtain ⟨x2, e20, rfl, wx2⟩ := DataW.trod_int Try.underlying3 hy20
  obtain ⟨y2, e21, rfl, wy2⟩ := DataW.trod_int Try.underlying3 hy21
  simp at e20 e21
  subst e20 e21
  have s2 : ∀ (W' : World) (sp : Nat → Bool), DataW.Trod enc Try.prog W' 0 sp true 23 (.agg #[.int .i64 x2, .int .i64 y2]) (.agg [.lit (.int .i64 x2), .lit (.int .i64 y2)]) [] := fun W' sp =>
    shut_agg2 (y0 := (.lit (.int .i64 x2), [])) (y1 := (.lit (.int .i64 y2), [])) Try.underlying23 (by kernel_rfl) cellsC ⟨1, by simp [DataW.trod, Try.underlying3, wx2]⟩ ⟨1, by simp [DataW.trod, Try.underlying3, wy2]⟩
  obtain ⟨a3, rfl, rfl, rfl, w3⟩ := open_int Try.underlying3 (hval 3 3 v3 rfl rfl) h3
  obtain ⟨a4, rfl, rfl, rfl, w4⟩ := open_int Try.underlying3 (hval 4 3 v4 rfl rfl) h4
  obtain ⟨a5, rfl, rfl, rfl, w5⟩ := open_int Try.underlying3 (hval 5 3 v5 rfl rfl) h5
  clear hA0 hval0
  simp only [List.append_nil] at hW'
  refine (walk W x0 y0 x1 y1 x2 y2 a3 a4 a5 wx0 wy0 wx1 wy1 wx2 wy2 w3 w4 w5).mono fun e W' ⟨he, hg⟩ => ?_
  subst he
  exact ⟨_, rfl, post_gr (pa := []) (pv := []) hW' (fun _ _ _ => (trodAll_cons_mk (shut_bool Try.underlying4 _) trodAll_mk0)) (fun sp _ => (trodAll_cons_mk (s0 _ _) (trodAll_cons_mk (s1 _ _) (trodAll_cons_mk (s2 _ _) (trodAll_cons_mk (shut_int Try.underlying3 w3) (trodAll_cons_mk (shut_int Try.underlying3 w4) (trodAll_cons_mk (shut_int Try.underlying3 w5) trodAll_mk0))))))) (fun _ _ => rfl) rfl hg⟩

theorem over : Rows.twoPairsRow.holds Try.pinned (OpenSpec.ofChange Rows.twoPairsSpec) :=
  OpenClaim.holds_of_wide 3 Try.f3 rfl rfl rfl rfl rfl rfl rfl ⟨rfl, rfl, rfl, rfl, rfl⟩ rfl rfl rfl rfl rfl (by kernel_rfl) Try.func3 (by kernel_rfl)
    (of_decide_eq_true (by kernel_rfl)) (by unfold Func.isWrapper; first | (rw [if_pos (by decide +kernel)]; kernel_rfl) | (rw [if_neg (by decide +kernel)]; exact ⟨rfl, rfl⟩))
    (fun os started H enc _ => lifted os started H enc)

/-- THE STATEMENT -/
theorem proved : Rows.TwoPairsSaid :=
  over
#print axioms proved
end Go.Proofs.Ytkbfniogannlhaa.twoPairs
