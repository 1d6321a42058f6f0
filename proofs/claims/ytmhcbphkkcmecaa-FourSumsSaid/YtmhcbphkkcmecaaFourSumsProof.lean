/- Proved: for every input, the law FourSums answers true at this commit, and its arguments read afterwards as before. No condition. -/
import Derived.Test.YtmhcbphkkcmecaaRows
import Derived.WalkKit
import Derived.ProofKit
import Derived.OpenShut
import Derived.Lib.SmallJoins
import Derived.ChangeOld
import Derived.Below
import Derived.Test.YtmhcbphkkcmecaaFourSumsCore
import Derived.Test.YtmhcbphkkcmecaaArr4
namespace Go.Proofs.Ytmhcbphkkcmecaa.fourSums
open Go.ChangeShapes Go.WideShapes Go.ChangeAt Go.RowKit Go.Joins
set_option linter.unusedVariables false

theorem own : ownKnob Try.prog.godebug = none := by kernel_rfl



theorem sum4_nums (x k : Int) (n : Nat) (hn : n ≤ 3) (hx : -137438953472 ≤ x ∧ x ≤ 137438953472) (hk : -2147483648 ≤ k ∧ k ≤ 2147483648) :
    IntKind.i64.wrap (x * 2 ^ min (n : Int).toNat 64) = x * 2 ^ n ∧ IntKind.i64.wrap (4 * k) = 4 * k ∧ IntKind.i64.wrap (x * 2 ^ n - 4 * k) = x * 2 ^ n - 4 * k ∧ wrap64 (-(x * 2 ^ n - 4 * k)) = -(x * 2 ^ n - 4 * k) ∧ wrap64 (4 * 2 ^ min (n : Int).toNat 64) = 4 * 2 ^ n := by
  rw [show min (n : Int).toNat 64 = n by omega]
  have hc : n = 0 ∨ n = 1 ∨ n = 2 ∨ n = 3 := by omega
  rcases hc with rfl | rfl | rfl | rfl
  all_goals
    exact ⟨IntWalk.i64_in _ ⟨by omega, by omega⟩, IntWalk.i64_in _ ⟨by omega, by omega⟩, IntWalk.i64_in _ ⟨by omega, by omega⟩, IntWalk.wrap64_in _ ⟨by omega, by omega⟩, IntWalk.wrap64_in _ ⟨by omega, by omega⟩⟩

theorem sums4_all (f g : Nat → Gi) (b s mo : Int) (inv : Bool) (w : World) :
    Calls Try.prog 5 #[.agg #[.int .i64 (f 0).re, .int .i64 (f 0).im, .int .i64 (f 1).re, .int .i64 (f 1).im, .int .i64 (f 2).re, .int .i64 (f 2).im, .int .i64 (f 3).re, .int .i64 (f 3).im], .agg #[.int .i64 (g 0).re, .int .i64 (g 0).im, .int .i64 (g 1).re, .int .i64 (g 1).im, .int .i64 (g 2).re, .int .i64 (g 2).im, .int .i64 (g 3).re, .int .i64 (g 3).im], .int .i64 b, .int .i64 s, .int .i64 mo, .bool inv] w fun e w' => e = .returned (.bool true) ∧ Gr w w' := by
  by_cases hS : SetsOk2 b s mo
  · obtain ⟨B, rfl⟩ : ∃ B : Nat, b = (B : Int) := ⟨b.toNat, by have := hS.1.1; omega⟩
    obtain ⟨n, rfl⟩ : ∃ n : Nat, s = (n : Int) := ⟨s.toNat, by have := hS.2.1.1; omega⟩
    have hn : n ≤ 3 := by have := hS.2.1.2; omega
    have hmo : mo = 0 ∨ mo = 1 ∨ mo = 2 := by have := hS.2.2; omega
    by_cases hr : (∀ k, k < 4 → Bd 2147483648 (f k)) ∧ ∀ k, k < 4 → 1 ≤ k → Bd (2 ^ B) (g k)
    · have HQ := Lib.hid (fourQuad_ok B n mo inv f g hS hr.1 hr.2)
      have hq := quad_sums B n mo inv (f 0) (f 1) (f 2) (f 3) (g 1) (g 2) (g 3) hmo
      have hV : ∀ k : Nat, k < 4 → -17179869184 ≤ (quadL B n mo inv f g k).re ∧ (quadL B n mo inv f g k).re ≤ 17179869184 ∧ -17179869184 ≤ (quadL B n mo inv f g k).im ∧ (quadL B n mo inv f g k).im ≤ 17179869184 := fun k hk => by
        have h := quad_grow B n mo inv (k : Int) 2147483648 (f 0) (f 1) (f 2) (f 3) (g 1) (g 2) (g 3) hmo (hr.1 0 (by omega)) (hr.1 1 (by omega)) (hr.1 2 (by omega)) (hr.1 3 (by omega)) (hr.2 1 (by omega) (by omega)) (hr.2 2 (by omega) (by omega)) (hr.2 3 (by omega) (by omega))
        have hc : n = 0 ∨ n = 1 ∨ n = 2 ∨ n = 3 := by omega
        have e0 : quadL B n mo inv f g k = quadOut B n mo inv k (f 0) (f 1) (f 2) (f 3) (g 1) (g 2) (g 3) := rfl
        rw [e0]
        generalize quadOut B n mo inv k (f 0) (f 1) (f 2) (f 3) (g 1) (g 2) (g 3) = G at *
        have key : ∀ z : Int, (absI z - 1) * 2 ^ n ≤ 7 * 2147483648 → -17179869184 ≤ z ∧ z ≤ 17179869184 := fun z hz => by
          have hb : absI z ≤ 17179869184 := by
            rcases hc with e | e | e | e <;> rw [e] at hz <;> omega
          exact absI_le.1 hb
        exact ⟨(key _ h.1).1, (key _ h.1).2, (key _ h.2).1, (key _ h.2).2⟩
      have a0 := (hr.1 0 (by omega)).le
      have v0 := hV 0 (by omega)
      have v1 := hV 1 (by omega)
      have v2 := hV 2 (by omega)
      have v3 := hV 3 (by omega)
      have hs1 : absI (((quadL B n mo inv f g 0).re + (quadL B n mo inv f g 1).re + (quadL B n mo inv f g 2).re + (quadL B n mo inv f g 3).re) * 2 ^ n - 4 * (f 0).re) ≤ 4 * 2 ^ n := hq.1
      have hs2 : absI (((quadL B n mo inv f g 0).im + (quadL B n mo inv f g 1).im + (quadL B n mo inv f g 2).im + (quadL B n mo inv f g 3).im) * 2 ^ n - 4 * (f 0).im) ≤ 4 * 2 ^ n := hq.2
      have k1 := sum4_nums ((quadL B n mo inv f g 0).re + (quadL B n mo inv f g 1).re + (quadL B n mo inv f g 2).re + (quadL B n mo inv f g 3).re) (f 0).re n hn (by omega) a0.1
      have k2 := sum4_nums ((quadL B n mo inv f g 0).im + (quadL B n mo inv f g 1).im + (quadL B n mo inv f g 2).im + (quadL B n mo inv f g 3).im) (f 0).im n hn (by omega) a0.2
      obtain ⟨N, hN, hNc⟩ := max4_cases (((quadL B n mo inv f g 0).re + (quadL B n mo inv f g 1).re + (quadL B n mo inv f g 2).re + (quadL B n mo inv f g 3).re) * 2 ^ n - 4 * (f 0).re) (-(((quadL B n mo inv f g 0).re + (quadL B n mo inv f g 1).re + (quadL B n mo inv f g 2).re + (quadL B n mo inv f g 3).re) * 2 ^ n - 4 * (f 0).re))
        (((quadL B n mo inv f g 0).im + (quadL B n mo inv f g 1).im + (quadL B n mo inv f g 2).im + (quadL B n mo inv f g 3).im) * 2 ^ n - 4 * (f 0).im) (-(((quadL B n mo inv f g 0).im + (quadL B n mo inv f g 1).im + (quadL B n mo inv f g 2).im + (quadL B n mo inv f g 3).im) * 2 ^ n - 4 * (f 0).im))
      have l1 := absI_le.1 hs1
      have l2 := absI_le.1 hs2
      have hle : N ≤ 4 * 2 ^ n := by
        rcases hNc with h | h | h | h <;> rw [h]
        · exact l1.2
        · have := l1.1; exact Int.neg_le_of_neg_le this
        · exact l2.2
        · have := l2.1; exact Int.neg_le_of_neg_le this
      exact fourSums_ok f g (quadL B n mo inv f g) B n mo inv _ _ _ _ _ _ _ N (by omega) (Lib.hid ⟨k1.1, k2.1, k1.2.1, k2.2.1, k1.2.2.1, k2.2.2.1, k1.2.2.2.1, k2.2.2.2.1, k1.2.2.2.2⟩) hN hle (Lib.hid hV) HQ (Lib.hid alive11_c) w
    · exact fourSums_bad f g B n mo 2 inv rfl (Lib.hid (fourQuad_range B n mo inv f g hS hr)) (Lib.hid alive11_c) w
  · exact fourSums_bad f g b s mo 1 inv rfl (Lib.hid (fourQuad_arg b s mo inv f g hS)) (Lib.hid alive11_c) w


set_option maxHeartbeats 4000000 in
set_option maxRecDepth 100000 in
theorem walk (w : World) (q0x0 q0y0 q0x1 q0y1 q0x2 q0y2 q0x3 q0y3 : Int) (q1x0 q1y0 q1x1 q1y1 q1x2 q1y2 q1x3 q1y3 : Int) (a2 : Int) (a3 : Int) (a4 : Int) (a5 : Bool) (v00 : (Lit.int .i64 q0x0).wf = true ∧ (Lit.int .i64 q0y0).wf = true) (v01 : (Lit.int .i64 q0x1).wf = true ∧ (Lit.int .i64 q0y1).wf = true) (v02 : (Lit.int .i64 q0x2).wf = true ∧ (Lit.int .i64 q0y2).wf = true) (v03 : (Lit.int .i64 q0x3).wf = true ∧ (Lit.int .i64 q0y3).wf = true) (v10 : (Lit.int .i64 q1x0).wf = true ∧ (Lit.int .i64 q1y0).wf = true) (v11 : (Lit.int .i64 q1x1).wf = true ∧ (Lit.int .i64 q1y1).wf = true) (v12 : (Lit.int .i64 q1x2).wf = true ∧ (Lit.int .i64 q1y2).wf = true) (v13 : (Lit.int .i64 q1x3).wf = true ∧ (Lit.int .i64 q1y3).wf = true) (w2 : (Lit.int .i64 a2).wf = true) (w3 : (Lit.int .i64 a3).wf = true) (w4 : (Lit.int .i64 a4).wf = true) :
    Calls Try.prog 5 #[.agg #[.int .i64 q0x0, .int .i64 q0y0, .int .i64 q0x1, .int .i64 q0y1, .int .i64 q0x2, .int .i64 q0y2, .int .i64 q0x3, .int .i64 q0y3], .agg #[.int .i64 q1x0, .int .i64 q1y0, .int .i64 q1x1, .int .i64 q1y1, .int .i64 q1x2, .int .i64 q1y2, .int .i64 q1x3, .int .i64 q1y3], .int .i64 a2, .int .i64 a3, .int .i64 a4, .bool a5] w fun e w' => e = .returned (.bool true) ∧ Gr w w' := by
  exact sums4_all (vec4 ⟨q0x0, q0y0⟩ ⟨q0x1, q0y1⟩ ⟨q0x2, q0y2⟩ ⟨q0x3, q0y3⟩) (vec4 ⟨q1x0, q1y0⟩ ⟨q1x1, q1y1⟩ ⟨q1x2, q1y2⟩ ⟨q1x3, q1y3⟩) a2 a3 a4 a5 w

set_option maxHeartbeats 4000000 in
set_option maxRecDepth 100000 in
theorem lifted (os : Os) (started : os.Started) (H : Type) (enc : TypeId × Value → H) :
    ReturnsInHanded {} Try.checked os 5 .any (Rows.fourSumsSpec.pre6 enc Try.prog Try.f5 Rows.fourSumsRow.domain false) (Rows.fourSumsSpec.post enc Try.prog Try.f5 false true false false) := by
  refine returnsInHanded_of_change (C := Try.checked) own started (by kernel_rfl) Try.func5
    (ChangeSpec.witness6 (enc := enc) (C := Try.checked) false ⟨#[], #[.agg #[.int .i64 0, .int .i64 0, .int .i64 0, .int .i64 0, .int .i64 0, .int .i64 0, .int .i64 0, .int .i64 0], .agg #[.int .i64 0, .int .i64 0, .int .i64 0, .int .i64 0, .int .i64 0, .int .i64 0, .int .i64 0, .int .i64 0], .int .i64 0, .int .i64 0, .int .i64 0, .bool false], []⟩ 8 (by kernel_rfl) (by kernel_rfl) (by kernel_rfl) (by kernel_rfl)) ?_
  intro W base args ds gs before hval0 hW hcnd _
  have hval : ∀ (j : Nat) t v, Try.f5.params[j]? = some t → args[j]? = some v → Value.okWide Try.prog W .any base t v := hval0
  have hW' := hW
  obtain ⟨p, q, hA0, hV, rfl, hfz, hnd⟩ := hW
  have hA : DataW.TrodAll enc Try.prog W 0 (fun _ => true) true Try.f5.params.toList args.toList ds p := hA0
  rw [Try.params5] at hA hval
  obtain ⟨v0, vs0, d0, ds0, p0, q0, hargs, rfl, rfl, h0, r0⟩ := trodAll_cons hA
  obtain ⟨v1, vs1, d1, ds1, p1, q1, rfl, rfl, rfl, h1, r1⟩ := trodAll_cons r0
  obtain ⟨v2, vs2, d2, ds2, p2, q2, rfl, rfl, rfl, h2, r2⟩ := trodAll_cons r1
  obtain ⟨v3, vs3, d3, ds3, p3, q3, rfl, rfl, rfl, h3, r3⟩ := trodAll_cons r2
  obtain ⟨v4, vs4, d4, ds4, p4, q4, rfl, rfl, rfl, h4, r4⟩ := trodAll_cons r3
  obtain ⟨v5, vs5, d5, ds5, p5, q5, rfl, rfl, rfl, h5, r5⟩ := trodAll_cons r4
  obtain ⟨rfl, rfl, rfl⟩ := trodAll_nil r5
  obtain rfl : args = #[v0, v1, v2, v3, v4, v5] := by cases args; simp_all
  obtain ⟨rfl, rfl⟩ := trodVars_none hV
  obtain ⟨q0x0, q0y0, q0x1, q0y1, q0x2, q0y2, q0x3, q0y3, rfl, rfl, s0, v00, v01, v02, v03⟩ := arr4_open (hval 0 24 v0 rfl rfl) h0
  obtain ⟨q1x0, q1y0, q1x1, q1y1, q1x2, q1y2, q1x3, q1y3, rfl, rfl, s1, v10, v11, v12, v13⟩ := arr4_open (hval 1 24 v1 rfl rfl) h1
  obtain ⟨a2, rfl, rfl, rfl, w2⟩ := open_int Try.underlying3 (hval 2 3 v2 rfl rfl) h2
  obtain ⟨a3, rfl, rfl, rfl, w3⟩ := open_int Try.underlying3 (hval 3 3 v3 rfl rfl) h3
  obtain ⟨a4, rfl, rfl, rfl, w4⟩ := open_int Try.underlying3 (hval 4 3 v4 rfl rfl) h4
  obtain ⟨a5, rfl, rfl, rfl⟩ := open_bool Try.underlying4 (hval 5 4 v5 rfl rfl) h5
  clear hA0 hval0
  simp only [List.append_nil] at hW'
  refine (walk W q0x0 q0y0 q0x1 q0y1 q0x2 q0y2 q0x3 q0y3 q1x0 q1y0 q1x1 q1y1 q1x2 q1y2 q1x3 q1y3 a2 a3 a4 a5 v00 v01 v02 v03 v10 v11 v12 v13 w2 w3 w4).mono fun e W' ⟨he, hg⟩ => ?_
  subst he
  exact ⟨_, rfl, post_gr (pa := []) (pv := []) hW' (fun _ _ _ => (trodAll_cons_mk (shut_bool Try.underlying4 _) trodAll_mk0)) (fun sp _ => (trodAll_cons_mk (s0 _ _) (trodAll_cons_mk (s1 _ _) (trodAll_cons_mk (shut_int Try.underlying3 w2) (trodAll_cons_mk (shut_int Try.underlying3 w3) (trodAll_cons_mk (shut_int Try.underlying3 w4) (trodAll_cons_mk (shut_bool Try.underlying4 a5) trodAll_mk0))))))) (fun _ _ => rfl) rfl hg⟩

theorem over : Rows.fourSumsRow.holds Try.pinned (OpenSpec.ofChange Rows.fourSumsSpec) :=
  OpenClaim.holds_of_wide 5 Try.f5 rfl rfl rfl rfl rfl rfl rfl ⟨rfl, rfl, rfl, rfl, rfl⟩ rfl rfl rfl rfl rfl (by kernel_rfl) Try.func5 (by kernel_rfl)
    (of_decide_eq_true (by kernel_rfl)) (by unfold Func.isWrapper; first | (rw [if_pos (by decide +kernel)]; kernel_rfl) | (rw [if_neg (by decide +kernel)]; exact ⟨rfl, rfl⟩))
    (fun os started H enc _ => lifted os started H enc)

/-- THE STATEMENT -/
theorem proved : Rows.FourSumsSaid :=
  over
#print axioms proved
end Go.Proofs.Ytmhcbphkkcmecaa.fourSums
