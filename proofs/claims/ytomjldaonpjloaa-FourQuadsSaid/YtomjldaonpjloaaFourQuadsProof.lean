/- Proved: for every input, the law FourQuads answers true at this commit, and its arguments read afterwards as before. No condition. -/
import Derived.Test.YtomjldaonpjloaaRows
import Derived.WalkKit
import Derived.ProofKit
import Derived.OpenShut
import Derived.Lib.SmallJoins
import Derived.ChangeOld
import Derived.Below
import Derived.Test.YtomjldaonpjloaaFourQuadsCore
import Derived.Test.YtomjldaonpjloaaArr4
namespace Go.Proofs.Ytomjldaonpjloaa.fourQuads
open Go.ChangeShapes Go.WideShapes Go.ChangeAt Go.RowKit Go.Joins
set_option linter.unusedVariables false

theorem own : ownKnob Try.prog.godebug = none := by kernel_rfl



theorem bd_inB (l : Int) (a : Gi) : (inB l a.re && inB l a.im) = true ↔ Bd l a := by
  rw [Bool.and_eq_true, inB_iff, inB_iff]
  exact ⟨fun h => Bd.mk h, fun h => h.le⟩
theorem quads_all (f g : Nat → Gi) (b s mo : Int) (inv : Bool) (w : World) :
    Calls Try.prog 6 #[.agg #[.int .i64 (f 0).re, .int .i64 (f 0).im, .int .i64 (f 1).re, .int .i64 (f 1).im, .int .i64 (f 2).re, .int .i64 (f 2).im, .int .i64 (f 3).re, .int .i64 (f 3).im], .agg #[.int .i64 (g 0).re, .int .i64 (g 0).im, .int .i64 (g 1).re, .int .i64 (g 1).im, .int .i64 (g 2).re, .int .i64 (g 2).im, .int .i64 (g 3).re, .int .i64 (g 3).im], .int .i64 b, .int .i64 s, .int .i64 mo, .bool inv] w fun e w' => e = .returned (.bool true) ∧ Gr w w' := by
  by_cases hS : SetsOk2 b s mo
  · obtain ⟨B, rfl⟩ : ∃ B : Nat, b = (B : Int) := ⟨b.toNat, by have := hS.1.1; omega⟩
    obtain ⟨n, rfl⟩ : ∃ n : Nat, s = (n : Int) := ⟨s.toNat, by have := hS.2.1.1; omega⟩
    have hB : B ≤ 29 := by have := hS.1.2; omega
    have hn : n ≤ 3 := by have := hS.2.1.2; omega
    have m0 := hS.2.2.1
    have m1 := hS.2.2.2
    have hpw := pow29 B hB
    have HS := Lib.hid fun W => calls_gr (settings10_yes (B : Int) (n : Int) mo hS W)
    have HP31 : Hid (∀ W, Calls Try.prog 21 #[.int .i64 31] W fun e w' => e = .returned (.int .i64 2147483648) ∧ Gr W w') := Lib.hid fun W => calls_gr (pow_c 31 (by decide) (by decide) W)
    have HPB : Hid (∀ W, Calls Try.prog 21 #[.int .i64 (B : Int)] W fun e w' => e = .returned (.int .i64 (2 ^ B)) ∧ Gr W w') := Lib.hid fun W => calls_gr (pow_c (B : Int) (by omega) (by omega) W)
    have HV : Hid (∀ k, k < 4 → ∀ W, Calls Try.prog 20 #[.agg #[.int .i64 (f k).re, .int .i64 (f k).im], .int .i64 2147483648] W fun e w' => e = .returned (.bool (inB 2147483648 (f k).re && inB 2147483648 (f k).im)) ∧ Gr W w') := Lib.hid fun k _ W => rwithin_c _ _ 2147483648 (by decide) (by decide) W
    have HW : Hid (∀ k, k < 4 → ∀ W, Calls Try.prog 20 #[.agg #[.int .i64 (g k).re, .int .i64 (g k).im], .int .i64 (2 ^ B)] W fun e w' => e = .returned (.bool (inB (2 ^ B) (g k).re && inB (2 ^ B) (g k).im)) ∧ Gr W w') := Lib.hid fun k _ W => rwithin_c _ _ (2 ^ B) (by omega) (by omega) W
    by_cases hr : (∀ k, k < 4 → Bd 2147483648 (f k)) ∧ ∀ k, k < 4 → 1 ≤ k → Bd (2 ^ B) (g k)
    · obtain ⟨hf, hg⟩ := hr
      refine fourQuads_ok f g (vec4 (gscale B (f 0)) (gmul (f 1) (g 1)) (gmul (f 2) (g 2)) (gmul (f 3) (g 3))) (quadL B n mo inv f g) B n mo 2147483648 (2 ^ B) inv (fun k => inB 2147483648 (f k).re && inB 2147483648 (f k).im) (fun k => inB (2 ^ B) (g k).re && inB (2 ^ B) (g k).im)
        (Lib.hid fun k hk => ⟨(bd_inB _ _).2 (hf k hk), fun h1 => (bd_inB _ _).2 (hg k hk h1)⟩) (Lib.hid (fourQuad_ok B n mo inv f g hS hf hg)) HS HP31 HPB HV HW
        (Lib.hid (prods11_c (f 0) (f 1) (f 2) (f 3) (g 1) (g 2) (g 3) B hB (hf 0 (by omega)) (hf 1 (by omega)) (hf 2 (by omega)) (hf 3 (by omega)) (hg 1 (by omega) (by omega)) (hg 2 (by omega) (by omega)) (hg 3 (by omega) (by omega))))
        (Lib.hid fun q hq => out11_c (gscale B (f 0)) (gmul (f 1) (g 1)) (gmul (f 2) (g 2)) (gmul (f 3) (g 3)) q B n mo inv hq hB hn m0 m1
          ((Bd.scale (hf 0 (by omega)) B).mono (by omega)) ((Bd.mul (hf 1 (by omega)) (hg 1 (by omega) (by omega))).mono (by omega)) ((Bd.mul (hf 2 (by omega)) (hg 2 (by omega) (by omega))).mono (by omega)) ((Bd.mul (hf 3 (by omega)) (hg 3 (by omega) (by omega))).mono (by omega)))
        (Lib.hid alive11_c) w
    · refine fourQuads_range f g B n mo 2147483648 (2 ^ B) inv (fun k => inB 2147483648 (f k).re && inB 2147483648 (f k).im) (fun k => inB (2 ^ B) (g k).re && inB (2 ^ B) (g k).im) ?_ (Lib.hid (fourQuad_range B n mo inv f g hS hr)) HS HP31 HPB HV HW (Lib.hid alive11_c) w
      refine Classical.byContradiction fun hno => hr ⟨fun k hk => (bd_inB _ _).1 ?_, fun k hk h1 => (bd_inB _ _).1 ?_⟩
      · cases hv : (inB 2147483648 (f k).re && inB 2147483648 (f k).im)
        · exact absurd ⟨k, hk, .inl hv⟩ hno
        · rfl
      · cases hv : (inB (2 ^ B) (g k).re && inB (2 ^ B) (g k).im)
        · exact absurd ⟨k, hk, .inr ⟨h1, hv⟩⟩ hno
        · rfl
  · exact fourQuads_arg f g b s mo inv (Lib.hid (fourQuad_arg b s mo inv f g hS)) (Lib.hid fun W => calls_gr (settings10_no b s mo hS W)) (Lib.hid alive11_c) w

set_option maxHeartbeats 4000000 in
set_option maxRecDepth 100000 in
theorem walk (w : World) (q0x0 q0y0 q0x1 q0y1 q0x2 q0y2 q0x3 q0y3 : Int) (q1x0 q1y0 q1x1 q1y1 q1x2 q1y2 q1x3 q1y3 : Int) (a2 : Int) (a3 : Int) (a4 : Int) (a5 : Bool) (v00 : (Lit.int .i64 q0x0).wf = true ∧ (Lit.int .i64 q0y0).wf = true) (v01 : (Lit.int .i64 q0x1).wf = true ∧ (Lit.int .i64 q0y1).wf = true) (v02 : (Lit.int .i64 q0x2).wf = true ∧ (Lit.int .i64 q0y2).wf = true) (v03 : (Lit.int .i64 q0x3).wf = true ∧ (Lit.int .i64 q0y3).wf = true) (v10 : (Lit.int .i64 q1x0).wf = true ∧ (Lit.int .i64 q1y0).wf = true) (v11 : (Lit.int .i64 q1x1).wf = true ∧ (Lit.int .i64 q1y1).wf = true) (v12 : (Lit.int .i64 q1x2).wf = true ∧ (Lit.int .i64 q1y2).wf = true) (v13 : (Lit.int .i64 q1x3).wf = true ∧ (Lit.int .i64 q1y3).wf = true) (w2 : (Lit.int .i64 a2).wf = true) (w3 : (Lit.int .i64 a3).wf = true) (w4 : (Lit.int .i64 a4).wf = true) :
    Calls Try.prog 6 #[.agg #[.int .i64 q0x0, .int .i64 q0y0, .int .i64 q0x1, .int .i64 q0y1, .int .i64 q0x2, .int .i64 q0y2, .int .i64 q0x3, .int .i64 q0y3], .agg #[.int .i64 q1x0, .int .i64 q1y0, .int .i64 q1x1, .int .i64 q1y1, .int .i64 q1x2, .int .i64 q1y2, .int .i64 q1x3, .int .i64 q1y3], .int .i64 a2, .int .i64 a3, .int .i64 a4, .bool a5] w fun e w' => e = .returned (.bool true) ∧ Gr w w' := by
  exact quads_all (vec4 ⟨q0x0, q0y0⟩ ⟨q0x1, q0y1⟩ ⟨q0x2, q0y2⟩ ⟨q0x3, q0y3⟩) (vec4 ⟨q1x0, q1y0⟩ ⟨q1x1, q1y1⟩ ⟨q1x2, q1y2⟩ ⟨q1x3, q1y3⟩) a2 a3 a4 a5 w

set_option maxHeartbeats 4000000 in
set_option maxRecDepth 100000 in
theorem lifted (os : Os) (started : os.Started) (H : Type) (enc : TypeId × Value → H) :
    ReturnsInHanded {} Try.checked os 6 .any (Rows.fourQuadsSpec.pre6 enc Try.prog Try.f6 Rows.fourQuadsRow.domain false) (Rows.fourQuadsSpec.post enc Try.prog Try.f6 false true false false) := by
  refine returnsInHanded_of_change (C := Try.checked) own started (by kernel_rfl) Try.func6
    (ChangeSpec.witness6 (enc := enc) (C := Try.checked) false ⟨#[], #[.agg #[.int .i64 0, .int .i64 0, .int .i64 0, .int .i64 0, .int .i64 0, .int .i64 0, .int .i64 0, .int .i64 0], .agg #[.int .i64 0, .int .i64 0, .int .i64 0, .int .i64 0, .int .i64 0, .int .i64 0, .int .i64 0, .int .i64 0], .int .i64 0, .int .i64 0, .int .i64 0, .bool false], []⟩ 8 (by kernel_rfl) (by kernel_rfl) (by kernel_rfl) (by kernel_rfl)) ?_
  intro W base args ds gs before hval0 hW hcnd _
  have hval : ∀ (j : Nat) t v, Try.f6.params[j]? = some t → args[j]? = some v → Value.okWide Try.prog W .any base t v := hval0
  have hW' := hW
  obtain ⟨p, q, hA0, hV, rfl, hfz, hnd⟩ := hW
  have hA : DataW.TrodAll enc Try.prog W 0 (fun _ => true) true Try.f6.params.toList args.toList ds p := hA0
  rw [Try.params6] at hA hval
  obtain ⟨v0, vs0, d0, ds0, p0, q0, hargs, rfl, rfl, h0, r0⟩ := trodAll_cons hA
  obtain ⟨v1, vs1, d1, ds1, p1, q1, rfl, rfl, rfl, h1, r1⟩ := trodAll_cons r0
  obtain ⟨v2, vs2, d2, ds2, p2, q2, rfl, rfl, rfl, h2, r2⟩ := trodAll_cons r1
  obtain ⟨v3, vs3, d3, ds3, p3, q3, rfl, rfl, rfl, h3, r3⟩ := trodAll_cons r2
  obtain ⟨v4, vs4, d4, ds4, p4, q4, rfl, rfl, rfl, h4, r4⟩ := trodAll_cons r3
  obtain ⟨v5, vs5, d5, ds5, p5, q5, rfl, rfl, rfl, h5, r5⟩ := trodAll_cons r4
  obtain ⟨rfl, rfl, rfl⟩ := trodAll_nil r5
  obtain rfl : args = #[v0, v1, v2, v3, v4, v5] := by cases args; simp_all
  obtain ⟨rfl, rfl⟩ := trodVars_none hV
  obtain ⟨q0x0, q0y0, q0x1, q0y1, q0x2, q0y2, q0x3, q0y3, rfl, rfl, s0, v00, v01, v02, v03⟩ := arr4_open (hval 0 40 v0 rfl rfl) h0
  obtain ⟨q1x0, q1y0, q1x1, q1y1, q1x2, q1y2, q1x3, q1y3, rfl, rfl, s1, v10, v11, v12, v13⟩ := arr4_open (hval 1 40 v1 rfl rfl) h1
  obtain ⟨a2, rfl, rfl, rfl, w2⟩ := open_int Try.underlying3 (hval 2 3 v2 rfl rfl) h2
  obtain ⟨a3, rfl, rfl, rfl, w3⟩ := open_int Try.underlying3 (hval 3 3 v3 rfl rfl) h3
  obtain ⟨a4, rfl, rfl, rfl, w4⟩ := open_int Try.underlying3 (hval 4 3 v4 rfl rfl) h4
  obtain ⟨a5, rfl, rfl, rfl⟩ := open_bool Try.underlying4 (hval 5 4 v5 rfl rfl) h5
  clear hA0 hval0
  simp only [List.append_nil] at hW'
  refine (walk W q0x0 q0y0 q0x1 q0y1 q0x2 q0y2 q0x3 q0y3 q1x0 q1y0 q1x1 q1y1 q1x2 q1y2 q1x3 q1y3 a2 a3 a4 a5 v00 v01 v02 v03 v10 v11 v12 v13 w2 w3 w4).mono fun e W' ⟨he, hg⟩ => ?_
  subst he
  exact ⟨_, rfl, post_gr (pa := []) (pv := []) hW' (fun _ _ _ => (trodAll_cons_mk (shut_bool Try.underlying4 _) trodAll_mk0)) (fun sp _ => (trodAll_cons_mk (s0 _ _) (trodAll_cons_mk (s1 _ _) (trodAll_cons_mk (shut_int Try.underlying3 w2) (trodAll_cons_mk (shut_int Try.underlying3 w3) (trodAll_cons_mk (shut_int Try.underlying3 w4) (trodAll_cons_mk (shut_bool Try.underlying4 a5) trodAll_mk0))))))) (fun _ _ => rfl) rfl hg⟩

theorem over : Rows.fourQuadsRow.holds Try.pinned (OpenSpec.ofChange Rows.fourQuadsSpec) :=
  OpenClaim.holds_of_wide 6 Try.f6 rfl rfl rfl rfl rfl rfl rfl ⟨rfl, rfl, rfl, rfl, rfl⟩ rfl rfl rfl rfl rfl (by kernel_rfl) Try.func6 (by kernel_rfl)
    (of_decide_eq_true (by kernel_rfl)) (by unfold Func.isWrapper; first | (rw [if_pos (by decide +kernel)]; kernel_rfl) | (rw [if_neg (by decide +kernel)]; exact ⟨rfl, rfl⟩))
    (fun os started H enc _ => lifted os started H enc)

/-- THE STATEMENT -/
theorem proved : Rows.FourQuadsSaid :=
  over
#print axioms proved
end Go.Proofs.Ytomjldaonpjloaa.fourQuads
