import Derived.Test.YtdignnmpfkgkoaaGreatRows
import Derived.WalkKit
import Derived.ProofKit
import Derived.OpenShut
import Derived.Lib.SmallJoins
import Derived.ChangeOld
import Derived.Below
import Derived.Test.YtdignnmpfkgkoaaGreatRealBinsS45
namespace Go.Proofs.YtdignnmpfkgkoaaGreat.realBins
open Go.ChangeShapes Go.WideShapes Go.ChangeAt Go.RowKit Go.Joins
set_option linter.unusedVariables false

theorem own : ownKnob Tryz.prog.godebug = none := by kernel_rfl
theorem laidOut : laidOutB Tryz.prog = true := by kernel_rfl



set_option maxHeartbeats 4000000 in
set_option maxRecDepth 100000 in
theorem walk (w : World) (sp0 : Option Addr) (sc0 : Nat) (ls0 : List Int) (fo1 lo1 ke1 sc1 mo1 : Int) (iv1 : Bool) (wl0 : ∀ g ∈ ls0, (Lit.int .i64 g).wf = true) (hl0 : NumsAt w (.slice sp0 ls0.length sc0) ls0) (v1 : (Lit.int .i64 fo1).wf = true ∧ (Lit.int .i64 lo1).wf = true ∧ (Lit.int .i64 ke1).wf = true ∧ (Lit.int .i64 sc1).wf = true ∧ (Lit.int .i64 mo1).wf = true) :
    Calls Tryz.prog 3 #[.slice sp0 ls0.length sc0, .agg #[.int .i64 fo1, .int .i64 lo1, .int .i64 ke1, .int .i64 sc1, .int .i64 mo1, .bool iv1]] w fun e w' => e = .returned (.bool true) ∧ Gr w w' := by
  obtain ⟨m1, hm1, h140, hmin1⟩ := cut140 ls0.length
  obtain ⟨hc1, hl1, hcap1, _⟩ := hl0.cut m1 hm1
  exact realBins_all sp0 ls0.length sc0 m1 fo1 lo1 ke1 sc1 mo1 iv1 (ls0.take m1) hl1 h140 hcap1 hmin1 w hc1

set_option maxHeartbeats 4000000 in
set_option maxRecDepth 100000 in
theorem lifted (os : Os) (started : os.Started) (H : Type) (enc : TypeId × Value → H) :
    ReturnsInHanded {} Tryz.checked os 3 .any (Rows.realBinsSpec.pre6 enc Tryz.prog Tryz.f3 Rows.realBinsRow.domain false) (Rows.realBinsSpec.post enc Tryz.prog Tryz.f3 false true false false) := by
  refine returnsInHanded_of_change (C := Tryz.checked) own started (by kernel_rfl) Tryz.func3
    (ChangeSpec.witness6 (enc := enc) (C := Tryz.checked) false ⟨#[], #[.slice none 0 0, .agg #[.int .i64 0, .int .i64 0, .int .i64 0, .int .i64 0, .int .i64 0, .bool false]], []⟩ 8 (by kernel_rfl) (by kernel_rfl) (by kernel_rfl) (by kernel_rfl)) ?_
  intro W base args ds gs before hval0 hW hcnd _
  have hval : ∀ (j : Nat) t v, Tryz.f3.params[j]? = some t → args[j]? = some v → Value.okWide Tryz.prog W .any base t v := hval0
  have hW' := hW
  obtain ⟨p, q, hA0, hV, rfl, hfz, hnd⟩ := hW
  have hA : DataW.TrodAll enc Tryz.prog W 0 (fun _ => true) true Tryz.f3.params.toList args.toList ds p := hA0
  rw [Tryz.params3] at hA hval
  obtain ⟨v0, vs0, d0, ds0, p0, q0, hargs, rfl, rfl, h0, r0⟩ := trodAll_cons hA
  obtain ⟨v1, vs1, d1, ds1, p1, q1, rfl, rfl, rfl, h1, r1⟩ := trodAll_cons r0
  obtain ⟨rfl, rfl, rfl⟩ := trodAll_nil r1
  obtain rfl : args = #[v0, v1] := by cases args; simp_all
  obtain ⟨rfl, rfl⟩ := trodVars_none hV
  obtain ⟨sp0, sn0, sc0, rfl⟩ := okWide_slice Tryz.underlying22 (hval 0 22 v0 rfl rfl)
  have k0 := h0
  have lt0 : ∀ x ∈ p0, x.block < W.heap.size := by obtain ⟨m, hm⟩ := k0; exact DataW.trod_lt m _ _ _ hm
  obtain ⟨ls0, rfl, hl0, wl0⟩ : ∃ xs : List Int, sn0 = xs.length ∧ NumsAt W (.slice sp0 sn0 sc0) xs ∧ ∀ g ∈ xs, (Lit.int .i64 g).wf = true := by
    obtain ⟨fuel, hf⟩ := h0
    exact nums_open hf
  obtain ⟨fo1, lo1, ke1, sc1, mo1, iv1, rfl, rfl, s1, v1⟩ := plan_open (hval 1 24 v1 rfl rfl) h1
  clear hA0 hval0
  refine (walk W sp0 sc0 ls0 fo1 lo1 ke1 sc1 mo1 iv1 wl0 hl0 v1).mono fun e W' ⟨he, hg⟩ => ?_
  subst he
  exact ⟨_, rfl, _, _, _, [], _, [], hW', trodAll_mk1 (shut_bool Tryz.underlying4 _), (trodAll_cons_mk (Below.trod laidOut (by kernel_rfl) (of_decide_eq_true (by kernel_rfl)) k0 hg.out lt0) (trodAll_cons_mk (s1 _ _) trodAll_mk0)), rfl, hg.out.frame _, fun h => by cases h⟩

theorem over : Rows.realBinsRow.holds Tryz.pinned (OpenSpec.ofChange Rows.realBinsSpec) :=
  OpenClaim.holds_of_wide 3 Tryz.f3 rfl rfl rfl rfl rfl rfl rfl ⟨rfl, rfl, rfl, rfl, rfl⟩ rfl rfl rfl rfl rfl (by kernel_rfl) Tryz.func3 (by kernel_rfl)
    (of_decide_eq_true (by kernel_rfl)) (by unfold Func.isWrapper; first | (rw [if_pos (by decide +kernel)]; kernel_rfl) | (rw [if_neg (by decide +kernel)]; exact ⟨rfl, rfl⟩))
    (fun os started H enc _ => lifted os started H enc)

/-- THE STATEMENT -/
theorem proved : Rows.RealBinsSaid :=
  over
#print axioms proved
end Go.Proofs.YtdignnmpfkgkoaaGreat.realBins
