/- Proved: for every input, the law DftBins answers true at this commit, and its arguments read afterwards as before. No condition. -/
import Derived.Test.YtpkkokcidbcopaaGreatRows
import Derived.WalkKit
import Derived.ProofKit
import Derived.OpenShut
import Derived.Lib.SmallJoins
import Derived.ChangeOld
import Derived.Below
import Derived.Test.YtpkkokcidbcopaaGreatLaw16a
import Derived.Test.YtpkkokcidbcopaaGreatCxs
namespace Go.Proofs.YtpkkokcidbcopaaGreat.dftBins
open Go.ChangeShapes Go.WideShapes Go.ChangeAt Go.RowKit Go.Joins
set_option linter.unusedVariables false

theorem own : ownKnob Tryz.prog.godebug = none := by kernel_rfl
theorem laidOut : laidOutB Tryz.prog = true := by kernel_rfl



set_option maxHeartbeats 4000000 in
set_option maxRecDepth 100000 in
theorem walk (w : World) (sp0 : Option Addr) (sc0 : Nat) (xs0 : List Gi) (a1 : Int) (a2 : Bool) (wx0 : ∀ g ∈ xs0, (Lit.int .i64 g.re).wf = true ∧ (Lit.int .i64 g.im).wf = true) (hx0 : CxsAt w (.slice sp0 xs0.length sc0) xs0) (w1 : (Lit.int .i64 a1).wf = true) :
    Calls Tryz.prog 3 #[.slice sp0 xs0.length sc0, .int .i64 a1, .bool a2] w fun e w' => e = .returned (.bool true) ∧ Gr w w' := by
  have W1 := bounds_i64 w1
  obtain ⟨m1, hm1, h71, hmin1⟩ := cut70 xs0.length
  obtain ⟨hc1, hl1, hcap1, _⟩ := hx0.cut m1 hm1
  exact dftBins_all sp0 xs0.length sc0 m1 (xs0.take m1) hcap1 hmin1 a1 a2 hl1 W1 w hc1

set_option maxHeartbeats 4000000 in
set_option maxRecDepth 100000 in
theorem lifted (os : Os) (started : os.Started) (H : Type) (enc : TypeId × Value → H) :
    ReturnsInHanded {} Tryz.checked os 3 .any (Rows.dftBinsSpec.pre6 enc Tryz.prog Tryz.f3 Rows.dftBinsRow.domain false) (Rows.dftBinsSpec.post enc Tryz.prog Tryz.f3 false true false false) := by
  refine returnsInHanded_of_change (C := Tryz.checked) own started (by kernel_rfl) Tryz.func3
    (ChangeSpec.witness6 (enc := enc) (C := Tryz.checked) false ⟨#[], #[.slice none 0 0, .int .i64 0, .bool false], []⟩ 8 (by kernel_rfl) (by kernel_rfl) (by kernel_rfl) (by kernel_rfl)) ?_
  intro W base args ds gs before hval0 hW hcnd _
  have hval : ∀ (j : Nat) t v, Tryz.f3.params[j]? = some t → args[j]? = some v → Value.okWide Tryz.prog W .any base t v := hval0
  have hW' := hW
  obtain ⟨p, q, hA0, hV, rfl, hfz, hnd⟩ := hW
  have hA : DataW.TrodAll enc Tryz.prog W 0 (fun _ => true) true Tryz.f3.params.toList args.toList ds p := hA0
  rw [Tryz.params3] at hA hval
  obtain ⟨v0, vs0, d0, ds0, p0, q0, hargs, rfl, rfl, h0, r0⟩ := trodAll_cons hA
  obtain ⟨v1, vs1, d1, ds1, p1, q1, rfl, rfl, rfl, h1, r1⟩ := trodAll_cons r0
  obtain ⟨v2, vs2, d2, ds2, p2, q2, rfl, rfl, rfl, h2, r2⟩ := trodAll_cons r1
  obtain ⟨rfl, rfl, rfl⟩ := trodAll_nil r2
  obtain rfl : args = #[v0, v1, v2] := by cases args; simp_all
  obtain ⟨rfl, rfl⟩ := trodVars_none hV
  obtain ⟨sp0, sn0, sc0, rfl⟩ := okWide_slice Tryz.underlying22 (hval 0 22 v0 rfl rfl)
  have k0 := h0
  have lt0 : ∀ x ∈ p0, x.block < W.heap.size := by obtain ⟨m, hm⟩ := k0; exact DataW.trod_lt m _ _ _ hm
  obtain ⟨xs0, rfl, hx0, wx0⟩ : ∃ xs : List Gi, sn0 = xs.length ∧ CxsAt W (.slice sp0 sn0 sc0) xs ∧ ∀ g ∈ xs, (Lit.int .i64 g.re).wf = true ∧ (Lit.int .i64 g.im).wf = true := by
    obtain ⟨fuel, hf⟩ := h0
    exact cxs_open hf
  obtain ⟨a1, rfl, rfl, rfl, w1⟩ := open_int Tryz.underlying3 (hval 1 3 v1 rfl rfl) h1
  obtain ⟨a2, rfl, rfl, rfl⟩ := open_bool Tryz.underlying4 (hval 2 4 v2 rfl rfl) h2
  clear hA0 hval0
  refine (walk W sp0 sc0 xs0 a1 a2 wx0 hx0 w1).mono fun e W' ⟨he, hg⟩ => ?_
  subst he
  exact ⟨_, rfl, _, _, _, [], _, [], hW', trodAll_mk1 (shut_bool Tryz.underlying4 _), (trodAll_cons_mk (Below.trod laidOut (by kernel_rfl) (of_decide_eq_true (by kernel_rfl)) k0 hg.out lt0) (trodAll_cons_mk (shut_int Tryz.underlying3 w1) (trodAll_cons_mk (shut_bool Tryz.underlying4 a2) trodAll_mk0))), rfl, hg.out.frame _, fun h => by cases h⟩

theorem over : Rows.dftBinsRow.holds Tryz.pinned (OpenSpec.ofChange Rows.dftBinsSpec) :=
  OpenClaim.holds_of_wide 3 Tryz.f3 rfl rfl rfl rfl rfl rfl rfl ⟨rfl, rfl, rfl, rfl, rfl⟩ rfl rfl rfl rfl rfl (by kernel_rfl) Tryz.func3 (by kernel_rfl)
    (of_decide_eq_true (by kernel_rfl)) (by unfold Func.isWrapper; first | (rw [if_pos (by decide +kernel)]; kernel_rfl) | (rw [if_neg (by decide +kernel)]; exact ⟨rfl, rfl⟩))
    (fun os started H enc _ => lifted os started H enc)

/-- THE STATEMENT -/
theorem proved : Rows.DftBinsSaid :=
  over
#print axioms proved
end Go.Proofs.YtpkkokcidbcopaaGreat.dftBins
