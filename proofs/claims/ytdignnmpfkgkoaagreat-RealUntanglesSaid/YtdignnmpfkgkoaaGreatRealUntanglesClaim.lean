import Derived.Test.YtdignnmpfkgkoaaGreatRows
import Derived.WalkKit
import Derived.ProofKit
import Derived.OpenShut
import Derived.Lib.SmallJoins
import Derived.ChangeOld
import Derived.Below
import Derived.Test.YtdignnmpfkgkoaaGreatRealUntanglesS44
namespace Go.Proofs.YtdignnmpfkgkoaaGreat.realUntangles
open Go.ChangeShapes Go.WideShapes Go.ChangeAt Go.RowKit Go.Joins
set_option linter.unusedVariables false

theorem own : ownKnob Tryz.prog.godebug = none := by kernel_rfl
theorem laidOut : laidOutB Tryz.prog = true := by kernel_rfl


theorem cut10 (n : Nat) : ∃ m : Nat, m ≤ n ∧ m ≤ 10 ∧ (if (10 : Int) < (n : Int) then 10 else (n : Int)) = (m : Int) := by
  by_cases h : (10 : Int) < (n : Int)
  · exact ⟨10, by omega, by omega, by rw [if_pos h]; rfl⟩
  · exact ⟨n, Nat.le_refl _, by omega, by rw [if_neg h]⟩

set_option maxHeartbeats 4000000 in
set_option maxRecDepth 100000 in
theorem walk (w : World) (sp0 : Option Addr) (sc0 : Nat) (xs0 : List Gi) (ex0 : Int) (sa0 : Bool) (sq0 : Option Addr) (sd0 : Nat) (ls0 : List Int) (fo1 lo1 ke1 sc1 mo1 : Int) (iv1 : Bool) (hx0 : CxsAt w (.slice sp0 xs0.length sc0) xs0) (hl0 : NumsAt w (.slice sq0 ls0.length sd0) ls0) (v1 : (Lit.int .i64 fo1).wf = true ∧ (Lit.int .i64 lo1).wf = true ∧ (Lit.int .i64 ke1).wf = true ∧ (Lit.int .i64 sc1).wf = true ∧ (Lit.int .i64 mo1).wf = true) :
    Calls Tryz.prog 4 #[.agg #[.slice sp0 xs0.length sc0, .int .i64 ex0, .bool sa0, .slice sq0 ls0.length sd0], .agg #[.int .i64 fo1, .int .i64 lo1, .int .i64 ke1, .int .i64 sc1, .int .i64 mo1, .bool iv1]] w fun e w' => e = .returned (.bool true) ∧ Gr w w' := by
  obtain ⟨m2, hm2, _, hmin2⟩ := cut70 xs0.length
  obtain ⟨m3, hm3, h10, hmin3⟩ := cut10 ls0.length
  obtain ⟨hc2, hl2, hcap2, _⟩ := hx0.cut m2 hm2
  obtain ⟨hc3, hl3, hcap3, _⟩ := hl0.cut m3 hm3
  exact realUntangles_all sp0 sq0 xs0.length sc0 m2 ls0.length sd0 m3 fo1 lo1 ke1 sc1 mo1 ex0 iv1 sa0 (xs0.take m2) (ls0.take m3) hl2 hl3 h10 hcap2 hmin2 hcap3 hmin3 w hc2 hc3

set_option maxHeartbeats 4000000 in
set_option maxRecDepth 100000 in
theorem lifted (os : Os) (started : os.Started) (H : Type) (enc : TypeId × Value → H) :
    ReturnsInHanded {} Tryz.checked os 4 .any (Rows.realUntanglesSpec.pre6 enc Tryz.prog Tryz.f4 Rows.realUntanglesRow.domain false) (Rows.realUntanglesSpec.post enc Tryz.prog Tryz.f4 false true false false) := by
  refine returnsInHanded_of_change (C := Tryz.checked) own started (by kernel_rfl) Tryz.func4
    (ChangeSpec.witness6 (enc := enc) (C := Tryz.checked) false ⟨#[], #[.agg #[.slice none 0 0, .int .i64 0, .bool false, .slice none 0 0], .agg #[.int .i64 0, .int .i64 0, .int .i64 0, .int .i64 0, .int .i64 0, .bool false]], []⟩ 8 (by kernel_rfl) (by kernel_rfl) (by kernel_rfl) (by kernel_rfl)) ?_
  intro W base args ds gs before hval0 hW hcnd _
  have hval : ∀ (j : Nat) t v, Tryz.f4.params[j]? = some t → args[j]? = some v → Value.okWide Tryz.prog W .any base t v := hval0
  have hW' := hW
  obtain ⟨p, q, hA0, hV, rfl, hfz, hnd⟩ := hW
  have hA : DataW.TrodAll enc Tryz.prog W 0 (fun _ => true) true Tryz.f4.params.toList args.toList ds p := hA0
  rw [Tryz.params4] at hA hval
  obtain ⟨v0, vs0, d0, ds0, p0, q0, hargs, rfl, rfl, h0, r0⟩ := trodAll_cons hA
  obtain ⟨v1, vs1, d1, ds1, p1, q1, rfl, rfl, rfl, h1, r1⟩ := trodAll_cons r0
  obtain ⟨rfl, rfl, rfl⟩ := trodAll_nil r1
  obtain rfl : args = #[v0, v1] := by cases args; simp_all
  obtain ⟨rfl, rfl⟩ := trodVars_none hV
  have k0 := h0
  have lt0 : ∀ x ∈ p0, x.block < W.heap.size := by obtain ⟨m, hm⟩ := k0; exact DataW.trod_lt m _ _ _ hm
  obtain ⟨sp0, sc0, xs0, ex0, sa0, sq0, sd0, ls0, rfl, hx0, hl0⟩ := block_open (hval 0 27 v0 rfl rfl) h0
  obtain ⟨fo1, lo1, ke1, sc1, mo1, iv1, rfl, rfl, s1, v1⟩ := plan_open (hval 1 24 v1 rfl rfl) h1
  clear hA0 hval0
  refine (walk W sp0 sc0 xs0 ex0 sa0 sq0 sd0 ls0 fo1 lo1 ke1 sc1 mo1 iv1 hx0 hl0 v1).mono fun e W' ⟨he, hg⟩ => ?_
  subst he
  exact ⟨_, rfl, _, _, _, [], _, [], hW', trodAll_mk1 (shut_bool Tryz.underlying4 _), (trodAll_cons_mk (Below.trod laidOut (by kernel_rfl) (of_decide_eq_true (by kernel_rfl)) k0 hg.out lt0) (trodAll_cons_mk (s1 _ _) trodAll_mk0)), rfl, hg.out.frame _, fun h => by cases h⟩

theorem over : Rows.realUntanglesRow.holds Tryz.pinned (OpenSpec.ofChange Rows.realUntanglesSpec) :=
  OpenClaim.holds_of_wide 4 Tryz.f4 rfl rfl rfl rfl rfl rfl rfl ⟨rfl, rfl, rfl, rfl, rfl⟩ rfl rfl rfl rfl rfl (by kernel_rfl) Tryz.func4 (by kernel_rfl)
    (of_decide_eq_true (by kernel_rfl)) (by unfold Func.isWrapper; first | (rw [if_pos (by decide +kernel)]; kernel_rfl) | (rw [if_neg (by decide +kernel)]; exact ⟨rfl, rfl⟩))
    (fun os started H enc _ => lifted os started H enc)

/-- THE STATEMENT -/
theorem proved : Rows.RealUntanglesSaid :=
  over
#print axioms proved
end Go.Proofs.YtdignnmpfkgkoaaGreat.realUntangles
