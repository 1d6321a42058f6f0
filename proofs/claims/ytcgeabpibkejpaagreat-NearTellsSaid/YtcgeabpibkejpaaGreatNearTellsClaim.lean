import Derived.Test.YtcgeabpibkejpaaGreatRows
import Derived.WalkKit
import Derived.ProofKit
import Derived.OpenShut
import Derived.Lib.SmallJoins
import Derived.ChangeOld
import Derived.Below
import Derived.Test.YtcgeabpibkejpaaGreatNearTellsS32
namespace Go.Proofs.YtcgeabpibkejpaaGreat.nearTells
open Go.ChangeShapes Go.WideShapes Go.ChangeAt Go.RowKit Go.Joins
set_option linter.unusedVariables false

theorem own : ownKnob Tryz.prog.godebug = none := by kernel_rfl
theorem laidOut : laidOutB Tryz.prog = true := by kernel_rfl


theorem cut10 (n : Nat) : ∃ m : Nat, m ≤ n ∧ m ≤ 10 ∧ (if (10 : Int) < (n : Int) then 10 else (n : Int)) = (m : Int) := by
  by_cases h : (10 : Int) < (n : Int)
  · exact ⟨10, by omega, by omega, by rw [if_pos h]; rfl⟩
  · exact ⟨n, Nat.le_refl _, by omega, by rw [if_neg h]⟩

set_option maxHeartbeats 4000000 in
set_option maxRecDepth 100000 in
theorem walk (w : World) (sp0 : Option Addr) (sc0 : Nat) (xs0 : List Gi) (fo1 lo1 ke1 sc1 mo1 : Int) (iv1 : Bool) (sp2 : Option Addr) (sc2 : Nat) (xs2 : List Gi) (ex2 : Int) (sa2 : Bool) (sq2 : Option Addr) (sd2 : Nat) (ls2 : List Int) (wx0 : ∀ g ∈ xs0, (Lit.int .i64 g.re).wf = true ∧ (Lit.int .i64 g.im).wf = true) (hx0 : CxsAt w (.slice sp0 xs0.length sc0) xs0) (v1 : (Lit.int .i64 fo1).wf = true ∧ (Lit.int .i64 lo1).wf = true ∧ (Lit.int .i64 ke1).wf = true ∧ (Lit.int .i64 sc1).wf = true ∧ (Lit.int .i64 mo1).wf = true) (hx2 : CxsAt w (.slice sp2 xs2.length sc2) xs2) (hl2 : NumsAt w (.slice sq2 ls2.length sd2) ls2) :
    Calls Tryz.prog 3 #[.slice sp0 xs0.length sc0, .agg #[.int .i64 fo1, .int .i64 lo1, .int .i64 ke1, .int .i64 sc1, .int .i64 mo1, .bool iv1], .agg #[.slice sp2 xs2.length sc2, .int .i64 ex2, .bool sa2, .slice sq2 ls2.length sd2]] w fun e w' => e = .returned (.bool true) ∧ Gr w w' := by
  obtain ⟨m1, hm1, _, hmin1⟩ := cut70 xs0.length
  obtain ⟨m2, hm2, _, hmin2⟩ := cut70 xs2.length
  obtain ⟨m3, hm3, h10, hmin3⟩ := cut10 ls2.length
  obtain ⟨hc1, hl1, hcap1, _⟩ := hx0.cut m1 hm1
  have hs2 := hl2
  obtain ⟨hc2, hl2, hcap2, _⟩ := hx2.cut m2 hm2
  obtain ⟨hc3, hl3, hcap3, _⟩ := hs2.cut m3 hm3
  exact tells17_all sp0 sp2 sq2 xs0.length sc0 m1 xs2.length sc2 m2 ls2.length sd2 m3 fo1 lo1 ke1 sc1 mo1 ex2 iv1 sa2 (xs0.take m1) (xs2.take m2) (ls2.take m3) hl1 hl2 hl3 h10 hcap1 hmin1 hcap2 hmin2 hcap3 hmin3 w hc1 hc2 hc3

set_option maxHeartbeats 4000000 in
set_option maxRecDepth 100000 in
theorem lifted (os : Os) (started : os.Started) (H : Type) (enc : TypeId × Value → H) :
    ReturnsInHanded {} Tryz.checked os 3 .any (Rows.nearTellsSpec.pre6 enc Tryz.prog Tryz.f3 Rows.nearTellsRow.domain false) (Rows.nearTellsSpec.post enc Tryz.prog Tryz.f3 false true false false) := by
  refine returnsInHanded_of_change (C := Tryz.checked) own started (by kernel_rfl) Tryz.func3
    (ChangeSpec.witness6 (enc := enc) (C := Tryz.checked) false ⟨#[], #[.slice none 0 0, .agg #[.int .i64 0, .int .i64 0, .int .i64 0, .int .i64 0, .int .i64 0, .bool false], .agg #[.slice none 0 0, .int .i64 0, .bool false, .slice none 0 0]], []⟩ 8 (by kernel_rfl) (by kernel_rfl) (by kernel_rfl) (by kernel_rfl)) ?_
  intro W base args ds gs before hval0 hW hcnd _
  have hval : ∀ (j : Nat) t v, Tryz.f3.params[j]? = some t → args[j]? = some v → Value.okWide Tryz.prog W .any base t v := hval0
  have hW' := hW
  obtain ⟨p, q, hA0, hV, rfl, hfz, hnd⟩ := hW
  have hA : DataW.TrodAll enc Tryz.prog W 0 (fun _ => true) true Tryz.f3.params.toList args.toList ds p := hA0
  rw [Tryz.params3] at hA hval
  obtain ⟨v0, vs0, d0, ds0, p0, q0, hargs, rfl, rfl, h0, r0⟩ := trodAll_cons hA
  obtain ⟨v1, vs1, d1, ds1, p1, q1, rfl, rfl, rfl, h1, r1⟩ := trodAll_cons r0
  obtain ⟨v2, vs2, d2, ds2, p2, q2, rfl, rfl, rfl, h2, r2⟩ := trodAll_cons r1
  obtain ⟨rfl, rfl, rfl⟩ := trodAll_nil r2
  obtain rfl : args = #[v0, v1, v2] := by cases args; simp_all
  obtain ⟨rfl, rfl⟩ := trodVars_none hV
  obtain ⟨sp0, sn0, sc0, rfl⟩ := okWide_slice Tryz.underlying22 (hval 0 22 v0 rfl rfl)
  have k0 := h0
  have lt0 : ∀ x ∈ p0, x.block < W.heap.size := by obtain ⟨m, hm⟩ := k0; exact DataW.trod_lt m _ _ _ hm
  obtain ⟨xs0, rfl, hx0, wx0⟩ : ∃ xs : List Gi, sn0 = xs.length ∧ CxsAt W (.slice sp0 sn0 sc0) xs ∧ ∀ g ∈ xs, (Lit.int .i64 g.re).wf = true ∧ (Lit.int .i64 g.im).wf = true := by
    obtain ⟨fuel, hf⟩ := h0
    exact cxs_open hf
  obtain ⟨fo1, lo1, ke1, sc1, mo1, iv1, rfl, rfl, s1, v1⟩ := plan_open (hval 1 24 v1 rfl rfl) h1
  have k2 := h2
  have lt2 : ∀ x ∈ p2, x.block < W.heap.size := by obtain ⟨m, hm⟩ := k2; exact DataW.trod_lt m _ _ _ hm
  obtain ⟨sp2, sc2, xs2, ex2, sa2, sq2, sd2, ls2, rfl, hx2, hl2⟩ := block_open (hval 2 27 v2 rfl rfl) h2
  clear hA0 hval0
  refine (walk W sp0 sc0 xs0 fo1 lo1 ke1 sc1 mo1 iv1 sp2 sc2 xs2 ex2 sa2 sq2 sd2 ls2 wx0 hx0 v1 hx2 hl2).mono fun e W' ⟨he, hg⟩ => ?_
  subst he
  exact ⟨_, rfl, _, _, _, [], _, [], hW', trodAll_mk1 (shut_bool Tryz.underlying4 _), (trodAll_cons_mk (Below.trod laidOut (by kernel_rfl) (of_decide_eq_true (by kernel_rfl)) k0 hg.out lt0) (trodAll_cons_mk (s1 _ _) (trodAll_cons_mk (Below.trod laidOut (by kernel_rfl) (of_decide_eq_true (by kernel_rfl)) k2 hg.out lt2) trodAll_mk0))), rfl, hg.out.frame _, fun h => by cases h⟩

theorem over : Rows.nearTellsRow.holds Tryz.pinned (OpenSpec.ofChange Rows.nearTellsSpec) :=
  OpenClaim.holds_of_wide 3 Tryz.f3 rfl rfl rfl rfl rfl rfl rfl ⟨rfl, rfl, rfl, rfl, rfl⟩ rfl rfl rfl rfl rfl (by kernel_rfl) Tryz.func3 (by kernel_rfl)
    (of_decide_eq_true (by kernel_rfl)) (by unfold Func.isWrapper; first | (rw [if_pos (by decide +kernel)]; kernel_rfl) | (rw [if_neg (by decide +kernel)]; exact ⟨rfl, rfl⟩))
    (fun os started H enc _ => lifted os started H enc)

/-- THE STATEMENT -/
theorem proved : Rows.NearTellsSaid :=
  over
#print axioms proved
end Go.Proofs.YtcgeabpibkejpaaGreat.nearTells
