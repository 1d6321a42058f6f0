/- Proved: for every input, the law BudgetPlans answers true at this commit, and its arguments read afterwards as before. No condition. -/
import Derived.Test.YtmjghakodgihiaaRows
import Derived.WalkKit
import Derived.ProofKit
import Derived.OpenShut
import Derived.Lib.SmallJoins
import Derived.ChangeOld
import Derived.Below
import Derived.Test.YtmjghakodgihiaaBudgetPlansCore
import Derived.Test.YtmjghakodgihiaaBudgetCode
import Derived.Test.YtmjghakodgihiaaPlanArg
namespace Go.Proofs.Ytmjghakodgihiaa.budgetPlans
open Go.ChangeShapes Go.WideShapes Go.ChangeAt Go.RowKit Go.Joins
set_option linter.unusedVariables false

theorem own : ownKnob Try.prog.godebug = none := by kernel_rfl
theorem laidOut : laidOutB Try.prog = true := by kernel_rfl


theorem cut10 (n : Nat) : ∃ m : Nat, m ≤ n ∧ m ≤ 10 ∧ (if (10 : Int) < (n : Int) then 10 else (n : Int)) = (m : Int) := by
  by_cases h : (10 : Int) < (n : Int)
  · exact ⟨10, by omega, by omega, by rw [if_pos h]; rfl⟩
  · exact ⟨n, Nat.le_refl _, by omega, by rw [if_neg h]⟩

set_option maxHeartbeats 4000000 in
set_option maxRecDepth 100000 in
theorem walk (w : World) (fo0 lo0 ke0 sc0 mo0 : Int) (iv0 : Bool) (sp1 : Option Addr) (sc1 : Nat) (ls1 : List Int) (v0 : (Lit.int .i64 fo0).wf = true ∧ (Lit.int .i64 lo0).wf = true ∧ (Lit.int .i64 ke0).wf = true ∧ (Lit.int .i64 sc0).wf = true ∧ (Lit.int .i64 mo0).wf = true) (wl1 : ∀ g ∈ ls1, (Lit.int .i64 g).wf = true) (hl1 : NumsAt w (.slice sp1 ls1.length sc1) ls1) :
    Calls Try.prog 4 #[.agg #[.int .i64 fo0, .int .i64 lo0, .int .i64 ke0, .int .i64 sc0, .int .i64 mo0, .bool iv0], .slice sp1 ls1.length sc1] w fun e w' => e = .returned (.bool true) ∧ Gr w w' := by
  obtain ⟨m, hm, h10, hmin⟩ := cut10 ls1.length
  obtain ⟨hc, hl, hcap, _⟩ := hl1.cut m hm
  obtain ⟨ls, hls⟩ : ∃ ls, ls = ls1.take m := ⟨_, rfl⟩
  rw [← hls] at hc hl
  subst hl
  cases hok : okF fo0 lo0 ke0 sc0 mo0
  · exact budgetPlans_bad sp1 ls1.length sc1 ls fo0 lo0 ke0 sc0 mo0 iv0 hmin hcap (Lib.hid fun sp cl W hN => budgetOf_bad fo0 lo0 ke0 sc0 mo0 iv0 hok sp cl ls W hN) (Lib.hid fun W => budgetFixed_bad fo0 lo0 ke0 sc0 mo0 iv0 hok W) (Lib.hid fun W => refCheck_c fo0 lo0 ke0 sc0 mo0 iv0 false hok W) (Lib.hid alive14_c) w hc
  · have HSH := fun (b : Bool) (hb : fitsB sc0 (passL ke0 lo0) ls = b) => Lib.hid fun sp cl W hN => by have := shifts14_c fo0 lo0 ke0 sc0 mo0 iv0 hok sp cl ls h10 W hN; rw [hb] at this; exact this
    have HF := Lib.hid fun W => budgetFixed_ok fo0 lo0 ke0 sc0 mo0 iv0 hok W
    have HG := Lib.hid fun W => fixed14_c fo0 lo0 ke0 sc0 mo0 iv0 hok W
    have HC := Lib.hid fun W => refCheck_c fo0 lo0 ke0 sc0 mo0 iv0 true hok W
    cases hf : fitsB sc0 (passL ke0 lo0) ls
    · exact budgetPlans_arg sp1 ls1.length sc1 ls _ fo0 lo0 ke0 sc0 mo0 iv0 hmin hcap (Lib.hid fun sp cl W hN => budgetOf_arg fo0 lo0 ke0 sc0 mo0 iv0 hok sp cl ls h10 hf W hN) HF HC HG (HSH _ hf) (Lib.hid alive14_c) w hc
    · exact budgetPlans_ok sp1 ls1.length sc1 ls _ fo0 lo0 ke0 sc0 mo0 _ iv0 hmin hcap (Lib.hid fun sp cl W hN => budgetOf_ok fo0 lo0 ke0 sc0 mo0 iv0 hok sp cl ls hf W hN) HF HC HG (HSH _ hf) (Lib.hid fun sp cl W hN => of14_c fo0 lo0 ke0 sc0 mo0 iv0 hok sp cl ls hf W hN) (Lib.hid alive14_c) w hc

set_option maxHeartbeats 4000000 in
set_option maxRecDepth 100000 in
theorem lifted (os : Os) (started : os.Started) (H : Type) (enc : TypeId × Value → H) :
    ReturnsInHanded {} Try.checked os 4 .any (Rows.budgetPlansSpec.pre6 enc Try.prog Try.f4 Rows.budgetPlansRow.domain false) (Rows.budgetPlansSpec.post enc Try.prog Try.f4 false true false false) := by
  refine returnsInHanded_of_change (C := Try.checked) own started (by kernel_rfl) Try.func4
    (ChangeSpec.witness6 (enc := enc) (C := Try.checked) false ⟨#[], #[.agg #[.int .i64 0, .int .i64 0, .int .i64 0, .int .i64 0, .int .i64 0, .bool false], .slice none 0 0], []⟩ 8 (by kernel_rfl) (by kernel_rfl) (by kernel_rfl) (by kernel_rfl)) ?_
  intro W base args ds gs before hval0 hW hcnd _
  have hval : ∀ (j : Nat) t v, Try.f4.params[j]? = some t → args[j]? = some v → Value.okWide Try.prog W .any base t v := hval0
  have hW' := hW
  obtain ⟨p, q, hA0, hV, rfl, hfz, hnd⟩ := hW
  have hA : DataW.TrodAll enc Try.prog W 0 (fun _ => true) true Try.f4.params.toList args.toList ds p := hA0
  rw [Try.params4] at hA hval
  obtain ⟨v0, vs0, d0, ds0, p0, q0, hargs, rfl, rfl, h0, r0⟩ := trodAll_cons hA
  obtain ⟨v1, vs1, d1, ds1, p1, q1, rfl, rfl, rfl, h1, r1⟩ := trodAll_cons r0
  obtain ⟨rfl, rfl, rfl⟩ := trodAll_nil r1
  obtain rfl : args = #[v0, v1] := by cases args; simp_all
  obtain ⟨rfl, rfl⟩ := trodVars_none hV
  obtain ⟨fo0, lo0, ke0, sc0, mo0, iv0, rfl, rfl, s0, v0⟩ := plan_open (hval 0 23 v0 rfl rfl) h0
  obtain ⟨sp1, sn1, sc1, rfl⟩ := okWide_slice Try.underlying34 (hval 1 34 v1 rfl rfl)
  have k1 := h1
  have lt1 : ∀ x ∈ p1, x.block < W.heap.size := by obtain ⟨m, hm⟩ := k1; exact DataW.trod_lt m _ _ _ hm
  obtain ⟨ls1, rfl, hl1, wl1⟩ : ∃ xs : List Int, sn1 = xs.length ∧ NumsAt W (.slice sp1 sn1 sc1) xs ∧ ∀ g ∈ xs, (Lit.int .i64 g).wf = true := by
    obtain ⟨fuel, hf⟩ := h1
    exact nums_open hf
  clear hA0 hval0
  refine (walk W fo0 lo0 ke0 sc0 mo0 iv0 sp1 sc1 ls1 v0 wl1 hl1).mono fun e W' ⟨he, hg⟩ => ?_
  subst he
  exact ⟨_, rfl, _, _, _, [], _, [], hW', trodAll_mk1 (shut_bool Try.underlying4 _), (trodAll_cons_mk (s0 _ _) (trodAll_cons_mk (Below.trod laidOut (by kernel_rfl) (of_decide_eq_true (by kernel_rfl)) k1 hg.out lt1) trodAll_mk0)), rfl, hg.out.frame _, fun h => by cases h⟩

theorem over : Rows.budgetPlansRow.holds Try.pinned (OpenSpec.ofChange Rows.budgetPlansSpec) :=
  OpenClaim.holds_of_wide 4 Try.f4 rfl rfl rfl rfl rfl rfl rfl ⟨rfl, rfl, rfl, rfl, rfl⟩ rfl rfl rfl rfl rfl (by kernel_rfl) Try.func4 (by kernel_rfl)
    (of_decide_eq_true (by kernel_rfl)) (by unfold Func.isWrapper; first | (rw [if_pos (by decide +kernel)]; kernel_rfl) | (rw [if_neg (by decide +kernel)]; exact ⟨rfl, rfl⟩))
    (fun os started H enc _ => lifted os started H enc)

/-- THE STATEMENT -/
theorem proved : Rows.BudgetPlansSaid :=
  over
#print axioms proved
end Go.Proofs.Ytmjghakodgihiaa.budgetPlans
