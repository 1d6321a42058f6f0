/- Proved: for every input, the law PlanEvery answers true at this commit, and its arguments read afterwards as before. No condition. -/
import Derived.Test.YtomjldaonpjloaaRows
import Derived.WalkKit
import Derived.ProofKit
import Derived.OpenShut
import Derived.Lib.SmallJoins
import Derived.ChangeOld
import Derived.Below
import Derived.Test.YtomjldaonpjloaaPlanEveryCore
import Derived.Test.YtomjldaonpjloaaPlanArg
namespace Go.Proofs.Ytomjldaonpjloaa.planEvery
open Go.ChangeShapes Go.WideShapes Go.ChangeAt Go.RowKit Go.Joins
set_option linter.unusedVariables false

theorem own : ownKnob Try.prog.godebug = none := by kernel_rfl



/-- A plan's number. -/
def idxP (p : PlanV) : Int := ((((p.fo * 5 + (p.lo - 2)) * 3 + p.ke) * 3 + p.sc) * 3 + p.mo) * 2 + (if p.iv = true then 1 else 0)
theorem idx_planN (n : Nat) (h : n < 540) : idxP (planN n) = n := by
  unfold idxP planN
  by_cases k : (n : Int) % 2 = 1
  · simp only [k, decide_true, if_true]
    omega
  · simp only [k, decide_false, Bool.false_eq_true, if_false]
    omega
theorem planN_idx (p : PlanV) (h : okP p = true) : 0 ≤ idxP p ∧ idxP p < 540 ∧ planN (idxP p) = p := by
  obtain ⟨fo, lo, ke, sc, mo, iv⟩ := p
  obtain ⟨⟨h1, h2, h3, h4, h5⟩, _⟩ := okF_iff.1 (show okF fo lo ke sc mo = true from h)
  unfold idxP planN
  cases iv
  · simp only [Bool.false_eq_true, if_false, PlanV.mk.injEq, decide_eq_false_iff_not]
    omega
  · simp only [if_true, PlanV.mk.injEq, decide_eq_true_eq]
    omega
theorem cnt_up (p : PlanV) (n : Nat) (hn : n ≤ 540) : cntP p (upN n) = if okP p = true ∧ idxP p < n then 1 else 0 := by
  induction n with
  | zero =>
    rw [if_neg (fun h => by have := (planN_idx p h.1).1; omega)]
    rfl
  | succ n ih =>
    rw [upN_succ]
    have ih := ih (by omega)
    by_cases hp : planN n = p
    · have hi := idx_planN n (by omega)
      rw [hp] at hi
      rw [if_neg (by omega)] at ih
      cases ho : okP p
      · rw [hp, ho, if_neg (by simp), List.append_nil, ih, if_neg (by simp)]
      · rw [hp, ho, if_pos rfl, cntP_snoc, ih, if_pos rfl, if_pos ⟨rfl, by omega⟩]
    · have hc : cntP p (upN n ++ if okP (planN n) = true then [planN n] else []) = cntP p (upN n) := by
        split
        · rw [cntP_snoc, if_neg hp, Nat.add_zero]
        · rw [List.append_nil]
      rw [hc, ih]
      by_cases ho : okP p = true
      · obtain ⟨i0, i1, i2⟩ := planN_idx p ho
        have hne : idxP p ≠ (n : Int) := fun e => hp (by rw [← e]; exact i2)
        by_cases hl : idxP p < n
        · rw [if_pos ⟨ho, hl⟩, if_pos ⟨ho, by omega⟩]
        · rw [if_neg (fun h => hl h.2), if_neg (fun h => by have := h.2; omega)]
      · rw [if_neg (fun h => ho h.1), if_neg (fun h => ho h.1)]
theorem cnt_all (p : PlanV) : cntP p everyL = if okP p = true then 1 else 0 := by
  unfold everyL
  rw [cnt_up p 540 (Nat.le_refl _)]
  by_cases ho : okP p = true
  · have := (planN_idx p ho).2.1
    rw [if_pos ⟨ho, by omega⟩, if_pos ho]
  · rw [if_neg (fun h => ho h.1), if_neg ho]

set_option maxHeartbeats 4000000 in
set_option maxRecDepth 100000 in
theorem walk (w : World) (fo0 lo0 ke0 sc0 mo0 : Int) (iv0 : Bool) (v0 : (Lit.int .i64 fo0).wf = true ∧ (Lit.int .i64 lo0).wf = true ∧ (Lit.int .i64 ke0).wf = true ∧ (Lit.int .i64 sc0).wf = true ∧ (Lit.int .i64 mo0).wf = true) :
    Calls Try.prog 4 #[.agg #[.int .i64 fo0, .int .i64 lo0, .int .i64 ke0, .int .i64 sc0, .int .i64 mo0, .bool iv0]] w fun e w' => e = .returned (.bool true) ∧ Gr w w' := by
  have hlen := everyL_len
  refine planEvery_of fo0 lo0 ke0 sc0 mo0 (if okF fo0 lo0 ke0 sc0 mo0 = true then 0 else 4) iv0 everyL (by omega) (by intro e; rw [e] at hlen; simp at hlen) (Lib.hid fun j q hq => ?_) (Lib.hid every_c) (Lib.hid fun W => by have := refEvery_c W; rw [every_same] at this; exact this) (Lib.hid fun W => check_c fo0 lo0 ke0 sc0 mo0 iv0 _ rfl W) ?_ (Lib.hid alive13_c) w
  · exact (List.mem_filter.1 (List.mem_of_getElem? (show (upN 540)[j]? = some q from hq))).2
  · rw [cnt_all]
    cases ho : okF fo0 lo0 ke0 sc0 mo0
    · exact .inr ⟨if_neg (by unfold okP; simp [ho]), rfl⟩
    · exact .inl ⟨if_pos (by unfold okP; simp [ho]), rfl⟩

set_option maxHeartbeats 4000000 in
set_option maxRecDepth 100000 in
theorem lifted (os : Os) (started : os.Started) (H : Type) (enc : TypeId × Value → H) :
    ReturnsInHanded {} Try.checked os 4 .any (Rows.planEverySpec.pre6 enc Try.prog Try.f4 Rows.planEveryRow.domain false) (Rows.planEverySpec.post enc Try.prog Try.f4 false true false false) := by
  refine returnsInHanded_of_change (C := Try.checked) own started (by kernel_rfl) Try.func4
    (ChangeSpec.witness6 (enc := enc) (C := Try.checked) false ⟨#[], #[.agg #[.int .i64 0, .int .i64 0, .int .i64 0, .int .i64 0, .int .i64 0, .bool false]], []⟩ 8 (by kernel_rfl) (by kernel_rfl) (by kernel_rfl) (by kernel_rfl)) ?_
  intro W base args ds gs before hval0 hW hcnd _
  have hval : ∀ (j : Nat) t v, Try.f4.params[j]? = some t → args[j]? = some v → Value.okWide Try.prog W .any base t v := hval0
  have hW' := hW
  obtain ⟨p, q, hA0, hV, rfl, hfz, hnd⟩ := hW
  have hA : DataW.TrodAll enc Try.prog W 0 (fun _ => true) true Try.f4.params.toList args.toList ds p := hA0
  rw [Try.params4] at hA hval
  obtain ⟨v0, vs0, d0, ds0, p0, q0, hargs, rfl, rfl, h0, r0⟩ := trodAll_cons hA
  obtain ⟨rfl, rfl, rfl⟩ := trodAll_nil r0
  obtain rfl : args = #[v0] := by cases args; simp_all
  obtain ⟨rfl, rfl⟩ := trodVars_none hV
  obtain ⟨fo0, lo0, ke0, sc0, mo0, iv0, rfl, rfl, s0, v0⟩ := plan_open (hval 0 23 v0 rfl rfl) h0
  clear hA0 hval0
  simp only [List.append_nil] at hW'
  refine (walk W fo0 lo0 ke0 sc0 mo0 iv0 v0).mono fun e W' ⟨he, hg⟩ => ?_
  subst he
  exact ⟨_, rfl, post_gr (pa := []) (pv := []) hW' (fun _ _ _ => (trodAll_cons_mk (shut_bool Try.underlying4 _) trodAll_mk0)) (fun sp _ => (trodAll_cons_mk (s0 _ _) trodAll_mk0)) (fun _ _ => rfl) rfl hg⟩

theorem over : Rows.planEveryRow.holds Try.pinned (OpenSpec.ofChange Rows.planEverySpec) :=
  OpenClaim.holds_of_wide 4 Try.f4 rfl rfl rfl rfl rfl rfl rfl ⟨rfl, rfl, rfl, rfl, rfl⟩ rfl rfl rfl rfl rfl (by kernel_rfl) Try.func4 (by kernel_rfl)
    (of_decide_eq_true (by kernel_rfl)) (by unfold Func.isWrapper; first | (rw [if_pos (by decide +kernel)]; kernel_rfl) | (rw [if_neg (by decide +kernel)]; exact ⟨rfl, rfl⟩))
    (fun os started H enc _ => lifted os started H enc)

/-- THE STATEMENT -/
theorem proved : Rows.PlanEverySaid :=
  over
#print axioms proved
end Go.Proofs.Ytomjldaonpjloaa.planEvery
