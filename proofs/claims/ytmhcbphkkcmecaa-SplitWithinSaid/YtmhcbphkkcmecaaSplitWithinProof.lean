/- Proved: for every input, the law SplitWithin answers true at this commit, and its arguments read afterwards as before. No condition. -/
import Derived.Test.YtmhcbphkkcmecaaRows
import Derived.WalkKit
import Derived.ProofKit
import Derived.OpenShut
import Derived.Lib.SmallJoins
import Derived.ChangeOld
import Derived.Below
import Derived.Test.YtmhcbphkkcmecaaSplitWithinCore
import Derived.Test.YtmhcbphkkcmecaaCxs
namespace Go.Proofs.Ytmhcbphkkcmecaa.splitWithin
open Go.ChangeShapes Go.WideShapes Go.ChangeAt Go.RowKit Go.Joins
set_option linter.unusedVariables false

theorem own : ownKnob Try.prog.godebug = none := by kernel_rfl
theorem laidOut : laidOutB Try.prog = true := by kernel_rfl


theorem sL_bd {n : Nat} {f mo : Int} {xs : List Gi} {L B : Nat} (inv : Bool) (h : RunYes n f mo xs L B) (hl : xs.length = n) (i : Nat) (a : Gi) (ha : (sL B mo inv (rootsL n (56 - B)) L xs)[i]? = some a) : Bd (3 * 2 ^ B) a := by
  obtain ⟨hn2, hN, hb, hm, hw0, hwl⟩ := run_facts inv h
  have hi := (List.getElem?_eq_some_iff.1 ha).1
  rw [sL_len] at hi
  have e := sL_at B mo inv (rootsL n (56 - B)) L xs i hi
  rw [List.getD_eq_getElem?_getD, ha] at e
  simp only [Option.getD_some] at e
  rw [e]
  have hL6 : L ≤ 6 := h.1.2.1
  have key : ∀ (lim R : Int), 2 * (lim * lim) ≤ R * R → 0 ≤ lim → 0 ≤ R → R + 30 ≤ 3 * 2 ^ B → allIn lim xs = true → Bd (3 * 2 ^ B) (spl B mo inv (rootOf (rootsL n (56 - B)) inv) (rootsL n (56 - B)).length L (fun j => xs.getD j ⟨0, 0⟩) i) := by
    intro lim R h1 h2 h3 h4 hx
    have hall := (allIn_iff lim xs).1 hx
    have := spl_len B mo inv (rootOf (rootsL n (56 - B)) inv) (rootsL n (56 - B)).length hm (fun k => roots_len n hN B (by omega) (by omega) inv k) L R (fun j => xs.getD j ⟨0, 0⟩) h3 (by omega)
      (fun j hj => by
        have hjl : j < xs.length := by rw [hl, hn2]; exact hj
        rw [List.getD_eq_getElem?_getD, List.getElem?_eq_getElem hjl]
        exact len_start _ lim R h1 h2 (hall _ (List.getElem_mem hjl))) i hi
    exact (this.bd (by omega)).mono (by omega)
  obtain ⟨_, _, ⟨_, rfl, hx⟩ | ⟨_, rfl, hx⟩⟩ := h
  · exact key 16384 23171 (by decide) (by decide) (by decide) (by decide) hx
  · exact key 1073741824 1518500250 (by decide) (by decide) (by decide) (by decide) hx

theorem clampI_in (p x : Int) (h : -p ≤ x ∧ x ≤ p - 1) : clampI p x = x := by
  unfold clampI
  rw [if_neg (by omega), if_neg (by omega)]

theorem within_all (p : Option Addr) (l1 cap1 m1 : Nat) (f mo : Int) (inv : Bool) (xs : List Gi) (hm1 : m1 ≤ cap1) (hmin1 : (if (70 : Int) < (l1 : Int) then 70 else (l1 : Int)) = (m1 : Int)) (hl : xs.length = m1) (w : World) (hx : CxsAt w (.slice p m1 cap1) xs) :
    Calls Try.prog 9 #[.slice p l1 cap1, .int .i64 f, .int .i64 mo, .bool inv] w fun e w' => e = .returned (.bool true) ∧ Gr w w' := by
  rcases run_cases m1 f mo xs with ⟨e, h⟩ | ⟨L, B, h⟩
  · exact splitWithin_no p l1 cap1 m1 f mo e inv xs hm1 hmin1 (by rcases h.pos with rfl | rfl | rfl <;> rfl) (Lib.hid fun W v => sRun_no p cap1 m1 f mo e inv xs hl h W v) (Lib.hid alive12_c) w hx
  · obtain ⟨hn2, hN, hb, hm, hw0, hwl⟩ := run_facts inv h
    have h4 : 4 ≤ m1 ∧ m1 ≤ 64 := by rcases hN with h | h | h | h | h <;> omega
    refine splitWithin_yes p l1 cap1 m1 f mo inv xs (sL B mo inv (rootsL m1 (56 - B)) L xs) hm1 hmin1 hl (by rw [sL_len, hn2]) h4 (Lib.hid fun i a ha => ?_) (Lib.hid fun W v => sRun_yes p cap1 m1 f mo inv xs L B hl h W v) (Lib.hid alive12_c) w hx
    have hbd := (sL_bd inv h hl i a ha).le
    have hz : allZ xs = true → a = ⟨0, 0⟩ := by
      intro hz
      have hi := (List.getElem?_eq_some_iff.1 ha).1
      rw [sL_len] at hi
      have e := sL_at B mo inv (rootsL m1 (56 - B)) L xs i hi
      rw [List.getD_eq_getElem?_getD, ha] at e
      simp only [Option.getD_some] at e
      rw [e, spl_congr _ _ _ _ _ _ _ (fun _ => ⟨0, 0⟩) (fun j _ => allZ_zero hz j) _ hi, spl_same _ _ _ _ _ _ hm hw0 _ _ hi]
      split <;> rfl
    obtain ⟨_, _, ⟨rfl, rfl, _⟩ | ⟨rfl, rfl, _⟩⟩ := h
    · have c : ∀ x : Int, -24576 ≤ x ∧ x ≤ 24576 → ∀ W, Calls Try.prog 28 #[.int .i64 x, .int .i64 0] W fun e w' => e = .returned (.tuple #[.int .i64 x, .bool false, .int .i64 0]) ∧ Gr W w' := by
        intro x hx W
        have := clamp_c 0 15 32768 x (by unfold FB; omega) W
        rw [clampI_in 32768 x (by omega), bne_self_eq_false] at this
        exact this
      exact ⟨c _ hbd.1, c _ hbd.2, hz⟩
    · have c : ∀ x : Int, -1610612736 ≤ x ∧ x ≤ 1610612736 → ∀ W, Calls Try.prog 28 #[.int .i64 x, .int .i64 1] W fun e w' => e = .returned (.tuple #[.int .i64 x, .bool false, .int .i64 0]) ∧ Gr W w' := by
        intro x hx W
        have := clamp_c 1 31 2147483648 x (by unfold FB; omega) W
        rw [clampI_in 2147483648 x (by omega), bne_self_eq_false] at this
        exact this
      exact ⟨c _ hbd.1, c _ hbd.2, hz⟩


set_option maxHeartbeats 4000000 in
set_option maxRecDepth 100000 in
theorem walk (w : World) (sp0 : Option Addr) (sc0 : Nat) (xs0 : List Gi) (a1 : Int) (a2 : Int) (a3 : Bool) (wx0 : ∀ g ∈ xs0, (Lit.int .i64 g.re).wf = true ∧ (Lit.int .i64 g.im).wf = true) (hx0 : CxsAt w (.slice sp0 xs0.length sc0) xs0) (w1 : (Lit.int .i64 a1).wf = true) (w2 : (Lit.int .i64 a2).wf = true) :
    Calls Try.prog 9 #[.slice sp0 xs0.length sc0, .int .i64 a1, .int .i64 a2, .bool a3] w fun e w' => e = .returned (.bool true) ∧ Gr w w' := by
  obtain ⟨m1, hm1, h71, hmin1⟩ := cut70 xs0.length
  obtain ⟨hc1, hl1, hcap1, _⟩ := hx0.cut m1 hm1
  exact within_all sp0 xs0.length sc0 m1 a1 a2 a3 (xs0.take m1) hcap1 hmin1 hl1 w hc1

set_option maxHeartbeats 4000000 in
set_option maxRecDepth 100000 in
theorem lifted (os : Os) (started : os.Started) (H : Type) (enc : TypeId × Value → H) :
    ReturnsInHanded {} Try.checked os 9 .any (Rows.splitWithinSpec.pre6 enc Try.prog Try.f9 Rows.splitWithinRow.domain false) (Rows.splitWithinSpec.post enc Try.prog Try.f9 false true false false) := by
  refine returnsInHanded_of_change (C := Try.checked) own started (by kernel_rfl) Try.func9
    (ChangeSpec.witness6 (enc := enc) (C := Try.checked) false ⟨#[], #[.slice none 0 0, .int .i64 0, .int .i64 0, .bool false], []⟩ 8 (by kernel_rfl) (by kernel_rfl) (by kernel_rfl) (by kernel_rfl)) ?_
  intro W base args ds gs before hval0 hW hcnd _
  have hval : ∀ (j : Nat) t v, Try.f9.params[j]? = some t → args[j]? = some v → Value.okWide Try.prog W .any base t v := hval0
  have hW' := hW
  obtain ⟨p, q, hA0, hV, rfl, hfz, hnd⟩ := hW
  have hA : DataW.TrodAll enc Try.prog W 0 (fun _ => true) true Try.f9.params.toList args.toList ds p := hA0
  rw [Try.params9] at hA hval
  obtain ⟨v0, vs0, d0, ds0, p0, q0, hargs, rfl, rfl, h0, r0⟩ := trodAll_cons hA
  obtain ⟨v1, vs1, d1, ds1, p1, q1, rfl, rfl, rfl, h1, r1⟩ := trodAll_cons r0
  obtain ⟨v2, vs2, d2, ds2, p2, q2, rfl, rfl, rfl, h2, r2⟩ := trodAll_cons r1
  obtain ⟨v3, vs3, d3, ds3, p3, q3, rfl, rfl, rfl, h3, r3⟩ := trodAll_cons r2
  obtain ⟨rfl, rfl, rfl⟩ := trodAll_nil r3
  obtain rfl : args = #[v0, v1, v2, v3] := by cases args; simp_all
  obtain ⟨rfl, rfl⟩ := trodVars_none hV
  obtain ⟨sp0, sn0, sc0, rfl⟩ := okWide_slice Try.underlying37 (hval 0 37 v0 rfl rfl)
  have k0 := h0
  have lt0 : ∀ x ∈ p0, x.block < W.heap.size := by obtain ⟨m, hm⟩ := k0; exact DataW.trod_lt m _ _ _ hm
  obtain ⟨xs0, rfl, hx0, wx0⟩ : ∃ xs : List Gi, sn0 = xs.length ∧ CxsAt W (.slice sp0 sn0 sc0) xs ∧ ∀ g ∈ xs, (Lit.int .i64 g.re).wf = true ∧ (Lit.int .i64 g.im).wf = true := by
    obtain ⟨fuel, hf⟩ := h0
    exact cxs_open hf
  obtain ⟨a1, rfl, rfl, rfl, w1⟩ := open_int Try.underlying3 (hval 1 3 v1 rfl rfl) h1
  obtain ⟨a2, rfl, rfl, rfl, w2⟩ := open_int Try.underlying3 (hval 2 3 v2 rfl rfl) h2
  obtain ⟨a3, rfl, rfl, rfl⟩ := open_bool Try.underlying4 (hval 3 4 v3 rfl rfl) h3
  clear hA0 hval0
  refine (walk W sp0 sc0 xs0 a1 a2 a3 wx0 hx0 w1 w2).mono fun e W' ⟨he, hg⟩ => ?_
  subst he
  exact ⟨_, rfl, _, _, _, [], _, [], hW', trodAll_mk1 (shut_bool Try.underlying4 _), (trodAll_cons_mk (Below.trod laidOut (by kernel_rfl) (of_decide_eq_true (by kernel_rfl)) k0 hg.out lt0) (trodAll_cons_mk (shut_int Try.underlying3 w1) (trodAll_cons_mk (shut_int Try.underlying3 w2) (trodAll_cons_mk (shut_bool Try.underlying4 a3) trodAll_mk0)))), rfl, hg.out.frame _, fun h => by cases h⟩

theorem over : Rows.splitWithinRow.holds Try.pinned (OpenSpec.ofChange Rows.splitWithinSpec) :=
  OpenClaim.holds_of_wide 9 Try.f9 rfl rfl rfl rfl rfl rfl rfl ⟨rfl, rfl, rfl, rfl, rfl⟩ rfl rfl rfl rfl rfl (by kernel_rfl) Try.func9 (by kernel_rfl)
    (of_decide_eq_true (by kernel_rfl)) (by unfold Func.isWrapper; first | (rw [if_pos (by decide +kernel)]; kernel_rfl) | (rw [if_neg (by decide +kernel)]; exact ⟨rfl, rfl⟩))
    (fun os started H enc _ => lifted os started H enc)

/-- THE STATEMENT -/
theorem proved : Rows.SplitWithinSaid :=
  over
#print axioms proved
end Go.Proofs.Ytmhcbphkkcmecaa.splitWithin
