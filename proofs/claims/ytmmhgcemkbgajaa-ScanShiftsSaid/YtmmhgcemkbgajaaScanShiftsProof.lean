/- Proved: for every input, the law ScanShifts answers true at this commit, and its arguments read afterwards as before. No condition. -/
import Derived.Test.YtmmhgcemkbgajaaRows
import Derived.WalkKit
import Derived.ProofKit
import Derived.OpenShut
import Derived.Lib.SmallJoins
import Derived.ChangeOld
import Derived.Below
import Derived.Test.YtmmhgcemkbgajaaScanCode
import Derived.Test.YtmmhgcemkbgajaaCxsArg
namespace Go.Proofs.Ytmmhgcemkbgajaa.scanShifts
open Go.ChangeShapes Go.WideShapes Go.ChangeAt Go.RowKit Go.Joins
set_option linter.unusedVariables false

theorem own : ownKnob Try.prog.godebug = none := by kernel_rfl
theorem laidOut : laidOutB Try.prog = true := by kernel_rfl



set_option maxHeartbeats 4000000 in
set_option maxRecDepth 100000 in
theorem walk (w : World) (sp0 : Option Addr) (sc0 : Nat) (xs0 : List Gi) (a1 : Int) (a2 : Int) (wx0 : ∀ g ∈ xs0, (Lit.int .i64 g.re).wf = true ∧ (Lit.int .i64 g.im).wf = true) (hx0 : CxsAt w (.slice sp0 xs0.length sc0) xs0) (w1 : (Lit.int .i64 a1).wf = true) (w2 : (Lit.int .i64 a2).wf = true) :
    Calls Try.prog 5 #[.slice sp0 xs0.length sc0, .int .i64 a1, .int .i64 a2] w fun e w' => e = .returned (.bool true) ∧ Gr w w' := by
  obtain ⟨m, hm, h70, hmin⟩ := cut70 xs0.length
  obtain ⟨hc, hl, hcap, _⟩ := hx0.cut m hm
  have hb : ∀ a ∈ xs0.take m, (Lit.int .i64 a.re).wf = true ∧ (Lit.int .i64 a.im).wf = true := fun a ha => wx0 a (List.mem_of_mem_take ha)
  have hs := bounds_i64 w1
  generalize xs0.take m = ys at *
  by_cases h : a1 < -62 ∨ 62 < a1 ∨ a2 < 0 ∨ 2 < a2
  · exact scanShifts_a sp0 xs0.length sc0 m a1 a2 ys hcap hmin h (Lib.hid fun W hW => scanShifted_arg _ ys a1 a2 h hs.1 (by omega) W hW) (Lib.hid alive09_c) w hc
  · by_cases hr : a1 < 0 ∧ allIn (2 ^ (62 + a1).toNat) ys = false
    · exact scanShifts_r sp0 xs0.length sc0 m a1 a2 ys hcap hmin (by omega) hr.1 (by omega) (by omega) hr.2 (Lib.hid fun W hW => scanShifted_range _ ys a1 a2 (by omega) hr.1 (by omega) (by omega) hb hr.2 (by omega) W hW) (Lib.hid alive09_c) w hc
    · have hu : a1 < 0 → allIn (2 ^ (62 + a1).toNat) ys = true := by
        intro g
        cases e : allIn (2 ^ (62 + a1).toNat) ys
        · exact absurd ⟨g, e⟩ hr
        · rfl
      exact scanShifts_t sp0 xs0.length sc0 m a1 a2 ys hcap hmin (by omega) (by omega) (by omega) (by omega) hu hb (by omega) (Lib.hid fun W hW => scanShifted_ok _ ys a1 a2 (by omega) (by omega) (by omega) (by omega) hb hu (by omega) W hW) (Lib.hid alive09_c) w hc

set_option maxHeartbeats 4000000 in
set_option maxRecDepth 100000 in
theorem lifted (os : Os) (started : os.Started) (H : Type) (enc : TypeId × Value → H) :
    ReturnsInHanded {} Try.checked os 5 .any (Rows.scanShiftsSpec.pre6 enc Try.prog Try.f5 Rows.scanShiftsRow.domain false) (Rows.scanShiftsSpec.post enc Try.prog Try.f5 false true false false) := by
  refine returnsInHanded_of_change (C := Try.checked) own started (by kernel_rfl) Try.func5
    (ChangeSpec.witness6 (enc := enc) (C := Try.checked) false ⟨#[], #[.slice none 0 0, .int .i64 0, .int .i64 0], []⟩ 8 (by kernel_rfl) (by kernel_rfl) (by kernel_rfl) (by kernel_rfl)) ?_
  intro W base args ds gs before hval0 hW hcnd _
  have hval : ∀ (j : Nat) t v, Try.f5.params[j]? = some t → args[j]? = some v → Value.okWide Try.prog W .any base t v := hval0
  have hW' := hW
  obtain ⟨p, q, hA0, hV, rfl, hfz, hnd⟩ := hW
  have hA : DataW.TrodAll enc Try.prog W 0 (fun _ => true) true Try.f5.params.toList args.toList ds p := hA0
  rw [Try.params5] at hA hval
  obtain ⟨v0, vs0, d0, ds0, p0, q0, hargs, rfl, rfl, h0, r0⟩ := trodAll_cons hA
  obtain ⟨v1, vs1, d1, ds1, p1, q1, rfl, rfl, rfl, h1, r1⟩ := trodAll_cons r0
  obtain ⟨v2, vs2, d2, ds2, p2, q2, rfl, rfl, rfl, h2, r2⟩ := trodAll_cons r1
  obtain ⟨rfl, rfl, rfl⟩ := trodAll_nil r2
  obtain rfl : args = #[v0, v1, v2] := by cases args; simp_all
  obtain ⟨rfl, rfl⟩ := trodVars_none hV
  obtain ⟨sp0, sn0, sc0, rfl⟩ := okWide_slice Try.underlying22 (hval 0 22 v0 rfl rfl)
  have k0 := h0
  have lt0 : ∀ x ∈ p0, x.block < W.heap.size := by obtain ⟨m, hm⟩ := k0; exact DataW.trod_lt m _ _ _ hm
  obtain ⟨xs0, rfl, hx0, wx0⟩ : ∃ xs : List Gi, sn0 = xs.length ∧ CxsAt W (.slice sp0 sn0 sc0) xs ∧ ∀ g ∈ xs, (Lit.int .i64 g.re).wf = true ∧ (Lit.int .i64 g.im).wf = true := by
    obtain ⟨fuel, hf⟩ := h0
    exact cxs_open hf
  obtain ⟨a1, rfl, rfl, rfl, w1⟩ := open_int Try.underlying3 (hval 1 3 v1 rfl rfl) h1
  obtain ⟨a2, rfl, rfl, rfl, w2⟩ := open_int Try.underlying3 (hval 2 3 v2 rfl rfl) h2
  clear hA0 hval0
  refine (walk W sp0 sc0 xs0 a1 a2 wx0 hx0 w1 w2).mono fun e W' ⟨he, hg⟩ => ?_
  subst he
  exact ⟨_, rfl, _, _, _, [], _, [], hW', trodAll_mk1 (shut_bool Try.underlying4 _), (trodAll_cons_mk (Below.trod laidOut (by kernel_rfl) (of_decide_eq_true (by kernel_rfl)) k0 hg.out lt0) (trodAll_cons_mk (shut_int Try.underlying3 w1) (trodAll_cons_mk (shut_int Try.underlying3 w2) trodAll_mk0))), rfl, hg.out.frame _, fun h => by cases h⟩

theorem over : Rows.scanShiftsRow.holds Try.pinned (OpenSpec.ofChange Rows.scanShiftsSpec) :=
  OpenClaim.holds_of_wide 5 Try.f5 rfl rfl rfl rfl rfl rfl rfl ⟨rfl, rfl, rfl, rfl, rfl⟩ rfl rfl rfl rfl rfl (by kernel_rfl) Try.func5 (by kernel_rfl)
    (of_decide_eq_true (by kernel_rfl)) (by unfold Func.isWrapper; first | (rw [if_pos (by decide +kernel)]; kernel_rfl) | (rw [if_neg (by decide +kernel)]; exact ⟨rfl, rfl⟩))
    (fun os started H enc _ => lifted os started H enc)

/-- THE STATEMENT -/
theorem proved : Rows.ScanShiftsSaid :=
  over
#print axioms proved
end Go.Proofs.Ytmmhgcemkbgajaa.scanShifts
