/- Proved: for every input, the law FlipNumbers answers true at this commit, and its arguments read afterwards as before. No condition. -/
import Derived.Test.YteajjgegfpibkaaRows
import Derived.WalkKit
import Derived.ProofKit
import Derived.OpenShut
import Derived.Lib.SmallJoins
import Derived.ChangeOld
import Derived.Below
import Derived.Test.YteajjgegfpibkaaRef08b
import Derived.Test.YteajjgegfpibkaaCxsArg
namespace Go.Proofs.Yteajjgegfpibkaa.flipNumbers
open Go.ChangeShapes Go.WideShapes Go.ChangeAt Go.RowKit Go.Joins
set_option linter.unusedVariables false

theorem own : ownKnob Try.prog.godebug = none := by kernel_rfl
theorem laidOut : laidOutB Try.prog = true := by kernel_rfl


set_option maxHeartbeats 4000000 in
set_option maxRecDepth 100000 in
theorem core_ok (p : Option Addr) (len cap m L : Nat) (ys zs : List Gi) (hm : m ≤ cap) (hmin : (if (70 : Int) < (len : Int) then 70 else (len : Int)) = (m : Int))
    (HF : Hid (∀ W, CxsAt W (.slice p m cap) ys → Calls Try.prog 16 #[.slice p m cap] W fun e w' => ∃ v', e = .returned (.tuple #[v', .int .i64 0]) ∧ CxsAt w' v' zs ∧ Gr W w'))
    (HR : Hid (∀ W, CxsAt W (.slice p m cap) ys → Calls Try.prog 18 #[.slice p m cap] W fun e w' => ∃ v', e = .returned v' ∧ CxsAt w' v' zs ∧ Gr W w'))
    (HN : Hid (∀ W, Calls Try.prog 15 #[.int .i64 (m : Int)] W fun e' w' => e' = .returned (.int .i64 (L : Int)) ∧ w' = W))
    (w : World) (hv : CxsAt w (.slice p m cap) ys) :
    Calls Try.prog 4 #[.slice p len cap] w fun e w' => e = .returned (.bool true) ∧ Gr w w' := by
  have HA := Lib.hid alive08_c
  have hcut := run_cut_cx p len cap m hm
  have V := Lib.hid hv
  clear hv
  go_enter Try.func4, Try.ntmps4
  go_wp2_with fail
  refine (HF.out _ V.out).mono ?_
  rintro e w1 ⟨v1, rfl, hI1, g1⟩
  obtain ⟨p1, c1, rfl⟩ := hI1.len
  have J1 := Lib.hid hI1
  have V1 := Lib.hid (V.out.gr g1)
  clear hI1 HF V
  go_wp2_with (first
    | (go_at_call 15; refine (HN.out _).mono ?_; rintro e wz ⟨rfl, rfl⟩)
    | (go_at_call 11; refine (HA.out _).mono ?_; rintro e wz ⟨rfl, rfl⟩))
  refine (HR.out _ V1.out).mono ?_
  rintro e w2 ⟨v2, rfl, hI2, g2⟩
  have HS := Lib.hid (same03_c _ _ zs w2 (J1.out.gr g2) hI2)
  have gg := g1.trans g2
  go_wp2_with (first
    | (go_at_call 17; refine HS.out.mono ?_; rintro e w3 ⟨rfl, g3⟩; replace gg := gg.trans g3))
  go_ret
  exact ⟨rfl, gg⟩

set_option maxHeartbeats 4000000 in
set_option maxRecDepth 100000 in
theorem core_bad (p : Option Addr) (len cap m : Nat) (hm : m ≤ cap) (hmin : (if (70 : Int) < (len : Int) then 70 else (len : Int)) = (m : Int))
    (h4 : m ≠ 4) (h8 : m ≠ 8) (h16 : m ≠ 16) (h32 : m ≠ 32) (h64 : m ≠ 64) (w : World) :
    Calls Try.prog 4 #[.slice p len cap] w fun e w' => e = .returned (.bool true) ∧ Gr w w' := by
  have HA := Lib.hid alive08_c
  have hcut := run_cut_cx p len cap m hm
  have HF := Lib.hid (flip08_bad p m cap h4 h8 h16 h32 h64)
  have HN := Lib.hid (rlog08_no m (by omega) (by omega) (by omega) (by omega) (by omega))
  clear h4 h8 h16 h32 h64
  go_enter Try.func4, Try.ntmps4
  go_wp2_with (first
    | (go_at_call 16; refine (HF.out _).mono ?_; rintro e wz ⟨rfl, rfl⟩)
    | (go_at_call 15; refine (HN.out _).mono ?_; rintro e wz ⟨rfl, rfl⟩)
    | (go_at_call 11; refine (HA.out _).mono ?_; rintro e wz ⟨rfl, rfl⟩))
  go_ret
  exact ⟨rfl, Gr.refl _⟩


set_option maxHeartbeats 4000000 in
set_option maxRecDepth 100000 in
theorem walk (w : World) (sp0 : Option Addr) (sc0 : Nat) (xs0 : List Gi) (wx0 : ∀ g ∈ xs0, (Lit.int .i64 g.re).wf = true ∧ (Lit.int .i64 g.im).wf = true) (hx0 : CxsAt w (.slice sp0 xs0.length sc0) xs0) :
    Calls Try.prog 4 #[.slice sp0 xs0.length sc0] w fun e w' => e = .returned (.bool true) ∧ Gr w w' := by
  obtain ⟨m, hm, hmin⟩ : ∃ m : Nat, m ≤ xs0.length ∧ (if (70 : Int) < (xs0.length : Int) then 70 else (xs0.length : Int)) = (m : Int) := by
    by_cases h : (70 : Int) < (xs0.length : Int)
    · exact ⟨70, by omega, by rw [if_pos h]; rfl⟩
    · exact ⟨xs0.length, Nat.le_refl _, by rw [if_neg h]⟩
  obtain ⟨hc, hl, hcap, _⟩ := hx0.cut m hm
  by_cases h : ∃ L, IsLog (m : Int) L
  · obtain ⟨L, h⟩ := h
    have hmL : (xs0.take m).length = 2 ^ L := by rw [hl]; exact Int.ofNat.inj h.2.2
    exact core_ok sp0 xs0.length sc0 m L (xs0.take m) (flipL L (xs0.take m)) hcap hmin (Lib.hid fun W hW => flip08_ok _ _ L h.1 h.2.1 hmL W hW) (Lib.hid fun W hW => rflip08_c _ _ L h.1 h.2.1 hmL W hW) (Lib.hid (rlog08_yes m L h)) w hc
  · have h4 : m ≠ 4 := fun e => h ⟨2, by omega, by omega, by rw [e]; try rfl⟩
    have h8 : m ≠ 8 := fun e => h ⟨3, by omega, by omega, by rw [e]; try rfl⟩
    have h16 : m ≠ 16 := fun e => h ⟨4, by omega, by omega, by rw [e]; try rfl⟩
    have h32 : m ≠ 32 := fun e => h ⟨5, by omega, by omega, by rw [e]; try rfl⟩
    have h64 : m ≠ 64 := fun e => h ⟨6, by omega, by omega, by rw [e]; try rfl⟩
    exact core_bad sp0 xs0.length sc0 m hcap hmin h4 h8 h16 h32 h64 w

set_option maxHeartbeats 4000000 in
set_option maxRecDepth 100000 in
theorem lifted (os : Os) (started : os.Started) (H : Type) (enc : TypeId × Value → H) :
    ReturnsInHanded {} Try.checked os 4 .any (Rows.flipNumbersSpec.pre6 enc Try.prog Try.f4 Rows.flipNumbersRow.domain false) (Rows.flipNumbersSpec.post enc Try.prog Try.f4 false true false false) := by
  refine returnsInHanded_of_change (C := Try.checked) own started (by kernel_rfl) Try.func4
    (ChangeSpec.witness6 (enc := enc) (C := Try.checked) false ⟨#[], #[.slice none 0 0], []⟩ 8 (by kernel_rfl) (by kernel_rfl) (by kernel_rfl) (by kernel_rfl)) ?_
  intro W base args ds gs before hval0 hW hcnd _
  have hval : ∀ (j : Nat) t v, Try.f4.params[j]? = some t → args[j]? = some v → Value.okWide Try.prog W .any base t v := hval0
  have hW' := hW
  obtain ⟨p, q, hA0, hV, rfl, hfz, hnd⟩ := hW
  have hA : DataW.TrodAll enc Try.prog W 0 (fun _ => true) true Try.f4.params.toList args.toList ds p := hA0
  rw [Try.params4] at hA hval
  obtain ⟨v0, vs0, d0, ds0, p0, q0, hargs, rfl, rfl, h0, r0⟩ := trodAll_cons hA
  obtain ⟨rfl, rfl, rfl⟩ := trodAll_nil r0
  obtain rfl : args = #[v0] := by cases args; simp_all
  obtain ⟨rfl, rfl⟩ := trodVars_none hV
  obtain ⟨sp0, sn0, sc0, rfl⟩ := okWide_slice Try.underlying37 (hval 0 37 v0 rfl rfl)
  have k0 := h0
  have lt0 : ∀ x ∈ p0, x.block < W.heap.size := by obtain ⟨m, hm⟩ := k0; exact DataW.trod_lt m _ _ _ hm
  obtain ⟨xs0, rfl, hx0, wx0⟩ : ∃ xs : List Gi, sn0 = xs.length ∧ CxsAt W (.slice sp0 sn0 sc0) xs ∧ ∀ g ∈ xs, (Lit.int .i64 g.re).wf = true ∧ (Lit.int .i64 g.im).wf = true := by
    obtain ⟨fuel, hf⟩ := h0
    exact cxs_open hf
  clear hA0 hval0
  refine (walk W sp0 sc0 xs0 wx0 hx0).mono fun e W' ⟨he, hg⟩ => ?_
  subst he
  exact ⟨_, rfl, _, _, _, [], _, [], hW', trodAll_mk1 (shut_bool Try.underlying4 _), (trodAll_cons_mk (Below.trod laidOut (by kernel_rfl) (of_decide_eq_true (by kernel_rfl)) k0 hg.out lt0) trodAll_mk0), rfl, hg.out.frame _, fun h => by cases h⟩

theorem over : Rows.flipNumbersRow.holds Try.pinned (OpenSpec.ofChange Rows.flipNumbersSpec) :=
  OpenClaim.holds_of_wide 4 Try.f4 rfl rfl rfl rfl rfl rfl rfl ⟨rfl, rfl, rfl, rfl, rfl⟩ rfl rfl rfl rfl rfl (by kernel_rfl) Try.func4 (by kernel_rfl)
    (of_decide_eq_true (by kernel_rfl)) (by unfold Func.isWrapper; first | (rw [if_pos (by decide +kernel)]; kernel_rfl) | (rw [if_neg (by decide +kernel)]; exact ⟨rfl, rfl⟩))
    (fun os started H enc _ => lifted os started H enc)

/-- THE STATEMENT -/
theorem proved : Rows.FlipNumbersSaid :=
  over
#print axioms proved
end Go.Proofs.Yteajjgegfpibkaa.flipNumbers
