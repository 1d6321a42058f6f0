/- Proved: for every input, the law FourTwos answers true at this commit, and its arguments read afterwards as before. No condition. -/
import Derived.Test.YtomjldaonpjloaaRows
import Derived.WalkKit
import Derived.ProofKit
import Derived.OpenShut
import Derived.Lib.SmallJoins
import Derived.ChangeOld
import Derived.Below
import Derived.Test.YtomjldaonpjloaaFourTwosCore
import Derived.Test.YtomjldaonpjloaaArr4
namespace Go.Proofs.Ytomjldaonpjloaa.fourTwos
open Go.ChangeShapes Go.WideShapes Go.ChangeAt Go.RowKit Go.Joins
set_option linter.unusedVariables false

theorem own : ownKnob Try.prog.godebug = none := by kernel_rfl



theorem twos_first (x0 x1 x2 x3 : Gi) (inv : Bool) : twoL [x0, x1, x2, x3] [⟨1, 0⟩, ⟨0, -1⟩, ⟨-1, 0⟩, ⟨0, 1⟩] 1 0 0 0 inv = [⟨x0.re + x1.re, x0.im + x1.im⟩, ⟨x0.re - x1.re, x0.im - x1.im⟩, ⟨x2.re + x3.re, x2.im + x3.im⟩, ⟨x2.re - x3.re, x2.im - x3.im⟩] := by
  obtain ⟨a0, b0⟩ := x0
  obtain ⟨a1, b1⟩ := x1
  obtain ⟨a2, b2⟩ := x2
  obtain ⟨a3, b3⟩ := x3
  have r4 : List.range 4 = [0, 1, 2, 3] := rfl
  cases inv <;> simp [twoL, r4, twoAt, gmul, rootOf, Gi.conj, pairUp, pairDown, padd, psub, rnd0]
theorem md_bd (g : Gi) : (-536870912 ≤ (md g).re ∧ (md g).re ≤ 536870912) ∧ -536870912 ≤ (md g).im ∧ (md g).im ≤ 536870912 := by
  have h : ∀ x : Int, -536870912 ≤ x.tmod 536870912 ∧ x.tmod 536870912 ≤ 536870912 := fun x => by
    have h1 := Int.tmod_lt_of_pos x (show (0 : Int) < 536870912 by decide)
    have h2 := Int.lt_tmod_of_pos x (show (0 : Int) < 536870912 by decide)
    omega
  exact ⟨h _, h _⟩
theorem twos_all (f : Nat → Gi) (inv : Bool) (w : World) :
    Calls Try.prog 7 #[.agg #[.int .i64 (f 0).re, .int .i64 (f 0).im, .int .i64 (f 1).re, .int .i64 (f 1).im, .int .i64 (f 2).re, .int .i64 (f 2).im, .int .i64 (f 3).re, .int .i64 (f 3).im], .bool inv] w fun e w' => e = .returned (.bool true) ∧ Gr w w' := by
  have b0 := md_bd (f 0)
  have b1 := md_bd (f 1)
  have b2 := md_bd (f 2)
  have b3 := md_bd (f 3)
  have hx : allIn 2147483648 [md (f 0), md (f 1), md (f 2), md (f 3)] = true := by
    rw [allIn_iff]
    intro a ha
    simp only [List.mem_cons, List.not_mem_nil, or_false] at ha
    rcases ha with rfl | rfl | rfl | rfl <;> exact ⟨absI_le.2 ⟨by omega, by omega⟩, absI_le.2 ⟨by omega, by omega⟩⟩
  have hw : allIn (2 ^ 0) [⟨1, 0⟩, ⟨0, -1⟩, ⟨-1, 0⟩, ⟨0, 1⟩] = true := by decide +kernel
  have hf := twos_first (md (f 0)) (md (f 1)) (md (f 2)) (md (f 3)) inv
  have hy : allIn 2147483648 (twoL [md (f 0), md (f 1), md (f 2), md (f 3)] [⟨1, 0⟩, ⟨0, -1⟩, ⟨-1, 0⟩, ⟨0, 1⟩] 1 0 0 0 inv) = true := by
    rw [hf, allIn_iff]
    intro a ha
    simp only [List.mem_cons, List.not_mem_nil, or_false] at ha
    rcases ha with rfl | rfl | rfl | rfl <;> exact ⟨absI_le.2 ⟨by simp only; omega, by simp only; omega⟩, absI_le.2 ⟨by simp only; omega, by simp only; omega⟩⟩
  have hL : ∃ L, IsLog ((4 : Nat) : Int) L := ⟨2, by unfold IsLog; decide⟩
  have hS : SetsOk2 ((0 : Nat) : Int) ((0 : Nat) : Int) 0 := by unfold SetsOk2; omega
  have h4 := four_twos (md (f 0)) (md (f 1)) (md (f 2)) (md (f 3)) inv
  refine fourTwos_of f inv (twoL [md (f 0), md (f 1), md (f 2), md (f 3)] [⟨1, 0⟩, ⟨0, -1⟩, ⟨-1, 0⟩, ⟨0, 1⟩] 1 0 0 0 inv) (fourL [md (f 0), md (f 1), md (f 2), md (f 3)] [⟨1, 0⟩, ⟨0, -1⟩, ⟨-1, 0⟩, ⟨0, 1⟩] 1 0 0 0 inv) (twoL_len _ _ _ _ _ _ _)
    (Lib.hid fun px cx pw cw W hx' hw' => fourPass_yes px pw cx cw _ _ 4 0 0 0 0 inv rfl rfl hL (by decide) hS hx hw W hx' hw')
    (Lib.hid fun px cx pw cw W hx' hw' => twoPass_yes px pw cx cw _ _ 4 0 0 0 0 inv rfl rfl hL (by decide) hS hx hw W hx' hw')
    (Lib.hid fun px cx pw cw W hx' hw' => ?_) (Lib.hid alive11_c) w
  rw [h4]
  exact twoPass_yes px pw cx cw _ _ 4 1 0 0 0 inv (twoL_len _ _ _ _ _ _ _) rfl hL (by decide) hS hy hw W hx' hw'

set_option maxHeartbeats 4000000 in
set_option maxRecDepth 100000 in
theorem walk (w : World) (q0x0 q0y0 q0x1 q0y1 q0x2 q0y2 q0x3 q0y3 : Int) (a1 : Bool) (v00 : (Lit.int .i64 q0x0).wf = true ∧ (Lit.int .i64 q0y0).wf = true) (v01 : (Lit.int .i64 q0x1).wf = true ∧ (Lit.int .i64 q0y1).wf = true) (v02 : (Lit.int .i64 q0x2).wf = true ∧ (Lit.int .i64 q0y2).wf = true) (v03 : (Lit.int .i64 q0x3).wf = true ∧ (Lit.int .i64 q0y3).wf = true) :
    Calls Try.prog 7 #[.agg #[.int .i64 q0x0, .int .i64 q0y0, .int .i64 q0x1, .int .i64 q0y1, .int .i64 q0x2, .int .i64 q0y2, .int .i64 q0x3, .int .i64 q0y3], .bool a1] w fun e w' => e = .returned (.bool true) ∧ Gr w w' := by
  exact twos_all (vec4 ⟨q0x0, q0y0⟩ ⟨q0x1, q0y1⟩ ⟨q0x2, q0y2⟩ ⟨q0x3, q0y3⟩) a1 w

set_option maxHeartbeats 4000000 in
set_option maxRecDepth 100000 in
theorem lifted (os : Os) (started : os.Started) (H : Type) (enc : TypeId × Value → H) :
    ReturnsInHanded {} Try.checked os 7 .any (Rows.fourTwosSpec.pre6 enc Try.prog Try.f7 Rows.fourTwosRow.domain false) (Rows.fourTwosSpec.post enc Try.prog Try.f7 false true false false) := by
  refine returnsInHanded_of_change (C := Try.checked) own started (by kernel_rfl) Try.func7
    (ChangeSpec.witness6 (enc := enc) (C := Try.checked) false ⟨#[], #[.agg #[.int .i64 0, .int .i64 0, .int .i64 0, .int .i64 0, .int .i64 0, .int .i64 0, .int .i64 0, .int .i64 0], .bool false], []⟩ 8 (by kernel_rfl) (by kernel_rfl) (by kernel_rfl) (by kernel_rfl)) ?_
  intro W base args ds gs before hval0 hW hcnd _
  have hval : ∀ (j : Nat) t v, Try.f7.params[j]? = some t → args[j]? = some v → Value.okWide Try.prog W .any base t v := hval0
  have hW' := hW
  obtain ⟨p, q, hA0, hV, rfl, hfz, hnd⟩ := hW
  have hA : DataW.TrodAll enc Try.prog W 0 (fun _ => true) true Try.f7.params.toList args.toList ds p := hA0
  rw [Try.params7] at hA hval
  obtain ⟨v0, vs0, d0, ds0, p0, q0, hargs, rfl, rfl, h0, r0⟩ := trodAll_cons hA
  obtain ⟨v1, vs1, d1, ds1, p1, q1, rfl, rfl, rfl, h1, r1⟩ := trodAll_cons r0
  obtain ⟨rfl, rfl, rfl⟩ := trodAll_nil r1
  obtain rfl : args = #[v0, v1] := by cases args; simp_all
  obtain ⟨rfl, rfl⟩ := trodVars_none hV
  obtain ⟨q0x0, q0y0, q0x1, q0y1, q0x2, q0y2, q0x3, q0y3, rfl, rfl, s0, v00, v01, v02, v03⟩ := arr4_open (hval 0 40 v0 rfl rfl) h0
  obtain ⟨a1, rfl, rfl, rfl⟩ := open_bool Try.underlying4 (hval 1 4 v1 rfl rfl) h1
  clear hA0 hval0
  simp only [List.append_nil] at hW'
  refine (walk W q0x0 q0y0 q0x1 q0y1 q0x2 q0y2 q0x3 q0y3 a1 v00 v01 v02 v03).mono fun e W' ⟨he, hg⟩ => ?_
  subst he
  exact ⟨_, rfl, post_gr (pa := []) (pv := []) hW' (fun _ _ _ => (trodAll_cons_mk (shut_bool Try.underlying4 _) trodAll_mk0)) (fun sp _ => (trodAll_cons_mk (s0 _ _) (trodAll_cons_mk (shut_bool Try.underlying4 a1) trodAll_mk0))) (fun _ _ => rfl) rfl hg⟩

theorem over : Rows.fourTwosRow.holds Try.pinned (OpenSpec.ofChange Rows.fourTwosSpec) :=
  OpenClaim.holds_of_wide 7 Try.f7 rfl rfl rfl rfl rfl rfl rfl ⟨rfl, rfl, rfl, rfl, rfl⟩ rfl rfl rfl rfl rfl (by kernel_rfl) Try.func7 (by kernel_rfl)
    (of_decide_eq_true (by kernel_rfl)) (by unfold Func.isWrapper; first | (rw [if_pos (by decide +kernel)]; kernel_rfl) | (rw [if_neg (by decide +kernel)]; exact ⟨rfl, rfl⟩))
    (fun os started H enc _ => lifted os started H enc)

/-- THE STATEMENT -/
theorem proved : Rows.FourTwosSaid :=
  over
#print axioms proved
end Go.Proofs.Ytomjldaonpjloaa.fourTwos
