/- Proved: for every input, the law CircleEighth answers true at this commit, and its arguments read afterwards as before. No condition. -/
import Derived.Test.YtgmoifhmppkneaaRows
import Derived.WalkKit
import Derived.ProofKit
import Derived.OpenShut
import Derived.Lib.SmallJoins
import Derived.Test.YtgmoifhmppkneaaCircleEighthCore
namespace Go.Proofs.Ytgmoifhmppkneaa.circleEighth
open Go.ChangeShapes Go.WideShapes Go.ChangeAt Go.RowKit Go.Joins
set_option linter.unusedVariables false

theorem own : ownKnob Try.prog.godebug = none := by kernel_rfl


theorem eighth_nums (log k : Int) (hl : log = 0 ∨ log = 1 ∨ log = 2 ∨ log = 3 ∨ log = 4 ∨ log = 5) (k0 : 0 ≤ k) (k1 : k < 2 ^ log.toNat) :
    eighthZ (2 ^ log.toNat) log = 56593902016227522 ∧ (eighthZ (2 * k) (log + 1) - (eighthZ k (log + 1) + eighthZ k (log + 1))).natAbs ≤ 1 ∧ 2 * k ≤ 2 ^ (log + 1).toNat ∧ (1 : Int) ≤ 2 ^ log.toNat ∧ (2 : Int) ^ log.toNat ≤ 32 := by
  unfold eighthZ
  rcases hl with rfl | rfl | rfl | rfl | rfl | rfl <;> simp at k1 ⊢ <;> omega
theorem mod_walk (a n : Int) (h : 0 < n) : 0 ≤ (a.tmod n + n).tmod n ∧ (a.tmod n + n).tmod n < n ∧ -n < a.tmod n ∧ a.tmod n < n := by
  have h1 := Int.lt_tmod_of_pos a h
  have h2 := Int.tmod_lt_of_pos a h
  have h3 := Int.tmod_nonneg n (show 0 ≤ a.tmod n + n by omega)
  have h4 := Int.tmod_lt_of_pos (a.tmod n + n) h
  exact ⟨h3, h4, by omega, h2⟩

set_option maxHeartbeats 4000000 in
set_option maxRecDepth 100000 in
theorem walk (a0 : Int) (a1 : Int) (w0 : (Lit.int .i64 a0).wf = true) (w1 : (Lit.int .i64 a1).wf = true) (w : World) :
    Calls Try.prog 6 #[.int .i64 a0, .int .i64 a1] w fun e w' => e = .returned (.bool true) ∧ Gr w w' := by
  have m1 := mod_walk a1 6 (by omega)
  obtain ⟨r, hr⟩ : ∃ r, a1.tmod 6 = r := ⟨_, rfl⟩
  rw [hr] at m1
  obtain ⟨log, hlog⟩ : ∃ log, (r + 6).tmod 6 = log := ⟨_, rfl⟩
  rw [hlog] at m1
  have hw : IntKind.i64.wrap (r + 6) = r + 6 := by clear hr hlog; exact IntWalk.i64_in _ ⟨by omega, by omega⟩
  have hl : log = 0 ∨ log = 1 ∨ log = 2 ∨ log = 3 ∨ log = 4 ∨ log = 5 := by clear hr hlog hw; omega
  have N0 := eighth_nums log 0 hl (by omega) (Int.pow_pos (by decide))
  obtain ⟨p2, hp⟩ : ∃ p2 : Int, 2 ^ log.toNat = p2 := ⟨_, rfl⟩
  have m2 := mod_walk a0 p2 (by rw [← hp]; exact Int.pow_pos (by decide))
  obtain ⟨t, ht⟩ : ∃ t, a0.tmod p2 = t := ⟨_, rfl⟩
  rw [ht] at m2
  obtain ⟨k, hk⟩ : ∃ k, (t + p2).tmod p2 = k := ⟨_, rfl⟩
  rw [hk] at m2
  have N1 := eighth_nums log k hl m2.1 (by rw [hp]; exact m2.2.1)
  have hs : eighthZ p2 log = 56593902016227522 := by rw [← hp]; exact N1.1
  have hw2 : IntKind.i64.wrap (t + p2) = t + p2 := by clear ht hk hr hlog; rw [hp] at N1; exact IntWalk.i64_in _ ⟨by omega, by omega⟩
  have HH := Lib.hid (And.intro hr (And.intro hlog (And.intro ht hk)))
  clear hr hlog ht hk
  have L0 : 0 ≤ log + 1 := by omega
  have L1 : log + 1 ≤ 6 := by omega
  have k2 : 2 * k ≤ 2 ^ (log + 1).toNat := N1.2.2.1
  have e1 := eighthZ_bd k (log + 1) L0 L1 m2.1 (by omega)
  have e2 := eighthZ_bd (2 * k) (log + 1) L0 L1 (by omega) k2
  have hE := N1.2.1
  have hb : 1 ≤ p2 ∧ p2 ≤ 32 := by rw [← hp]; exact N1.2.2.2
  have E1 := eighth_ok k (log + 1) L0 L1 m2.1 (by omega)
  have E2 := eighth_ok (2 * k) (log + 1) L0 L1 (by omega) k2
  have E0 := eighth_ok p2 log (by omega) (by omega) (by omega) (by omega)
  unfold EiIs at E0 E1 E2
  rw [hs] at E0
  clear N0 N1
  generalize eighthZ k (log + 1) = y at *
  generalize eighthZ (2 * k) (log + 1) = z at *
  have b0 := pt_bd 56593902016227522 (by decide)
  have bw := pt_whole
  have b1 := pt_bd y e1.1
  have b2 := pt_bd z e2.1
  have s0 := mq_size _ _ b1.1 b1.1
  have s1 := mq_size _ _ b1.2 b1.2
  have s2 := mq_size _ _ b1.1 b1.2
  have s3 : mq (pt y).im (pt y).re = mq (pt y).re (pt y).im := by unfold mq; rw [Int.mul_comm]
  have hm := pt_mul y y z e1.1 e1.1 e2.1 hE
  rw [s3] at hm
  exact ceighth_c a0 a1 k log p2 r (r + 6) t (t + p2) _ _ _ _ _ _ _ _ _ HH.out.1 hw HH.out.2.1 (by omega) hp hb HH.out.2.2.1 hw2 HH.out.2.2.2 (by omega) (by omega) (by omega) (by omega) (Lib.hid E0) (Lib.hid E1) (Lib.hid E2) (Lib.hid (mul06_c _ _ b1.1 b1.1)) (Lib.hid (mul06_c _ _ b1.2 b1.2)) (Lib.hid (mul06_c _ _ b1.1 b1.2))
    (Lib.hid (near06_c _ _ _ (by omega) (by omega) (by omega) (by omega))) (Lib.hid (near06_c _ _ _ (by omega) (by omega) (by omega) (by omega))) (Lib.hid (near06_c _ _ _ (by omega) (by omega) (by omega) (by omega))) w

set_option maxHeartbeats 4000000 in
set_option maxRecDepth 100000 in
theorem lifted (os : Os) (started : os.Started) (H : Type) (enc : TypeId × Value → H) :
    ReturnsInHanded {} Try.checked os 6 .any (Rows.circleEighthSpec.pre6 enc Try.prog Try.f6 Rows.circleEighthRow.domain false) (Rows.circleEighthSpec.post enc Try.prog Try.f6 false true false false) := by
  refine returnsInHanded_of_change (C := Try.checked) own started (by kernel_rfl) Try.func6
    (ChangeSpec.witness6 (enc := enc) (C := Try.checked) false ⟨#[], #[.int .i64 0, .int .i64 0], []⟩ 8 (by kernel_rfl) (by kernel_rfl) (by kernel_rfl) (by kernel_rfl)) ?_
  intro W base args ds gs before hval0 hW hcnd _
  have hval : ∀ (j : Nat) t v, Try.f6.params[j]? = some t → args[j]? = some v → Value.okWide Try.prog W .any base t v := hval0
  have hW' := hW
  obtain ⟨p, q, hA0, hV, rfl, hfz, hnd⟩ := hW
  have hA : DataW.TrodAll enc Try.prog W 0 (fun _ => true) true Try.f6.params.toList args.toList ds p := hA0
  rw [Try.params6] at hA hval
  obtain ⟨v0, vs0, d0, ds0, p0, q0, hargs, rfl, rfl, h0, r0⟩ := trodAll_cons hA
  obtain ⟨v1, vs1, d1, ds1, p1, q1, rfl, rfl, rfl, h1, r1⟩ := trodAll_cons r0
  obtain ⟨rfl, rfl, rfl⟩ := trodAll_nil r1
  obtain rfl : args = #[v0, v1] := by cases args; simp_all
  obtain ⟨rfl, rfl⟩ := trodVars_none hV
  obtain ⟨a0, rfl, rfl, rfl, w0⟩ := open_int Try.underlying3 (hval 0 3 v0 rfl rfl) h0
  obtain ⟨a1, rfl, rfl, rfl, w1⟩ := open_int Try.underlying3 (hval 1 3 v1 rfl rfl) h1
  clear hA0 hval0
  simp only [List.append_nil] at hW'
  refine (walk a0 a1 w0 w1 W).mono fun e W' ⟨he, hg⟩ => ?_
  subst he
  exact ⟨_, rfl, post_gr (pa := []) (pv := []) hW' (fun _ _ _ => (trodAll_cons_mk (shut_bool Try.underlying4 _) trodAll_mk0)) (fun sp _ => (trodAll_cons_mk (shut_int Try.underlying3 w0) (trodAll_cons_mk (shut_int Try.underlying3 w1) trodAll_mk0))) (fun _ _ => rfl) rfl hg⟩

theorem over : Rows.circleEighthRow.holds Try.pinned (OpenSpec.ofChange Rows.circleEighthSpec) :=
  OpenClaim.holds_of_wide 6 Try.f6 rfl rfl rfl rfl rfl rfl rfl ⟨rfl, rfl, rfl, rfl, rfl⟩ rfl rfl rfl rfl rfl (by kernel_rfl) Try.func6 (by kernel_rfl)
    (of_decide_eq_true (by kernel_rfl)) (by unfold Func.isWrapper; first | (rw [if_pos (by decide +kernel)]; kernel_rfl) | (rw [if_neg (by decide +kernel)]; exact ⟨rfl, rfl⟩))
    (fun os started H enc _ => lifted os started H enc)

/-- THE STATEMENT -/
theorem proved : Rows.CircleEighthSaid :=
  over
#print axioms proved
end Go.Proofs.Ytgmoifhmppkneaa.circleEighth
