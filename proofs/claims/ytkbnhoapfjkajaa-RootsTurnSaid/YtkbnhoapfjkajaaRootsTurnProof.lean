/- Proved: for every input, the law RootsTurn answers true at this commit, and its arguments read afterwards as before. No condition. -/
import Derived.Test.YtkbnhoapfjkajaaRows
import Derived.WalkKit
import Derived.ProofKit
import Derived.OpenShut
import Derived.Lib.SmallJoins
import Derived.Test.YtkbnhoapfjkajaaLaw07
import Derived.Test.YtkbnhoapfjkajaaRootsTurnCore
import Derived.Test.YtkbnhoapfjkajaaRootsTurnCore2
namespace Go.Proofs.Ytkbnhoapfjkajaa.rootsTurn
open Go.ChangeShapes Go.WideShapes Go.ChangeAt Go.RowKit Go.Joins
set_option linter.unusedVariables false

theorem own : ownKnob Try.prog.godebug = none := by kernel_rfl



set_option maxHeartbeats 4000000 in
set_option maxRecDepth 100000 in
theorem walk (a0 : Int) (a1 : Int) (a2 : Int) (w0 : (Lit.int .i64 a0).wf = true) (w1 : (Lit.int .i64 a1).wf = true) (w2 : (Lit.int .i64 a2).wf = true) (w : World) :
    Calls Try.prog 5 #[.int .i64 a0, .int .i64 a1, .int .i64 a2] w fun e w' => e = .returned (.bool true) ∧ Gr w w' := by
  have m1 := mod_walk a0 5 (by omega)
  obtain ⟨r, hr⟩ : ∃ r, a0.tmod 5 = r := ⟨_, rfl⟩
  rw [hr] at m1
  obtain ⟨r6, hr6⟩ : ∃ r6, (r + 5).tmod 5 = r6 := ⟨_, rfl⟩
  rw [hr6] at m1
  have m2 := mod_walk a2 41 (by omega)
  obtain ⟨t, ht⟩ : ∃ t, a2.tmod 41 = t := ⟨_, rfl⟩
  rw [ht] at m2
  obtain ⟨b, hb⟩ : ∃ b, (t + 41).tmod 41 = b := ⟨_, rfl⟩
  rw [hb] at m2
  obtain ⟨k, hk⟩ : ∃ k, a1.tmod 1099511627776 = k := ⟨_, rfl⟩
  have k0 := Int.lt_tmod_of_pos a1 (show (0 : Int) < 1099511627776 by omega)
  have k1 := Int.tmod_lt_of_pos a1 (show (0 : Int) < 1099511627776 by omega)
  rw [hk] at k0 k1
  have HH := Lib.hid (And.intro hr (And.intro hr6 (And.intro ht (And.intro hb hk))))
  clear hr hr6 ht hb hk
  have hw1 : IntKind.i64.wrap (r + 5) = r + 5 := IntWalk.i64_in _ ⟨by omega, by omega⟩
  have hw2 : IntKind.i64.wrap (r6 + 2) = r6 + 2 := IntWalk.i64_in _ ⟨by omega, by omega⟩
  have hw3 : IntKind.i64.wrap (t + 41) = t + 41 := IntWalk.i64_in _ ⟨by omega, by omega⟩
  have L0 : 2 ≤ r6 + 2 := by omega
  have L1 : r6 + 2 ≤ 6 := by omega
  have B0 : 0 ≤ b := m2.1
  have B1 : b ≤ 40 := by omega
  obtain ⟨log, hlog⟩ : ∃ log, r6 + 2 = log := ⟨_, rfl⟩
  have hw2 : IntKind.i64.wrap (r6 + 2) = log := hw2.trans hlog
  rw [hlog] at L0 L1
  clear hlog
  have N := len_nums log L0 L1
  have Nb := bit_nums b B0 B1
  have E1 := rRoot_ok log 0 _ b L0 L1 rfl B0 B1
  have E2 := rRoot_ok log k _ b L0 L1 rfl B0 B1
  have E3 := rRoot_ok log (k + 2 ^ log.toNat) _ b L0 L1 rfl B0 B1
  have E4 := rRoot_ok log (k + 2 ^ log.toNat / 4) _ b L0 L1 rfl B0 B1
  have E6 := rRoot_ok log (-k) _ b L0 L1 rfl B0 B1
  rw [root_zero _ N.1 _ Nb.2.2.1 Nb.2.2.2.1, Nb.2.2.2.2.1] at E1
  rw [root_again _ _ N.1] at E3
  rw [root_quarter _ _ N.1] at E4
  rw [root_back _ _ N.1 _ Nb.2.2.1 Nb.2.2.2.1] at E6
  have bd := root_bd (2 ^ log.toNat) k N.1 _ Nb.2.2.1 Nb.2.2.2.1
  rw [Nb.2.2.2.2.1] at bd
  have p40 : (2 : Nat) ^ b.toNat ≤ 2 ^ 40 := Nat.pow_le_pow_right (by decide) (by omega)
  have E5 := cxturn_gi (rootG (2 ^ log.toNat) k (56 - b).toNat) (-1) (by omega)
  have E7 := cxconj_gi (rootG (2 ^ log.toNat) k (56 - b).toNat) (by omega)
  simp only at E1
  by_cases hl : 2 < log
  · obtain ⟨m, hm, hm2, hm3⟩ := half_nums log hl L1
    have E8 := rRoot_ok (log - 1) (k / 2) m b (by omega) (by omega) hm3 B0 B1
    have E9 := rRoot_ok log (k / 2 * 2) _ b L0 L1 rfl B0 B1
    rw [root_half (2 ^ log.toNat) m (k / 2) hm hm2] at E8
    exact rturn_t a0 a1 a2 r (r + 5) r6 log t (t + 41) b k (2 ^ log.toNat) _ (2 ^ b.toNat) _ _ _ _ _ _ _ _ HH.out.1 hw1 HH.out.2.1 hw2 HH.out.2.2.1 hw3 HH.out.2.2.2.1 HH.out.2.2.2.2 N.2.2.2.1 N.2.2.2.2.1 Nb.1 Nb.2.1 ⟨L0, L1⟩ ⟨B0, B1⟩ ⟨by omega, by omega⟩ ⟨N.2.1, N.2.2.1⟩ ⟨N.2.2.2.2.2.1, N.2.2.2.2.2.2⟩ hl (Lib.hid E1) (Lib.hid E2) (Lib.hid E3) (Lib.hid E4) (Lib.hid E5) (Lib.hid E6) (Lib.hid E7) (Lib.hid E8) (Lib.hid E9) (Lib.hid alive07_c) w
  · exact rturn_f a0 a1 a2 r (r + 5) r6 log t (t + 41) b k (2 ^ log.toNat) _ (2 ^ b.toNat) _ _ _ _ _ _ 0 0 HH.out.1 hw1 HH.out.2.1 hw2 HH.out.2.2.1 hw3 HH.out.2.2.2.1 HH.out.2.2.2.2 N.2.2.2.1 N.2.2.2.2.1 Nb.1 Nb.2.1 ⟨L0, L1⟩ ⟨B0, B1⟩ ⟨by omega, by omega⟩ ⟨N.2.1, N.2.2.1⟩ ⟨N.2.2.2.2.2.1, N.2.2.2.2.2.2⟩ (by omega) (Lib.hid E1) (Lib.hid E2) (Lib.hid E3) (Lib.hid E4) (Lib.hid E5) (Lib.hid E6) (Lib.hid E7) (Lib.hid alive07_c) w

set_option maxHeartbeats 4000000 in
set_option maxRecDepth 100000 in
theorem lifted (os : Os) (started : os.Started) (H : Type) (enc : TypeId × Value → H) :
    ReturnsInHanded {} Try.checked os 5 .any (Rows.rootsTurnSpec.pre6 enc Try.prog Try.f5 Rows.rootsTurnRow.domain false) (Rows.rootsTurnSpec.post enc Try.prog Try.f5 false true false false) := by
  refine returnsInHanded_of_change (C := Try.checked) own started (by kernel_rfl) Try.func5
    (ChangeSpec.witness6 (enc := enc) (C := Try.checked) false ⟨#[], #[.int .i64 0, .int .i64 0, .int .i64 0], []⟩ 8 (by kernel_rfl) (by kernel_rfl) (by kernel_rfl) (by kernel_rfl)) ?_
  intro W base args ds gs before hval0 hW hcnd _
  have hval : ∀ (j : Nat) t v, Try.f5.params[j]? = some t → args[j]? = some v → Value.okWide Try.prog W .any base t v := hval0
  have hW' := hW
  obtain ⟨p, q, hA0, hV, rfl, hfz, hnd⟩ := hW
  have hA : DataW.TrodAll enc Try.prog W 0 (fun _ => true) true Try.f5.params.toList args.toList ds p := hA0
  rw [Try.params5] at hA hval
  obtain ⟨v0, vs0, d0, ds0, p0, q0, hargs, rfl, rfl, h0, r0⟩ := trodAll_cons hA
  obtain ⟨v1, vs1, d1, ds1, p1, q1, rfl, rfl, rfl, h1, r1⟩ := trodAll_cons r0
  obtain ⟨v2, vs2, d2, ds2, p2, q2, rfl, rfl, rfl, h2, r2⟩ := trodAll_cons r1
  obtain ⟨rfl, rfl, rfl⟩ := trodAll_nil r2
  obtain rfl : args = #[v0, v1, v2] := by cases args; simp_all
  obtain ⟨rfl, rfl⟩ := trodVars_none hV
  obtain ⟨a0, rfl, rfl, rfl, w0⟩ := open_int Try.underlying3 (hval 0 3 v0 rfl rfl) h0
  obtain ⟨a1, rfl, rfl, rfl, w1⟩ := open_int Try.underlying3 (hval 1 3 v1 rfl rfl) h1
  obtain ⟨a2, rfl, rfl, rfl, w2⟩ := open_int Try.underlying3 (hval 2 3 v2 rfl rfl) h2
  clear hA0 hval0
  simp only [List.append_nil] at hW'
  refine (walk a0 a1 a2 w0 w1 w2 W).mono fun e W' ⟨he, hg⟩ => ?_
  subst he
  exact ⟨_, rfl, post_gr (pa := []) (pv := []) hW' (fun _ _ _ => (trodAll_cons_mk (shut_bool Try.underlying4 _) trodAll_mk0)) (fun sp _ => (trodAll_cons_mk (shut_int Try.underlying3 w0) (trodAll_cons_mk (shut_int Try.underlying3 w1) (trodAll_cons_mk (shut_int Try.underlying3 w2) trodAll_mk0)))) (fun _ _ => rfl) rfl hg⟩

theorem over : Rows.rootsTurnRow.holds Try.pinned (OpenSpec.ofChange Rows.rootsTurnSpec) :=
  OpenClaim.holds_of_wide 5 Try.f5 rfl rfl rfl rfl rfl rfl rfl ⟨rfl, rfl, rfl, rfl, rfl⟩ rfl rfl rfl rfl rfl (by kernel_rfl) Try.func5 (by kernel_rfl)
    (of_decide_eq_true (by kernel_rfl)) (by unfold Func.isWrapper; first | (rw [if_pos (by decide +kernel)]; kernel_rfl) | (rw [if_neg (by decide +kernel)]; exact ⟨rfl, rfl⟩))
    (fun os started H enc _ => lifted os started H enc)

/-- THE STATEMENT -/
theorem proved : Rows.RootsTurnSaid :=
  over
#print axioms proved
end Go.Proofs.Ytkbnhoapfjkajaa.rootsTurn
