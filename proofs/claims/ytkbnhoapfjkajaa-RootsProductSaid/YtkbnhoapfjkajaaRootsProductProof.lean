/- Proved: for every input, the law RootsProduct answers true at this commit, and its arguments read afterwards as before. No condition. -/
import Derived.Test.YtkbnhoapfjkajaaRows
import Derived.WalkKit
import Derived.ProofKit
import Derived.OpenShut
import Derived.Lib.SmallJoins
import Derived.Test.YtkbnhoapfjkajaaLaw07
import Derived.Test.YtkbnhoapfjkajaaRootsProductCore
namespace Go.Proofs.Ytkbnhoapfjkajaa.rootsProduct
open Go.ChangeShapes Go.WideShapes Go.ChangeAt Go.RowKit Go.Joins
set_option linter.unusedVariables false

theorem own : ownKnob Try.prog.godebug = none := by kernel_rfl



set_option maxHeartbeats 4000000 in
set_option maxRecDepth 100000 in
theorem walk (a0 : Int) (a1 : Int) (a2 : Int) (a3 : Int) (w0 : (Lit.int .i64 a0).wf = true) (w1 : (Lit.int .i64 a1).wf = true) (w2 : (Lit.int .i64 a2).wf = true) (w3 : (Lit.int .i64 a3).wf = true) (w : World) :
    Calls Try.prog 6 #[.int .i64 a0, .int .i64 a1, .int .i64 a2, .int .i64 a3] w fun e w' => e = .returned (.bool true) ∧ Gr w w' := by
  have m1 := mod_walk a0 5 (by omega)
  obtain ⟨r, hr⟩ : ∃ r, a0.tmod 5 = r := ⟨_, rfl⟩
  rw [hr] at m1
  obtain ⟨r6, hr6⟩ : ∃ r6, (r + 5).tmod 5 = r6 := ⟨_, rfl⟩
  rw [hr6] at m1
  have m2 := mod_walk a3 19 (by omega)
  obtain ⟨t, ht⟩ : ∃ t, a3.tmod 19 = t := ⟨_, rfl⟩
  rw [ht] at m2
  obtain ⟨b, hb⟩ : ∃ b, (t + 19).tmod 19 = b := ⟨_, rfl⟩
  rw [hb] at m2
  obtain ⟨k, hk⟩ : ∃ k, a1.tmod 1099511627776 = k := ⟨_, rfl⟩
  have k0 := Int.lt_tmod_of_pos a1 (show (0 : Int) < 1099511627776 by omega)
  have k1 := Int.tmod_lt_of_pos a1 (show (0 : Int) < 1099511627776 by omega)
  rw [hk] at k0 k1
  obtain ⟨m, hm⟩ : ∃ m, a2.tmod 1099511627776 = m := ⟨_, rfl⟩
  have j0 := Int.lt_tmod_of_pos a2 (show (0 : Int) < 1099511627776 by omega)
  have j1 := Int.tmod_lt_of_pos a2 (show (0 : Int) < 1099511627776 by omega)
  rw [hm] at j0 j1
  have HH := Lib.hid (And.intro hr (And.intro hr6 (And.intro ht (And.intro hb (And.intro hk hm)))))
  clear hr hr6 ht hb hk hm
  have hw1 : IntKind.i64.wrap (r + 5) = r + 5 := IntWalk.i64_in _ ⟨by omega, by omega⟩
  have hw2 : IntKind.i64.wrap (r6 + 2) = r6 + 2 := IntWalk.i64_in _ ⟨by omega, by omega⟩
  have hw3 : IntKind.i64.wrap (t + 19) = t + 19 := IntWalk.i64_in _ ⟨by omega, by omega⟩
  have hw4 : IntKind.i64.wrap (b + 12) = b + 12 := IntWalk.i64_in _ ⟨by omega, by omega⟩
  have L0 : 2 ≤ r6 + 2 := by omega
  have L1 : r6 + 2 ≤ 6 := by omega
  have B0 : 12 ≤ b + 12 := by omega
  have B1 : b + 12 ≤ 30 := by omega
  obtain ⟨log, hlog⟩ : ∃ log, r6 + 2 = log := ⟨_, rfl⟩
  have hw2 : IntKind.i64.wrap (r6 + 2) = log := hw2.trans hlog
  rw [hlog] at L0 L1
  clear hlog
  obtain ⟨bt, hbt⟩ : ∃ bt, b + 12 = bt := ⟨_, rfl⟩
  have hw4 : IntKind.i64.wrap (b + 12) = bt := hw4.trans hbt
  rw [hbt] at B0 B1
  have N := len_nums log L0 L1
  have Nb := bit_nums bt (by omega) (by omega)
  have E1 := rRoot_ok log k _ bt L0 L1 rfl (by omega) (by omega)
  have E2 := rRoot_ok log m _ bt L0 L1 rfl (by omega) (by omega)
  have E3 := rRoot_ok log (k + m) _ bt L0 L1 rfl (by omega) (by omega)
  have ba := root_bd (2 ^ log.toNat) k N.1 _ Nb.2.2.1 Nb.2.2.2.1
  have bb := root_bd (2 ^ log.toNat) m N.1 _ Nb.2.2.1 Nb.2.2.2.1
  have bc := root_bd (2 ^ log.toNat) (k + m) N.1 _ Nb.2.2.1 Nb.2.2.2.1
  rw [Nb.2.2.2.2.1] at ba bb bc
  have hp := root_prod (2 ^ log.toNat) k m N.1 (56 - bt).toNat (by omega) (by omega) (2 ^ bt.toNat) (by rw [Nb.2.2.2.2.1])
  generalize rootG (2 ^ log.toNat) k (56 - bt).toNat = g at *
  generalize rootG (2 ^ log.toNat) m (56 - bt).toNat = h at *
  generalize rootG (2 ^ log.toNat) (k + m) (56 - bt).toNat = c at *
  have p30 : (2 : Nat) ^ bt.toNat ≤ 2 ^ 30 := Nat.pow_le_pow_right (by decide) (by omega)
  have hc : ((2 ^ bt.toNat : Nat) : Int) = 2 ^ bt.toNat := by rw [Int.natCast_pow]; rfl
  have hB : (((inB 2147483648 g.re && inB 2147483648 g.im) && (inB 1073741824 h.re && inB 1073741824 h.im)) || ((inB 2147483648 h.re && inB 2147483648 h.im) && (inB 1073741824 g.re && inB 1073741824 g.im))) = true := by
    simp only [Bool.or_eq_true, Bool.and_eq_true, inB_iff]; omega
  have E4 := cxtimes_ok g.re g.im h.re h.im hB
  have td := times_bd g.re g.im h.re h.im hB
  unfold Gi.less Gi.mul Gi.up at hp
  simp only at hp
  have w0' := mul_bd 1073741824 1073741824 c.re (2 ^ bt.toNat) (by decide) (by decide) (by omega) (by omega) (by omega) (by omega)
  have w1' := mul_bd 1073741824 1073741824 c.im (2 ^ bt.toNat) (by decide) (by decide) (by omega) (by omega) (by omega) (by omega)
  have hp30 : (2 : Int) ^ bt.toNat ≤ 1073741824 := by omega
  have hp1 : (1 : Int) ≤ 2 ^ bt.toNat := Nb.2.2.2.2.2.1
  clear ba bb bc hB
  have f0 : wrap64 (c.re * 2 ^ bt.toNat) = c.re * 2 ^ bt.toNat := IntWalk.wrap64_in _ (by omega)
  have f1 : wrap64 (c.im * 2 ^ bt.toNat) = c.im * 2 ^ bt.toNat := IntWalk.wrap64_in _ (by omega)
  have f2 : wrap64 (4 * 2 ^ bt.toNat) = 4 * 2 ^ bt.toNat := IntWalk.wrap64_in _ (by omega)
  have f3 : IntKind.i64.wrap (g.re * h.re - g.im * h.im - c.re * 2 ^ bt.toNat) = g.re * h.re - g.im * h.im - c.re * 2 ^ bt.toNat := IntWalk.i64_in _ ⟨by omega, by omega⟩
  have f4 : IntKind.i64.wrap (g.re * h.im + g.im * h.re - c.im * 2 ^ bt.toNat) = g.re * h.im + g.im * h.re - c.im * 2 ^ bt.toNat := IntWalk.i64_in _ ⟨by omega, by omega⟩
  have hpa := hp.1
  have hpb := hp.2
  exact rprod_c a0 a1 a2 a3 r (r + 5) r6 log t (t + 19) b bt k m _ _ _ _ _ _ _ _ 0 _ _ _ _ _ HH.out.1 hw1 HH.out.2.1 hw2 HH.out.2.2.1 hw3 HH.out.2.2.2.1 hw4 HH.out.2.2.2.2.1 HH.out.2.2.2.2.2 ⟨B0, B1⟩ ⟨by omega, by omega⟩ ⟨by omega, by omega⟩ f0 f1 f3 f4 f2 ⟨by omega, by omega⟩ ⟨by omega, by omega⟩ ⟨by omega, by omega⟩ ⟨by omega, by omega⟩ (Lib.hid E1) (Lib.hid E2) (Lib.hid E3) (Lib.hid E4) (Lib.hid alive07_c) w

set_option maxHeartbeats 4000000 in
set_option maxRecDepth 100000 in
theorem lifted (os : Os) (started : os.Started) (H : Type) (enc : TypeId × Value → H) :
    ReturnsInHanded {} Try.checked os 6 .any (Rows.rootsProductSpec.pre6 enc Try.prog Try.f6 Rows.rootsProductRow.domain false) (Rows.rootsProductSpec.post enc Try.prog Try.f6 false true false false) := by
  refine returnsInHanded_of_change (C := Try.checked) own started (by kernel_rfl) Try.func6
    (ChangeSpec.witness6 (enc := enc) (C := Try.checked) false ⟨#[], #[.int .i64 0, .int .i64 0, .int .i64 0, .int .i64 0], []⟩ 8 (by kernel_rfl) (by kernel_rfl) (by kernel_rfl) (by kernel_rfl)) ?_
  intro W base args ds gs before hval0 hW hcnd _
  have hval : ∀ (j : Nat) t v, Try.f6.params[j]? = some t → args[j]? = some v → Value.okWide Try.prog W .any base t v := hval0
  have hW' := hW
  obtain ⟨p, q, hA0, hV, rfl, hfz, hnd⟩ := hW
  have hA : DataW.TrodAll enc Try.prog W 0 (fun _ => true) true Try.f6.params.toList args.toList ds p := hA0
  rw [Try.params6] at hA hval
  obtain ⟨v0, vs0, d0, ds0, p0, q0, hargs, rfl, rfl, h0, r0⟩ := trodAll_cons hA
  obtain ⟨v1, vs1, d1, ds1, p1, q1, rfl, rfl, rfl, h1, r1⟩ := trodAll_cons r0
  obtain ⟨v2, vs2, d2, ds2, p2, q2, rfl, rfl, rfl, h2, r2⟩ := trodAll_cons r1
  obtain ⟨v3, vs3, d3, ds3, p3, q3, rfl, rfl, rfl, h3, r3⟩ := trodAll_cons r2
  obtain ⟨rfl, rfl, rfl⟩ := trodAll_nil r3
  obtain rfl : args = #[v0, v1, v2, v3] := by cases args; simp_all
  obtain ⟨rfl, rfl⟩ := trodVars_none hV
  obtain ⟨a0, rfl, rfl, rfl, w0⟩ := open_int Try.underlying3 (hval 0 3 v0 rfl rfl) h0
  obtain ⟨a1, rfl, rfl, rfl, w1⟩ := open_int Try.underlying3 (hval 1 3 v1 rfl rfl) h1
  obtain ⟨a2, rfl, rfl, rfl, w2⟩ := open_int Try.underlying3 (hval 2 3 v2 rfl rfl) h2
  obtain ⟨a3, rfl, rfl, rfl, w3⟩ := open_int Try.underlying3 (hval 3 3 v3 rfl rfl) h3
  clear hA0 hval0
  simp only [List.append_nil] at hW'
  refine (walk a0 a1 a2 a3 w0 w1 w2 w3 W).mono fun e W' ⟨he, hg⟩ => ?_
  subst he
  exact ⟨_, rfl, post_gr (pa := []) (pv := []) hW' (fun _ _ _ => (trodAll_cons_mk (shut_bool Try.underlying4 _) trodAll_mk0)) (fun sp _ => (trodAll_cons_mk (shut_int Try.underlying3 w0) (trodAll_cons_mk (shut_int Try.underlying3 w1) (trodAll_cons_mk (shut_int Try.underlying3 w2) (trodAll_cons_mk (shut_int Try.underlying3 w3) trodAll_mk0))))) (fun _ _ => rfl) rfl hg⟩

theorem over : Rows.rootsProductRow.holds Try.pinned (OpenSpec.ofChange Rows.rootsProductSpec) :=
  OpenClaim.holds_of_wide 6 Try.f6 rfl rfl rfl rfl rfl rfl rfl ⟨rfl, rfl, rfl, rfl, rfl⟩ rfl rfl rfl rfl rfl (by kernel_rfl) Try.func6 (by kernel_rfl)
    (of_decide_eq_true (by kernel_rfl)) (by unfold Func.isWrapper; first | (rw [if_pos (by decide +kernel)]; kernel_rfl) | (rw [if_neg (by decide +kernel)]; exact ⟨rfl, rfl⟩))
    (fun os started H enc _ => lifted os started H enc)

/-- THE STATEMENT -/
theorem proved : Rows.RootsProductSaid :=
  over
#print axioms proved
end Go.Proofs.Ytkbnhoapfjkajaa.rootsProduct
