/- Proved: for every input, the law TwoSums answers true at this commit, and its arguments read afterwards as before. No condition. -/
import Derived.Test.YtkbfniogannlhaaRows
import Derived.WalkKit
import Derived.ProofKit
import Derived.OpenShut
import Derived.Lib.SmallJoins
import Derived.ChangeOld
import Derived.Below
import Derived.Test.YtkbfniogannlhaaTwoSumsCore
import Derived.Test.YtkbfniogannlhaaCxsArg
namespace Go.Proofs.Ytkbfniogannlhaa.twoSums
open Go.ChangeShapes Go.WideShapes Go.ChangeAt Go.RowKit Go.Joins
set_option linter.unusedVariables false

theorem own : ownKnob Try.prog.godebug = none := by kernel_rfl

theorem cellsC : Try.prog.cellsOf 23 = 2 := by kernel_rfl

theorem near_nums (x p k u v : Int) (n : Nat) (hn : n ≤ 32) (hk : -4611686018427387904 ≤ k ∧ k ≤ 4611686018427387904) (h : absI ((u + v) * 2 ^ n - k) ≤ 2 * 2 ^ n) :
    IntKind.i64.wrap (u + v) = u + v ∧ IntKind.i64.wrap ((u + v) * 2 ^ min n 64) = (u + v) * 2 ^ n ∧ IntKind.i64.wrap ((u + v) * 2 ^ n - k) = (u + v) * 2 ^ n - k ∧ IntKind.i64.wrap (-((u + v) * 2 ^ n - k)) = -((u + v) * 2 ^ n - k) ∧ IntKind.i64.wrap (2 * 2 ^ min n 64) = 2 * 2 ^ n := by
  have hp := pow_pos2 n
  have hp2 : (2 : Int) ^ n ≤ 4294967296 := by
    have h1 : (2 : Nat) ^ n ≤ 2 ^ 32 := Nat.pow_le_pow_right (by decide) hn
    have h2 : ((2 ^ n : Nat) : Int) ≤ ((2 ^ 32 : Nat) : Int) := Int.ofNat_le.2 h1
    rw [Int.natCast_pow] at h2
    simpa using h2
  rw [show min n 64 = n by omega]
  have h1 := absI_le.1 h
  generalize u + v = t at *
  have ht : t.natAbs ≤ (t * 2 ^ n).natAbs := by
    rw [Int.natAbs_mul]
    exact Nat.le_mul_of_pos_right _ (by omega)
  generalize t * 2 ^ n = c at *
  generalize (2 : Int) ^ n = P at *
  exact ⟨IntWalk.i64_in _ ⟨by omega, by omega⟩, IntWalk.i64_in _ ⟨by omega, by omega⟩, IntWalk.i64_in _ ⟨by omega, by omega⟩, IntWalk.i64_in _ ⟨by omega, by omega⟩, IntWalk.i64_in _ ⟨by omega, by omega⟩⟩

theorem near_at (x p k u v b s z : Int) (n : Nat) (hn : n ≤ 32) (hz : IntKind.i64.wrap (b + s) = z) (hzn : z = (n : Int)) (hk : -4611686018427387904 ≤ k ∧ k ≤ 4611686018427387904) (h : absI ((u + v) * 2 ^ n - k) ≤ 2 * 2 ^ n) :
    Hid (∀ (p q : Nat) W, W.cell? ⟨p, 0, none⟩ = some (.int .i64 b) → W.cell? ⟨q, 0, none⟩ = some (.int .i64 s) → Calls Try.prog 19 #[.int .i64 u, .int .i64 v, .int .i64 k, .pointer (some ⟨p, 0, none⟩), .pointer (some ⟨q, 0, none⟩)] W fun e w' => e = .returned (.bool true) ∧ w' = W) := by
  obtain ⟨h1, h2, h3, h4, h5⟩ := near_nums x p k u v n hn hk h
  subst hzn
  exact Lib.hid fun p q W c0 c1 => near10_c p q b s u v k _ (n : Int) _ _ _ h1 hz (by omega) (by rw [Int.toNat_natCast]; exact h2) h3 h4 (by rw [Int.toNat_natCast]; exact h5) h W c0 c1

theorem rnd_bd (x M : Int) (n : Nat) (mo : Int) (hm : mo = 0 ∨ mo = 1 ∨ mo = 2) (hx : -M ≤ x ∧ x ≤ M) : -(M + 1) ≤ rnd x n mo ∧ rnd x n mo ≤ M + 1 := by
  have h := rnd_grow x M n mo hm (absI_le.2 hx)
  have hp := pow_pos2 n
  refine absI_le.1 (Int.not_lt.1 fun hc => ?_)
  have h2 : (absI (rnd x n mo) - 1) * 1 ≤ (absI (rnd x n mo) - 1) * 2 ^ n := Int.mul_le_mul_of_nonneg_left (by omega) (by omega)
  omega

theorem sums_ok (a b w : Gi) (B s : Nat) (mo : Int) (hS : SetsOk2 B s mo) (h1 : allIn 2147483648 [a, b] = true) (h2 : allIn (2 ^ B) [w] = true) (W : World) :
    Calls Try.prog 5 #[.agg #[.int .i64 a.re, .int .i64 a.im], .agg #[.int .i64 b.re, .int .i64 b.im], .agg #[.int .i64 w.re, .int .i64 w.im], .int .i64 B, .int .i64 s, .int .i64 mo] W fun e w' => e = .returned (.bool true) ∧ Gr W w' := by
  have hB : B ≤ 29 := by have := hS.1.2; omega
  have hs : s ≤ 3 := by have := hS.2.1.2; omega
  have hmo : mo = 0 ∨ mo = 1 ∨ mo = 2 := by have := hS.2.2; omega
  have b1 := (allIn_iff _ _).1 h1
  have b2 := (allIn_iff _ _).1 h2
  have HP := twoPair_ok a b w B s mo hS h1 h2
  obtain ⟨hm, e1, e2, e3, e4⟩ := pair_nums a b w B hB (b1 a (by simp)) (b1 b (by simp)) (b2 w (by simp))
  have m1' := hm b.re w.re (.inl rfl) (.inl rfl)
  have m2' := hm b.im w.im (.inr rfl) (.inr rfl)
  have m3' := hm b.re w.im (.inl rfl) (.inr rfl)
  have m4' := hm b.im w.re (.inr rfl) (.inl rfl)
  have a1 := absI_le.1 (b1 a (by simp)).1
  have a2 := absI_le.1 (b1 a (by simp)).2
  have P0 := pair_sums (a.re * 2 ^ B) (gmul b w).re (B + s) mo hmo
  have P1 := pair_sums (a.im * 2 ^ B) (gmul b w).im (B + s) mo hmo
  have r0 := rnd_bd (a.re * 2 ^ B - (gmul b w).re) 4611686018427387904 (B + s) mo hmo (by unfold gmul; simp only; omega)
  have r1 := rnd_bd (a.im * 2 ^ B - (gmul b w).im) 4611686018427387904 (B + s) mo hmo (by unfold gmul; simp only; omega)
  have hz : IntKind.i64.wrap ((B : Int) + s) = ((B + s : Nat) : Int) := by rw [IntWalk.i64_in _ ⟨by omega, by omega⟩]; omega
  have N0 := near_at 0 0 (2 * (a.re * 2 ^ B)) (pairUp B s mo a b w).re (pairDown B s mo a b w).re B s _ (B + s) (by omega) hz rfl (by omega) P0.1
  have N1 := near_at 0 0 (2 * (a.im * 2 ^ B)) (pairUp B s mo a b w).im (pairDown B s mo a b w).im B s _ (B + s) (by omega) hz rfl (by omega) P1.1
  have N2 := near_at 0 0 (2 * (gmul b w).re) (pairUp B s mo a b w).re (-(pairDown B s mo a b w).re) B s _ (B + s) (by omega) hz rfl (by unfold gmul; simp only; omega) P0.2
  have N3 := near_at 0 0 (2 * (gmul b w).im) (pairUp B s mo a b w).im (-(pairDown B s mo a b w).im) B s _ (B + s) (by omega) hz rfl (by unfold gmul; simp only; omega) P1.2
  have y0 : IntKind.i64.wrap (-(pairDown B s mo a b w).re) = -(pairDown B s mo a b w).re := IntWalk.i64_in _ ⟨by unfold pairDown psub; simp only; omega, by unfold pairDown psub; simp only; omega⟩
  have y1 : IntKind.i64.wrap (-(pairDown B s mo a b w).im) = -(pairDown B s mo a b w).im := IntWalk.i64_in _ ⟨by unfold pairDown psub; simp only; omega, by unfold pairDown psub; simp only; omega⟩
  exact twoSums_ok a.re a.im b.re b.im w.re w.im B s mo _ _ _ _ (2 * a.re) (2 * a.im) _ _ (b.re * w.re) (b.im * w.im) (gmul b w).re _ (b.re * w.im) (b.im * w.re) (gmul b w).im _ (by omega)
    (IntWalk.i64_in _ ⟨by omega, by omega⟩) (by rw [Int.toNat_natCast, show min B 64 = B by omega, Int.mul_assoc]; exact IntWalk.i64_in _ ⟨by omega, by omega⟩)
    (IntWalk.i64_in _ ⟨by omega, by omega⟩) (by rw [Int.toNat_natCast, show min B 64 = B by omega, Int.mul_assoc]; exact IntWalk.i64_in _ ⟨by omega, by omega⟩)
    (IntWalk.i64_in _ ⟨by omega, by omega⟩) (IntWalk.i64_in _ ⟨by omega, by omega⟩) (IntWalk.i64_in _ ⟨by omega, by omega⟩) (IntWalk.i64_in _ ⟨by unfold gmul; simp only; omega, by unfold gmul; simp only; omega⟩)
    (IntWalk.i64_in _ ⟨by omega, by omega⟩) (IntWalk.i64_in _ ⟨by omega, by omega⟩) (IntWalk.i64_in _ ⟨by omega, by omega⟩) (IntWalk.i64_in _ ⟨by unfold gmul; simp only; omega, by unfold gmul; simp only; omega⟩)
    y0 y1 (Lib.hid HP) N0 N1 N2 N3 (Lib.hid alive10_c) W

theorem sums_all (ax ay bx by0 wx wy b s mo : Int) (w : World) :
    Calls Try.prog 5 #[.agg #[.int .i64 ax, .int .i64 ay], .agg #[.int .i64 bx, .int .i64 by0], .agg #[.int .i64 wx, .int .i64 wy], .int .i64 b, .int .i64 s, .int .i64 mo] w fun e w' => e = .returned (.bool true) ∧ Gr w w' := by
  have AL := Lib.hid alive10_c
  by_cases hS : SetsOk2 b s mo
  · obtain ⟨B, rfl⟩ : ∃ B : Nat, b = (B : Int) := ⟨b.toNat, by have := hS.1.1; omega⟩
    obtain ⟨sN, rfl⟩ : ∃ sN : Nat, s = (sN : Int) := ⟨s.toNat, by have := hS.2.1.1; omega⟩
    by_cases hr : (allIn 2147483648 [⟨ax, ay⟩, ⟨bx, by0⟩] && allIn (2 ^ B) [⟨wx, wy⟩]) = true
    · rw [Bool.and_eq_true] at hr
      exact sums_ok ⟨ax, ay⟩ ⟨bx, by0⟩ ⟨wx, wy⟩ B sN mo hS hr.1 hr.2 w
    · exact twoSums_bad _ _ _ _ _ _ _ _ _ 2 rfl (Lib.hid (twoPair_range ⟨ax, ay⟩ ⟨bx, by0⟩ ⟨wx, wy⟩ B sN mo hS (by simpa using hr))) AL w
  · exact twoSums_bad _ _ _ _ _ _ _ _ _ 1 rfl (Lib.hid (twoPair_arg ⟨ax, ay⟩ ⟨bx, by0⟩ ⟨wx, wy⟩ b s mo hS)) AL w


set_option maxHeartbeats 4000000 in
set_option maxRecDepth 100000 in
theorem walk (w : World) (x0 y0 : Int) (x1 y1 : Int) (x2 y2 : Int) (a3 : Int) (a4 : Int) (a5 : Int) (wx0 : (Lit.int .i64 x0).wf = true) (wy0 : (Lit.int .i64 y0).wf = true) (wx1 : (Lit.int .i64 x1).wf = true) (wy1 : (Lit.int .i64 y1).wf = true) (wx2 : (Lit.int .i64 x2).wf = true) (wy2 : (Lit.int .i64 y2).wf = true) (w3 : (Lit.int .i64 a3).wf = true) (w4 : (Lit.int .i64 a4).wf = true) (w5 : (Lit.int .i64 a5).wf = true) :
    Calls Try.prog 5 #[.agg #[.int .i64 x0, .int .i64 y0], .agg #[.int .i64 x1, .int .i64 y1], .agg #[.int .i64 x2, .int .i64 y2], .int .i64 a3, .int .i64 a4, .int .i64 a5] w fun e w' => e = .returned (.bool true) ∧ Gr w w' := by
  exact sums_all x0 y0 x1 y1 x2 y2 a3 a4 a5 w

set_option maxHeartbeats 4000000 in
set_option maxRecDepth 100000 in
theorem lifted (os : Os) (started : os.Started) (H : Type) (enc : TypeId × Value → H) :
    ReturnsInHanded {} Try.checked os 5 .any (Rows.twoSumsSpec.pre6 enc Try.prog Try.f5 Rows.twoSumsRow.domain false) (Rows.twoSumsSpec.post enc Try.prog Try.f5 false true false false) := by
  refine returnsInHanded_of_change (C := Try.checked) own started (by kernel_rfl) Try.func5
    (ChangeSpec.witness6 (enc := enc) (C := Try.checked) false ⟨#[], #[.agg #[.int .i64 0, .int .i64 0], .agg #[.int .i64 0, .int .i64 0], .agg #[.int .i64 0, .int .i64 0], .int .i64 0, .int .i64 0, .int .i64 0], []⟩ 8 (by kernel_rfl) (by kernel_rfl) (by kernel_rfl) (by kernel_rfl)) ?_
  intro W base args ds gs before hval0 hW hcnd _
  have hval : ∀ (j : Nat) t v, Try.f5.params[j]? = some t → args[j]? = some v → Value.okWide Try.prog W .any base t v := hval0
  have hW' := hW
  obtain ⟨p, q, hA0, hV, rfl, hfz, hnd⟩ := hW
  have hA : DataW.TrodAll enc Try.prog W 0 (fun _ => true) true Try.f5.params.toList args.toList ds p := hA0
  rw [Try.params5] at hA hval
  obtain ⟨v0, vs0, d0, ds0, p0, q0, hargs, rfl, rfl, h0, r0⟩ := trodAll_cons hA
  obtain ⟨v1, vs1, d1, ds1, p1, q1, rfl, rfl, rfl, h1, r1⟩ := trodAll_cons r0
  obtain ⟨v2, vs2, d2, ds2, p2, q2, rfl, rfl, rfl, h2, r2⟩ := trodAll_cons r1
  obtain ⟨v3, vs3, d3, ds3, p3, q3, rfl, rfl, rfl, h3, r3⟩ := trodAll_cons r2
  obtain ⟨v4, vs4, d4, ds4, p4, q4, rfl, rfl, rfl, h4, r4⟩ := trodAll_cons r3
  obtain ⟨v5, vs5, d5, ds5, p5, q5, rfl, rfl, rfl, h5, r5⟩ := trodAll_cons r4
  obtain ⟨rfl, rfl, rfl⟩ := trodAll_nil r5
  obtain rfl : args = #[v0, v1, v2, v3, v4, v5] := by cases args; simp_all
  obtain ⟨rfl, rfl⟩ := trodVars_none hV
  obtain ⟨c00, c01, z00, z01, m0, rfl, rfl, rfl, hy00, hy01⟩ := open_agg2 Try.underlying23 (by kernel_rfl) cellsC (hval 0 23 v0 rfl rfl) h0
  obtain ⟨x0, e00, rfl, wx0⟩ := DataW.trod_int Try.underlying3 hy00
  obtain ⟨y0, e01, rfl, wy0⟩ := DataW.trod_int Try.underlying3 hy01
  simp at e00 e01
  subst e00 e01
  have s0 : ∀ (W' : World) (sp : Nat → Bool), DataW.Trod enc Try.prog W' 0 sp true 23 (.agg #[.int .i64 x0, .int .i64 y0]) (.agg [.lit (.int .i64 x0), .lit (.int .i64 y0)]) [] := fun W' sp =>
    shut_agg2 (y0 := (.lit (.int .i64 x0), [])) (y1 := (.lit (.int .i64 y0), [])) Try.underlying23 (by kernel_rfl) cellsC ⟨1, by simp [DataW.trod, Try.underlying3, wx0]⟩ ⟨1, by simp [DataW.trod, Try.underlying3, wy0]⟩
  obtain ⟨c10, c11, z10, z11, m1, rfl, rfl, rfl, hy10, hy11⟩ := open_agg2 Try.underlying23 (by kernel_rfl) cellsC (hval 1 23 v1 rfl rfl) h1
  obtain ⟨x1, e10, rfl, wx1⟩ := DataW.trod_int Try.underlying3 hy10
  obtain ⟨y1, e11, rfl, wy1⟩ := DataW.trod_int Try.underlying3 hy11
  simp at e10 e11
  subst e10 e11
  have s1 : ∀ (W' : World) (sp : Nat → Bool), DataW.Trod enc Try.prog W' 0 sp true 23 (.agg #[.int .i64 x1, .int .i64 y1]) (.agg [.lit (.int .i64 x1), .lit (.int .i64 y1)]) [] := fun W' sp =>
    shut_agg2 (y0 := (.lit (.int .i64 x1), [])) (y1 := (.lit (.int .i64 y1), [])) Try.underlying23 (by kernel_rfl) cellsC ⟨1, by simp [DataW.trod, Try.underlying3, wx1]⟩ ⟨1, by simp [DataW.trod, Try.underlying3, wy1]⟩
  obtain ⟨c20, c21, z20, z21, m2, rfl, rfl, rfl, hy20, hy21⟩ := open_agg2 Try.underlying23 (by kernel_rfl) cellsC (hval 2 23 v2 rfl rfl) h2
  obtain ⟨x2, e20, rfl, wx2⟩ := DataW.trod_int Try.underlying3 hy20
  obtain ⟨y2, e21, rfl, wy2⟩ := DataW.trod_int Try.underlying3 hy21
  simp at e20 e21
  subst e20 e21
  have s2 : ∀ (W' : World) (sp : Nat → Bool), DataW.Trod enc Try.prog W' 0 sp true 23 (.agg #[.int .i64 x2, .int .i64 y2]) (.agg [.lit (.int .i64 x2), .lit (.int .i64 y2)]) [] := fun W' sp =>
    shut_agg2 (y0 := (.lit (.int .i64 x2), [])) (y1 := (.lit (.int .i64 y2), [])) Try.underlying23 (by kernel_rfl) cellsC ⟨1, by simp [DataW.trod, Try.underlying3, wx2]⟩ ⟨1, by simp [DataW.trod, Try.underlying3, wy2]⟩
  obtain ⟨a3, rfl, rfl, rfl, w3⟩ := open_int Try.underlying3 (hval 3 3 v3 rfl rfl) h3
  obtain ⟨a4, rfl, rfl, rfl, w4⟩ := open_int Try.underlying3 (hval 4 3 v4 rfl rfl) h4
  obtain ⟨a5, rfl, rfl, rfl, w5⟩ := open_int Try.underlying3 (hval 5 3 v5 rfl rfl) h5
  clear hA0 hval0
  simp only [List.append_nil] at hW'
  refine (walk W x0 y0 x1 y1 x2 y2 a3 a4 a5 wx0 wy0 wx1 wy1 wx2 wy2 w3 w4 w5).mono fun e W' ⟨he, hg⟩ => ?_
  subst he
  exact ⟨_, rfl, post_gr (pa := []) (pv := []) hW' (fun _ _ _ => (trodAll_cons_mk (shut_bool Try.underlying4 _) trodAll_mk0)) (fun sp _ => (trodAll_cons_mk (s0 _ _) (trodAll_cons_mk (s1 _ _) (trodAll_cons_mk (s2 _ _) (trodAll_cons_mk (shut_int Try.underlying3 w3) (trodAll_cons_mk (shut_int Try.underlying3 w4) (trodAll_cons_mk (shut_int Try.underlying3 w5) trodAll_mk0))))))) (fun _ _ => rfl) rfl hg⟩

theorem over : Rows.twoSumsRow.holds Try.pinned (OpenSpec.ofChange Rows.twoSumsSpec) :=
  OpenClaim.holds_of_wide 5 Try.f5 rfl rfl rfl rfl rfl rfl rfl ⟨rfl, rfl, rfl, rfl, rfl⟩ rfl rfl rfl rfl rfl (by kernel_rfl) Try.func5 (by kernel_rfl)
    (of_decide_eq_true (by kernel_rfl)) (by unfold Func.isWrapper; first | (rw [if_pos (by decide +kernel)]; kernel_rfl) | (rw [if_neg (by decide +kernel)]; exact ⟨rfl, rfl⟩))
    (fun os started H enc _ => lifted os started H enc)

/-- THE STATEMENT -/
theorem proved : Rows.TwoSumsSaid :=
  over
#print axioms proved
end Go.Proofs.Ytkbfniogannlhaa.twoSums
