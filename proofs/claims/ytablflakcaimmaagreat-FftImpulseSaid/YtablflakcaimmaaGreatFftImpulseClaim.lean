import Derived.Test.YtablflakcaimmaaGreatRows
import Derived.WalkKit
import Derived.ProofKit
import Derived.OpenShut
import Derived.Lib.SmallJoins
import Derived.ChangeOld
import Derived.Below
import Derived.Test.YtablflakcaimmaaGreatUS39
import Derived.Test.YtablflakcaimmaaGreatUS41
import Derived.Test.YtablflakcaimmaaGreatUS43
import Derived.Test.YtablflakcaimmaaGreatUS44
namespace Go.Proofs.YtablflakcaimmaaGreat.fftImpulse
open Go.ChangeShapes Go.WideShapes Go.ChangeAt Go.RowKit Go.Joins
set_option linter.unusedVariables false

theorem own : ownKnob Tryz.prog.godebug = none := by kernel_rfl

theorem cellsC : Tryz.prog.cellsOf 55 = 2 := by kernel_rfl

theorem imp_first (n : Nat) (g : Gi) : (List.range n).map (fun i => if i = 0 then g else ⟨0, 0⟩) = impF 1 n g := by
  unfold impF
  apply List.map_congr_left
  intro i _
  by_cases h : i = 0
  · rw [if_pos h, if_pos (by omega)]
  · rw [if_neg h, if_neg (by omega)]
    rfl
theorem imp_each (n : Nat) (g : Gi) : (List.range n).map (fun _ => g) = impF n n g := by
  unfold impF
  apply List.map_congr_left
  intro i hi
  rw [if_pos (List.mem_range.1 hi)]
theorem imp_why (fo lo ke mo : Int) (g : Gi) (m n : Nat) (hk : okF fo lo ke 2 mo = true) (hn : n = 2 ^ lo.toNat) (h0 : -499 ≤ g.re ∧ g.re ≤ 499) (h1 : -499 ≤ g.im ∧ g.im ≤ 499) : whyB fo lo ke 2 mo false (impF m n g) = 0 := by
  have hp : 32768 ≤ oneB fo := by unfold oneB; split <;> omega
  unfold whyB
  rw [if_pos hk, if_pos (by rw [imp_len, hn]; simp)]
  simp only [Bool.false_eq_true, if_false]
  rw [if_pos (manB_iff.2 (man_imp m n g hp h0 h1))]
theorem impulse_all (x0 y0 fo lo0 ke0 sc0 mo r r5 r6 lg ke : Int) (iv : Bool) (g : Gi) (n : Nat) (e0 : bits BinOp.and IntKind.i64 ke0 1 = ke) (e1 : lo0.tmod 5 = r) (e2 : wrap64 (r + 5) = r5) (e3 : r5.tmod 5 = r6) (e4 : wrap64 (r6 + 2) = lg)
    (hx : x0.tmod 500 = g.re) (hy : y0.tmod 500 = g.im) (hlo : (lg = 2 ∧ (n : Int) = 4) ∨ (lg = 3 ∧ (n : Int) = 8) ∨ (lg = 4 ∧ (n : Int) = 16) ∨ (lg = 5 ∧ (n : Int) = 32) ∨ (lg = 6 ∧ (n : Int) = 64)) (hke : ke = 0 ∨ ke = 1) (h0 : -499 ≤ g.re ∧ g.re ≤ 499) (h1 : -499 ≤ g.im ∧ g.im ≤ 499) (w : World) :
    Calls Tryz.prog 8 #[.agg #[.int .i64 x0, .int .i64 y0], .agg #[.int .i64 fo, .int .i64 lo0, .int .i64 ke0, .int .i64 sc0, .int .i64 mo, .bool iv]] w fun e w' => e = .returned (.bool true) ∧ Gr w w' := by
  have hn : n = 2 ^ lg.toNat := by rcases hlo with ⟨rfl, h⟩ | ⟨rfl, h⟩ | ⟨rfl, h⟩ | ⟨rfl, h⟩ | ⟨rfl, h⟩ <;> simp <;> omega
  have hsh := one_shl hlo
  have hn1 : 4 ≤ n := by omega
  have hn2 : n ≤ 64 := by omega
  by_cases hk : okF fo lg ke 2 mo = true
  · obtain ⟨⟨a1, a2⟩, b1, b2⟩ := imp_run fo lg ke mo iv g n hk hke hn h0 h1
    have hw1 := imp_why fo lg ke mo g 1 n hk hn h0 h1
    have hw2 := imp_why fo lg ke mo g n n hk hn h0 h1
    have p0 := imp_mul_bd n g.re hn2 h0.1 h0.2
    have p1 := imp_mul_bd n g.im hn2 h1.1 h1.2
    refine impulse_yes x0 y0 fo lo0 ke0 sc0 mo r r5 r6 lg ke iv g n (impF n n g) (sumF n n g) (runF fo lg ke 2 mo iv (impF 1 n g)).sh (runF fo lg ke 2 mo iv (impF n n g)).sh (runF fo lg ke 2 mo iv (impF 1 n g)).ex (runF fo lg ke 2 mo iv (impF n n g)).ex (n * g.re) (n * g.im) e0 e1 e2 e3 e4 hx hy hsh hn1 hn2 (Lib.hid fun p c W h => ?_) (Lib.hid fun p c W h => ?_) (imp_len _ _ _) (sum_len _ _ _) (Lib.hid fun i hi => ?_) ?_ ?_ ?_ (Lib.hid fun i hi h0 => ?_) (Lib.hid fun W => ?_) (Lib.hid alive15_c) w
    rotate_left
    rotate_left
    · rw [imp_get, if_pos ⟨hi, hi⟩]
    · rw [sum_get n n g 0 (by omega), if_pos (Nat.zero_mod n)]
      rfl
    · rw [Int.mul_comm]
      exact IntWalk.i64_in _ ⟨by omega, by omega⟩
    · rw [Int.mul_comm]
      exact IntWalk.i64_in _ ⟨by omega, by omega⟩
    · rw [sum_get n n g i hi, if_neg (by rw [Nat.mod_eq_of_lt hi]; omega)]
      rfl
    · have h := calls_gr (pow_c lg (by omega) (by omega) W)
      rw [show (2 : Int) ^ lg.toNat = n by rw [hn]; simp] at h
      exact h
    · rw [imp_first] at h
      have := fftRun_said.1 fo lg ke 2 mo iv _ _ hw1 W h
      rw [a1, a2] at this
      exact this
    · rw [imp_each] at h
      have := fftRun_said.1 fo lg ke 2 mo iv _ _ hw2 W h
      rw [b1, b2] at this
      exact this
  · have hw : ∀ xs : List Gi, whyB fo lg ke 2 mo false xs = 4 := fun xs => by unfold whyB; rw [if_neg hk]
    exact impulse_no x0 y0 fo lo0 ke0 sc0 mo r r5 r6 lg ke iv g n e0 e1 e2 e3 e4 hx hy hsh hn1 hn2 (Lib.hid fun p c W h => fftRun_said.2 fo lg ke 2 mo iv _ _ 4 (hw _) (by decide) W h) (Lib.hid fun p c W h => fftRun_said.2 fo lg ke 2 mo iv _ _ 4 (hw _) (by decide) W h) (Lib.hid alive15_c) w


set_option maxHeartbeats 4000000 in
set_option maxRecDepth 100000 in
theorem walk (w : World) (x0 y0 : Int) (fo1 lo1 ke1 sc1 mo1 : Int) (iv1 : Bool) (wx0 : (Lit.int .i64 x0).wf = true) (wy0 : (Lit.int .i64 y0).wf = true) (v1 : (Lit.int .i64 fo1).wf = true ∧ (Lit.int .i64 lo1).wf = true ∧ (Lit.int .i64 ke1).wf = true ∧ (Lit.int .i64 sc1).wf = true ∧ (Lit.int .i64 mo1).wf = true) :
    Calls Tryz.prog 8 #[.agg #[.int .i64 x0, .int .i64 y0], .agg #[.int .i64 fo1, .int .i64 lo1, .int .i64 ke1, .int .i64 sc1, .int .i64 mo1, .bool iv1]] w fun e w' => e = .returned (.bool true) ∧ Gr w w' := by
  have q1 := Int.lt_tmod_of_pos lo1 (show (0 : Int) < 5 by omega)
  have q2 := Int.tmod_lt_of_pos lo1 (show (0 : Int) < 5 by omega)
  obtain ⟨r, hr⟩ : ∃ r, lo1.tmod 5 = r := ⟨_, rfl⟩
  rw [hr] at q1 q2
  have q3 := Int.tmod_nonneg (a := r + 5) 5 (by omega)
  have q4 := Int.tmod_lt_of_pos (r + 5) (show (0 : Int) < 5 by omega)
  obtain ⟨r6, hr6⟩ : ∃ r6, (r + 5).tmod 5 = r6 := ⟨_, rfl⟩
  rw [hr6] at q3 q4
  have x1 := Int.lt_tmod_of_pos x0 (show (0 : Int) < 500 by omega)
  have x2 := Int.tmod_lt_of_pos x0 (show (0 : Int) < 500 by omega)
  have y1 := Int.lt_tmod_of_pos y0 (show (0 : Int) < 500 by omega)
  have y2 := Int.tmod_lt_of_pos y0 (show (0 : Int) < 500 by omega)
  have hc : r6 = 0 ∨ r6 = 1 ∨ r6 = 2 ∨ r6 = 3 ∨ r6 = 4 := by omega
  obtain ⟨n, hn⟩ : ∃ n : Nat, (r6 + 2 = 2 ∧ (n : Int) = 4) ∨ (r6 + 2 = 3 ∧ (n : Int) = 8) ∨ (r6 + 2 = 4 ∧ (n : Int) = 16) ∨ (r6 + 2 = 5 ∧ (n : Int) = 32) ∨ (r6 + 2 = 6 ∧ (n : Int) = 64) := by
    rcases hc with h | h | h | h | h
    · exact ⟨4, .inl ⟨by omega, rfl⟩⟩
    · exact ⟨8, .inr (.inl ⟨by omega, rfl⟩)⟩
    · exact ⟨16, .inr (.inr (.inl ⟨by omega, rfl⟩))⟩
    · exact ⟨32, .inr (.inr (.inr (.inl ⟨by omega, rfl⟩)))⟩
    · exact ⟨64, .inr (.inr (.inr (.inr ⟨by omega, rfl⟩)))⟩
  exact impulse_all x0 y0 fo1 lo1 ke1 sc1 mo1 r (r + 5) r6 (r6 + 2) (ke1 % 2) iv1 ⟨x0.tmod 500, y0.tmod 500⟩ n (and1 ke1) hr (IntWalk.wrap64_in _ (by omega)) hr6 (IntWalk.wrap64_in _ (by omega)) rfl rfl hn (by omega) (by simp only; omega) (by simp only; omega) w

set_option maxHeartbeats 4000000 in
set_option maxRecDepth 100000 in
theorem lifted (os : Os) (started : os.Started) (H : Type) (enc : TypeId × Value → H) :
    ReturnsInHanded {} Tryz.checked os 8 .any (Rows.fftImpulseSpec.pre6 enc Tryz.prog Tryz.f8 Rows.fftImpulseRow.domain false) (Rows.fftImpulseSpec.post enc Tryz.prog Tryz.f8 false true false false) := by
  refine returnsInHanded_of_change (C := Tryz.checked) own started (by kernel_rfl) Tryz.func8
    (ChangeSpec.witness6 (enc := enc) (C := Tryz.checked) false ⟨#[], #[.agg #[.int .i64 0, .int .i64 0], .agg #[.int .i64 0, .int .i64 0, .int .i64 0, .int .i64 0, .int .i64 0, .bool false]], []⟩ 8 (by kernel_rfl) (by kernel_rfl) (by kernel_rfl) (by kernel_rfl)) ?_
  intro W base args ds gs before hval0 hW hcnd _
  have hval : ∀ (j : Nat) t v, Tryz.f8.params[j]? = some t → args[j]? = some v → Value.okWide Tryz.prog W .any base t v := hval0
  have hW' := hW
  obtain ⟨p, q, hA0, hV, rfl, hfz, hnd⟩ := hW
  have hA : DataW.TrodAll enc Tryz.prog W 0 (fun _ => true) true Tryz.f8.params.toList args.toList ds p := hA0
  rw [Tryz.params8] at hA hval
  obtain ⟨v0, vs0, d0, ds0, p0, q0, hargs, rfl, rfl, h0, r0⟩ := trodAll_cons hA
  obtain ⟨v1, vs1, d1, ds1, p1, q1, rfl, rfl, rfl, h1, r1⟩ := trodAll_cons r0
  obtain ⟨rfl, rfl, rfl⟩ := trodAll_nil r1
  obtain rfl : args = #[v0, v1] := by cases args; simp_all
  obtain ⟨rfl, rfl⟩ := trodVars_none hV
  obtain ⟨c00, c01, z00, z01, m0, rfl, rfl, rfl, hy00, hy01⟩ := open_agg2 Tryz.underlying55 (by kernel_rfl) cellsC (hval 0 55 v0 rfl rfl) h0
  obtain ⟨x0, e00, rfl, wx0⟩ := DataW.trod_int Tryz.underlying3 hy00
  obtain ⟨y0, e01, rfl, wy0⟩ := DataW.trod_int Tryz.underlying3 hy01
  simp at e00 e01
  subst e00 e01
  have s0 : ∀ (W' : World) (sp : Nat → Bool), DataW.Trod enc Tryz.prog W' 0 sp true 55 (.agg #[.int .i64 x0, .int .i64 y0]) (.agg [.lit (.int .i64 x0), .lit (.int .i64 y0)]) [] := fun W' sp =>
    shut_agg2 (y0 := (.lit (.int .i64 x0), [])) (y1 := (.lit (.int .i64 y0), [])) Tryz.underlying55 (by kernel_rfl) cellsC ⟨1, by simp [DataW.trod, Tryz.underlying3, wx0]⟩ ⟨1, by simp [DataW.trod, Tryz.underlying3, wy0]⟩
  obtain ⟨fo1, lo1, ke1, sc1, mo1, iv1, rfl, rfl, s1, v1⟩ := plan_open (hval 1 24 v1 rfl rfl) h1
  clear hA0 hval0
  simp only [List.append_nil] at hW'
  refine (walk W x0 y0 fo1 lo1 ke1 sc1 mo1 iv1 wx0 wy0 v1).mono fun e W' ⟨he, hg⟩ => ?_
  subst he
  exact ⟨_, rfl, post_gr (pa := []) (pv := []) hW' (fun _ _ _ => (trodAll_cons_mk (shut_bool Tryz.underlying4 _) trodAll_mk0)) (fun sp _ => (trodAll_cons_mk (s0 _ _) (trodAll_cons_mk (s1 _ _) trodAll_mk0))) (fun _ _ => rfl) rfl hg⟩

theorem over : Rows.fftImpulseRow.holds Tryz.pinned (OpenSpec.ofChange Rows.fftImpulseSpec) :=
  OpenClaim.holds_of_wide 8 Tryz.f8 rfl rfl rfl rfl rfl rfl rfl ⟨rfl, rfl, rfl, rfl, rfl⟩ rfl rfl rfl rfl rfl (by kernel_rfl) Tryz.func8 (by kernel_rfl)
    (of_decide_eq_true (by kernel_rfl)) (by unfold Func.isWrapper; first | (rw [if_pos (by decide +kernel)]; kernel_rfl) | (rw [if_neg (by decide +kernel)]; exact ⟨rfl, rfl⟩))
    (fun os started H enc _ => lifted os started H enc)

/-- THE STATEMENT -/
theorem proved : Rows.FftImpulseSaid :=
  over
#print axioms proved
end Go.Proofs.YtablflakcaimmaaGreat.fftImpulse
