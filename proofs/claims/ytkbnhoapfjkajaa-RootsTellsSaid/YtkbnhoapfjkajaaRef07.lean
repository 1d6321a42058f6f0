/- What reference 7's functions answer. -/
import Derived.Test.YtkbnhoapfjkajaaRef06
import Derived.Test.YtkbnhoapfjkajaaTurn
import Derived.Test.YtkbnhoapfjkajaaRoot3
namespace Go.Proofs.Ytkbnhoapfjkajaa
open Go.ChangeShapes Go.WideShapes Go.ChangeAt Go.RowKit
set_option linter.unusedVariables false

theorem left07_c (k n : Int) (hn : IsLen n) (wk : -9223372036854775808 ≤ k ∧ k ≤ 9223372036854775807) (w : World) :
    Calls Try.prog 34 #[.int .i64 k, .int .i64 n] w fun e w' => e = .returned (.int .i64 (k % n)) ∧ w' = w := by
  have hn0 : 4 ≤ n ∧ n ≤ 64 := by rcases hn with rfl | rfl | rfl | rfl | rfl <;> omega
  obtain ⟨r, hr⟩ : ∃ r, k.tmod n = r := ⟨_, rfl⟩
  have b1 := Int.lt_tmod_of_pos k (show 0 < n by omega)
  have b2 := Int.tmod_lt_of_pos k (show 0 < n by omega)
  rw [hr] at b1 b2
  have he : (0 ≤ r → k % n = r) ∧ (r < 0 → k % n = r + n) := by
    rw [← hr]
    rcases Int.le_total 0 k with h | h
    · rw [Int.tmod_eq_emod_of_nonneg h]
      have := Int.emod_nonneg k (show n ≠ 0 by omega)
      exact ⟨fun _ => rfl, fun h => absurd this (by omega)⟩
    · have e : k.tmod n = -((-k) % n) := by
        rw [← Int.tmod_eq_emod_of_nonneg (show 0 ≤ -k by omega), Int.neg_tmod, Int.neg_neg]
      rw [e]
      clear hr b1 b2 e
      rcases hn with rfl | rfl | rfl | rfl | rfl <;> omega
  have HZ := Lib.hid hr
  have hz : (n == 0) = false := by simp; omega
  clear wk
  by_cases c : r < 0
  · rw [he.2 c]
    clear he hr
    have hr := HZ.out
    go_enter Try.func34, Try.ntmps34
    go_wp2_with fail
    go_ret
    exact ⟨rfl, rfl⟩
  · rw [he.1 (by omega)]
    clear he hr
    have hr := HZ.out
    go_enter Try.func34, Try.ntmps34
    go_wp2_with fail
    go_ret
    exact ⟨rfl, rfl⟩

theorem log07_yes (log : Int) (h0 : 2 ≤ log) (h1 : log ≤ 6) (w : World) :
    Calls Try.prog 15 #[.int .i64 log] w fun e w' => e = .returned (.bool true) ∧ w' = w := by
  go_enter Try.func15, Try.ntmps15
  go_wp2_with fail
  go_ret
  exact ⟨rfl, rfl⟩
theorem log07_no (log : Int) (h : log < 2 ∨ 6 < log) (w : World) :
    Calls Try.prog 15 #[.int .i64 log] w fun e w' => e = .returned (.bool false) ∧ w' = w := by
  by_cases a : 2 ≤ log
  · have b : 6 < log := by omega
    clear h
    go_enter Try.func15, Try.ntmps15
    go_wp2_with fail
    go_ret
    exact ⟨by simp; omega, rfl⟩
  · clear h
    go_enter Try.func15, Try.ntmps15
    go_wp2_with fail
    go_ret
    exact ⟨by simp, rfl⟩
theorem may07_yes (log bits : Int) (h0 : 2 ≤ log) (h1 : log ≤ 6) (b0 : 0 ≤ bits) (b1 : bits ≤ 40) (w : World) :
    Calls Try.prog 8 #[.int .i64 log, .int .i64 bits] w fun e w' => e = .returned (.bool true) ∧ w' = w := by
  have HL := Lib.hid (log07_yes log h0 h1)
  go_enter Try.func8, Try.ntmps8
  go_wp2_with (go_at_call 15; refine (HL.out _).mono ?_; rintro e w1 ⟨rfl, rfl⟩)
  go_ret
  exact ⟨rfl, rfl⟩
theorem may07_no (log bits : Int) (h : log < 2 ∨ 6 < log ∨ bits < 0 ∨ 40 < bits) (w : World) :
    Calls Try.prog 8 #[.int .i64 log, .int .i64 bits] w fun e w' => e = .returned (.bool false) ∧ w' = w := by
  by_cases a : 2 ≤ log ∧ log ≤ 6
  · have HL := Lib.hid (log07_yes log a.1 a.2)
    by_cases b : 0 ≤ bits
    · have c : 40 < bits := by omega
      clear h
      go_enter Try.func8, Try.ntmps8
      go_wp2_with (go_at_call 15; refine (HL.out _).mono ?_; rintro e w1 ⟨rfl, rfl⟩)
      go_ret
      exact ⟨by simp; omega, rfl⟩
    · clear h
      go_enter Try.func8, Try.ntmps8
      go_wp2_with (go_at_call 15; refine (HL.out _).mono ?_; rintro e w1 ⟨rfl, rfl⟩)
      go_ret
      exact ⟨by simp, rfl⟩
  · have HL := Lib.hid (log07_no log (by omega))
    clear h
    go_enter Try.func8, Try.ntmps8
    go_wp2_with (go_at_call 15; refine (HL.out _).mono ?_; rintro e w1 ⟨rfl, rfl⟩)
    go_ret
    exact ⟨rfl, rfl⟩

theorem rsh07_c (x y s : Int) (wx : -9223372036854775808 ≤ x ∧ x ≤ 9223372036854775807) (wy : -9223372036854775808 ≤ y ∧ y ≤ 9223372036854775807) (s0 : 0 ≤ s) (s1 : s ≤ 62) (w : World) :
    Calls Try.prog 35 #[.agg #[.int .i64 x, .int .i64 y], .int .i64 s, .int .i64 1] w fun e w' => e = .returned (.agg #[.int .i64 (rnd x s.toNat 1), .int .i64 (rnd y s.toNat 1)]) ∧ Gr w w' := by
  have HX := Lib.hid (refShift_c x s 1 wx s0 s1 (by omega) (by omega))
  have HY := Lib.hid (refShift_c y s 1 wy s0 s1 (by omega) (by omega))
  generalize rnd x s.toNat 1 = r0 at HX ⊢
  generalize rnd y s.toNat 1 = r1 at HY ⊢
  clear wx wy s0 s1
  go_enter Try.func35, Try.ntmps35
  go_wp2_with fail
  go_region_held3 (fun W => W.cell? ⟨w.heap.size, 0, none⟩ = some (.int .i64 x) ∧ W.cell? ⟨w.heap.size, 1, none⟩ = some (.int .i64 y))
    (go_keep)
    (first | (go_at_call 48; ((with_reducible refine (HX.out _).mono ?_); rintro e w' ⟨rfl, rfl⟩)) | (go_at_call 48; ((with_reducible refine (HY.out _).mono ?_); rintro e w' ⟨rfl, rfl⟩)))
  go_wp2
  refine bodyPost_ret (v := .agg #[.int .i64 r0, .int .i64 r1]) ?_ rfl ⟨rfl, ?_⟩
  · simp [results, Try.results35, go_sem]
  · exact by repeat (first | exact Gr.refl _ | assumption | apply Gr.drew | apply Gr.alloc | (refine Gr.setCell ?_ (by first | (simp; done) | (simp; omega)) _))

theorem rturn_gi (a : Gi) (q : Int) (h : a.re.natAbs ≤ 2305843009213693952 ∧ a.im.natAbs ≤ 2305843009213693952) (w : World) :
    Calls Try.prog 38 #[.agg #[.int .i64 a.re, .int .i64 a.im], .int .i64 q] w fun e w' => e = .returned (.agg #[.int .i64 (a.turn q).re, .int .i64 (a.turn q).im]) ∧ Gr w w' := by
  have h0 : wrap64 (-a.re) = -a.re := IntWalk.wrap64_in _ (by omega)
  have h1 : wrap64 (-a.im) = -a.im := IntWalk.wrap64_in _ (by omega)
  have ht := tmod4 q
  unfold Gi.turn
  rcases q4 q with hm | hm | hm | hm <;> rw [hm] at ht <;> simp only [hm]
  · exact rturn_0 a.re a.im q _ _ _ h0 h1 rfl (by omega) w
  · exact rturn_1 a.re a.im q _ _ _ h0 h1 rfl (by omega) w
  · exact rturn_2 a.re a.im q _ _ _ h0 h1 rfl (by omega) w
  · exact rturn_3 a.re a.im q _ _ _ h0 h1 rfl (by omega) w

theorem rconj_gi (a : Gi) (h : a.im.natAbs ≤ 2305843009213693952) (w : World) :
    Calls Try.prog 37 #[.agg #[.int .i64 a.re, .int .i64 a.im]] w fun e w' => e = .returned (.agg #[.int .i64 a.conj.re, .int .i64 a.conj.im]) ∧ Gr w w' :=
  rconj_c a.re a.im _ (IntWalk.wrap64_in _ (by omega)) w

theorem cxconj_gi (a : Gi) (h : a.re.natAbs ≤ 2305843009213693952 ∧ a.im.natAbs ≤ 2305843009213693952) (w : World) :
    Calls Try.prog 19 #[.agg #[.int .i64 a.re, .int .i64 a.im]] w fun e w' => e = .returned (.tuple #[.agg #[.int .i64 a.conj.re, .int .i64 a.conj.im], .int .i64 0]) ∧ Gr w w' :=
  cxconj_ok a.re a.im (by simp only [Bool.and_eq_true, inB_iff]; omega) w

theorem cxturn_gi (a : Gi) (q : Int) (h : a.re.natAbs ≤ 2305843009213693952 ∧ a.im.natAbs ≤ 2305843009213693952) (w : World) :
    Calls Try.prog 18 #[.agg #[.int .i64 a.re, .int .i64 a.im], .int .i64 q] w fun e w' => e = .returned (.tuple #[.agg #[.int .i64 (a.turn q).re, .int .i64 (a.turn q).im], .int .i64 0]) ∧ Gr w w' := by
  have hB : (inB 2305843009213693952 a.re && inB 2305843009213693952 a.im) = true := by simp only [Bool.and_eq_true, inB_iff]; omega
  have ha := and3 q
  unfold Gi.turn
  rcases q4 q with hm | hm | hm | hm <;> rw [hm] at ha <;> simp only [hm]
  · exact cxturn_0 a.re a.im q hB ha w
  · exact cxturn_1 a.re a.im q hB ha w
  · exact cxturn_2 a.re a.im q hB ha w
  · exact cxturn_3 a.re a.im q hB ha w

end Go.Proofs.Ytkbnhoapfjkajaa
