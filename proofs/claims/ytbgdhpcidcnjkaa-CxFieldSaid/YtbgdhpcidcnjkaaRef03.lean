/- What the functions of layer 3's reference answer. -/
import Derived.Test.YtbgdhpcidcnjkaaCx7
namespace Go.Proofs.Ytbgdhpcidcnjkaa
open Go.ChangeShapes Go.WideShapes Go.ChangeAt Go.RowKit
set_option linter.unusedVariables false

theorem rwithin_c (x0 x1 m : Int) (m0 : 0 ≤ m) (m1 : m ≤ 4611686018427387904) (w : World) :
    Calls Try.prog 22 #[.agg #[.int .i64 x0, .int .i64 x1], .int .i64 m] w fun e w' => e = .returned (.bool (inB m x0 && inB m x1)) ∧ Gr w w' := by
  by_cases h0 : x0 ≤ m
  · skip
    by_cases h1 : -m ≤ x0
    · skip
      by_cases h2 : x1 ≤ m
      · skip
        by_cases h3 : -m ≤ x1
        · skip
          rw [inB_true (by assumption) (by assumption), inB_true (l := m) (a := x1) (by assumption) (by assumption)]
          go_enter Try.func22, Try.ntmps22
          go_wp2
          go_ret
          exact ⟨rfl, by repeat (first | exact Gr.refl _ | assumption | apply Gr.drew | apply Gr.alloc)⟩
        · skip
          rw [inB_false (l := m) (a := x1) (by omega), Bool.and_false]
          go_enter Try.func22, Try.ntmps22
          go_wp2
          go_ret
          exact ⟨rfl, by repeat (first | exact Gr.refl _ | assumption | apply Gr.drew | apply Gr.alloc)⟩
      · skip
        rw [inB_false (l := m) (a := x1) (by omega), Bool.and_false]
        go_enter Try.func22, Try.ntmps22
        go_wp2
        go_ret
        exact ⟨rfl, by repeat (first | exact Gr.refl _ | assumption | apply Gr.drew | apply Gr.alloc)⟩
    · skip
      rw [inB_false (l := m) (a := x0) (by omega)]
      go_enter Try.func22, Try.ntmps22
      go_wp2
      go_ret
      exact ⟨rfl, by repeat (first | exact Gr.refl _ | assumption | apply Gr.drew | apply Gr.alloc)⟩
  · skip
    rw [inB_false (l := m) (a := x0) (by omega)]
    go_enter Try.func22, Try.ntmps22
    go_wp2
    go_ret
    exact ⟨rfl, by repeat (first | exact Gr.refl _ | assumption | apply Gr.drew | apply Gr.alloc)⟩

theorem rpow61 (w : World) : Calls Try.prog 23 #[.int .i64 61] w fun e w' => e = .returned (.int .i64 2305843009213693952) ∧ w' = w := pow_c 61 (by decide) (by decide) w
theorem rpow31 (w : World) : Calls Try.prog 23 #[.int .i64 31] w fun e w' => e = .returned (.int .i64 2147483648) ∧ w' = w := pow_c 31 (by decide) (by decide) w
theorem rpow30 (w : World) : Calls Try.prog 23 #[.int .i64 30] w fun e w' => e = .returned (.int .i64 1073741824) ∧ w' = w := pow_c 30 (by decide) (by decide) w

theorem rwide_c (x0 x1 : Int) (w : World) :
    Calls Try.prog 11 #[.agg #[.int .i64 x0, .int .i64 x1]] w fun e w' => e = .returned (.bool (inB 2305843009213693952 x0 && inB 2305843009213693952 x1)) ∧ Gr w w' := by
  have HW := Lib.hid (rwithin_c x0 x1 2305843009213693952 (by decide) (by decide))
  generalize (inB 2305843009213693952 x0 && inB 2305843009213693952 x1) = b at HW ⊢
  go_enter Try.func11, Try.ntmps11
  go_wp2_with fail
  obtain ⟨w1, hW⟩ : ∃ u, u = w.alloc (.cells #[.int .i64 x0, .int .i64 x1] 23) := ⟨_, rfl⟩
  have g1 : Gr w w1 := by rw [hW]; exact (Gr.refl w).alloc _ _
  have z1 : w.heap.size < w1.heap.size := by rw [hW]; simp
  have d0 : w1.cell? ⟨w.heap.size, 0, none⟩ = some (.int .i64 x0) := by rw [hW]; go_simp
  have d1 : w1.cell? ⟨w.heap.size, 1, none⟩ = some (.int .i64 x1) := by rw [hW]; go_simp
  rw [← hW]
  clear hW
  go_region_held3 (fun W => W.cell? ⟨w.heap.size, 0, none⟩ = some (.int .i64 x0) ∧ W.cell? ⟨w.heap.size, 1, none⟩ = some (.int .i64 x1) ∧ Gr w1 W)
    (first | (go_split_ands; refine ⟨?_, ?_, ?_⟩; (all_goals (first | assumption | exact Gr.refl _ | exact Gr.drew (Gr.refl _) | exact Gr.drew (by assumption) | (go_keep; done) | ((refine (Gr.cell (by assumption) ?_).trans ?_ <;> (first | assumption)); done)))))
    (first | (go_at_call 23; refine (rpow61 _).mono ?_; rintro e w' ⟨rfl, rfl⟩) | (go_at_call 22; go_split_ands; refine (HW.out _).mono ?_; rintro e w' ⟨rfl, hg⟩; have hgw : Gr w1 w' := Gr.trans (by first | assumption | exact Gr.drew (Gr.refl _)) hg))
  go_wp2
  go_ret
  exact ⟨rfl, g1.trans hgw⟩

theorem rsum_c (x0 x1 y0 y1 r0 r1 : Int) (h0 : wrap64 (x0 + y0) = r0) (h1 : wrap64 (x1 + y1) = r1) (w : World) :
    Calls Try.prog 14 #[.agg #[.int .i64 x0, .int .i64 x1], .agg #[.int .i64 y0, .int .i64 y1]] w fun e w' => e = .returned (.agg #[.int .i64 r0, .int .i64 r1]) ∧ Gr w w' := by
  go_enter Try.func14, Try.ntmps14
  go_wp2
  refine bodyPost_ret (v := .agg #[.int .i64 r0, .int .i64 r1]) ?_ rfl ⟨rfl, ?_⟩
  · simp [results, Try.results14, go_sem]
  · exact by repeat (first | exact Gr.refl _ | assumption | apply Gr.drew | apply Gr.alloc | (refine Gr.setCell ?_ (by first | (simp; done) | (simp; omega)) _))

theorem rless_c (x0 x1 y0 y1 r0 r1 : Int) (h0 : wrap64 (x0 - y0) = r0) (h1 : wrap64 (x1 - y1) = r1) (w : World) :
    Calls Try.prog 15 #[.agg #[.int .i64 x0, .int .i64 x1], .agg #[.int .i64 y0, .int .i64 y1]] w fun e w' => e = .returned (.agg #[.int .i64 r0, .int .i64 r1]) ∧ Gr w w' := by
  go_enter Try.func15, Try.ntmps15
  go_wp2
  refine bodyPost_ret (v := .agg #[.int .i64 r0, .int .i64 r1]) ?_ rfl ⟨rfl, ?_⟩
  · simp [results, Try.results15, go_sem]
  · exact by repeat (first | exact Gr.refl _ | assumption | apply Gr.drew | apply Gr.alloc | (refine Gr.setCell ?_ (by first | (simp; done) | (simp; omega)) _))

theorem rconj_c (x0 x1 r1 : Int) (h1 : wrap64 (-x1) = r1) (w : World) :
    Calls Try.prog 16 #[.agg #[.int .i64 x0, .int .i64 x1]] w fun e w' => e = .returned (.agg #[.int .i64 x0, .int .i64 r1]) ∧ Gr w w' := by
  go_enter Try.func16, Try.ntmps16
  go_wp2
  refine bodyPost_ret (v := .agg #[.int .i64 x0, .int .i64 r1]) ?_ rfl ⟨rfl, ?_⟩
  · simp [results, Try.results16, go_sem]
  · exact by repeat (first | exact Gr.refl _ | assumption | apply Gr.drew | apply Gr.alloc | (refine Gr.setCell ?_ (by first | (simp; done) | (simp; omega)) _))

theorem rturn_0 (x0 x1 n t : Int) (q0 q1 : Int) (h0 : wrap64 (-x0) = q0) (h1 : wrap64 (-x1) = q1) (ht : n.tmod 4 = t) (h : t = 0) (w : World) :
    Calls Try.prog 17 #[.agg #[.int .i64 x0, .int .i64 x1], .int .i64 n] w fun e w' => e = .returned (.agg #[.int .i64 x0, .int .i64 x1]) ∧ Gr w w' := by
  obtain rfl := h
  all_goals
    go_enter Try.func17, Try.ntmps17
    go_wp2
    refine bodyPost_ret (v := .agg #[.int .i64 x0, .int .i64 x1]) ?_ rfl ⟨rfl, ?_⟩
    · simp [results, Try.results17, go_sem]
    · exact by repeat (first | exact Gr.refl _ | assumption | apply Gr.drew | apply Gr.alloc | (refine Gr.setCell ?_ (by first | (simp; done) | (simp; omega)) _))

theorem rturn_1 (x0 x1 n t : Int) (q0 q1 : Int) (h0 : wrap64 (-x0) = q0) (h1 : wrap64 (-x1) = q1) (ht : n.tmod 4 = t) (h : t = 1 ∨ t = -3) (w : World) :
    Calls Try.prog 17 #[.agg #[.int .i64 x0, .int .i64 x1], .int .i64 n] w fun e w' => e = .returned (.agg #[.int .i64 q1, .int .i64 x0]) ∧ Gr w w' := by
  rcases h with rfl | rfl
  all_goals
    go_enter Try.func17, Try.ntmps17
    go_wp2
    refine bodyPost_ret (v := .agg #[.int .i64 q1, .int .i64 x0]) ?_ rfl ⟨rfl, ?_⟩
    · simp [results, Try.results17, go_sem]
    · exact by repeat (first | exact Gr.refl _ | assumption | apply Gr.drew | apply Gr.alloc | (refine Gr.setCell ?_ (by first | (simp; done) | (simp; omega)) _))

theorem rturn_2 (x0 x1 n t : Int) (q0 q1 : Int) (h0 : wrap64 (-x0) = q0) (h1 : wrap64 (-x1) = q1) (ht : n.tmod 4 = t) (h : t = 2 ∨ t = -2) (w : World) :
    Calls Try.prog 17 #[.agg #[.int .i64 x0, .int .i64 x1], .int .i64 n] w fun e w' => e = .returned (.agg #[.int .i64 q0, .int .i64 q1]) ∧ Gr w w' := by
  rcases h with rfl | rfl
  all_goals
    go_enter Try.func17, Try.ntmps17
    go_wp2
    refine bodyPost_ret (v := .agg #[.int .i64 q0, .int .i64 q1]) ?_ rfl ⟨rfl, ?_⟩
    · simp [results, Try.results17, go_sem]
    · exact by repeat (first | exact Gr.refl _ | assumption | apply Gr.drew | apply Gr.alloc | (refine Gr.setCell ?_ (by first | (simp; done) | (simp; omega)) _))

theorem rturn_3 (x0 x1 n t : Int) (q0 q1 : Int) (h0 : wrap64 (-x0) = q0) (h1 : wrap64 (-x1) = q1) (ht : n.tmod 4 = t) (h : t = 3 ∨ t = -1) (w : World) :
    Calls Try.prog 17 #[.agg #[.int .i64 x0, .int .i64 x1], .int .i64 n] w fun e w' => e = .returned (.agg #[.int .i64 x1, .int .i64 q0]) ∧ Gr w w' := by
  rcases h with rfl | rfl
  all_goals
    go_enter Try.func17, Try.ntmps17
    go_wp2
    refine bodyPost_ret (v := .agg #[.int .i64 x1, .int .i64 q0]) ?_ rfl ⟨rfl, ?_⟩
    · simp [results, Try.results17, go_sem]
    · exact by repeat (first | exact Gr.refl _ | assumption | apply Gr.drew | apply Gr.alloc | (refine Gr.setCell ?_ (by first | (simp; done) | (simp; omega)) _))

theorem rtimes_c (x0 x1 y0 y1 p00 p11 p01 p10 r0 r1 : Int) (k0 : wrap64 (x0 * y0) = p00) (k1 : wrap64 (x1 * y1) = p11) (k2 : wrap64 (x0 * y1) = p01) (k3 : wrap64 (x1 * y0) = p10) (h0 : wrap64 (p00 - p11) = r0) (h1 : wrap64 (p01 + p10) = r1) (w : World) :
    Calls Try.prog 21 #[.agg #[.int .i64 x0, .int .i64 x1], .agg #[.int .i64 y0, .int .i64 y1]] w fun e w' => e = .returned (.agg #[.int .i64 r0, .int .i64 r1]) ∧ Gr w w' := by
  go_enter Try.func21, Try.ntmps21
  go_wp2
  refine bodyPost_ret (v := .agg #[.int .i64 r0, .int .i64 r1]) ?_ rfl ⟨rfl, ?_⟩
  · simp [results, Try.results21, go_sem]
  · exact by repeat (first | exact Gr.refl _ | assumption | apply Gr.drew | apply Gr.alloc | (refine Gr.setCell ?_ (by first | (simp; done) | (simp; omega)) _))

theorem rnorm_c (x0 x1 : Int) (a0 : 0 ≤ x0 * x0) (a1 : x0 * x0 ≤ 4611686018427387904) (b0 : 0 ≤ x1 * x1) (b1 : x1 * x1 ≤ 4611686018427387904) (w : World) :
    Calls Try.prog 24 #[.agg #[.int .i64 x0, .int .i64 x1]] w fun e w' => e = .returned (.int .u64 (x0 * x0 + x1 * x1)) ∧ Gr w w' := by
  have k0 : IntKind.u64.wrap (x0 * x0) = x0 * x0 := u64_in _ (by omega) (by omega)
  have k1 : IntKind.u64.wrap (x1 * x1) = x1 * x1 := u64_in _ (by omega) (by omega)
  have k2 : IntKind.u64.wrap (x0 * x0 + x1 * x1) = x0 * x0 + x1 * x1 := u64_in _ (by omega) (by omega)
  go_enter Try.func24, Try.ntmps24
  go_wp2
  go_ret
  exact ⟨rfl, by repeat (first | exact Gr.refl _ | assumption | apply Gr.drew | apply Gr.alloc)⟩

theorem rmay_c (x0 x1 y0 y1 : Int) (w : World) :
    Calls Try.prog 20 #[.agg #[.int .i64 x0, .int .i64 x1], .agg #[.int .i64 y0, .int .i64 y1]] w fun e w' => e = .returned (.bool (((inB 2147483648 x0 && inB 2147483648 x1) && (inB 1073741824 y0 && inB 1073741824 y1)) || ((inB 2147483648 y0 && inB 2147483648 y1) && (inB 1073741824 x0 && inB 1073741824 x1)))) ∧ Gr w w' := by
  have HA := Lib.hid (rwithin_c x0 x1 2147483648 (by decide) (by decide))
  have HB := Lib.hid (rwithin_c y0 y1 1073741824 (by decide) (by decide))
  have HC := Lib.hid (rwithin_c x0 x1 1073741824 (by decide) (by decide))
  have HD := Lib.hid (rwithin_c y0 y1 2147483648 (by decide) (by decide))
  generalize (inB 2147483648 x0 && inB 2147483648 x1) = a at HA ⊢
  generalize (inB 1073741824 y0 && inB 1073741824 y1) = b at HB ⊢
  generalize (inB 1073741824 x0 && inB 1073741824 x1) = c at HC ⊢
  generalize (inB 2147483648 y0 && inB 2147483648 y1) = d at HD ⊢
  cases a <;> cases b <;> cases c <;> cases d
  · skip
    go_enter Try.func20, Try.ntmps20
    go_wp2_with fail
    refine (rpow31 _).mono ?_
    rintro e w1 ⟨rfl, rfl⟩
    go_wp2_with fail
    refine (rpow30 _).mono ?_
    rintro e w1 ⟨rfl, rfl⟩
    go_wp2_with fail
    refine (HA.out _).mono ?_
    rintro e v0 ⟨rfl, g0⟩
    have g0x : Gr w v0 := Gr.trans (by repeat (first | exact Gr.refl _ | assumption | apply Gr.drew | apply Gr.alloc)) g0
    obtain ⟨xl0, xc0, xd0⟩ : CxAt v0 w.heap.size x0 x1 := CxAt.gr ⟨by first | (simp; done) | (simp; omega), by go_simp, by go_simp⟩ g0
    obtain ⟨yl0, yc0, yd0⟩ : CxAt v0 (w.heap.size + 1) y0 y1 := CxAt.gr ⟨by first | (simp; done) | (simp; omega), by go_simp, by go_simp⟩ g0
    go_wp2_with fail
    refine (HC.out _).mono ?_
    rintro e v1 ⟨rfl, g1⟩
    have g1x : Gr w v1 := Gr.trans (by assumption) g1
    obtain ⟨xl1, xc1, xd1⟩ : CxAt v1 w.heap.size x0 x1 := CxAt.gr ⟨xl0, xc0, xd0⟩ g1
    obtain ⟨yl1, yc1, yd1⟩ : CxAt v1 (w.heap.size + 1) y0 y1 := CxAt.gr ⟨yl0, yc0, yd0⟩ g1
    go_wp2_with fail
    go_ret
    exact ⟨rfl, g1x⟩
  · skip
    go_enter Try.func20, Try.ntmps20
    go_wp2_with fail
    refine (rpow31 _).mono ?_
    rintro e w1 ⟨rfl, rfl⟩
    go_wp2_with fail
    refine (rpow30 _).mono ?_
    rintro e w1 ⟨rfl, rfl⟩
    go_wp2_with fail
    refine (HA.out _).mono ?_
    rintro e v0 ⟨rfl, g0⟩
    have g0x : Gr w v0 := Gr.trans (by repeat (first | exact Gr.refl _ | assumption | apply Gr.drew | apply Gr.alloc)) g0
    obtain ⟨xl0, xc0, xd0⟩ : CxAt v0 w.heap.size x0 x1 := CxAt.gr ⟨by first | (simp; done) | (simp; omega), by go_simp, by go_simp⟩ g0
    obtain ⟨yl0, yc0, yd0⟩ : CxAt v0 (w.heap.size + 1) y0 y1 := CxAt.gr ⟨by first | (simp; done) | (simp; omega), by go_simp, by go_simp⟩ g0
    go_wp2_with fail
    refine (HC.out _).mono ?_
    rintro e v1 ⟨rfl, g1⟩
    have g1x : Gr w v1 := Gr.trans (by assumption) g1
    obtain ⟨xl1, xc1, xd1⟩ : CxAt v1 w.heap.size x0 x1 := CxAt.gr ⟨xl0, xc0, xd0⟩ g1
    obtain ⟨yl1, yc1, yd1⟩ : CxAt v1 (w.heap.size + 1) y0 y1 := CxAt.gr ⟨yl0, yc0, yd0⟩ g1
    go_wp2_with fail
    go_ret
    exact ⟨rfl, g1x⟩
  · skip
    go_enter Try.func20, Try.ntmps20
    go_wp2_with fail
    refine (rpow31 _).mono ?_
    rintro e w1 ⟨rfl, rfl⟩
    go_wp2_with fail
    refine (rpow30 _).mono ?_
    rintro e w1 ⟨rfl, rfl⟩
    go_wp2_with fail
    refine (HA.out _).mono ?_
    rintro e v0 ⟨rfl, g0⟩
    have g0x : Gr w v0 := Gr.trans (by repeat (first | exact Gr.refl _ | assumption | apply Gr.drew | apply Gr.alloc)) g0
    obtain ⟨xl0, xc0, xd0⟩ : CxAt v0 w.heap.size x0 x1 := CxAt.gr ⟨by first | (simp; done) | (simp; omega), by go_simp, by go_simp⟩ g0
    obtain ⟨yl0, yc0, yd0⟩ : CxAt v0 (w.heap.size + 1) y0 y1 := CxAt.gr ⟨by first | (simp; done) | (simp; omega), by go_simp, by go_simp⟩ g0
    go_wp2_with fail
    refine (HC.out _).mono ?_
    rintro e v1 ⟨rfl, g1⟩
    have g1x : Gr w v1 := Gr.trans (by assumption) g1
    obtain ⟨xl1, xc1, xd1⟩ : CxAt v1 w.heap.size x0 x1 := CxAt.gr ⟨xl0, xc0, xd0⟩ g1
    obtain ⟨yl1, yc1, yd1⟩ : CxAt v1 (w.heap.size + 1) y0 y1 := CxAt.gr ⟨yl0, yc0, yd0⟩ g1
    go_wp2_with fail
    refine (HD.out _).mono ?_
    rintro e v2 ⟨rfl, g2⟩
    have g2x : Gr w v2 := Gr.trans (by assumption) g2
    obtain ⟨xl2, xc2, xd2⟩ : CxAt v2 w.heap.size x0 x1 := CxAt.gr ⟨xl1, xc1, xd1⟩ g2
    obtain ⟨yl2, yc2, yd2⟩ : CxAt v2 (w.heap.size + 1) y0 y1 := CxAt.gr ⟨yl1, yc1, yd1⟩ g2
    go_wp2_with fail
    go_ret
    exact ⟨rfl, g2x⟩
  · skip
    go_enter Try.func20, Try.ntmps20
    go_wp2_with fail
    refine (rpow31 _).mono ?_
    rintro e w1 ⟨rfl, rfl⟩
    go_wp2_with fail
    refine (rpow30 _).mono ?_
    rintro e w1 ⟨rfl, rfl⟩
    go_wp2_with fail
    refine (HA.out _).mono ?_
    rintro e v0 ⟨rfl, g0⟩
    have g0x : Gr w v0 := Gr.trans (by repeat (first | exact Gr.refl _ | assumption | apply Gr.drew | apply Gr.alloc)) g0
    obtain ⟨xl0, xc0, xd0⟩ : CxAt v0 w.heap.size x0 x1 := CxAt.gr ⟨by first | (simp; done) | (simp; omega), by go_simp, by go_simp⟩ g0
    obtain ⟨yl0, yc0, yd0⟩ : CxAt v0 (w.heap.size + 1) y0 y1 := CxAt.gr ⟨by first | (simp; done) | (simp; omega), by go_simp, by go_simp⟩ g0
    go_wp2_with fail
    refine (HC.out _).mono ?_
    rintro e v1 ⟨rfl, g1⟩
    have g1x : Gr w v1 := Gr.trans (by assumption) g1
    obtain ⟨xl1, xc1, xd1⟩ : CxAt v1 w.heap.size x0 x1 := CxAt.gr ⟨xl0, xc0, xd0⟩ g1
    obtain ⟨yl1, yc1, yd1⟩ : CxAt v1 (w.heap.size + 1) y0 y1 := CxAt.gr ⟨yl0, yc0, yd0⟩ g1
    go_wp2_with fail
    refine (HD.out _).mono ?_
    rintro e v2 ⟨rfl, g2⟩
    have g2x : Gr w v2 := Gr.trans (by assumption) g2
    obtain ⟨xl2, xc2, xd2⟩ : CxAt v2 w.heap.size x0 x1 := CxAt.gr ⟨xl1, xc1, xd1⟩ g2
    obtain ⟨yl2, yc2, yd2⟩ : CxAt v2 (w.heap.size + 1) y0 y1 := CxAt.gr ⟨yl1, yc1, yd1⟩ g2
    go_wp2_with fail
    go_ret
    exact ⟨rfl, g2x⟩
  · skip
    go_enter Try.func20, Try.ntmps20
    go_wp2_with fail
    refine (rpow31 _).mono ?_
    rintro e w1 ⟨rfl, rfl⟩
    go_wp2_with fail
    refine (rpow30 _).mono ?_
    rintro e w1 ⟨rfl, rfl⟩
    go_wp2_with fail
    refine (HA.out _).mono ?_
    rintro e v0 ⟨rfl, g0⟩
    have g0x : Gr w v0 := Gr.trans (by repeat (first | exact Gr.refl _ | assumption | apply Gr.drew | apply Gr.alloc)) g0
    obtain ⟨xl0, xc0, xd0⟩ : CxAt v0 w.heap.size x0 x1 := CxAt.gr ⟨by first | (simp; done) | (simp; omega), by go_simp, by go_simp⟩ g0
    obtain ⟨yl0, yc0, yd0⟩ : CxAt v0 (w.heap.size + 1) y0 y1 := CxAt.gr ⟨by first | (simp; done) | (simp; omega), by go_simp, by go_simp⟩ g0
    go_wp2_with fail
    refine (HC.out _).mono ?_
    rintro e v1 ⟨rfl, g1⟩
    have g1x : Gr w v1 := Gr.trans (by assumption) g1
    obtain ⟨xl1, xc1, xd1⟩ : CxAt v1 w.heap.size x0 x1 := CxAt.gr ⟨xl0, xc0, xd0⟩ g1
    obtain ⟨yl1, yc1, yd1⟩ : CxAt v1 (w.heap.size + 1) y0 y1 := CxAt.gr ⟨yl0, yc0, yd0⟩ g1
    go_wp2_with fail
    go_ret
    exact ⟨rfl, g1x⟩
  · skip
    go_enter Try.func20, Try.ntmps20
    go_wp2_with fail
    refine (rpow31 _).mono ?_
    rintro e w1 ⟨rfl, rfl⟩
    go_wp2_with fail
    refine (rpow30 _).mono ?_
    rintro e w1 ⟨rfl, rfl⟩
    go_wp2_with fail
    refine (HA.out _).mono ?_
    rintro e v0 ⟨rfl, g0⟩
    have g0x : Gr w v0 := Gr.trans (by repeat (first | exact Gr.refl _ | assumption | apply Gr.drew | apply Gr.alloc)) g0
    obtain ⟨xl0, xc0, xd0⟩ : CxAt v0 w.heap.size x0 x1 := CxAt.gr ⟨by first | (simp; done) | (simp; omega), by go_simp, by go_simp⟩ g0
    obtain ⟨yl0, yc0, yd0⟩ : CxAt v0 (w.heap.size + 1) y0 y1 := CxAt.gr ⟨by first | (simp; done) | (simp; omega), by go_simp, by go_simp⟩ g0
    go_wp2_with fail
    refine (HC.out _).mono ?_
    rintro e v1 ⟨rfl, g1⟩
    have g1x : Gr w v1 := Gr.trans (by assumption) g1
    obtain ⟨xl1, xc1, xd1⟩ : CxAt v1 w.heap.size x0 x1 := CxAt.gr ⟨xl0, xc0, xd0⟩ g1
    obtain ⟨yl1, yc1, yd1⟩ : CxAt v1 (w.heap.size + 1) y0 y1 := CxAt.gr ⟨yl0, yc0, yd0⟩ g1
    go_wp2_with fail
    go_ret
    exact ⟨rfl, g1x⟩
  · skip
    go_enter Try.func20, Try.ntmps20
    go_wp2_with fail
    refine (rpow31 _).mono ?_
    rintro e w1 ⟨rfl, rfl⟩
    go_wp2_with fail
    refine (rpow30 _).mono ?_
    rintro e w1 ⟨rfl, rfl⟩
    go_wp2_with fail
    refine (HA.out _).mono ?_
    rintro e v0 ⟨rfl, g0⟩
    have g0x : Gr w v0 := Gr.trans (by repeat (first | exact Gr.refl _ | assumption | apply Gr.drew | apply Gr.alloc)) g0
    obtain ⟨xl0, xc0, xd0⟩ : CxAt v0 w.heap.size x0 x1 := CxAt.gr ⟨by first | (simp; done) | (simp; omega), by go_simp, by go_simp⟩ g0
    obtain ⟨yl0, yc0, yd0⟩ : CxAt v0 (w.heap.size + 1) y0 y1 := CxAt.gr ⟨by first | (simp; done) | (simp; omega), by go_simp, by go_simp⟩ g0
    go_wp2_with fail
    refine (HC.out _).mono ?_
    rintro e v1 ⟨rfl, g1⟩
    have g1x : Gr w v1 := Gr.trans (by assumption) g1
    obtain ⟨xl1, xc1, xd1⟩ : CxAt v1 w.heap.size x0 x1 := CxAt.gr ⟨xl0, xc0, xd0⟩ g1
    obtain ⟨yl1, yc1, yd1⟩ : CxAt v1 (w.heap.size + 1) y0 y1 := CxAt.gr ⟨yl0, yc0, yd0⟩ g1
    go_wp2_with fail
    refine (HD.out _).mono ?_
    rintro e v2 ⟨rfl, g2⟩
    have g2x : Gr w v2 := Gr.trans (by assumption) g2
    obtain ⟨xl2, xc2, xd2⟩ : CxAt v2 w.heap.size x0 x1 := CxAt.gr ⟨xl1, xc1, xd1⟩ g2
    obtain ⟨yl2, yc2, yd2⟩ : CxAt v2 (w.heap.size + 1) y0 y1 := CxAt.gr ⟨yl1, yc1, yd1⟩ g2
    go_wp2_with fail
    go_ret
    exact ⟨rfl, g2x⟩
  · skip
    go_enter Try.func20, Try.ntmps20
    go_wp2_with fail
    refine (rpow31 _).mono ?_
    rintro e w1 ⟨rfl, rfl⟩
    go_wp2_with fail
    refine (rpow30 _).mono ?_
    rintro e w1 ⟨rfl, rfl⟩
    go_wp2_with fail
    refine (HA.out _).mono ?_
    rintro e v0 ⟨rfl, g0⟩
    have g0x : Gr w v0 := Gr.trans (by repeat (first | exact Gr.refl _ | assumption | apply Gr.drew | apply Gr.alloc)) g0
    obtain ⟨xl0, xc0, xd0⟩ : CxAt v0 w.heap.size x0 x1 := CxAt.gr ⟨by first | (simp; done) | (simp; omega), by go_simp, by go_simp⟩ g0
    obtain ⟨yl0, yc0, yd0⟩ : CxAt v0 (w.heap.size + 1) y0 y1 := CxAt.gr ⟨by first | (simp; done) | (simp; omega), by go_simp, by go_simp⟩ g0
    go_wp2_with fail
    refine (HC.out _).mono ?_
    rintro e v1 ⟨rfl, g1⟩
    have g1x : Gr w v1 := Gr.trans (by assumption) g1
    obtain ⟨xl1, xc1, xd1⟩ : CxAt v1 w.heap.size x0 x1 := CxAt.gr ⟨xl0, xc0, xd0⟩ g1
    obtain ⟨yl1, yc1, yd1⟩ : CxAt v1 (w.heap.size + 1) y0 y1 := CxAt.gr ⟨yl0, yc0, yd0⟩ g1
    go_wp2_with fail
    refine (HD.out _).mono ?_
    rintro e v2 ⟨rfl, g2⟩
    have g2x : Gr w v2 := Gr.trans (by assumption) g2
    obtain ⟨xl2, xc2, xd2⟩ : CxAt v2 w.heap.size x0 x1 := CxAt.gr ⟨xl1, xc1, xd1⟩ g2
    obtain ⟨yl2, yc2, yd2⟩ : CxAt v2 (w.heap.size + 1) y0 y1 := CxAt.gr ⟨yl1, yc1, yd1⟩ g2
    go_wp2_with fail
    go_ret
    exact ⟨rfl, g2x⟩
  · skip
    go_enter Try.func20, Try.ntmps20
    go_wp2_with fail
    refine (rpow31 _).mono ?_
    rintro e w1 ⟨rfl, rfl⟩
    go_wp2_with fail
    refine (rpow30 _).mono ?_
    rintro e w1 ⟨rfl, rfl⟩
    go_wp2_with fail
    refine (HA.out _).mono ?_
    rintro e v0 ⟨rfl, g0⟩
    have g0x : Gr w v0 := Gr.trans (by repeat (first | exact Gr.refl _ | assumption | apply Gr.drew | apply Gr.alloc)) g0
    obtain ⟨xl0, xc0, xd0⟩ : CxAt v0 w.heap.size x0 x1 := CxAt.gr ⟨by first | (simp; done) | (simp; omega), by go_simp, by go_simp⟩ g0
    obtain ⟨yl0, yc0, yd0⟩ : CxAt v0 (w.heap.size + 1) y0 y1 := CxAt.gr ⟨by first | (simp; done) | (simp; omega), by go_simp, by go_simp⟩ g0
    go_wp2_with fail
    refine (HB.out _).mono ?_
    rintro e v1 ⟨rfl, g1⟩
    have g1x : Gr w v1 := Gr.trans (by assumption) g1
    obtain ⟨xl1, xc1, xd1⟩ : CxAt v1 w.heap.size x0 x1 := CxAt.gr ⟨xl0, xc0, xd0⟩ g1
    obtain ⟨yl1, yc1, yd1⟩ : CxAt v1 (w.heap.size + 1) y0 y1 := CxAt.gr ⟨yl0, yc0, yd0⟩ g1
    go_wp2_with fail
    refine (HC.out _).mono ?_
    rintro e v2 ⟨rfl, g2⟩
    have g2x : Gr w v2 := Gr.trans (by assumption) g2
    obtain ⟨xl2, xc2, xd2⟩ : CxAt v2 w.heap.size x0 x1 := CxAt.gr ⟨xl1, xc1, xd1⟩ g2
    obtain ⟨yl2, yc2, yd2⟩ : CxAt v2 (w.heap.size + 1) y0 y1 := CxAt.gr ⟨yl1, yc1, yd1⟩ g2
    go_wp2_with fail
    go_ret
    exact ⟨rfl, g2x⟩
  · skip
    go_enter Try.func20, Try.ntmps20
    go_wp2_with fail
    refine (rpow31 _).mono ?_
    rintro e w1 ⟨rfl, rfl⟩
    go_wp2_with fail
    refine (rpow30 _).mono ?_
    rintro e w1 ⟨rfl, rfl⟩
    go_wp2_with fail
    refine (HA.out _).mono ?_
    rintro e v0 ⟨rfl, g0⟩
    have g0x : Gr w v0 := Gr.trans (by repeat (first | exact Gr.refl _ | assumption | apply Gr.drew | apply Gr.alloc)) g0
    obtain ⟨xl0, xc0, xd0⟩ : CxAt v0 w.heap.size x0 x1 := CxAt.gr ⟨by first | (simp; done) | (simp; omega), by go_simp, by go_simp⟩ g0
    obtain ⟨yl0, yc0, yd0⟩ : CxAt v0 (w.heap.size + 1) y0 y1 := CxAt.gr ⟨by first | (simp; done) | (simp; omega), by go_simp, by go_simp⟩ g0
    go_wp2_with fail
    refine (HB.out _).mono ?_
    rintro e v1 ⟨rfl, g1⟩
    have g1x : Gr w v1 := Gr.trans (by assumption) g1
    obtain ⟨xl1, xc1, xd1⟩ : CxAt v1 w.heap.size x0 x1 := CxAt.gr ⟨xl0, xc0, xd0⟩ g1
    obtain ⟨yl1, yc1, yd1⟩ : CxAt v1 (w.heap.size + 1) y0 y1 := CxAt.gr ⟨yl0, yc0, yd0⟩ g1
    go_wp2_with fail
    refine (HC.out _).mono ?_
    rintro e v2 ⟨rfl, g2⟩
    have g2x : Gr w v2 := Gr.trans (by assumption) g2
    obtain ⟨xl2, xc2, xd2⟩ : CxAt v2 w.heap.size x0 x1 := CxAt.gr ⟨xl1, xc1, xd1⟩ g2
    obtain ⟨yl2, yc2, yd2⟩ : CxAt v2 (w.heap.size + 1) y0 y1 := CxAt.gr ⟨yl1, yc1, yd1⟩ g2
    go_wp2_with fail
    go_ret
    exact ⟨rfl, g2x⟩
  · skip
    go_enter Try.func20, Try.ntmps20
    go_wp2_with fail
    refine (rpow31 _).mono ?_
    rintro e w1 ⟨rfl, rfl⟩
    go_wp2_with fail
    refine (rpow30 _).mono ?_
    rintro e w1 ⟨rfl, rfl⟩
    go_wp2_with fail
    refine (HA.out _).mono ?_
    rintro e v0 ⟨rfl, g0⟩
    have g0x : Gr w v0 := Gr.trans (by repeat (first | exact Gr.refl _ | assumption | apply Gr.drew | apply Gr.alloc)) g0
    obtain ⟨xl0, xc0, xd0⟩ : CxAt v0 w.heap.size x0 x1 := CxAt.gr ⟨by first | (simp; done) | (simp; omega), by go_simp, by go_simp⟩ g0
    obtain ⟨yl0, yc0, yd0⟩ : CxAt v0 (w.heap.size + 1) y0 y1 := CxAt.gr ⟨by first | (simp; done) | (simp; omega), by go_simp, by go_simp⟩ g0
    go_wp2_with fail
    refine (HB.out _).mono ?_
    rintro e v1 ⟨rfl, g1⟩
    have g1x : Gr w v1 := Gr.trans (by assumption) g1
    obtain ⟨xl1, xc1, xd1⟩ : CxAt v1 w.heap.size x0 x1 := CxAt.gr ⟨xl0, xc0, xd0⟩ g1
    obtain ⟨yl1, yc1, yd1⟩ : CxAt v1 (w.heap.size + 1) y0 y1 := CxAt.gr ⟨yl0, yc0, yd0⟩ g1
    go_wp2_with fail
    refine (HC.out _).mono ?_
    rintro e v2 ⟨rfl, g2⟩
    have g2x : Gr w v2 := Gr.trans (by assumption) g2
    obtain ⟨xl2, xc2, xd2⟩ : CxAt v2 w.heap.size x0 x1 := CxAt.gr ⟨xl1, xc1, xd1⟩ g2
    obtain ⟨yl2, yc2, yd2⟩ : CxAt v2 (w.heap.size + 1) y0 y1 := CxAt.gr ⟨yl1, yc1, yd1⟩ g2
    go_wp2_with fail
    refine (HD.out _).mono ?_
    rintro e v3 ⟨rfl, g3⟩
    have g3x : Gr w v3 := Gr.trans (by assumption) g3
    obtain ⟨xl3, xc3, xd3⟩ : CxAt v3 w.heap.size x0 x1 := CxAt.gr ⟨xl2, xc2, xd2⟩ g3
    obtain ⟨yl3, yc3, yd3⟩ : CxAt v3 (w.heap.size + 1) y0 y1 := CxAt.gr ⟨yl2, yc2, yd2⟩ g3
    go_wp2_with fail
    go_ret
    exact ⟨rfl, g3x⟩
  · skip
    go_enter Try.func20, Try.ntmps20
    go_wp2_with fail
    refine (rpow31 _).mono ?_
    rintro e w1 ⟨rfl, rfl⟩
    go_wp2_with fail
    refine (rpow30 _).mono ?_
    rintro e w1 ⟨rfl, rfl⟩
    go_wp2_with fail
    refine (HA.out _).mono ?_
    rintro e v0 ⟨rfl, g0⟩
    have g0x : Gr w v0 := Gr.trans (by repeat (first | exact Gr.refl _ | assumption | apply Gr.drew | apply Gr.alloc)) g0
    obtain ⟨xl0, xc0, xd0⟩ : CxAt v0 w.heap.size x0 x1 := CxAt.gr ⟨by first | (simp; done) | (simp; omega), by go_simp, by go_simp⟩ g0
    obtain ⟨yl0, yc0, yd0⟩ : CxAt v0 (w.heap.size + 1) y0 y1 := CxAt.gr ⟨by first | (simp; done) | (simp; omega), by go_simp, by go_simp⟩ g0
    go_wp2_with fail
    refine (HB.out _).mono ?_
    rintro e v1 ⟨rfl, g1⟩
    have g1x : Gr w v1 := Gr.trans (by assumption) g1
    obtain ⟨xl1, xc1, xd1⟩ : CxAt v1 w.heap.size x0 x1 := CxAt.gr ⟨xl0, xc0, xd0⟩ g1
    obtain ⟨yl1, yc1, yd1⟩ : CxAt v1 (w.heap.size + 1) y0 y1 := CxAt.gr ⟨yl0, yc0, yd0⟩ g1
    go_wp2_with fail
    refine (HC.out _).mono ?_
    rintro e v2 ⟨rfl, g2⟩
    have g2x : Gr w v2 := Gr.trans (by assumption) g2
    obtain ⟨xl2, xc2, xd2⟩ : CxAt v2 w.heap.size x0 x1 := CxAt.gr ⟨xl1, xc1, xd1⟩ g2
    obtain ⟨yl2, yc2, yd2⟩ : CxAt v2 (w.heap.size + 1) y0 y1 := CxAt.gr ⟨yl1, yc1, yd1⟩ g2
    go_wp2_with fail
    refine (HD.out _).mono ?_
    rintro e v3 ⟨rfl, g3⟩
    have g3x : Gr w v3 := Gr.trans (by assumption) g3
    obtain ⟨xl3, xc3, xd3⟩ : CxAt v3 w.heap.size x0 x1 := CxAt.gr ⟨xl2, xc2, xd2⟩ g3
    obtain ⟨yl3, yc3, yd3⟩ : CxAt v3 (w.heap.size + 1) y0 y1 := CxAt.gr ⟨yl2, yc2, yd2⟩ g3
    go_wp2_with fail
    go_ret
    exact ⟨rfl, g3x⟩
  · skip
    go_enter Try.func20, Try.ntmps20
    go_wp2_with fail
    refine (rpow31 _).mono ?_
    rintro e w1 ⟨rfl, rfl⟩
    go_wp2_with fail
    refine (rpow30 _).mono ?_
    rintro e w1 ⟨rfl, rfl⟩
    go_wp2_with fail
    refine (HA.out _).mono ?_
    rintro e v0 ⟨rfl, g0⟩
    have g0x : Gr w v0 := Gr.trans (by repeat (first | exact Gr.refl _ | assumption | apply Gr.drew | apply Gr.alloc)) g0
    obtain ⟨xl0, xc0, xd0⟩ : CxAt v0 w.heap.size x0 x1 := CxAt.gr ⟨by first | (simp; done) | (simp; omega), by go_simp, by go_simp⟩ g0
    obtain ⟨yl0, yc0, yd0⟩ : CxAt v0 (w.heap.size + 1) y0 y1 := CxAt.gr ⟨by first | (simp; done) | (simp; omega), by go_simp, by go_simp⟩ g0
    go_wp2_with fail
    refine (HB.out _).mono ?_
    rintro e v1 ⟨rfl, g1⟩
    have g1x : Gr w v1 := Gr.trans (by assumption) g1
    obtain ⟨xl1, xc1, xd1⟩ : CxAt v1 w.heap.size x0 x1 := CxAt.gr ⟨xl0, xc0, xd0⟩ g1
    obtain ⟨yl1, yc1, yd1⟩ : CxAt v1 (w.heap.size + 1) y0 y1 := CxAt.gr ⟨yl0, yc0, yd0⟩ g1
    go_wp2_with fail
    go_ret
    exact ⟨rfl, g1x⟩
  · skip
    go_enter Try.func20, Try.ntmps20
    go_wp2_with fail
    refine (rpow31 _).mono ?_
    rintro e w1 ⟨rfl, rfl⟩
    go_wp2_with fail
    refine (rpow30 _).mono ?_
    rintro e w1 ⟨rfl, rfl⟩
    go_wp2_with fail
    refine (HA.out _).mono ?_
    rintro e v0 ⟨rfl, g0⟩
    have g0x : Gr w v0 := Gr.trans (by repeat (first | exact Gr.refl _ | assumption | apply Gr.drew | apply Gr.alloc)) g0
    obtain ⟨xl0, xc0, xd0⟩ : CxAt v0 w.heap.size x0 x1 := CxAt.gr ⟨by first | (simp; done) | (simp; omega), by go_simp, by go_simp⟩ g0
    obtain ⟨yl0, yc0, yd0⟩ : CxAt v0 (w.heap.size + 1) y0 y1 := CxAt.gr ⟨by first | (simp; done) | (simp; omega), by go_simp, by go_simp⟩ g0
    go_wp2_with fail
    refine (HB.out _).mono ?_
    rintro e v1 ⟨rfl, g1⟩
    have g1x : Gr w v1 := Gr.trans (by assumption) g1
    obtain ⟨xl1, xc1, xd1⟩ : CxAt v1 w.heap.size x0 x1 := CxAt.gr ⟨xl0, xc0, xd0⟩ g1
    obtain ⟨yl1, yc1, yd1⟩ : CxAt v1 (w.heap.size + 1) y0 y1 := CxAt.gr ⟨yl0, yc0, yd0⟩ g1
    go_wp2_with fail
    go_ret
    exact ⟨rfl, g1x⟩
  · skip
    go_enter Try.func20, Try.ntmps20
    go_wp2_with fail
    refine (rpow31 _).mono ?_
    rintro e w1 ⟨rfl, rfl⟩
    go_wp2_with fail
    refine (rpow30 _).mono ?_
    rintro e w1 ⟨rfl, rfl⟩
    go_wp2_with fail
    refine (HA.out _).mono ?_
    rintro e v0 ⟨rfl, g0⟩
    have g0x : Gr w v0 := Gr.trans (by repeat (first | exact Gr.refl _ | assumption | apply Gr.drew | apply Gr.alloc)) g0
    obtain ⟨xl0, xc0, xd0⟩ : CxAt v0 w.heap.size x0 x1 := CxAt.gr ⟨by first | (simp; done) | (simp; omega), by go_simp, by go_simp⟩ g0
    obtain ⟨yl0, yc0, yd0⟩ : CxAt v0 (w.heap.size + 1) y0 y1 := CxAt.gr ⟨by first | (simp; done) | (simp; omega), by go_simp, by go_simp⟩ g0
    go_wp2_with fail
    refine (HB.out _).mono ?_
    rintro e v1 ⟨rfl, g1⟩
    have g1x : Gr w v1 := Gr.trans (by assumption) g1
    obtain ⟨xl1, xc1, xd1⟩ : CxAt v1 w.heap.size x0 x1 := CxAt.gr ⟨xl0, xc0, xd0⟩ g1
    obtain ⟨yl1, yc1, yd1⟩ : CxAt v1 (w.heap.size + 1) y0 y1 := CxAt.gr ⟨yl0, yc0, yd0⟩ g1
    go_wp2_with fail
    go_ret
    exact ⟨rfl, g1x⟩
  · skip
    go_enter Try.func20, Try.ntmps20
    go_wp2_with fail
    refine (rpow31 _).mono ?_
    rintro e w1 ⟨rfl, rfl⟩
    go_wp2_with fail
    refine (rpow30 _).mono ?_
    rintro e w1 ⟨rfl, rfl⟩
    go_wp2_with fail
    refine (HA.out _).mono ?_
    rintro e v0 ⟨rfl, g0⟩
    have g0x : Gr w v0 := Gr.trans (by repeat (first | exact Gr.refl _ | assumption | apply Gr.drew | apply Gr.alloc)) g0
    obtain ⟨xl0, xc0, xd0⟩ : CxAt v0 w.heap.size x0 x1 := CxAt.gr ⟨by first | (simp; done) | (simp; omega), by go_simp, by go_simp⟩ g0
    obtain ⟨yl0, yc0, yd0⟩ : CxAt v0 (w.heap.size + 1) y0 y1 := CxAt.gr ⟨by first | (simp; done) | (simp; omega), by go_simp, by go_simp⟩ g0
    go_wp2_with fail
    refine (HB.out _).mono ?_
    rintro e v1 ⟨rfl, g1⟩
    have g1x : Gr w v1 := Gr.trans (by assumption) g1
    obtain ⟨xl1, xc1, xd1⟩ : CxAt v1 w.heap.size x0 x1 := CxAt.gr ⟨xl0, xc0, xd0⟩ g1
    obtain ⟨yl1, yc1, yd1⟩ : CxAt v1 (w.heap.size + 1) y0 y1 := CxAt.gr ⟨yl0, yc0, yd0⟩ g1
    go_wp2_with fail
    go_ret
    exact ⟨rfl, g1x⟩

theorem told_no (p0 p1 : Int) (w : World) :
    Calls Try.prog 13 #[.agg #[.int .i64 0, .int .i64 0], .int .i64 2, .bool false, .agg #[.int .i64 p0, .int .i64 p1]] w fun e w' => e = .returned (.bool true) ∧ Gr w w' := by
  go_enter Try.func13, Try.ntmps13
  go_wp2
  go_ret
  exact ⟨rfl, by repeat (first | exact Gr.refl _ | assumption | apply Gr.drew | apply Gr.alloc)⟩

theorem told_yes (p0 p1 : Int) (w : World) :
    Calls Try.prog 13 #[.agg #[.int .i64 p0, .int .i64 p1], .int .i64 0, .bool true, .agg #[.int .i64 p0, .int .i64 p1]] w fun e w' => e = .returned (.bool true) ∧ Gr w w' := by
  go_enter Try.func13, Try.ntmps13
  go_wp2
  go_ret
  exact ⟨rfl, by repeat (first | exact Gr.refl _ | assumption | apply Gr.drew | apply Gr.alloc)⟩

theorem alive03_c (w : World) : Calls Try.prog 12 #[] w fun e w' => e = .returned (.bool true) ∧ Gr w w' := by
  have HA := Lib.hid (cxturn_1 3 4 1 (by decide) (by decide))
  have HB := Lib.hid (cxtimes_ok 1 2 3 4 (by decide))
  go_enter Try.func12, Try.ntmps12
  go_wp2_with fail
  refine (HA.out _).mono ?_
  rintro e w1 ⟨rfl, hg1⟩
  go_wp2_with fail
  refine (HB.out _).mono ?_
  rintro e w2 ⟨rfl, hg2⟩
  obtain ⟨xl, xc, xd⟩ : CxAt w2 w1.heap.size (-4) 3 := CxAt.gr ⟨by first | (simp; done) | (simp; omega), by go_simp, by go_simp⟩ hg2
  go_wp2
  go_ret
  exact ⟨rfl, Gr.alloc (Gr.trans (Gr.alloc hg1 _ _) hg2) _ _⟩

end Go.Proofs.Ytbgdhpcidcnjkaa
