/- What package sat's combined answers for each of the three functions that are handed on to it, and what Add, Sub, Neg and Mul answer. -/
import Derived.Test.YtchdeniiponhmaaSat
import Derived.LoopN
namespace Go.Proofs.Ytchdeniiponhmaa
open Go.ChangeShapes Go.WideShapes Go.ChangeAt Go.RowKit
set_option linter.unusedVariables false

theorem sum_c (a m : Int) (h0 : -9223372036854775808 ≤ a + m) (h1 : a + m ≤ 9223372036854775807) (w : World) :
    Calls Try.prog 21 #[.int .i64 a, .int .i64 m] w fun e w' => e = .returned (.int .i64 (a + m)) ∧ w' = w := by
  go_enter Try.func21, Try.ntmps21
  go_wp2
  go_ret
  exact ⟨rfl, rfl⟩

theorem difference_c (a m : Int) (h0 : -9223372036854775808 ≤ a - m) (h1 : a - m ≤ 9223372036854775807) (w : World) :
    Calls Try.prog 22 #[.int .i64 a, .int .i64 m] w fun e w' => e = .returned (.int .i64 (a - m)) ∧ w' = w := by
  go_enter Try.func22, Try.ntmps22
  go_wp2
  go_ret
  exact ⟨rfl, rfl⟩

theorem product_c (f b p a m mo : Int) (H : FB f b p) (a0 : -p ≤ a) (a1 : a < p) (m0 : -p ≤ m) (m1 : m < p) (o0 : 0 ≤ mo) (o1 : mo ≤ 2) (hx : -9223372036854775808 ≤ a * m ∧ a * m ≤ 9223372036854775807) (k1 k2 : Nat) (w : World)
    (hc1 : w.cell? ⟨k1, 0, none⟩ = some (.int .i64 b)) (hc2 : w.cell? ⟨k2, 0, none⟩ = some (.int .i64 mo)) :
    Calls Try.prog 26 #[.int .i64 a, .int .i64 m, .pointer (some ⟨k1, 0, none⟩), .pointer (some ⟨k2, 0, none⟩)] w fun e w' => e = .returned (.int .i64 (rnd (a * m) b.toNat mo)) ∧ Gr w w' := by
  have hp := H.pos
  have HS := Lib.hid (shift_ok (a * m) b mo hx (by omega) (by omega) o0 o1)
  obtain ⟨x0, x1⟩ := hx
  generalize rnd (a * m) b.toNat mo = r at HS ⊢
  clear H hp a0 a1 m0 m1 o0 o1
  go_enter Try.func26, Try.ntmps26
  go_wp2_with fail
  refine (HS.out _).mono ?_
  rintro e w1 ⟨rfl, hg1⟩
  go_wp2
  go_ret
  exact ⟨rfl, hg1⟩

theorem combined_sum (f b p a m : Int) (H : FB f b p) (a0 : -p ≤ a) (a1 : a < p) (m0 : -p ≤ m) (m1 : m < p) (k : Nat) (w : World) (hk : k < w.heap.size) (hc : w.cell? ⟨k, 0, none⟩ = some (.int .i64 m)) :
    Calls Try.prog 20 #[.int .i64 f, .func (.func 21) #[] #[], .int .i64 a, .slice (some ⟨k, 0, none⟩) 1 1] w fun e w' => e = .returned (.tuple #[.int .i64 (clampI p (a + m)), .bool (clampI p (a + m) != a + m), .int .i64 0]) ∧ Gr w w' := by
  have hp := H.pos
  have HB := Lib.hid (bits_c f b p H)
  have HA := Lib.hid (isMantissa_yes f b p a H a0 a1)
  have HM := Lib.hid (isMantissa_yes f b p m H m0 m1)
  have HS := Lib.hid (sum_c a m (by omega) (by omega))
  have HC := Lib.hid (clamp_c f b p (a + m) H)
  generalize a + m = r at HS HC ⊢
  generalize clampI p r = y at HC ⊢
  clear H hp a0 a1 m0 m1
  go_enter Try.func20, Try.ntmps20
  go_wp2_with fail
  refine (HB.out _).mono ?_
  rintro e w1 ⟨rfl, rfl⟩
  go_wp2_with fail
  refine (HA.out _).mono ?_
  rintro e w1 ⟨rfl, hg1⟩
  have hc1 := (hg1.cell (p := ⟨k, 0, none⟩) hk).trans hc
  go_wp2_with fail
  refine wp_loop_rounds 2 ?_
  rw [rounds_succ]
  go_wp2_with fail
  refine (HM.out _).mono ?_
  rintro e w2 ⟨rfl, hg2⟩
  go_wp2_with fail
  refine (HS.out _).mono ?_
  rintro e w3 ⟨rfl, rfl⟩
  have hg3 := Gr.refl w3
  go_wp2_with fail
  rw [rounds_succ]
  go_wp2_with fail
  refine (HC.out _).mono ?_
  rintro e w4 ⟨rfl, hg4⟩
  go_wp2_with fail
  go_ret3
  exact ⟨rfl, ((hg1.trans hg2).trans hg3).trans hg4⟩

theorem combined_difference (f b p a m : Int) (H : FB f b p) (a0 : -p ≤ a) (a1 : a < p) (m0 : -p ≤ m) (m1 : m < p) (k : Nat) (w : World) (hk : k < w.heap.size) (hc : w.cell? ⟨k, 0, none⟩ = some (.int .i64 m)) :
    Calls Try.prog 20 #[.int .i64 f, .func (.func 22) #[] #[], .int .i64 a, .slice (some ⟨k, 0, none⟩) 1 1] w fun e w' => e = .returned (.tuple #[.int .i64 (clampI p (a - m)), .bool (clampI p (a - m) != a - m), .int .i64 0]) ∧ Gr w w' := by
  have hp := H.pos
  have HB := Lib.hid (bits_c f b p H)
  have HA := Lib.hid (isMantissa_yes f b p a H a0 a1)
  have HM := Lib.hid (isMantissa_yes f b p m H m0 m1)
  have HS := Lib.hid (difference_c a m (by omega) (by omega))
  have HC := Lib.hid (clamp_c f b p (a - m) H)
  generalize a - m = r at HS HC ⊢
  generalize clampI p r = y at HC ⊢
  clear H hp a0 a1 m0 m1
  go_enter Try.func20, Try.ntmps20
  go_wp2_with fail
  refine (HB.out _).mono ?_
  rintro e w1 ⟨rfl, rfl⟩
  go_wp2_with fail
  refine (HA.out _).mono ?_
  rintro e w1 ⟨rfl, hg1⟩
  have hc1 := (hg1.cell (p := ⟨k, 0, none⟩) hk).trans hc
  go_wp2_with fail
  refine wp_loop_rounds 2 ?_
  rw [rounds_succ]
  go_wp2_with fail
  refine (HM.out _).mono ?_
  rintro e w2 ⟨rfl, hg2⟩
  go_wp2_with fail
  refine (HS.out _).mono ?_
  rintro e w3 ⟨rfl, rfl⟩
  have hg3 := Gr.refl w3
  go_wp2_with fail
  rw [rounds_succ]
  go_wp2_with fail
  refine (HC.out _).mono ?_
  rintro e w4 ⟨rfl, hg4⟩
  go_wp2_with fail
  go_ret3
  exact ⟨rfl, ((hg1.trans hg2).trans hg3).trans hg4⟩

theorem combined_product (f b p a m mo : Int) (H : FB f b p) (a0 : -p ≤ a) (a1 : a < p) (m0 : -p ≤ m) (m1 : m < p) (o0 : 0 ≤ mo) (o1 : mo ≤ 2) (hx : -9223372036854775808 ≤ a * m ∧ a * m ≤ 9223372036854775807) (k1 k2 : Nat) (k : Nat) (w : World) (hk : k < w.heap.size) (hc : w.cell? ⟨k, 0, none⟩ = some (.int .i64 m)) (h1 : k1 < w.heap.size) (h2 : k2 < w.heap.size) (hc1 : w.cell? ⟨k1, 0, none⟩ = some (.int .i64 b)) (hc2 : w.cell? ⟨k2, 0, none⟩ = some (.int .i64 mo)) :
    Calls Try.prog 20 #[.int .i64 f, .func (.func 26) #[] #[.pointer (some ⟨k1, 0, none⟩), .pointer (some ⟨k2, 0, none⟩)], .int .i64 a, .slice (some ⟨k, 0, none⟩) 1 1] w fun e w' => e = .returned (.tuple #[.int .i64 (clampI p (rnd (a * m) b.toNat mo)), .bool (clampI p (rnd (a * m) b.toNat mo) != rnd (a * m) b.toNat mo), .int .i64 0]) ∧ Gr w w' := by
  have hp := H.pos
  have HB := Lib.hid (bits_c f b p H)
  have HA := Lib.hid (isMantissa_yes f b p a H a0 a1)
  have HM := Lib.hid (isMantissa_yes f b p m H m0 m1)
  have HS := Lib.hid fun (W : World) (e1 : W.cell? ⟨k1, 0, none⟩ = some (.int .i64 b)) (e2 : W.cell? ⟨k2, 0, none⟩ = some (.int .i64 mo)) => product_c f b p a m mo H a0 a1 m0 m1 o0 o1 hx k1 k2 W e1 e2
  have E1 := Lib.hid fun (W : World) (g : Gr w W) => (g.cell (p := ⟨k1, 0, none⟩) h1).trans hc1
  have E2 := Lib.hid fun (W : World) (g : Gr w W) => (g.cell (p := ⟨k2, 0, none⟩) h2).trans hc2
  have HC := Lib.hid (clamp_c f b p (rnd (a * m) b.toNat mo) H)
  generalize rnd (a * m) b.toNat mo = r at HS HC ⊢
  generalize clampI p r = y at HC ⊢
  clear H hp a0 a1 m0 m1 hc1 hc2 hx o0 o1 h1 h2
  go_enter Try.func20, Try.ntmps20
  go_wp2_with fail
  refine (HB.out _).mono ?_
  rintro e w1 ⟨rfl, rfl⟩
  go_wp2_with fail
  refine (HA.out _).mono ?_
  rintro e w1 ⟨rfl, hg1⟩
  have hc1 := (hg1.cell (p := ⟨k, 0, none⟩) hk).trans hc
  go_wp2_with fail
  refine wp_loop_rounds 2 ?_
  rw [rounds_succ]
  go_wp2_with fail
  refine (HM.out _).mono ?_
  rintro e w2 ⟨rfl, hg2⟩
  go_wp2_with fail
  have hg12 := hg1.trans hg2
  refine (HS.out _ (E1.out _ hg12) (E2.out _ hg12)).mono ?_
  rintro e w3 ⟨rfl, hg3⟩
  go_wp2_with fail
  rw [rounds_succ]
  go_wp2_with fail
  refine (HC.out _).mono ?_
  rintro e w4 ⟨rfl, hg4⟩
  go_wp2_with fail
  go_ret3
  exact ⟨rfl, ((hg1.trans hg2).trans hg3).trans hg4⟩

theorem combined_bad_format (f : Int) (fv av sv : Value) (h : f < 0 ∨ 1 < f) (w : World) :
    Calls Try.prog 20 #[.int .i64 f, fv, av, sv] w fun e w' => e = .returned (.tuple #[.int .i64 0, .bool false, .int .i64 1]) ∧ Gr w w' := by
  have HB := Lib.hid (bits_bad f h)
  clear h
  go_enter Try.func20, Try.ntmps20
  go_wp2_with fail
  refine (HB.out _).mono ?_
  rintro e w1 ⟨rfl, rfl⟩
  go_wp2_with fail
  go_ret3
  exact ⟨rfl, Gr.refl _⟩

theorem combined_bad_first (f b p a : Int) (fv sv : Value) (H : FB f b p) (h : a < -p ∨ p ≤ a) (w : World) :
    Calls Try.prog 20 #[.int .i64 f, fv, .int .i64 a, sv] w fun e w' => e = .returned (.tuple #[.int .i64 0, .bool false, .int .i64 2]) ∧ Gr w w' := by
  have HB := Lib.hid (bits_c f b p H)
  have HA := Lib.hid (isMantissa_no f b p a H h)
  clear h H
  go_enter Try.func20, Try.ntmps20
  go_wp2_with fail
  refine (HB.out _).mono ?_
  rintro e w1 ⟨rfl, rfl⟩
  go_wp2_with fail
  refine (HA.out _).mono ?_
  rintro e w1 ⟨rfl, hg1⟩
  go_wp2_with fail
  go_ret3
  exact ⟨rfl, hg1⟩

theorem combined_bad_second (f b p a m : Int) (fv : Value) (H : FB f b p) (a0 : -p ≤ a) (a1 : a < p) (h : m < -p ∨ p ≤ m) (k : Nat) (w : World) (hk : k < w.heap.size) (hc : w.cell? ⟨k, 0, none⟩ = some (.int .i64 m)) :
    Calls Try.prog 20 #[.int .i64 f, fv, .int .i64 a, .slice (some ⟨k, 0, none⟩) 1 1] w fun e w' => e = .returned (.tuple #[.int .i64 0, .bool false, .int .i64 2]) ∧ Gr w w' := by
  have HB := Lib.hid (bits_c f b p H)
  have HA := Lib.hid (isMantissa_yes f b p a H a0 a1)
  have HM := Lib.hid (isMantissa_no f b p m H h)
  clear h H a0 a1
  go_enter Try.func20, Try.ntmps20
  go_wp2_with fail
  refine (HB.out _).mono ?_
  rintro e w1 ⟨rfl, rfl⟩
  go_wp2_with fail
  refine (HA.out _).mono ?_
  rintro e w1 ⟨rfl, hg1⟩
  have hc1 := (hg1.cell (p := ⟨k, 0, none⟩) hk).trans hc
  go_wp2_with fail
  refine wp_loop_rounds 2 ?_
  rw [rounds_succ]
  go_wp2_with fail
  refine (HM.out _).mono ?_
  rintro e w2 ⟨rfl, hg2⟩
  go_wp2_with fail
  go_ret3
  exact ⟨rfl, hg1.trans hg2⟩

theorem add_c (f b p a m : Int) (H : FB f b p) (a0 : -p ≤ a) (a1 : a < p) (m0 : -p ≤ m) (m1 : m < p) (w : World) :
    Calls Try.prog 13 #[.int .i64 a, .int .i64 m, .int .i64 f] w fun e w' => e = .returned (.tuple #[.int .i64 (clampI p (a + m)), .bool (clampI p (a + m) != a + m), .int .i64 0]) ∧ Gr w w' := by
  have HC := Lib.hid (combined_sum f b p a m H a0 a1 m0 m1)
  generalize a + m = r at HC ⊢
  generalize clampI p r = y at HC ⊢
  clear H a0 a1 m0 m1
  go_enter Try.func13, Try.ntmps13
  go_wp2_with fail
  refine (HC.out _ _ (by simp) (by go_simp)).mono ?_
  rintro e w1 ⟨rfl, hg⟩
  go_wp2
  go_ret3
  exact ⟨rfl, Gr.trans (by repeat (first | exact Gr.refl _ | assumption | apply Gr.drew | apply Gr.alloc)) hg⟩

theorem add_bad (f a m : Int) (h : f < 0 ∨ 1 < f) (w : World) :
    Calls Try.prog 13 #[.int .i64 a, .int .i64 m, .int .i64 f] w fun e w' => e = .returned (.tuple #[.int .i64 0, .bool false, .int .i64 1]) ∧ Gr w w' := by
  have HC := Lib.hid fun fv av sv => combined_bad_format f fv av sv h
  clear h
  go_enter Try.func13, Try.ntmps13
  go_wp2_with fail
  refine (HC.out _ _ _ _).mono ?_
  rintro e w1 ⟨rfl, hg⟩
  go_wp2
  go_ret3
  exact ⟨rfl, Gr.trans (by repeat (first | exact Gr.refl _ | assumption | apply Gr.drew | apply Gr.alloc)) hg⟩

theorem add_range1 (f b p a m : Int) (H : FB f b p) (h : a < -p ∨ p ≤ a) (w : World) :
    Calls Try.prog 13 #[.int .i64 a, .int .i64 m, .int .i64 f] w fun e w' => e = .returned (.tuple #[.int .i64 0, .bool false, .int .i64 2]) ∧ Gr w w' := by
  have HC := Lib.hid fun fv sv => combined_bad_first f b p a fv sv H h
  clear h H
  go_enter Try.func13, Try.ntmps13
  go_wp2_with fail
  refine (HC.out _ _ _).mono ?_
  rintro e w1 ⟨rfl, hg⟩
  go_wp2
  go_ret3
  exact ⟨rfl, Gr.trans (by repeat (first | exact Gr.refl _ | assumption | apply Gr.drew | apply Gr.alloc)) hg⟩

theorem add_range2 (f b p a m : Int) (H : FB f b p) (a0 : -p ≤ a) (a1 : a < p) (h : m < -p ∨ p ≤ m) (w : World) :
    Calls Try.prog 13 #[.int .i64 a, .int .i64 m, .int .i64 f] w fun e w' => e = .returned (.tuple #[.int .i64 0, .bool false, .int .i64 2]) ∧ Gr w w' := by
  have HC := Lib.hid fun fv => combined_bad_second f b p a m fv H a0 a1 h
  clear h H a0 a1
  go_enter Try.func13, Try.ntmps13
  go_wp2_with fail
  refine (HC.out _ _ _ (by simp) (by go_simp)).mono ?_
  rintro e w1 ⟨rfl, hg⟩
  go_wp2
  go_ret3
  exact ⟨rfl, Gr.trans (by repeat (first | exact Gr.refl _ | assumption | apply Gr.drew | apply Gr.alloc)) hg⟩

theorem add_range (f b p a m : Int) (H : FB f b p) (h : ¬ ((-p ≤ a ∧ a < p) ∧ -p ≤ m ∧ m < p)) (w : World) :
    Calls Try.prog 13 #[.int .i64 a, .int .i64 m, .int .i64 f] w fun e w' => e = .returned (.tuple #[.int .i64 0, .bool false, .int .i64 2]) ∧ Gr w w' := by
  by_cases ha : -p ≤ a ∧ a < p
  · exact add_range2 f b p a m H ha.1 ha.2 (by omega) w
  · exact add_range1 f b p a m H (by omega) w

theorem sub_c (f b p a m : Int) (H : FB f b p) (a0 : -p ≤ a) (a1 : a < p) (m0 : -p ≤ m) (m1 : m < p) (w : World) :
    Calls Try.prog 14 #[.int .i64 a, .int .i64 m, .int .i64 f] w fun e w' => e = .returned (.tuple #[.int .i64 (clampI p (a - m)), .bool (clampI p (a - m) != a - m), .int .i64 0]) ∧ Gr w w' := by
  have HC := Lib.hid (combined_difference f b p a m H a0 a1 m0 m1)
  generalize a - m = r at HC ⊢
  generalize clampI p r = y at HC ⊢
  clear H a0 a1 m0 m1
  go_enter Try.func14, Try.ntmps14
  go_wp2_with fail
  refine (HC.out _ _ (by simp) (by go_simp)).mono ?_
  rintro e w1 ⟨rfl, hg⟩
  go_wp2
  go_ret3
  exact ⟨rfl, Gr.trans (by repeat (first | exact Gr.refl _ | assumption | apply Gr.drew | apply Gr.alloc)) hg⟩

theorem sub_bad (f a m : Int) (h : f < 0 ∨ 1 < f) (w : World) :
    Calls Try.prog 14 #[.int .i64 a, .int .i64 m, .int .i64 f] w fun e w' => e = .returned (.tuple #[.int .i64 0, .bool false, .int .i64 1]) ∧ Gr w w' := by
  have HC := Lib.hid fun fv av sv => combined_bad_format f fv av sv h
  clear h
  go_enter Try.func14, Try.ntmps14
  go_wp2_with fail
  refine (HC.out _ _ _ _).mono ?_
  rintro e w1 ⟨rfl, hg⟩
  go_wp2
  go_ret3
  exact ⟨rfl, Gr.trans (by repeat (first | exact Gr.refl _ | assumption | apply Gr.drew | apply Gr.alloc)) hg⟩

theorem sub_range1 (f b p a m : Int) (H : FB f b p) (h : a < -p ∨ p ≤ a) (w : World) :
    Calls Try.prog 14 #[.int .i64 a, .int .i64 m, .int .i64 f] w fun e w' => e = .returned (.tuple #[.int .i64 0, .bool false, .int .i64 2]) ∧ Gr w w' := by
  have HC := Lib.hid fun fv sv => combined_bad_first f b p a fv sv H h
  clear h H
  go_enter Try.func14, Try.ntmps14
  go_wp2_with fail
  refine (HC.out _ _ _).mono ?_
  rintro e w1 ⟨rfl, hg⟩
  go_wp2
  go_ret3
  exact ⟨rfl, Gr.trans (by repeat (first | exact Gr.refl _ | assumption | apply Gr.drew | apply Gr.alloc)) hg⟩

theorem sub_range2 (f b p a m : Int) (H : FB f b p) (a0 : -p ≤ a) (a1 : a < p) (h : m < -p ∨ p ≤ m) (w : World) :
    Calls Try.prog 14 #[.int .i64 a, .int .i64 m, .int .i64 f] w fun e w' => e = .returned (.tuple #[.int .i64 0, .bool false, .int .i64 2]) ∧ Gr w w' := by
  have HC := Lib.hid fun fv => combined_bad_second f b p a m fv H a0 a1 h
  clear h H a0 a1
  go_enter Try.func14, Try.ntmps14
  go_wp2_with fail
  refine (HC.out _ _ _ (by simp) (by go_simp)).mono ?_
  rintro e w1 ⟨rfl, hg⟩
  go_wp2
  go_ret3
  exact ⟨rfl, Gr.trans (by repeat (first | exact Gr.refl _ | assumption | apply Gr.drew | apply Gr.alloc)) hg⟩

theorem sub_range (f b p a m : Int) (H : FB f b p) (h : ¬ ((-p ≤ a ∧ a < p) ∧ -p ≤ m ∧ m < p)) (w : World) :
    Calls Try.prog 14 #[.int .i64 a, .int .i64 m, .int .i64 f] w fun e w' => e = .returned (.tuple #[.int .i64 0, .bool false, .int .i64 2]) ∧ Gr w w' := by
  by_cases ha : -p ≤ a ∧ a < p
  · exact sub_range2 f b p a m H ha.1 ha.2 (by omega) w
  · exact sub_range1 f b p a m H (by omega) w

theorem neg_c (f b p a : Int) (H : FB f b p) (a0 : -p ≤ a) (a1 : a < p) (w : World) :
    Calls Try.prog 15 #[.int .i64 a, .int .i64 f] w fun e w' => e = .returned (.tuple #[.int .i64 (clampI p (0 - a)), .bool (clampI p (0 - a) != 0 - a), .int .i64 0]) ∧ Gr w w' := by
  have hp := H.pos
  have HC := Lib.hid (combined_difference f b p 0 a H (by omega) (by omega) a0 a1)
  generalize 0 - a = r at HC ⊢
  generalize clampI p r = y at HC ⊢
  clear H hp a0 a1
  go_enter Try.func15, Try.ntmps15
  go_wp2_with fail
  refine (HC.out _ _ (by simp) (by go_simp)).mono ?_
  rintro e w1 ⟨rfl, hg⟩
  go_wp2
  go_ret3
  exact ⟨rfl, Gr.trans (by repeat (first | exact Gr.refl _ | assumption | apply Gr.drew | apply Gr.alloc)) hg⟩

theorem neg_bad (f a : Int) (h : f < 0 ∨ 1 < f) (w : World) :
    Calls Try.prog 15 #[.int .i64 a, .int .i64 f] w fun e w' => e = .returned (.tuple #[.int .i64 0, .bool false, .int .i64 1]) ∧ Gr w w' := by
  have HC := Lib.hid fun fv av sv => combined_bad_format f fv av sv h
  clear h
  go_enter Try.func15, Try.ntmps15
  go_wp2_with fail
  refine (HC.out _ _ _ _).mono ?_
  rintro e w1 ⟨rfl, hg⟩
  go_wp2
  go_ret3
  exact ⟨rfl, Gr.trans (by repeat (first | exact Gr.refl _ | assumption | apply Gr.drew | apply Gr.alloc)) hg⟩

theorem neg_range (f b p a : Int) (H : FB f b p) (h : a < -p ∨ p ≤ a) (w : World) :
    Calls Try.prog 15 #[.int .i64 a, .int .i64 f] w fun e w' => e = .returned (.tuple #[.int .i64 0, .bool false, .int .i64 2]) ∧ Gr w w' := by
  have hp := H.pos
  have HC := Lib.hid fun fv => combined_bad_second f b p 0 a fv H (by omega) (by omega) h
  clear h H hp
  go_enter Try.func15, Try.ntmps15
  go_wp2_with fail
  refine (HC.out _ _ _ (by simp) (by go_simp)).mono ?_
  rintro e w1 ⟨rfl, hg⟩
  go_wp2
  go_ret3
  exact ⟨rfl, Gr.trans (by repeat (first | exact Gr.refl _ | assumption | apply Gr.drew | apply Gr.alloc)) hg⟩

theorem mul_bad (f a m mo : Int) (h : f < 0 ∨ 1 < f) (w : World) :
    Calls Try.prog 17 #[.int .i64 a, .int .i64 m, .int .i64 f, .int .i64 mo] w fun e w' => e = .returned (.tuple #[.int .i64 0, .bool false, .int .i64 1]) ∧ Gr w w' := by
  have HB := Lib.hid (bits_bad f h)
  clear h
  go_enter Try.func17, Try.ntmps17
  go_wp2_with fail
  refine (HB.out _).mono ?_
  rintro e w1 ⟨rfl, rfl⟩
  go_wp2
  go_ret3
  exact ⟨rfl, by repeat (first | exact Gr.refl _ | assumption | apply Gr.drew | apply Gr.alloc)⟩

theorem mul_bad_mode (f b p a m mo : Int) (H : FB f b p) (h : mo < 0 ∨ 2 < mo) (w : World) :
    Calls Try.prog 17 #[.int .i64 a, .int .i64 m, .int .i64 f, .int .i64 mo] w fun e w' => e = .returned (.tuple #[.int .i64 0, .bool false, .int .i64 1]) ∧ Gr w w' := by
  have HB := Lib.hid (bits_c f b p H)
  have HS := Lib.hid (shift_bad_mode 0 b mo h)
  clear h H
  go_enter Try.func17, Try.ntmps17
  go_wp2_with fail
  refine (HB.out _).mono ?_
  rintro e w1 ⟨rfl, rfl⟩
  go_wp2_with fail
  refine (HS.out _).mono ?_
  rintro e w1 ⟨rfl, hg⟩
  go_wp2
  go_ret3
  exact ⟨rfl, Gr.trans (by repeat (first | exact Gr.refl _ | assumption | apply Gr.drew | apply Gr.alloc)) hg⟩

end Go.Proofs.Ytchdeniiponhmaa
