/- What the functions of layer 2's reference answer. -/
import Derived.Test.YtchdeniiponhmaaSat
namespace Go.Proofs.Ytchdeniiponhmaa
open Go.ChangeShapes Go.WideShapes Go.ChangeAt Go.RowKit
set_option linter.unusedVariables false

theorem rfmt_c (f : Int) (w : World) : Calls Try.prog 9 #[.int .i64 f] w fun e w' => e = .returned (.bool (f == 0 || f == 1)) ∧ w' = w := by
  by_cases h : (f == 0) = true
  · go_enter Try.func9, Try.ntmps9
    go_wp2
    go_ret
    exact ⟨by simp at h; simp [h], rfl⟩
  · have h' : (f == 0) = false := by simpa using h
    clear h
    go_enter Try.func9, Try.ntmps9
    go_wp2
    go_ret
    exact ⟨by simp at h'; simp [h'], rfl⟩

theorem rfmt_yes (f b p : Int) (H : FB f b p) (w : World) : Calls Try.prog 9 #[.int .i64 f] w fun e w' => e = .returned (.bool true) ∧ w' = w :=
  (rfmt_c f w).mono fun e w' ⟨he, hw⟩ => ⟨by rw [he]; rcases H with ⟨rfl, _⟩ | ⟨rfl, _⟩ <;> rfl, hw⟩

theorem rfmt_no (f : Int) (h : f < 0 ∨ 1 < f) (w : World) : Calls Try.prog 9 #[.int .i64 f] w fun e w' => e = .returned (.bool false) ∧ w' = w :=
  (rfmt_c f w).mono fun e w' ⟨he, hw⟩ => ⟨by rw [he, show (f == 0 || f == 1) = false by simp; omega], hw⟩

theorem rbits_c (f b p : Int) (H : FB f b p) (w : World) : Calls Try.prog 12 #[.int .i64 f] w fun e w' => e = .returned (.int .i64 b) ∧ w' = w := by
  rcases H with ⟨rfl, rfl, rfl⟩ | ⟨rfl, rfl, rfl⟩
  all_goals
    go_enter Try.func12, Try.ntmps12
    go_wp2
    go_ret
    exact ⟨rfl, rfl⟩

theorem rone_c (f b p : Int) (H : FB f b p) (w : World) : Calls Try.prog 19 #[.int .i64 f] w fun e w' => e = .returned (.int .i64 p) ∧ w' = w := by
  have hp := H.pos
  have HB := Lib.hid (rbits_c f b p H)
  have HP := Lib.hid fun W => (pow_c b (by omega) (by omega) W).mono fun e w' ⟨he, hw⟩ => (⟨by rw [he, H.pow], hw⟩ : e = Ending.returned (.int .i64 p) ∧ w' = W)
  clear H hp
  go_enter Try.func19, Try.ntmps19
  go_wp2_with fail
  refine (HB.out _).mono ?_
  rintro e w1 ⟨rfl, rfl⟩
  go_wp2_with fail
  refine (HP.out _).mono ?_
  rintro e w2 ⟨rfl, rfl⟩
  go_wp2
  go_ret
  exact ⟨rfl, rfl⟩

theorem rin_yes (f b p x : Int) (H : FB f b p) (h0 : -p ≤ x) (h1 : x < p) (w : World) : Calls Try.prog 23 #[.int .i64 x, .int .i64 f] w fun e w' => e = .returned (.bool true) ∧ w' = w := by
  have hp := H.pos
  have HP := Lib.hid (rone_c f b p H)
  clear H
  have h0' : 0 - p ≤ x := by omega
  obtain ⟨p0, p1, _⟩ := hp
  go_enter Try.func23, Try.ntmps23
  go_wp2_with (go_at_call 19; refine (HP.out _).mono ?_; rintro e w1 ⟨rfl, rfl⟩)
  go_ret
  exact ⟨rfl, rfl⟩

theorem rin_no (f b p x : Int) (H : FB f b p) (h : x < -p ∨ p ≤ x) (w : World) : Calls Try.prog 23 #[.int .i64 x, .int .i64 f] w fun e w' => e = .returned (.bool false) ∧ w' = w := by
  have hp := H.pos
  have HP := Lib.hid (rone_c f b p H)
  clear H
  obtain ⟨p0, p1, _⟩ := hp
  by_cases h0 : -p ≤ x
  · have h1 : p ≤ x := by omega
    have h2 : decide (x < p) = false := by simp; omega
    clear h
    go_enter Try.func23, Try.ntmps23
    go_wp2_with (go_at_call 19; refine (HP.out _).mono ?_; rintro e w1 ⟨rfl, rfl⟩)
    go_ret
    exact ⟨rfl, rfl⟩
  · have h1 : x < -p := by omega
    clear h h0
    go_enter Try.func23, Try.ntmps23
    go_wp2_with (go_at_call 19; refine (HP.out _).mono ?_; rintro e w1 ⟨rfl, rfl⟩)
    go_ret
    exact ⟨rfl, rfl⟩

theorem rclamp_c (f b p x : Int) (H : FB f b p) (w : World) :
    Calls Try.prog 11 #[.int .i64 x, .int .i64 f] w fun e w' => e = .returned (.agg #[.int .i64 (clampI p x), .bool (clampI p x != x), .int .i64 0]) ∧ Gr w w' := by
  have hp := H.pos
  have HP := Lib.hid (rone_c f b p H)
  clear H
  obtain ⟨p0, p1, _⟩ := hp
  by_cases h0 : x < -p
  · have e1 : (-p != x) = true := by simp; omega
    rw [clampI_low h0, e1]
    clear e1
    go_enter Try.func11, Try.ntmps11
    go_wp2_with (go_at_call 19; refine (HP.out _).mono ?_; rintro e w1 ⟨rfl, rfl⟩)
    exact bodyPost_ret (v := .agg #[.int .i64 (-p), .bool true, .int .i64 0]) (by simp [results, Try.results11, go_sem]) rfl ⟨rfl, by repeat (first | exact Gr.refl _ | assumption | apply Gr.drew | apply Gr.alloc)⟩
  · by_cases h1 : p ≤ x
    · have e1 : (p - 1 != x) = true := by simp; omega
      rw [clampI_high p0 (by omega), e1]
      clear e1
      go_enter Try.func11, Try.ntmps11
      go_wp2_with (go_at_call 19; refine (HP.out _).mono ?_; rintro e w1 ⟨rfl, rfl⟩)
      exact bodyPost_ret (v := .agg #[.int .i64 (p - 1), .bool true, .int .i64 0]) (by simp [results, Try.results11, go_sem]) rfl ⟨rfl, by repeat (first | exact Gr.refl _ | assumption | apply Gr.drew | apply Gr.alloc)⟩
    · have e1 : (x != x) = false := by simp
      rw [clampI_mid (by omega) (by omega), e1]
      clear e1
      go_enter Try.func11, Try.ntmps11
      go_wp2_with (go_at_call 19; refine (HP.out _).mono ?_; rintro e w1 ⟨rfl, rfl⟩)
      exact bodyPost_ret (v := .agg #[.int .i64 x, .bool false, .int .i64 0]) (by simp [results, Try.results11, go_sem]) rfl ⟨rfl, by repeat (first | exact Gr.refl _ | assumption | apply Gr.drew | apply Gr.alloc)⟩

theorem two_bad (a m f mo what : Int) (h : (f < 0 ∨ 1 < f) ∨ mo < 0 ∨ 2 < mo) (w : World) :
    Calls Try.prog 16 #[.int .i64 a, .int .i64 m, .int .i64 f, .int .i64 mo, .int .i64 what] w fun e w' => e = .returned (.agg #[.int .i64 0, .bool false, .int .i64 1]) ∧ Gr w w' := by
  by_cases hf : f < 0 ∨ 1 < f
  · have HF := Lib.hid (rfmt_no f hf)
    clear h hf
    go_enter Try.func16, Try.ntmps16
    go_wp2_with (go_at_call 9; refine (HF.out _).mono ?_; rintro e w1 ⟨rfl, rfl⟩)
    exact bodyPost_ret (v := .agg #[.int .i64 0, .bool false, .int .i64 1]) (by simp [results, Try.results16, go_sem]) rfl ⟨rfl, by repeat (first | exact Gr.refl _ | assumption | apply Gr.drew | apply Gr.alloc)⟩
  · obtain ⟨b, p, H⟩ := FB.of (f := f) (by omega) (by omega)
    have HF := Lib.hid (rfmt_yes f b p H)
    have hm : mo < 0 ∨ 2 < mo := by omega
    clear h H hf
    rcases hm with hm | hm
    · go_enter Try.func16, Try.ntmps16
      go_wp2_with (go_at_call 9; refine (HF.out _).mono ?_; rintro e w1 ⟨rfl, rfl⟩)
      exact bodyPost_ret (v := .agg #[.int .i64 0, .bool false, .int .i64 1]) (by simp [results, Try.results16, go_sem]) rfl ⟨rfl, by repeat (first | exact Gr.refl _ | assumption | apply Gr.drew | apply Gr.alloc)⟩
    · have h0 : decide (mo < 0) = false := by simp; omega
      go_enter Try.func16, Try.ntmps16
      go_wp2_with (go_at_call 9; refine (HF.out _).mono ?_; rintro e w1 ⟨rfl, rfl⟩)
      exact bodyPost_ret (v := .agg #[.int .i64 0, .bool false, .int .i64 1]) (by simp [results, Try.results16, go_sem]) rfl ⟨rfl, by repeat (first | exact Gr.refl _ | assumption | apply Gr.drew | apply Gr.alloc)⟩

theorem two_range (a m f b p mo what : Int) (H : FB f b p) (m0 : 0 ≤ mo) (m1 : mo ≤ 2) (h : ¬ ((-p ≤ a ∧ a < p) ∧ -p ≤ m ∧ m < p)) (w : World) :
    Calls Try.prog 16 #[.int .i64 a, .int .i64 m, .int .i64 f, .int .i64 mo, .int .i64 what] w fun e w' => e = .returned (.agg #[.int .i64 0, .bool false, .int .i64 2]) ∧ Gr w w' := by
  have HF := Lib.hid (rfmt_yes f b p H)
  have b0 : decide (mo < 0) = false := by simp; omega
  have b1 : decide (2 < mo) = false := by simp; omega
  clear m0 m1
  by_cases ha : -p ≤ a ∧ a < p
  · have HA := Lib.hid (rin_yes f b p a H ha.1 ha.2)
    have HM := Lib.hid (rin_no f b p m H (by omega))
    clear h H ha
    go_enter Try.func16, Try.ntmps16
    go_wp2_with fail
    refine (HF.out _).mono ?_
    rintro e w1 ⟨rfl, rfl⟩
    go_wp2_with fail
    refine (HA.out _).mono ?_
    rintro e w1 ⟨rfl, rfl⟩
    go_wp2_with fail
    refine (HM.out _).mono ?_
    rintro e w1 ⟨rfl, rfl⟩
    go_wp2
    exact bodyPost_ret (v := .agg #[.int .i64 0, .bool false, .int .i64 2]) (by simp [results, Try.results16, go_sem]) rfl ⟨rfl, by repeat (first | exact Gr.refl _ | assumption | apply Gr.drew | apply Gr.alloc)⟩
  · have HA := Lib.hid (rin_no f b p a H (by omega))
    clear h H ha
    go_enter Try.func16, Try.ntmps16
    go_wp2_with fail
    refine (HF.out _).mono ?_
    rintro e w1 ⟨rfl, rfl⟩
    go_wp2_with fail
    refine (HA.out _).mono ?_
    rintro e w1 ⟨rfl, rfl⟩
    go_wp2
    exact bodyPost_ret (v := .agg #[.int .i64 0, .bool false, .int .i64 2]) (by simp [results, Try.results16, go_sem]) rfl ⟨rfl, by repeat (first | exact Gr.refl _ | assumption | apply Gr.drew | apply Gr.alloc)⟩

theorem two_sum (a m f b p mo : Int) (H : FB f b p) (m0 : 0 ≤ mo) (m1 : mo ≤ 2) (a0 : -p ≤ a) (a1 : a < p) (n0 : -p ≤ m) (n1 : m < p) (w : World) :
    Calls Try.prog 16 #[.int .i64 a, .int .i64 m, .int .i64 f, .int .i64 mo, .int .i64 0] w fun e w' => e = .returned (.agg #[.int .i64 (clampI p (a + m)), .bool (clampI p (a + m) != a + m), .int .i64 0]) ∧ Gr w w' := by
  have hp := H.pos
  have HF := Lib.hid (rfmt_yes f b p H)
  have b0 : decide (mo < 0) = false := by simp; omega
  have b1 : decide (2 < mo) = false := by simp; omega
  have HA := Lib.hid (rin_yes f b p a H a0 a1)
  have HM := Lib.hid (rin_yes f b p m H n0 n1)
  have HC := Lib.hid (rclamp_c f b p (a + m) H)
  generalize clampI p (a + m) = y at HC ⊢
  obtain ⟨p0, p1, _⟩ := hp
  clear H m0 m1
  go_enter Try.func16, Try.ntmps16
  go_wp2_with fail
  refine (HF.out _).mono ?_
  rintro e w1 ⟨rfl, rfl⟩
  go_wp2_with fail
  refine (HA.out _).mono ?_
  rintro e w1 ⟨rfl, rfl⟩
  go_wp2_with fail
  refine (HM.out _).mono ?_
  rintro e w1 ⟨rfl, rfl⟩
  go_wp2_with fail
  refine (HC.out _).mono ?_
  rintro e w1 ⟨rfl, hg⟩
  have z : w.heap.size + 1 ≤ w1.heap.size := by have := hg.size; simpa using this
  have c0 : w1.cell? ⟨w.heap.size, 0, none⟩ = some (.int .i64 0) := (hg.cell (p := ⟨w.heap.size, 0, none⟩) (by simp)).trans (by go_simp)
  have c1 : w1.cell? ⟨w.heap.size, 1, none⟩ = some (.bool false) := (hg.cell (p := ⟨w.heap.size, 1, none⟩) (by simp)).trans (by go_simp)
  have c2 : w1.cell? ⟨w.heap.size, 2, none⟩ = some (.int .i64 0) := (hg.cell (p := ⟨w.heap.size, 2, none⟩) (by simp)).trans (by go_simp)
  have f0 : w1.frozen? ⟨w.heap.size, 0, none⟩ = false := (hg.frozen ⟨w.heap.size, 0, none⟩).trans (by go_simp)
  have f1 : w1.frozen? ⟨w.heap.size, 1, none⟩ = false := (hg.frozen ⟨w.heap.size, 1, none⟩).trans (by go_simp)
  have f2 : w1.frozen? ⟨w.heap.size, 2, none⟩ = false := (hg.frozen ⟨w.heap.size, 2, none⟩).trans (by go_simp)
  go_wp2
  refine bodyPost_ret (v := .agg #[.int .i64 y, .bool (y != a + m), .int .i64 0]) ?_ rfl ⟨rfl, ?_⟩
  · simp [results, Try.results16, go_sem, c0, c1, c2]
  · exact (((Gr.trans ((Gr.refl w).alloc _ _) hg).setCell (by simp) _).setCell (by simp) _).setCell (by simp) _

theorem two_diff (a m f b p mo : Int) (H : FB f b p) (m0 : 0 ≤ mo) (m1 : mo ≤ 2) (a0 : -p ≤ a) (a1 : a < p) (n0 : -p ≤ m) (n1 : m < p) (w : World) :
    Calls Try.prog 16 #[.int .i64 a, .int .i64 m, .int .i64 f, .int .i64 mo, .int .i64 1] w fun e w' => e = .returned (.agg #[.int .i64 (clampI p (a - m)), .bool (clampI p (a - m) != a - m), .int .i64 0]) ∧ Gr w w' := by
  have hp := H.pos
  have HF := Lib.hid (rfmt_yes f b p H)
  have b0 : decide (mo < 0) = false := by simp; omega
  have b1 : decide (2 < mo) = false := by simp; omega
  have HA := Lib.hid (rin_yes f b p a H a0 a1)
  have HM := Lib.hid (rin_yes f b p m H n0 n1)
  have HC := Lib.hid (rclamp_c f b p (a - m) H)
  generalize clampI p (a - m) = y at HC ⊢
  obtain ⟨p0, p1, _⟩ := hp
  clear H m0 m1
  go_enter Try.func16, Try.ntmps16
  go_wp2_with fail
  refine (HF.out _).mono ?_
  rintro e w1 ⟨rfl, rfl⟩
  go_wp2_with fail
  refine (HA.out _).mono ?_
  rintro e w1 ⟨rfl, rfl⟩
  go_wp2_with fail
  refine (HM.out _).mono ?_
  rintro e w1 ⟨rfl, rfl⟩
  go_wp2_with fail
  refine (HC.out _).mono ?_
  rintro e w1 ⟨rfl, hg⟩
  have z : w.heap.size + 1 ≤ w1.heap.size := by have := hg.size; simpa using this
  have c0 : w1.cell? ⟨w.heap.size, 0, none⟩ = some (.int .i64 0) := (hg.cell (p := ⟨w.heap.size, 0, none⟩) (by simp)).trans (by go_simp)
  have c1 : w1.cell? ⟨w.heap.size, 1, none⟩ = some (.bool false) := (hg.cell (p := ⟨w.heap.size, 1, none⟩) (by simp)).trans (by go_simp)
  have c2 : w1.cell? ⟨w.heap.size, 2, none⟩ = some (.int .i64 0) := (hg.cell (p := ⟨w.heap.size, 2, none⟩) (by simp)).trans (by go_simp)
  have f0 : w1.frozen? ⟨w.heap.size, 0, none⟩ = false := (hg.frozen ⟨w.heap.size, 0, none⟩).trans (by go_simp)
  have f1 : w1.frozen? ⟨w.heap.size, 1, none⟩ = false := (hg.frozen ⟨w.heap.size, 1, none⟩).trans (by go_simp)
  have f2 : w1.frozen? ⟨w.heap.size, 2, none⟩ = false := (hg.frozen ⟨w.heap.size, 2, none⟩).trans (by go_simp)
  go_wp2
  refine bodyPost_ret (v := .agg #[.int .i64 y, .bool (y != a - m), .int .i64 0]) ?_ rfl ⟨rfl, ?_⟩
  · simp [results, Try.results16, go_sem, c0, c1, c2]
  · exact (((Gr.trans ((Gr.refl w).alloc _ _) hg).setCell (by simp) _).setCell (by simp) _).setCell (by simp) _

theorem two_mul (a m f b p mo : Int) (H : FB f b p) (m0 : 0 ≤ mo) (m1 : mo ≤ 2) (a0 : -p ≤ a) (a1 : a < p) (n0 : -p ≤ m) (n1 : m < p) (w : World) :
    Calls Try.prog 16 #[.int .i64 a, .int .i64 m, .int .i64 f, .int .i64 mo, .int .i64 2] w fun e w' => e = .returned (.agg #[.int .i64 (clampI p (rnd (a * m) b.toNat mo)), .bool (clampI p (rnd (a * m) b.toNat mo) != rnd (a * m) b.toNat mo), .int .i64 0]) ∧ Gr w w' := by
  have hp := H.pos
  have HF := Lib.hid (rfmt_yes f b p H)
  have b0 : decide (mo < 0) = false := by simp; omega
  have b1 : decide (2 < mo) = false := by simp; omega
  have HA := Lib.hid (rin_yes f b p a H a0 a1)
  have HM := Lib.hid (rin_yes f b p m H n0 n1)
  have HC := Lib.hid (rclamp_c f b p (rnd (a * m) b.toNat mo) H)
  have hx := prod_fits p a m hp.1 hp.2.1 a0 (by omega) n0 (by omega)
  have HB := Lib.hid (rbits_c f b p H)
  have HS := Lib.hid (refShift_c (a * m) b mo (by omega) (by omega) (by omega) m0 m1)
  generalize rnd (a * m) b.toNat mo = r at HC HS ⊢
  generalize clampI p r = y at HC ⊢
  obtain ⟨p0, p1, _⟩ := hp
  obtain ⟨x0, x1⟩ := hx
  clear H m0 m1
  go_enter Try.func16, Try.ntmps16
  go_wp2_with fail
  refine (HF.out _).mono ?_
  rintro e w1 ⟨rfl, rfl⟩
  go_wp2_with fail
  refine (HA.out _).mono ?_
  rintro e w1 ⟨rfl, rfl⟩
  go_wp2_with fail
  refine (HM.out _).mono ?_
  rintro e w1 ⟨rfl, rfl⟩
  go_wp2_with fail
  refine (HB.out _).mono ?_
  rintro e w1 ⟨rfl, rfl⟩
  go_wp2_with fail
  refine (HS.out _).mono ?_
  rintro e w1 ⟨rfl, rfl⟩
  go_wp2_with fail
  refine (HC.out _).mono ?_
  rintro e w1 ⟨rfl, hg⟩
  have z : w.heap.size + 1 ≤ w1.heap.size := by have := hg.size; simpa using this
  have c0 : w1.cell? ⟨w.heap.size, 0, none⟩ = some (.int .i64 0) := (hg.cell (p := ⟨w.heap.size, 0, none⟩) (by simp)).trans (by go_simp)
  have c1 : w1.cell? ⟨w.heap.size, 1, none⟩ = some (.bool false) := (hg.cell (p := ⟨w.heap.size, 1, none⟩) (by simp)).trans (by go_simp)
  have c2 : w1.cell? ⟨w.heap.size, 2, none⟩ = some (.int .i64 0) := (hg.cell (p := ⟨w.heap.size, 2, none⟩) (by simp)).trans (by go_simp)
  have f0 : w1.frozen? ⟨w.heap.size, 0, none⟩ = false := (hg.frozen ⟨w.heap.size, 0, none⟩).trans (by go_simp)
  have f1 : w1.frozen? ⟨w.heap.size, 1, none⟩ = false := (hg.frozen ⟨w.heap.size, 1, none⟩).trans (by go_simp)
  have f2 : w1.frozen? ⟨w.heap.size, 2, none⟩ = false := (hg.frozen ⟨w.heap.size, 2, none⟩).trans (by go_simp)
  go_wp2
  refine bodyPost_ret (v := .agg #[.int .i64 y, .bool (y != r), .int .i64 0]) ?_ rfl ⟨rfl, ?_⟩
  · simp [results, Try.results16, go_sem, c0, c1, c2]
  · exact (((Gr.trans ((Gr.refl w).alloc _ _) hg).setCell (by simp) _).setCell (by simp) _).setCell (by simp) _

end Go.Proofs.Ytchdeniiponhmaa
