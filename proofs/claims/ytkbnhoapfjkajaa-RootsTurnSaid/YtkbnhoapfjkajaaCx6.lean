/- What package cx's calls with one number answer, and its product. -/
import Derived.Test.YtkbnhoapfjkajaaCx5
namespace Go.Proofs.Ytkbnhoapfjkajaa
open Go.ChangeShapes Go.WideShapes Go.ChangeAt Go.RowKit
set_option linter.unusedVariables false

theorem cxconj_ok (x0 x1 : Int) (hB : (inB 2305843009213693952 x0 && inB 2305843009213693952 x1) = true) (w : World) :
    Calls Try.prog 19 #[.agg #[.int .i64 x0, .int .i64 x1]] w fun e w' => e = .returned (.tuple #[.agg #[.int .i64 x0, .int .i64 (-x1)], .int .i64 0]) ∧ Gr w w' := by
  have hb := hB
  simp only [Bool.and_eq_true, inB_iff] at hb
  obtain ⟨_, b0, b1⟩ := hb
  have HW := Lib.hid fun (k : Nat) (W : World) (hk : CxAt W k x0 x1) => (within_one k 2305843009213693952 x0 x1 (by decide) (by decide) W hk).mono fun e w' ⟨he, hg⟩ => (⟨by rw [he, hB], hg⟩ : e = Ending.returned (.bool true) ∧ Gr W w')
  clear hB
  go_enter Try.func19, Try.ntmps19
  go_wp2_with fail
  refine (HW.out _ _ ?_).mono ?_
  · exact ⟨by simp, by go_simp, by go_simp⟩
  rintro e w1 ⟨rfl, hg1⟩
  obtain ⟨za, a0, a1⟩ : CxAt w1 w.heap.size x0 x1 := CxAt.gr ⟨by first | (simp; done) | (simp; omega), by go_simp, by go_simp⟩ hg1
  obtain ⟨z2, c0, c1⟩ : CxAt w1 (w.heap.size + 1) 0 0 := CxAt.gr ⟨by first | (simp; done) | (simp; omega), by go_simp, by go_simp⟩ hg1
  have f0 : w1.frozen? ⟨w.heap.size + 1, 0, none⟩ = false := (hg1.frozen ⟨w.heap.size + 1, 0, none⟩).trans (by go_simp)
  have f1 : w1.frozen? ⟨w.heap.size + 1, 1, none⟩ = false := (hg1.frozen ⟨w.heap.size + 1, 1, none⟩).trans (by go_simp)
  go_wp2
  refine bodyPost_ret (v := .tuple #[.agg #[.int .i64 x0, .int .i64 (-x1)], .int .i64 0]) ?_ rfl ⟨rfl, ?_⟩
  · simp [results, Try.results19, go_sem, c0, c1]
  · exact ((Gr.trans (by repeat (first | exact Gr.refl _ | apply Gr.alloc)) hg1).setCell (by first | (simp; done) | (simp; omega)) _).setCell (by first | (simp; done) | (simp; omega)) _

theorem cxconj_bad (x0 x1 : Int) (hB : (inB 2305843009213693952 x0 && inB 2305843009213693952 x1) = false) (w : World) :
    Calls Try.prog 19 #[.agg #[.int .i64 x0, .int .i64 x1]] w fun e w' => e = .returned (.tuple #[.agg #[.int .i64 0, .int .i64 0], .int .i64 2]) ∧ Gr w w' := by
  have HW := Lib.hid fun (k : Nat) (W : World) (hk : CxAt W k x0 x1) => (within_one k 2305843009213693952 x0 x1 (by decide) (by decide) W hk).mono fun e w' ⟨he, hg⟩ => (⟨by rw [he, hB], hg⟩ : e = Ending.returned (.bool false) ∧ Gr W w')
  clear hB
  go_enter Try.func19, Try.ntmps19
  go_wp2_with fail
  refine (HW.out _ _ ?_).mono ?_
  · exact ⟨by simp, by go_simp, by go_simp⟩
  rintro e w1 ⟨rfl, hg1⟩
  obtain ⟨z2, c0, c1⟩ : CxAt w1 (w.heap.size + 1) 0 0 := CxAt.gr ⟨by first | (simp; done) | (simp; omega), by go_simp, by go_simp⟩ hg1
  have f0 : w1.frozen? ⟨w.heap.size + 1, 0, none⟩ = false := (hg1.frozen ⟨w.heap.size + 1, 0, none⟩).trans (by go_simp)
  have f1 : w1.frozen? ⟨w.heap.size + 1, 1, none⟩ = false := (hg1.frozen ⟨w.heap.size + 1, 1, none⟩).trans (by go_simp)
  go_wp2
  refine bodyPost_ret (v := .tuple #[.agg #[.int .i64 0, .int .i64 0], .int .i64 2]) ?_ rfl ⟨rfl, ?_⟩
  · simp [results, Try.results19, go_sem, c0, c1]
  · exact ((Gr.trans (by repeat (first | exact Gr.refl _ | apply Gr.alloc)) hg1).setCell (by first | (simp; done) | (simp; omega)) _).setCell (by first | (simp; done) | (simp; omega)) _

set_option maxHeartbeats 2000000 in
theorem cxturn_0 (x0 x1 n : Int) (hB : (inB 2305843009213693952 x0 && inB 2305843009213693952 x1) = true) (hn : bits .and .i64 n 3 = 0) (w : World) :
    Calls Try.prog 18 #[.agg #[.int .i64 x0, .int .i64 x1], .int .i64 n] w fun e w' => e = .returned (.tuple #[.agg #[.int .i64 (x0), .int .i64 (x1)], .int .i64 0]) ∧ Gr w w' := by
  have hb := hB
  simp only [Bool.and_eq_true, inB_iff] at hb
  obtain ⟨⟨d0, d1⟩, b0, b1⟩ := hb
  have HW := Lib.hid fun (k : Nat) (W : World) (hk : CxAt W k x0 x1) => (within_one k 2305843009213693952 x0 x1 (by decide) (by decide) W hk).mono fun e w' ⟨he, hg⟩ => (⟨by rw [he, hB], hg⟩ : e = Ending.returned (.bool true) ∧ Gr W w')
  clear hB
  go_enter Try.func18, Try.ntmps18
  go_wp2_with fail
  refine (HW.out _ _ ?_).mono ?_
  · exact ⟨by simp, by go_simp, by go_simp⟩
  rintro e w1 ⟨rfl, hg1⟩
  have gw1 : Gr w w1 := Gr.trans (by repeat (first | exact Gr.refl _ | apply Gr.alloc)) hg1
  obtain ⟨za, a0, a1⟩ : CxAt w1 w.heap.size x0 x1 := CxAt.gr ⟨by first | (simp; done) | (simp; omega), by go_simp, by go_simp⟩ hg1
  obtain ⟨z2, c0, c1⟩ : CxAt w1 (w.heap.size + 1) 0 0 := CxAt.gr ⟨by first | (simp; done) | (simp; omega), by go_simp, by go_simp⟩ hg1
  have e0 : w1.frozen? ⟨w.heap.size, 0, none⟩ = false := (hg1.frozen ⟨w.heap.size, 0, none⟩).trans (by go_simp)
  have e1 : w1.frozen? ⟨w.heap.size, 1, none⟩ = false := (hg1.frozen ⟨w.heap.size, 1, none⟩).trans (by go_simp)
  have f0 : w1.frozen? ⟨w.heap.size + 1, 0, none⟩ = false := (hg1.frozen ⟨w.heap.size + 1, 0, none⟩).trans (by go_simp)
  have f1 : w1.frozen? ⟨w.heap.size + 1, 1, none⟩ = false := (hg1.frozen ⟨w.heap.size + 1, 1, none⟩).trans (by go_simp)
  clear hg1
  go_wp2_with fail
  refine wp_loop_rounds 1 ?_
  rw [rounds_succ]
  go_wp2_with fail
  refine bodyPost_ret (v := .tuple #[.agg #[.int .i64 (x0), .int .i64 (x1)], .int .i64 0]) ?_ rfl ⟨rfl, ?_⟩
  · simp [results, Try.results18, go_sem, c0, c1]
  · exact ((gw1.setCell (by simp) _).setCell (by simp) _)

set_option maxHeartbeats 2000000 in
theorem cxturn_1 (x0 x1 n : Int) (hB : (inB 2305843009213693952 x0 && inB 2305843009213693952 x1) = true) (hn : bits .and .i64 n 3 = 1) (w : World) :
    Calls Try.prog 18 #[.agg #[.int .i64 x0, .int .i64 x1], .int .i64 n] w fun e w' => e = .returned (.tuple #[.agg #[.int .i64 (-x1), .int .i64 (x0)], .int .i64 0]) ∧ Gr w w' := by
  have hb := hB
  simp only [Bool.and_eq_true, inB_iff] at hb
  obtain ⟨⟨d0, d1⟩, b0, b1⟩ := hb
  have HW := Lib.hid fun (k : Nat) (W : World) (hk : CxAt W k x0 x1) => (within_one k 2305843009213693952 x0 x1 (by decide) (by decide) W hk).mono fun e w' ⟨he, hg⟩ => (⟨by rw [he, hB], hg⟩ : e = Ending.returned (.bool true) ∧ Gr W w')
  clear hB
  go_enter Try.func18, Try.ntmps18
  go_wp2_with fail
  refine (HW.out _ _ ?_).mono ?_
  · exact ⟨by simp, by go_simp, by go_simp⟩
  rintro e w1 ⟨rfl, hg1⟩
  have gw1 : Gr w w1 := Gr.trans (by repeat (first | exact Gr.refl _ | apply Gr.alloc)) hg1
  obtain ⟨za, a0, a1⟩ : CxAt w1 w.heap.size x0 x1 := CxAt.gr ⟨by first | (simp; done) | (simp; omega), by go_simp, by go_simp⟩ hg1
  obtain ⟨z2, c0, c1⟩ : CxAt w1 (w.heap.size + 1) 0 0 := CxAt.gr ⟨by first | (simp; done) | (simp; omega), by go_simp, by go_simp⟩ hg1
  have e0 : w1.frozen? ⟨w.heap.size, 0, none⟩ = false := (hg1.frozen ⟨w.heap.size, 0, none⟩).trans (by go_simp)
  have e1 : w1.frozen? ⟨w.heap.size, 1, none⟩ = false := (hg1.frozen ⟨w.heap.size, 1, none⟩).trans (by go_simp)
  have f0 : w1.frozen? ⟨w.heap.size + 1, 0, none⟩ = false := (hg1.frozen ⟨w.heap.size + 1, 0, none⟩).trans (by go_simp)
  have f1 : w1.frozen? ⟨w.heap.size + 1, 1, none⟩ = false := (hg1.frozen ⟨w.heap.size + 1, 1, none⟩).trans (by go_simp)
  clear hg1
  go_wp2_with fail
  refine wp_loop_rounds 2 ?_
  rw [rounds_succ]
  go_wp2_with fail
  obtain ⟨v1, hW⟩ : ∃ u, u = (w1.setCell ⟨w.heap.size, 0, none⟩ (.int .i64 (-x1))).setCell ⟨w.heap.size, 1, none⟩ (.int .i64 (x0)) := ⟨_, rfl⟩
  rw [← hW]
  have zav1 : w.heap.size < v1.heap.size := by rw [hW]; simp; omega
  have zzv1 : w.heap.size + 1 < v1.heap.size := by rw [hW]; simp; omega
  have a0v1 : v1.cell? ⟨w.heap.size, 0, none⟩ = some (.int .i64 (-x1)) := by rw [hW]; go_simp
  have a1v1 : v1.cell? ⟨w.heap.size, 1, none⟩ = some (.int .i64 (x0)) := by rw [hW]; go_simp
  have c0v1 : v1.cell? ⟨w.heap.size + 1, 0, none⟩ = some (.int .i64 0) := by rw [hW]; go_simp
  have c1v1 : v1.cell? ⟨w.heap.size + 1, 1, none⟩ = some (.int .i64 0) := by rw [hW]; go_simp
  have e0v1 : v1.frozen? ⟨w.heap.size, 0, none⟩ = false := by rw [hW]; go_simp
  have e1v1 : v1.frozen? ⟨w.heap.size, 1, none⟩ = false := by rw [hW]; go_simp
  have f0v1 : v1.frozen? ⟨w.heap.size + 1, 0, none⟩ = false := by rw [hW]; go_simp
  have f1v1 : v1.frozen? ⟨w.heap.size + 1, 1, none⟩ = false := by rw [hW]; go_simp
  have gv1 : Gr w v1 := by rw [hW]; exact (gw1.setCell (by simp) _).setCell (by simp) _
  clear hW
  rw [rounds_succ]
  go_wp2_with fail
  refine bodyPost_ret (v := .tuple #[.agg #[.int .i64 (-x1), .int .i64 (x0)], .int .i64 0]) ?_ rfl ⟨rfl, ?_⟩
  · simp [results, Try.results18, go_sem, c0v1, c1v1]
  · exact ((gv1.setCell (by simp) _).setCell (by simp) _)

set_option maxHeartbeats 2000000 in
theorem cxturn_2 (x0 x1 n : Int) (hB : (inB 2305843009213693952 x0 && inB 2305843009213693952 x1) = true) (hn : bits .and .i64 n 3 = 2) (w : World) :
    Calls Try.prog 18 #[.agg #[.int .i64 x0, .int .i64 x1], .int .i64 n] w fun e w' => e = .returned (.tuple #[.agg #[.int .i64 (-x0), .int .i64 (-x1)], .int .i64 0]) ∧ Gr w w' := by
  have hb := hB
  simp only [Bool.and_eq_true, inB_iff] at hb
  obtain ⟨⟨d0, d1⟩, b0, b1⟩ := hb
  have HW := Lib.hid fun (k : Nat) (W : World) (hk : CxAt W k x0 x1) => (within_one k 2305843009213693952 x0 x1 (by decide) (by decide) W hk).mono fun e w' ⟨he, hg⟩ => (⟨by rw [he, hB], hg⟩ : e = Ending.returned (.bool true) ∧ Gr W w')
  clear hB
  go_enter Try.func18, Try.ntmps18
  go_wp2_with fail
  refine (HW.out _ _ ?_).mono ?_
  · exact ⟨by simp, by go_simp, by go_simp⟩
  rintro e w1 ⟨rfl, hg1⟩
  have gw1 : Gr w w1 := Gr.trans (by repeat (first | exact Gr.refl _ | apply Gr.alloc)) hg1
  obtain ⟨za, a0, a1⟩ : CxAt w1 w.heap.size x0 x1 := CxAt.gr ⟨by first | (simp; done) | (simp; omega), by go_simp, by go_simp⟩ hg1
  obtain ⟨z2, c0, c1⟩ : CxAt w1 (w.heap.size + 1) 0 0 := CxAt.gr ⟨by first | (simp; done) | (simp; omega), by go_simp, by go_simp⟩ hg1
  have e0 : w1.frozen? ⟨w.heap.size, 0, none⟩ = false := (hg1.frozen ⟨w.heap.size, 0, none⟩).trans (by go_simp)
  have e1 : w1.frozen? ⟨w.heap.size, 1, none⟩ = false := (hg1.frozen ⟨w.heap.size, 1, none⟩).trans (by go_simp)
  have f0 : w1.frozen? ⟨w.heap.size + 1, 0, none⟩ = false := (hg1.frozen ⟨w.heap.size + 1, 0, none⟩).trans (by go_simp)
  have f1 : w1.frozen? ⟨w.heap.size + 1, 1, none⟩ = false := (hg1.frozen ⟨w.heap.size + 1, 1, none⟩).trans (by go_simp)
  clear hg1
  go_wp2_with fail
  refine wp_loop_rounds 3 ?_
  rw [rounds_succ]
  go_wp2_with fail
  obtain ⟨v1, hW⟩ : ∃ u, u = (w1.setCell ⟨w.heap.size, 0, none⟩ (.int .i64 (-x1))).setCell ⟨w.heap.size, 1, none⟩ (.int .i64 (x0)) := ⟨_, rfl⟩
  rw [← hW]
  have zav1 : w.heap.size < v1.heap.size := by rw [hW]; simp; omega
  have zzv1 : w.heap.size + 1 < v1.heap.size := by rw [hW]; simp; omega
  have a0v1 : v1.cell? ⟨w.heap.size, 0, none⟩ = some (.int .i64 (-x1)) := by rw [hW]; go_simp
  have a1v1 : v1.cell? ⟨w.heap.size, 1, none⟩ = some (.int .i64 (x0)) := by rw [hW]; go_simp
  have c0v1 : v1.cell? ⟨w.heap.size + 1, 0, none⟩ = some (.int .i64 0) := by rw [hW]; go_simp
  have c1v1 : v1.cell? ⟨w.heap.size + 1, 1, none⟩ = some (.int .i64 0) := by rw [hW]; go_simp
  have e0v1 : v1.frozen? ⟨w.heap.size, 0, none⟩ = false := by rw [hW]; go_simp
  have e1v1 : v1.frozen? ⟨w.heap.size, 1, none⟩ = false := by rw [hW]; go_simp
  have f0v1 : v1.frozen? ⟨w.heap.size + 1, 0, none⟩ = false := by rw [hW]; go_simp
  have f1v1 : v1.frozen? ⟨w.heap.size + 1, 1, none⟩ = false := by rw [hW]; go_simp
  have gv1 : Gr w v1 := by rw [hW]; exact (gw1.setCell (by simp) _).setCell (by simp) _
  clear hW
  rw [rounds_succ]
  go_wp2_with fail
  obtain ⟨v2, hW⟩ : ∃ u, u = (v1.setCell ⟨w.heap.size, 0, none⟩ (.int .i64 (-x0))).setCell ⟨w.heap.size, 1, none⟩ (.int .i64 (-x1)) := ⟨_, rfl⟩
  rw [← hW]
  have zav2 : w.heap.size < v2.heap.size := by rw [hW]; simp; omega
  have zzv2 : w.heap.size + 1 < v2.heap.size := by rw [hW]; simp; omega
  have a0v2 : v2.cell? ⟨w.heap.size, 0, none⟩ = some (.int .i64 (-x0)) := by rw [hW]; go_simp
  have a1v2 : v2.cell? ⟨w.heap.size, 1, none⟩ = some (.int .i64 (-x1)) := by rw [hW]; go_simp
  have c0v2 : v2.cell? ⟨w.heap.size + 1, 0, none⟩ = some (.int .i64 0) := by rw [hW]; go_simp
  have c1v2 : v2.cell? ⟨w.heap.size + 1, 1, none⟩ = some (.int .i64 0) := by rw [hW]; go_simp
  have e0v2 : v2.frozen? ⟨w.heap.size, 0, none⟩ = false := by rw [hW]; go_simp
  have e1v2 : v2.frozen? ⟨w.heap.size, 1, none⟩ = false := by rw [hW]; go_simp
  have f0v2 : v2.frozen? ⟨w.heap.size + 1, 0, none⟩ = false := by rw [hW]; go_simp
  have f1v2 : v2.frozen? ⟨w.heap.size + 1, 1, none⟩ = false := by rw [hW]; go_simp
  have gv2 : Gr w v2 := by rw [hW]; exact (gv1.setCell (by simp) _).setCell (by simp) _
  clear hW
  rw [rounds_succ]
  go_wp2_with fail
  refine bodyPost_ret (v := .tuple #[.agg #[.int .i64 (-x0), .int .i64 (-x1)], .int .i64 0]) ?_ rfl ⟨rfl, ?_⟩
  · simp [results, Try.results18, go_sem, c0v2, c1v2]
  · exact ((gv2.setCell (by simp) _).setCell (by simp) _)

set_option maxHeartbeats 2000000 in
theorem cxturn_3 (x0 x1 n : Int) (hB : (inB 2305843009213693952 x0 && inB 2305843009213693952 x1) = true) (hn : bits .and .i64 n 3 = 3) (w : World) :
    Calls Try.prog 18 #[.agg #[.int .i64 x0, .int .i64 x1], .int .i64 n] w fun e w' => e = .returned (.tuple #[.agg #[.int .i64 (x1), .int .i64 (-x0)], .int .i64 0]) ∧ Gr w w' := by
  have hb := hB
  simp only [Bool.and_eq_true, inB_iff] at hb
  obtain ⟨⟨d0, d1⟩, b0, b1⟩ := hb
  have HW := Lib.hid fun (k : Nat) (W : World) (hk : CxAt W k x0 x1) => (within_one k 2305843009213693952 x0 x1 (by decide) (by decide) W hk).mono fun e w' ⟨he, hg⟩ => (⟨by rw [he, hB], hg⟩ : e = Ending.returned (.bool true) ∧ Gr W w')
  clear hB
  go_enter Try.func18, Try.ntmps18
  go_wp2_with fail
  refine (HW.out _ _ ?_).mono ?_
  · exact ⟨by simp, by go_simp, by go_simp⟩
  rintro e w1 ⟨rfl, hg1⟩
  have gw1 : Gr w w1 := Gr.trans (by repeat (first | exact Gr.refl _ | apply Gr.alloc)) hg1
  obtain ⟨za, a0, a1⟩ : CxAt w1 w.heap.size x0 x1 := CxAt.gr ⟨by first | (simp; done) | (simp; omega), by go_simp, by go_simp⟩ hg1
  obtain ⟨z2, c0, c1⟩ : CxAt w1 (w.heap.size + 1) 0 0 := CxAt.gr ⟨by first | (simp; done) | (simp; omega), by go_simp, by go_simp⟩ hg1
  have e0 : w1.frozen? ⟨w.heap.size, 0, none⟩ = false := (hg1.frozen ⟨w.heap.size, 0, none⟩).trans (by go_simp)
  have e1 : w1.frozen? ⟨w.heap.size, 1, none⟩ = false := (hg1.frozen ⟨w.heap.size, 1, none⟩).trans (by go_simp)
  have f0 : w1.frozen? ⟨w.heap.size + 1, 0, none⟩ = false := (hg1.frozen ⟨w.heap.size + 1, 0, none⟩).trans (by go_simp)
  have f1 : w1.frozen? ⟨w.heap.size + 1, 1, none⟩ = false := (hg1.frozen ⟨w.heap.size + 1, 1, none⟩).trans (by go_simp)
  clear hg1
  go_wp2_with fail
  refine wp_loop_rounds 4 ?_
  rw [rounds_succ]
  go_wp2_with fail
  obtain ⟨v1, hW⟩ : ∃ u, u = (w1.setCell ⟨w.heap.size, 0, none⟩ (.int .i64 (-x1))).setCell ⟨w.heap.size, 1, none⟩ (.int .i64 (x0)) := ⟨_, rfl⟩
  rw [← hW]
  have zav1 : w.heap.size < v1.heap.size := by rw [hW]; simp; omega
  have zzv1 : w.heap.size + 1 < v1.heap.size := by rw [hW]; simp; omega
  have a0v1 : v1.cell? ⟨w.heap.size, 0, none⟩ = some (.int .i64 (-x1)) := by rw [hW]; go_simp
  have a1v1 : v1.cell? ⟨w.heap.size, 1, none⟩ = some (.int .i64 (x0)) := by rw [hW]; go_simp
  have c0v1 : v1.cell? ⟨w.heap.size + 1, 0, none⟩ = some (.int .i64 0) := by rw [hW]; go_simp
  have c1v1 : v1.cell? ⟨w.heap.size + 1, 1, none⟩ = some (.int .i64 0) := by rw [hW]; go_simp
  have e0v1 : v1.frozen? ⟨w.heap.size, 0, none⟩ = false := by rw [hW]; go_simp
  have e1v1 : v1.frozen? ⟨w.heap.size, 1, none⟩ = false := by rw [hW]; go_simp
  have f0v1 : v1.frozen? ⟨w.heap.size + 1, 0, none⟩ = false := by rw [hW]; go_simp
  have f1v1 : v1.frozen? ⟨w.heap.size + 1, 1, none⟩ = false := by rw [hW]; go_simp
  have gv1 : Gr w v1 := by rw [hW]; exact (gw1.setCell (by simp) _).setCell (by simp) _
  clear hW
  rw [rounds_succ]
  go_wp2_with fail
  obtain ⟨v2, hW⟩ : ∃ u, u = (v1.setCell ⟨w.heap.size, 0, none⟩ (.int .i64 (-x0))).setCell ⟨w.heap.size, 1, none⟩ (.int .i64 (-x1)) := ⟨_, rfl⟩
  rw [← hW]
  have zav2 : w.heap.size < v2.heap.size := by rw [hW]; simp; omega
  have zzv2 : w.heap.size + 1 < v2.heap.size := by rw [hW]; simp; omega
  have a0v2 : v2.cell? ⟨w.heap.size, 0, none⟩ = some (.int .i64 (-x0)) := by rw [hW]; go_simp
  have a1v2 : v2.cell? ⟨w.heap.size, 1, none⟩ = some (.int .i64 (-x1)) := by rw [hW]; go_simp
  have c0v2 : v2.cell? ⟨w.heap.size + 1, 0, none⟩ = some (.int .i64 0) := by rw [hW]; go_simp
  have c1v2 : v2.cell? ⟨w.heap.size + 1, 1, none⟩ = some (.int .i64 0) := by rw [hW]; go_simp
  have e0v2 : v2.frozen? ⟨w.heap.size, 0, none⟩ = false := by rw [hW]; go_simp
  have e1v2 : v2.frozen? ⟨w.heap.size, 1, none⟩ = false := by rw [hW]; go_simp
  have f0v2 : v2.frozen? ⟨w.heap.size + 1, 0, none⟩ = false := by rw [hW]; go_simp
  have f1v2 : v2.frozen? ⟨w.heap.size + 1, 1, none⟩ = false := by rw [hW]; go_simp
  have gv2 : Gr w v2 := by rw [hW]; exact (gv1.setCell (by simp) _).setCell (by simp) _
  clear hW
  rw [rounds_succ]
  go_wp2_with fail
  obtain ⟨v3, hW⟩ : ∃ u, u = (v2.setCell ⟨w.heap.size, 0, none⟩ (.int .i64 (x1))).setCell ⟨w.heap.size, 1, none⟩ (.int .i64 (-x0)) := ⟨_, rfl⟩
  rw [← hW]
  have zav3 : w.heap.size < v3.heap.size := by rw [hW]; simp; omega
  have zzv3 : w.heap.size + 1 < v3.heap.size := by rw [hW]; simp; omega
  have a0v3 : v3.cell? ⟨w.heap.size, 0, none⟩ = some (.int .i64 (x1)) := by rw [hW]; go_simp
  have a1v3 : v3.cell? ⟨w.heap.size, 1, none⟩ = some (.int .i64 (-x0)) := by rw [hW]; go_simp
  have c0v3 : v3.cell? ⟨w.heap.size + 1, 0, none⟩ = some (.int .i64 0) := by rw [hW]; go_simp
  have c1v3 : v3.cell? ⟨w.heap.size + 1, 1, none⟩ = some (.int .i64 0) := by rw [hW]; go_simp
  have e0v3 : v3.frozen? ⟨w.heap.size, 0, none⟩ = false := by rw [hW]; go_simp
  have e1v3 : v3.frozen? ⟨w.heap.size, 1, none⟩ = false := by rw [hW]; go_simp
  have f0v3 : v3.frozen? ⟨w.heap.size + 1, 0, none⟩ = false := by rw [hW]; go_simp
  have f1v3 : v3.frozen? ⟨w.heap.size + 1, 1, none⟩ = false := by rw [hW]; go_simp
  have gv3 : Gr w v3 := by rw [hW]; exact (gv2.setCell (by simp) _).setCell (by simp) _
  clear hW
  rw [rounds_succ]
  go_wp2_with fail
  refine bodyPost_ret (v := .tuple #[.agg #[.int .i64 (x1), .int .i64 (-x0)], .int .i64 0]) ?_ rfl ⟨rfl, ?_⟩
  · simp [results, Try.results18, go_sem, c0v3, c1v3]
  · exact ((gv3.setCell (by simp) _).setCell (by simp) _)

theorem cxturn_bad (x0 x1 n : Int) (hB : (inB 2305843009213693952 x0 && inB 2305843009213693952 x1) = false) (w : World) :
    Calls Try.prog 18 #[.agg #[.int .i64 x0, .int .i64 x1], .int .i64 n] w fun e w' => e = .returned (.tuple #[.agg #[.int .i64 0, .int .i64 0], .int .i64 2]) ∧ Gr w w' := by
  have HW := Lib.hid fun (k : Nat) (W : World) (hk : CxAt W k x0 x1) => (within_one k 2305843009213693952 x0 x1 (by decide) (by decide) W hk).mono fun e w' ⟨he, hg⟩ => (⟨by rw [he, hB], hg⟩ : e = Ending.returned (.bool false) ∧ Gr W w')
  clear hB
  go_enter Try.func18, Try.ntmps18
  go_wp2_with fail
  refine (HW.out _ _ ?_).mono ?_
  · exact ⟨by simp, by go_simp, by go_simp⟩
  rintro e w1 ⟨rfl, hg1⟩
  obtain ⟨z2, c0, c1⟩ : CxAt w1 (w.heap.size + 1) 0 0 := CxAt.gr ⟨by first | (simp; done) | (simp; omega), by go_simp, by go_simp⟩ hg1
  have f0 : w1.frozen? ⟨w.heap.size + 1, 0, none⟩ = false := (hg1.frozen ⟨w.heap.size + 1, 0, none⟩).trans (by go_simp)
  have f1 : w1.frozen? ⟨w.heap.size + 1, 1, none⟩ = false := (hg1.frozen ⟨w.heap.size + 1, 1, none⟩).trans (by go_simp)
  go_wp2
  refine bodyPost_ret (v := .tuple #[.agg #[.int .i64 0, .int .i64 0], .int .i64 2]) ?_ rfl ⟨rfl, ?_⟩
  · simp [results, Try.results18, go_sem, c0, c1]
  · exact ((Gr.trans (by repeat (first | exact Gr.refl _ | apply Gr.alloc)) hg1).setCell (by first | (simp; done) | (simp; omega)) _).setCell (by first | (simp; done) | (simp; omega)) _

theorem mul_bd (p q a m : Int) (hp : 0 ≤ p) (hq : 0 ≤ q) (a0 : -p ≤ a) (a1 : a ≤ p) (m0 : -q ≤ m) (m1 : m ≤ q) : -(p * q) ≤ a * m ∧ a * m ≤ p * q := by
  have h1 : 0 ≤ (p - a) * (q + m) := Int.mul_nonneg (by omega) (by omega)
  have h2 : 0 ≤ (p + a) * (q - m) := Int.mul_nonneg (by omega) (by omega)
  have h3 : 0 ≤ (p - a) * (q - m) := Int.mul_nonneg (by omega) (by omega)
  have h4 : 0 ≤ (p + a) * (q + m) := Int.mul_nonneg (by omega) (by omega)
  simp only [Int.sub_mul, Int.add_mul, Int.mul_sub, Int.mul_add] at h1 h2 h3 h4
  omega

theorem u64_in (n : Int) (h0 : 0 ≤ n) (h1 : n ≤ 18446744073709551615) : IntKind.u64.wrap n = n := by
  simp [IntKind.wrap, IntKind.bits, IntKind.signed]
  omega

theorem sq_nonneg (x : Int) : 0 ≤ x * x := by
  rcases Int.le_total 0 x with h | h
  · exact Int.mul_nonneg h h
  · exact Int.mul_nonneg_of_nonpos_of_nonpos h h

end Go.Proofs.Ytkbnhoapfjkajaa
