/- What package cx's calls answer. -/
import Derived.Test.YtkbfniogannlhaaCx4
namespace Go.Proofs.Ytkbfniogannlhaa
open Go.ChangeShapes Go.WideShapes Go.ChangeAt Go.RowKit
set_option linter.unusedVariables false

theorem enters_sum1 : Enters 56 := enters_of Try.func56 (by kernel_rfl) (by kernel_rfl)

theorem cxsum_ok (x0 x1 y0 y1 : Int) (hB : ((inB 2305843009213693952 x0 && inB 2305843009213693952 y0) && (inB 2305843009213693952 x1 && inB 2305843009213693952 y1)) = true) (w : World) :
    Calls Try.prog 41 #[.agg #[.int .i64 x0, .int .i64 x1], .agg #[.int .i64 y0, .int .i64 y1]] w fun e w' => e = .returned (.tuple #[.agg #[.int .i64 (x0 + y0), .int .i64 (x1 + y1)], .int .i64 0]) ∧ Gr w w' := by
  have hb : (-2305843009213693952 ≤ x0 ∧ x0 ≤ 2305843009213693952) ∧ (-2305843009213693952 ≤ y0 ∧ y0 ≤ 2305843009213693952) ∧ (-2305843009213693952 ≤ x1 ∧ x1 ≤ 2305843009213693952) ∧ (-2305843009213693952 ≤ y1 ∧ y1 ≤ 2305843009213693952) := by
    simp only [Bool.and_eq_true, inB_iff] at hB
    exact ⟨hB.1.1, hB.1.2, hB.2.1, hB.2.2⟩
  have HW := Lib.hid fun (k : Nat) (W : World) (hk : CxAt2 W k x0 x1 y0 y1) => (within_two k 2305843009213693952 x0 x1 y0 y1 (by decide) (by decide) W hk).mono fun e w' ⟨he, hg⟩ => (⟨by rw [he, hB], hg⟩ : e = Ending.returned (.bool true) ∧ Gr W w')
  have HN := Lib.hid fun (p q : Nat) (W : World) (hp : CxAt W p x0 x1) (hq : CxAt W q y0 y1) => numberOf_c 56 #[.pointer (some ⟨p, 0, none⟩), .pointer (some ⟨q, 0, none⟩)] (x0 + y0) (x1 + y1) W enters_sum1
    (Lib.hid fun V gv => sum1_re p q x0 x1 y0 y1 _ V (hp.gr gv) (hq.gr gv) (IntWalk.i64_in _ (by omega)))
    (Lib.hid fun V gv => sum1_im p q x0 x1 y0 y1 _ V (hp.gr gv) (hq.gr gv) (IntWalk.i64_in _ (by omega)))
  generalize x0 + y0 = r0 at HN ⊢
  generalize x1 + y1 = r1 at HN ⊢
  clear hB hb
  go_enter Try.func41, Try.ntmps41
  go_wp2_with fail
  refine (HW.out _ _ ?_).mono ?_
  · exact ⟨by simp, by go_simp, by go_simp, by go_simp, by go_simp⟩
  rintro e w1 ⟨rfl, hg1⟩
  have ca : CxAt w1 w.heap.size x0 x1 := CxAt.gr ⟨by first | (simp; done) | (simp; omega), by go_simp, by go_simp⟩ hg1
  have cb : CxAt w1 (w.heap.size + 1) y0 y1 := CxAt.gr ⟨by first | (simp; done) | (simp; omega), by go_simp, by go_simp⟩ hg1
  have cr : CxAt w1 (w.heap.size + 1 + 1) 0 0 := CxAt.gr ⟨by first | (simp; done) | (simp; omega), by go_simp, by go_simp⟩ hg1
  have fr : ∀ j, w1.frozen? ⟨w.heap.size + 1 + 1, j, none⟩ = false := fun j => (hg1.frozen ⟨w.heap.size + 1 + 1, j, none⟩).trans (by go_simp)
  have FR := Lib.hid fr
  clear fr
  go_wp2_with fail
  refine (HN.out _ _ _ ca cb).mono ?_
  rintro e w2 ⟨rfl, hg2⟩
  have cr2 := cr.gr hg2
  have zr := cr.1
  have f0 := (hg2.frozen ⟨w.heap.size + 1 + 1, 0, none⟩).trans (FR.out 0)
  have f1 := (hg2.frozen ⟨w.heap.size + 1 + 1, 1, none⟩).trans (FR.out 1)
  obtain ⟨z2, c0, c1⟩ := cr2
  go_wp2
  refine bodyPost_ret (v := .tuple #[.agg #[.int .i64 r0, .int .i64 r1], .int .i64 0]) ?_ rfl ⟨rfl, ?_⟩
  · simp [results, Try.results41, go_sem, c0, c1]
  · exact (((Gr.trans (by repeat (first | exact Gr.refl _ | apply Gr.alloc)) hg1).trans hg2).setCell (by simp; omega) _).setCell (by simp; omega) _

theorem cxsum_bad (x0 x1 y0 y1 : Int) (hB : ((inB 2305843009213693952 x0 && inB 2305843009213693952 y0) && (inB 2305843009213693952 x1 && inB 2305843009213693952 y1)) = false) (w : World) :
    Calls Try.prog 41 #[.agg #[.int .i64 x0, .int .i64 x1], .agg #[.int .i64 y0, .int .i64 y1]] w fun e w' => e = .returned (.tuple #[.agg #[.int .i64 0, .int .i64 0], .int .i64 2]) ∧ Gr w w' := by
  have HW := Lib.hid fun (k : Nat) (W : World) (hk : CxAt2 W k x0 x1 y0 y1) => (within_two k 2305843009213693952 x0 x1 y0 y1 (by decide) (by decide) W hk).mono fun e w' ⟨he, hg⟩ => (⟨by rw [he, hB], hg⟩ : e = Ending.returned (.bool false) ∧ Gr W w')
  clear hB
  go_enter Try.func41, Try.ntmps41
  go_wp2_with fail
  refine (HW.out _ _ ?_).mono ?_
  · exact ⟨by simp, by go_simp, by go_simp, by go_simp, by go_simp⟩
  rintro e w1 ⟨rfl, hg1⟩
  obtain ⟨z2, c0, c1⟩ : CxAt w1 (w.heap.size + 1 + 1) 0 0 := CxAt.gr ⟨by first | (simp; done) | (simp; omega), by go_simp, by go_simp⟩ hg1
  have f0 : w1.frozen? ⟨w.heap.size + 1 + 1, 0, none⟩ = false := (hg1.frozen ⟨w.heap.size + 1 + 1, 0, none⟩).trans (by go_simp)
  have f1 : w1.frozen? ⟨w.heap.size + 1 + 1, 1, none⟩ = false := (hg1.frozen ⟨w.heap.size + 1 + 1, 1, none⟩).trans (by go_simp)
  go_wp2
  refine bodyPost_ret (v := .tuple #[.agg #[.int .i64 0, .int .i64 0], .int .i64 2]) ?_ rfl ⟨rfl, ?_⟩
  · simp [results, Try.results41, go_sem, c0, c1]
  · exact ((Gr.trans (by repeat (first | exact Gr.refl _ | apply Gr.alloc)) hg1).setCell (by simp; omega) _).setCell (by simp; omega) _

theorem enters_less1 : Enters 57 := enters_of Try.func57 (by kernel_rfl) (by kernel_rfl)

theorem cxless_ok (x0 x1 y0 y1 : Int) (hB : ((inB 2305843009213693952 x0 && inB 2305843009213693952 y0) && (inB 2305843009213693952 x1 && inB 2305843009213693952 y1)) = true) (w : World) :
    Calls Try.prog 42 #[.agg #[.int .i64 x0, .int .i64 x1], .agg #[.int .i64 y0, .int .i64 y1]] w fun e w' => e = .returned (.tuple #[.agg #[.int .i64 (x0 - y0), .int .i64 (x1 - y1)], .int .i64 0]) ∧ Gr w w' := by
  have hb : (-2305843009213693952 ≤ x0 ∧ x0 ≤ 2305843009213693952) ∧ (-2305843009213693952 ≤ y0 ∧ y0 ≤ 2305843009213693952) ∧ (-2305843009213693952 ≤ x1 ∧ x1 ≤ 2305843009213693952) ∧ (-2305843009213693952 ≤ y1 ∧ y1 ≤ 2305843009213693952) := by
    simp only [Bool.and_eq_true, inB_iff] at hB
    exact ⟨hB.1.1, hB.1.2, hB.2.1, hB.2.2⟩
  have HW := Lib.hid fun (k : Nat) (W : World) (hk : CxAt2 W k x0 x1 y0 y1) => (within_two k 2305843009213693952 x0 x1 y0 y1 (by decide) (by decide) W hk).mono fun e w' ⟨he, hg⟩ => (⟨by rw [he, hB], hg⟩ : e = Ending.returned (.bool true) ∧ Gr W w')
  have HN := Lib.hid fun (p q : Nat) (W : World) (hp : CxAt W p x0 x1) (hq : CxAt W q y0 y1) => numberOf_c 57 #[.pointer (some ⟨p, 0, none⟩), .pointer (some ⟨q, 0, none⟩)] (x0 - y0) (x1 - y1) W enters_less1
    (Lib.hid fun V gv => less1_re p q x0 x1 y0 y1 _ V (hp.gr gv) (hq.gr gv) (IntWalk.i64_in _ (by omega)))
    (Lib.hid fun V gv => less1_im p q x0 x1 y0 y1 _ V (hp.gr gv) (hq.gr gv) (IntWalk.i64_in _ (by omega)))
  generalize x0 - y0 = r0 at HN ⊢
  generalize x1 - y1 = r1 at HN ⊢
  clear hB hb
  go_enter Try.func42, Try.ntmps42
  go_wp2_with fail
  refine (HW.out _ _ ?_).mono ?_
  · exact ⟨by simp, by go_simp, by go_simp, by go_simp, by go_simp⟩
  rintro e w1 ⟨rfl, hg1⟩
  have ca : CxAt w1 w.heap.size x0 x1 := CxAt.gr ⟨by first | (simp; done) | (simp; omega), by go_simp, by go_simp⟩ hg1
  have cb : CxAt w1 (w.heap.size + 1) y0 y1 := CxAt.gr ⟨by first | (simp; done) | (simp; omega), by go_simp, by go_simp⟩ hg1
  have cr : CxAt w1 (w.heap.size + 1 + 1) 0 0 := CxAt.gr ⟨by first | (simp; done) | (simp; omega), by go_simp, by go_simp⟩ hg1
  have fr : ∀ j, w1.frozen? ⟨w.heap.size + 1 + 1, j, none⟩ = false := fun j => (hg1.frozen ⟨w.heap.size + 1 + 1, j, none⟩).trans (by go_simp)
  have FR := Lib.hid fr
  clear fr
  go_wp2_with fail
  refine (HN.out _ _ _ ca cb).mono ?_
  rintro e w2 ⟨rfl, hg2⟩
  have cr2 := cr.gr hg2
  have zr := cr.1
  have f0 := (hg2.frozen ⟨w.heap.size + 1 + 1, 0, none⟩).trans (FR.out 0)
  have f1 := (hg2.frozen ⟨w.heap.size + 1 + 1, 1, none⟩).trans (FR.out 1)
  obtain ⟨z2, c0, c1⟩ := cr2
  go_wp2
  refine bodyPost_ret (v := .tuple #[.agg #[.int .i64 r0, .int .i64 r1], .int .i64 0]) ?_ rfl ⟨rfl, ?_⟩
  · simp [results, Try.results42, go_sem, c0, c1]
  · exact (((Gr.trans (by repeat (first | exact Gr.refl _ | apply Gr.alloc)) hg1).trans hg2).setCell (by simp; omega) _).setCell (by simp; omega) _

theorem cxless_bad (x0 x1 y0 y1 : Int) (hB : ((inB 2305843009213693952 x0 && inB 2305843009213693952 y0) && (inB 2305843009213693952 x1 && inB 2305843009213693952 y1)) = false) (w : World) :
    Calls Try.prog 42 #[.agg #[.int .i64 x0, .int .i64 x1], .agg #[.int .i64 y0, .int .i64 y1]] w fun e w' => e = .returned (.tuple #[.agg #[.int .i64 0, .int .i64 0], .int .i64 2]) ∧ Gr w w' := by
  have HW := Lib.hid fun (k : Nat) (W : World) (hk : CxAt2 W k x0 x1 y0 y1) => (within_two k 2305843009213693952 x0 x1 y0 y1 (by decide) (by decide) W hk).mono fun e w' ⟨he, hg⟩ => (⟨by rw [he, hB], hg⟩ : e = Ending.returned (.bool false) ∧ Gr W w')
  clear hB
  go_enter Try.func42, Try.ntmps42
  go_wp2_with fail
  refine (HW.out _ _ ?_).mono ?_
  · exact ⟨by simp, by go_simp, by go_simp, by go_simp, by go_simp⟩
  rintro e w1 ⟨rfl, hg1⟩
  obtain ⟨z2, c0, c1⟩ : CxAt w1 (w.heap.size + 1 + 1) 0 0 := CxAt.gr ⟨by first | (simp; done) | (simp; omega), by go_simp, by go_simp⟩ hg1
  have f0 : w1.frozen? ⟨w.heap.size + 1 + 1, 0, none⟩ = false := (hg1.frozen ⟨w.heap.size + 1 + 1, 0, none⟩).trans (by go_simp)
  have f1 : w1.frozen? ⟨w.heap.size + 1 + 1, 1, none⟩ = false := (hg1.frozen ⟨w.heap.size + 1 + 1, 1, none⟩).trans (by go_simp)
  go_wp2
  refine bodyPost_ret (v := .tuple #[.agg #[.int .i64 0, .int .i64 0], .int .i64 2]) ?_ rfl ⟨rfl, ?_⟩
  · simp [results, Try.results42, go_sem, c0, c1]
  · exact ((Gr.trans (by repeat (first | exact Gr.refl _ | apply Gr.alloc)) hg1).setCell (by simp; omega) _).setCell (by simp; omega) _

end Go.Proofs.Ytkbfniogannlhaa
