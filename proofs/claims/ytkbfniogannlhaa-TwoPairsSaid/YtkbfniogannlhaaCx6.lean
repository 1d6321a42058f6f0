/- What package cx's calls with one number answer, and its product. -/
import Derived.Test.YtkbfniogannlhaaCx5
namespace Go.Proofs.Ytkbfniogannlhaa
open Go.ChangeShapes Go.WideShapes Go.ChangeAt Go.RowKit
set_option linter.unusedVariables false

theorem cxconj_ok (x0 x1 : Int) (hB : (inB 2305843009213693952 x0 && inB 2305843009213693952 x1) = true) (w : World) :
    Calls Try.prog 48 #[.agg #[.int .i64 x0, .int .i64 x1]] w fun e w' => e = .returned (.tuple #[.agg #[.int .i64 x0, .int .i64 (-x1)], .int .i64 0]) ∧ Gr w w' := by
  have hb := hB
  simp only [Bool.and_eq_true, inB_iff] at hb
  obtain ⟨_, b0, b1⟩ := hb
  have HW := Lib.hid fun (k : Nat) (W : World) (hk : CxAt W k x0 x1) => (within_one k 2305843009213693952 x0 x1 (by decide) (by decide) W hk).mono fun e w' ⟨he, hg⟩ => (⟨by rw [he, hB], hg⟩ : e = Ending.returned (.bool true) ∧ Gr W w')
  clear hB
  go_enter Try.func48, Try.ntmps48
  go_wp2_with fail
  refine (HW.out _ _ ?_).mono ?_
  · exact ⟨by simp, by go_simp, by go_simp⟩
  rintro e w1 ⟨rfl, hg1⟩
  obtain ⟨za, a0, a1⟩ : CxAt w1 w.heap.size x0 x1 := CxAt.gr ⟨by first | (simp; done) | (simp; omega), by go_simp, by go_simp⟩ hg1
  obtain ⟨z2, c0, c1⟩ : CxAt w1 (w.heap.size + 1) 0 0 := CxAt.gr ⟨by first | (simp; done) | (simp; omega), by go_simp, by go_simp⟩ hg1
  have f0 : w1.frozen? ⟨w.heap.size + 1, 0, none⟩ = false := (hg1.frozen ⟨w.heap.size + 1, 0, none⟩).trans (by go_simp)
  have f1 : w1.frozen? ⟨w.heap.size + 1, 1, none⟩ = false := (hg1.frozen ⟨w.heap.size + 1, 1, none⟩).trans (by go_simp)
  go_wp2
  refine bodyPost_ret (v := .tuple #[.agg #[.int .i64 x0, .int .i64 (-x1)], .int .i64 0]) ?_ rfl ⟨rfl, ?_⟩
  · simp [results, Try.results48, go_sem, c0, c1]
  · exact ((Gr.trans (by repeat (first | exact Gr.refl _ | apply Gr.alloc)) hg1).setCell (by first | (simp; done) | (simp; omega)) _).setCell (by first | (simp; done) | (simp; omega)) _

theorem cxconj_bad (x0 x1 : Int) (hB : (inB 2305843009213693952 x0 && inB 2305843009213693952 x1) = false) (w : World) :
    Calls Try.prog 48 #[.agg #[.int .i64 x0, .int .i64 x1]] w fun e w' => e = .returned (.tuple #[.agg #[.int .i64 0, .int .i64 0], .int .i64 2]) ∧ Gr w w' := by
  have HW := Lib.hid fun (k : Nat) (W : World) (hk : CxAt W k x0 x1) => (within_one k 2305843009213693952 x0 x1 (by decide) (by decide) W hk).mono fun e w' ⟨he, hg⟩ => (⟨by rw [he, hB], hg⟩ : e = Ending.returned (.bool false) ∧ Gr W w')
  clear hB
  go_enter Try.func48, Try.ntmps48
  go_wp2_with fail
  refine (HW.out _ _ ?_).mono ?_
  · exact ⟨by simp, by go_simp, by go_simp⟩
  rintro e w1 ⟨rfl, hg1⟩
  obtain ⟨z2, c0, c1⟩ : CxAt w1 (w.heap.size + 1) 0 0 := CxAt.gr ⟨by first | (simp; done) | (simp; omega), by go_simp, by go_simp⟩ hg1
  have f0 : w1.frozen? ⟨w.heap.size + 1, 0, none⟩ = false := (hg1.frozen ⟨w.heap.size + 1, 0, none⟩).trans (by go_simp)
  have f1 : w1.frozen? ⟨w.heap.size + 1, 1, none⟩ = false := (hg1.frozen ⟨w.heap.size + 1, 1, none⟩).trans (by go_simp)
  go_wp2
  refine bodyPost_ret (v := .tuple #[.agg #[.int .i64 0, .int .i64 0], .int .i64 2]) ?_ rfl ⟨rfl, ?_⟩
  · simp [results, Try.results48, go_sem, c0, c1]
  · exact ((Gr.trans (by repeat (first | exact Gr.refl _ | apply Gr.alloc)) hg1).setCell (by first | (simp; done) | (simp; omega)) _).setCell (by first | (simp; done) | (simp; omega)) _

theorem mul_bd (p q a m : Int) (hp : 0 ≤ p) (hq : 0 ≤ q) (a0 : -p ≤ a) (a1 : a ≤ p) (m0 : -q ≤ m) (m1 : m ≤ q) : -(p * q) ≤ a * m ∧ a * m ≤ p * q := by
  have h1 : 0 ≤ (p - a) * (q + m) := Int.mul_nonneg (by omega) (by omega)
  have h2 : 0 ≤ (p + a) * (q - m) := Int.mul_nonneg (by omega) (by omega)
  have h3 : 0 ≤ (p - a) * (q - m) := Int.mul_nonneg (by omega) (by omega)
  have h4 : 0 ≤ (p + a) * (q + m) := Int.mul_nonneg (by omega) (by omega)
  simp only [Int.sub_mul, Int.add_mul, Int.mul_sub, Int.mul_add] at h1 h2 h3 h4
  omega

theorem u64_in (n : Int) (h0 : 0 ≤ n) (h1 : n ≤ 18446744073709551615) : IntKind.u64.wrap n = n := by
  simp [IntKind.wrap, IntKind.bits, IntKind.signed]
  omega

theorem sq_nonneg (x : Int) : 0 ≤ x * x := by
  rcases Int.le_total 0 x with h | h
  · exact Int.mul_nonneg h h
  · exact Int.mul_nonneg_of_nonpos_of_nonpos h h

end Go.Proofs.Ytkbfniogannlhaa
