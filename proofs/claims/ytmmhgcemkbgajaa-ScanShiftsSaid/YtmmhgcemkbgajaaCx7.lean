/- What package cx's calls with one number answer, and its product. -/
import Derived.Test.YtmmhgcemkbgajaaCx6
namespace Go.Proofs.Ytmmhgcemkbgajaa
open Go.ChangeShapes Go.WideShapes Go.ChangeAt Go.RowKit
set_option linter.unusedVariables false

theorem enters_shift1 : Enters 43 := enters_of Try.func43 (by kernel_rfl) (by kernel_rfl)

theorem cxshift_ok (x0 x1 s mo : Int) (wx : -9223372036854775808 ≤ x0 ∧ x0 ≤ 9223372036854775807) (wy : -9223372036854775808 ≤ x1 ∧ x1 ≤ 9223372036854775807) (s0 : 0 ≤ s) (s1 : s ≤ 62) (m0 : 0 ≤ mo) (m1 : mo ≤ 2) (w : World) :
    Calls Try.prog 36 #[.agg #[.int .i64 x0, .int .i64 x1], .int .i64 s, .int .i64 mo] w fun e w' => e = .returned (.tuple #[.agg #[.int .i64 (rnd x0 s.toNat mo), .int .i64 (rnd x1 s.toNat mo)], .int .i64 0]) ∧ Gr w w' := by
  have HS := Lib.hid (shift_ok 0 s mo (by omega) s0 s1 m0 m1)
  have HN := Lib.hid fun (p q m : Nat) (W : World) (hp : CxAt W p x0 x1) (hq : W.cell? ⟨q, 0, none⟩ = some (.int .i64 s)) (lq : q < W.heap.size) (hm : W.cell? ⟨m, 0, none⟩ = some (.int .i64 mo)) (lm : m < W.heap.size) =>
    numberOf_c 43 #[.pointer (some ⟨p, 0, none⟩), .pointer (some ⟨q, 0, none⟩), .pointer (some ⟨m, 0, none⟩)] (rnd x0 s.toNat mo) (rnd x1 s.toNat mo) W enters_shift1
    (Lib.hid fun V gv => shift1_re p q m x0 x1 s mo V (hp.gr gv) ((gv.cell (p := ⟨q, 0, none⟩) lq).trans hq) (Nat.lt_of_lt_of_le lq gv.size) ((gv.cell (p := ⟨m, 0, none⟩) lm).trans hm) (Nat.lt_of_lt_of_le lm gv.size) wx s0 s1 m0 m1)
    (Lib.hid fun V gv => shift1_im p q m x0 x1 s mo V (hp.gr gv) ((gv.cell (p := ⟨q, 0, none⟩) lq).trans hq) (Nat.lt_of_lt_of_le lq gv.size) ((gv.cell (p := ⟨m, 0, none⟩) lm).trans hm) (Nat.lt_of_lt_of_le lm gv.size) wy s0 s1 m0 m1)
  generalize rnd 0 s.toNat mo = r at HS
  generalize rnd x0 s.toNat mo = r0 at HN ⊢
  generalize rnd x1 s.toNat mo = r1 at HN ⊢
  clear wx wy s0 s1 m0 m1
  go_enter Try.func36, Try.ntmps36
  go_wp2_with fail
  refine (HS.out _).mono ?_
  rintro e w1 ⟨rfl, hg1⟩
  have ca : CxAt w1 w.heap.size x0 x1 := CxAt.gr ⟨by first | (simp; done) | (simp; omega), by go_simp, by go_simp⟩ hg1
  have cs : w1.cell? ⟨w.heap.size + 1, 0, none⟩ = some (.int .i64 s) := (hg1.cell (p := ⟨w.heap.size + 1, 0, none⟩) (by first | (simp; done) | (simp; omega))).trans (by go_simp)
  have cm : w1.cell? ⟨w.heap.size + 1 + 1, 0, none⟩ = some (.int .i64 mo) := (hg1.cell (p := ⟨w.heap.size + 1 + 1, 0, none⟩) (by first | (simp; done) | (simp; omega))).trans (by go_simp)
  have cr : CxAt w1 (w.heap.size + 1 + 1 + 1) 0 0 := CxAt.gr ⟨by first | (simp; done) | (simp; omega), by go_simp, by go_simp⟩ hg1
  have FR := Lib.hid fun j => ((hg1.frozen ⟨w.heap.size + 1 + 1 + 1, j, none⟩).trans (by go_simp) : w1.frozen? ⟨w.heap.size + 1 + 1 + 1, j, none⟩ = false)
  have zz := cr.lt
  go_wp2_with fail
  refine (HN.out _ _ _ _ ca cs (by omega) cm (by omega)).mono ?_
  rintro e w2 ⟨rfl, hg2⟩
  have cr2 := cr.gr hg2
  have f0 := (hg2.frozen ⟨w.heap.size + 1 + 1 + 1, 0, none⟩ cr.lt).trans (FR.out 0)
  have f1 := (hg2.frozen ⟨w.heap.size + 1 + 1 + 1, 1, none⟩ cr.lt).trans (FR.out 1)
  obtain ⟨z2, c0, c1⟩ := cr2
  go_wp2
  refine bodyPost_ret (v := .tuple #[.agg #[.int .i64 r0, .int .i64 r1], .int .i64 0]) ?_ rfl ⟨rfl, ?_⟩
  · simp [results, Try.results36, go_sem, c0, c1]
  · exact (((Gr.trans (by repeat (first | exact Gr.refl _ | apply Gr.alloc)) hg1).trans hg2).setCell (by first | (simp; done) | (simp; omega)) _).setCell (by first | (simp; done) | (simp; omega)) _

theorem cxshift_bad (x0 x1 s mo : Int) (h : (mo < 0 ∨ 2 < mo) ∨ s < 0 ∨ 62 < s) (w : World) :
    Calls Try.prog 36 #[.agg #[.int .i64 x0, .int .i64 x1], .int .i64 s, .int .i64 mo] w fun e w' => e = .returned (.tuple #[.agg #[.int .i64 0, .int .i64 0], .int .i64 1]) ∧ Gr w w' := by
  have HS := Lib.hid (shift_bad 0 s mo h)
  clear h
  go_enter Try.func36, Try.ntmps36
  go_wp2_with fail
  refine (HS.out _).mono ?_
  rintro e w1 ⟨rfl, hg1⟩
  obtain ⟨z2, c0, c1⟩ : CxAt w1 (w.heap.size + 1 + 1 + 1) 0 0 := CxAt.gr ⟨by first | (simp; done) | (simp; omega), by go_simp, by go_simp⟩ hg1
  have f0 : w1.frozen? ⟨w.heap.size + 1 + 1 + 1, 0, none⟩ = false := (hg1.frozen ⟨w.heap.size + 1 + 1 + 1, 0, none⟩).trans (by go_simp)
  have f1 : w1.frozen? ⟨w.heap.size + 1 + 1 + 1, 1, none⟩ = false := (hg1.frozen ⟨w.heap.size + 1 + 1 + 1, 1, none⟩).trans (by go_simp)
  go_wp2
  refine bodyPost_ret (v := .tuple #[.agg #[.int .i64 0, .int .i64 0], .int .i64 1]) ?_ rfl ⟨rfl, ?_⟩
  · simp [results, Try.results36, go_sem, c0, c1]
  · exact ((Gr.trans (by repeat (first | exact Gr.refl _ | apply Gr.alloc)) hg1).setCell (by first | (simp; done) | (simp; omega)) _).setCell (by first | (simp; done) | (simp; omega)) _

end Go.Proofs.Ytmmhgcemkbgajaa
