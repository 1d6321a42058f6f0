/- What package cx's calls with one number answer, and its product. -/
import Derived.Test.YtkbfniogannlhaaCx6
namespace Go.Proofs.Ytkbfniogannlhaa
open Go.ChangeShapes Go.WideShapes Go.ChangeAt Go.RowKit
set_option linter.unusedVariables false

theorem enters_shift1 : Enters 58 := enters_of Try.func58 (by kernel_rfl) (by kernel_rfl)

theorem cxshift_ok (x0 x1 s mo : Int) (wx : -9223372036854775808 ≤ x0 ∧ x0 ≤ 9223372036854775807) (wy : -9223372036854775808 ≤ x1 ∧ x1 ≤ 9223372036854775807) (s0 : 0 ≤ s) (s1 : s ≤ 62) (m0 : 0 ≤ mo) (m1 : mo ≤ 2) (w : World) :
    Calls Try.prog 43 #[.agg #[.int .i64 x0, .int .i64 x1], .int .i64 s, .int .i64 mo] w fun e w' => e = .returned (.tuple #[.agg #[.int .i64 (rnd x0 s.toNat mo), .int .i64 (rnd x1 s.toNat mo)], .int .i64 0]) ∧ Gr w w' := by
  have HS := Lib.hid (shift_ok 0 s mo (by omega) s0 s1 m0 m1)
  have HN := Lib.hid fun (p q m : Nat) (W : World) (hp : CxAt W p x0 x1) (hq : W.cell? ⟨q, 0, none⟩ = some (.int .i64 s)) (lq : q < W.heap.size) (hm : W.cell? ⟨m, 0, none⟩ = some (.int .i64 mo)) (lm : m < W.heap.size) =>
    numberOf_c 58 #[.pointer (some ⟨p, 0, none⟩), .pointer (some ⟨q, 0, none⟩), .pointer (some ⟨m, 0, none⟩)] (rnd x0 s.toNat mo) (rnd x1 s.toNat mo) W enters_shift1
    (Lib.hid fun V gv => shift1_re p q m x0 x1 s mo V (hp.gr gv) ((gv.cell (p := ⟨q, 0, none⟩) lq).trans hq) (Nat.lt_of_lt_of_le lq gv.size) ((gv.cell (p := ⟨m, 0, none⟩) lm).trans hm) (Nat.lt_of_lt_of_le lm gv.size) wx s0 s1 m0 m1)
    (Lib.hid fun V gv => shift1_im p q m x0 x1 s mo V (hp.gr gv) ((gv.cell (p := ⟨q, 0, none⟩) lq).trans hq) (Nat.lt_of_lt_of_le lq gv.size) ((gv.cell (p := ⟨m, 0, none⟩) lm).trans hm) (Nat.lt_of_lt_of_le lm gv.size) wy s0 s1 m0 m1)
  generalize rnd 0 s.toNat mo = r at HS
  generalize rnd x0 s.toNat mo = r0 at HN ⊢
  generalize rnd x1 s.toNat mo = r1 at HN ⊢
  clear wx wy s0 s1 m0 m1
  go_enter Try.func43, Try.ntmps43
  go_wp2_with fail
  refine (HS.out _).mono ?_
  rintro e w1 ⟨rfl, hg1⟩
  have ca : CxAt w1 w.heap.size x0 x1 := CxAt.gr ⟨by first | (simp; done) | (simp; omega), by go_simp, by go_simp⟩ hg1
  have cs : w1.cell? ⟨w.heap.size + 1, 0, none⟩ = some (.int .i64 s) := (hg1.cell (p := ⟨w.heap.size + 1, 0, none⟩) (by first | (simp; done) | (simp; omega))).trans (by go_simp)
  have cm : w1.cell? ⟨w.heap.size + 1 + 1, 0, none⟩ = some (.int .i64 mo) := (hg1.cell (p := ⟨w.heap.size + 1 + 1, 0, none⟩) (by first | (simp; done) | (simp; omega))).trans (by go_simp)
  have cr : CxAt w1 (w.heap.size + 1 + 1 + 1) 0 0 := CxAt.gr ⟨by first | (simp; done) | (simp; omega), by go_simp, by go_simp⟩ hg1
  have FR := Lib.hid fun j => ((hg1.frozen ⟨w.heap.size + 1 + 1 + 1, j, none⟩).trans (by go_simp) : w1.frozen? ⟨w.heap.size + 1 + 1 + 1, j, none⟩ = false)
  have zz := cr.lt
  go_wp2_with fail
  refine (HN.out _ _ _ _ ca cs (by omega) cm (by omega)).mono ?_
  rintro e w2 ⟨rfl, hg2⟩
  have cr2 := cr.gr hg2
  have f0 := (hg2.frozen ⟨w.heap.size + 1 + 1 + 1, 0, none⟩ cr.lt).trans (FR.out 0)
  have f1 := (hg2.frozen ⟨w.heap.size + 1 + 1 + 1, 1, none⟩ cr.lt).trans (FR.out 1)
  obtain ⟨z2, c0, c1⟩ := cr2
  go_wp2
  refine bodyPost_ret (v := .tuple #[.agg #[.int .i64 r0, .int .i64 r1], .int .i64 0]) ?_ rfl ⟨rfl, ?_⟩
  · simp [results, Try.results43, go_sem, c0, c1]
  · exact (((Gr.trans (by repeat (first | exact Gr.refl _ | apply Gr.alloc)) hg1).trans hg2).setCell (by first | (simp; done) | (simp; omega)) _).setCell (by first | (simp; done) | (simp; omega)) _

theorem cxshift_bad (x0 x1 s mo : Int) (h : (mo < 0 ∨ 2 < mo) ∨ s < 0 ∨ 62 < s) (w : World) :
    Calls Try.prog 43 #[.agg #[.int .i64 x0, .int .i64 x1], .int .i64 s, .int .i64 mo] w fun e w' => e = .returned (.tuple #[.agg #[.int .i64 0, .int .i64 0], .int .i64 1]) ∧ Gr w w' := by
  have HS := Lib.hid (shift_bad 0 s mo h)
  clear h
  go_enter Try.func43, Try.ntmps43
  go_wp2_with fail
  refine (HS.out _).mono ?_
  rintro e w1 ⟨rfl, hg1⟩
  obtain ⟨z2, c0, c1⟩ : CxAt w1 (w.heap.size + 1 + 1 + 1) 0 0 := CxAt.gr ⟨by first | (simp; done) | (simp; omega), by go_simp, by go_simp⟩ hg1
  have f0 : w1.frozen? ⟨w.heap.size + 1 + 1 + 1, 0, none⟩ = false := (hg1.frozen ⟨w.heap.size + 1 + 1 + 1, 0, none⟩).trans (by go_simp)
  have f1 : w1.frozen? ⟨w.heap.size + 1 + 1 + 1, 1, none⟩ = false := (hg1.frozen ⟨w.heap.size + 1 + 1 + 1, 1, none⟩).trans (by go_simp)
  go_wp2
  refine bodyPost_ret (v := .tuple #[.agg #[.int .i64 0, .int .i64 0], .int .i64 1]) ?_ rfl ⟨rfl, ?_⟩
  · simp [results, Try.results43, go_sem, c0, c1]
  · exact ((Gr.trans (by repeat (first | exact Gr.refl _ | apply Gr.alloc)) hg1).setCell (by first | (simp; done) | (simp; omega)) _).setCell (by first | (simp; done) | (simp; omega)) _

theorem mayMul_c (x0 x1 y0 y1 : Int) (w : World) :
    Calls Try.prog 53 #[.agg #[.int .i64 x0, .int .i64 x1], .agg #[.int .i64 y0, .int .i64 y1]] w fun e w' => e = .returned (.bool ((inB 2147483648 x0 && inB 2147483648 x1) && (inB 1073741824 y0 && inB 1073741824 y1))) ∧ Gr w w' := by
  have HA := Lib.hid fun (k : Nat) (W : World) (hk : CxAt W k x0 x1) => within_one k 2147483648 x0 x1 (by decide) (by decide) W hk
  have HC := Lib.hid fun (k : Nat) (W : World) (hk : CxAt W k y0 y1) => within_one k 1073741824 y0 y1 (by decide) (by decide) W hk
  generalize (inB 2147483648 x0 && inB 2147483648 x1) = X at HA ⊢
  generalize (inB 1073741824 y0 && inB 1073741824 y1) = Y at HC ⊢
  cases X
  · go_enter Try.func53, Try.ntmps53
    go_wp2_with fail
    refine (HA.out _ _ ?_).mono ?_
    · exact ⟨by simp, by go_simp, by go_simp⟩
    rintro e w1 ⟨rfl, hg1⟩
    go_wp2
    go_ret
    exact ⟨rfl, (Gr.trans (by repeat (first | exact Gr.refl _ | apply Gr.alloc)) hg1)⟩
  · go_enter Try.func53, Try.ntmps53
    go_wp2_with fail
    refine (HA.out _ _ ?_).mono ?_
    · exact ⟨by simp, by go_simp, by go_simp⟩
    rintro e w1 ⟨rfl, hg1⟩
    obtain ⟨z2, c0, c1⟩ : CxAt w1 (w.heap.size + 1) y0 y1 := CxAt.gr ⟨by first | (simp; done) | (simp; omega), by go_simp, by go_simp⟩ hg1
    go_wp2_with fail
    refine (HC.out _ _ ?_).mono ?_
    · exact ⟨by simp, by go_simp, by go_simp⟩
    rintro e w2 ⟨rfl, hg2⟩
    go_wp2
    go_ret
    exact ⟨rfl, ((Gr.trans (by repeat (first | exact Gr.refl _ | apply Gr.alloc)) hg1).alloc _ _).trans hg2⟩

theorem cxtimes_1 (x0 x1 y0 y1 : Int) (h1 : ((inB 2147483648 x0 && inB 2147483648 x1) && (inB 1073741824 y0 && inB 1073741824 y1)) = true) (p00 : -4611686018427387904 ≤ x0 * y0 ∧ x0 * y0 ≤ 4611686018427387904) (p11 : -4611686018427387904 ≤ x1 * y1 ∧ x1 * y1 ≤ 4611686018427387904) (p01 : -4611686018427387904 ≤ x0 * y1 ∧ x0 * y1 ≤ 4611686018427387904) (p10 : -4611686018427387904 ≤ x1 * y0 ∧ x1 * y0 ≤ 4611686018427387904) (q0 : -9223372036854775808 ≤ x0 * y0 - x1 * y1 ∧ x0 * y0 - x1 * y1 ≤ 9223372036854775807) (q1 : -9223372036854775808 ≤ x0 * y1 + x1 * y0 ∧ x0 * y1 + x1 * y0 ≤ 9223372036854775807) (w : World) :
    Calls Try.prog 40 #[.agg #[.int .i64 x0, .int .i64 x1], .agg #[.int .i64 y0, .int .i64 y1]] w fun e w' => e = .returned (.tuple #[.agg #[.int .i64 (x0 * y0 - x1 * y1), .int .i64 (x0 * y1 + x1 * y0)], .int .i64 0]) ∧ Gr w w' := by
  have HA := Lib.hid fun (W : World) => (mayMul_c x0 x1 y0 y1 W).mono fun e w' ⟨he, hg⟩ => (⟨by rw [he, h1], hg⟩ : e = Ending.returned (.bool true) ∧ Gr W w')
  clear h1
  obtain ⟨a00, b00⟩ := p00
  obtain ⟨a11, b11⟩ := p11
  obtain ⟨a01, b01⟩ := p01
  obtain ⟨a10, b10⟩ := p10
  obtain ⟨a0, b0⟩ := q0
  obtain ⟨a1, b1⟩ := q1
  go_enter Try.func40, Try.ntmps40
  go_wp2_with fail
  refine (HA.out _).mono ?_
  rintro e w1 ⟨rfl, hg1⟩
  have ca : CxAt w1 w.heap.size x0 x1 := CxAt.gr ⟨by first | (simp; done) | (simp; omega), by go_simp, by go_simp⟩ hg1
  have cb : CxAt w1 (w.heap.size + 1) y0 y1 := CxAt.gr ⟨by first | (simp; done) | (simp; omega), by go_simp, by go_simp⟩ hg1
  have cr : CxAt w1 (w.heap.size + 1 + 1) 0 0 := CxAt.gr ⟨by first | (simp; done) | (simp; omega), by go_simp, by go_simp⟩ hg1
  have FR := Lib.hid fun j => ((hg1.frozen ⟨w.heap.size + 1 + 1, j, none⟩).trans (by go_simp) : w1.frozen? ⟨w.heap.size + 1 + 1, j, none⟩ = false)
  obtain ⟨za, xa, xb⟩ := ca
  obtain ⟨zb, ya, yb⟩ := cb
  obtain ⟨z2, c0, c1⟩ := cr
  have f0 := FR.out 0
  have f1 := FR.out 1
  go_wp2
  refine bodyPost_ret (v := .tuple #[.agg #[.int .i64 (x0 * y0 - x1 * y1), .int .i64 (x0 * y1 + x1 * y0)], .int .i64 0]) ?_ rfl ⟨rfl, ?_⟩
  · simp [results, Try.results40, go_sem, c0, c1]
  · exact ((Gr.trans (by repeat (first | exact Gr.refl _ | apply Gr.alloc)) hg1).setCell (by first | (simp; done) | (simp; omega)) _).setCell (by first | (simp; done) | (simp; omega)) _

theorem cxtimes_2 (x0 x1 y0 y1 : Int) (h1 : ((inB 2147483648 x0 && inB 2147483648 x1) && (inB 1073741824 y0 && inB 1073741824 y1)) = false) (h2 : ((inB 2147483648 y0 && inB 2147483648 y1) && (inB 1073741824 x0 && inB 1073741824 x1)) = true) (p00 : -4611686018427387904 ≤ x0 * y0 ∧ x0 * y0 ≤ 4611686018427387904) (p11 : -4611686018427387904 ≤ x1 * y1 ∧ x1 * y1 ≤ 4611686018427387904) (p01 : -4611686018427387904 ≤ x0 * y1 ∧ x0 * y1 ≤ 4611686018427387904) (p10 : -4611686018427387904 ≤ x1 * y0 ∧ x1 * y0 ≤ 4611686018427387904) (q0 : -9223372036854775808 ≤ x0 * y0 - x1 * y1 ∧ x0 * y0 - x1 * y1 ≤ 9223372036854775807) (q1 : -9223372036854775808 ≤ x0 * y1 + x1 * y0 ∧ x0 * y1 + x1 * y0 ≤ 9223372036854775807) (w : World) :
    Calls Try.prog 40 #[.agg #[.int .i64 x0, .int .i64 x1], .agg #[.int .i64 y0, .int .i64 y1]] w fun e w' => e = .returned (.tuple #[.agg #[.int .i64 (x0 * y0 - x1 * y1), .int .i64 (x0 * y1 + x1 * y0)], .int .i64 0]) ∧ Gr w w' := by
  have HA := Lib.hid fun (W : World) => (mayMul_c x0 x1 y0 y1 W).mono fun e w' ⟨he, hg⟩ => (⟨by rw [he, h1], hg⟩ : e = Ending.returned (.bool false) ∧ Gr W w')
  have HC := Lib.hid fun (W : World) => (mayMul_c y0 y1 x0 x1 W).mono fun e w' ⟨he, hg⟩ => (⟨by rw [he, h2], hg⟩ : e = Ending.returned (.bool true) ∧ Gr W w')
  clear h2
  clear h1
  obtain ⟨a00, b00⟩ := p00
  obtain ⟨a11, b11⟩ := p11
  obtain ⟨a01, b01⟩ := p01
  obtain ⟨a10, b10⟩ := p10
  obtain ⟨a0, b0⟩ := q0
  obtain ⟨a1, b1⟩ := q1
  go_enter Try.func40, Try.ntmps40
  go_wp2_with fail
  refine (HA.out _).mono ?_
  rintro e w1 ⟨rfl, hg1⟩
  have ca : CxAt w1 w.heap.size x0 x1 := CxAt.gr ⟨by first | (simp; done) | (simp; omega), by go_simp, by go_simp⟩ hg1
  have cb : CxAt w1 (w.heap.size + 1) y0 y1 := CxAt.gr ⟨by first | (simp; done) | (simp; omega), by go_simp, by go_simp⟩ hg1
  have cr : CxAt w1 (w.heap.size + 1 + 1) 0 0 := CxAt.gr ⟨by first | (simp; done) | (simp; omega), by go_simp, by go_simp⟩ hg1
  have FR := Lib.hid fun j => ((hg1.frozen ⟨w.heap.size + 1 + 1, j, none⟩).trans (by go_simp) : w1.frozen? ⟨w.heap.size + 1 + 1, j, none⟩ = false)
  obtain ⟨za, xa, xb⟩ := ca
  obtain ⟨zb, ya, yb⟩ := cb
  go_wp2_with fail
  refine (HC.out _).mono ?_
  rintro e w2 ⟨rfl, hg2⟩
  have ca2 := CxAt.gr ⟨za, xa, xb⟩ hg2
  have cb2 := CxAt.gr ⟨zb, ya, yb⟩ hg2
  have cr2 := cr.gr hg2
  have f0 := (hg2.frozen ⟨w.heap.size + 1 + 1, 0, none⟩ cr.lt).trans (FR.out 0)
  have f1 := (hg2.frozen ⟨w.heap.size + 1 + 1, 1, none⟩ cr.lt).trans (FR.out 1)
  obtain ⟨za2, xa2, xb2⟩ := ca2
  obtain ⟨zb2, ya2, yb2⟩ := cb2
  obtain ⟨z2, c0, c1⟩ := cr2
  go_wp2
  refine bodyPost_ret (v := .tuple #[.agg #[.int .i64 (x0 * y0 - x1 * y1), .int .i64 (x0 * y1 + x1 * y0)], .int .i64 0]) ?_ rfl ⟨rfl, ?_⟩
  · simp [results, Try.results40, go_sem, c0, c1]
  · exact (((Gr.trans (by repeat (first | exact Gr.refl _ | apply Gr.alloc)) hg1).trans hg2).setCell (by first | (simp; done) | (simp; omega)) _).setCell (by first | (simp; done) | (simp; omega)) _

theorem cxtimes_bad (x0 x1 y0 y1 : Int) (h1 : ((inB 2147483648 x0 && inB 2147483648 x1) && (inB 1073741824 y0 && inB 1073741824 y1)) = false) (h2 : ((inB 2147483648 y0 && inB 2147483648 y1) && (inB 1073741824 x0 && inB 1073741824 x1)) = false) (w : World) :
    Calls Try.prog 40 #[.agg #[.int .i64 x0, .int .i64 x1], .agg #[.int .i64 y0, .int .i64 y1]] w fun e w' => e = .returned (.tuple #[.agg #[.int .i64 0, .int .i64 0], .int .i64 2]) ∧ Gr w w' := by
  have HA := Lib.hid fun (W : World) => (mayMul_c x0 x1 y0 y1 W).mono fun e w' ⟨he, hg⟩ => (⟨by rw [he, h1], hg⟩ : e = Ending.returned (.bool false) ∧ Gr W w')
  have HC := Lib.hid fun (W : World) => (mayMul_c y0 y1 x0 x1 W).mono fun e w' ⟨he, hg⟩ => (⟨by rw [he, h2], hg⟩ : e = Ending.returned (.bool false) ∧ Gr W w')
  clear h2
  clear h1
  go_enter Try.func40, Try.ntmps40
  go_wp2_with fail
  refine (HA.out _).mono ?_
  rintro e w1 ⟨rfl, hg1⟩
  have ca : CxAt w1 w.heap.size x0 x1 := CxAt.gr ⟨by first | (simp; done) | (simp; omega), by go_simp, by go_simp⟩ hg1
  have cb : CxAt w1 (w.heap.size + 1) y0 y1 := CxAt.gr ⟨by first | (simp; done) | (simp; omega), by go_simp, by go_simp⟩ hg1
  have cr : CxAt w1 (w.heap.size + 1 + 1) 0 0 := CxAt.gr ⟨by first | (simp; done) | (simp; omega), by go_simp, by go_simp⟩ hg1
  have FR := Lib.hid fun j => ((hg1.frozen ⟨w.heap.size + 1 + 1, j, none⟩).trans (by go_simp) : w1.frozen? ⟨w.heap.size + 1 + 1, j, none⟩ = false)
  obtain ⟨za, xa, xb⟩ := ca
  obtain ⟨zb, ya, yb⟩ := cb
  go_wp2_with fail
  refine (HC.out _).mono ?_
  rintro e w2 ⟨rfl, hg2⟩
  have ca2 := CxAt.gr ⟨za, xa, xb⟩ hg2
  have cb2 := CxAt.gr ⟨zb, ya, yb⟩ hg2
  have cr2 := cr.gr hg2
  have f0 := (hg2.frozen ⟨w.heap.size + 1 + 1, 0, none⟩ cr.lt).trans (FR.out 0)
  have f1 := (hg2.frozen ⟨w.heap.size + 1 + 1, 1, none⟩ cr.lt).trans (FR.out 1)
  obtain ⟨za2, xa2, xb2⟩ := ca2
  obtain ⟨zb2, ya2, yb2⟩ := cb2
  obtain ⟨z2, c0, c1⟩ := cr2
  go_wp2
  refine bodyPost_ret (v := .tuple #[.agg #[.int .i64 0, .int .i64 0], .int .i64 2]) ?_ rfl ⟨rfl, ?_⟩
  · simp [results, Try.results40, go_sem, c0, c1]
  · exact (((Gr.trans (by repeat (first | exact Gr.refl _ | apply Gr.alloc)) hg1).trans hg2).setCell (by first | (simp; done) | (simp; omega)) _).setCell (by first | (simp; done) | (simp; omega)) _

theorem cxtimes_ok (x0 x1 y0 y1 : Int) (hB : (((inB 2147483648 x0 && inB 2147483648 x1) && (inB 1073741824 y0 && inB 1073741824 y1)) || ((inB 2147483648 y0 && inB 2147483648 y1) && (inB 1073741824 x0 && inB 1073741824 x1))) = true) (w : World) :
    Calls Try.prog 40 #[.agg #[.int .i64 x0, .int .i64 x1], .agg #[.int .i64 y0, .int .i64 y1]] w fun e w' => e = .returned (.tuple #[.agg #[.int .i64 (x0 * y0 - x1 * y1), .int .i64 (x0 * y1 + x1 * y0)], .int .i64 0]) ∧ Gr w w' := by
  have bd : (-2305843009213693952 ≤ x0 * y0 ∧ x0 * y0 ≤ 2305843009213693952) ∧ (-2305843009213693952 ≤ x1 * y1 ∧ x1 * y1 ≤ 2305843009213693952) ∧ (-2305843009213693952 ≤ x0 * y1 ∧ x0 * y1 ≤ 2305843009213693952) ∧ (-2305843009213693952 ≤ x1 * y0 ∧ x1 * y0 ≤ 2305843009213693952) := by
    have h := hB
    simp only [Bool.or_eq_true, Bool.and_eq_true, inB_iff] at h
    rcases h with ⟨⟨⟨a0, a1⟩, b0, b1⟩, ⟨c0, c1⟩, d0, d1⟩ | ⟨⟨⟨c0, c1⟩, d0, d1⟩, ⟨a0, a1⟩, b0, b1⟩
    · exact ⟨mul_bd 2147483648 1073741824 x0 y0 (by decide) (by decide) a0 a1 c0 c1, mul_bd 2147483648 1073741824 x1 y1 (by decide) (by decide) b0 b1 d0 d1, mul_bd 2147483648 1073741824 x0 y1 (by decide) (by decide) a0 a1 d0 d1, mul_bd 2147483648 1073741824 x1 y0 (by decide) (by decide) b0 b1 c0 c1⟩
    · exact ⟨mul_bd 1073741824 2147483648 x0 y0 (by decide) (by decide) a0 a1 c0 c1, mul_bd 1073741824 2147483648 x1 y1 (by decide) (by decide) b0 b1 d0 d1, mul_bd 1073741824 2147483648 x0 y1 (by decide) (by decide) a0 a1 d0 d1, mul_bd 1073741824 2147483648 x1 y0 (by decide) (by decide) b0 b1 c0 c1⟩
  obtain ⟨⟨u0, u1⟩, ⟨u2, u3⟩, ⟨u4, u5⟩, u6, u7⟩ := bd
  cases h1 : ((inB 2147483648 x0 && inB 2147483648 x1) && (inB 1073741824 y0 && inB 1073741824 y1))
  · rw [h1, Bool.false_or] at hB
    exact cxtimes_2 x0 x1 y0 y1 h1 hB ⟨by omega, by omega⟩ ⟨by omega, by omega⟩ ⟨by omega, by omega⟩ ⟨by omega, by omega⟩ ⟨by omega, by omega⟩ ⟨by omega, by omega⟩ w
  · exact cxtimes_1 x0 x1 y0 y1 h1 ⟨by omega, by omega⟩ ⟨by omega, by omega⟩ ⟨by omega, by omega⟩ ⟨by omega, by omega⟩ ⟨by omega, by omega⟩ ⟨by omega, by omega⟩ w

end Go.Proofs.Ytkbfniogannlhaa
