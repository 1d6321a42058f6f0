/- What package cx's within answers in one piece, and which numbers may be multiplied. · What package cx's calls answer. · What package cx's calls with one number answer, and its product. · What package cx's calls with one number answer, and its product. · What the functions of layer 3's reference answer. · Turns: what the program and the reference answer together; numbers modulo 4. -/
import Derived.Test.YtbdglbpkbpedoaaCx3
namespace Go.Proofs.Ytbdglbpkbpedoaa
open Go.ChangeShapes Go.WideShapes Go.ChangeAt Go.RowKit
set_option linter.unusedVariables false
set_option maxRecDepth 100000

theorem within1_one (p : Nat) (HE : Enters p) (pn pl k : Nat) (l x00 x01 v0 : Int) (w : World) (HP0 : Hid (∀ W, Calls Try.prog p #[.agg #[.int .i64 x00, .int .i64 x01]] W fun e w' => e = .returned (.int .i64 v0) ∧ Gr W w'))
    (hn : w.cell? ⟨pn, 0, none⟩ = some (.slice (some ⟨k, 0, none⟩) 1 1)) (ln : pn < w.heap.size) (hlw : w.cell? ⟨pl, 0, none⟩ = some (.int .i64 l)) (llw : pl < w.heap.size)
    (lk : k < w.heap.size) (c00 : w.cell? ⟨k, 0, none⟩ = some (.int .i64 x00)) (c01 : w.cell? ⟨k, 1, none⟩ = some (.int .i64 x01)) (l0 : 0 ≤ l) (l1 : l ≤ 4611686018427387904) :
    Calls Try.prog 84 #[.func (.func p) #[] #[], .pointer (some ⟨pn, 0, none⟩), .pointer (some ⟨pl, 0, none⟩)] w fun e w' => e = .returned (.bool (inB l v0)) ∧ Gr w w' := by
  by_cases a : v0 < -l
  · rw [inB_false (.inl a)]
    exact within1_1_l p HE pn pl k l x00 x01 v0 w HP0 hn ln hlw llw lk c00 c01 l0 l1 (decide_eq_true a)
  · by_cases b : l < v0
    · rw [inB_false (.inr b)]
      exact within1_1_h p HE pn pl k l x00 x01 v0 w HP0 hn ln hlw llw lk c00 c01 l0 l1 (decide_eq_false a) (decide_eq_true b)
    · rw [inB_true (by omega) (by omega)]
      exact within1_1_o p HE pn pl k l x00 x01 v0 w HP0 hn ln hlw llw lk c00 c01 l0 l1 (decide_eq_false a) (decide_eq_false b)

theorem within1_two (p : Nat) (HE : Enters p) (pn pl k : Nat) (l x00 x01 v0 x10 x11 v1 : Int) (w : World) (HP0 : Hid (∀ W, Calls Try.prog p #[.agg #[.int .i64 x00, .int .i64 x01]] W fun e w' => e = .returned (.int .i64 v0) ∧ Gr W w'))
    (HP1 : Hid (∀ W, Calls Try.prog p #[.agg #[.int .i64 x10, .int .i64 x11]] W fun e w' => e = .returned (.int .i64 v1) ∧ Gr W w'))
    (hn : w.cell? ⟨pn, 0, none⟩ = some (.slice (some ⟨k, 0, none⟩) 2 2)) (ln : pn < w.heap.size) (hlw : w.cell? ⟨pl, 0, none⟩ = some (.int .i64 l)) (llw : pl < w.heap.size)
    (lk : k < w.heap.size) (c00 : w.cell? ⟨k, 0, none⟩ = some (.int .i64 x00)) (c01 : w.cell? ⟨k, 1, none⟩ = some (.int .i64 x01)) (c10 : w.cell? ⟨k, 2, none⟩ = some (.int .i64 x10)) (c11 : w.cell? ⟨k, 3, none⟩ = some (.int .i64 x11)) (l0 : 0 ≤ l) (l1 : l ≤ 4611686018427387904) :
    Calls Try.prog 84 #[.func (.func p) #[] #[], .pointer (some ⟨pn, 0, none⟩), .pointer (some ⟨pl, 0, none⟩)] w fun e w' => e = .returned (.bool (inB l v0 && inB l v1)) ∧ Gr w w' := by
  by_cases a : v0 < -l
  · rw [inB_false (.inl a)]
    exact within1_2_l p HE pn pl k l x00 x01 v0 x10 x11 v1 w HP0 HP1 hn ln hlw llw lk c00 c01 c10 c11 l0 l1 (decide_eq_true a)
  · by_cases b : l < v0
    · rw [inB_false (.inr b)]
      exact within1_2_h p HE pn pl k l x00 x01 v0 x10 x11 v1 w HP0 HP1 hn ln hlw llw lk c00 c01 c10 c11 l0 l1 (decide_eq_false a) (decide_eq_true b)
    · rw [inB_true (show -l ≤ v0 by omega) (by omega)]
      by_cases a1 : v1 < -l
      · rw [inB_false (.inl a1)]
        exact within1_2_ol p HE pn pl k l x00 x01 v0 x10 x11 v1 w HP0 HP1 hn ln hlw llw lk c00 c01 c10 c11 l0 l1 (decide_eq_false a) (decide_eq_false b) (decide_eq_true a1)
      · by_cases b1 : l < v1
        · rw [inB_false (.inr b1)]
          exact within1_2_oh p HE pn pl k l x00 x01 v0 x10 x11 v1 w HP0 HP1 hn ln hlw llw lk c00 c01 c10 c11 l0 l1 (decide_eq_false a) (decide_eq_false b) (decide_eq_false a1) (decide_eq_true b1)
        · rw [inB_true (by omega) (by omega)]
          exact within1_2_oo p HE pn pl k l x00 x01 v0 x10 x11 v1 w HP0 HP1 hn ln hlw llw lk c00 c01 c10 c11 l0 l1 (decide_eq_false a) (decide_eq_false b) (decide_eq_false a1) (decide_eq_false b1)

theorem enters_re : Enters 92 := enters_of Try.func92 (by kernel_rfl) (by kernel_rfl)
theorem enters_im : Enters 93 := enters_of Try.func93 (by kernel_rfl) (by kernel_rfl)
theorem enters_within1 : Enters 84 := enters_of Try.func84 (by kernel_rfl) (by kernel_rfl)

theorem within_one (k : Nat) (l x0 x1 : Int) (l0 : 0 ≤ l) (l1 : l ≤ 4611686018427387904) (w : World) (hk : CxAt w k x0 x1) :
    Calls Try.prog 76 #[.int .i64 l, .slice (some ⟨k, 0, none⟩) 1 1] w fun e w' => e = .returned (.bool (inB l x0 && inB l x1)) ∧ Gr w w' := by
  have HB := Lib.hid fun (W : World) (pn pl : Nat) (hn : W.cell? ⟨pn, 0, none⟩ = some (.slice (some ⟨k, 0, none⟩) 1 1)) (ln : pn < W.heap.size) (hl : W.cell? ⟨pl, 0, none⟩ = some (.int .i64 l)) (ll : pl < W.heap.size) (g : Gr w W) =>
    both_bool 84 #[.pointer (some ⟨pn, 0, none⟩), .pointer (some ⟨pl, 0, none⟩)] (inB l x0) (inB l x1) W enters_within1
      (Lib.hid fun V gv => within1_one 92 enters_re pn pl k l x0 x1 x0 V (Lib.hid (re_g x0 x1)) ((gv.cell (p := ⟨pn, 0, none⟩) ln).trans hn) (Nat.lt_of_lt_of_le ln gv.size) ((gv.cell (p := ⟨pl, 0, none⟩) ll).trans hl) (Nat.lt_of_lt_of_le ll gv.size) ((hk.gr g).gr gv).lt ((hk.gr g).gr gv).c0 ((hk.gr g).gr gv).c1 l0 l1)
      (Lib.hid fun V gv => within1_one 93 enters_im pn pl k l x0 x1 x1 V (Lib.hid (im_g x0 x1)) ((gv.cell (p := ⟨pn, 0, none⟩) ln).trans hn) (Nat.lt_of_lt_of_le ln gv.size) ((gv.cell (p := ⟨pl, 0, none⟩) ll).trans hl) (Nat.lt_of_lt_of_le ll gv.size) ((hk.gr g).gr gv).lt ((hk.gr g).gr gv).c0 ((hk.gr g).gr gv).c1 l0 l1)
  generalize inB l x0 = X at HB ⊢
  generalize inB l x1 = Y at HB ⊢
  clear hk l0 l1
  cases X <;> cases Y
  all_goals
    go_enter Try.func76, Try.ntmps76
    go_wp2_with fail
    refine (HB.out _ _ _ ?_ ?_ ?_ ?_ ?_).mono ?_
    · go_simp
    · simp
    · go_simp
    · simp; omega
    · exact ((Gr.refl w).alloc _ _).alloc _ _
    · rintro e w1 ⟨rfl, hg⟩
      go_wp2
      go_ret
      exact ⟨rfl, Gr.trans (by repeat (first | exact Gr.refl _ | assumption | apply Gr.drew | apply Gr.alloc)) hg⟩

/-- Two complex numbers lie in memory, one behind the other. -/
structure CxAt2 (w : World) (p : Nat) (x y x' y' : Int) : Prop where
  lt : p < w.heap.size
  c0 : w.cell? ⟨p, 0, none⟩ = some (.int .i64 x)
  c1 : w.cell? ⟨p, 1, none⟩ = some (.int .i64 y)
  c2 : w.cell? ⟨p, 2, none⟩ = some (.int .i64 x')
  c3 : w.cell? ⟨p, 3, none⟩ = some (.int .i64 y')
theorem CxAt2.gr {w W : World} {p : Nat} {x y x' y' : Int} (h : CxAt2 w p x y x' y') (g : Gr w W) : CxAt2 W p x y x' y' :=
  ⟨Nat.lt_of_lt_of_le h.lt g.size, (g.cell (p := ⟨p, 0, none⟩) h.lt).trans h.c0, (g.cell (p := ⟨p, 1, none⟩) h.lt).trans h.c1, (g.cell (p := ⟨p, 2, none⟩) h.lt).trans h.c2, (g.cell (p := ⟨p, 3, none⟩) h.lt).trans h.c3⟩

theorem within_two (k : Nat) (l x0 x1 y0 y1 : Int) (l0 : 0 ≤ l) (l1 : l ≤ 4611686018427387904) (w : World) (hk : CxAt2 w k x0 x1 y0 y1) :
    Calls Try.prog 76 #[.int .i64 l, .slice (some ⟨k, 0, none⟩) 2 2] w fun e w' => e = .returned (.bool ((inB l x0 && inB l y0) && (inB l x1 && inB l y1))) ∧ Gr w w' := by
  have HB := Lib.hid fun (W : World) (pn pl : Nat) (hn : W.cell? ⟨pn, 0, none⟩ = some (.slice (some ⟨k, 0, none⟩) 2 2)) (ln : pn < W.heap.size) (hl : W.cell? ⟨pl, 0, none⟩ = some (.int .i64 l)) (ll : pl < W.heap.size) (g : Gr w W) =>
    both_bool 84 #[.pointer (some ⟨pn, 0, none⟩), .pointer (some ⟨pl, 0, none⟩)] (inB l x0 && inB l y0) (inB l x1 && inB l y1) W enters_within1
      (Lib.hid fun V gv => within1_two 92 enters_re pn pl k l x0 x1 x0 y0 y1 y0 V (Lib.hid (re_g x0 x1)) (Lib.hid (re_g y0 y1)) ((gv.cell (p := ⟨pn, 0, none⟩) ln).trans hn) (Nat.lt_of_lt_of_le ln gv.size) ((gv.cell (p := ⟨pl, 0, none⟩) ll).trans hl) (Nat.lt_of_lt_of_le ll gv.size) ((hk.gr g).gr gv).lt ((hk.gr g).gr gv).c0 ((hk.gr g).gr gv).c1 ((hk.gr g).gr gv).c2 ((hk.gr g).gr gv).c3 l0 l1)
      (Lib.hid fun V gv => within1_two 93 enters_im pn pl k l x0 x1 x1 y0 y1 y1 V (Lib.hid (im_g x0 x1)) (Lib.hid (im_g y0 y1)) ((gv.cell (p := ⟨pn, 0, none⟩) ln).trans hn) (Nat.lt_of_lt_of_le ln gv.size) ((gv.cell (p := ⟨pl, 0, none⟩) ll).trans hl) (Nat.lt_of_lt_of_le ll gv.size) ((hk.gr g).gr gv).lt ((hk.gr g).gr gv).c0 ((hk.gr g).gr gv).c1 ((hk.gr g).gr gv).c2 ((hk.gr g).gr gv).c3 l0 l1)
  generalize (inB l x0 && inB l y0) = X at HB ⊢
  generalize (inB l x1 && inB l y1) = Y at HB ⊢
  clear hk l0 l1
  cases X <;> cases Y
  all_goals
    go_enter Try.func76, Try.ntmps76
    go_wp2_with fail
    refine (HB.out _ _ _ ?_ ?_ ?_ ?_ ?_).mono ?_
    · go_simp
    · simp
    · go_simp
    · simp; omega
    · exact ((Gr.refl w).alloc _ _).alloc _ _
    · rintro e w1 ⟨rfl, hg⟩
      go_wp2
      go_ret
      exact ⟨rfl, Gr.trans (by repeat (first | exact Gr.refl _ | assumption | apply Gr.drew | apply Gr.alloc)) hg⟩

end Go.Proofs.Ytbdglbpkbpedoaa

namespace Go.Proofs.Ytbdglbpkbpedoaa
open Go.ChangeShapes Go.WideShapes Go.ChangeAt Go.RowKit
set_option linter.unusedVariables false

end Go.Proofs.Ytbdglbpkbpedoaa

namespace Go.Proofs.Ytbdglbpkbpedoaa
open Go.ChangeShapes Go.WideShapes Go.ChangeAt Go.RowKit
set_option linter.unusedVariables false

theorem cxconj_ok (x0 x1 : Int) (hB : (inB 2305843009213693952 x0 && inB 2305843009213693952 x1) = true) (w : World) :
    Calls Try.prog 59 #[.agg #[.int .i64 x0, .int .i64 x1]] w fun e w' => e = .returned (.tuple #[.agg #[.int .i64 x0, .int .i64 (-x1)], .int .i64 0]) ∧ Gr w w' := by
  have hb := hB
  simp only [Bool.and_eq_true, inB_iff] at hb
  obtain ⟨_, b0, b1⟩ := hb
  have HW := Lib.hid fun (k : Nat) (W : World) (hk : CxAt W k x0 x1) => (within_one k 2305843009213693952 x0 x1 (by decide) (by decide) W hk).mono fun e w' ⟨he, hg⟩ => (⟨by rw [he, hB], hg⟩ : e = Ending.returned (.bool true) ∧ Gr W w')
  clear hB
  go_enter Try.func59, Try.ntmps59
  go_wp2_with fail
  refine (HW.out _ _ ?_).mono ?_
  · exact ⟨by simp, by go_simp, by go_simp⟩
  rintro e w1 ⟨rfl, hg1⟩
  obtain ⟨za, a0, a1⟩ : CxAt w1 w.heap.size x0 x1 := CxAt.gr ⟨by first | (simp; done) | (simp; omega), by go_simp, by go_simp⟩ hg1
  obtain ⟨z2, c0, c1⟩ : CxAt w1 (w.heap.size + 1) 0 0 := CxAt.gr ⟨by first | (simp; done) | (simp; omega), by go_simp, by go_simp⟩ hg1
  have f0 : w1.frozen? ⟨w.heap.size + 1, 0, none⟩ = false := (hg1.frozen ⟨w.heap.size + 1, 0, none⟩).trans (by go_simp)
  have f1 : w1.frozen? ⟨w.heap.size + 1, 1, none⟩ = false := (hg1.frozen ⟨w.heap.size + 1, 1, none⟩).trans (by go_simp)
  go_wp2
  refine bodyPost_ret (v := .tuple #[.agg #[.int .i64 x0, .int .i64 (-x1)], .int .i64 0]) ?_ rfl ⟨rfl, ?_⟩
  · simp [results, Try.results59, go_sem, c0, c1]
  · exact ((Gr.trans (by repeat (first | exact Gr.refl _ | apply Gr.alloc)) hg1).setCell (by first | (simp; done) | (simp; omega)) _).setCell (by first | (simp; done) | (simp; omega)) _

theorem cxconj_bad (x0 x1 : Int) (hB : (inB 2305843009213693952 x0 && inB 2305843009213693952 x1) = false) (w : World) :
    Calls Try.prog 59 #[.agg #[.int .i64 x0, .int .i64 x1]] w fun e w' => e = .returned (.tuple #[.agg #[.int .i64 0, .int .i64 0], .int .i64 2]) ∧ Gr w w' := by
  have HW := Lib.hid fun (k : Nat) (W : World) (hk : CxAt W k x0 x1) => (within_one k 2305843009213693952 x0 x1 (by decide) (by decide) W hk).mono fun e w' ⟨he, hg⟩ => (⟨by rw [he, hB], hg⟩ : e = Ending.returned (.bool false) ∧ Gr W w')
  clear hB
  go_enter Try.func59, Try.ntmps59
  go_wp2_with fail
  refine (HW.out _ _ ?_).mono ?_
  · exact ⟨by simp, by go_simp, by go_simp⟩
  rintro e w1 ⟨rfl, hg1⟩
  obtain ⟨z2, c0, c1⟩ : CxAt w1 (w.heap.size + 1) 0 0 := CxAt.gr ⟨by first | (simp; done) | (simp; omega), by go_simp, by go_simp⟩ hg1
  have f0 : w1.frozen? ⟨w.heap.size + 1, 0, none⟩ = false := (hg1.frozen ⟨w.heap.size + 1, 0, none⟩).trans (by go_simp)
  have f1 : w1.frozen? ⟨w.heap.size + 1, 1, none⟩ = false := (hg1.frozen ⟨w.heap.size + 1, 1, none⟩).trans (by go_simp)
  go_wp2
  refine bodyPost_ret (v := .tuple #[.agg #[.int .i64 0, .int .i64 0], .int .i64 2]) ?_ rfl ⟨rfl, ?_⟩
  · simp [results, Try.results59, go_sem, c0, c1]
  · exact ((Gr.trans (by repeat (first | exact Gr.refl _ | apply Gr.alloc)) hg1).setCell (by first | (simp; done) | (simp; omega)) _).setCell (by first | (simp; done) | (simp; omega)) _

set_option maxHeartbeats 2000000 in
theorem cxturn_0 (x0 x1 n : Int) (hB : (inB 2305843009213693952 x0 && inB 2305843009213693952 x1) = true) (hn : bits .and .i64 n 3 = 0) (w : World) :
    Calls Try.prog 58 #[.agg #[.int .i64 x0, .int .i64 x1], .int .i64 n] w fun e w' => e = .returned (.tuple #[.agg #[.int .i64 (x0), .int .i64 (x1)], .int .i64 0]) ∧ Gr w w' := by
  have hb := hB
  simp only [Bool.and_eq_true, inB_iff] at hb
  obtain ⟨⟨d0, d1⟩, b0, b1⟩ := hb
  have HW := Lib.hid fun (k : Nat) (W : World) (hk : CxAt W k x0 x1) => (within_one k 2305843009213693952 x0 x1 (by decide) (by decide) W hk).mono fun e w' ⟨he, hg⟩ => (⟨by rw [he, hB], hg⟩ : e = Ending.returned (.bool true) ∧ Gr W w')
  clear hB
  go_enter Try.func58, Try.ntmps58
  go_wp2_with fail
  refine (HW.out _ _ ?_).mono ?_
  · exact ⟨by simp, by go_simp, by go_simp⟩
  rintro e w1 ⟨rfl, hg1⟩
  have gw1 : Gr w w1 := Gr.trans (by repeat (first | exact Gr.refl _ | apply Gr.alloc)) hg1
  obtain ⟨za, a0, a1⟩ : CxAt w1 w.heap.size x0 x1 := CxAt.gr ⟨by first | (simp; done) | (simp; omega), by go_simp, by go_simp⟩ hg1
  obtain ⟨z2, c0, c1⟩ : CxAt w1 (w.heap.size + 1) 0 0 := CxAt.gr ⟨by first | (simp; done) | (simp; omega), by go_simp, by go_simp⟩ hg1
  have e0 : w1.frozen? ⟨w.heap.size, 0, none⟩ = false := (hg1.frozen ⟨w.heap.size, 0, none⟩).trans (by go_simp)
  have e1 : w1.frozen? ⟨w.heap.size, 1, none⟩ = false := (hg1.frozen ⟨w.heap.size, 1, none⟩).trans (by go_simp)
  have f0 : w1.frozen? ⟨w.heap.size + 1, 0, none⟩ = false := (hg1.frozen ⟨w.heap.size + 1, 0, none⟩).trans (by go_simp)
  have f1 : w1.frozen? ⟨w.heap.size + 1, 1, none⟩ = false := (hg1.frozen ⟨w.heap.size + 1, 1, none⟩).trans (by go_simp)
  clear hg1
  go_wp2_with fail
  refine wp_loop_rounds 1 ?_
  rw [rounds_succ]
  go_wp2_with fail
  refine bodyPost_ret (v := .tuple #[.agg #[.int .i64 (x0), .int .i64 (x1)], .int .i64 0]) ?_ rfl ⟨rfl, ?_⟩
  · simp [results, Try.results58, go_sem, c0, c1]
  · exact ((gw1.setCell (by simp) _).setCell (by simp) _)

set_option maxHeartbeats 2000000 in
theorem cxturn_1 (x0 x1 n : Int) (hB : (inB 2305843009213693952 x0 && inB 2305843009213693952 x1) = true) (hn : bits .and .i64 n 3 = 1) (w : World) :
    Calls Try.prog 58 #[.agg #[.int .i64 x0, .int .i64 x1], .int .i64 n] w fun e w' => e = .returned (.tuple #[.agg #[.int .i64 (-x1), .int .i64 (x0)], .int .i64 0]) ∧ Gr w w' := by
  have hb := hB
  simp only [Bool.and_eq_true, inB_iff] at hb
  obtain ⟨⟨d0, d1⟩, b0, b1⟩ := hb
  have HW := Lib.hid fun (k : Nat) (W : World) (hk : CxAt W k x0 x1) => (within_one k 2305843009213693952 x0 x1 (by decide) (by decide) W hk).mono fun e w' ⟨he, hg⟩ => (⟨by rw [he, hB], hg⟩ : e = Ending.returned (.bool true) ∧ Gr W w')
  clear hB
  go_enter Try.func58, Try.ntmps58
  go_wp2_with fail
  refine (HW.out _ _ ?_).mono ?_
  · exact ⟨by simp, by go_simp, by go_simp⟩
  rintro e w1 ⟨rfl, hg1⟩
  have gw1 : Gr w w1 := Gr.trans (by repeat (first | exact Gr.refl _ | apply Gr.alloc)) hg1
  obtain ⟨za, a0, a1⟩ : CxAt w1 w.heap.size x0 x1 := CxAt.gr ⟨by first | (simp; done) | (simp; omega), by go_simp, by go_simp⟩ hg1
  obtain ⟨z2, c0, c1⟩ : CxAt w1 (w.heap.size + 1) 0 0 := CxAt.gr ⟨by first | (simp; done) | (simp; omega), by go_simp, by go_simp⟩ hg1
  have e0 : w1.frozen? ⟨w.heap.size, 0, none⟩ = false := (hg1.frozen ⟨w.heap.size, 0, none⟩).trans (by go_simp)
  have e1 : w1.frozen? ⟨w.heap.size, 1, none⟩ = false := (hg1.frozen ⟨w.heap.size, 1, none⟩).trans (by go_simp)
  have f0 : w1.frozen? ⟨w.heap.size + 1, 0, none⟩ = false := (hg1.frozen ⟨w.heap.size + 1, 0, none⟩).trans (by go_simp)
  have f1 : w1.frozen? ⟨w.heap.size + 1, 1, none⟩ = false := (hg1.frozen ⟨w.heap.size + 1, 1, none⟩).trans (by go_simp)
  clear hg1
  go_wp2_with fail
  refine wp_loop_rounds 2 ?_
  rw [rounds_succ]
  go_wp2_with fail
  obtain ⟨v1, hW⟩ : ∃ u, u = (w1.setCell ⟨w.heap.size, 0, none⟩ (.int .i64 (-x1))).setCell ⟨w.heap.size, 1, none⟩ (.int .i64 (x0)) := ⟨_, rfl⟩
  rw [← hW]
  have zav1 : w.heap.size < v1.heap.size := by rw [hW]; simp; omega
  have zzv1 : w.heap.size + 1 < v1.heap.size := by rw [hW]; simp; omega
  have a0v1 : v1.cell? ⟨w.heap.size, 0, none⟩ = some (.int .i64 (-x1)) := by rw [hW]; go_simp
  have a1v1 : v1.cell? ⟨w.heap.size, 1, none⟩ = some (.int .i64 (x0)) := by rw [hW]; go_simp
  have c0v1 : v1.cell? ⟨w.heap.size + 1, 0, none⟩ = some (.int .i64 0) := by rw [hW]; go_simp
  have c1v1 : v1.cell? ⟨w.heap.size + 1, 1, none⟩ = some (.int .i64 0) := by rw [hW]; go_simp
  have e0v1 : v1.frozen? ⟨w.heap.size, 0, none⟩ = false := by rw [hW]; go_simp
  have e1v1 : v1.frozen? ⟨w.heap.size, 1, none⟩ = false := by rw [hW]; go_simp
  have f0v1 : v1.frozen? ⟨w.heap.size + 1, 0, none⟩ = false := by rw [hW]; go_simp
  have f1v1 : v1.frozen? ⟨w.heap.size + 1, 1, none⟩ = false := by rw [hW]; go_simp
  have gv1 : Gr w v1 := by rw [hW]; exact (gw1.setCell (by simp) _).setCell (by simp) _
  clear hW
  rw [rounds_succ]
  go_wp2_with fail
  refine bodyPost_ret (v := .tuple #[.agg #[.int .i64 (-x1), .int .i64 (x0)], .int .i64 0]) ?_ rfl ⟨rfl, ?_⟩
  · simp [results, Try.results58, go_sem, c0v1, c1v1]
  · exact ((gv1.setCell (by simp) _).setCell (by simp) _)

set_option maxHeartbeats 2000000 in
theorem cxturn_2 (x0 x1 n : Int) (hB : (inB 2305843009213693952 x0 && inB 2305843009213693952 x1) = true) (hn : bits .and .i64 n 3 = 2) (w : World) :
    Calls Try.prog 58 #[.agg #[.int .i64 x0, .int .i64 x1], .int .i64 n] w fun e w' => e = .returned (.tuple #[.agg #[.int .i64 (-x0), .int .i64 (-x1)], .int .i64 0]) ∧ Gr w w' := by
  have hb := hB
  simp only [Bool.and_eq_true, inB_iff] at hb
  obtain ⟨⟨d0, d1⟩, b0, b1⟩ := hb
  have HW := Lib.hid fun (k : Nat) (W : World) (hk : CxAt W k x0 x1) => (within_one k 2305843009213693952 x0 x1 (by decide) (by decide) W hk).mono fun e w' ⟨he, hg⟩ => (⟨by rw [he, hB], hg⟩ : e = Ending.returned (.bool true) ∧ Gr W w')
  clear hB
  go_enter Try.func58, Try.ntmps58
  go_wp2_with fail
  refine (HW.out _ _ ?_).mono ?_
  · exact ⟨by simp, by go_simp, by go_simp⟩
  rintro e w1 ⟨rfl, hg1⟩
  have gw1 : Gr w w1 := Gr.trans (by repeat (first | exact Gr.refl _ | apply Gr.alloc)) hg1
  obtain ⟨za, a0, a1⟩ : CxAt w1 w.heap.size x0 x1 := CxAt.gr ⟨by first | (simp; done) | (simp; omega), by go_simp, by go_simp⟩ hg1
  obtain ⟨z2, c0, c1⟩ : CxAt w1 (w.heap.size + 1) 0 0 := CxAt.gr ⟨by first | (simp; done) | (simp; omega), by go_simp, by go_simp⟩ hg1
  have e0 : w1.frozen? ⟨w.heap.size, 0, none⟩ = false := (hg1.frozen ⟨w.heap.size, 0, none⟩).trans (by go_simp)
  have e1 : w1.frozen? ⟨w.heap.size, 1, none⟩ = false := (hg1.frozen ⟨w.heap.size, 1, none⟩).trans (by go_simp)
  have f0 : w1.frozen? ⟨w.heap.size + 1, 0, none⟩ = false := (hg1.frozen ⟨w.heap.size + 1, 0, none⟩).trans (by go_simp)
  have f1 : w1.frozen? ⟨w.heap.size + 1, 1, none⟩ = false := (hg1.frozen ⟨w.heap.size + 1, 1, none⟩).trans (by go_simp)
  clear hg1
  go_wp2_with fail
  refine wp_loop_rounds 3 ?_
  rw [rounds_succ]
  go_wp2_with fail
  obtain ⟨v1, hW⟩ : ∃ u, u = (w1.setCell ⟨w.heap.size, 0, none⟩ (.int .i64 (-x1))).setCell ⟨w.heap.size, 1, none⟩ (.int .i64 (x0)) := ⟨_, rfl⟩
  rw [← hW]
  have zav1 : w.heap.size < v1.heap.size := by rw [hW]; simp; omega
  have zzv1 : w.heap.size + 1 < v1.heap.size := by rw [hW]; simp; omega
  have a0v1 : v1.cell? ⟨w.heap.size, 0, none⟩ = some (.int .i64 (-x1)) := by rw [hW]; go_simp
  have a1v1 : v1.cell? ⟨w.heap.size, 1, none⟩ = some (.int .i64 (x0)) := by rw [hW]; go_simp
  have c0v1 : v1.cell? ⟨w.heap.size + 1, 0, none⟩ = some (.int .i64 0) := by rw [hW]; go_simp
  have c1v1 : v1.cell? ⟨w.heap.size + 1, 1, none⟩ = some (.int .i64 0) := by rw [hW]; go_simp
  have e0v1 : v1.frozen? ⟨w.heap.size, 0, none⟩ = false := by rw [hW]; go_simp
  have e1v1 : v1.frozen? ⟨w.heap.size, 1, none⟩ = false := by rw [hW]; go_simp
  have f0v1 : v1.frozen? ⟨w.heap.size + 1, 0, none⟩ = false := by rw [hW]; go_simp
  have f1v1 : v1.frozen? ⟨w.heap.size + 1, 1, none⟩ = false := by rw [hW]; go_simp
  have gv1 : Gr w v1 := by rw [hW]; exact (gw1.setCell (by simp) _).setCell (by simp) _
  clear hW
  rw [rounds_succ]
  go_wp2_with fail
  obtain ⟨v2, hW⟩ : ∃ u, u = (v1.setCell ⟨w.heap.size, 0, none⟩ (.int .i64 (-x0))).setCell ⟨w.heap.size, 1, none⟩ (.int .i64 (-x1)) := ⟨_, rfl⟩
  rw [← hW]
  have zav2 : w.heap.size < v2.heap.size := by rw [hW]; simp; omega
  have zzv2 : w.heap.size + 1 < v2.heap.size := by rw [hW]; simp; omega
  have a0v2 : v2.cell? ⟨w.heap.size, 0, none⟩ = some (.int .i64 (-x0)) := by rw [hW]; go_simp
  have a1v2 : v2.cell? ⟨w.heap.size, 1, none⟩ = some (.int .i64 (-x1)) := by rw [hW]; go_simp
  have c0v2 : v2.cell? ⟨w.heap.size + 1, 0, none⟩ = some (.int .i64 0) := by rw [hW]; go_simp
  have c1v2 : v2.cell? ⟨w.heap.size + 1, 1, none⟩ = some (.int .i64 0) := by rw [hW]; go_simp
  have e0v2 : v2.frozen? ⟨w.heap.size, 0, none⟩ = false := by rw [hW]; go_simp
  have e1v2 : v2.frozen? ⟨w.heap.size, 1, none⟩ = false := by rw [hW]; go_simp
  have f0v2 : v2.frozen? ⟨w.heap.size + 1, 0, none⟩ = false := by rw [hW]; go_simp
  have f1v2 : v2.frozen? ⟨w.heap.size + 1, 1, none⟩ = false := by rw [hW]; go_simp
  have gv2 : Gr w v2 := by rw [hW]; exact (gv1.setCell (by simp) _).setCell (by simp) _
  clear hW
  rw [rounds_succ]
  go_wp2_with fail
  refine bodyPost_ret (v := .tuple #[.agg #[.int .i64 (-x0), .int .i64 (-x1)], .int .i64 0]) ?_ rfl ⟨rfl, ?_⟩
  · simp [results, Try.results58, go_sem, c0v2, c1v2]
  · exact ((gv2.setCell (by simp) _).setCell (by simp) _)

set_option maxHeartbeats 2000000 in
theorem cxturn_3 (x0 x1 n : Int) (hB : (inB 2305843009213693952 x0 && inB 2305843009213693952 x1) = true) (hn : bits .and .i64 n 3 = 3) (w : World) :
    Calls Try.prog 58 #[.agg #[.int .i64 x0, .int .i64 x1], .int .i64 n] w fun e w' => e = .returned (.tuple #[.agg #[.int .i64 (x1), .int .i64 (-x0)], .int .i64 0]) ∧ Gr w w' := by
  have hb := hB
  simp only [Bool.and_eq_true, inB_iff] at hb
  obtain ⟨⟨d0, d1⟩, b0, b1⟩ := hb
  have HW := Lib.hid fun (k : Nat) (W : World) (hk : CxAt W k x0 x1) => (within_one k 2305843009213693952 x0 x1 (by decide) (by decide) W hk).mono fun e w' ⟨he, hg⟩ => (⟨by rw [he, hB], hg⟩ : e = Ending.returned (.bool true) ∧ Gr W w')
  clear hB
  go_enter Try.func58, Try.ntmps58
  go_wp2_with fail
  refine (HW.out _ _ ?_).mono ?_
  · exact ⟨by simp, by go_simp, by go_simp⟩
  rintro e w1 ⟨rfl, hg1⟩
  have gw1 : Gr w w1 := Gr.trans (by repeat (first | exact Gr.refl _ | apply Gr.alloc)) hg1
  obtain ⟨za, a0, a1⟩ : CxAt w1 w.heap.size x0 x1 := CxAt.gr ⟨by first | (simp; done) | (simp; omega), by go_simp, by go_simp⟩ hg1
  obtain ⟨z2, c0, c1⟩ : CxAt w1 (w.heap.size + 1) 0 0 := CxAt.gr ⟨by first | (simp; done) | (simp; omega), by go_simp, by go_simp⟩ hg1
  have e0 : w1.frozen? ⟨w.heap.size, 0, none⟩ = false := (hg1.frozen ⟨w.heap.size, 0, none⟩).trans (by go_simp)
  have e1 : w1.frozen? ⟨w.heap.size, 1, none⟩ = false := (hg1.frozen ⟨w.heap.size, 1, none⟩).trans (by go_simp)
  have f0 : w1.frozen? ⟨w.heap.size + 1, 0, none⟩ = false := (hg1.frozen ⟨w.heap.size + 1, 0, none⟩).trans (by go_simp)
  have f1 : w1.frozen? ⟨w.heap.size + 1, 1, none⟩ = false := (hg1.frozen ⟨w.heap.size + 1, 1, none⟩).trans (by go_simp)
  clear hg1
  go_wp2_with fail
  refine wp_loop_rounds 4 ?_
  rw [rounds_succ]
  go_wp2_with fail
  obtain ⟨v1, hW⟩ : ∃ u, u = (w1.setCell ⟨w.heap.size, 0, none⟩ (.int .i64 (-x1))).setCell ⟨w.heap.size, 1, none⟩ (.int .i64 (x0)) := ⟨_, rfl⟩
  rw [← hW]
  have zav1 : w.heap.size < v1.heap.size := by rw [hW]; simp; omega
  have zzv1 : w.heap.size + 1 < v1.heap.size := by rw [hW]; simp; omega
  have a0v1 : v1.cell? ⟨w.heap.size, 0, none⟩ = some (.int .i64 (-x1)) := by rw [hW]; go_simp
  have a1v1 : v1.cell? ⟨w.heap.size, 1, none⟩ = some (.int .i64 (x0)) := by rw [hW]; go_simp
  have c0v1 : v1.cell? ⟨w.heap.size + 1, 0, none⟩ = some (.int .i64 0) := by rw [hW]; go_simp
  have c1v1 : v1.cell? ⟨w.heap.size + 1, 1, none⟩ = some (.int .i64 0) := by rw [hW]; go_simp
  have e0v1 : v1.frozen? ⟨w.heap.size, 0, none⟩ = false := by rw [hW]; go_simp
  have e1v1 : v1.frozen? ⟨w.heap.size, 1, none⟩ = false := by rw [hW]; go_simp
  have f0v1 : v1.frozen? ⟨w.heap.size + 1, 0, none⟩ = false := by rw [hW]; go_simp
  have f1v1 : v1.frozen? ⟨w.heap.size + 1, 1, none⟩ = false := by rw [hW]; go_simp
  have gv1 : Gr w v1 := by rw [hW]; exact (gw1.setCell (by simp) _).setCell (by simp) _
  clear hW
  rw [rounds_succ]
  go_wp2_with fail
  obtain ⟨v2, hW⟩ : ∃ u, u = (v1.setCell ⟨w.heap.size, 0, none⟩ (.int .i64 (-x0))).setCell ⟨w.heap.size, 1, none⟩ (.int .i64 (-x1)) := ⟨_, rfl⟩
  rw [← hW]
  have zav2 : w.heap.size < v2.heap.size := by rw [hW]; simp; omega
  have zzv2 : w.heap.size + 1 < v2.heap.size := by rw [hW]; simp; omega
  have a0v2 : v2.cell? ⟨w.heap.size, 0, none⟩ = some (.int .i64 (-x0)) := by rw [hW]; go_simp
  have a1v2 : v2.cell? ⟨w.heap.size, 1, none⟩ = some (.int .i64 (-x1)) := by rw [hW]; go_simp
  have c0v2 : v2.cell? ⟨w.heap.size + 1, 0, none⟩ = some (.int .i64 0) := by rw [hW]; go_simp
  have c1v2 : v2.cell? ⟨w.heap.size + 1, 1, none⟩ = some (.int .i64 0) := by rw [hW]; go_simp
  have e0v2 : v2.frozen? ⟨w.heap.size, 0, none⟩ = false := by rw [hW]; go_simp
  have e1v2 : v2.frozen? ⟨w.heap.size, 1, none⟩ = false := by rw [hW]; go_simp
  have f0v2 : v2.frozen? ⟨w.heap.size + 1, 0, none⟩ = false := by rw [hW]; go_simp
  have f1v2 : v2.frozen? ⟨w.heap.size + 1, 1, none⟩ = false := by rw [hW]; go_simp
  have gv2 : Gr w v2 := by rw [hW]; exact (gv1.setCell (by simp) _).setCell (by simp) _
  clear hW
  rw [rounds_succ]
  go_wp2_with fail
  obtain ⟨v3, hW⟩ : ∃ u, u = (v2.setCell ⟨w.heap.size, 0, none⟩ (.int .i64 (x1))).setCell ⟨w.heap.size, 1, none⟩ (.int .i64 (-x0)) := ⟨_, rfl⟩
  rw [← hW]
  have zav3 : w.heap.size < v3.heap.size := by rw [hW]; simp; omega
  have zzv3 : w.heap.size + 1 < v3.heap.size := by rw [hW]; simp; omega
  have a0v3 : v3.cell? ⟨w.heap.size, 0, none⟩ = some (.int .i64 (x1)) := by rw [hW]; go_simp
  have a1v3 : v3.cell? ⟨w.heap.size, 1, none⟩ = some (.int .i64 (-x0)) := by rw [hW]; go_simp
  have c0v3 : v3.cell? ⟨w.heap.size + 1, 0, none⟩ = some (.int .i64 0) := by rw [hW]; go_simp
  have c1v3 : v3.cell? ⟨w.heap.size + 1, 1, none⟩ = some (.int .i64 0) := by rw [hW]; go_simp
  have e0v3 : v3.frozen? ⟨w.heap.size, 0, none⟩ = false := by rw [hW]; go_simp
  have e1v3 : v3.frozen? ⟨w.heap.size, 1, none⟩ = false := by rw [hW]; go_simp
  have f0v3 : v3.frozen? ⟨w.heap.size + 1, 0, none⟩ = false := by rw [hW]; go_simp
  have f1v3 : v3.frozen? ⟨w.heap.size + 1, 1, none⟩ = false := by rw [hW]; go_simp
  have gv3 : Gr w v3 := by rw [hW]; exact (gv2.setCell (by simp) _).setCell (by simp) _
  clear hW
  rw [rounds_succ]
  go_wp2_with fail
  refine bodyPost_ret (v := .tuple #[.agg #[.int .i64 (x1), .int .i64 (-x0)], .int .i64 0]) ?_ rfl ⟨rfl, ?_⟩
  · simp [results, Try.results58, go_sem, c0v3, c1v3]
  · exact ((gv3.setCell (by simp) _).setCell (by simp) _)

theorem cxturn_bad (x0 x1 n : Int) (hB : (inB 2305843009213693952 x0 && inB 2305843009213693952 x1) = false) (w : World) :
    Calls Try.prog 58 #[.agg #[.int .i64 x0, .int .i64 x1], .int .i64 n] w fun e w' => e = .returned (.tuple #[.agg #[.int .i64 0, .int .i64 0], .int .i64 2]) ∧ Gr w w' := by
  have HW := Lib.hid fun (k : Nat) (W : World) (hk : CxAt W k x0 x1) => (within_one k 2305843009213693952 x0 x1 (by decide) (by decide) W hk).mono fun e w' ⟨he, hg⟩ => (⟨by rw [he, hB], hg⟩ : e = Ending.returned (.bool false) ∧ Gr W w')
  clear hB
  go_enter Try.func58, Try.ntmps58
  go_wp2_with fail
  refine (HW.out _ _ ?_).mono ?_
  · exact ⟨by simp, by go_simp, by go_simp⟩
  rintro e w1 ⟨rfl, hg1⟩
  obtain ⟨z2, c0, c1⟩ : CxAt w1 (w.heap.size + 1) 0 0 := CxAt.gr ⟨by first | (simp; done) | (simp; omega), by go_simp, by go_simp⟩ hg1
  have f0 : w1.frozen? ⟨w.heap.size + 1, 0, none⟩ = false := (hg1.frozen ⟨w.heap.size + 1, 0, none⟩).trans (by go_simp)
  have f1 : w1.frozen? ⟨w.heap.size + 1, 1, none⟩ = false := (hg1.frozen ⟨w.heap.size + 1, 1, none⟩).trans (by go_simp)
  go_wp2
  refine bodyPost_ret (v := .tuple #[.agg #[.int .i64 0, .int .i64 0], .int .i64 2]) ?_ rfl ⟨rfl, ?_⟩
  · simp [results, Try.results58, go_sem, c0, c1]
  · exact ((Gr.trans (by repeat (first | exact Gr.refl _ | apply Gr.alloc)) hg1).setCell (by first | (simp; done) | (simp; omega)) _).setCell (by first | (simp; done) | (simp; omega)) _

theorem mul_bd (p q a m : Int) (hp : 0 ≤ p) (hq : 0 ≤ q) (a0 : -p ≤ a) (a1 : a ≤ p) (m0 : -q ≤ m) (m1 : m ≤ q) : -(p * q) ≤ a * m ∧ a * m ≤ p * q := by
  have h1 : 0 ≤ (p - a) * (q + m) := Int.mul_nonneg (by omega) (by omega)
  have h2 : 0 ≤ (p + a) * (q - m) := Int.mul_nonneg (by omega) (by omega)
  have h3 : 0 ≤ (p - a) * (q - m) := Int.mul_nonneg (by omega) (by omega)
  have h4 : 0 ≤ (p + a) * (q + m) := Int.mul_nonneg (by omega) (by omega)
  simp only [Int.sub_mul, Int.add_mul, Int.mul_sub, Int.mul_add] at h1 h2 h3 h4
  omega

theorem u64_in (n : Int) (h0 : 0 ≤ n) (h1 : n ≤ 18446744073709551615) : IntKind.u64.wrap n = n := by
  simp [IntKind.wrap, IntKind.bits, IntKind.signed]
  omega

theorem sq_nonneg (x : Int) : 0 ≤ x * x := by
  rcases Int.le_total 0 x with h | h
  · exact Int.mul_nonneg h h
  · exact Int.mul_nonneg_of_nonpos_of_nonpos h h

end Go.Proofs.Ytbdglbpkbpedoaa

namespace Go.Proofs.Ytbdglbpkbpedoaa
open Go.ChangeShapes Go.WideShapes Go.ChangeAt Go.RowKit
set_option linter.unusedVariables false

theorem enters_shift1 : Enters 75 := enters_of Try.func75 (by kernel_rfl) (by kernel_rfl)

theorem cxshift_ok (x0 x1 s mo : Int) (wx : -9223372036854775808 ≤ x0 ∧ x0 ≤ 9223372036854775807) (wy : -9223372036854775808 ≤ x1 ∧ x1 ≤ 9223372036854775807) (s0 : 0 ≤ s) (s1 : s ≤ 62) (m0 : 0 ≤ mo) (m1 : mo ≤ 2) (w : World) :
    Calls Try.prog 57 #[.agg #[.int .i64 x0, .int .i64 x1], .int .i64 s, .int .i64 mo] w fun e w' => e = .returned (.tuple #[.agg #[.int .i64 (rnd x0 s.toNat mo), .int .i64 (rnd x1 s.toNat mo)], .int .i64 0]) ∧ Gr w w' := by
  have HS := Lib.hid (shift_ok 0 s mo (by omega) s0 s1 m0 m1)
  have HN := Lib.hid fun (p q m : Nat) (W : World) (hp : CxAt W p x0 x1) (hq : W.cell? ⟨q, 0, none⟩ = some (.int .i64 s)) (lq : q < W.heap.size) (hm : W.cell? ⟨m, 0, none⟩ = some (.int .i64 mo)) (lm : m < W.heap.size) =>
    numberOf_c 75 #[.pointer (some ⟨p, 0, none⟩), .pointer (some ⟨q, 0, none⟩), .pointer (some ⟨m, 0, none⟩)] (rnd x0 s.toNat mo) (rnd x1 s.toNat mo) W enters_shift1
    (Lib.hid fun V gv => shift1_re p q m x0 x1 s mo V (hp.gr gv) ((gv.cell (p := ⟨q, 0, none⟩) lq).trans hq) (Nat.lt_of_lt_of_le lq gv.size) ((gv.cell (p := ⟨m, 0, none⟩) lm).trans hm) (Nat.lt_of_lt_of_le lm gv.size) wx s0 s1 m0 m1)
    (Lib.hid fun V gv => shift1_im p q m x0 x1 s mo V (hp.gr gv) ((gv.cell (p := ⟨q, 0, none⟩) lq).trans hq) (Nat.lt_of_lt_of_le lq gv.size) ((gv.cell (p := ⟨m, 0, none⟩) lm).trans hm) (Nat.lt_of_lt_of_le lm gv.size) wy s0 s1 m0 m1)
  generalize rnd 0 s.toNat mo = r at HS
  generalize rnd x0 s.toNat mo = r0 at HN ⊢
  generalize rnd x1 s.toNat mo = r1 at HN ⊢
  clear wx wy s0 s1 m0 m1
  go_enter Try.func57, Try.ntmps57
  go_wp2_with fail
  refine (HS.out _).mono ?_
  rintro e w1 ⟨rfl, hg1⟩
  have ca : CxAt w1 w.heap.size x0 x1 := CxAt.gr ⟨by first | (simp; done) | (simp; omega), by go_simp, by go_simp⟩ hg1
  have cs : w1.cell? ⟨w.heap.size + 1, 0, none⟩ = some (.int .i64 s) := (hg1.cell (p := ⟨w.heap.size + 1, 0, none⟩) (by first | (simp; done) | (simp; omega))).trans (by go_simp)
  have cm : w1.cell? ⟨w.heap.size + 1 + 1, 0, none⟩ = some (.int .i64 mo) := (hg1.cell (p := ⟨w.heap.size + 1 + 1, 0, none⟩) (by first | (simp; done) | (simp; omega))).trans (by go_simp)
  have cr : CxAt w1 (w.heap.size + 1 + 1 + 1) 0 0 := CxAt.gr ⟨by first | (simp; done) | (simp; omega), by go_simp, by go_simp⟩ hg1
  have FR := Lib.hid fun j => ((hg1.frozen ⟨w.heap.size + 1 + 1 + 1, j, none⟩).trans (by go_simp) : w1.frozen? ⟨w.heap.size + 1 + 1 + 1, j, none⟩ = false)
  have zz := cr.lt
  go_wp2_with fail
  refine (HN.out _ _ _ _ ca cs (by omega) cm (by omega)).mono ?_
  rintro e w2 ⟨rfl, hg2⟩
  have cr2 := cr.gr hg2
  have f0 := (hg2.frozen ⟨w.heap.size + 1 + 1 + 1, 0, none⟩ cr.lt).trans (FR.out 0)
  have f1 := (hg2.frozen ⟨w.heap.size + 1 + 1 + 1, 1, none⟩ cr.lt).trans (FR.out 1)
  obtain ⟨z2, c0, c1⟩ := cr2
  go_wp2
  refine bodyPost_ret (v := .tuple #[.agg #[.int .i64 r0, .int .i64 r1], .int .i64 0]) ?_ rfl ⟨rfl, ?_⟩
  · simp [results, Try.results57, go_sem, c0, c1]
  · exact (((Gr.trans (by repeat (first | exact Gr.refl _ | apply Gr.alloc)) hg1).trans hg2).setCell (by first | (simp; done) | (simp; omega)) _).setCell (by first | (simp; done) | (simp; omega)) _

theorem cxshift_bad (x0 x1 s mo : Int) (h : (mo < 0 ∨ 2 < mo) ∨ s < 0 ∨ 62 < s) (w : World) :
    Calls Try.prog 57 #[.agg #[.int .i64 x0, .int .i64 x1], .int .i64 s, .int .i64 mo] w fun e w' => e = .returned (.tuple #[.agg #[.int .i64 0, .int .i64 0], .int .i64 1]) ∧ Gr w w' := by
  have HS := Lib.hid (shift_bad 0 s mo h)
  clear h
  go_enter Try.func57, Try.ntmps57
  go_wp2_with fail
  refine (HS.out _).mono ?_
  rintro e w1 ⟨rfl, hg1⟩
  obtain ⟨z2, c0, c1⟩ : CxAt w1 (w.heap.size + 1 + 1 + 1) 0 0 := CxAt.gr ⟨by first | (simp; done) | (simp; omega), by go_simp, by go_simp⟩ hg1
  have f0 : w1.frozen? ⟨w.heap.size + 1 + 1 + 1, 0, none⟩ = false := (hg1.frozen ⟨w.heap.size + 1 + 1 + 1, 0, none⟩).trans (by go_simp)
  have f1 : w1.frozen? ⟨w.heap.size + 1 + 1 + 1, 1, none⟩ = false := (hg1.frozen ⟨w.heap.size + 1 + 1 + 1, 1, none⟩).trans (by go_simp)
  go_wp2
  refine bodyPost_ret (v := .tuple #[.agg #[.int .i64 0, .int .i64 0], .int .i64 1]) ?_ rfl ⟨rfl, ?_⟩
  · simp [results, Try.results57, go_sem, c0, c1]
  · exact ((Gr.trans (by repeat (first | exact Gr.refl _ | apply Gr.alloc)) hg1).setCell (by first | (simp; done) | (simp; omega)) _).setCell (by first | (simp; done) | (simp; omega)) _

end Go.Proofs.Ytbdglbpkbpedoaa

namespace Go.Proofs.Ytbdglbpkbpedoaa
open Go.ChangeShapes Go.WideShapes Go.ChangeAt Go.RowKit
set_option linter.unusedVariables false

theorem rpow61 (w : World) : Calls Try.prog 44 #[.int .i64 61] w fun e w' => e = .returned (.int .i64 2305843009213693952) ∧ w' = w := pow_c 61 (by decide) (by decide) w
theorem rpow31 (w : World) : Calls Try.prog 44 #[.int .i64 31] w fun e w' => e = .returned (.int .i64 2147483648) ∧ w' = w := pow_c 31 (by decide) (by decide) w
theorem rpow30 (w : World) : Calls Try.prog 44 #[.int .i64 30] w fun e w' => e = .returned (.int .i64 1073741824) ∧ w' = w := pow_c 30 (by decide) (by decide) w

theorem rconj_c (x0 x1 r1 : Int) (h1 : wrap64 (-x1) = r1) (w : World) :
    Calls Try.prog 66 #[.agg #[.int .i64 x0, .int .i64 x1]] w fun e w' => e = .returned (.agg #[.int .i64 x0, .int .i64 r1]) ∧ Gr w w' := by
  go_enter Try.func66, Try.ntmps66
  go_wp2
  refine bodyPost_ret (v := .agg #[.int .i64 x0, .int .i64 r1]) ?_ rfl ⟨rfl, ?_⟩
  · simp [results, Try.results66, go_sem]
  · exact by repeat (first | exact Gr.refl _ | assumption | apply Gr.drew | apply Gr.alloc | (refine Gr.setCell ?_ (by first | (simp; done) | (simp; omega)) _))

theorem rturn_0 (x0 x1 n t : Int) (q0 q1 : Int) (h0 : wrap64 (-x0) = q0) (h1 : wrap64 (-x1) = q1) (ht : n.tmod 4 = t) (h : t = 0) (w : World) :
    Calls Try.prog 67 #[.agg #[.int .i64 x0, .int .i64 x1], .int .i64 n] w fun e w' => e = .returned (.agg #[.int .i64 x0, .int .i64 x1]) ∧ Gr w w' := by
  obtain rfl := h
  all_goals
    go_enter Try.func67, Try.ntmps67
    go_wp2
    refine bodyPost_ret (v := .agg #[.int .i64 x0, .int .i64 x1]) ?_ rfl ⟨rfl, ?_⟩
    · simp [results, Try.results67, go_sem]
    · exact by repeat (first | exact Gr.refl _ | assumption | apply Gr.drew | apply Gr.alloc | (refine Gr.setCell ?_ (by first | (simp; done) | (simp; omega)) _))

theorem rturn_1 (x0 x1 n t : Int) (q0 q1 : Int) (h0 : wrap64 (-x0) = q0) (h1 : wrap64 (-x1) = q1) (ht : n.tmod 4 = t) (h : t = 1 ∨ t = -3) (w : World) :
    Calls Try.prog 67 #[.agg #[.int .i64 x0, .int .i64 x1], .int .i64 n] w fun e w' => e = .returned (.agg #[.int .i64 q1, .int .i64 x0]) ∧ Gr w w' := by
  rcases h with rfl | rfl
  all_goals
    go_enter Try.func67, Try.ntmps67
    go_wp2
    refine bodyPost_ret (v := .agg #[.int .i64 q1, .int .i64 x0]) ?_ rfl ⟨rfl, ?_⟩
    · simp [results, Try.results67, go_sem]
    · exact by repeat (first | exact Gr.refl _ | assumption | apply Gr.drew | apply Gr.alloc | (refine Gr.setCell ?_ (by first | (simp; done) | (simp; omega)) _))

theorem rturn_2 (x0 x1 n t : Int) (q0 q1 : Int) (h0 : wrap64 (-x0) = q0) (h1 : wrap64 (-x1) = q1) (ht : n.tmod 4 = t) (h : t = 2 ∨ t = -2) (w : World) :
    Calls Try.prog 67 #[.agg #[.int .i64 x0, .int .i64 x1], .int .i64 n] w fun e w' => e = .returned (.agg #[.int .i64 q0, .int .i64 q1]) ∧ Gr w w' := by
  rcases h with rfl | rfl
  all_goals
    go_enter Try.func67, Try.ntmps67
    go_wp2
    refine bodyPost_ret (v := .agg #[.int .i64 q0, .int .i64 q1]) ?_ rfl ⟨rfl, ?_⟩
    · simp [results, Try.results67, go_sem]
    · exact by repeat (first | exact Gr.refl _ | assumption | apply Gr.drew | apply Gr.alloc | (refine Gr.setCell ?_ (by first | (simp; done) | (simp; omega)) _))

theorem rturn_3 (x0 x1 n t : Int) (q0 q1 : Int) (h0 : wrap64 (-x0) = q0) (h1 : wrap64 (-x1) = q1) (ht : n.tmod 4 = t) (h : t = 3 ∨ t = -1) (w : World) :
    Calls Try.prog 67 #[.agg #[.int .i64 x0, .int .i64 x1], .int .i64 n] w fun e w' => e = .returned (.agg #[.int .i64 x1, .int .i64 q0]) ∧ Gr w w' := by
  rcases h with rfl | rfl
  all_goals
    go_enter Try.func67, Try.ntmps67
    go_wp2
    refine bodyPost_ret (v := .agg #[.int .i64 x1, .int .i64 q0]) ?_ rfl ⟨rfl, ?_⟩
    · simp [results, Try.results67, go_sem]
    · exact by repeat (first | exact Gr.refl _ | assumption | apply Gr.drew | apply Gr.alloc | (refine Gr.setCell ?_ (by first | (simp; done) | (simp; omega)) _))

end Go.Proofs.Ytbdglbpkbpedoaa

namespace Go.Proofs.Ytbdglbpkbpedoaa
open Go.ChangeShapes Go.WideShapes Go.ChangeAt Go.RowKit
set_option linter.unusedVariables false

theorem tmod4 (n : Int) : (n.tmod 4 = n % 4) ∨ (n.tmod 4 = n % 4 - 4 ∧ n % 4 ≠ 0) := by
  rcases Int.le_total 0 n with h | h
  · exact .inl (Int.tmod_eq_emod_of_nonneg h)
  · have e : n.tmod 4 = -((-n) % 4) := by
      rw [← Int.tmod_eq_emod_of_nonneg (show 0 ≤ -n by omega), Int.neg_tmod, Int.neg_neg]
    omega

theorem and3 (n : Int) : bits .and .i64 n 3 = n % 4 := bits_mask n 2 (by omega)

theorem turn_both (x0 x1 n : Int) (hB : (inB 2305843009213693952 x0 && inB 2305843009213693952 x1) = true) : ∃ t0 t1 : Int,
    (∀ W, Calls Try.prog 58 #[.agg #[.int .i64 x0, .int .i64 x1], .int .i64 n] W fun e w' => e = .returned (.tuple #[.agg #[.int .i64 t0, .int .i64 t1], .int .i64 0]) ∧ Gr W w') ∧
    (∀ W, Calls Try.prog 67 #[.agg #[.int .i64 x0, .int .i64 x1], .int .i64 n] W fun e w' => e = .returned (.agg #[.int .i64 t0, .int .i64 t1]) ∧ Gr W w') := by
  have hb := hB
  simp only [Bool.and_eq_true, inB_iff] at hb
  have h0 : wrap64 (-x0) = -x0 := IntWalk.wrap64_in _ (by omega)
  have h1 : wrap64 (-x1) = -x1 := IntWalk.wrap64_in _ (by omega)
  have hm : n % 4 = 0 ∨ n % 4 = 1 ∨ n % 4 = 2 ∨ n % 4 = 3 := by omega
  have ht := tmod4 n
  have ha := and3 n
  rcases hm with hm | hm | hm | hm <;> rw [hm] at ha ht
  · exact ⟨_, _, fun W => cxturn_0 x0 x1 n hB ha W, fun W => rturn_0 x0 x1 n _ _ _ h0 h1 rfl (by omega) W⟩
  · exact ⟨_, _, fun W => cxturn_1 x0 x1 n hB ha W, fun W => rturn_1 x0 x1 n _ _ _ h0 h1 rfl (by omega) W⟩
  · exact ⟨_, _, fun W => cxturn_2 x0 x1 n hB ha W, fun W => rturn_2 x0 x1 n _ _ _ h0 h1 rfl (by omega) W⟩
  · exact ⟨_, _, fun W => cxturn_3 x0 x1 n hB ha W, fun W => rturn_3 x0 x1 n _ _ _ h0 h1 rfl (by omega) W⟩

theorem rturn_any (x0 x1 n : Int) : ∃ t0 t1 : Int,
    ∀ W, Calls Try.prog 67 #[.agg #[.int .i64 x0, .int .i64 x1], .int .i64 n] W fun e w' => e = .returned (.agg #[.int .i64 t0, .int .i64 t1]) ∧ Gr W w' := by
  have hm : n % 4 = 0 ∨ n % 4 = 1 ∨ n % 4 = 2 ∨ n % 4 = 3 := by omega
  have ht := tmod4 n
  rcases hm with hm | hm | hm | hm <;> rw [hm] at ht
  · exact ⟨_, _, fun W => rturn_0 x0 x1 n _ _ _ rfl rfl rfl (by omega) W⟩
  · exact ⟨_, _, fun W => rturn_1 x0 x1 n _ _ _ rfl rfl rfl (by omega) W⟩
  · exact ⟨_, _, fun W => rturn_2 x0 x1 n _ _ _ rfl rfl rfl (by omega) W⟩
  · exact ⟨_, _, fun W => rturn_3 x0 x1 n _ _ _ rfl rfl rfl (by omega) W⟩

theorem times_bd (x0 x1 y0 y1 : Int) (hB : (((inB 2147483648 x0 && inB 2147483648 x1) && (inB 1073741824 y0 && inB 1073741824 y1)) || ((inB 2147483648 y0 && inB 2147483648 y1) && (inB 1073741824 x0 && inB 1073741824 x1))) = true) : (-2305843009213693952 ≤ x0 * y0 ∧ x0 * y0 ≤ 2305843009213693952) ∧ (-2305843009213693952 ≤ x1 * y1 ∧ x1 * y1 ≤ 2305843009213693952) ∧ (-2305843009213693952 ≤ x0 * y1 ∧ x0 * y1 ≤ 2305843009213693952) ∧ (-2305843009213693952 ≤ x1 * y0 ∧ x1 * y0 ≤ 2305843009213693952) := by
  have h := hB
  simp only [Bool.or_eq_true, Bool.and_eq_true, inB_iff] at h
  rcases h with ⟨⟨⟨a0, a1⟩, b0, b1⟩, ⟨c0, c1⟩, d0, d1⟩ | ⟨⟨⟨c0, c1⟩, d0, d1⟩, ⟨a0, a1⟩, b0, b1⟩
  · exact ⟨mul_bd 2147483648 1073741824 x0 y0 (by decide) (by decide) a0 a1 c0 c1, mul_bd 2147483648 1073741824 x1 y1 (by decide) (by decide) b0 b1 d0 d1, mul_bd 2147483648 1073741824 x0 y1 (by decide) (by decide) a0 a1 d0 d1, mul_bd 2147483648 1073741824 x1 y0 (by decide) (by decide) b0 b1 c0 c1⟩
  · exact ⟨mul_bd 1073741824 2147483648 x0 y0 (by decide) (by decide) a0 a1 c0 c1, mul_bd 1073741824 2147483648 x1 y1 (by decide) (by decide) b0 b1 d0 d1, mul_bd 1073741824 2147483648 x0 y1 (by decide) (by decide) a0 a1 d0 d1, mul_bd 1073741824 2147483648 x1 y0 (by decide) (by decide) b0 b1 c0 c1⟩

end Go.Proofs.Ytbdglbpkbpedoaa
