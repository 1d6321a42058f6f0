import Derived.Test.YtdignnmpfkgkoaaGreatRealBinsS6
namespace Go.Proofs.YtdignnmpfkgkoaaGreat
section
open Go.ChangeShapes Go.WideShapes Go.ChangeAt Go.RowKit
set_option linter.unusedVariables false
set_option maxRecDepth 100000
set_option maxHeartbeats 16000000
theorem within1_one (p : Nat) (HE : Enters p) (pn pl k : Nat) (l x00 x01 v0 : Int) (w : World) (HP0 : CR p #[.agg #[x00, x01]] (.int .i64 v0))
 (hn : w.cell? ⟨pn, 0, none⟩ = some (.slice (some ⟨k, 0, none⟩) 1 1)) (ln : pn < w.heap.size) (hlw : w.cell? ⟨pl, 0, none⟩ = some (.int .i64 l)) (llw : pl < w.heap.size)
 (lk : k < w.heap.size) (c00 : w.cell? ⟨k, 0, none⟩ = some (.int .i64 x00)) (c01 : w.cell? ⟨k, 1, none⟩ = some (.int .i64 x01)) (l0 : 0 ≤ l) (l1 : l ≤ 4611686018427387904) :
 CW 190 #[.func (.func p) #[] #[], .pointer (some ⟨pn, 0, none⟩), .pointer (some ⟨pl, 0, none⟩)] w (.bool (inB l v0)) :=by
 delta CW
 by_cases a : v0 < -l
 ·rw [inB_false (.inl a)]
  exact within1_1_l p HE pn pl k l x00 x01 v0 w HP0 hn ln hlw llw lk c00 c01 l0 l1 (decide_eq_true a)
 ·by_cases b : l < v0
  ·rw [inB_false (.inr b)]
   exact within1_1_h p HE pn pl k l x00 x01 v0 w HP0 hn ln hlw llw lk c00 c01 l0 l1 (decide_eq_false a) (decide_eq_true b)
  ·rw [inB_true (by omega) (by omega)]
   exact within1_1_o p HE pn pl k l x00 x01 v0 w HP0 hn ln hlw llw lk c00 c01 l0 l1 (decide_eq_false a) (decide_eq_false b)
theorem within1_two (p : Nat) (HE : Enters p) (pn pl k : Nat) (l x00 x01 v0 x10 x11 v1 : Int) (w : World) (HP0 : CR p #[.agg #[x00, x01]] (.int .i64 v0))
 (HP1 : CR p #[.agg #[x10, x11]] (.int .i64 v1))
 (hn : w.cell? ⟨pn, 0, none⟩ = some (.slice (some ⟨k, 0, none⟩) 2 2)) (ln : pn < w.heap.size) (hlw : w.cell? ⟨pl, 0, none⟩ = some (.int .i64 l)) (llw : pl < w.heap.size)
 (lk : k < w.heap.size) (c00 : w.cell? ⟨k, 0, none⟩ = some (.int .i64 x00)) (c01 : w.cell? ⟨k, 1, none⟩ = some (.int .i64 x01)) (c10 : w.cell? ⟨k, 2, none⟩ = some (.int .i64 x10)) (c11 : w.cell? ⟨k, 3, none⟩ = some (.int .i64 x11)) (l0 : 0 ≤ l) (l1 : l ≤ 4611686018427387904) :
 CW 190 #[.func (.func p) #[] #[], .pointer (some ⟨pn, 0, none⟩), .pointer (some ⟨pl, 0, none⟩)] w (.bool (inB l v0 && inB l v1)) :=by
 delta CW
 by_cases a : v0 < -l
 ·rw [inB_false (.inl a)]
  exact within1_2_l p HE pn pl k l x00 x01 v0 x10 x11 v1 w HP0 HP1 hn ln hlw llw lk c00 c01 c10 c11 l0 l1 (decide_eq_true a)
 ·by_cases b : l < v0
  ·rw [inB_false (.inr b)]
   exact within1_2_h p HE pn pl k l x00 x01 v0 x10 x11 v1 w HP0 HP1 hn ln hlw llw lk c00 c01 c10 c11 l0 l1 (decide_eq_false a) (decide_eq_true b)
  ·rw [inB_true (show -l ≤ v0 by omega) (by omega)]
   by_cases a1 : v1 < -l
   ·rw [inB_false (.inl a1)]
    exact within1_2_ol p HE pn pl k l x00 x01 v0 x10 x11 v1 w HP0 HP1 hn ln hlw llw lk c00 c01 c10 c11 l0 l1 (decide_eq_false a) (decide_eq_false b) (decide_eq_true a1)
   ·by_cases b1 : l < v1
    ·rw [inB_false (.inr b1)]
     exact within1_2_oh p HE pn pl k l x00 x01 v0 x10 x11 v1 w HP0 HP1 hn ln hlw llw lk c00 c01 c10 c11 l0 l1 (decide_eq_false a) (decide_eq_false b) (decide_eq_false a1) (decide_eq_true b1)
    ·rw [inB_true (by omega) (by omega)]
     exact within1_2_oo p HE pn pl k l x00 x01 v0 x10 x11 v1 w HP0 HP1 hn ln hlw llw lk c00 c01 c10 c11 l0 l1 (decide_eq_false a) (decide_eq_false b) (decide_eq_false a1) (decide_eq_false b1)
theorem enters_re : Enters 211 := enters_of Tryz.func211 (by kernel_rfl) (by kernel_rfl)
theorem enters_im : Enters 212 := enters_of Tryz.func212 (by kernel_rfl) (by kernel_rfl)
theorem enters_within1 : Enters 190 := enters_of Tryz.func190 (by kernel_rfl) (by kernel_rfl)
theorem within_one (k : Nat) (l x0 x1 : Int) (l0 : 0 ≤ l) (l1 : l ≤ 4611686018427387904) (w : World) (hk : CxAt w k x0 x1) :
 CW 160 #[l, .slice (some ⟨k, 0, none⟩) 1 1] w (.bool (inB l x0 && inB l x1)) :=by
 delta CW
 have HB := kh fun (W : World) (pn pl : Nat) (hn : W.cell? ⟨pn, 0, none⟩ = some (.slice (some ⟨k, 0, none⟩) 1 1)) (ln : pn < W.heap.size) (hl : W.cell? ⟨pl, 0, none⟩ = some (.int .i64 l)) (ll : pl < W.heap.size) (g : Gr w W) =>
  both_bool 190 #[.pointer (some ⟨pn, 0, none⟩), .pointer (some ⟨pl, 0, none⟩)] (inB l x0) (inB l x1) W enters_within1
   (kh fun V gv => within1_one 211 enters_re pn pl k l x0 x1 x0 V (kh (re_g x0 x1)) ((gv.cell (p := ⟨pn, 0, none⟩) ln).trans hn) (Nat.lt_of_lt_of_le ln gv.size) ((gv.cell (p := ⟨pl, 0, none⟩) ll).trans hl) (Nat.lt_of_lt_of_le ll gv.size) ((hk.gr g).gr gv).lt ((hk.gr g).gr gv).c0 ((hk.gr g).gr gv).c1 l0 l1)
   (kh fun V gv => within1_one 212 enters_im pn pl k l x0 x1 x1 V (kh (im_g x0 x1)) ((gv.cell (p := ⟨pn, 0, none⟩) ln).trans hn) (Nat.lt_of_lt_of_le ln gv.size) ((gv.cell (p := ⟨pl, 0, none⟩) ll).trans hl) (Nat.lt_of_lt_of_le ll gv.size) ((hk.gr g).gr gv).lt ((hk.gr g).gr gv).c0 ((hk.gr g).gr gv).c1 l0 l1)
 generalize inB l x0 = X at HB ⊢
 generalize inB l x1 = Y at HB ⊢
 clear hk l0 l1
 cases X <;> cases Y
 all_goals
  go_in;go_wp2_with fail;refine (HB.out _ _ _ ?_ ?_ ?_ ?_ ?_).mono ?_
  ·go_simp
  ·simp
  ·go_simp
  ·simp; omega
  ·exact ((Gr.refl w).alloc _ _).alloc _ _
  ·rintro e w1 ⟨rfl, hg⟩
   go_wp2
   go_ret
   exact ⟨rfl, Gr.trans (by repeat (first | exact Gr.refl _ | assumption | apply Gr.drew | apply Gr.alloc)) hg⟩
structure CxAt2 (w : World) (p : Nat) (x y x' y' : Int) : Prop where
 lt : p < w.heap.size
 c0 : w.cell? ⟨p, 0, none⟩ = some (.int .i64 x)
 c1 : w.cell? ⟨p, 1, none⟩ = some (.int .i64 y)
 c2 : w.cell? ⟨p, 2, none⟩ = some (.int .i64 x')
 c3 : w.cell? ⟨p, 3, none⟩ = some (.int .i64 y')
theorem CxAt2.gr {w W : World} {p : Nat} {x y x' y' : Int} (h : CxAt2 w p x y x' y') (g : Gr w W) : CxAt2 W p x y x' y' :=
 ⟨Nat.lt_of_lt_of_le h.lt g.size, (g.cell (p := ⟨p, 0, none⟩) h.lt).trans h.c0, (g.cell (p := ⟨p, 1, none⟩) h.lt).trans h.c1, (g.cell (p := ⟨p, 2, none⟩) h.lt).trans h.c2, (g.cell (p := ⟨p, 3, none⟩) h.lt).trans h.c3⟩
theorem within_two (k : Nat) (l x0 x1 y0 y1 : Int) (l0 : 0 ≤ l) (l1 : l ≤ 4611686018427387904) (w : World) (hk : CxAt2 w k x0 x1 y0 y1) :
 CW 160 #[l, .slice (some ⟨k, 0, none⟩) 2 2] w (.bool ((inB l x0 && inB l y0) && (inB l x1 && inB l y1))) :=by
 delta CW
 have HB := kh fun (W : World) (pn pl : Nat) (hn : W.cell? ⟨pn, 0, none⟩ = some (.slice (some ⟨k, 0, none⟩) 2 2)) (ln : pn < W.heap.size) (hl : W.cell? ⟨pl, 0, none⟩ = some (.int .i64 l)) (ll : pl < W.heap.size) (g : Gr w W) =>
  both_bool 190 #[.pointer (some ⟨pn, 0, none⟩), .pointer (some ⟨pl, 0, none⟩)] (inB l x0 && inB l y0) (inB l x1 && inB l y1) W enters_within1
   (kh fun V gv => within1_two 211 enters_re pn pl k l x0 x1 x0 y0 y1 y0 V (kh (re_g x0 x1)) (kh (re_g y0 y1)) ((gv.cell (p := ⟨pn, 0, none⟩) ln).trans hn) (Nat.lt_of_lt_of_le ln gv.size) ((gv.cell (p := ⟨pl, 0, none⟩) ll).trans hl) (Nat.lt_of_lt_of_le ll gv.size) ((hk.gr g).gr gv).lt ((hk.gr g).gr gv).c0 ((hk.gr g).gr gv).c1 ((hk.gr g).gr gv).c2 ((hk.gr g).gr gv).c3 l0 l1)
   (kh fun V gv => within1_two 212 enters_im pn pl k l x0 x1 x1 y0 y1 y1 V (kh (im_g x0 x1)) (kh (im_g y0 y1)) ((gv.cell (p := ⟨pn, 0, none⟩) ln).trans hn) (Nat.lt_of_lt_of_le ln gv.size) ((gv.cell (p := ⟨pl, 0, none⟩) ll).trans hl) (Nat.lt_of_lt_of_le ll gv.size) ((hk.gr g).gr gv).lt ((hk.gr g).gr gv).c0 ((hk.gr g).gr gv).c1 ((hk.gr g).gr gv).c2 ((hk.gr g).gr gv).c3 l0 l1)
 generalize (inB l x0 && inB l y0) = X at HB ⊢
 generalize (inB l x1 && inB l y1) = Y at HB ⊢
 clear hk l0 l1
 cases X <;> cases Y
 all_goals
  go_in;go_wp2_with fail;refine (HB.out _ _ _ ?_ ?_ ?_ ?_ ?_).mono ?_
  ·go_simp
  ·simp
  ·go_simp
  ·simp; omega
  ·exact ((Gr.refl w).alloc _ _).alloc _ _
  ·rintro e w1 ⟨rfl, hg⟩
   go_wp2
   go_ret
   exact ⟨rfl, Gr.trans (by repeat (first | exact Gr.refl _ | assumption | apply Gr.drew | apply Gr.alloc)) hg⟩
end
section
open Go.ChangeShapes Go.WideShapes Go.ChangeAt Go.RowKit
set_option linter.unusedVariables false
theorem enters_sum1 : Enters 166 := enters_of Tryz.func166 (by kernel_rfl) (by kernel_rfl)
theorem cxsum_ok (x0 x1 y0 y1 : Int) (hB : ((inB 2305843009213693952 x0 && inB 2305843009213693952 y0) && (inB 2305843009213693952 x1 && inB 2305843009213693952 y1)) = true) (w : World) :
 CW 126 #[.agg #[x0, x1], .agg #[y0, y1]] w (.tuple #[.agg #[.int .i64 (x0 + y0), .int .i64 (x1 + y1)], .int .i64 0]) :=by
 delta CW
 have hb : (-2305843009213693952 ≤ x0 ∧ x0 ≤ 2305843009213693952) ∧ (-2305843009213693952 ≤ y0 ∧ y0 ≤ 2305843009213693952) ∧ (-2305843009213693952 ≤ x1 ∧ x1 ≤ 2305843009213693952) ∧ (-2305843009213693952 ≤ y1 ∧ y1 ≤ 2305843009213693952) := by
  simp only [Bool.and_eq_true, inB_iff] at hB
  exact ⟨hB.1.1, hB.1.2, hB.2.1, hB.2.2⟩
 have HW := kh fun (k : Nat) (W : World) (hk : CxAt2 W k x0 x1 y0 y1) => (within_two k 2305843009213693952 x0 x1 y0 y1 (by decide) (by decide) W hk).mono fun e w' ⟨he, hg⟩ => (⟨by rw [he, hB], hg⟩ : e = Ending.returned (.bool true) ∧ Gr W w')
 have HN := kh fun (p q : Nat) (W : World) (hp : CxAt W p x0 x1) (hq : CxAt W q y0 y1) => numberOf_c 166 #[.pointer (some ⟨p, 0, none⟩), .pointer (some ⟨q, 0, none⟩)] (x0 + y0) (x1 + y1) W enters_sum1
  (kh fun V gv => sum1_re p q x0 x1 y0 y1 _ V (hp.gr gv) (hq.gr gv) (IntWalk.i64_in _ (by omega)))
  (kh fun V gv => sum1_im p q x0 x1 y0 y1 _ V (hp.gr gv) (hq.gr gv) (IntWalk.i64_in _ (by omega)))
 generalize x0 + y0 = r0 at HN ⊢
 generalize x1 + y1 = r1 at HN ⊢
 clear hB hb
 go_in
 go_wp2_with fail
 refine (HW.out _ _ ?_).mono ?_
 ·exact ⟨by simp, by go_simp, by go_simp, by go_simp, by go_simp⟩
 rintro e w1 ⟨rfl, hg1⟩
 have ca : CxAt w1 w.heap.size x0 x1 := CxAt.gr ⟨by first | (simp; done) | (simp; omega), by go_simp, by go_simp⟩ hg1
 have cb : CxAt w1 (w.heap.size + 1) y0 y1 := CxAt.gr ⟨by first | (simp; done) | (simp; omega), by go_simp, by go_simp⟩ hg1
 have cr : CxAt w1 (w.heap.size + 1 + 1) 0 0 := CxAt.gr ⟨by first | (simp; done) | (simp; omega), by go_simp, by go_simp⟩ hg1
 have fr : ∀ j, w1.frozen? ⟨w.heap.size + 1 + 1, j, none⟩ = false := fun j => (hg1.frozen ⟨w.heap.size + 1 + 1, j, none⟩).trans (by go_simp)
 have FR := kh fr
 clear fr
 go_wp2_with fail
 refine (HN.out _ _ _ ca cb).mono ?_
 rintro e w2 ⟨rfl, hg2⟩
 have cr2 := cr.gr hg2
 have zr := cr.1
 have f0 := (hg2.frozen ⟨w.heap.size + 1 + 1, 0, none⟩).trans (FR.out 0)
 have f1 := (hg2.frozen ⟨w.heap.size + 1 + 1, 1, none⟩).trans (FR.out 1)
 obtain ⟨z2, c0, c1⟩ := cr2
 go_wp2
 refine bodyPost_ret (v := .tuple #[.agg #[r0, r1], .int .i64 0]) ?_ rfl ⟨rfl, ?_⟩
 ·simp [results, Tryz.results126, go_sem, c0, c1]
 ·exact (((Gr.trans (by repeat (first | exact Gr.refl _ | apply Gr.alloc)) hg1).trans hg2).setCell (by simp; omega) _).setCell (by simp; omega) _
theorem enters_less1 : Enters 167 := enters_of Tryz.func167 (by kernel_rfl) (by kernel_rfl)
theorem cxless_ok (x0 x1 y0 y1 : Int) (hB : ((inB 2305843009213693952 x0 && inB 2305843009213693952 y0) && (inB 2305843009213693952 x1 && inB 2305843009213693952 y1)) = true) (w : World) :
 CW 127 #[.agg #[x0, x1], .agg #[y0, y1]] w (.tuple #[.agg #[.int .i64 (x0 - y0), .int .i64 (x1 - y1)], .int .i64 0]) :=by
 delta CW
 have hb : (-2305843009213693952 ≤ x0 ∧ x0 ≤ 2305843009213693952) ∧ (-2305843009213693952 ≤ y0 ∧ y0 ≤ 2305843009213693952) ∧ (-2305843009213693952 ≤ x1 ∧ x1 ≤ 2305843009213693952) ∧ (-2305843009213693952 ≤ y1 ∧ y1 ≤ 2305843009213693952) := by
  simp only [Bool.and_eq_true, inB_iff] at hB
  exact ⟨hB.1.1, hB.1.2, hB.2.1, hB.2.2⟩
 have HW := kh fun (k : Nat) (W : World) (hk : CxAt2 W k x0 x1 y0 y1) => (within_two k 2305843009213693952 x0 x1 y0 y1 (by decide) (by decide) W hk).mono fun e w' ⟨he, hg⟩ => (⟨by rw [he, hB], hg⟩ : e = Ending.returned (.bool true) ∧ Gr W w')
 have HN := kh fun (p q : Nat) (W : World) (hp : CxAt W p x0 x1) (hq : CxAt W q y0 y1) => numberOf_c 167 #[.pointer (some ⟨p, 0, none⟩), .pointer (some ⟨q, 0, none⟩)] (x0 - y0) (x1 - y1) W enters_less1
  (kh fun V gv => less1_re p q x0 x1 y0 y1 _ V (hp.gr gv) (hq.gr gv) (IntWalk.i64_in _ (by omega)))
  (kh fun V gv => less1_im p q x0 x1 y0 y1 _ V (hp.gr gv) (hq.gr gv) (IntWalk.i64_in _ (by omega)))
 generalize x0 - y0 = r0 at HN ⊢
 generalize x1 - y1 = r1 at HN ⊢
 clear hB hb
 go_in
 go_wp2_with fail
 refine (HW.out _ _ ?_).mono ?_
 ·exact ⟨by simp, by go_simp, by go_simp, by go_simp, by go_simp⟩
 rintro e w1 ⟨rfl, hg1⟩
 have ca : CxAt w1 w.heap.size x0 x1 := CxAt.gr ⟨by first | (simp; done) | (simp; omega), by go_simp, by go_simp⟩ hg1
 have cb : CxAt w1 (w.heap.size + 1) y0 y1 := CxAt.gr ⟨by first | (simp; done) | (simp; omega), by go_simp, by go_simp⟩ hg1
 have cr : CxAt w1 (w.heap.size + 1 + 1) 0 0 := CxAt.gr ⟨by first | (simp; done) | (simp; omega), by go_simp, by go_simp⟩ hg1
 have fr : ∀ j, w1.frozen? ⟨w.heap.size + 1 + 1, j, none⟩ = false := fun j => (hg1.frozen ⟨w.heap.size + 1 + 1, j, none⟩).trans (by go_simp)
 have FR := kh fr
 clear fr
 go_wp2_with fail
 refine (HN.out _ _ _ ca cb).mono ?_
 rintro e w2 ⟨rfl, hg2⟩
 have cr2 := cr.gr hg2
 have zr := cr.1
 have f0 := (hg2.frozen ⟨w.heap.size + 1 + 1, 0, none⟩).trans (FR.out 0)
 have f1 := (hg2.frozen ⟨w.heap.size + 1 + 1, 1, none⟩).trans (FR.out 1)
 obtain ⟨z2, c0, c1⟩ := cr2
 go_wp2
 refine bodyPost_ret (v := .tuple #[.agg #[r0, r1], .int .i64 0]) ?_ rfl ⟨rfl, ?_⟩
 ·simp [results, Tryz.results127, go_sem, c0, c1]
 ·exact (((Gr.trans (by repeat (first | exact Gr.refl _ | apply Gr.alloc)) hg1).trans hg2).setCell (by simp; omega) _).setCell (by simp; omega) _
end
section
open Go.ChangeShapes Go.WideShapes Go.ChangeAt Go.RowKit
set_option linter.unusedVariables false
theorem cxconj_ok (x0 x1 : Int) (hB : (inB 2305843009213693952 x0 && inB 2305843009213693952 x1) = true) (w : World) :
 CW 116 #[.agg #[x0, x1]] w (.tuple #[.agg #[x0, .int .i64 (-x1)], .int .i64 0]) :=by
 delta CW
 have hb := hB
 simp only [Bool.and_eq_true, inB_iff] at hb
 obtain ⟨_, b0, b1⟩ := hb
 have HW := kh fun (k : Nat) (W : World) (hk : CxAt W k x0 x1) => (within_one k 2305843009213693952 x0 x1 (by decide) (by decide) W hk).mono fun e w' ⟨he, hg⟩ => (⟨by rw [he, hB], hg⟩ : e = Ending.returned (.bool true) ∧ Gr W w')
 clear hB
 go_in
 go_wp2_with fail
 refine (HW.out _ _ ?_).mono ?_
 ·exact ⟨by simp, by go_simp, by go_simp⟩
 rintro e w1 ⟨rfl, hg1⟩
 obtain ⟨za, a0, a1⟩ : CxAt w1 w.heap.size x0 x1 := CxAt.gr ⟨by first | (simp; done) | (simp; omega), by go_simp, by go_simp⟩ hg1
 obtain ⟨z2, c0, c1⟩ : CxAt w1 (w.heap.size + 1) 0 0 := CxAt.gr ⟨by first | (simp; done) | (simp; omega), by go_simp, by go_simp⟩ hg1
 have f0 : w1.frozen? ⟨w.heap.size + 1, 0, none⟩ = false := (hg1.frozen ⟨w.heap.size + 1, 0, none⟩).trans (by go_simp)
 have f1 : w1.frozen? ⟨w.heap.size + 1, 1, none⟩ = false := (hg1.frozen ⟨w.heap.size + 1, 1, none⟩).trans (by go_simp)
 go_wp2
 refine bodyPost_ret (v := .tuple #[.agg #[x0, .int .i64 (-x1)], .int .i64 0]) ?_ rfl ⟨rfl, ?_⟩
 ·simp [results, Tryz.results116, go_sem, c0, c1]
 ·exact ((Gr.trans (by repeat (first | exact Gr.refl _ | apply Gr.alloc)) hg1).setCell (by first | (simp; done) | (simp; omega)) _).setCell (by first | (simp; done) | (simp; omega)) _
theorem cxturn_0 (x0 x1 n : Int) (hB : (inB 2305843009213693952 x0 && inB 2305843009213693952 x1) = true) (hn : bits .and .i64 n 3 = 0) (w : World) :
 CW 125 #[.agg #[x0, x1], n] w (.tuple #[.agg #[x0, x1], .int .i64 0]) :=by
 delta CW
 have hb := hB
 simp only [Bool.and_eq_true, inB_iff] at hb
 obtain ⟨⟨d0, d1⟩, b0, b1⟩ := hb
 have HW := kh fun (k : Nat) (W : World) (hk : CxAt W k x0 x1) => (within_one k 2305843009213693952 x0 x1 (by decide) (by decide) W hk).mono fun e w' ⟨he, hg⟩ => (⟨by rw [he, hB], hg⟩ : e = Ending.returned (.bool true) ∧ Gr W w')
 clear hB
 go_in
 go_wp2_with fail
 refine (HW.out _ _ ?_).mono ?_
 ·exact ⟨by simp, by go_simp, by go_simp⟩
 rintro e w1 ⟨rfl, hg1⟩
 have gw1 : Gr w w1 := Gr.trans (by repeat (first | exact Gr.refl _ | apply Gr.alloc)) hg1
 obtain ⟨za, a0, a1⟩ : CxAt w1 w.heap.size x0 x1 := CxAt.gr ⟨by first | (simp; done) | (simp; omega), by go_simp, by go_simp⟩ hg1
 obtain ⟨z2, c0, c1⟩ : CxAt w1 (w.heap.size + 1) 0 0 := CxAt.gr ⟨by first | (simp; done) | (simp; omega), by go_simp, by go_simp⟩ hg1
 have e0 : w1.frozen? ⟨w.heap.size, 0, none⟩ = false := (hg1.frozen ⟨w.heap.size, 0, none⟩).trans (by go_simp)
 have e1 : w1.frozen? ⟨w.heap.size, 1, none⟩ = false := (hg1.frozen ⟨w.heap.size, 1, none⟩).trans (by go_simp)
 have f0 : w1.frozen? ⟨w.heap.size + 1, 0, none⟩ = false := (hg1.frozen ⟨w.heap.size + 1, 0, none⟩).trans (by go_simp)
 have f1 : w1.frozen? ⟨w.heap.size + 1, 1, none⟩ = false := (hg1.frozen ⟨w.heap.size + 1, 1, none⟩).trans (by go_simp)
 clear hg1
 go_wp2_with fail
 refine wp_loop_rounds 1 ?_
 rw [rounds_succ]
 go_wp2_with fail
 refine bodyPost_ret (v := .tuple #[.agg #[x0, x1], .int .i64 0]) ?_ rfl ⟨rfl, ?_⟩
 ·simp [results, Tryz.results125, go_sem, c0, c1]
 ·exact ((gw1.setCell (by simp) _).setCell (by simp) _)
theorem cxturn_1 (x0 x1 n : Int) (hB : (inB 2305843009213693952 x0 && inB 2305843009213693952 x1) = true) (hn : bits .and .i64 n 3 = 1) (w : World) :
 CW 125 #[.agg #[x0, x1], n] w (.tuple #[.agg #[.int .i64 (-x1), x0], .int .i64 0]) :=by
 delta CW
 have hb := hB
 simp only [Bool.and_eq_true, inB_iff] at hb
 obtain ⟨⟨d0, d1⟩, b0, b1⟩ := hb
 have HW := kh fun (k : Nat) (W : World) (hk : CxAt W k x0 x1) => (within_one k 2305843009213693952 x0 x1 (by decide) (by decide) W hk).mono fun e w' ⟨he, hg⟩ => (⟨by rw [he, hB], hg⟩ : e = Ending.returned (.bool true) ∧ Gr W w')
 clear hB
 go_in
 go_wp2_with fail
 refine (HW.out _ _ ?_).mono ?_
 ·exact ⟨by simp, by go_simp, by go_simp⟩
 rintro e w1 ⟨rfl, hg1⟩
 have gw1 : Gr w w1 := Gr.trans (by repeat (first | exact Gr.refl _ | apply Gr.alloc)) hg1
 obtain ⟨za, a0, a1⟩ : CxAt w1 w.heap.size x0 x1 := CxAt.gr ⟨by first | (simp; done) | (simp; omega), by go_simp, by go_simp⟩ hg1
 obtain ⟨z2, c0, c1⟩ : CxAt w1 (w.heap.size + 1) 0 0 := CxAt.gr ⟨by first | (simp; done) | (simp; omega), by go_simp, by go_simp⟩ hg1
 have e0 : w1.frozen? ⟨w.heap.size, 0, none⟩ = false := (hg1.frozen ⟨w.heap.size, 0, none⟩).trans (by go_simp)
 have e1 : w1.frozen? ⟨w.heap.size, 1, none⟩ = false := (hg1.frozen ⟨w.heap.size, 1, none⟩).trans (by go_simp)
 have f0 : w1.frozen? ⟨w.heap.size + 1, 0, none⟩ = false := (hg1.frozen ⟨w.heap.size + 1, 0, none⟩).trans (by go_simp)
 have f1 : w1.frozen? ⟨w.heap.size + 1, 1, none⟩ = false := (hg1.frozen ⟨w.heap.size + 1, 1, none⟩).trans (by go_simp)
 clear hg1
 go_wp2_with fail
 refine wp_loop_rounds 2 ?_
 rw [rounds_succ]
 go_wp2_with fail
 obtain ⟨v1, hW⟩ : ∃ u, u = (w1.setCell ⟨w.heap.size, 0, none⟩ (.int .i64 (-x1))).setCell ⟨w.heap.size, 1, none⟩ (.int .i64 (x0)) := ⟨_, rfl⟩
 rw [← hW]
 have zav1 : w.heap.size < v1.heap.size := by rw [hW]; simp; omega
 have zzv1 : w.heap.size + 1 < v1.heap.size := by rw [hW]; simp; omega
 have a0v1 : v1.cell? ⟨w.heap.size, 0, none⟩ = some (.int .i64 (-x1)) := by rw [hW]; go_simp
 have a1v1 : v1.cell? ⟨w.heap.size, 1, none⟩ = some (.int .i64 (x0)) := by rw [hW]; go_simp
 have c0v1 : v1.cell? ⟨w.heap.size + 1, 0, none⟩ = some (.int .i64 0) := by rw [hW]; go_simp
 have c1v1 : v1.cell? ⟨w.heap.size + 1, 1, none⟩ = some (.int .i64 0) := by rw [hW]; go_simp
 have e0v1 : v1.frozen? ⟨w.heap.size, 0, none⟩ = false := by rw [hW]; go_simp
 have e1v1 : v1.frozen? ⟨w.heap.size, 1, none⟩ = false := by rw [hW]; go_simp
 have f0v1 : v1.frozen? ⟨w.heap.size + 1, 0, none⟩ = false := by rw [hW]; go_simp
 have f1v1 : v1.frozen? ⟨w.heap.size + 1, 1, none⟩ = false := by rw [hW]; go_simp
 have gv1 : Gr w v1 := by rw [hW]; exact (gw1.setCell (by simp) _).setCell (by simp) _
 clear hW
 rw [rounds_succ]
 go_wp2_with fail
 refine bodyPost_ret (v := .tuple #[.agg #[.int .i64 (-x1), x0], .int .i64 0]) ?_ rfl ⟨rfl, ?_⟩
 ·simp [results, Tryz.results125, go_sem, c0v1, c1v1]
 ·exact ((gv1.setCell (by simp) _).setCell (by simp) _)
theorem cxturn_2 (x0 x1 n : Int) (hB : (inB 2305843009213693952 x0 && inB 2305843009213693952 x1) = true) (hn : bits .and .i64 n 3 = 2) (w : World) :
 CW 125 #[.agg #[x0, x1], n] w (.tuple #[.agg #[.int .i64 (-x0), .int .i64 (-x1)], .int .i64 0]) :=by
 delta CW
 have hb := hB
 simp only [Bool.and_eq_true, inB_iff] at hb
 obtain ⟨⟨d0, d1⟩, b0, b1⟩ := hb
 have HW := kh fun (k : Nat) (W : World) (hk : CxAt W k x0 x1) => (within_one k 2305843009213693952 x0 x1 (by decide) (by decide) W hk).mono fun e w' ⟨he, hg⟩ => (⟨by rw [he, hB], hg⟩ : e = Ending.returned (.bool true) ∧ Gr W w')
 clear hB
 go_in
 go_wp2_with fail
 refine (HW.out _ _ ?_).mono ?_
 ·exact ⟨by simp, by go_simp, by go_simp⟩
 rintro e w1 ⟨rfl, hg1⟩
 have gw1 : Gr w w1 := Gr.trans (by repeat (first | exact Gr.refl _ | apply Gr.alloc)) hg1
 obtain ⟨za, a0, a1⟩ : CxAt w1 w.heap.size x0 x1 := CxAt.gr ⟨by first | (simp; done) | (simp; omega), by go_simp, by go_simp⟩ hg1
 obtain ⟨z2, c0, c1⟩ : CxAt w1 (w.heap.size + 1) 0 0 := CxAt.gr ⟨by first | (simp; done) | (simp; omega), by go_simp, by go_simp⟩ hg1
 have e0 : w1.frozen? ⟨w.heap.size, 0, none⟩ = false := (hg1.frozen ⟨w.heap.size, 0, none⟩).trans (by go_simp)
 have e1 : w1.frozen? ⟨w.heap.size, 1, none⟩ = false := (hg1.frozen ⟨w.heap.size, 1, none⟩).trans (by go_simp)
 have f0 : w1.frozen? ⟨w.heap.size + 1, 0, none⟩ = false := (hg1.frozen ⟨w.heap.size + 1, 0, none⟩).trans (by go_simp)
 have f1 : w1.frozen? ⟨w.heap.size + 1, 1, none⟩ = false := (hg1.frozen ⟨w.heap.size + 1, 1, none⟩).trans (by go_simp)
 clear hg1
 go_wp2_with fail
 refine wp_loop_rounds 3 ?_
 rw [rounds_succ]
 go_wp2_with fail
 obtain ⟨v1, hW⟩ : ∃ u, u = (w1.setCell ⟨w.heap.size, 0, none⟩ (.int .i64 (-x1))).setCell ⟨w.heap.size, 1, none⟩ (.int .i64 (x0)) := ⟨_, rfl⟩
 rw [← hW]
 have zav1 : w.heap.size < v1.heap.size := by rw [hW]; simp; omega
 have zzv1 : w.heap.size + 1 < v1.heap.size := by rw [hW]; simp; omega
 have a0v1 : v1.cell? ⟨w.heap.size, 0, none⟩ = some (.int .i64 (-x1)) := by rw [hW]; go_simp
 have a1v1 : v1.cell? ⟨w.heap.size, 1, none⟩ = some (.int .i64 (x0)) := by rw [hW]; go_simp
 have c0v1 : v1.cell? ⟨w.heap.size + 1, 0, none⟩ = some (.int .i64 0) := by rw [hW]; go_simp
 have c1v1 : v1.cell? ⟨w.heap.size + 1, 1, none⟩ = some (.int .i64 0) := by rw [hW]; go_simp
 have e0v1 : v1.frozen? ⟨w.heap.size, 0, none⟩ = false := by rw [hW]; go_simp
 have e1v1 : v1.frozen? ⟨w.heap.size, 1, none⟩ = false := by rw [hW]; go_simp
 have f0v1 : v1.frozen? ⟨w.heap.size + 1, 0, none⟩ = false := by rw [hW]; go_simp
 have f1v1 : v1.frozen? ⟨w.heap.size + 1, 1, none⟩ = false := by rw [hW]; go_simp
 have gv1 : Gr w v1 := by rw [hW]; exact (gw1.setCell (by simp) _).setCell (by simp) _
 clear hW
 rw [rounds_succ]
 go_wp2_with fail
 obtain ⟨v2, hW⟩ : ∃ u, u = (v1.setCell ⟨w.heap.size, 0, none⟩ (.int .i64 (-x0))).setCell ⟨w.heap.size, 1, none⟩ (.int .i64 (-x1)) := ⟨_, rfl⟩
 rw [← hW]
 have zav2 : w.heap.size < v2.heap.size := by rw [hW]; simp; omega
 have zzv2 : w.heap.size + 1 < v2.heap.size := by rw [hW]; simp; omega
 have a0v2 : v2.cell? ⟨w.heap.size, 0, none⟩ = some (.int .i64 (-x0)) := by rw [hW]; go_simp
 have a1v2 : v2.cell? ⟨w.heap.size, 1, none⟩ = some (.int .i64 (-x1)) := by rw [hW]; go_simp
 have c0v2 : v2.cell? ⟨w.heap.size + 1, 0, none⟩ = some (.int .i64 0) := by rw [hW]; go_simp
 have c1v2 : v2.cell? ⟨w.heap.size + 1, 1, none⟩ = some (.int .i64 0) := by rw [hW]; go_simp
 have e0v2 : v2.frozen? ⟨w.heap.size, 0, none⟩ = false := by rw [hW]; go_simp
 have e1v2 : v2.frozen? ⟨w.heap.size, 1, none⟩ = false := by rw [hW]; go_simp
 have f0v2 : v2.frozen? ⟨w.heap.size + 1, 0, none⟩ = false := by rw [hW]; go_simp
 have f1v2 : v2.frozen? ⟨w.heap.size + 1, 1, none⟩ = false := by rw [hW]; go_simp
 have gv2 : Gr w v2 := by rw [hW]; exact (gv1.setCell (by simp) _).setCell (by simp) _
 clear hW
 rw [rounds_succ]
 go_wp2_with fail
 refine bodyPost_ret (v := .tuple #[.agg #[.int .i64 (-x0), .int .i64 (-x1)], .int .i64 0]) ?_ rfl ⟨rfl, ?_⟩
 ·simp [results, Tryz.results125, go_sem, c0v2, c1v2]
 ·exact ((gv2.setCell (by simp) _).setCell (by simp) _)
theorem cxturn_3 (x0 x1 n : Int) (hB : (inB 2305843009213693952 x0 && inB 2305843009213693952 x1) = true) (hn : bits .and .i64 n 3 = 3) (w : World) :
 CW 125 #[.agg #[x0, x1], n] w (.tuple #[.agg #[x1, .int .i64 (-x0)], .int .i64 0]) :=by
 delta CW
 have hb := hB
 simp only [Bool.and_eq_true, inB_iff] at hb
 obtain ⟨⟨d0, d1⟩, b0, b1⟩ := hb
 have HW := kh fun (k : Nat) (W : World) (hk : CxAt W k x0 x1) => (within_one k 2305843009213693952 x0 x1 (by decide) (by decide) W hk).mono fun e w' ⟨he, hg⟩ => (⟨by rw [he, hB], hg⟩ : e = Ending.returned (.bool true) ∧ Gr W w')
 clear hB
 go_in
 go_wp2_with fail
 refine (HW.out _ _ ?_).mono ?_
 ·exact ⟨by simp, by go_simp, by go_simp⟩
 rintro e w1 ⟨rfl, hg1⟩
 have gw1 : Gr w w1 := Gr.trans (by repeat (first | exact Gr.refl _ | apply Gr.alloc)) hg1
 obtain ⟨za, a0, a1⟩ : CxAt w1 w.heap.size x0 x1 := CxAt.gr ⟨by first | (simp; done) | (simp; omega), by go_simp, by go_simp⟩ hg1
 obtain ⟨z2, c0, c1⟩ : CxAt w1 (w.heap.size + 1) 0 0 := CxAt.gr ⟨by first | (simp; done) | (simp; omega), by go_simp, by go_simp⟩ hg1
 have e0 : w1.frozen? ⟨w.heap.size, 0, none⟩ = false := (hg1.frozen ⟨w.heap.size, 0, none⟩).trans (by go_simp)
 have e1 : w1.frozen? ⟨w.heap.size, 1, none⟩ = false := (hg1.frozen ⟨w.heap.size, 1, none⟩).trans (by go_simp)
 have f0 : w1.frozen? ⟨w.heap.size + 1, 0, none⟩ = false := (hg1.frozen ⟨w.heap.size + 1, 0, none⟩).trans (by go_simp)
 have f1 : w1.frozen? ⟨w.heap.size + 1, 1, none⟩ = false := (hg1.frozen ⟨w.heap.size + 1, 1, none⟩).trans (by go_simp)
 clear hg1
 go_wp2_with fail
 refine wp_loop_rounds 4 ?_
 rw [rounds_succ]
 go_wp2_with fail
 obtain ⟨v1, hW⟩ : ∃ u, u = (w1.setCell ⟨w.heap.size, 0, none⟩ (.int .i64 (-x1))).setCell ⟨w.heap.size, 1, none⟩ (.int .i64 (x0)) := ⟨_, rfl⟩
 rw [← hW]
 have zav1 : w.heap.size < v1.heap.size := by rw [hW]; simp; omega
 have zzv1 : w.heap.size + 1 < v1.heap.size := by rw [hW]; simp; omega
 have a0v1 : v1.cell? ⟨w.heap.size, 0, none⟩ = some (.int .i64 (-x1)) := by rw [hW]; go_simp
 have a1v1 : v1.cell? ⟨w.heap.size, 1, none⟩ = some (.int .i64 (x0)) := by rw [hW]; go_simp
 have c0v1 : v1.cell? ⟨w.heap.size + 1, 0, none⟩ = some (.int .i64 0) := by rw [hW]; go_simp
 have c1v1 : v1.cell? ⟨w.heap.size + 1, 1, none⟩ = some (.int .i64 0) := by rw [hW]; go_simp
 have e0v1 : v1.frozen? ⟨w.heap.size, 0, none⟩ = false := by rw [hW]; go_simp
 have e1v1 : v1.frozen? ⟨w.heap.size, 1, none⟩ = false := by rw [hW]; go_simp
 have f0v1 : v1.frozen? ⟨w.heap.size + 1, 0, none⟩ = false := by rw [hW]; go_simp
 have f1v1 : v1.frozen? ⟨w.heap.size + 1, 1, none⟩ = false := by rw [hW]; go_simp
 have gv1 : Gr w v1 := by rw [hW]; exact (gw1.setCell (by simp) _).setCell (by simp) _
 clear hW
 rw [rounds_succ]
 go_wp2_with fail
 obtain ⟨v2, hW⟩ : ∃ u, u = (v1.setCell ⟨w.heap.size, 0, none⟩ (.int .i64 (-x0))).setCell ⟨w.heap.size, 1, none⟩ (.int .i64 (-x1)) := ⟨_, rfl⟩
 rw [← hW]
 have zav2 : w.heap.size < v2.heap.size := by rw [hW]; simp; omega
 have zzv2 : w.heap.size + 1 < v2.heap.size := by rw [hW]; simp; omega
 have a0v2 : v2.cell? ⟨w.heap.size, 0, none⟩ = some (.int .i64 (-x0)) := by rw [hW]; go_simp
 have a1v2 : v2.cell? ⟨w.heap.size, 1, none⟩ = some (.int .i64 (-x1)) := by rw [hW]; go_simp
 have c0v2 : v2.cell? ⟨w.heap.size + 1, 0, none⟩ = some (.int .i64 0) := by rw [hW]; go_simp
 have c1v2 : v2.cell? ⟨w.heap.size + 1, 1, none⟩ = some (.int .i64 0) := by rw [hW]; go_simp
 have e0v2 : v2.frozen? ⟨w.heap.size, 0, none⟩ = false := by rw [hW]; go_simp
 have e1v2 : v2.frozen? ⟨w.heap.size, 1, none⟩ = false := by rw [hW]; go_simp
 have f0v2 : v2.frozen? ⟨w.heap.size + 1, 0, none⟩ = false := by rw [hW]; go_simp
 have f1v2 : v2.frozen? ⟨w.heap.size + 1, 1, none⟩ = false := by rw [hW]; go_simp
 have gv2 : Gr w v2 := by rw [hW]; exact (gv1.setCell (by simp) _).setCell (by simp) _
 clear hW
 rw [rounds_succ]
 go_wp2_with fail
 obtain ⟨v3, hW⟩ : ∃ u, u = (v2.setCell ⟨w.heap.size, 0, none⟩ (.int .i64 (x1))).setCell ⟨w.heap.size, 1, none⟩ (.int .i64 (-x0)) := ⟨_, rfl⟩
 rw [← hW]
 have zav3 : w.heap.size < v3.heap.size := by rw [hW]; simp; omega
 have zzv3 : w.heap.size + 1 < v3.heap.size := by rw [hW]; simp; omega
 have a0v3 : v3.cell? ⟨w.heap.size, 0, none⟩ = some (.int .i64 (x1)) := by rw [hW]; go_simp
 have a1v3 : v3.cell? ⟨w.heap.size, 1, none⟩ = some (.int .i64 (-x0)) := by rw [hW]; go_simp
 have c0v3 : v3.cell? ⟨w.heap.size + 1, 0, none⟩ = some (.int .i64 0) := by rw [hW]; go_simp
 have c1v3 : v3.cell? ⟨w.heap.size + 1, 1, none⟩ = some (.int .i64 0) := by rw [hW]; go_simp
 have e0v3 : v3.frozen? ⟨w.heap.size, 0, none⟩ = false := by rw [hW]; go_simp
 have e1v3 : v3.frozen? ⟨w.heap.size, 1, none⟩ = false := by rw [hW]; go_simp
 have f0v3 : v3.frozen? ⟨w.heap.size + 1, 0, none⟩ = false := by rw [hW]; go_simp
 have f1v3 : v3.frozen? ⟨w.heap.size + 1, 1, none⟩ = false := by rw [hW]; go_simp
 have gv3 : Gr w v3 := by rw [hW]; exact (gv2.setCell (by simp) _).setCell (by simp) _
 clear hW
 rw [rounds_succ]
 go_wp2_with fail
 refine bodyPost_ret (v := .tuple #[.agg #[x1, .int .i64 (-x0)], .int .i64 0]) ?_ rfl ⟨rfl, ?_⟩
 ·simp [results, Tryz.results125, go_sem, c0v3, c1v3]
 ·exact ((gv3.setCell (by simp) _).setCell (by simp) _)
theorem mul_bd (p q a m : Int) (hp : 0 ≤ p) (hq : 0 ≤ q) (a0 : -p ≤ a) (a1 : a ≤ p) (m0 : -q ≤ m) (m1 : m ≤ q) : -(p * q) ≤ a * m ∧ a * m ≤ p * q := by
 have h1 : 0 ≤ (p - a) * (q + m) := Int.mul_nonneg (by omega) (by omega)
 have h2 : 0 ≤ (p + a) * (q - m) := Int.mul_nonneg (by omega) (by omega)
 have h3 : 0 ≤ (p - a) * (q - m) := Int.mul_nonneg (by omega) (by omega)
 have h4 : 0 ≤ (p + a) * (q + m) := Int.mul_nonneg (by omega) (by omega)
 simp only [Int.sub_mul, Int.add_mul, Int.mul_sub, Int.mul_add] at h1 h2 h3 h4
 omega
end
section
open Go.ChangeShapes Go.WideShapes Go.ChangeAt Go.RowKit
set_option linter.unusedVariables false
theorem enters_shift1 : Enters 169 := enters_of Tryz.func169 (by kernel_rfl) (by kernel_rfl)
theorem cxshift_ok (x0 x1 s mo : Int) (wx : -9223372036854775808 ≤ x0 ∧ x0 ≤ 9223372036854775807) (wy : -9223372036854775808 ≤ x1 ∧ x1 ≤ 9223372036854775807) (s0 : 0 ≤ s) (s1 : s ≤ 62) (m0 : 0 ≤ mo) (m1 : mo ≤ 2) (w : World) :
 CW 129 #[.agg #[x0, x1], s, mo] w (.tuple #[.agg #[(rnd x0 s.toNat mo), (rnd x1 s.toNat mo)], .int .i64 0]) :=by
 delta CW
 have HS := kh (shift_ok 0 s mo (by omega) s0 s1 m0 m1)
 have HN := kh fun (p q m : Nat) (W : World) (hp : CxAt W p x0 x1) (hq : W.cell? ⟨q, 0, none⟩ = some (.int .i64 s)) (lq : q < W.heap.size) (hm : W.cell? ⟨m, 0, none⟩ = some (.int .i64 mo)) (lm : m < W.heap.size) =>
  numberOf_c 169 #[.pointer (some ⟨p, 0, none⟩), .pointer (some ⟨q, 0, none⟩), .pointer (some ⟨m, 0, none⟩)] (rnd x0 s.toNat mo) (rnd x1 s.toNat mo) W enters_shift1
  (kh fun V gv => shift1_re p q m x0 x1 s mo V (hp.gr gv) ((gv.cell (p := ⟨q, 0, none⟩) lq).trans hq) (Nat.lt_of_lt_of_le lq gv.size) ((gv.cell (p := ⟨m, 0, none⟩) lm).trans hm) (Nat.lt_of_lt_of_le lm gv.size) wx s0 s1 m0 m1)
  (kh fun V gv => shift1_im p q m x0 x1 s mo V (hp.gr gv) ((gv.cell (p := ⟨q, 0, none⟩) lq).trans hq) (Nat.lt_of_lt_of_le lq gv.size) ((gv.cell (p := ⟨m, 0, none⟩) lm).trans hm) (Nat.lt_of_lt_of_le lm gv.size) wy s0 s1 m0 m1)
 generalize rnd 0 s.toNat mo = r at HS
 generalize rnd x0 s.toNat mo = r0 at HN ⊢
 generalize rnd x1 s.toNat mo = r1 at HN ⊢
 clear wx wy s0 s1 m0 m1
 go_in
 go_wp2_with fail
 refine (HS.out _).mono ?_
 rintro e w1 ⟨rfl, hg1⟩
 have ca : CxAt w1 w.heap.size x0 x1 := CxAt.gr ⟨by first | (simp; done) | (simp; omega), by go_simp, by go_simp⟩ hg1
 have cs : w1.cell? ⟨w.heap.size + 1, 0, none⟩ = some (.int .i64 s) := (hg1.cell (p := ⟨w.heap.size + 1, 0, none⟩) (by first | (simp; done) | (simp; omega))).trans (by go_simp)
 have cm : w1.cell? ⟨w.heap.size + 1 + 1, 0, none⟩ = some (.int .i64 mo) := (hg1.cell (p := ⟨w.heap.size + 1 + 1, 0, none⟩) (by first | (simp; done) | (simp; omega))).trans (by go_simp)
 have cr : CxAt w1 (w.heap.size + 1 + 1 + 1) 0 0 := CxAt.gr ⟨by first | (simp; done) | (simp; omega), by go_simp, by go_simp⟩ hg1
 have FR := kh fun j => ((hg1.frozen ⟨w.heap.size + 1 + 1 + 1, j, none⟩).trans (by go_simp) : w1.frozen? ⟨w.heap.size + 1 + 1 + 1, j, none⟩ = false)
 have zz := cr.lt
 go_wp2_with fail
 refine (HN.out _ _ _ _ ca cs (by omega) cm (by omega)).mono ?_
 rintro e w2 ⟨rfl, hg2⟩
 have cr2 := cr.gr hg2
 have f0 := (hg2.frozen ⟨w.heap.size + 1 + 1 + 1, 0, none⟩ cr.lt).trans (FR.out 0)
 have f1 := (hg2.frozen ⟨w.heap.size + 1 + 1 + 1, 1, none⟩ cr.lt).trans (FR.out 1)
 obtain ⟨z2, c0, c1⟩ := cr2
 go_wp2
 refine bodyPost_ret (v := .tuple #[.agg #[r0, r1], .int .i64 0]) ?_ rfl ⟨rfl, ?_⟩
 ·simp [results, Tryz.results129, go_sem, c0, c1]
 ·exact (((Gr.trans (by repeat (first | exact Gr.refl _ | apply Gr.alloc)) hg1).trans hg2).setCell (by first | (simp; done) | (simp; omega)) _).setCell (by first | (simp; done) | (simp; omega)) _
theorem mayMul_c (x0 x1 y0 y1 : Int) (w : World) :
 CW 168 #[.agg #[x0, x1], .agg #[y0, y1]] w (.bool ((inB 2147483648 x0 && inB 2147483648 x1) && (inB 1073741824 y0 && inB 1073741824 y1))) :=by
 delta CW
 have HA := kh fun (k : Nat) (W : World) (hk : CxAt W k x0 x1) => within_one k 2147483648 x0 x1 (by decide) (by decide) W hk
 have HC := kh fun (k : Nat) (W : World) (hk : CxAt W k y0 y1) => within_one k 1073741824 y0 y1 (by decide) (by decide) W hk
 generalize (inB 2147483648 x0 && inB 2147483648 x1) = X at HA ⊢
 generalize (inB 1073741824 y0 && inB 1073741824 y1) = Y at HC ⊢
 cases X
 ·go_in
  go_wp2_with fail;refine (HA.out _ _ ?_).mono ?_
  ·exact ⟨by simp, by go_simp, by go_simp⟩
  rintro e w1 ⟨rfl, hg1⟩
  go_wp2
  go_ret
  exact ⟨rfl, (Gr.trans (by repeat (first | exact Gr.refl _ | apply Gr.alloc)) hg1)⟩
 ·go_in
  go_wp2_with fail;refine (HA.out _ _ ?_).mono ?_
  ·exact ⟨by simp, by go_simp, by go_simp⟩
  rintro e w1 ⟨rfl, hg1⟩
  obtain ⟨z2, c0, c1⟩ : CxAt w1 (w.heap.size + 1) y0 y1 := CxAt.gr ⟨by first | (simp; done) | (simp; omega), by go_simp, by go_simp⟩ hg1
  go_wp2_with fail;refine (HC.out _ _ ?_).mono ?_
  ·exact ⟨by simp, by go_simp, by go_simp⟩
  rintro e w2 ⟨rfl, hg2⟩
  go_wp2
  go_ret
  exact ⟨rfl, ((Gr.trans (by repeat (first | exact Gr.refl _ | apply Gr.alloc)) hg1).alloc _ _).trans hg2⟩
theorem cxtimes_1 (x0 x1 y0 y1 : Int) (h1 : ((inB 2147483648 x0 && inB 2147483648 x1) && (inB 1073741824 y0 && inB 1073741824 y1)) = true) (p00 : -4611686018427387904 ≤ x0 * y0 ∧ x0 * y0 ≤ 4611686018427387904) (p11 : -4611686018427387904 ≤ x1 * y1 ∧ x1 * y1 ≤ 4611686018427387904) (p01 : -4611686018427387904 ≤ x0 * y1 ∧ x0 * y1 ≤ 4611686018427387904) (p10 : -4611686018427387904 ≤ x1 * y0 ∧ x1 * y0 ≤ 4611686018427387904) (q0 : -9223372036854775808 ≤ x0 * y0 - x1 * y1 ∧ x0 * y0 - x1 * y1 ≤ 9223372036854775807) (q1 : -9223372036854775808 ≤ x0 * y1 + x1 * y0 ∧ x0 * y1 + x1 * y0 ≤ 9223372036854775807) (w : World) :
 CW 128 #[.agg #[x0, x1], .agg #[y0, y1]] w (.tuple #[.agg #[.int .i64 (x0 * y0 - x1 * y1), .int .i64 (x0 * y1 + x1 * y0)], .int .i64 0]) :=by
 delta CW
 have HA := kh fun (W : World) => (mayMul_c x0 x1 y0 y1 W).mono fun e w' ⟨he, hg⟩ => (⟨by rw [he, h1], hg⟩ : e = Ending.returned (.bool true) ∧ Gr W w')
 clear h1
 obtain ⟨a00, b00⟩ := p00
 obtain ⟨a11, b11⟩ := p11
 obtain ⟨a01, b01⟩ := p01
 obtain ⟨a10, b10⟩ := p10
 obtain ⟨a0, b0⟩ := q0
 obtain ⟨a1, b1⟩ := q1
 go_in
 go_wp2_with fail
 refine (HA.out _).mono ?_
 rintro e w1 ⟨rfl, hg1⟩
 have ca : CxAt w1 w.heap.size x0 x1 := CxAt.gr ⟨by first | (simp; done) | (simp; omega), by go_simp, by go_simp⟩ hg1
 have cb : CxAt w1 (w.heap.size + 1) y0 y1 := CxAt.gr ⟨by first | (simp; done) | (simp; omega), by go_simp, by go_simp⟩ hg1
 have cr : CxAt w1 (w.heap.size + 1 + 1) 0 0 := CxAt.gr ⟨by first | (simp; done) | (simp; omega), by go_simp, by go_simp⟩ hg1
 have FR := kh fun j => ((hg1.frozen ⟨w.heap.size + 1 + 1, j, none⟩).trans (by go_simp) : w1.frozen? ⟨w.heap.size + 1 + 1, j, none⟩ = false)
 obtain ⟨za, xa, xb⟩ := ca
 obtain ⟨zb, ya, yb⟩ := cb
 obtain ⟨z2, c0, c1⟩ := cr
 have f0 := FR.out 0
 have f1 := FR.out 1
 go_wp2
 refine bodyPost_ret (v := .tuple #[.agg #[.int .i64 (x0 * y0 - x1 * y1), .int .i64 (x0 * y1 + x1 * y0)], .int .i64 0]) ?_ rfl ⟨rfl, ?_⟩
 ·simp [results, Tryz.results128, go_sem, c0, c1]
 ·exact ((Gr.trans (by repeat (first | exact Gr.refl _ | apply Gr.alloc)) hg1).setCell (by first | (simp; done) | (simp; omega)) _).setCell (by first | (simp; done) | (simp; omega)) _
theorem cxtimes_2 (x0 x1 y0 y1 : Int) (h1 : ((inB 2147483648 x0 && inB 2147483648 x1) && (inB 1073741824 y0 && inB 1073741824 y1)) = false) (h2 : ((inB 2147483648 y0 && inB 2147483648 y1) && (inB 1073741824 x0 && inB 1073741824 x1)) = true) (p00 : -4611686018427387904 ≤ x0 * y0 ∧ x0 * y0 ≤ 4611686018427387904) (p11 : -4611686018427387904 ≤ x1 * y1 ∧ x1 * y1 ≤ 4611686018427387904) (p01 : -4611686018427387904 ≤ x0 * y1 ∧ x0 * y1 ≤ 4611686018427387904) (p10 : -4611686018427387904 ≤ x1 * y0 ∧ x1 * y0 ≤ 4611686018427387904) (q0 : -9223372036854775808 ≤ x0 * y0 - x1 * y1 ∧ x0 * y0 - x1 * y1 ≤ 9223372036854775807) (q1 : -9223372036854775808 ≤ x0 * y1 + x1 * y0 ∧ x0 * y1 + x1 * y0 ≤ 9223372036854775807) (w : World) :
 CW 128 #[.agg #[x0, x1], .agg #[y0, y1]] w (.tuple #[.agg #[.int .i64 (x0 * y0 - x1 * y1), .int .i64 (x0 * y1 + x1 * y0)], .int .i64 0]) :=by
 delta CW
 have HA := kh fun (W : World) => (mayMul_c x0 x1 y0 y1 W).mono fun e w' ⟨he, hg⟩ => (⟨by rw [he, h1], hg⟩ : e = Ending.returned (.bool false) ∧ Gr W w')
 have HC := kh fun (W : World) => (mayMul_c y0 y1 x0 x1 W).mono fun e w' ⟨he, hg⟩ => (⟨by rw [he, h2], hg⟩ : e = Ending.returned (.bool true) ∧ Gr W w')
 clear h2
 clear h1
 obtain ⟨a00, b00⟩ := p00
 obtain ⟨a11, b11⟩ := p11
 obtain ⟨a01, b01⟩ := p01
 obtain ⟨a10, b10⟩ := p10
 obtain ⟨a0, b0⟩ := q0
 obtain ⟨a1, b1⟩ := q1
 go_in
 go_wp2_with fail
 refine (HA.out _).mono ?_
 rintro e w1 ⟨rfl, hg1⟩
 have ca : CxAt w1 w.heap.size x0 x1 := CxAt.gr ⟨by first | (simp; done) | (simp; omega), by go_simp, by go_simp⟩ hg1
 have cb : CxAt w1 (w.heap.size + 1) y0 y1 := CxAt.gr ⟨by first | (simp; done) | (simp; omega), by go_simp, by go_simp⟩ hg1
 have cr : CxAt w1 (w.heap.size + 1 + 1) 0 0 := CxAt.gr ⟨by first | (simp; done) | (simp; omega), by go_simp, by go_simp⟩ hg1
 have FR := kh fun j => ((hg1.frozen ⟨w.heap.size + 1 + 1, j, none⟩).trans (by go_simp) : w1.frozen? ⟨w.heap.size + 1 + 1, j, none⟩ = false)
 obtain ⟨za, xa, xb⟩ := ca
 obtain ⟨zb, ya, yb⟩ := cb
 go_wp2_with fail
 refine (HC.out _).mono ?_
 rintro e w2 ⟨rfl, hg2⟩
 have ca2 := CxAt.gr ⟨za, xa, xb⟩ hg2
 have cb2 := CxAt.gr ⟨zb, ya, yb⟩ hg2
 have cr2 := cr.gr hg2
 have f0 := (hg2.frozen ⟨w.heap.size + 1 + 1, 0, none⟩ cr.lt).trans (FR.out 0)
 have f1 := (hg2.frozen ⟨w.heap.size + 1 + 1, 1, none⟩ cr.lt).trans (FR.out 1)
 obtain ⟨za2, xa2, xb2⟩ := ca2
 obtain ⟨zb2, ya2, yb2⟩ := cb2
 obtain ⟨z2, c0, c1⟩ := cr2
 go_wp2
 refine bodyPost_ret (v := .tuple #[.agg #[.int .i64 (x0 * y0 - x1 * y1), .int .i64 (x0 * y1 + x1 * y0)], .int .i64 0]) ?_ rfl ⟨rfl, ?_⟩
 ·simp [results, Tryz.results128, go_sem, c0, c1]
 ·exact (((Gr.trans (by repeat (first | exact Gr.refl _ | apply Gr.alloc)) hg1).trans hg2).setCell (by first | (simp; done) | (simp; omega)) _).setCell (by first | (simp; done) | (simp; omega)) _
theorem cxtimes_ok (x0 x1 y0 y1 : Int) (hB : (((inB 2147483648 x0 && inB 2147483648 x1) && (inB 1073741824 y0 && inB 1073741824 y1)) || ((inB 2147483648 y0 && inB 2147483648 y1) && (inB 1073741824 x0 && inB 1073741824 x1))) = true) (w : World) :
 CW 128 #[.agg #[x0, x1], .agg #[y0, y1]] w (.tuple #[.agg #[.int .i64 (x0 * y0 - x1 * y1), .int .i64 (x0 * y1 + x1 * y0)], .int .i64 0]) :=by
 delta CW
 have bd : (-2305843009213693952 ≤ x0 * y0 ∧ x0 * y0 ≤ 2305843009213693952) ∧ (-2305843009213693952 ≤ x1 * y1 ∧ x1 * y1 ≤ 2305843009213693952) ∧ (-2305843009213693952 ≤ x0 * y1 ∧ x0 * y1 ≤ 2305843009213693952) ∧ (-2305843009213693952 ≤ x1 * y0 ∧ x1 * y0 ≤ 2305843009213693952) := by
  have h := hB;simp only [Bool.or_eq_true, Bool.and_eq_true, inB_iff] at h
  rcases h with ⟨⟨⟨a0, a1⟩, b0, b1⟩, ⟨c0, c1⟩, d0, d1⟩ | ⟨⟨⟨c0, c1⟩, d0, d1⟩, ⟨a0, a1⟩, b0, b1⟩
  ·exact ⟨mul_bd 2147483648 1073741824 x0 y0 (by decide) (by decide) a0 a1 c0 c1, mul_bd 2147483648 1073741824 x1 y1 (by decide) (by decide) b0 b1 d0 d1, mul_bd 2147483648 1073741824 x0 y1 (by decide) (by decide) a0 a1 d0 d1, mul_bd 2147483648 1073741824 x1 y0 (by decide) (by decide) b0 b1 c0 c1⟩
  ·exact ⟨mul_bd 1073741824 2147483648 x0 y0 (by decide) (by decide) a0 a1 c0 c1, mul_bd 1073741824 2147483648 x1 y1 (by decide) (by decide) b0 b1 d0 d1, mul_bd 1073741824 2147483648 x0 y1 (by decide) (by decide) a0 a1 d0 d1, mul_bd 1073741824 2147483648 x1 y0 (by decide) (by decide) b0 b1 c0 c1⟩
 obtain ⟨⟨u0, u1⟩, ⟨u2, u3⟩, ⟨u4, u5⟩, u6, u7⟩ := bd
 cases h1 : ((inB 2147483648 x0 && inB 2147483648 x1) && (inB 1073741824 y0 && inB 1073741824 y1))
 ·rw [h1, Bool.false_or] at hB
  exact cxtimes_2 x0 x1 y0 y1 h1 hB ⟨by omega, by omega⟩ ⟨by omega, by omega⟩ ⟨by omega, by omega⟩ ⟨by omega, by omega⟩ ⟨by omega, by omega⟩ ⟨by omega, by omega⟩ w
 ·exact cxtimes_1 x0 x1 y0 y1 h1 ⟨by omega, by omega⟩ ⟨by omega, by omega⟩ ⟨by omega, by omega⟩ ⟨by omega, by omega⟩ ⟨by omega, by omega⟩ ⟨by omega, by omega⟩ w
end
section
open Go.ChangeShapes Go.WideShapes Go.ChangeAt Go.RowKit
set_option linter.unusedVariables false
theorem rsum_c (x0 x1 y0 y1 r0 r1 : Int) (h0 : wrap64 (x0 + y0) = r0) (h1 : wrap64 (x1 + y1) = r1) (w : World) :
 CW 82 #[.agg #[x0, x1], .agg #[y0, y1]] w (.agg #[r0, r1]) :=by
 delta CW
 go_in
 go_wp2
 refine bodyPost_ret (v := .agg #[r0, r1]) ?_ rfl ⟨rfl, ?_⟩
 ·simp [results, Tryz.results82, go_sem]
 ·exact by repeat (first | exact Gr.refl _ | assumption | apply Gr.drew | apply Gr.alloc | (refine Gr.setCell ?_ (by first | (simp; done) | (simp; omega)) _))
theorem rless_c (x0 x1 y0 y1 r0 r1 : Int) (h0 : wrap64 (x0 - y0) = r0) (h1 : wrap64 (x1 - y1) = r1) (w : World) :
 CW 81 #[.agg #[x0, x1], .agg #[y0, y1]] w (.agg #[r0, r1]) :=by
 delta CW
 go_in
 go_wp2
 refine bodyPost_ret (v := .agg #[r0, r1]) ?_ rfl ⟨rfl, ?_⟩
 ·simp [results, Tryz.results81, go_sem]
 ·exact by repeat (first | exact Gr.refl _ | assumption | apply Gr.drew | apply Gr.alloc | (refine Gr.setCell ?_ (by first | (simp; done) | (simp; omega)) _))
theorem rconj_c (x0 x1 r1 : Int) (h1 : wrap64 (-x1) = r1) (w : World) :
 CW 79 #[.agg #[x0, x1]] w (.agg #[x0, r1]) :=by
 delta CW
 go_in
 go_wp2
 refine bodyPost_ret (v := .agg #[x0, r1]) ?_ rfl ⟨rfl, ?_⟩
 ·simp [results, Tryz.results79, go_sem]
 ·exact by repeat (first | exact Gr.refl _ | assumption | apply Gr.drew | apply Gr.alloc | (refine Gr.setCell ?_ (by first | (simp; done) | (simp; omega)) _))
theorem rturn_0 (x0 x1 n t : Int) (q0 q1 : Int) (h0 : wrap64 (-x0) = q0) (h1 : wrap64 (-x1) = q1) (ht : n.tmod 4 = t) (h : t = 0) (w : World) :
 CW 80 #[.agg #[x0, x1], n] w (.agg #[x0, x1]) :=by
 delta CW
 obtain rfl := h
 all_goals
  go_in
  go_wp2
  refine bodyPost_ret (v := .agg #[x0, x1]) ?_ rfl ⟨rfl, ?_⟩
  ·simp [results, Tryz.results80, go_sem]
  ·exact by repeat (first | exact Gr.refl _ | assumption | apply Gr.drew | apply Gr.alloc | (refine Gr.setCell ?_ (by first | (simp; done) | (simp; omega)) _))
theorem rturn_1 (x0 x1 n t : Int) (q0 q1 : Int) (h0 : wrap64 (-x0) = q0) (h1 : wrap64 (-x1) = q1) (ht : n.tmod 4 = t) (h : t = 1 ∨ t = -3) (w : World) :
 CW 80 #[.agg #[x0, x1], n] w (.agg #[q1, x0]) :=by
 delta CW
 rcases h with rfl | rfl
 all_goals
  go_in
  go_wp2
  refine bodyPost_ret (v := .agg #[q1, x0]) ?_ rfl ⟨rfl, ?_⟩
  ·simp [results, Tryz.results80, go_sem]
  ·exact by repeat (first | exact Gr.refl _ | assumption | apply Gr.drew | apply Gr.alloc | (refine Gr.setCell ?_ (by first | (simp; done) | (simp; omega)) _))
theorem rturn_2 (x0 x1 n t : Int) (q0 q1 : Int) (h0 : wrap64 (-x0) = q0) (h1 : wrap64 (-x1) = q1) (ht : n.tmod 4 = t) (h : t = 2 ∨ t = -2) (w : World) :
 CW 80 #[.agg #[x0, x1], n] w (.agg #[q0, q1]) :=by
 delta CW
 rcases h with rfl | rfl
 all_goals
  go_in
  go_wp2
  refine bodyPost_ret (v := .agg #[q0, q1]) ?_ rfl ⟨rfl, ?_⟩
  ·simp [results, Tryz.results80, go_sem]
  ·exact by repeat (first | exact Gr.refl _ | assumption | apply Gr.drew | apply Gr.alloc | (refine Gr.setCell ?_ (by first | (simp; done) | (simp; omega)) _))
theorem rturn_3 (x0 x1 n t : Int) (q0 q1 : Int) (h0 : wrap64 (-x0) = q0) (h1 : wrap64 (-x1) = q1) (ht : n.tmod 4 = t) (h : t = 3 ∨ t = -1) (w : World) :
 CW 80 #[.agg #[x0, x1], n] w (.agg #[x1, q0]) :=by
 delta CW
 rcases h with rfl | rfl
 all_goals
  go_in
  go_wp2
  refine bodyPost_ret (v := .agg #[x1, q0]) ?_ rfl ⟨rfl, ?_⟩
  ·simp [results, Tryz.results80, go_sem]
  ·exact by repeat (first | exact Gr.refl _ | assumption | apply Gr.drew | apply Gr.alloc | (refine Gr.setCell ?_ (by first | (simp; done) | (simp; omega)) _))
theorem rtimes_c (x0 x1 y0 y1 p00 p11 p01 p10 r0 r1 : Int) (k0 : wrap64 (x0 * y0) = p00) (k1 : wrap64 (x1 * y1) = p11) (k2 : wrap64 (x0 * y1) = p01) (k3 : wrap64 (x1 * y0) = p10) (h0 : wrap64 (p00 - p11) = r0) (h1 : wrap64 (p01 + p10) = r1) (w : World) :
 CW 84 #[.agg #[x0, x1], .agg #[y0, y1]] w (.agg #[r0, r1]) :=by
 delta CW
 go_in
 go_wp2
 refine bodyPost_ret (v := .agg #[r0, r1]) ?_ rfl ⟨rfl, ?_⟩
 ·simp [results, Tryz.results84, go_sem]
 ·exact by repeat (first | exact Gr.refl _ | assumption | apply Gr.drew | apply Gr.alloc | (refine Gr.setCell ?_ (by first | (simp; done) | (simp; omega)) _))
end
section
open Go.ChangeShapes Go.WideShapes Go.ChangeAt Go.RowKit
set_option linter.unusedVariables false
theorem tmod4 (n : Int) : (n.tmod 4 = n % 4) ∨ (n.tmod 4 = n % 4 - 4 ∧ n % 4 ≠ 0) := by
 rcases Int.le_total 0 n with h | h
 ·exact .inl (Int.tmod_eq_emod_of_nonneg h)
 ·have e : n.tmod 4 = -((-n) % 4) := by
   rw [← Int.tmod_eq_emod_of_nonneg (show 0 ≤ -n by omega), Int.neg_tmod, Int.neg_neg]
  omega
theorem and3 (n : Int) : bits .and .i64 n 3 = n % 4 := bits_mask n 2 (by omega)
end
end Go.Proofs.YtdignnmpfkgkoaaGreat
