/- What package cx's within answers in one piece, and which numbers may be multiplied. -/
import Derived.Test.YtkbfniogannlhaaCx3
namespace Go.Proofs.Ytkbfniogannlhaa
open Go.ChangeShapes Go.WideShapes Go.ChangeAt Go.RowKit
set_option linter.unusedVariables false

theorem within1_one (p : Nat) (HE : Enters p) (pn pl k : Nat) (l x00 x01 v0 : Int) (w : World) (HP0 : Hid (∀ W, Calls Try.prog p #[.agg #[.int .i64 x00, .int .i64 x01]] W fun e w' => e = .returned (.int .i64 v0) ∧ Gr W w'))
    (hn : w.cell? ⟨pn, 0, none⟩ = some (.slice (some ⟨k, 0, none⟩) 1 1)) (ln : pn < w.heap.size) (hlw : w.cell? ⟨pl, 0, none⟩ = some (.int .i64 l)) (llw : pl < w.heap.size)
    (lk : k < w.heap.size) (c00 : w.cell? ⟨k, 0, none⟩ = some (.int .i64 x00)) (c01 : w.cell? ⟨k, 1, none⟩ = some (.int .i64 x01)) (l0 : 0 ≤ l) (l1 : l ≤ 4611686018427387904) :
    Calls Try.prog 65 #[.func (.func p) #[] #[], .pointer (some ⟨pn, 0, none⟩), .pointer (some ⟨pl, 0, none⟩)] w fun e w' => e = .returned (.bool (inB l v0)) ∧ Gr w w' := by
  by_cases a : v0 < -l
  · rw [inB_false (.inl a)]
    exact within1_1_l p HE pn pl k l x00 x01 v0 w HP0 hn ln hlw llw lk c00 c01 l0 l1 (decide_eq_true a)
  · by_cases b : l < v0
    · rw [inB_false (.inr b)]
      exact within1_1_h p HE pn pl k l x00 x01 v0 w HP0 hn ln hlw llw lk c00 c01 l0 l1 (decide_eq_false a) (decide_eq_true b)
    · rw [inB_true (by omega) (by omega)]
      exact within1_1_o p HE pn pl k l x00 x01 v0 w HP0 hn ln hlw llw lk c00 c01 l0 l1 (decide_eq_false a) (decide_eq_false b)

theorem within1_two (p : Nat) (HE : Enters p) (pn pl k : Nat) (l x00 x01 v0 x10 x11 v1 : Int) (w : World) (HP0 : Hid (∀ W, Calls Try.prog p #[.agg #[.int .i64 x00, .int .i64 x01]] W fun e w' => e = .returned (.int .i64 v0) ∧ Gr W w'))
    (HP1 : Hid (∀ W, Calls Try.prog p #[.agg #[.int .i64 x10, .int .i64 x11]] W fun e w' => e = .returned (.int .i64 v1) ∧ Gr W w'))
    (hn : w.cell? ⟨pn, 0, none⟩ = some (.slice (some ⟨k, 0, none⟩) 2 2)) (ln : pn < w.heap.size) (hlw : w.cell? ⟨pl, 0, none⟩ = some (.int .i64 l)) (llw : pl < w.heap.size)
    (lk : k < w.heap.size) (c00 : w.cell? ⟨k, 0, none⟩ = some (.int .i64 x00)) (c01 : w.cell? ⟨k, 1, none⟩ = some (.int .i64 x01)) (c10 : w.cell? ⟨k, 2, none⟩ = some (.int .i64 x10)) (c11 : w.cell? ⟨k, 3, none⟩ = some (.int .i64 x11)) (l0 : 0 ≤ l) (l1 : l ≤ 4611686018427387904) :
    Calls Try.prog 65 #[.func (.func p) #[] #[], .pointer (some ⟨pn, 0, none⟩), .pointer (some ⟨pl, 0, none⟩)] w fun e w' => e = .returned (.bool (inB l v0 && inB l v1)) ∧ Gr w w' := by
  by_cases a : v0 < -l
  · rw [inB_false (.inl a)]
    exact within1_2_l p HE pn pl k l x00 x01 v0 x10 x11 v1 w HP0 HP1 hn ln hlw llw lk c00 c01 c10 c11 l0 l1 (decide_eq_true a)
  · by_cases b : l < v0
    · rw [inB_false (.inr b)]
      exact within1_2_h p HE pn pl k l x00 x01 v0 x10 x11 v1 w HP0 HP1 hn ln hlw llw lk c00 c01 c10 c11 l0 l1 (decide_eq_false a) (decide_eq_true b)
    · rw [inB_true (show -l ≤ v0 by omega) (by omega)]
      by_cases a1 : v1 < -l
      · rw [inB_false (.inl a1)]
        exact within1_2_ol p HE pn pl k l x00 x01 v0 x10 x11 v1 w HP0 HP1 hn ln hlw llw lk c00 c01 c10 c11 l0 l1 (decide_eq_false a) (decide_eq_false b) (decide_eq_true a1)
      · by_cases b1 : l < v1
        · rw [inB_false (.inr b1)]
          exact within1_2_oh p HE pn pl k l x00 x01 v0 x10 x11 v1 w HP0 HP1 hn ln hlw llw lk c00 c01 c10 c11 l0 l1 (decide_eq_false a) (decide_eq_false b) (decide_eq_false a1) (decide_eq_true b1)
        · rw [inB_true (by omega) (by omega)]
          exact within1_2_oo p HE pn pl k l x00 x01 v0 x10 x11 v1 w HP0 HP1 hn ln hlw llw lk c00 c01 c10 c11 l0 l1 (decide_eq_false a) (decide_eq_false b) (decide_eq_false a1) (decide_eq_false b1)

theorem enters_re : Enters 69 := enters_of Try.func69 (by kernel_rfl) (by kernel_rfl)
theorem enters_im : Enters 70 := enters_of Try.func70 (by kernel_rfl) (by kernel_rfl)
theorem enters_within1 : Enters 65 := enters_of Try.func65 (by kernel_rfl) (by kernel_rfl)

theorem within_one (k : Nat) (l x0 x1 : Int) (l0 : 0 ≤ l) (l1 : l ≤ 4611686018427387904) (w : World) (hk : CxAt w k x0 x1) :
    Calls Try.prog 54 #[.int .i64 l, .slice (some ⟨k, 0, none⟩) 1 1] w fun e w' => e = .returned (.bool (inB l x0 && inB l x1)) ∧ Gr w w' := by
  have HB := Lib.hid fun (W : World) (pn pl : Nat) (hn : W.cell? ⟨pn, 0, none⟩ = some (.slice (some ⟨k, 0, none⟩) 1 1)) (ln : pn < W.heap.size) (hl : W.cell? ⟨pl, 0, none⟩ = some (.int .i64 l)) (ll : pl < W.heap.size) (g : Gr w W) =>
    both_bool 65 #[.pointer (some ⟨pn, 0, none⟩), .pointer (some ⟨pl, 0, none⟩)] (inB l x0) (inB l x1) W enters_within1
      (Lib.hid fun V gv => within1_one 69 enters_re pn pl k l x0 x1 x0 V (Lib.hid (re_g x0 x1)) ((gv.cell (p := ⟨pn, 0, none⟩) ln).trans hn) (Nat.lt_of_lt_of_le ln gv.size) ((gv.cell (p := ⟨pl, 0, none⟩) ll).trans hl) (Nat.lt_of_lt_of_le ll gv.size) ((hk.gr g).gr gv).lt ((hk.gr g).gr gv).c0 ((hk.gr g).gr gv).c1 l0 l1)
      (Lib.hid fun V gv => within1_one 70 enters_im pn pl k l x0 x1 x1 V (Lib.hid (im_g x0 x1)) ((gv.cell (p := ⟨pn, 0, none⟩) ln).trans hn) (Nat.lt_of_lt_of_le ln gv.size) ((gv.cell (p := ⟨pl, 0, none⟩) ll).trans hl) (Nat.lt_of_lt_of_le ll gv.size) ((hk.gr g).gr gv).lt ((hk.gr g).gr gv).c0 ((hk.gr g).gr gv).c1 l0 l1)
  generalize inB l x0 = X at HB ⊢
  generalize inB l x1 = Y at HB ⊢
  clear hk l0 l1
  cases X <;> cases Y
  all_goals
    go_enter Try.func54, Try.ntmps54
    go_wp2_with fail
    refine (HB.out _ _ _ ?_ ?_ ?_ ?_ ?_).mono ?_
    · go_simp
    · simp
    · go_simp
    · simp; omega
    · exact ((Gr.refl w).alloc _ _).alloc _ _
    · rintro e w1 ⟨rfl, hg⟩
      go_wp2
      go_ret
      exact ⟨rfl, Gr.trans (by repeat (first | exact Gr.refl _ | assumption | apply Gr.drew | apply Gr.alloc)) hg⟩

/-- Two complex numbers lie in memory, one behind the other. -/
structure CxAt2 (w : World) (p : Nat) (x y x' y' : Int) : Prop where
  lt : p < w.heap.size
  c0 : w.cell? ⟨p, 0, none⟩ = some (.int .i64 x)
  c1 : w.cell? ⟨p, 1, none⟩ = some (.int .i64 y)
  c2 : w.cell? ⟨p, 2, none⟩ = some (.int .i64 x')
  c3 : w.cell? ⟨p, 3, none⟩ = some (.int .i64 y')
theorem CxAt2.gr {w W : World} {p : Nat} {x y x' y' : Int} (h : CxAt2 w p x y x' y') (g : Gr w W) : CxAt2 W p x y x' y' :=
  ⟨Nat.lt_of_lt_of_le h.lt g.size, (g.cell (p := ⟨p, 0, none⟩) h.lt).trans h.c0, (g.cell (p := ⟨p, 1, none⟩) h.lt).trans h.c1, (g.cell (p := ⟨p, 2, none⟩) h.lt).trans h.c2, (g.cell (p := ⟨p, 3, none⟩) h.lt).trans h.c3⟩

theorem within_two (k : Nat) (l x0 x1 y0 y1 : Int) (l0 : 0 ≤ l) (l1 : l ≤ 4611686018427387904) (w : World) (hk : CxAt2 w k x0 x1 y0 y1) :
    Calls Try.prog 54 #[.int .i64 l, .slice (some ⟨k, 0, none⟩) 2 2] w fun e w' => e = .returned (.bool ((inB l x0 && inB l y0) && (inB l x1 && inB l y1))) ∧ Gr w w' := by
  have HB := Lib.hid fun (W : World) (pn pl : Nat) (hn : W.cell? ⟨pn, 0, none⟩ = some (.slice (some ⟨k, 0, none⟩) 2 2)) (ln : pn < W.heap.size) (hl : W.cell? ⟨pl, 0, none⟩ = some (.int .i64 l)) (ll : pl < W.heap.size) (g : Gr w W) =>
    both_bool 65 #[.pointer (some ⟨pn, 0, none⟩), .pointer (some ⟨pl, 0, none⟩)] (inB l x0 && inB l y0) (inB l x1 && inB l y1) W enters_within1
      (Lib.hid fun V gv => within1_two 69 enters_re pn pl k l x0 x1 x0 y0 y1 y0 V (Lib.hid (re_g x0 x1)) (Lib.hid (re_g y0 y1)) ((gv.cell (p := ⟨pn, 0, none⟩) ln).trans hn) (Nat.lt_of_lt_of_le ln gv.size) ((gv.cell (p := ⟨pl, 0, none⟩) ll).trans hl) (Nat.lt_of_lt_of_le ll gv.size) ((hk.gr g).gr gv).lt ((hk.gr g).gr gv).c0 ((hk.gr g).gr gv).c1 ((hk.gr g).gr gv).c2 ((hk.gr g).gr gv).c3 l0 l1)
      (Lib.hid fun V gv => within1_two 70 enters_im pn pl k l x0 x1 x1 y0 y1 y1 V (Lib.hid (im_g x0 x1)) (Lib.hid (im_g y0 y1)) ((gv.cell (p := ⟨pn, 0, none⟩) ln).trans hn) (Nat.lt_of_lt_of_le ln gv.size) ((gv.cell (p := ⟨pl, 0, none⟩) ll).trans hl) (Nat.lt_of_lt_of_le ll gv.size) ((hk.gr g).gr gv).lt ((hk.gr g).gr gv).c0 ((hk.gr g).gr gv).c1 ((hk.gr g).gr gv).c2 ((hk.gr g).gr gv).c3 l0 l1)
  generalize (inB l x0 && inB l y0) = X at HB ⊢
  generalize (inB l x1 && inB l y1) = Y at HB ⊢
  clear hk l0 l1
  cases X <;> cases Y
  all_goals
    go_enter Try.func54, Try.ntmps54
    go_wp2_with fail
    refine (HB.out _ _ _ ?_ ?_ ?_ ?_ ?_).mono ?_
    · go_simp
    · simp
    · go_simp
    · simp; omega
    · exact ((Gr.refl w).alloc _ _).alloc _ _
    · rintro e w1 ⟨rfl, hg⟩
      go_wp2
      go_ret
      exact ⟨rfl, Gr.trans (by repeat (first | exact Gr.refl _ | assumption | apply Gr.drew | apply Gr.alloc)) hg⟩

end Go.Proofs.Ytkbfniogannlhaa
