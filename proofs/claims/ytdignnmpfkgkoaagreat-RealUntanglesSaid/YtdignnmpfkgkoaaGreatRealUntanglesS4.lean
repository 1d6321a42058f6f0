import Derived.ChangeSlices
import Derived.Test.YtdignnmpfkgkoaaGreatRealUntanglesS3
namespace Go.Proofs.YtdignnmpfkgkoaaGreat
section
open Go.ChangeShapes Go.WideShapes Go.ChangeAt Go.RowKit
set_option linter.unusedVariables false
set_option linter.unusedSimpArgs false
set_option maxRecDepth 100000
theorem isOneOf_c (v f m l : Int) (hl : wrap64 (f + m) = l) (b : Bool) (hb : decide (f ≤ v ∧ v < l) = b) (w : World) :
 Calls Tryz.prog 164 #[.int .i64 v, .int .i64 f, .int .i64 m] w fun e w' => e = .returned (.bool b) ∧ w' = w := by
 subst hb
 by_cases h1 : f ≤ v
 ·by_cases h2 : v < l
  ·have e : decide (f ≤ v ∧ v < l) = true := by simp [h1, h2]
   rw [e]
   go_enter Tryz.func164, Tryz.ntmps164
   go_wp2_with fail
   go_ret
   exact ⟨rfl, rfl⟩
  ·have e : decide (f ≤ v ∧ v < l) = false := by simp [h2]
   rw [e]
   go_enter Tryz.func164, Tryz.ntmps164
   go_wp2_with fail
   go_ret
   exact ⟨rfl, rfl⟩
 ·have e : decide (f ≤ v ∧ v < l) = false := by simp [h1]
  rw [e]
  go_enter Tryz.func164, Tryz.ntmps164
  go_wp2_with fail
  go_ret
  exact ⟨rfl, rfl⟩
theorem one_c (v m : Int) (b : Bool) (hb : decide (0 ≤ v ∧ v < m + 1) = b) (w : World) :
 Calls Tryz.prog 75 #[.int .i64 v, .int .i64 m] w fun e w' => e = .returned (.bool b) ∧ w' = w := by
 subst hb
 by_cases h1 : 0 ≤ v
 ·by_cases h2 : v ≤ m
  ·have e : decide (0 ≤ v ∧ v < m + 1) = true := by simp [h1]; omega
   rw [e]
   go_enter Tryz.func75, Tryz.ntmps75
   go_wp2_with fail
   go_ret
   exact ⟨rfl, rfl⟩
  ·have e : decide (0 ≤ v ∧ v < m + 1) = false := by simp; omega
   rw [e]
   go_enter Tryz.func75, Tryz.ntmps75
   go_wp2_with fail
   go_ret
   exact ⟨rfl, rfl⟩
 ·have e : decide (0 ≤ v ∧ v < m + 1) = false := by simp [h1]
  rw [e]
  go_enter Tryz.func75, Tryz.ntmps75
  go_wp2_with fail
  go_ret
  exact ⟨rfl, rfl⟩
set_option maxHeartbeats 2000000 in
theorem fieldsMayBe_g (fo lo ke sc mo : Int) (iv b0 b1 b2 b3 b4 : Bool) (H0 : Hid (∀ W, Calls Tryz.prog 164 #[.int .i64 fo, .int .i64 0, .int .i64 2] W fun e w' => e = .returned (.bool b0) ∧ w' = W)) (H1 : Hid (∀ W, Calls Tryz.prog 164 #[.int .i64 lo, .int .i64 2, .int .i64 5] W fun e w' => e = .returned (.bool b1) ∧ w' = W)) (H2 : Hid (∀ W, Calls Tryz.prog 164 #[.int .i64 ke, .int .i64 0, .int .i64 3] W fun e w' => e = .returned (.bool b2) ∧ w' = W)) (H3 : Hid (∀ W, Calls Tryz.prog 164 #[.int .i64 sc, .int .i64 0, .int .i64 3] W fun e w' => e = .returned (.bool b3) ∧ w' = W)) (H4 : Hid (∀ W, Calls Tryz.prog 164 #[.int .i64 mo, .int .i64 0, .int .i64 3] W fun e w' => e = .returned (.bool b4) ∧ w' = W)) (w : World) :
 CW 123 #[.agg #[.int .i64 fo, .int .i64 lo, .int .i64 ke, .int .i64 sc, .int .i64 mo, .bool iv]] w (.bool (b0 && (b1 && (b2 && (b3 && b4))))) :=by
 delta CW
 cases b0
 ·skip
  go_enter Tryz.func123, Tryz.ntmps123
  go_wp2_with (go_at_call 164; (first | with_reducible refine (H0.out _).mono ?_ | with_reducible refine (H1.out _).mono ?_ | with_reducible refine (H2.out _).mono ?_ | with_reducible refine (H3.out _).mono ?_ | with_reducible refine (H4.out _).mono ?_); rintro e w1 ⟨rfl, rfl⟩)
  go_ret
  exact ⟨rfl, by repeat (first | exact Gr.refl _ | apply Gr.drew | apply Gr.alloc)⟩
 ·skip
  cases b1
  ·skip
   go_enter Tryz.func123, Tryz.ntmps123
   go_wp2_with (go_at_call 164; (first | with_reducible refine (H0.out _).mono ?_ | with_reducible refine (H1.out _).mono ?_ | with_reducible refine (H2.out _).mono ?_ | with_reducible refine (H3.out _).mono ?_ | with_reducible refine (H4.out _).mono ?_); rintro e w1 ⟨rfl, rfl⟩)
   go_ret
   exact ⟨rfl, by repeat (first | exact Gr.refl _ | apply Gr.drew | apply Gr.alloc)⟩
  ·skip
   cases b2
   ·skip
    go_enter Tryz.func123, Tryz.ntmps123
    go_wp2_with (go_at_call 164; (first | with_reducible refine (H0.out _).mono ?_ | with_reducible refine (H1.out _).mono ?_ | with_reducible refine (H2.out _).mono ?_ | with_reducible refine (H3.out _).mono ?_ | with_reducible refine (H4.out _).mono ?_); rintro e w1 ⟨rfl, rfl⟩)
    go_ret
    exact ⟨rfl, by repeat (first | exact Gr.refl _ | apply Gr.drew | apply Gr.alloc)⟩
   ·skip
    cases b3
    ·skip
     go_enter Tryz.func123, Tryz.ntmps123
     go_wp2_with (go_at_call 164; (first | with_reducible refine (H0.out _).mono ?_ | with_reducible refine (H1.out _).mono ?_ | with_reducible refine (H2.out _).mono ?_ | with_reducible refine (H3.out _).mono ?_ | with_reducible refine (H4.out _).mono ?_); rintro e w1 ⟨rfl, rfl⟩)
     go_ret
     exact ⟨rfl, by repeat (first | exact Gr.refl _ | apply Gr.drew | apply Gr.alloc)⟩
    ·skip
     cases b4
     ·skip
      go_enter Tryz.func123, Tryz.ntmps123
      go_wp2_with (go_at_call 164; (first | with_reducible refine (H0.out _).mono ?_ | with_reducible refine (H1.out _).mono ?_ | with_reducible refine (H2.out _).mono ?_ | with_reducible refine (H3.out _).mono ?_ | with_reducible refine (H4.out _).mono ?_); rintro e w1 ⟨rfl, rfl⟩)
      go_ret
      exact ⟨rfl, by repeat (first | exact Gr.refl _ | apply Gr.drew | apply Gr.alloc)⟩
     ·skip
      go_enter Tryz.func123, Tryz.ntmps123
      go_wp2_with (go_at_call 164; (first | with_reducible refine (H0.out _).mono ?_ | with_reducible refine (H1.out _).mono ?_ | with_reducible refine (H2.out _).mono ?_ | with_reducible refine (H3.out _).mono ?_ | with_reducible refine (H4.out _).mono ?_); rintro e w1 ⟨rfl, rfl⟩)
      go_ret
      exact ⟨rfl, by repeat (first | exact Gr.refl _ | apply Gr.drew | apply Gr.alloc)⟩
theorem fieldsMayBe_c (fo lo ke sc mo : Int) (iv : Bool) (w : World) :
 Calls Tryz.prog 123 #[.agg #[.int .i64 fo, .int .i64 lo, .int .i64 ke, .int .i64 sc, .int .i64 mo, .bool iv]] w fun e w' => e = .returned (.bool (fieldsOk fo lo ke sc mo)) ∧ Gr w w' :=
 fieldsMayBe_g fo lo ke sc mo iv _ _ _ _ _ (Lib.hid fun W => isOneOf_c fo 0 2 2 (by rw [IntWalk.wrap64_in _ ⟨by omega, by omega⟩]; rfl) _ rfl W) (Lib.hid fun W => isOneOf_c lo 2 5 7 (by rw [IntWalk.wrap64_in _ ⟨by omega, by omega⟩]; rfl) _ rfl W) (Lib.hid fun W => isOneOf_c ke 0 3 3 (by rw [IntWalk.wrap64_in _ ⟨by omega, by omega⟩]; rfl) _ rfl W) (Lib.hid fun W => isOneOf_c sc 0 3 3 (by rw [IntWalk.wrap64_in _ ⟨by omega, by omega⟩]; rfl) _ rfl W) (Lib.hid fun W => isOneOf_c mo 0 3 3 (by rw [IntWalk.wrap64_in _ ⟨by omega, by omega⟩]; rfl) _ rfl W) w
set_option maxHeartbeats 1000000 in
theorem check_g (fo lo ke sc mo : Int) (iv b : Bool) (HF : CR 123 #[.agg #[.int .i64 fo, .int .i64 lo, .int .i64 ke, .int .i64 sc, .int .i64 mo, .bool iv]] (.bool b)) (w : World) :
 CW 71 #[.agg #[.int .i64 fo, .int .i64 lo, .int .i64 ke, .int .i64 sc, .int .i64 mo, .bool iv]] w (.int .i64 (if (b && !(decide (ke = 2) && !decide (sc = 0))) = true then 0 else 4)) :=by
 delta CW
 cases b
 ·skip
  go_enter Tryz.func71, Tryz.ntmps71
  go_wp2_with fail
  obtain ⟨u0, hu⟩ : ∃ uu, uu = w.alloc (.cells #[.int .i64 fo, .int .i64 lo, .int .i64 ke, .int .i64 sc, .int .i64 mo, .bool iv] 24) := ⟨_, rfl⟩
  have R0 : CellsAt u0 w.heap.size 24 #[.int .i64 fo, .int .i64 lo, .int .i64 ke, .int .i64 sc, .int .i64 mo, .bool iv] := by rw [hu]; exact CellsAt.new w 24 #[.int .i64 fo, .int .i64 lo, .int .i64 ke, .int .i64 sc, .int .i64 mo, .bool iv]
  have gu : Gr w u0 := by rw [hu]; exact (Gr.refl w).alloc _ _
  rw [← hu]
  clear hu
  refine (HF.out _).mono ?_
  rintro e w1 ⟨rfl, g1⟩
  have R1 := R0.gr g1
  have l1 := R1.lt
  have c2 := R1.cell 2
  have c3 := R1.cell 3
  simp only [getS] at c2 c3
  go_wp2_with fail
  go_ret
  exact ⟨rfl, by repeat (first | exact gu.trans g1 | apply Gr.drew | apply Gr.alloc)⟩
 by_cases hk : ke = 2
 ·subst hk
  by_cases hs : sc = 0
  ·subst hs
   go_enter Tryz.func71, Tryz.ntmps71
   go_wp2_with fail
   obtain ⟨u0, hu⟩ : ∃ uu, uu = w.alloc (.cells #[.int .i64 fo, .int .i64 lo, .int .i64 2, .int .i64 0, .int .i64 mo, .bool iv] 24) := ⟨_, rfl⟩
   have R0 : CellsAt u0 w.heap.size 24 #[.int .i64 fo, .int .i64 lo, .int .i64 2, .int .i64 0, .int .i64 mo, .bool iv] := by rw [hu]; exact CellsAt.new w 24 #[.int .i64 fo, .int .i64 lo, .int .i64 2, .int .i64 0, .int .i64 mo, .bool iv]
   have gu : Gr w u0 := by rw [hu]; exact (Gr.refl w).alloc _ _
   rw [← hu]
   clear hu
   refine (HF.out _).mono ?_
   rintro e w1 ⟨rfl, g1⟩
   have R1 := R0.gr g1
   have l1 := R1.lt
   have c2 := R1.cell 2
   have c3 := R1.cell 3
   simp only [getS] at c2 c3
   go_wp2_with fail
   go_ret
   exact ⟨rfl, by repeat (first | exact gu.trans g1 | apply Gr.drew | apply Gr.alloc)⟩
  ·have hs' : (sc != 0) = true := by simp [hs]
   have e : (if (true && !(decide ((2 : Int) = 2) && !decide (sc = 0))) = true then (0 : Int) else 4) = 4 := by simp [hs]
   rw [e]
   go_enter Tryz.func71, Tryz.ntmps71
   go_wp2_with fail
   obtain ⟨u0, hu⟩ : ∃ uu, uu = w.alloc (.cells #[.int .i64 fo, .int .i64 lo, .int .i64 2, .int .i64 sc, .int .i64 mo, .bool iv] 24) := ⟨_, rfl⟩
   have R0 : CellsAt u0 w.heap.size 24 #[.int .i64 fo, .int .i64 lo, .int .i64 2, .int .i64 sc, .int .i64 mo, .bool iv] := by rw [hu]; exact CellsAt.new w 24 #[.int .i64 fo, .int .i64 lo, .int .i64 2, .int .i64 sc, .int .i64 mo, .bool iv]
   have gu : Gr w u0 := by rw [hu]; exact (Gr.refl w).alloc _ _
   rw [← hu]
   clear hu
   refine (HF.out _).mono ?_
   rintro e w1 ⟨rfl, g1⟩
   have R1 := R0.gr g1
   have l1 := R1.lt
   have c2 := R1.cell 2
   have c3 := R1.cell 3
   simp only [getS] at c2 c3
   go_wp2_with fail
   go_ret
   exact ⟨rfl, by repeat (first | exact gu.trans g1 | apply Gr.drew | apply Gr.alloc)⟩
 ·have hk' : (ke == 2) = false := by simp [hk]
  have e : (if (true && !(decide (ke = 2) && !decide (sc = 0))) = true then (0 : Int) else 4) = 0 := by simp [hk]
  rw [e]
  go_enter Tryz.func71, Tryz.ntmps71
  go_wp2_with fail
  obtain ⟨u0, hu⟩ : ∃ uu, uu = w.alloc (.cells #[.int .i64 fo, .int .i64 lo, .int .i64 ke, .int .i64 sc, .int .i64 mo, .bool iv] 24) := ⟨_, rfl⟩
  have R0 : CellsAt u0 w.heap.size 24 #[.int .i64 fo, .int .i64 lo, .int .i64 ke, .int .i64 sc, .int .i64 mo, .bool iv] := by rw [hu]; exact CellsAt.new w 24 #[.int .i64 fo, .int .i64 lo, .int .i64 ke, .int .i64 sc, .int .i64 mo, .bool iv]
  have gu : Gr w u0 := by rw [hu]; exact (Gr.refl w).alloc _ _
  rw [← hu]
  clear hu
  refine (HF.out _).mono ?_
  rintro e w1 ⟨rfl, g1⟩
  have R1 := R0.gr g1
  have l1 := R1.lt
  have c2 := R1.cell 2
  have c3 := R1.cell 3
  simp only [getS] at c2 c3
  go_wp2_with fail
  go_ret
  exact ⟨rfl, by repeat (first | exact gu.trans g1 | apply Gr.drew | apply Gr.alloc)⟩
theorem check_c (fo lo ke sc mo : Int) (iv : Bool) (er : Int) (he : (if okF fo lo ke sc mo = true then 0 else 4) = er) (w : World) :
 CW 71 #[.agg #[.int .i64 fo, .int .i64 lo, .int .i64 ke, .int .i64 sc, .int .i64 mo, .bool iv]] w (.int .i64 er) :=by
 delta CW
 subst he
 exact check_g fo lo ke sc mo iv _ (Lib.hid fun W => fieldsMayBe_c fo lo ke sc mo iv W) w
set_option maxHeartbeats 4000000 in
theorem refCheck_g (fo lo ke sc mo : Int) (iv b0 b1 b2 b3 : Bool) (hk : ¬ (ke = 2 ∧ ¬ sc = 0)) (H0 : Hid (∀ W, Calls Tryz.prog 75 #[.int .i64 fo, .int .i64 1] W fun e w' => e = .returned (.bool b0) ∧ w' = W)) (H1 : Hid (∀ W, Calls Tryz.prog 75 #[.int .i64 ke, .int .i64 2] W fun e w' => e = .returned (.bool b1) ∧ w' = W)) (H2 : Hid (∀ W, Calls Tryz.prog 75 #[.int .i64 sc, .int .i64 2] W fun e w' => e = .returned (.bool b2) ∧ w' = W)) (H3 : Hid (∀ W, Calls Tryz.prog 75 #[.int .i64 mo, .int .i64 2] W fun e w' => e = .returned (.bool b3) ∧ w' = W)) (w : World) :
 CW 37 #[.agg #[.int .i64 fo, .int .i64 lo, .int .i64 ke, .int .i64 sc, .int .i64 mo, .bool iv]] w (.bool (b0 && (decide (2 ≤ lo) && (decide (lo ≤ 6) && (b1 && (b2 && b3)))))) :=by
 delta CW
 have hc : (ke = 2 ∧ sc = 0) ∨ ((ke == 2) = false ∧ ¬ ke = 2) := by
  by_cases k : ke = 2
  ·exact .inl ⟨k, Decidable.byContradiction fun s => hk ⟨k, s⟩⟩
  ·exact .inr ⟨by simp [k], k⟩
 clear hk
 rcases hc with ⟨rfl, rfl⟩ | ⟨hk1, hk2⟩
 ·skip
  cases b0
  ·skip
   go_enter Tryz.func37, Tryz.ntmps37
   go_wp2_with (go_at_call 75; (first | with_reducible refine (H0.out _).mono ?_ | with_reducible refine (H1.out _).mono ?_ | with_reducible refine (H2.out _).mono ?_ | with_reducible refine (H3.out _).mono ?_); rintro e w1 ⟨rfl, rfl⟩)
   go_ret
   exact ⟨rfl, by repeat (first | exact Gr.refl _ | apply Gr.drew | apply Gr.alloc)⟩
  ·skip
   by_cases h1 : 2 ≤ lo
   ·skip
    simp only [h1, decide_true, Bool.true_and, Bool.and_true]
    by_cases h2 : lo ≤ 6
    ·skip
     simp only [h2, decide_true, Bool.true_and, Bool.and_true]
     cases b1
     ·skip
      go_enter Tryz.func37, Tryz.ntmps37
      go_wp2_with (go_at_call 75; (first | with_reducible refine (H0.out _).mono ?_ | with_reducible refine (H1.out _).mono ?_ | with_reducible refine (H2.out _).mono ?_ | with_reducible refine (H3.out _).mono ?_); rintro e w1 ⟨rfl, rfl⟩)
      go_ret
      exact ⟨rfl, by repeat (first | exact Gr.refl _ | apply Gr.drew | apply Gr.alloc)⟩
     ·skip
      cases b2
      ·skip
       go_enter Tryz.func37, Tryz.ntmps37
       go_wp2_with (go_at_call 75; (first | with_reducible refine (H0.out _).mono ?_ | with_reducible refine (H1.out _).mono ?_ | with_reducible refine (H2.out _).mono ?_ | with_reducible refine (H3.out _).mono ?_); rintro e w1 ⟨rfl, rfl⟩)
       go_ret
       exact ⟨rfl, by repeat (first | exact Gr.refl _ | apply Gr.drew | apply Gr.alloc)⟩
      ·skip
       cases b3
       ·skip
        go_enter Tryz.func37, Tryz.ntmps37
        go_wp2_with (go_at_call 75; (first | with_reducible refine (H0.out _).mono ?_ | with_reducible refine (H1.out _).mono ?_ | with_reducible refine (H2.out _).mono ?_ | with_reducible refine (H3.out _).mono ?_); rintro e w1 ⟨rfl, rfl⟩)
        go_ret
        exact ⟨rfl, by repeat (first | exact Gr.refl _ | apply Gr.drew | apply Gr.alloc)⟩
       ·skip
        go_enter Tryz.func37, Tryz.ntmps37
        go_wp2_with (go_at_call 75; (first | with_reducible refine (H0.out _).mono ?_ | with_reducible refine (H1.out _).mono ?_ | with_reducible refine (H2.out _).mono ?_ | with_reducible refine (H3.out _).mono ?_); rintro e w1 ⟨rfl, rfl⟩)
        go_ret
        exact ⟨rfl, by repeat (first | exact Gr.refl _ | apply Gr.drew | apply Gr.alloc)⟩
    ·skip
     simp only [h2, decide_false, Bool.false_and, Bool.and_false]
     go_enter Tryz.func37, Tryz.ntmps37
     go_wp2_with (go_at_call 75; (first | with_reducible refine (H0.out _).mono ?_ | with_reducible refine (H1.out _).mono ?_ | with_reducible refine (H2.out _).mono ?_ | with_reducible refine (H3.out _).mono ?_); rintro e w1 ⟨rfl, rfl⟩)
     go_ret
     exact ⟨rfl, by repeat (first | exact Gr.refl _ | apply Gr.drew | apply Gr.alloc)⟩
   ·skip
    simp only [h1, decide_false, Bool.false_and, Bool.and_false]
    go_enter Tryz.func37, Tryz.ntmps37
    go_wp2_with (go_at_call 75; (first | with_reducible refine (H0.out _).mono ?_ | with_reducible refine (H1.out _).mono ?_ | with_reducible refine (H2.out _).mono ?_ | with_reducible refine (H3.out _).mono ?_); rintro e w1 ⟨rfl, rfl⟩)
    go_ret
    exact ⟨rfl, by repeat (first | exact Gr.refl _ | apply Gr.drew | apply Gr.alloc)⟩
 ·skip
  cases b0
  ·skip
   go_enter Tryz.func37, Tryz.ntmps37
   go_wp2_with (go_at_call 75; (first | with_reducible refine (H0.out _).mono ?_ | with_reducible refine (H1.out _).mono ?_ | with_reducible refine (H2.out _).mono ?_ | with_reducible refine (H3.out _).mono ?_); rintro e w1 ⟨rfl, rfl⟩)
   go_ret
   exact ⟨rfl, by repeat (first | exact Gr.refl _ | apply Gr.drew | apply Gr.alloc)⟩
  ·skip
   by_cases h1 : 2 ≤ lo
   ·skip
    simp only [h1, decide_true, Bool.true_and, Bool.and_true]
    by_cases h2 : lo ≤ 6
    ·skip
     simp only [h2, decide_true, Bool.true_and, Bool.and_true]
     cases b1
     ·skip
      go_enter Tryz.func37, Tryz.ntmps37
      go_wp2_with (go_at_call 75; (first | with_reducible refine (H0.out _).mono ?_ | with_reducible refine (H1.out _).mono ?_ | with_reducible refine (H2.out _).mono ?_ | with_reducible refine (H3.out _).mono ?_); rintro e w1 ⟨rfl, rfl⟩)
      go_ret
      exact ⟨rfl, by repeat (first | exact Gr.refl _ | apply Gr.drew | apply Gr.alloc)⟩
     ·skip
      cases b2
      ·skip
       go_enter Tryz.func37, Tryz.ntmps37
       go_wp2_with (go_at_call 75; (first | with_reducible refine (H0.out _).mono ?_ | with_reducible refine (H1.out _).mono ?_ | with_reducible refine (H2.out _).mono ?_ | with_reducible refine (H3.out _).mono ?_); rintro e w1 ⟨rfl, rfl⟩)
       go_ret
       exact ⟨rfl, by repeat (first | exact Gr.refl _ | apply Gr.drew | apply Gr.alloc)⟩
      ·skip
       cases b3
       ·skip
        go_enter Tryz.func37, Tryz.ntmps37
        go_wp2_with (go_at_call 75; (first | with_reducible refine (H0.out _).mono ?_ | with_reducible refine (H1.out _).mono ?_ | with_reducible refine (H2.out _).mono ?_ | with_reducible refine (H3.out _).mono ?_); rintro e w1 ⟨rfl, rfl⟩)
        go_ret
        exact ⟨rfl, by repeat (first | exact Gr.refl _ | apply Gr.drew | apply Gr.alloc)⟩
       ·skip
        go_enter Tryz.func37, Tryz.ntmps37
        go_wp2_with (go_at_call 75; (first | with_reducible refine (H0.out _).mono ?_ | with_reducible refine (H1.out _).mono ?_ | with_reducible refine (H2.out _).mono ?_ | with_reducible refine (H3.out _).mono ?_); rintro e w1 ⟨rfl, rfl⟩)
        go_ret
        exact ⟨rfl, by repeat (first | exact Gr.refl _ | apply Gr.drew | apply Gr.alloc)⟩
    ·skip
     simp only [h2, decide_false, Bool.false_and, Bool.and_false]
     go_enter Tryz.func37, Tryz.ntmps37
     go_wp2_with (go_at_call 75; (first | with_reducible refine (H0.out _).mono ?_ | with_reducible refine (H1.out _).mono ?_ | with_reducible refine (H2.out _).mono ?_ | with_reducible refine (H3.out _).mono ?_); rintro e w1 ⟨rfl, rfl⟩)
     go_ret
     exact ⟨rfl, by repeat (first | exact Gr.refl _ | apply Gr.drew | apply Gr.alloc)⟩
   ·skip
    simp only [h1, decide_false, Bool.false_and, Bool.and_false]
    go_enter Tryz.func37, Tryz.ntmps37
    go_wp2_with (go_at_call 75; (first | with_reducible refine (H0.out _).mono ?_ | with_reducible refine (H1.out _).mono ?_ | with_reducible refine (H2.out _).mono ?_ | with_reducible refine (H3.out _).mono ?_); rintro e w1 ⟨rfl, rfl⟩)
    go_ret
    exact ⟨rfl, by repeat (first | exact Gr.refl _ | apply Gr.drew | apply Gr.alloc)⟩
set_option maxHeartbeats 1000000 in
theorem refCheck_s (fo lo sc mo : Int) (iv : Bool) (hs : ¬ sc = 0) (w : World) :
 CW 37 #[.agg #[.int .i64 fo, .int .i64 lo, .int .i64 2, .int .i64 sc, .int .i64 mo, .bool iv]] w (.bool false) :=by
 delta CW
 have hs' : (sc != 0) = true := by simp [hs]
 go_enter Tryz.func37, Tryz.ntmps37
 go_wp2_with (fail)
 go_ret
 exact ⟨rfl, by repeat (first | exact Gr.refl _ | apply Gr.drew | apply Gr.alloc)⟩
theorem refCheck_c (fo lo ke sc mo : Int) (iv b : Bool) (hb : okF fo lo ke sc mo = b) (w : World) :
 CW 37 #[.agg #[.int .i64 fo, .int .i64 lo, .int .i64 ke, .int .i64 sc, .int .i64 mo, .bool iv]] w (.bool b) :=by
 delta CW
 by_cases hk : ke = 2 ∧ ¬ sc = 0
 ·obtain ⟨rfl, hs⟩ := hk
  have e : b = false := by rw [← hb]; simp [okF, hs]
  rw [e]
  exact refCheck_s fo lo sc mo iv hs w
 ·have H := refCheck_g fo lo ke sc mo iv _ _ _ _ hk (Lib.hid fun W => one_c fo 1 _ rfl W) (Lib.hid fun W => one_c ke 2 _ rfl W) (Lib.hid fun W => one_c sc 2 _ rfl W) (Lib.hid fun W => one_c mo 2 _ rfl W) w
  have e : b = (decide (0 ≤ fo ∧ fo < 1 + 1) && (decide (2 ≤ lo) && (decide (lo ≤ 6) && (decide (0 ≤ ke ∧ ke < 2 + 1) && (decide (0 ≤ sc ∧ sc < 2 + 1) && decide (0 ≤ mo ∧ mo < 2 + 1)))))) := by
   rw [← hb, Bool.eq_iff_iff, okF_iff]
   simp only [Bool.and_eq_true, decide_eq_true_eq]
   omega
  rw [e]
  exact H
end
section
open Go.ChangeShapes Go.WideShapes Go.ChangeAt Go.RowKit
set_option linter.unusedVariables false
set_option maxRecDepth 100000
def NumsAt (w : World) (v : Value) (xs : List Int) : Prop :=
 ∃ p cap, v = .slice p xs.length cap ∧ xs.length ≤ cap ∧ cap ≤ maxLen ∧ (xs ≠ [] → ∃ b o, p = some ⟨b, o, none⟩ ∧ b < w.heap.size ∧ ∀ j x, xs[j]? = some x → w.cell? ⟨b, o + j, none⟩ = some (.int .i64 x))
theorem NumsAt.gr {w w' : World} {v : Value} {xs : List Int} (h : NumsAt w v xs) (hg : Gr w w') : NumsAt w' v xs := by
 obtain ⟨p, cap, hv, hl, hm, hc⟩ := h
 refine ⟨p, cap, hv, hl, hm, fun hx => ?_⟩
 obtain ⟨b, o, hp, hb, hc⟩ := hc hx
 exact ⟨b, o, hp, Nat.lt_of_lt_of_le hb hg.size, fun j x hj => (hg.cell (p := ⟨b, o + j, none⟩) hb).trans (hc j x hj)⟩
theorem NumsAt.len {w : World} {v : Value} {xs : List Int} (h : NumsAt w v xs) : ∃ p cap, v = .slice p xs.length cap := by
 obtain ⟨p, cap, hv, _⟩ := h
 exact ⟨p, cap, hv⟩
theorem NumsAt.nil (w : World) : NumsAt w (.slice none 0 0) [] := ⟨none, 0, rfl, Nat.le_refl _, Nat.zero_le _, fun h => absurd rfl h⟩
theorem NumsAt.at {w : World} {v : Value} {xs : List Int} (h : NumsAt w v xs) (hx : xs ≠ []) : ∃ b o cap, v = .slice (some ⟨b, o, none⟩) xs.length cap ∧ xs.length ≤ 9223372036854775807 ∧ b < w.heap.size ∧ ∀ j x, xs[j]? = some x → w.cell? ⟨b, o + j, none⟩ = some (.int .i64 x) := by
 obtain ⟨p, cap, hv, hl, hm, hc⟩ := h
 obtain ⟨b, o, rfl, hb, hc⟩ := hc hx
 exact ⟨b, o, cap, hv, by unfold maxLen at hm; omega, hb, hc⟩
theorem NumsAt.of_ints {w : World} {v : Value} {xs : List Int} (h : IntsAt w v xs) : NumsAt w v xs := by
 rcases h with ⟨rfl, rfl⟩ | ⟨b, o, cap, rfl, hl, hm, hb, hc⟩
 ·exact NumsAt.nil w
 ·exact ⟨_, cap, rfl, hl, hm, fun _ => ⟨b, o, rfl, hb, hc⟩⟩
theorem NumsAt.of_row {w : World} {base n : Nat} {t : TypeId} {v : Value} {xs : List Int} (h : w.ownsRow base t 1 v n (xs.map (Value.int .i64))) : NumsAt w v xs := .of_ints (IntsAt.of_row h)
theorem NumsAt.cut {w : World} {p : Option Addr} {len cap : Nat} {xs : List Int} (h : NumsAt w (.slice p len cap) xs) (m : Nat) (hm : m ≤ len) : NumsAt w (.slice p m cap) (xs.take m) ∧ (xs.take m).length = m ∧ m ≤ cap ∧ cap ≤ maxLen := by
 obtain ⟨p', cap', hv, hl, hmx, hc⟩ := h
 cases hv
 have e : (xs.take m).length = m := by rw [List.length_take]; omega
 refine ⟨⟨p, cap, by rw [e], by rw [e]; omega, hmx, fun hne => ?_⟩, e, by omega, hmx⟩
 obtain ⟨b, o, hp, hb, hc⟩ := hc (by intro e; rw [e] at hne; simp at hne)
 refine ⟨b, o, hp, hb, fun j x hj => hc j x ?_⟩
 rw [List.getElem?_take] at hj
 split at hj
 ·exact hj
 ·cases hj
theorem run_cut_int (p : Option Addr) (len cap m : Nat) (hm : m ≤ cap) (w : World) : (Instr.slice 22 (.slice p len cap) none (some (.int .i64 (m : Int))) none).run Tryz.prog w = .ok (.slice p m cap) w := by
 obtain ⟨i, hi, hzz⟩ := Option.map_eq_some_iff.1 info_int
 have h1 := run_slice_h (P := Tryz.prog) 22 p len cap (by exact Tryz.underlying22) .i64 (m : Int) (by omega) (by omega) (w := w)
 rw [h1]
 simp [sizeOf, typeInfo, sliced, show Tryz.prog.elem 22 = 3 by kernel_rfl, hi]
 intro _
 cases p <;> simp [Addr.add_zero']
theorem nums_open {H : Type} {enc : TypeId × Value → H} {W : World} {held : Bool} {fuel : Nat} {a : Option Addr} {len cap : Nat} {x : DataW H × List MemPlace}
 (h : DataW.trod enc Tryz.prog W 0 (fun _ => true) held fuel 22 [.slice a len cap] = some x) :
 ∃ xs : List Int, len = xs.length ∧ NumsAt W (.slice a len cap) xs ∧ ∀ g ∈ xs, (Lit.int .i64 g).wf = true := by
 rcases open_ints Tryz.underlying22 Tryz.underlying3 (by kernel_rfl) h with ⟨hcs, _⟩ | ⟨a', l, c, zs, hcs, _, hl, hm, hzl, _, hz, hw⟩
 ·simp at hcs
  obtain ⟨rfl, rfl, rfl⟩ := hcs
  exact ⟨[], rfl, NumsAt.nil W, fun g hg => by cases hg⟩
 ·simp at hcs
  obtain ⟨rfl, rfl, rfl⟩ := hcs
  have hzl : zs.length = cap := by simpa using hzl
  have hlen : (zs.take len).length = len := by rw [List.length_take]; omega
  refine ⟨zs.take len, hlen.symm, ⟨some a', cap, by rw [hlen], by omega, hm, fun hne => ?_⟩, fun g hg => hw g (List.mem_of_mem_take hg)⟩
  have h0 : 0 < len := by
   rcases Nat.eq_zero_or_pos len with h | h
   ·subst h; exact absurd (by simp) hne
   ·exact h
  have hc0 := hz 0 (by omega)
  rw [Addr.add_zero'] at hc0
  have hsp := World.cell?_spot hc0
  obtain ⟨b, o, sp⟩ := a'
  simp only at hsp
  subst hsp
  refine ⟨b, o, rfl, block_lt_of_cell hc0, fun j x hj => ?_⟩
  rw [List.getElem?_take] at hj
  split at hj
  case isFalse => cases hj
  have hjl : j < zs.length := (List.getElem?_eq_some_iff.1 hj).1
  have := hz j hjl
  rw [Addr.add_lit, List.getD_eq_getElem?_getD, hj] at this
  exact this
set_option maxHeartbeats 1000000 in
theorem same04n_c (u v : Value) (xs : List Int) (w : World) (hu : NumsAt w u xs) (hv : NumsAt w v xs) :
 CW 36 #[u, v] w (.bool true) :=by
 delta CW
 by_cases hx : xs = []
 ·subst hx
  obtain ⟨p, cap, rfl⟩ := hu.len
  obtain ⟨p', cap', rfl⟩ := hv.len
  rw [show ([] : List Int).length = 0 from rfl]
  clear hu hv
  go_enter Tryz.func36, Tryz.ntmps36
  go_wp2_with fail
  go_loopw [13] (fun i wr => i = .int .i64 0 ∧ Gr w wr) (fun i _ => 0 - (intOf i).toNat)
  case atStart => exact ⟨rfl, Gr.refl _⟩
  case round =>
   obtain ⟨rfl, hg⟩ := hrel
   go_wp2_with fail
   go_ret
   exact ⟨rfl, hg⟩
 ·obtain ⟨b, o, cap, rfl, hlen, hb, hc⟩ := hu.at hx
  obtain ⟨b', o', cap', rfl, _, hb', hc'⟩ := hv.at hx
  have HC := Lib.hid hc
  have HC' := Lib.hid hc'
  clear hc hc' hu hv hx
  go_enter Tryz.func36, Tryz.ntmps36
  go_wp2_with fail
  go_loopw [13] (fun i wr => ∃ k : Nat, k ≤ xs.length ∧ i = .int .i64 k ∧ Gr w wr) (fun i _ => xs.length - (intOf i).toNat)
  case atStart => exact ⟨0, Nat.zero_le _, rfl, Gr.refl _⟩
  case round =>
   obtain ⟨k, hk, rfl, hg⟩ := hrel
   by_cases hlt : k < xs.length
   ·obtain ⟨x, hx⟩ := get_of_lt hlt
    have h1 := (hg.cell (p := ⟨b, o + k, none⟩) hb).trans (HC.out k x hx)
    have h2 := (hg.cell (p := ⟨b', o' + k, none⟩) hb').trans (HC'.out k x hx)
    clear hx
    go_wp2_with fail
    go_quiet (fail)
    go_wp2_with fail
    go_roundw
    case rel => exact ⟨k + 1, by omega, by go_num, hg.drewN _⟩
    case measure => simp [intOf]; omega
   ·go_wp2_with fail
    go_ret
    exact ⟨rfl, hg⟩
end
end Go.Proofs.YtdignnmpfkgkoaaGreat
