import Derived.ChangeSlices
import Derived.Test.YtablflakcaimmaaGreatFftRunsS3
namespace Go.Proofs.YtablflakcaimmaaGreat
section
open Go.ChangeShapes Go.WideShapes Go.ChangeAt Go.RowKit
set_option linter.unusedVariables false
set_option linter.unusedSimpArgs false
set_option maxRecDepth 100000
theorem isOneOf_c (v f m l : Int) (hl : wrap64 (f + m) = l) (b : Bool) (hb : decide (f ≤ v ∧ v < l) = b) (w : World) :
 Calls Tryz.prog 102 #[.int .i64 v, .int .i64 f, .int .i64 m] w fun e w' => e = .returned (.bool b) ∧ w' = w := by
 subst hb
 by_cases h1 : f ≤ v
 ·by_cases h2 : v < l
  ·have e : decide (f ≤ v ∧ v < l) = true := by simp [h1, h2]
   rw [e]
   go_enter Tryz.func102, Tryz.ntmps102
   go_wp2_with fail
   go_ret
   exact ⟨rfl, rfl⟩
  ·have e : decide (f ≤ v ∧ v < l) = false := by simp [h2]
   rw [e]
   go_enter Tryz.func102, Tryz.ntmps102
   go_wp2_with fail
   go_ret
   exact ⟨rfl, rfl⟩
 ·have e : decide (f ≤ v ∧ v < l) = false := by simp [h1]
  rw [e]
  go_enter Tryz.func102, Tryz.ntmps102
  go_wp2_with fail
  go_ret
  exact ⟨rfl, rfl⟩
theorem one_c (v m : Int) (b : Bool) (hb : decide (0 ≤ v ∧ v < m + 1) = b) (w : World) :
 Calls Tryz.prog 45 #[.int .i64 v, .int .i64 m] w fun e w' => e = .returned (.bool b) ∧ w' = w := by
 subst hb
 by_cases h1 : 0 ≤ v
 ·by_cases h2 : v ≤ m
  ·have e : decide (0 ≤ v ∧ v < m + 1) = true := by simp [h1]; omega
   rw [e]
   go_enter Tryz.func45, Tryz.ntmps45
   go_wp2_with fail
   go_ret
   exact ⟨rfl, rfl⟩
  ·have e : decide (0 ≤ v ∧ v < m + 1) = false := by simp; omega
   rw [e]
   go_enter Tryz.func45, Tryz.ntmps45
   go_wp2_with fail
   go_ret
   exact ⟨rfl, rfl⟩
 ·have e : decide (0 ≤ v ∧ v < m + 1) = false := by simp [h1]
  rw [e]
  go_enter Tryz.func45, Tryz.ntmps45
  go_wp2_with fail
  go_ret
  exact ⟨rfl, rfl⟩
set_option maxHeartbeats 2000000 in
theorem fieldsMayBe_g (fo lo ke sc mo : Int) (iv b0 b1 b2 b3 b4 : Bool) (H0 : Hid (∀ W, Calls Tryz.prog 102 #[.int .i64 fo, .int .i64 0, .int .i64 2] W fun e w' => e = .returned (.bool b0) ∧ w' = W)) (H1 : Hid (∀ W, Calls Tryz.prog 102 #[.int .i64 lo, .int .i64 2, .int .i64 5] W fun e w' => e = .returned (.bool b1) ∧ w' = W)) (H2 : Hid (∀ W, Calls Tryz.prog 102 #[.int .i64 ke, .int .i64 0, .int .i64 3] W fun e w' => e = .returned (.bool b2) ∧ w' = W)) (H3 : Hid (∀ W, Calls Tryz.prog 102 #[.int .i64 sc, .int .i64 0, .int .i64 3] W fun e w' => e = .returned (.bool b3) ∧ w' = W)) (H4 : Hid (∀ W, Calls Tryz.prog 102 #[.int .i64 mo, .int .i64 0, .int .i64 3] W fun e w' => e = .returned (.bool b4) ∧ w' = W)) (w : World) :
 CW 83 #[.agg #[.int .i64 fo, .int .i64 lo, .int .i64 ke, .int .i64 sc, .int .i64 mo, .bool iv]] w (.bool (b0 && (b1 && (b2 && (b3 && b4))))) :=by
 delta CW
 cases b0
 ·skip
  go_enter Tryz.func83, Tryz.ntmps83
  go_wp2_with (go_at_call 102; (first | with_reducible refine (H0.out _).mono ?_ | with_reducible refine (H1.out _).mono ?_ | with_reducible refine (H2.out _).mono ?_ | with_reducible refine (H3.out _).mono ?_ | with_reducible refine (H4.out _).mono ?_); rintro e w1 ⟨rfl, rfl⟩)
  go_ret
  exact ⟨rfl, by repeat (first | exact Gr.refl _ | apply Gr.drew | apply Gr.alloc)⟩
 ·skip
  cases b1
  ·skip
   go_enter Tryz.func83, Tryz.ntmps83
   go_wp2_with (go_at_call 102; (first | with_reducible refine (H0.out _).mono ?_ | with_reducible refine (H1.out _).mono ?_ | with_reducible refine (H2.out _).mono ?_ | with_reducible refine (H3.out _).mono ?_ | with_reducible refine (H4.out _).mono ?_); rintro e w1 ⟨rfl, rfl⟩)
   go_ret
   exact ⟨rfl, by repeat (first | exact Gr.refl _ | apply Gr.drew | apply Gr.alloc)⟩
  ·skip
   cases b2
   ·skip
    go_enter Tryz.func83, Tryz.ntmps83
    go_wp2_with (go_at_call 102; (first | with_reducible refine (H0.out _).mono ?_ | with_reducible refine (H1.out _).mono ?_ | with_reducible refine (H2.out _).mono ?_ | with_reducible refine (H3.out _).mono ?_ | with_reducible refine (H4.out _).mono ?_); rintro e w1 ⟨rfl, rfl⟩)
    go_ret
    exact ⟨rfl, by repeat (first | exact Gr.refl _ | apply Gr.drew | apply Gr.alloc)⟩
   ·skip
    cases b3
    ·skip
     go_enter Tryz.func83, Tryz.ntmps83
     go_wp2_with (go_at_call 102; (first | with_reducible refine (H0.out _).mono ?_ | with_reducible refine (H1.out _).mono ?_ | with_reducible refine (H2.out _).mono ?_ | with_reducible refine (H3.out _).mono ?_ | with_reducible refine (H4.out _).mono ?_); rintro e w1 ⟨rfl, rfl⟩)
     go_ret
     exact ⟨rfl, by repeat (first | exact Gr.refl _ | apply Gr.drew | apply Gr.alloc)⟩
    ·skip
     cases b4
     ·skip
      go_enter Tryz.func83, Tryz.ntmps83
      go_wp2_with (go_at_call 102; (first | with_reducible refine (H0.out _).mono ?_ | with_reducible refine (H1.out _).mono ?_ | with_reducible refine (H2.out _).mono ?_ | with_reducible refine (H3.out _).mono ?_ | with_reducible refine (H4.out _).mono ?_); rintro e w1 ⟨rfl, rfl⟩)
      go_ret
      exact ⟨rfl, by repeat (first | exact Gr.refl _ | apply Gr.drew | apply Gr.alloc)⟩
     ·skip
      go_enter Tryz.func83, Tryz.ntmps83
      go_wp2_with (go_at_call 102; (first | with_reducible refine (H0.out _).mono ?_ | with_reducible refine (H1.out _).mono ?_ | with_reducible refine (H2.out _).mono ?_ | with_reducible refine (H3.out _).mono ?_ | with_reducible refine (H4.out _).mono ?_); rintro e w1 ⟨rfl, rfl⟩)
      go_ret
      exact ⟨rfl, by repeat (first | exact Gr.refl _ | apply Gr.drew | apply Gr.alloc)⟩
theorem fieldsMayBe_c (fo lo ke sc mo : Int) (iv : Bool) (w : World) :
 Calls Tryz.prog 83 #[.agg #[.int .i64 fo, .int .i64 lo, .int .i64 ke, .int .i64 sc, .int .i64 mo, .bool iv]] w fun e w' => e = .returned (.bool (fieldsOk fo lo ke sc mo)) ∧ Gr w w' :=
 fieldsMayBe_g fo lo ke sc mo iv _ _ _ _ _ (Lib.hid fun W => isOneOf_c fo 0 2 2 (by rw [IntWalk.wrap64_in _ ⟨by omega, by omega⟩]; rfl) _ rfl W) (Lib.hid fun W => isOneOf_c lo 2 5 7 (by rw [IntWalk.wrap64_in _ ⟨by omega, by omega⟩]; rfl) _ rfl W) (Lib.hid fun W => isOneOf_c ke 0 3 3 (by rw [IntWalk.wrap64_in _ ⟨by omega, by omega⟩]; rfl) _ rfl W) (Lib.hid fun W => isOneOf_c sc 0 3 3 (by rw [IntWalk.wrap64_in _ ⟨by omega, by omega⟩]; rfl) _ rfl W) (Lib.hid fun W => isOneOf_c mo 0 3 3 (by rw [IntWalk.wrap64_in _ ⟨by omega, by omega⟩]; rfl) _ rfl W) w
set_option maxHeartbeats 1000000 in
theorem check_g (fo lo ke sc mo : Int) (iv b : Bool) (HF : CR 83 #[.agg #[.int .i64 fo, .int .i64 lo, .int .i64 ke, .int .i64 sc, .int .i64 mo, .bool iv]] (.bool b)) (w : World) :
 CW 50 #[.agg #[.int .i64 fo, .int .i64 lo, .int .i64 ke, .int .i64 sc, .int .i64 mo, .bool iv]] w (.int .i64 (if (b && !(decide (ke = 2) && !decide (sc = 0))) = true then 0 else 4)) :=by
 delta CW
 cases b
 ·skip
  go_enter Tryz.func50, Tryz.ntmps50
  go_wp2_with fail
  obtain ⟨u0, hu⟩ : ∃ uu, uu = w.alloc (.cells #[.int .i64 fo, .int .i64 lo, .int .i64 ke, .int .i64 sc, .int .i64 mo, .bool iv] 24) := ⟨_, rfl⟩
  have R0 : CellsAt u0 w.heap.size 24 #[.int .i64 fo, .int .i64 lo, .int .i64 ke, .int .i64 sc, .int .i64 mo, .bool iv] := by rw [hu]; exact CellsAt.new w 24 #[.int .i64 fo, .int .i64 lo, .int .i64 ke, .int .i64 sc, .int .i64 mo, .bool iv]
  have gu : Gr w u0 := by rw [hu]; exact (Gr.refl w).alloc _ _
  rw [← hu]
  clear hu
  refine (HF.out _).mono ?_
  rintro e w1 ⟨rfl, g1⟩
  have R1 := R0.gr g1
  have l1 := R1.lt
  have c2 := R1.cell 2
  have c3 := R1.cell 3
  simp only [getS] at c2 c3
  go_wp2_with fail
  go_ret
  exact ⟨rfl, by repeat (first | exact gu.trans g1 | apply Gr.drew | apply Gr.alloc)⟩
 by_cases hk : ke = 2
 ·subst hk
  by_cases hs : sc = 0
  ·subst hs
   go_enter Tryz.func50, Tryz.ntmps50
   go_wp2_with fail
   obtain ⟨u0, hu⟩ : ∃ uu, uu = w.alloc (.cells #[.int .i64 fo, .int .i64 lo, .int .i64 2, .int .i64 0, .int .i64 mo, .bool iv] 24) := ⟨_, rfl⟩
   have R0 : CellsAt u0 w.heap.size 24 #[.int .i64 fo, .int .i64 lo, .int .i64 2, .int .i64 0, .int .i64 mo, .bool iv] := by rw [hu]; exact CellsAt.new w 24 #[.int .i64 fo, .int .i64 lo, .int .i64 2, .int .i64 0, .int .i64 mo, .bool iv]
   have gu : Gr w u0 := by rw [hu]; exact (Gr.refl w).alloc _ _
   rw [← hu]
   clear hu
   refine (HF.out _).mono ?_
   rintro e w1 ⟨rfl, g1⟩
   have R1 := R0.gr g1
   have l1 := R1.lt
   have c2 := R1.cell 2
   have c3 := R1.cell 3
   simp only [getS] at c2 c3
   go_wp2_with fail
   go_ret
   exact ⟨rfl, by repeat (first | exact gu.trans g1 | apply Gr.drew | apply Gr.alloc)⟩
  ·have hs' : (sc != 0) = true := by simp [hs]
   have e : (if (true && !(decide ((2 : Int) = 2) && !decide (sc = 0))) = true then (0 : Int) else 4) = 4 := by simp [hs]
   rw [e]
   go_enter Tryz.func50, Tryz.ntmps50
   go_wp2_with fail
   obtain ⟨u0, hu⟩ : ∃ uu, uu = w.alloc (.cells #[.int .i64 fo, .int .i64 lo, .int .i64 2, .int .i64 sc, .int .i64 mo, .bool iv] 24) := ⟨_, rfl⟩
   have R0 : CellsAt u0 w.heap.size 24 #[.int .i64 fo, .int .i64 lo, .int .i64 2, .int .i64 sc, .int .i64 mo, .bool iv] := by rw [hu]; exact CellsAt.new w 24 #[.int .i64 fo, .int .i64 lo, .int .i64 2, .int .i64 sc, .int .i64 mo, .bool iv]
   have gu : Gr w u0 := by rw [hu]; exact (Gr.refl w).alloc _ _
   rw [← hu]
   clear hu
   refine (HF.out _).mono ?_
   rintro e w1 ⟨rfl, g1⟩
   have R1 := R0.gr g1
   have l1 := R1.lt
   have c2 := R1.cell 2
   have c3 := R1.cell 3
   simp only [getS] at c2 c3
   go_wp2_with fail
   go_ret
   exact ⟨rfl, by repeat (first | exact gu.trans g1 | apply Gr.drew | apply Gr.alloc)⟩
 ·have hk' : (ke == 2) = false := by simp [hk]
  have e : (if (true && !(decide (ke = 2) && !decide (sc = 0))) = true then (0 : Int) else 4) = 0 := by simp [hk]
  rw [e]
  go_enter Tryz.func50, Tryz.ntmps50
  go_wp2_with fail
  obtain ⟨u0, hu⟩ : ∃ uu, uu = w.alloc (.cells #[.int .i64 fo, .int .i64 lo, .int .i64 ke, .int .i64 sc, .int .i64 mo, .bool iv] 24) := ⟨_, rfl⟩
  have R0 : CellsAt u0 w.heap.size 24 #[.int .i64 fo, .int .i64 lo, .int .i64 ke, .int .i64 sc, .int .i64 mo, .bool iv] := by rw [hu]; exact CellsAt.new w 24 #[.int .i64 fo, .int .i64 lo, .int .i64 ke, .int .i64 sc, .int .i64 mo, .bool iv]
  have gu : Gr w u0 := by rw [hu]; exact (Gr.refl w).alloc _ _
  rw [← hu]
  clear hu
  refine (HF.out _).mono ?_
  rintro e w1 ⟨rfl, g1⟩
  have R1 := R0.gr g1
  have l1 := R1.lt
  have c2 := R1.cell 2
  have c3 := R1.cell 3
  simp only [getS] at c2 c3
  go_wp2_with fail
  go_ret
  exact ⟨rfl, by repeat (first | exact gu.trans g1 | apply Gr.drew | apply Gr.alloc)⟩
theorem check_c (fo lo ke sc mo : Int) (iv : Bool) (er : Int) (he : (if okF fo lo ke sc mo = true then 0 else 4) = er) (w : World) :
 CW 50 #[.agg #[.int .i64 fo, .int .i64 lo, .int .i64 ke, .int .i64 sc, .int .i64 mo, .bool iv]] w (.int .i64 er) :=by
 delta CW
 subst he
 exact check_g fo lo ke sc mo iv _ (Lib.hid fun W => fieldsMayBe_c fo lo ke sc mo iv W) w
set_option maxHeartbeats 4000000 in
theorem refCheck_g (fo lo ke sc mo : Int) (iv b0 b1 b2 b3 : Bool) (hk : ¬ (ke = 2 ∧ ¬ sc = 0)) (H0 : Hid (∀ W, Calls Tryz.prog 45 #[.int .i64 fo, .int .i64 1] W fun e w' => e = .returned (.bool b0) ∧ w' = W)) (H1 : Hid (∀ W, Calls Tryz.prog 45 #[.int .i64 ke, .int .i64 2] W fun e w' => e = .returned (.bool b1) ∧ w' = W)) (H2 : Hid (∀ W, Calls Tryz.prog 45 #[.int .i64 sc, .int .i64 2] W fun e w' => e = .returned (.bool b2) ∧ w' = W)) (H3 : Hid (∀ W, Calls Tryz.prog 45 #[.int .i64 mo, .int .i64 2] W fun e w' => e = .returned (.bool b3) ∧ w' = W)) (w : World) :
 CW 17 #[.agg #[.int .i64 fo, .int .i64 lo, .int .i64 ke, .int .i64 sc, .int .i64 mo, .bool iv]] w (.bool (b0 && (decide (2 ≤ lo) && (decide (lo ≤ 6) && (b1 && (b2 && b3)))))) :=by
 delta CW
 have hc : (ke = 2 ∧ sc = 0) ∨ ((ke == 2) = false ∧ ¬ ke = 2) := by
  by_cases k : ke = 2
  ·exact .inl ⟨k, Decidable.byContradiction fun s => hk ⟨k, s⟩⟩
  ·exact .inr ⟨by simp [k], k⟩
 clear hk
 rcases hc with ⟨rfl, rfl⟩ | ⟨hk1, hk2⟩
 ·skip
  cases b0
  ·skip
   go_enter Tryz.func17, Tryz.ntmps17
   go_wp2_with (go_at_call 45; (first | with_reducible refine (H0.out _).mono ?_ | with_reducible refine (H1.out _).mono ?_ | with_reducible refine (H2.out _).mono ?_ | with_reducible refine (H3.out _).mono ?_); rintro e w1 ⟨rfl, rfl⟩)
   go_ret
   exact ⟨rfl, by repeat (first | exact Gr.refl _ | apply Gr.drew | apply Gr.alloc)⟩
  ·skip
   by_cases h1 : 2 ≤ lo
   ·skip
    simp only [h1, decide_true, Bool.true_and, Bool.and_true]
    by_cases h2 : lo ≤ 6
    ·skip
     simp only [h2, decide_true, Bool.true_and, Bool.and_true]
     cases b1
     ·skip
      go_enter Tryz.func17, Tryz.ntmps17
      go_wp2_with (go_at_call 45; (first | with_reducible refine (H0.out _).mono ?_ | with_reducible refine (H1.out _).mono ?_ | with_reducible refine (H2.out _).mono ?_ | with_reducible refine (H3.out _).mono ?_); rintro e w1 ⟨rfl, rfl⟩)
      go_ret
      exact ⟨rfl, by repeat (first | exact Gr.refl _ | apply Gr.drew | apply Gr.alloc)⟩
     ·skip
      cases b2
      ·skip
       go_enter Tryz.func17, Tryz.ntmps17
       go_wp2_with (go_at_call 45; (first | with_reducible refine (H0.out _).mono ?_ | with_reducible refine (H1.out _).mono ?_ | with_reducible refine (H2.out _).mono ?_ | with_reducible refine (H3.out _).mono ?_); rintro e w1 ⟨rfl, rfl⟩)
       go_ret
       exact ⟨rfl, by repeat (first | exact Gr.refl _ | apply Gr.drew | apply Gr.alloc)⟩
      ·skip
       cases b3
       ·skip
        go_enter Tryz.func17, Tryz.ntmps17
        go_wp2_with (go_at_call 45; (first | with_reducible refine (H0.out _).mono ?_ | with_reducible refine (H1.out _).mono ?_ | with_reducible refine (H2.out _).mono ?_ | with_reducible refine (H3.out _).mono ?_); rintro e w1 ⟨rfl, rfl⟩)
        go_ret
        exact ⟨rfl, by repeat (first | exact Gr.refl _ | apply Gr.drew | apply Gr.alloc)⟩
       ·skip
        go_enter Tryz.func17, Tryz.ntmps17
        go_wp2_with (go_at_call 45; (first | with_reducible refine (H0.out _).mono ?_ | with_reducible refine (H1.out _).mono ?_ | with_reducible refine (H2.out _).mono ?_ | with_reducible refine (H3.out _).mono ?_); rintro e w1 ⟨rfl, rfl⟩)
        go_ret
        exact ⟨rfl, by repeat (first | exact Gr.refl _ | apply Gr.drew | apply Gr.alloc)⟩
    ·skip
     simp only [h2, decide_false, Bool.false_and, Bool.and_false]
     go_enter Tryz.func17, Tryz.ntmps17
     go_wp2_with (go_at_call 45; (first | with_reducible refine (H0.out _).mono ?_ | with_reducible refine (H1.out _).mono ?_ | with_reducible refine (H2.out _).mono ?_ | with_reducible refine (H3.out _).mono ?_); rintro e w1 ⟨rfl, rfl⟩)
     go_ret
     exact ⟨rfl, by repeat (first | exact Gr.refl _ | apply Gr.drew | apply Gr.alloc)⟩
   ·skip
    simp only [h1, decide_false, Bool.false_and, Bool.and_false]
    go_enter Tryz.func17, Tryz.ntmps17
    go_wp2_with (go_at_call 45; (first | with_reducible refine (H0.out _).mono ?_ | with_reducible refine (H1.out _).mono ?_ | with_reducible refine (H2.out _).mono ?_ | with_reducible refine (H3.out _).mono ?_); rintro e w1 ⟨rfl, rfl⟩)
    go_ret
    exact ⟨rfl, by repeat (first | exact Gr.refl _ | apply Gr.drew | apply Gr.alloc)⟩
 ·skip
  cases b0
  ·skip
   go_enter Tryz.func17, Tryz.ntmps17
   go_wp2_with (go_at_call 45; (first | with_reducible refine (H0.out _).mono ?_ | with_reducible refine (H1.out _).mono ?_ | with_reducible refine (H2.out _).mono ?_ | with_reducible refine (H3.out _).mono ?_); rintro e w1 ⟨rfl, rfl⟩)
   go_ret
   exact ⟨rfl, by repeat (first | exact Gr.refl _ | apply Gr.drew | apply Gr.alloc)⟩
  ·skip
   by_cases h1 : 2 ≤ lo
   ·skip
    simp only [h1, decide_true, Bool.true_and, Bool.and_true]
    by_cases h2 : lo ≤ 6
    ·skip
     simp only [h2, decide_true, Bool.true_and, Bool.and_true]
     cases b1
     ·skip
      go_enter Tryz.func17, Tryz.ntmps17
      go_wp2_with (go_at_call 45; (first | with_reducible refine (H0.out _).mono ?_ | with_reducible refine (H1.out _).mono ?_ | with_reducible refine (H2.out _).mono ?_ | with_reducible refine (H3.out _).mono ?_); rintro e w1 ⟨rfl, rfl⟩)
      go_ret
      exact ⟨rfl, by repeat (first | exact Gr.refl _ | apply Gr.drew | apply Gr.alloc)⟩
     ·skip
      cases b2
      ·skip
       go_enter Tryz.func17, Tryz.ntmps17
       go_wp2_with (go_at_call 45; (first | with_reducible refine (H0.out _).mono ?_ | with_reducible refine (H1.out _).mono ?_ | with_reducible refine (H2.out _).mono ?_ | with_reducible refine (H3.out _).mono ?_); rintro e w1 ⟨rfl, rfl⟩)
       go_ret
       exact ⟨rfl, by repeat (first | exact Gr.refl _ | apply Gr.drew | apply Gr.alloc)⟩
      ·skip
       cases b3
       ·skip
        go_enter Tryz.func17, Tryz.ntmps17
        go_wp2_with (go_at_call 45; (first | with_reducible refine (H0.out _).mono ?_ | with_reducible refine (H1.out _).mono ?_ | with_reducible refine (H2.out _).mono ?_ | with_reducible refine (H3.out _).mono ?_); rintro e w1 ⟨rfl, rfl⟩)
        go_ret
        exact ⟨rfl, by repeat (first | exact Gr.refl _ | apply Gr.drew | apply Gr.alloc)⟩
       ·skip
        go_enter Tryz.func17, Tryz.ntmps17
        go_wp2_with (go_at_call 45; (first | with_reducible refine (H0.out _).mono ?_ | with_reducible refine (H1.out _).mono ?_ | with_reducible refine (H2.out _).mono ?_ | with_reducible refine (H3.out _).mono ?_); rintro e w1 ⟨rfl, rfl⟩)
        go_ret
        exact ⟨rfl, by repeat (first | exact Gr.refl _ | apply Gr.drew | apply Gr.alloc)⟩
    ·skip
     simp only [h2, decide_false, Bool.false_and, Bool.and_false]
     go_enter Tryz.func17, Tryz.ntmps17
     go_wp2_with (go_at_call 45; (first | with_reducible refine (H0.out _).mono ?_ | with_reducible refine (H1.out _).mono ?_ | with_reducible refine (H2.out _).mono ?_ | with_reducible refine (H3.out _).mono ?_); rintro e w1 ⟨rfl, rfl⟩)
     go_ret
     exact ⟨rfl, by repeat (first | exact Gr.refl _ | apply Gr.drew | apply Gr.alloc)⟩
   ·skip
    simp only [h1, decide_false, Bool.false_and, Bool.and_false]
    go_enter Tryz.func17, Tryz.ntmps17
    go_wp2_with (go_at_call 45; (first | with_reducible refine (H0.out _).mono ?_ | with_reducible refine (H1.out _).mono ?_ | with_reducible refine (H2.out _).mono ?_ | with_reducible refine (H3.out _).mono ?_); rintro e w1 ⟨rfl, rfl⟩)
    go_ret
    exact ⟨rfl, by repeat (first | exact Gr.refl _ | apply Gr.drew | apply Gr.alloc)⟩
set_option maxHeartbeats 1000000 in
theorem refCheck_s (fo lo sc mo : Int) (iv : Bool) (hs : ¬ sc = 0) (w : World) :
 CW 17 #[.agg #[.int .i64 fo, .int .i64 lo, .int .i64 2, .int .i64 sc, .int .i64 mo, .bool iv]] w (.bool false) :=by
 delta CW
 have hs' : (sc != 0) = true := by simp [hs]
 go_enter Tryz.func17, Tryz.ntmps17
 go_wp2_with (fail)
 go_ret
 exact ⟨rfl, by repeat (first | exact Gr.refl _ | apply Gr.drew | apply Gr.alloc)⟩
theorem refCheck_c (fo lo ke sc mo : Int) (iv b : Bool) (hb : okF fo lo ke sc mo = b) (w : World) :
 CW 17 #[.agg #[.int .i64 fo, .int .i64 lo, .int .i64 ke, .int .i64 sc, .int .i64 mo, .bool iv]] w (.bool b) :=by
 delta CW
 by_cases hk : ke = 2 ∧ ¬ sc = 0
 ·obtain ⟨rfl, hs⟩ := hk
  have e : b = false := by rw [← hb]; simp [okF, hs]
  rw [e]
  exact refCheck_s fo lo sc mo iv hs w
 ·have H := refCheck_g fo lo ke sc mo iv _ _ _ _ hk (Lib.hid fun W => one_c fo 1 _ rfl W) (Lib.hid fun W => one_c ke 2 _ rfl W) (Lib.hid fun W => one_c sc 2 _ rfl W) (Lib.hid fun W => one_c mo 2 _ rfl W) w
  have e : b = (decide (0 ≤ fo ∧ fo < 1 + 1) && (decide (2 ≤ lo) && (decide (lo ≤ 6) && (decide (0 ≤ ke ∧ ke < 2 + 1) && (decide (0 ≤ sc ∧ sc < 2 + 1) && decide (0 ≤ mo ∧ mo < 2 + 1)))))) := by
   rw [← hb, Bool.eq_iff_iff, okF_iff]
   simp only [Bool.and_eq_true, decide_eq_true_eq]
   omega
  rw [e]
  exact H
end
section
open Go.ChangeShapes Go.WideShapes Go.ChangeAt Go.RowKit
set_option linter.unusedVariables false
set_option maxRecDepth 100000
def NumsAt (w : World) (v : Value) (xs : List Int) : Prop :=
 ∃ p cap, v = .slice p xs.length cap ∧ xs.length ≤ cap ∧ cap ≤ maxLen ∧ (xs ≠ [] → ∃ b o, p = some ⟨b, o, none⟩ ∧ b < w.heap.size ∧ ∀ j x, xs[j]? = some x → w.cell? ⟨b, o + j, none⟩ = some (.int .i64 x))
theorem NumsAt.gr {w w' : World} {v : Value} {xs : List Int} (h : NumsAt w v xs) (hg : Gr w w') : NumsAt w' v xs := by
 obtain ⟨p, cap, hv, hl, hm, hc⟩ := h
 refine ⟨p, cap, hv, hl, hm, fun hx => ?_⟩
 obtain ⟨b, o, hp, hb, hc⟩ := hc hx
 exact ⟨b, o, hp, Nat.lt_of_lt_of_le hb hg.size, fun j x hj => (hg.cell (p := ⟨b, o + j, none⟩) hb).trans (hc j x hj)⟩
theorem NumsAt.len {w : World} {v : Value} {xs : List Int} (h : NumsAt w v xs) : ∃ p cap, v = .slice p xs.length cap := by
 obtain ⟨p, cap, hv, _⟩ := h
 exact ⟨p, cap, hv⟩
theorem NumsAt.nil (w : World) : NumsAt w (.slice none 0 0) [] := ⟨none, 0, rfl, Nat.le_refl _, Nat.zero_le _, fun h => absurd rfl h⟩
theorem NumsAt.at {w : World} {v : Value} {xs : List Int} (h : NumsAt w v xs) (hx : xs ≠ []) : ∃ b o cap, v = .slice (some ⟨b, o, none⟩) xs.length cap ∧ xs.length ≤ 9223372036854775807 ∧ b < w.heap.size ∧ ∀ j x, xs[j]? = some x → w.cell? ⟨b, o + j, none⟩ = some (.int .i64 x) := by
 obtain ⟨p, cap, hv, hl, hm, hc⟩ := h
 obtain ⟨b, o, rfl, hb, hc⟩ := hc hx
 exact ⟨b, o, cap, hv, by unfold maxLen at hm; omega, hb, hc⟩
theorem NumsAt.of_ints {w : World} {v : Value} {xs : List Int} (h : IntsAt w v xs) : NumsAt w v xs := by
 rcases h with ⟨rfl, rfl⟩ | ⟨b, o, cap, rfl, hl, hm, hb, hc⟩
 ·exact NumsAt.nil w
 ·exact ⟨_, cap, rfl, hl, hm, fun _ => ⟨b, o, rfl, hb, hc⟩⟩
theorem NumsAt.of_row {w : World} {base n : Nat} {t : TypeId} {v : Value} {xs : List Int} (h : w.ownsRow base t 1 v n (xs.map (Value.int .i64))) : NumsAt w v xs := .of_ints (IntsAt.of_row h)
theorem NumsAt.cut {w : World} {p : Option Addr} {len cap : Nat} {xs : List Int} (h : NumsAt w (.slice p len cap) xs) (m : Nat) (hm : m ≤ len) : NumsAt w (.slice p m cap) (xs.take m) ∧ (xs.take m).length = m ∧ m ≤ cap ∧ cap ≤ maxLen := by
 obtain ⟨p', cap', hv, hl, hmx, hc⟩ := h
 cases hv
 have e : (xs.take m).length = m := by rw [List.length_take]; omega
 refine ⟨⟨p, cap, by rw [e], by rw [e]; omega, hmx, fun hne => ?_⟩, e, by omega, hmx⟩
 obtain ⟨b, o, hp, hb, hc⟩ := hc (by intro e; rw [e] at hne; simp at hne)
 refine ⟨b, o, hp, hb, fun j x hj => hc j x ?_⟩
 rw [List.getElem?_take] at hj
 split at hj
 ·exact hj
 ·cases hj
set_option maxHeartbeats 1000000 in
theorem same04n_c (u v : Value) (xs : List Int) (w : World) (hu : NumsAt w u xs) (hv : NumsAt w v xs) :
 CW 33 #[u, v] w (.bool true) :=by
 delta CW
 by_cases hx : xs = []
 ·subst hx
  obtain ⟨p, cap, rfl⟩ := hu.len
  obtain ⟨p', cap', rfl⟩ := hv.len
  rw [show ([] : List Int).length = 0 from rfl]
  clear hu hv
  go_enter Tryz.func33, Tryz.ntmps33
  go_wp2_with fail
  go_loopw [13] (fun i wr => i = .int .i64 0 ∧ Gr w wr) (fun i _ => 0 - (intOf i).toNat)
  case atStart => exact ⟨rfl, Gr.refl _⟩
  case round =>
   obtain ⟨rfl, hg⟩ := hrel
   go_wp2_with fail
   go_ret
   exact ⟨rfl, hg⟩
 ·obtain ⟨b, o, cap, rfl, hlen, hb, hc⟩ := hu.at hx
  obtain ⟨b', o', cap', rfl, _, hb', hc'⟩ := hv.at hx
  have HC := Lib.hid hc
  have HC' := Lib.hid hc'
  clear hc hc' hu hv hx
  go_enter Tryz.func33, Tryz.ntmps33
  go_wp2_with fail
  go_loopw [13] (fun i wr => ∃ k : Nat, k ≤ xs.length ∧ i = .int .i64 k ∧ Gr w wr) (fun i _ => xs.length - (intOf i).toNat)
  case atStart => exact ⟨0, Nat.zero_le _, rfl, Gr.refl _⟩
  case round =>
   obtain ⟨k, hk, rfl, hg⟩ := hrel
   by_cases hlt : k < xs.length
   ·obtain ⟨x, hx⟩ := get_of_lt hlt
    have h1 := (hg.cell (p := ⟨b, o + k, none⟩) hb).trans (HC.out k x hx)
    have h2 := (hg.cell (p := ⟨b', o' + k, none⟩) hb').trans (HC'.out k x hx)
    clear hx
    go_wp2_with fail
    go_quiet (fail)
    go_wp2_with fail
    go_roundw
    case rel => exact ⟨k + 1, by omega, by go_num, hg.drewN _⟩
    case measure => simp [intOf]; omega
   ·go_wp2_with fail
    go_ret
    exact ⟨rfl, hg⟩
end
section
open Go.ChangeShapes Go.WideShapes Go.ChangeAt Go.RowKit
set_option linter.unusedVariables false
set_option linter.unusedSimpArgs false
set_option maxRecDepth 100000
def partIn (l h : Int) (a : Gi) : Bool := decide ((l ≤ a.re ∧ a.re ≤ h) ∧ (l ≤ a.im ∧ a.im ≤ h))
def partsB (l h : Int) (xs : List Gi) : Bool := xs.all (partIn l h)
theorem partsB_no {l h : Int} {xs : List Gi} {k : Nat} {a : Gi} (hk : xs[k]? = some a) (g : partIn l h a = false) : partsB l h xs = false := by
 unfold partsB
 rw [Bool.eq_false_iff, Ne, List.all_eq_true]
 intro H
 rw [H a (List.mem_of_getElem? hk)] at g
 cases g
theorem partsB_snoc {l h : Int} {xs : List Gi} {k : Nat} {a : Gi} (hk : xs[k]? = some a) (h1 : partsB l h (xs.take k) = true) (g : partIn l h a = true) : partsB l h (xs.take (k + 1)) = true := by
 rw [take_snoc hk]
 unfold partsB at *
 rw [List.all_append, h1]
 simp [g]
set_option maxHeartbeats 2000000 in
theorem parts15_c (v : Value) (xs : List Gi) (l h : Int) (w : World) (hv : CxsAt w v xs) :
 CW 31 #[v, .int .i64 l, .int .i64 h] w (.bool (partsB l h xs)) :=by
 delta CW
 by_cases hx0 : xs = []
 ·subst hx0
  obtain ⟨p, cap, rfl⟩ := hv.len
  rw [show ([] : List Gi).length = 0 from rfl]
  clear hv
  go_enter Tryz.func31, Tryz.ntmps31
  go_wp2_with fail
  go_loopw [11] (fun i wr => i = .int .i64 0 ∧ Gr w wr) (fun i _ => 0 - (intOf i).toNat)
  case atStart => exact ⟨rfl, Gr.refl _⟩
  case round =>
   obtain ⟨rfl, hg⟩ := hrel
   go_wp2_with fail
   go_ret
   exact ⟨rfl, hg⟩
 ·obtain ⟨b, o, cap, rfl, hlen, hb, hc⟩ := hv.at hx0
  have HC := Lib.hid hc
  clear hc hv hx0
  go_enter Tryz.func31, Tryz.ntmps31
  go_wp2_with fail
  go_loopw [11] (fun i wr => ∃ k : Nat, k ≤ xs.length ∧ i = .int .i64 k ∧ partsB l h (xs.take k) = true ∧ Gr w wr) (fun i _ => xs.length - (intOf i).toNat)
  case atStart => exact ⟨0, Nat.zero_le _, rfl, rfl, Gr.refl _⟩
  case round =>
   obtain ⟨k, hk, rfl, hp, hg⟩ := hrel
   by_cases hlt : k < xs.length
   ·obtain ⟨x, hx⟩ := get_of_lt hlt
    have h1 := (hg.cell (p := ⟨b, o + k * 2, none⟩) hb).trans (HC.out k x hx).1
    have h2 := (hg.cell (p := ⟨b, o + k * 2 + 1, none⟩) hb).trans (HC.out k x hx).2
    have hlI : (k : Int) < (xs.length : Int) := by omega
    obtain ⟨re, im⟩ := x
    simp only at h1 h2
    by_cases q1 : l ≤ re
    ·by_cases q2 : re ≤ h
     ·by_cases q3 : l ≤ im
      ·by_cases q4 : im ≤ h
       ·have hs := Lib.hid (partsB_snoc hx hp (show partIn l h (Gi.mk re im) = true by simp only [partIn]; simp; omega))
        go_wp2_with fail
        go_roundw
        case rel => exact ⟨k + 1, by omega, by go_num, hs.out, hg.alloc _ _⟩
        case measure => simp [intOf]; omega
       ·skip
        have hb : partIn l h (Gi.mk re im) = false := by simp only [partIn]; simp; omega
        go_wp2_with fail
        go_ret
        exact ⟨by rw [partsB_no hx hb]; rfl, hg.alloc _ _⟩
      ·skip
       have hb : partIn l h (Gi.mk re im) = false := by simp only [partIn]; simp; omega
       go_wp2_with fail
       go_ret
       exact ⟨by rw [partsB_no hx hb]; rfl, hg.alloc _ _⟩
     ·skip
      have hb : partIn l h (Gi.mk re im) = false := by simp only [partIn]; simp; omega
      go_wp2_with fail
      go_ret
      exact ⟨by rw [partsB_no hx hb]; rfl, hg.alloc _ _⟩
    ·skip
     have hb : partIn l h (Gi.mk re im) = false := by simp only [partIn]; simp; omega
     go_wp2_with fail
     go_ret
     exact ⟨by rw [partsB_no hx hb]; rfl, hg.alloc _ _⟩
   ·obtain rfl : k = xs.length := by omega
    have hlI : ¬ (xs.length : Int) < (xs.length : Int) := by omega
    rw [List.take_length] at hp
    go_wp2_with fail
    go_ret
    exact ⟨by first | rfl | (rw [hp]; rfl) | simp, hg⟩
set_option maxHeartbeats 2000000 in
theorem may15_plan (v : Value) (fo lo ke sc mo : Int) (iv op : Bool) (HC : CR 17 #[.agg #[.int .i64 fo, .int .i64 lo, .int .i64 ke, .int .i64 sc, .int .i64 mo, .bool iv]] (.bool false)) (w : World) :
 CW 10 #[v, .agg #[.int .i64 fo, .int .i64 lo, .int .i64 ke, .int .i64 sc, .int .i64 mo, .bool iv], .bool op] w (.int .i64 4) :=by
 delta CW
 go_enter Tryz.func10, Tryz.ntmps10
 go_wp2_with fail
 obtain ⟨u0, hu⟩ : ∃ uu, uu = w.alloc (.cells #[.int .i64 fo, .int .i64 lo, .int .i64 ke, .int .i64 sc, .int .i64 mo, .bool iv] 24) := ⟨_, rfl⟩
 have R0 : CellsAt u0 w.heap.size 24 #[.int .i64 fo, .int .i64 lo, .int .i64 ke, .int .i64 sc, .int .i64 mo, .bool iv] := by rw [hu]; exact CellsAt.new w 24 _
 have y0 : Gr w u0 := by rw [hu]; exact (Gr.refl w).alloc _ _
 rw [← hu]
 clear hu
 refine (HC.out _).mono ?_
 rintro e w1 ⟨rfl, g1⟩
 have R1 := R0.gr g1
 have y1 := y0.trans g1
 have l1 := R1.lt
 clear R0 y0 g1
 go_wp2_with fail
 go_ret
 exact ⟨rfl, y1⟩
set_option maxHeartbeats 2000000 in
theorem may15_size (p : Option Addr) (len cap : Nat) (fo lo ke sc mo n : Int) (iv op : Bool) (hn : ((len : Int) == n) = false) (HC : CR 17 #[.agg #[.int .i64 fo, .int .i64 lo, .int .i64 ke, .int .i64 sc, .int .i64 mo, .bool iv]] (.bool true)) (HP : CR 26 #[.int .i64 lo] (.int .i64 n)) (w : World) :
 CW 10 #[.slice p len cap, .agg #[.int .i64 fo, .int .i64 lo, .int .i64 ke, .int .i64 sc, .int .i64 mo, .bool iv], .bool op] w (.int .i64 3) :=by
 delta CW
 go_enter Tryz.func10, Tryz.ntmps10
 go_wp2_with fail
 obtain ⟨u0, hu⟩ : ∃ uu, uu = w.alloc (.cells #[.int .i64 fo, .int .i64 lo, .int .i64 ke, .int .i64 sc, .int .i64 mo, .bool iv] 24) := ⟨_, rfl⟩
 have R0 : CellsAt u0 w.heap.size 24 #[.int .i64 fo, .int .i64 lo, .int .i64 ke, .int .i64 sc, .int .i64 mo, .bool iv] := by rw [hu]; exact CellsAt.new w 24 _
 have y0 : Gr w u0 := by rw [hu]; exact (Gr.refl w).alloc _ _
 rw [← hu]
 clear hu
 refine (HC.out _).mono ?_
 rintro e w1 ⟨rfl, g1⟩
 have R1 := R0.gr g1
 have y1 := y0.trans g1
 have l1 := R1.lt
 clear R0 y0 g1
 obtain ⟨c0, c1, c2, c3, c4, c5⟩ := R1.t6
 go_wp2_with fail
 clear c0 c1 c2 c3 c4 c5
 refine (HP.out _).mono ?_
 rintro e w2 ⟨rfl, g2⟩
 have R2 := R1.gr g2
 have y2 := y1.trans g2
 have l2 := R2.lt
 clear R1 y1 g2
 go_wp2_with fail
 go_ret
 exact ⟨rfl, y2⟩
set_option maxHeartbeats 2000000 in
theorem may15_oy (p : Option Addr) (len cap : Nat) (xs : List Gi) (fo lo ke sc mo n q : Int) (iv : Bool) (hn : ((len : Int) == n) = true) (q0 : 0 ≤ q) (q1 : q ≤ 2147483648) (HC : CR 17 #[.agg #[.int .i64 fo, .int .i64 lo, .int .i64 ke, .int .i64 sc, .int .i64 mo, .bool iv]] (.bool true)) (HP : CR 26 #[.int .i64 lo] (.int .i64 n)) (HO : CR 30 #[.int .i64 fo] (.int .i64 q))
 (HA : Hid (∀ W, CxsAt W (.slice p len cap) xs → Calls Tryz.prog 31 #[.slice p len cap, .int .i64 (-q), .int .i64 q] W fun e w' => e = .returned (.bool true) ∧ Gr W w')) (w : World) (hv : CxsAt w (.slice p len cap) xs) :
 CW 10 #[.slice p len cap, .agg #[.int .i64 fo, .int .i64 lo, .int .i64 ke, .int .i64 sc, .int .i64 mo, .bool iv], .bool true] w (.int .i64 0) :=by
 delta CW
 go_enter Tryz.func10, Tryz.ntmps10
 go_wp2_with fail
 obtain ⟨u0, hu⟩ : ∃ uu, uu = w.alloc (.cells #[.int .i64 fo, .int .i64 lo, .int .i64 ke, .int .i64 sc, .int .i64 mo, .bool iv] 24) := ⟨_, rfl⟩
 have R0 : CellsAt u0 w.heap.size 24 #[.int .i64 fo, .int .i64 lo, .int .i64 ke, .int .i64 sc, .int .i64 mo, .bool iv] := by rw [hu]; exact CellsAt.new w 24 _
 have y0 : Gr w u0 := by rw [hu]; exact (Gr.refl w).alloc _ _
 rw [← hu]
 clear hu
 refine (HC.out _).mono ?_
 rintro e w1 ⟨rfl, g1⟩
 have R1 := R0.gr g1
 have y1 := y0.trans g1
 have l1 := R1.lt
 clear R0 y0 g1
 obtain ⟨c0, c1, c2, c3, c4, c5⟩ := R1.t6
 go_wp2_with fail
 clear c0 c1 c2 c3 c4 c5
 refine (HP.out _).mono ?_
 rintro e w2 ⟨rfl, g2⟩
 have R2 := R1.gr g2
 have y2 := y1.trans g2
 have l2 := R2.lt
 clear R1 y1 g2
 obtain ⟨c0, c1, c2, c3, c4, c5⟩ := R2.t6
 go_wp2_with fail
 clear c0 c1 c2 c3 c4 c5
 refine (HO.out _).mono ?_
 rintro e w3 ⟨rfl, g3⟩
 have R3 := R2.gr g3
 have y3 := y2.trans g3
 have l3 := R3.lt
 clear R2 y2 g3
 go_wp2_with fail
 refine (HA.out _ (hv.gr y3)).mono ?_
 rintro e w4 ⟨rfl, g4⟩
 go_wp2_with fail
 go_ret
 exact ⟨rfl, y3.trans g4⟩
set_option maxHeartbeats 2000000 in
theorem may15_on (p : Option Addr) (len cap : Nat) (xs : List Gi) (fo lo ke sc mo n q : Int) (iv : Bool) (hn : ((len : Int) == n) = true) (q0 : 0 ≤ q) (q1 : q ≤ 2147483648) (HC : CR 17 #[.agg #[.int .i64 fo, .int .i64 lo, .int .i64 ke, .int .i64 sc, .int .i64 mo, .bool iv]] (.bool true)) (HP : CR 26 #[.int .i64 lo] (.int .i64 n)) (HO : CR 30 #[.int .i64 fo] (.int .i64 q))
 (HA : Hid (∀ W, CxsAt W (.slice p len cap) xs → Calls Tryz.prog 31 #[.slice p len cap, .int .i64 (-q), .int .i64 q] W fun e w' => e = .returned (.bool false) ∧ Gr W w')) (w : World) (hv : CxsAt w (.slice p len cap) xs) :
 CW 10 #[.slice p len cap, .agg #[.int .i64 fo, .int .i64 lo, .int .i64 ke, .int .i64 sc, .int .i64 mo, .bool iv], .bool true] w (.int .i64 2) :=by
 delta CW
 go_enter Tryz.func10, Tryz.ntmps10
 go_wp2_with fail
 obtain ⟨u0, hu⟩ : ∃ uu, uu = w.alloc (.cells #[.int .i64 fo, .int .i64 lo, .int .i64 ke, .int .i64 sc, .int .i64 mo, .bool iv] 24) := ⟨_, rfl⟩
 have R0 : CellsAt u0 w.heap.size 24 #[.int .i64 fo, .int .i64 lo, .int .i64 ke, .int .i64 sc, .int .i64 mo, .bool iv] := by rw [hu]; exact CellsAt.new w 24 _
 have y0 : Gr w u0 := by rw [hu]; exact (Gr.refl w).alloc _ _
 rw [← hu]
 clear hu
 refine (HC.out _).mono ?_
 rintro e w1 ⟨rfl, g1⟩
 have R1 := R0.gr g1
 have y1 := y0.trans g1
 have l1 := R1.lt
 clear R0 y0 g1
 obtain ⟨c0, c1, c2, c3, c4, c5⟩ := R1.t6
 go_wp2_with fail
 clear c0 c1 c2 c3 c4 c5
 refine (HP.out _).mono ?_
 rintro e w2 ⟨rfl, g2⟩
 have R2 := R1.gr g2
 have y2 := y1.trans g2
 have l2 := R2.lt
 clear R1 y1 g2
 obtain ⟨c0, c1, c2, c3, c4, c5⟩ := R2.t6
 go_wp2_with fail
 clear c0 c1 c2 c3 c4 c5
 refine (HO.out _).mono ?_
 rintro e w3 ⟨rfl, g3⟩
 have R3 := R2.gr g3
 have y3 := y2.trans g3
 have l3 := R3.lt
 clear R2 y2 g3
 go_wp2_with fail
 refine (HA.out _ (hv.gr y3)).mono ?_
 rintro e w4 ⟨rfl, g4⟩
 go_wp2_with fail
 go_ret
 exact ⟨rfl, y3.trans g4⟩
set_option maxHeartbeats 2000000 in
theorem may15_cy (p : Option Addr) (len cap : Nat) (xs : List Gi) (fo lo ke sc mo n q : Int) (iv : Bool) (hn : ((len : Int) == n) = true) (q0 : 0 ≤ q) (q1 : q ≤ 2147483648) (HC : CR 17 #[.agg #[.int .i64 fo, .int .i64 lo, .int .i64 ke, .int .i64 sc, .int .i64 mo, .bool iv]] (.bool true)) (HP : CR 26 #[.int .i64 lo] (.int .i64 n)) (HO : CR 30 #[.int .i64 fo] (.int .i64 q))
 (HA : Hid (∀ W, CxsAt W (.slice p len cap) xs → Calls Tryz.prog 31 #[.slice p len cap, .int .i64 (-q), .int .i64 (q - 1)] W fun e w' => e = .returned (.bool true) ∧ Gr W w')) (w : World) (hv : CxsAt w (.slice p len cap) xs) :
 CW 10 #[.slice p len cap, .agg #[.int .i64 fo, .int .i64 lo, .int .i64 ke, .int .i64 sc, .int .i64 mo, .bool iv], .bool false] w (.int .i64 0) :=by
 delta CW
 go_enter Tryz.func10, Tryz.ntmps10
 go_wp2_with fail
 obtain ⟨u0, hu⟩ : ∃ uu, uu = w.alloc (.cells #[.int .i64 fo, .int .i64 lo, .int .i64 ke, .int .i64 sc, .int .i64 mo, .bool iv] 24) := ⟨_, rfl⟩
 have R0 : CellsAt u0 w.heap.size 24 #[.int .i64 fo, .int .i64 lo, .int .i64 ke, .int .i64 sc, .int .i64 mo, .bool iv] := by rw [hu]; exact CellsAt.new w 24 _
 have y0 : Gr w u0 := by rw [hu]; exact (Gr.refl w).alloc _ _
 rw [← hu]
 clear hu
 refine (HC.out _).mono ?_
 rintro e w1 ⟨rfl, g1⟩
 have R1 := R0.gr g1
 have y1 := y0.trans g1
 have l1 := R1.lt
 clear R0 y0 g1
 obtain ⟨c0, c1, c2, c3, c4, c5⟩ := R1.t6
 go_wp2_with fail
 clear c0 c1 c2 c3 c4 c5
 refine (HP.out _).mono ?_
 rintro e w2 ⟨rfl, g2⟩
 have R2 := R1.gr g2
 have y2 := y1.trans g2
 have l2 := R2.lt
 clear R1 y1 g2
 obtain ⟨c0, c1, c2, c3, c4, c5⟩ := R2.t6
 go_wp2_with fail
 clear c0 c1 c2 c3 c4 c5
 refine (HO.out _).mono ?_
 rintro e w3 ⟨rfl, g3⟩
 have R3 := R2.gr g3
 have y3 := y2.trans g3
 have l3 := R3.lt
 clear R2 y2 g3
 go_wp2_with fail
 refine (HA.out _ (hv.gr y3)).mono ?_
 rintro e w4 ⟨rfl, g4⟩
 go_wp2_with fail
 go_ret
 exact ⟨rfl, y3.trans g4⟩
set_option maxHeartbeats 2000000 in
theorem may15_cn (p : Option Addr) (len cap : Nat) (xs : List Gi) (fo lo ke sc mo n q : Int) (iv : Bool) (hn : ((len : Int) == n) = true) (q0 : 0 ≤ q) (q1 : q ≤ 2147483648) (HC : CR 17 #[.agg #[.int .i64 fo, .int .i64 lo, .int .i64 ke, .int .i64 sc, .int .i64 mo, .bool iv]] (.bool true)) (HP : CR 26 #[.int .i64 lo] (.int .i64 n)) (HO : CR 30 #[.int .i64 fo] (.int .i64 q))
 (HA : Hid (∀ W, CxsAt W (.slice p len cap) xs → Calls Tryz.prog 31 #[.slice p len cap, .int .i64 (-q), .int .i64 (q - 1)] W fun e w' => e = .returned (.bool false) ∧ Gr W w')) (w : World) (hv : CxsAt w (.slice p len cap) xs) :
 CW 10 #[.slice p len cap, .agg #[.int .i64 fo, .int .i64 lo, .int .i64 ke, .int .i64 sc, .int .i64 mo, .bool iv], .bool false] w (.int .i64 2) :=by
 delta CW
 go_enter Tryz.func10, Tryz.ntmps10
 go_wp2_with fail
 obtain ⟨u0, hu⟩ : ∃ uu, uu = w.alloc (.cells #[.int .i64 fo, .int .i64 lo, .int .i64 ke, .int .i64 sc, .int .i64 mo, .bool iv] 24) := ⟨_, rfl⟩
 have R0 : CellsAt u0 w.heap.size 24 #[.int .i64 fo, .int .i64 lo, .int .i64 ke, .int .i64 sc, .int .i64 mo, .bool iv] := by rw [hu]; exact CellsAt.new w 24 _
 have y0 : Gr w u0 := by rw [hu]; exact (Gr.refl w).alloc _ _
 rw [← hu]
 clear hu
 refine (HC.out _).mono ?_
 rintro e w1 ⟨rfl, g1⟩
 have R1 := R0.gr g1
 have y1 := y0.trans g1
 have l1 := R1.lt
 clear R0 y0 g1
 obtain ⟨c0, c1, c2, c3, c4, c5⟩ := R1.t6
 go_wp2_with fail
 clear c0 c1 c2 c3 c4 c5
 refine (HP.out _).mono ?_
 rintro e w2 ⟨rfl, g2⟩
 have R2 := R1.gr g2
 have y2 := y1.trans g2
 have l2 := R2.lt
 clear R1 y1 g2
 obtain ⟨c0, c1, c2, c3, c4, c5⟩ := R2.t6
 go_wp2_with fail
 clear c0 c1 c2 c3 c4 c5
 refine (HO.out _).mono ?_
 rintro e w3 ⟨rfl, g3⟩
 have R3 := R2.gr g3
 have y3 := y2.trans g3
 have l3 := R3.lt
 clear R2 y2 g3
 go_wp2_with fail
 refine (HA.out _ (hv.gr y3)).mono ?_
 rintro e w4 ⟨rfl, g4⟩
 go_wp2_with fail
 go_ret
 exact ⟨rfl, y3.trans g4⟩
set_option maxHeartbeats 2000000 in
theorem same15_c (vx vs ux us : Value) (ex : Int) (sat : Bool) (xs : List Gi) (sh : List Int) (w : World) (hx : CxsAt w vx xs) (hs : NumsAt w vs sh) (kx : CxsAt w ux xs) (ks : NumsAt w us sh) :
 CW 12 #[.agg #[vx, .int .i64 ex, .bool sat, vs], .agg #[ux, .int .i64 ex, .bool sat, us]] w (.bool true) :=by
 delta CW
 go_enter Tryz.func12, Tryz.ntmps12
 go_wp2_with fail
 obtain ⟨u0, hU⟩ : ∃ uu, uu = ((w.alloc (.cells #[vx, .int .i64 ex, .bool sat, vs] 27)).alloc (.cells #[ux, .int .i64 ex, .bool sat, us] 27)) := ⟨_, rfl⟩
 have ⟨gu, R0, R1⟩ := lay2 hU
 rw [← hU]
 clear hU
 have la := R0.lt
 have lb := R1.lt
 obtain ⟨ca0, ca1, ca2, ca3⟩ := R0.t4
 obtain ⟨cb0, cb1, cb2, cb3⟩ := R1.t4
 go_wp2_with fail
 clear ca0 ca1 ca2 ca3 cb0 cb1 cb2 cb3
 refine (same03_c vx ux xs _ (hx.gr gu) (kx.gr gu)).mono ?_
 rintro e w1 ⟨rfl, g1⟩
 have ⟨Fa_1, la_1⟩ := R0.gl g1
 have ⟨Fb_1, lb_1⟩ := R1.gl g1
 have z1 := gu.trans g1
 clear R0 R1 gu g1
 obtain ⟨ca0, ca1, ca2, ca3⟩ := Fa_1.t4
 obtain ⟨cb0, cb1, cb2, cb3⟩ := Fb_1.t4
 go_wp2_with fail
 clear ca0 ca1 ca2 ca3 cb0 cb1 cb2 cb3
 refine (same04n_c vs us sh _ (hs.gr z1) (ks.gr z1)).mono ?_
 rintro e w2 ⟨rfl, g2⟩
 go_wp2_with fail
 go_ret
 exact ⟨rfl, z1.trans g2⟩
end
end Go.Proofs.YtablflakcaimmaaGreat
