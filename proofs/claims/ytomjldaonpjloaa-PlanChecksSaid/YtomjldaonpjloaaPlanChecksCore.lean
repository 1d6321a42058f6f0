/- PlanChecks: both cases. -/
import Derived.Test.YtomjldaonpjloaaLaw13
namespace Go.Proofs.Ytomjldaonpjloaa
open Go.ChangeShapes Go.WideShapes Go.ChangeAt Go.RowKit
set_option linter.unusedVariables false
set_option linter.unusedSimpArgs false
set_option maxRecDepth 100000


set_option maxHeartbeats 2000000 in
theorem planChecks_bad (fo lo ke sc mo : Int) (iv : Bool)
    (HP : Hid (∀ W, Calls Try.prog 8 #[.agg #[.int .i64 fo, .int .i64 lo, .int .i64 ke, .int .i64 sc, .int .i64 mo, .bool iv]] W fun e w' => e = .returned (.tuple #[.slice none 0 0, .int .i64 4]) ∧ Gr W w')) (HR : Hid (∀ W, Calls Try.prog 9 #[.agg #[.int .i64 fo, .int .i64 lo, .int .i64 ke, .int .i64 sc, .int .i64 mo, .bool iv]] W fun e w' => e = .returned (.bool false) ∧ Gr W w')) (HC : Hid (∀ W, Calls Try.prog 11 #[.agg #[.int .i64 fo, .int .i64 lo, .int .i64 ke, .int .i64 sc, .int .i64 mo, .bool iv]] W fun e w' => e = .returned (.int .i64 4) ∧ Gr W w')) (AL : Hid (∀ W, Calls Try.prog 10 #[] W fun e w' => e = .returned (.bool true) ∧ Gr W w')) (w : World) :
    Calls Try.prog 3 #[.agg #[.int .i64 fo, .int .i64 lo, .int .i64 ke, .int .i64 sc, .int .i64 mo, .bool iv]] w fun e w' => e = .returned (.bool true) ∧ Gr w w' := by
  go_enter Try.func3, Try.ntmps3
  go_wp2_with fail
  obtain ⟨u0, hu⟩ : ∃ uu, uu = w.alloc (.cells #[.int .i64 fo, .int .i64 lo, .int .i64 ke, .int .i64 sc, .int .i64 mo, .bool iv] 23) := ⟨_, rfl⟩
  have R0 : CellsAt u0 w.heap.size 23 #[.int .i64 fo, .int .i64 lo, .int .i64 ke, .int .i64 sc, .int .i64 mo, .bool iv] := by rw [hu]; exact CellsAt.new w 23 #[.int .i64 fo, .int .i64 lo, .int .i64 ke, .int .i64 sc, .int .i64 mo, .bool iv]
  have gu : Gr w u0 := by rw [hu]; exact (Gr.refl w).alloc _ _
  rw [← hu]
  clear hu
  refine (HP.out _).mono ?_
  rintro e w1 ⟨rfl, g1⟩
  have R1 := R0.gr g1
  have y1 := (gu).trans g1
  have l1 := R1.lt
  have c0 := R1.cell 0
  have c1 := R1.cell 1
  have c2 := R1.cell 2
  have c3 := R1.cell 3
  have c4 := R1.cell 4
  have c5 := R1.cell 5
  simp only [List.getElem?_toArray, List.getElem?_cons_zero, List.getElem?_cons_succ] at c0 c1 c2 c3 c4 c5
  go_wp2_with fail
  clear c0 c1 c2 c3 c4 c5
  refine (HR.out _).mono ?_
  rintro e w2 ⟨rfl, g2⟩
  have R2 := R1.gr g2
  have y2 := (y1).trans g2
  have l2 := R2.lt
  have c0 := R2.cell 0
  have c1 := R2.cell 1
  have c2 := R2.cell 2
  have c3 := R2.cell 3
  have c4 := R2.cell 4
  have c5 := R2.cell 5
  simp only [List.getElem?_toArray, List.getElem?_cons_zero, List.getElem?_cons_succ] at c0 c1 c2 c3 c4 c5
  go_wp2_with fail
  clear c0 c1 c2 c3 c4 c5
  refine (AL.out _).mono ?_
  rintro e w3 ⟨rfl, g3⟩
  have R3 := R2.gr g3
  have y3 := (y2).trans g3
  have l3 := R3.lt
  have c0 := R3.cell 0
  have c1 := R3.cell 1
  have c2 := R3.cell 2
  have c3 := R3.cell 3
  have c4 := R3.cell 4
  have c5 := R3.cell 5
  simp only [List.getElem?_toArray, List.getElem?_cons_zero, List.getElem?_cons_succ] at c0 c1 c2 c3 c4 c5
  go_wp2_with fail
  clear c0 c1 c2 c3 c4 c5
  refine (HC.out _).mono ?_
  rintro e w4 ⟨rfl, g4⟩
  have R4 := R3.gr g4
  have y4 := (y3).trans g4
  have l4 := R4.lt
  go_wp2_with fail
  go_ret
  exact ⟨rfl, y4⟩


set_option maxHeartbeats 2000000 in
theorem planChecks_ok (fo lo ke sc mo : Int) (iv : Bool) (L : List Gi)
    (HP : Hid (∀ W, Calls Try.prog 8 #[.agg #[.int .i64 fo, .int .i64 lo, .int .i64 ke, .int .i64 sc, .int .i64 mo, .bool iv]] W fun e w' => ∃ v, e = .returned (.tuple #[v, .int .i64 0]) ∧ CxsAt w' v L ∧ Gr W w')) (HR : Hid (∀ W, Calls Try.prog 9 #[.agg #[.int .i64 fo, .int .i64 lo, .int .i64 ke, .int .i64 sc, .int .i64 mo, .bool iv]] W fun e w' => e = .returned (.bool true) ∧ Gr W w')) (HC : Hid (∀ W, Calls Try.prog 11 #[.agg #[.int .i64 fo, .int .i64 lo, .int .i64 ke, .int .i64 sc, .int .i64 mo, .bool iv]] W fun e w' => e = .returned (.int .i64 0) ∧ Gr W w'))
    (HQ : Hid (∀ W, Calls Try.prog 13 #[.agg #[.int .i64 fo, .int .i64 lo, .int .i64 ke, .int .i64 sc, .int .i64 mo, .bool iv]] W fun e w' => ∃ v, e = .returned v ∧ CxsAt w' v L ∧ Gr W w')) (AL : Hid (∀ W, Calls Try.prog 10 #[] W fun e w' => e = .returned (.bool true) ∧ Gr W w')) (w : World) :
    Calls Try.prog 3 #[.agg #[.int .i64 fo, .int .i64 lo, .int .i64 ke, .int .i64 sc, .int .i64 mo, .bool iv]] w fun e w' => e = .returned (.bool true) ∧ Gr w w' := by
  go_enter Try.func3, Try.ntmps3
  go_wp2_with fail
  obtain ⟨u0, hu⟩ : ∃ uu, uu = w.alloc (.cells #[.int .i64 fo, .int .i64 lo, .int .i64 ke, .int .i64 sc, .int .i64 mo, .bool iv] 23) := ⟨_, rfl⟩
  have R0 : CellsAt u0 w.heap.size 23 #[.int .i64 fo, .int .i64 lo, .int .i64 ke, .int .i64 sc, .int .i64 mo, .bool iv] := by rw [hu]; exact CellsAt.new w 23 #[.int .i64 fo, .int .i64 lo, .int .i64 ke, .int .i64 sc, .int .i64 mo, .bool iv]
  have gu : Gr w u0 := by rw [hu]; exact (Gr.refl w).alloc _ _
  rw [← hu]
  clear hu
  refine (HP.out _).mono ?_
  rintro e w1 ⟨v, rfl, hv1, g1⟩
  have R1 := R0.gr g1
  have y1 := (gu).trans g1
  have l1 := R1.lt
  have c0 := R1.cell 0
  have c1 := R1.cell 1
  have c2 := R1.cell 2
  have c3 := R1.cell 3
  have c4 := R1.cell 4
  have c5 := R1.cell 5
  simp only [List.getElem?_toArray, List.getElem?_cons_zero, List.getElem?_cons_succ] at c0 c1 c2 c3 c4 c5
  go_wp2_with fail
  clear c0 c1 c2 c3 c4 c5
  refine (HR.out _).mono ?_
  rintro e w2 ⟨rfl, g2⟩
  have R2 := R1.gr g2
  have y2 := (y1).trans g2
  have l2 := R2.lt
  have hv2 := hv1.gr g2
  have c0 := R2.cell 0
  have c1 := R2.cell 1
  have c2 := R2.cell 2
  have c3 := R2.cell 3
  have c4 := R2.cell 4
  have c5 := R2.cell 5
  simp only [List.getElem?_toArray, List.getElem?_cons_zero, List.getElem?_cons_succ] at c0 c1 c2 c3 c4 c5
  go_wp2_with fail
  clear c0 c1 c2 c3 c4 c5
  refine (AL.out _).mono ?_
  rintro e w3 ⟨rfl, g3⟩
  have R3 := R2.gr g3
  have y3 := (y2).trans g3
  have l3 := R3.lt
  have hv3 := hv2.gr g3
  have c0 := R3.cell 0
  have c1 := R3.cell 1
  have c2 := R3.cell 2
  have c3 := R3.cell 3
  have c4 := R3.cell 4
  have c5 := R3.cell 5
  simp only [List.getElem?_toArray, List.getElem?_cons_zero, List.getElem?_cons_succ] at c0 c1 c2 c3 c4 c5
  go_wp2_with fail
  clear c0 c1 c2 c3 c4 c5
  refine (HC.out _).mono ?_
  rintro e w4 ⟨rfl, g4⟩
  have R4 := R3.gr g4
  have y4 := (y3).trans g4
  have l4 := R4.lt
  have hv4 := hv3.gr g4
  have c0 := R4.cell 0
  have c1 := R4.cell 1
  have c2 := R4.cell 2
  have c3 := R4.cell 3
  have c4 := R4.cell 4
  have c5 := R4.cell 5
  simp only [List.getElem?_toArray, List.getElem?_cons_zero, List.getElem?_cons_succ] at c0 c1 c2 c3 c4 c5
  go_wp2_with fail
  clear c0 c1 c2 c3 c4 c5
  refine (HQ.out _).mono ?_
  rintro e w5 ⟨v2, rfl, hv, g5⟩
  have R5 := R4.gr g5
  have y5 := (y4).trans g5
  have l5 := R5.lt
  have hv5 := hv4.gr g5
  go_wp2_with fail
  refine (same13_c _ _ L w5 hv5 hv).mono ?_
  rintro e w6 ⟨rfl, g6⟩
  go_wp2_with fail
  go_ret
  exact ⟨rfl, y5.trans g6⟩
end Go.Proofs.Ytomjldaonpjloaa
