/- BudgetPlans: all cases. -/
import Derived.Test.YtmjghakodgihiaaLaw14
namespace Go.Proofs.Ytmjghakodgihiaa
open Go.ChangeShapes Go.WideShapes Go.ChangeAt Go.RowKit
set_option linter.unusedVariables false
set_option linter.unusedSimpArgs false
set_option maxRecDepth 100000


set_option maxHeartbeats 2000000 in
theorem budgetPlans_bad (p : Option Addr) (len cap : Nat) (ls : List Int) (fo lo ke sc mo : Int) (iv : Bool) (hmin : (if (10 : Int) < (len : Int) then 10 else (len : Int)) = (ls.length : Int)) (hcap : ls.length ≤ cap)
    (HO : Hid (∀ sp cl W, NumsAt W (.slice sp ls.length cl) ls → Calls Try.prog 14 #[.agg #[.int .i64 fo, .int .i64 lo, .int .i64 ke, .int .i64 sc, .int .i64 mo, .bool iv], .slice sp ls.length cl] W fun e w' => e = .returned (.tuple #[.int .i64 0, .int .i64 4]) ∧ Gr W w')) (HF : Hid (∀ W, Calls Try.prog 15 #[.agg #[.int .i64 fo, .int .i64 lo, .int .i64 ke, .int .i64 sc, .int .i64 mo, .bool iv]] W fun e w' => e = .returned (.tuple #[.slice none 0 0, .int .i64 4]) ∧ Gr W w')) (HC : Hid (∀ W, Calls Try.prog 9 #[.agg #[.int .i64 fo, .int .i64 lo, .int .i64 ke, .int .i64 sc, .int .i64 mo, .bool iv]] W fun e w' => e = .returned (.bool false) ∧ Gr W w')) (AL : Hid (∀ W, Calls Try.prog 11 #[] W fun e w' => e = .returned (.bool true) ∧ Gr W w'))
    (w : World) (hl : NumsAt w (.slice p ls.length cap) ls) :
    Calls Try.prog 4 #[.agg #[.int .i64 fo, .int .i64 lo, .int .i64 ke, .int .i64 sc, .int .i64 mo, .bool iv], .slice p len cap] w fun e w' => e = .returned (.bool true) ∧ Gr w w' := by
  have hcut := run_cut_int p len cap ls.length hcap
  go_enter Try.func4, Try.ntmps4
  go_wp2_with fail
  obtain ⟨u0, hu⟩ : ∃ uu, uu = w.alloc (.cells #[.int .i64 fo, .int .i64 lo, .int .i64 ke, .int .i64 sc, .int .i64 mo, .bool iv] 23) := ⟨_, rfl⟩
  have R0 : CellsAt u0 w.heap.size 23 #[.int .i64 fo, .int .i64 lo, .int .i64 ke, .int .i64 sc, .int .i64 mo, .bool iv] := by rw [hu]; exact CellsAt.new w 23 #[.int .i64 fo, .int .i64 lo, .int .i64 ke, .int .i64 sc, .int .i64 mo, .bool iv]
  have y0 : Gr w u0 := by rw [hu]; exact (Gr.refl w).alloc _ _
  have N0 := hl.gr y0
  rw [← hu]
  clear hu hl hcap
  refine (HO.out _ _ _ N0).mono ?_
  rintro e' w1 ⟨rfl, g1⟩
  have R1 := R0.gr g1
  have y1 := y0.trans g1
  have l1 := R1.lt
  have N1 := N0.gr g1
  clear R0 y0 g1 N0
  have c0 := CellsAt.cell R1 0
  have c1 := CellsAt.cell R1 1
  have c2 := CellsAt.cell R1 2
  have c3 := CellsAt.cell R1 3
  have c4 := CellsAt.cell R1 4
  have c5 := CellsAt.cell R1 5
  simp only [List.getElem?_toArray, List.getElem?_cons_zero, List.getElem?_cons_succ] at c0 c1 c2 c3 c4 c5
  go_wp2_with fail
  clear c0 c1 c2 c3 c4 c5
  refine (HF.out _).mono ?_
  rintro e' w2 ⟨rfl, g2⟩
  have R2 := R1.gr g2
  have y2 := y1.trans g2
  have l2 := R2.lt
  have N2 := N1.gr g2
  clear R1 y1 g2 N1 l1
  have c0 := CellsAt.cell R2 0
  have c1 := CellsAt.cell R2 1
  have c2 := CellsAt.cell R2 2
  have c3 := CellsAt.cell R2 3
  have c4 := CellsAt.cell R2 4
  have c5 := CellsAt.cell R2 5
  simp only [List.getElem?_toArray, List.getElem?_cons_zero, List.getElem?_cons_succ] at c0 c1 c2 c3 c4 c5
  go_wp2_with fail
  clear c0 c1 c2 c3 c4 c5
  refine (HC.out _).mono ?_
  rintro e' w3 ⟨rfl, g3⟩
  have R3 := R2.gr g3
  have y3 := y2.trans g3
  have l3 := R3.lt
  have N3 := N2.gr g3
  clear R2 y2 g3 N2 l2
  go_wp2_with fail
  refine (AL.out _).mono ?_
  rintro e' w4 ⟨rfl, g4⟩
  have R4 := R3.gr g4
  have y4 := y3.trans g4
  have l4 := R4.lt
  clear R3 y3 g4 l3
  go_wp2_with fail
  go_ret
  exact ⟨rfl, y4⟩


set_option maxHeartbeats 2000000 in
theorem budgetPlans_ok (p : Option Addr) (len cap : Nat) (ls F : List Int) (fo lo ke sc mo n : Int) (iv : Bool) (hmin : (if (10 : Int) < (len : Int) then 10 else (len : Int)) = (ls.length : Int)) (hcap : ls.length ≤ cap)
    (HO : Hid (∀ sp cl W, NumsAt W (.slice sp ls.length cl) ls → Calls Try.prog 14 #[.agg #[.int .i64 fo, .int .i64 lo, .int .i64 ke, .int .i64 sc, .int .i64 mo, .bool iv], .slice sp ls.length cl] W fun e w' => e = .returned (.tuple #[.int .i64 n, .int .i64 0]) ∧ Gr W w')) (HF : Hid (∀ W, Calls Try.prog 15 #[.agg #[.int .i64 fo, .int .i64 lo, .int .i64 ke, .int .i64 sc, .int .i64 mo, .bool iv]] W fun e w' => ∃ v, e = .returned (.tuple #[v, .int .i64 0]) ∧ NumsAt w' v F ∧ Gr W w')) (HC : Hid (∀ W, Calls Try.prog 9 #[.agg #[.int .i64 fo, .int .i64 lo, .int .i64 ke, .int .i64 sc, .int .i64 mo, .bool iv]] W fun e w' => e = .returned (.bool true) ∧ Gr W w')) (HG : Hid (∀ W, Calls Try.prog 17 #[.agg #[.int .i64 fo, .int .i64 lo, .int .i64 ke, .int .i64 sc, .int .i64 mo, .bool iv]] W fun e w' => ∃ v, e = .returned v ∧ NumsAt w' v F ∧ Gr W w'))
    (HSH : Hid (∀ sp cl W, NumsAt W (.slice sp ls.length cl) ls → Calls Try.prog 18 #[.agg #[.int .i64 fo, .int .i64 lo, .int .i64 ke, .int .i64 sc, .int .i64 mo, .bool iv], .slice sp ls.length cl] W fun e w' => e = .returned (.bool true) ∧ Gr W w')) (HRO : Hid (∀ sp cl W, NumsAt W (.slice sp ls.length cl) ls → Calls Try.prog 19 #[.agg #[.int .i64 fo, .int .i64 lo, .int .i64 ke, .int .i64 sc, .int .i64 mo, .bool iv], .slice sp ls.length cl] W fun e w' => e = .returned (.int .i64 n) ∧ Gr W w')) (AL : Hid (∀ W, Calls Try.prog 11 #[] W fun e w' => e = .returned (.bool true) ∧ Gr W w'))
    (w : World) (hl : NumsAt w (.slice p ls.length cap) ls) :
    Calls Try.prog 4 #[.agg #[.int .i64 fo, .int .i64 lo, .int .i64 ke, .int .i64 sc, .int .i64 mo, .bool iv], .slice p len cap] w fun e w' => e = .returned (.bool true) ∧ Gr w w' := by
  have hcut := run_cut_int p len cap ls.length hcap
  go_enter Try.func4, Try.ntmps4
  go_wp2_with fail
  obtain ⟨u0, hu⟩ : ∃ uu, uu = w.alloc (.cells #[.int .i64 fo, .int .i64 lo, .int .i64 ke, .int .i64 sc, .int .i64 mo, .bool iv] 23) := ⟨_, rfl⟩
  have R0 : CellsAt u0 w.heap.size 23 #[.int .i64 fo, .int .i64 lo, .int .i64 ke, .int .i64 sc, .int .i64 mo, .bool iv] := by rw [hu]; exact CellsAt.new w 23 #[.int .i64 fo, .int .i64 lo, .int .i64 ke, .int .i64 sc, .int .i64 mo, .bool iv]
  have y0 : Gr w u0 := by rw [hu]; exact (Gr.refl w).alloc _ _
  have N0 := hl.gr y0
  rw [← hu]
  clear hu hl hcap
  refine (HO.out _ _ _ N0).mono ?_
  rintro e' w1 ⟨rfl, g1⟩
  have R1 := R0.gr g1
  have y1 := y0.trans g1
  have l1 := R1.lt
  have N1 := N0.gr g1
  clear R0 y0 g1 N0
  have c0 := CellsAt.cell R1 0
  have c1 := CellsAt.cell R1 1
  have c2 := CellsAt.cell R1 2
  have c3 := CellsAt.cell R1 3
  have c4 := CellsAt.cell R1 4
  have c5 := CellsAt.cell R1 5
  simp only [List.getElem?_toArray, List.getElem?_cons_zero, List.getElem?_cons_succ] at c0 c1 c2 c3 c4 c5
  go_wp2_with fail
  clear c0 c1 c2 c3 c4 c5
  refine (HF.out _).mono ?_
  rintro e' w2 ⟨v, rfl, V2, g2⟩
  have R2 := R1.gr g2
  have y2 := y1.trans g2
  have l2 := R2.lt
  have N2 := N1.gr g2
  clear R1 y1 g2 N1 l1
  have c0 := CellsAt.cell R2 0
  have c1 := CellsAt.cell R2 1
  have c2 := CellsAt.cell R2 2
  have c3 := CellsAt.cell R2 3
  have c4 := CellsAt.cell R2 4
  have c5 := CellsAt.cell R2 5
  simp only [List.getElem?_toArray, List.getElem?_cons_zero, List.getElem?_cons_succ] at c0 c1 c2 c3 c4 c5
  go_wp2_with fail
  clear c0 c1 c2 c3 c4 c5
  refine (HC.out _).mono ?_
  rintro e' w3 ⟨rfl, g3⟩
  have R3 := R2.gr g3
  have y3 := y2.trans g3
  have l3 := R3.lt
  have N3 := N2.gr g3
  have V3 := V2.gr g3
  clear R2 y2 g3 N2 V2 l2
  have c0 := CellsAt.cell R3 0
  have c1 := CellsAt.cell R3 1
  have c2 := CellsAt.cell R3 2
  have c3 := CellsAt.cell R3 3
  have c4 := CellsAt.cell R3 4
  have c5 := CellsAt.cell R3 5
  simp only [List.getElem?_toArray, List.getElem?_cons_zero, List.getElem?_cons_succ] at c0 c1 c2 c3 c4 c5
  go_wp2_with fail
  clear c0 c1 c2 c3 c4 c5
  refine (HG.out _).mono ?_
  rintro e' w4 ⟨v2, rfl, U4, g4⟩
  have R4 := R3.gr g4
  have y4 := y3.trans g4
  have l4 := R4.lt
  have N4 := N3.gr g4
  have V4 := V3.gr g4
  clear R3 y3 g4 N3 V3 l3
  go_wp2_with fail
  refine (same04n_c _ _ F _ V4 U4).mono ?_
  rintro e' w5 ⟨rfl, g5⟩
  have R5 := R4.gr g5
  have y5 := y4.trans g5
  have l5 := R5.lt
  have N5 := N4.gr g5
  clear R4 y4 g5 N4 l4
  go_wp2_with fail
  refine (AL.out _).mono ?_
  rintro e' w6 ⟨rfl, g6⟩
  have R6 := R5.gr g6
  have y6 := y5.trans g6
  have l6 := R6.lt
  have N6 := N5.gr g6
  clear R5 y5 g6 N5 l5
  have c0 := CellsAt.cell R6 0
  have c1 := CellsAt.cell R6 1
  have c2 := CellsAt.cell R6 2
  have c3 := CellsAt.cell R6 3
  have c4 := CellsAt.cell R6 4
  have c5 := CellsAt.cell R6 5
  simp only [List.getElem?_toArray, List.getElem?_cons_zero, List.getElem?_cons_succ] at c0 c1 c2 c3 c4 c5
  go_wp2_with fail
  clear c0 c1 c2 c3 c4 c5
  refine (HSH.out _ _ _ N6).mono ?_
  rintro e' w7 ⟨rfl, g7⟩
  have R7 := R6.gr g7
  have y7 := y6.trans g7
  have l7 := R7.lt
  have N7 := N6.gr g7
  clear R6 y6 g7 N6 l6
  have c0 := CellsAt.cell R7 0
  have c1 := CellsAt.cell R7 1
  have c2 := CellsAt.cell R7 2
  have c3 := CellsAt.cell R7 3
  have c4 := CellsAt.cell R7 4
  have c5 := CellsAt.cell R7 5
  simp only [List.getElem?_toArray, List.getElem?_cons_zero, List.getElem?_cons_succ] at c0 c1 c2 c3 c4 c5
  go_wp2_with fail
  clear c0 c1 c2 c3 c4 c5
  refine (HRO.out _ _ _ N7).mono ?_
  rintro e' w8 ⟨rfl, g8⟩
  have R8 := R7.gr g8
  have y8 := y7.trans g8
  have l8 := R8.lt
  clear R7 y7 g8 l7
  go_wp2_with fail
  go_ret
  exact ⟨rfl, y8⟩


set_option maxHeartbeats 2000000 in
theorem budgetPlans_arg (p : Option Addr) (len cap : Nat) (ls F : List Int) (fo lo ke sc mo : Int) (iv : Bool) (hmin : (if (10 : Int) < (len : Int) then 10 else (len : Int)) = (ls.length : Int)) (hcap : ls.length ≤ cap)
    (HO : Hid (∀ sp cl W, NumsAt W (.slice sp ls.length cl) ls → Calls Try.prog 14 #[.agg #[.int .i64 fo, .int .i64 lo, .int .i64 ke, .int .i64 sc, .int .i64 mo, .bool iv], .slice sp ls.length cl] W fun e w' => e = .returned (.tuple #[.int .i64 0, .int .i64 1]) ∧ Gr W w')) (HF : Hid (∀ W, Calls Try.prog 15 #[.agg #[.int .i64 fo, .int .i64 lo, .int .i64 ke, .int .i64 sc, .int .i64 mo, .bool iv]] W fun e w' => ∃ v, e = .returned (.tuple #[v, .int .i64 0]) ∧ NumsAt w' v F ∧ Gr W w')) (HC : Hid (∀ W, Calls Try.prog 9 #[.agg #[.int .i64 fo, .int .i64 lo, .int .i64 ke, .int .i64 sc, .int .i64 mo, .bool iv]] W fun e w' => e = .returned (.bool true) ∧ Gr W w')) (HG : Hid (∀ W, Calls Try.prog 17 #[.agg #[.int .i64 fo, .int .i64 lo, .int .i64 ke, .int .i64 sc, .int .i64 mo, .bool iv]] W fun e w' => ∃ v, e = .returned v ∧ NumsAt w' v F ∧ Gr W w'))
    (HSH : Hid (∀ sp cl W, NumsAt W (.slice sp ls.length cl) ls → Calls Try.prog 18 #[.agg #[.int .i64 fo, .int .i64 lo, .int .i64 ke, .int .i64 sc, .int .i64 mo, .bool iv], .slice sp ls.length cl] W fun e w' => e = .returned (.bool false) ∧ Gr W w'))  (AL : Hid (∀ W, Calls Try.prog 11 #[] W fun e w' => e = .returned (.bool true) ∧ Gr W w'))
    (w : World) (hl : NumsAt w (.slice p ls.length cap) ls) :
    Calls Try.prog 4 #[.agg #[.int .i64 fo, .int .i64 lo, .int .i64 ke, .int .i64 sc, .int .i64 mo, .bool iv], .slice p len cap] w fun e w' => e = .returned (.bool true) ∧ Gr w w' := by
  have hcut := run_cut_int p len cap ls.length hcap
  go_enter Try.func4, Try.ntmps4
  go_wp2_with fail
  obtain ⟨u0, hu⟩ : ∃ uu, uu = w.alloc (.cells #[.int .i64 fo, .int .i64 lo, .int .i64 ke, .int .i64 sc, .int .i64 mo, .bool iv] 23) := ⟨_, rfl⟩
  have R0 : CellsAt u0 w.heap.size 23 #[.int .i64 fo, .int .i64 lo, .int .i64 ke, .int .i64 sc, .int .i64 mo, .bool iv] := by rw [hu]; exact CellsAt.new w 23 #[.int .i64 fo, .int .i64 lo, .int .i64 ke, .int .i64 sc, .int .i64 mo, .bool iv]
  have y0 : Gr w u0 := by rw [hu]; exact (Gr.refl w).alloc _ _
  have N0 := hl.gr y0
  rw [← hu]
  clear hu hl hcap
  refine (HO.out _ _ _ N0).mono ?_
  rintro e' w1 ⟨rfl, g1⟩
  have R1 := R0.gr g1
  have y1 := y0.trans g1
  have l1 := R1.lt
  have N1 := N0.gr g1
  clear R0 y0 g1 N0
  have c0 := CellsAt.cell R1 0
  have c1 := CellsAt.cell R1 1
  have c2 := CellsAt.cell R1 2
  have c3 := CellsAt.cell R1 3
  have c4 := CellsAt.cell R1 4
  have c5 := CellsAt.cell R1 5
  simp only [List.getElem?_toArray, List.getElem?_cons_zero, List.getElem?_cons_succ] at c0 c1 c2 c3 c4 c5
  go_wp2_with fail
  clear c0 c1 c2 c3 c4 c5
  refine (HF.out _).mono ?_
  rintro e' w2 ⟨v, rfl, V2, g2⟩
  have R2 := R1.gr g2
  have y2 := y1.trans g2
  have l2 := R2.lt
  have N2 := N1.gr g2
  clear R1 y1 g2 N1 l1
  have c0 := CellsAt.cell R2 0
  have c1 := CellsAt.cell R2 1
  have c2 := CellsAt.cell R2 2
  have c3 := CellsAt.cell R2 3
  have c4 := CellsAt.cell R2 4
  have c5 := CellsAt.cell R2 5
  simp only [List.getElem?_toArray, List.getElem?_cons_zero, List.getElem?_cons_succ] at c0 c1 c2 c3 c4 c5
  go_wp2_with fail
  clear c0 c1 c2 c3 c4 c5
  refine (HC.out _).mono ?_
  rintro e' w3 ⟨rfl, g3⟩
  have R3 := R2.gr g3
  have y3 := y2.trans g3
  have l3 := R3.lt
  have N3 := N2.gr g3
  have V3 := V2.gr g3
  clear R2 y2 g3 N2 V2 l2
  have c0 := CellsAt.cell R3 0
  have c1 := CellsAt.cell R3 1
  have c2 := CellsAt.cell R3 2
  have c3 := CellsAt.cell R3 3
  have c4 := CellsAt.cell R3 4
  have c5 := CellsAt.cell R3 5
  simp only [List.getElem?_toArray, List.getElem?_cons_zero, List.getElem?_cons_succ] at c0 c1 c2 c3 c4 c5
  go_wp2_with fail
  clear c0 c1 c2 c3 c4 c5
  refine (HG.out _).mono ?_
  rintro e' w4 ⟨v2, rfl, U4, g4⟩
  have R4 := R3.gr g4
  have y4 := y3.trans g4
  have l4 := R4.lt
  have N4 := N3.gr g4
  have V4 := V3.gr g4
  clear R3 y3 g4 N3 V3 l3
  go_wp2_with fail
  refine (same04n_c _ _ F _ V4 U4).mono ?_
  rintro e' w5 ⟨rfl, g5⟩
  have R5 := R4.gr g5
  have y5 := y4.trans g5
  have l5 := R5.lt
  have N5 := N4.gr g5
  clear R4 y4 g5 N4 l4
  go_wp2_with fail
  refine (AL.out _).mono ?_
  rintro e' w6 ⟨rfl, g6⟩
  have R6 := R5.gr g6
  have y6 := y5.trans g6
  have l6 := R6.lt
  have N6 := N5.gr g6
  clear R5 y5 g6 N5 l5
  have c0 := CellsAt.cell R6 0
  have c1 := CellsAt.cell R6 1
  have c2 := CellsAt.cell R6 2
  have c3 := CellsAt.cell R6 3
  have c4 := CellsAt.cell R6 4
  have c5 := CellsAt.cell R6 5
  simp only [List.getElem?_toArray, List.getElem?_cons_zero, List.getElem?_cons_succ] at c0 c1 c2 c3 c4 c5
  go_wp2_with fail
  clear c0 c1 c2 c3 c4 c5
  refine (HSH.out _ _ _ N6).mono ?_
  rintro e' w7 ⟨rfl, g7⟩
  have R7 := R6.gr g7
  have y7 := y6.trans g7
  have l7 := R7.lt
  have N7 := N6.gr g7
  clear R6 y6 g7 N6 l6
  go_wp2_with fail
  go_ret
  exact ⟨rfl, y7⟩


end Go.Proofs.Ytmjghakodgihiaa
