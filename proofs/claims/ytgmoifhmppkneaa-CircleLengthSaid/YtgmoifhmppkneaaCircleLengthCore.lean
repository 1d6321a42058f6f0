/- CircleLength: its walk, by what the functions answer. -/
import Derived.Test.YtgmoifhmppkneaaLaw06
import Derived.BigQuiet
import Derived.Deep.RegionHeld3
namespace Go.Proofs.Ytgmoifhmppkneaa
open Go.ChangeShapes Go.WideShapes Go.ChangeAt Go.RowKit
set_option linter.unusedVariables false

set_option maxRecDepth 100000 in set_option maxHeartbeats 8000000 in
theorem clength_c (a z p0 p1 q0 q1 m0 m1 : Int) (hz : a / 128 = z) (bz : -72057594037927936 ≤ z ∧ z ≤ 72057594037927936) (bq1 : -1000000000000000000 ≤ q1 ∧ q1 ≤ 1000000000000000000) (bm0 : -300000000000000000 ≤ m0 ∧ m0 ≤ 300000000000000000) (bm1 : -300000000000000000 ≤ m1 ∧ m1 ≤ 300000000000000000)
    (HP : Hid (∀ W, Calls Try.prog 7 #[.int .i64 z] W fun e w' => e = .returned (.tuple #[.agg #[.int .i64 p0, .int .i64 p1], .int .i64 0]) ∧ Gr W w'))
    (HQ : Hid (∀ W, Calls Try.prog 7 #[.int .i64 (-z)] W fun e w' => e = .returned (.tuple #[.agg #[.int .i64 q0, .int .i64 q1], .int .i64 0]) ∧ Gr W w'))
    (M0 : Hid (∀ W, Calls Try.prog 15 #[.int .i64 p0, .int .i64 p0] W fun e w' => e = .returned (.int .i64 m0) ∧ w' = W))
    (M1 : Hid (∀ W, Calls Try.prog 15 #[.int .i64 p1, .int .i64 p1] W fun e w' => e = .returned (.int .i64 m1) ∧ w' = W))
    (N0 : Hid (∀ W, Calls Try.prog 14 #[.int .i64 (m0 + m1), .int .i64 72057594037927936, .int .i64 65536] W fun e w' => e = .returned (.bool true) ∧ w' = W))
    (N1 : Hid (∀ W, Calls Try.prog 14 #[.int .i64 p0, .int .i64 q0, .int .i64 16384] W fun e w' => e = .returned (.bool true) ∧ w' = W))
    (N2 : Hid (∀ W, Calls Try.prog 14 #[.int .i64 p1, .int .i64 (-q1), .int .i64 16384] W fun e w' => e = .returned (.bool true) ∧ w' = W))
    (w : World) : Calls Try.prog 4 #[.int .i64 a] w fun e w' => e = .returned (.bool true) ∧ Gr w w' := by
  have AL := Lib.hid alive06_c
  have wr0 : IntKind.i64.wrap (m0 + m1) = m0 + m1 := IntWalk.i64_in _ ⟨by omega, by omega⟩
  have wr1 : IntKind.i64.wrap (-q1) = -q1 := IntWalk.i64_in _ ⟨by omega, by omega⟩
  go_enter Try.func4, Try.ntmps4
  go_wp2_with fail
  refine (HP.out _).mono ?_
  rintro e v1 ⟨rfl, g1⟩
  have P1_ := CellsAt.new v1 23 #[.int .i64 p0, .int .i64 p1]
  have G1 := g1.alloc #[.int .i64 p0, .int .i64 p1] 23
  clear g1
  go_wp2_with fail
  generalize v1.alloc (.cells #[.int .i64 p0, .int .i64 p1] 23) = u1 at *
  generalize v1.heap.size = B1 at *
  have P1 := P1_
  clear P1_
  go_wp2_with fail
  refine (HQ.out _).mono ?_
  rintro e v2 ⟨rfl, g2⟩
  have P1_ := (P1.gr g2).alloc (.cells #[.int .i64 q0, .int .i64 q1] 23)
  have P2_ := CellsAt.new v2 23 #[.int .i64 q0, .int .i64 q1]
  have G2 := (G1.trans g2).alloc #[.int .i64 q0, .int .i64 q1] 23
  clear P1 G1 g2
  go_wp2_with fail
  generalize v2.alloc (.cells #[.int .i64 q0, .int .i64 q1] 23) = u2 at *
  generalize v2.heap.size = B2 at *
  have P1 := P1_
  have P2 := P2_
  clear P1_ P2_
  have c10 := P1.cell 0
  have c11 := P1.cell 1
  have l1 := P1.lt
  simp only [List.getElem?_toArray, List.getElem?_cons_zero, List.getElem?_cons_succ] at c10 c11
  have c20 := P2.cell 0
  have c21 := P2.cell 1
  have l2 := P2.lt
  simp only [List.getElem?_toArray, List.getElem?_cons_zero, List.getElem?_cons_succ] at c20 c21
  go_region_held3 (fun W => W.cell? ⟨B1, 0, none⟩ = some (.int .i64 p0) ∧ W.cell? ⟨B1, 1, none⟩ = some (.int .i64 p1) ∧ W.cell? ⟨B2, 0, none⟩ = some (.int .i64 q0) ∧ W.cell? ⟨B2, 1, none⟩ = some (.int .i64 q1) ∧ Gr u2 W) (first | (go_split_ands; refine ⟨?_, ?_, ?_, ?_, ?_⟩; (all_goals (first | assumption | exact Gr.refl _ | exact Gr.drew (Gr.refl _) | exact Gr.drew (by assumption) | (go_keep; done) | ((refine (Gr.cell (by assumption) ?_).trans ?_ <;> (first | assumption)); done))))) (first | (go_at_call 11; go_split_ands; ((with_reducible refine (AL.out _).mono ?_); rintro e w' ⟨rfl, hg⟩; have hgw : Gr u2 w' := Gr.trans (by first | assumption | exact Gr.drew (Gr.refl _) | exact Gr.drew (by assumption) | exact Gr.refl _) hg)) | (go_at_call 15; go_split_ands; ((with_reducible refine (M0.out _).mono ?_); rintro e w' ⟨rfl, rfl⟩)) | (go_at_call 15; go_split_ands; ((with_reducible refine (M1.out _).mono ?_); rintro e w' ⟨rfl, rfl⟩)) | (go_at_call 14; go_split_ands; ((with_reducible refine (N0.out _).mono ?_); rintro e w' ⟨rfl, rfl⟩)) | (go_at_call 14; go_split_ands; ((with_reducible refine (N1.out _).mono ?_); rintro e w' ⟨rfl, rfl⟩)) | (go_at_call 14; go_split_ands; ((with_reducible refine (N2.out _).mono ?_); rintro e w' ⟨rfl, rfl⟩)))
  have g4 : Gr u2 w' := by (try go_split_ands); assumption
  go_wp2_with fail
  go_ret
  exact ⟨rfl, G2.trans g4⟩

end Go.Proofs.Ytgmoifhmppkneaa
