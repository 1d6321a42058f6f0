/- CircleSum: its walk, by what the functions answer. -/
import Derived.Test.YtgmoifhmppkneaaLaw06
import Derived.BigQuiet
import Derived.Deep.RegionHeld3
namespace Go.Proofs.Ytgmoifhmppkneaa
open Go.ChangeShapes Go.WideShapes Go.ChangeAt Go.RowKit
set_option linter.unusedVariables false

set_option maxRecDepth 100000 in set_option maxHeartbeats 8000000 in
theorem csum_c (a b y z p0 p1 q0 q1 s0 s1 m0 m1 m2 m3 : Int) (hy : a / 256 = y) (hz : b / 256 = z) (bd_y : -36028797018963968 ≤ y ∧ y ≤ 36028797018963968) (bd_z : -36028797018963968 ≤ z ∧ z ≤ 36028797018963968) (bd_m0 : -300000000000000000 ≤ m0 ∧ m0 ≤ 300000000000000000) (bd_m1 : -300000000000000000 ≤ m1 ∧ m1 ≤ 300000000000000000) (bd_m2 : -300000000000000000 ≤ m2 ∧ m2 ≤ 300000000000000000) (bd_m3 : -300000000000000000 ≤ m3 ∧ m3 ≤ 300000000000000000)
    (HP : Hid (∀ W, Calls Try.prog 7 #[.int .i64 y] W fun e w' => e = .returned (.tuple #[.agg #[.int .i64 p0, .int .i64 p1], .int .i64 0]) ∧ Gr W w'))
    (HQ : Hid (∀ W, Calls Try.prog 7 #[.int .i64 z] W fun e w' => e = .returned (.tuple #[.agg #[.int .i64 q0, .int .i64 q1], .int .i64 0]) ∧ Gr W w'))
    (HS : Hid (∀ W, Calls Try.prog 7 #[.int .i64 (y + z)] W fun e w' => e = .returned (.tuple #[.agg #[.int .i64 s0, .int .i64 s1], .int .i64 0]) ∧ Gr W w'))
    (M0 : Hid (∀ W, Calls Try.prog 15 #[.int .i64 p0, .int .i64 q0] W fun e w' => e = .returned (.int .i64 m0) ∧ w' = W))
    (M1 : Hid (∀ W, Calls Try.prog 15 #[.int .i64 p1, .int .i64 q1] W fun e w' => e = .returned (.int .i64 m1) ∧ w' = W))
    (M2 : Hid (∀ W, Calls Try.prog 15 #[.int .i64 p0, .int .i64 q1] W fun e w' => e = .returned (.int .i64 m2) ∧ w' = W))
    (M3 : Hid (∀ W, Calls Try.prog 15 #[.int .i64 p1, .int .i64 q0] W fun e w' => e = .returned (.int .i64 m3) ∧ w' = W))
    (N0 : Hid (∀ W, Calls Try.prog 14 #[.int .i64 s0, .int .i64 (m0 - m1), .int .i64 131072] W fun e w' => e = .returned (.bool true) ∧ w' = W))
    (N1 : Hid (∀ W, Calls Try.prog 14 #[.int .i64 s1, .int .i64 (m2 + m3), .int .i64 131072] W fun e w' => e = .returned (.bool true) ∧ w' = W))
    (w : World) : Calls Try.prog 5 #[.int .i64 a, .int .i64 b] w fun e w' => e = .returned (.bool true) ∧ Gr w w' := by
  have AL := Lib.hid alive06_c
  have wr0 : IntKind.i64.wrap (m0 - m1) = m0 - m1 := IntWalk.i64_in _ ⟨by omega, by omega⟩
  have wr1 : IntKind.i64.wrap (m2 + m3) = m2 + m3 := IntWalk.i64_in _ ⟨by omega, by omega⟩
  go_enter Try.func5, Try.ntmps5
  go_wp2_with fail
  refine (HP.out _).mono ?_
  rintro e v1 ⟨rfl, g1⟩
  have P1_ := CellsAt.new v1 23 #[.int .i64 p0, .int .i64 p1]
  have G1 := g1.alloc #[.int .i64 p0, .int .i64 p1] 23
  clear g1
  go_wp2_with fail
  generalize v1.alloc (.cells #[.int .i64 p0, .int .i64 p1] 23) = u1 at *
  generalize v1.heap.size = B1 at *
  have P1 := P1_
  clear P1_
  go_wp2_with fail
  refine (HQ.out _).mono ?_
  rintro e v2 ⟨rfl, g2⟩
  have P1_ := (P1.gr g2).alloc (.cells #[.int .i64 q0, .int .i64 q1] 23)
  have P2_ := CellsAt.new v2 23 #[.int .i64 q0, .int .i64 q1]
  have G2 := (G1.trans g2).alloc #[.int .i64 q0, .int .i64 q1] 23
  clear P1 G1 g2
  go_wp2_with fail
  generalize v2.alloc (.cells #[.int .i64 q0, .int .i64 q1] 23) = u2 at *
  generalize v2.heap.size = B2 at *
  have P1 := P1_
  have P2 := P2_
  clear P1_ P2_
  go_wp2_with fail
  refine (HS.out _).mono ?_
  rintro e v3 ⟨rfl, g3⟩
  have P1_ := (P1.gr g3).alloc (.cells #[.int .i64 s0, .int .i64 s1] 23)
  have P2_ := (P2.gr g3).alloc (.cells #[.int .i64 s0, .int .i64 s1] 23)
  have P3_ := CellsAt.new v3 23 #[.int .i64 s0, .int .i64 s1]
  have G3 := (G2.trans g3).alloc #[.int .i64 s0, .int .i64 s1] 23
  clear P1 P2 G2 g3
  go_wp2_with fail
  generalize v3.alloc (.cells #[.int .i64 s0, .int .i64 s1] 23) = u3 at *
  generalize v3.heap.size = B3 at *
  have P1 := P1_
  have P2 := P2_
  have P3 := P3_
  clear P1_ P2_ P3_
  have c10 := P1.cell 0
  have c11 := P1.cell 1
  have l1 := P1.lt
  simp only [List.getElem?_toArray, List.getElem?_cons_zero, List.getElem?_cons_succ] at c10 c11
  have c20 := P2.cell 0
  have c21 := P2.cell 1
  have l2 := P2.lt
  simp only [List.getElem?_toArray, List.getElem?_cons_zero, List.getElem?_cons_succ] at c20 c21
  have c30 := P3.cell 0
  have c31 := P3.cell 1
  have l3 := P3.lt
  simp only [List.getElem?_toArray, List.getElem?_cons_zero, List.getElem?_cons_succ] at c30 c31
  go_quiet (first | (go_at_call 15; with_reducible refine Calls.quiet_of_same (M0.out _)) | (go_at_call 15; with_reducible refine Calls.quiet_of_same (M1.out _)) | (go_at_call 15; with_reducible refine Calls.quiet_of_same (M2.out _)) | (go_at_call 15; with_reducible refine Calls.quiet_of_same (M3.out _)))
  have e10 : (u3.drewN nq).cell? ⟨B1, 0, none⟩ = some (.int .i64 p0) := c10
  have e11 : (u3.drewN nq).cell? ⟨B1, 1, none⟩ = some (.int .i64 p1) := c11
  have e20 : (u3.drewN nq).cell? ⟨B2, 0, none⟩ = some (.int .i64 q0) := c20
  have e21 : (u3.drewN nq).cell? ⟨B2, 1, none⟩ = some (.int .i64 q1) := c21
  have e30 : (u3.drewN nq).cell? ⟨B3, 0, none⟩ = some (.int .i64 s0) := c30
  have e31 : (u3.drewN nq).cell? ⟨B3, 1, none⟩ = some (.int .i64 s1) := c31
  have f1 : B1 < (u3.drewN nq).heap.size := l1
  have f2 : B2 < (u3.drewN nq).heap.size := l2
  have f3 : B3 < (u3.drewN nq).heap.size := l3
  have G4 := G3.drewN nq
  generalize u3.drewN nq = u4 at *
  clear c10 c11 c20 c21 c30 c31 P1 P2 P3 l1 l2 l3 G3
  go_wp2_with fail
  go_quiet (first | (go_at_call 15; with_reducible refine Calls.quiet_of_same (M0.out _)) | (go_at_call 15; with_reducible refine Calls.quiet_of_same (M1.out _)) | (go_at_call 15; with_reducible refine Calls.quiet_of_same (M2.out _)) | (go_at_call 15; with_reducible refine Calls.quiet_of_same (M3.out _)))
  have c10 : (u4.drewN nq).cell? ⟨B1, 0, none⟩ = some (.int .i64 p0) := e10
  have c11 : (u4.drewN nq).cell? ⟨B1, 1, none⟩ = some (.int .i64 p1) := e11
  have c20 : (u4.drewN nq).cell? ⟨B2, 0, none⟩ = some (.int .i64 q0) := e20
  have c21 : (u4.drewN nq).cell? ⟨B2, 1, none⟩ = some (.int .i64 q1) := e21
  have c30 : (u4.drewN nq).cell? ⟨B3, 0, none⟩ = some (.int .i64 s0) := e30
  have c31 : (u4.drewN nq).cell? ⟨B3, 1, none⟩ = some (.int .i64 s1) := e31
  have l1 : B1 < (u4.drewN nq).heap.size := f1
  have l2 : B2 < (u4.drewN nq).heap.size := f2
  have l3 : B3 < (u4.drewN nq).heap.size := f3
  have G3 := G4.drewN nq
  generalize u4.drewN nq = u5 at *
  clear e10 e11 e20 e21 e30 e31 f1 f2 f3 G4
  go_wp2_with fail
  refine (AL.out _).mono ?_
  rintro e w5 ⟨rfl, g5⟩
  have d10 := (g5.cell (p := ⟨B1, 0, none⟩) l1).trans c10
  have d11 := (g5.cell (p := ⟨B1, 1, none⟩) l1).trans c11
  have d20 := (g5.cell (p := ⟨B2, 0, none⟩) l2).trans c20
  have d21 := (g5.cell (p := ⟨B2, 1, none⟩) l2).trans c21
  have d30 := (g5.cell (p := ⟨B3, 0, none⟩) l3).trans c30
  have d31 := (g5.cell (p := ⟨B3, 1, none⟩) l3).trans c31
  go_wp2_with (first | (go_at_call 14; with_reducible refine (N0.out _).mono ?_; rintro e w6 ⟨rfl, rfl⟩) | (go_at_call 14; with_reducible refine (N1.out _).mono ?_; rintro e w6 ⟨rfl, rfl⟩))
  go_ret
  exact ⟨rfl, G3.trans g5⟩

end Go.Proofs.Ytgmoifhmppkneaa
