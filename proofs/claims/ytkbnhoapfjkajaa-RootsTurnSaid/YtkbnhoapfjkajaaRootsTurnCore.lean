/- RootsTurn: its walk, by what the functions answer. -/
import Derived.Test.YtkbnhoapfjkajaaRef07d
import Derived.BigQuiet
import Derived.Deep.RegionHeld3
namespace Go.Proofs.Ytkbnhoapfjkajaa
open Go.ChangeShapes Go.WideShapes Go.ChangeAt Go.RowKit
set_option linter.unusedVariables false

set_option maxRecDepth 100000 in set_option maxHeartbeats 8000000 in
theorem rturn_f (a0 a1 a2 r r5 r6 log t t2 bits k n m one w0 w1 q0 q1 b0 b1 h0 h1 : Int) (e1 : a0.tmod 5 = r) (e2 : IntKind.i64.wrap (r + 5) = r5) (e3 : r5.tmod 5 = r6) (e4 : IntKind.i64.wrap (r6 + 2) = log) (f1 : a2.tmod 41 = t) (f2 : IntKind.i64.wrap (t + 41) = t2) (f3 : t2.tmod 41 = bits) (e5 : a1.tmod 1099511627776 = k) (ep : wrap64 (2 ^ log.toNat) = n) (eq : n.tdiv 4 = m) (eb : wrap64 (2 ^ bits.toNat) = one) (eb2 : IntKind.i64.wrap (2 ^ bits.toNat) = one) (lb : 2 ≤ log ∧ log ≤ 6) (bb : 0 ≤ bits ∧ bits ≤ 40) (kb : -1099511627776 ≤ k ∧ k ≤ 1099511627776) (nb : 4 ≤ n ∧ n ≤ 64) (mb : 1 ≤ m ∧ m ≤ 16) (l2 : log ≤ 2)
    (H1 : Hid (∀ W, Calls Try.prog 7 #[.int .i64 log, .int .i64 0, .int .i64 bits] W fun e w' => e = .returned (.tuple #[.agg #[.int .i64 one, .int .i64 0], .int .i64 0]) ∧ Gr W w'))
    (H2 : Hid (∀ W, Calls Try.prog 7 #[.int .i64 log, .int .i64 k, .int .i64 bits] W fun e w' => e = .returned (.tuple #[.agg #[.int .i64 w0, .int .i64 w1], .int .i64 0]) ∧ Gr W w'))
    (H3 : Hid (∀ W, Calls Try.prog 7 #[.int .i64 log, .int .i64 (k + n), .int .i64 bits] W fun e w' => e = .returned (.tuple #[.agg #[.int .i64 w0, .int .i64 w1], .int .i64 0]) ∧ Gr W w'))
    (H4 : Hid (∀ W, Calls Try.prog 7 #[.int .i64 log, .int .i64 (k + m), .int .i64 bits] W fun e w' => e = .returned (.tuple #[.agg #[.int .i64 q0, .int .i64 q1], .int .i64 0]) ∧ Gr W w'))
    (H5 : Hid (∀ W, Calls Try.prog 18 #[.agg #[.int .i64 w0, .int .i64 w1], .int .i64 (-1)] W fun e w' => e = .returned (.tuple #[.agg #[.int .i64 q0, .int .i64 q1], .int .i64 0]) ∧ Gr W w'))
    (H6 : Hid (∀ W, Calls Try.prog 7 #[.int .i64 log, .int .i64 (-k), .int .i64 bits] W fun e w' => e = .returned (.tuple #[.agg #[.int .i64 b0, .int .i64 b1], .int .i64 0]) ∧ Gr W w'))
    (H7 : Hid (∀ W, Calls Try.prog 19 #[.agg #[.int .i64 w0, .int .i64 w1]] W fun e w' => e = .returned (.tuple #[.agg #[.int .i64 b0, .int .i64 b1], .int .i64 0]) ∧ Gr W w'))
    (AL : Hid (∀ W, Calls Try.prog 9 #[] W fun e w' => e = .returned (.bool true) ∧ Gr W w'))
    (w : World) : Calls Try.prog 5 #[.int .i64 a0, .int .i64 a1, .int .i64 a2] w fun e w' => e = .returned (.bool true) ∧ Gr w w' := by
  have E1_ := Lib.hid e1
  have E2_ := Lib.hid e2
  have E3_ := Lib.hid e3
  have E4_ := Lib.hid e4
  have F1_ := Lib.hid f1
  have F2_ := Lib.hid f2
  have F3_ := Lib.hid f3
  have E5_ := Lib.hid e5
  have EP_ := Lib.hid ep
  have EQ_ := Lib.hid eq
  have EB_ := Lib.hid eb
  have EB2_ := Lib.hid eb2
  clear e1 e2 e3 e4 f1 f2 f3 e5 ep eq eb eb2
  have wr0 : IntKind.i64.wrap (k + n) = k + n := IntWalk.i64_in _ ⟨by omega, by omega⟩
  have wr1 : IntKind.i64.wrap (k + m) = k + m := IntWalk.i64_in _ ⟨by omega, by omega⟩
  have wr2 : IntKind.i64.wrap (-k) = -k := IntWalk.i64_in _ ⟨by omega, by omega⟩
  have wr3 : IntKind.i64.wrap (k / 2 * 2) = k / 2 * 2 := IntWalk.i64_in _ ⟨by omega, by omega⟩
  have wr4 : IntKind.i64.wrap (log - 1) = log - 1 := IntWalk.i64_in _ ⟨by omega, by omega⟩
  have e1 := E1_.out
  have e2 := E2_.out
  have e3 := E3_.out
  have e4 := E4_.out
  have f1 := F1_.out
  have f2 := F2_.out
  have f3 := F3_.out
  have e5 := E5_.out
  have ep := EP_.out
  go_enter Try.func5, Try.ntmps5
  go_wp2_with fail
  clear e1 e2 e3 e4 f1 f2 f3 e5
  refine (H1.out _).mono ?_
  rintro e v1 ⟨rfl, g1⟩
  have P1_ := CellsAt.new v1 23 #[.int .i64 one, .int .i64 0]
  have G1 := g1.alloc #[.int .i64 one, .int .i64 0] 23
  clear g1
  go_wp2_with fail
  generalize v1.alloc (.cells #[.int .i64 one, .int .i64 0] 23) = u1 at *
  generalize v1.heap.size = B1 at *
  have P1 := P1_
  clear P1_
  go_wp2_with fail
  refine (H2.out _).mono ?_
  rintro e v2 ⟨rfl, g2⟩
  have P1_ := (P1.gr g2).alloc (.cells #[.int .i64 w0, .int .i64 w1] 23)
  have P2_ := CellsAt.new v2 23 #[.int .i64 w0, .int .i64 w1]
  have G2 := (G1.trans g2).alloc #[.int .i64 w0, .int .i64 w1] 23
  clear P1 G1 g2
  go_wp2_with fail
  generalize v2.alloc (.cells #[.int .i64 w0, .int .i64 w1] 23) = u2 at *
  generalize v2.heap.size = B2 at *
  have P1 := P1_
  have P2 := P2_
  clear P1_ P2_
  have eq := EQ_.out
  go_wp2_with fail
  refine (H3.out _).mono ?_
  rintro e v3 ⟨rfl, g3⟩
  have P1_ := (P1.gr g3).alloc (.cells #[.int .i64 w0, .int .i64 w1] 23)
  have P2_ := (P2.gr g3).alloc (.cells #[.int .i64 w0, .int .i64 w1] 23)
  have P3_ := CellsAt.new v3 23 #[.int .i64 w0, .int .i64 w1]
  have G3 := (G2.trans g3).alloc #[.int .i64 w0, .int .i64 w1] 23
  clear P1 P2 G2 g3
  go_wp2_with fail
  generalize v3.alloc (.cells #[.int .i64 w0, .int .i64 w1] 23) = u3 at *
  generalize v3.heap.size = B3 at *
  have P1 := P1_
  have P2 := P2_
  have P3 := P3_
  clear P1_ P2_ P3_
  go_wp2_with fail
  refine (H4.out _).mono ?_
  rintro e v4 ⟨rfl, g4⟩
  have P1_ := (P1.gr g4).alloc (.cells #[.int .i64 q0, .int .i64 q1] 23)
  have P2_ := (P2.gr g4).alloc (.cells #[.int .i64 q0, .int .i64 q1] 23)
  have P3_ := (P3.gr g4).alloc (.cells #[.int .i64 q0, .int .i64 q1] 23)
  have P4_ := CellsAt.new v4 23 #[.int .i64 q0, .int .i64 q1]
  have G4 := (G3.trans g4).alloc #[.int .i64 q0, .int .i64 q1] 23
  clear P1 P2 P3 G3 g4
  have c20 := P2_.cell 0
  have c21 := P2_.cell 1
  have l2 := P2_.lt
  simp only [List.getElem?_toArray, List.getElem?_cons_zero, List.getElem?_cons_succ] at c20 c21
  go_wp2_with fail
  generalize v4.alloc (.cells #[.int .i64 q0, .int .i64 q1] 23) = u4 at *
  generalize v4.heap.size = B4 at *
  have P1 := P1_
  have P2 := P2_
  have P3 := P3_
  have P4 := P4_
  clear P1_ P2_ P3_ P4_
  clear ep eq
  go_wp2_with fail
  refine (H5.out _).mono ?_
  rintro e v5 ⟨rfl, g5⟩
  clear c20 c21 l2
  have P1_ := (P1.gr g5).alloc (.cells #[.int .i64 q0, .int .i64 q1] 23)
  have P2_ := (P2.gr g5).alloc (.cells #[.int .i64 q0, .int .i64 q1] 23)
  have P3_ := (P3.gr g5).alloc (.cells #[.int .i64 q0, .int .i64 q1] 23)
  have P4_ := (P4.gr g5).alloc (.cells #[.int .i64 q0, .int .i64 q1] 23)
  have P5_ := CellsAt.new v5 23 #[.int .i64 q0, .int .i64 q1]
  have G5 := (G4.trans g5).alloc #[.int .i64 q0, .int .i64 q1] 23
  clear P1 P2 P3 P4 G4 g5
  go_wp2_with fail
  generalize v5.alloc (.cells #[.int .i64 q0, .int .i64 q1] 23) = u5 at *
  generalize v5.heap.size = B5 at *
  have P1 := P1_
  have P2 := P2_
  have P3 := P3_
  have P4 := P4_
  have P5 := P5_
  clear P1_ P2_ P3_ P4_ P5_
  go_wp2_with fail
  refine (H6.out _).mono ?_
  rintro e v6 ⟨rfl, g6⟩
  have P1_ := (P1.gr g6).alloc (.cells #[.int .i64 b0, .int .i64 b1] 23)
  have P2_ := (P2.gr g6).alloc (.cells #[.int .i64 b0, .int .i64 b1] 23)
  have P3_ := (P3.gr g6).alloc (.cells #[.int .i64 b0, .int .i64 b1] 23)
  have P4_ := (P4.gr g6).alloc (.cells #[.int .i64 b0, .int .i64 b1] 23)
  have P5_ := (P5.gr g6).alloc (.cells #[.int .i64 b0, .int .i64 b1] 23)
  have P6_ := CellsAt.new v6 23 #[.int .i64 b0, .int .i64 b1]
  have G6 := (G5.trans g6).alloc #[.int .i64 b0, .int .i64 b1] 23
  clear P1 P2 P3 P4 P5 G5 g6
  have c20 := P2_.cell 0
  have c21 := P2_.cell 1
  have l2 := P2_.lt
  simp only [List.getElem?_toArray, List.getElem?_cons_zero, List.getElem?_cons_succ] at c20 c21
  go_wp2_with fail
  generalize v6.alloc (.cells #[.int .i64 b0, .int .i64 b1] 23) = u6 at *
  generalize v6.heap.size = B6 at *
  have P1 := P1_
  have P2 := P2_
  have P3 := P3_
  have P4 := P4_
  have P5 := P5_
  have P6 := P6_
  clear P1_ P2_ P3_ P4_ P5_ P6_
  go_wp2_with fail
  refine (H7.out _).mono ?_
  rintro e v7 ⟨rfl, g7⟩
  clear c20 c21 l2
  have P1_ := (P1.gr g7).alloc (.cells #[.int .i64 b0, .int .i64 b1] 23)
  have P2_ := (P2.gr g7).alloc (.cells #[.int .i64 b0, .int .i64 b1] 23)
  have P3_ := (P3.gr g7).alloc (.cells #[.int .i64 b0, .int .i64 b1] 23)
  have P4_ := (P4.gr g7).alloc (.cells #[.int .i64 b0, .int .i64 b1] 23)
  have P5_ := (P5.gr g7).alloc (.cells #[.int .i64 b0, .int .i64 b1] 23)
  have P6_ := (P6.gr g7).alloc (.cells #[.int .i64 b0, .int .i64 b1] 23)
  have P7_ := CellsAt.new v7 23 #[.int .i64 b0, .int .i64 b1]
  have G7 := (G6.trans g7).alloc #[.int .i64 b0, .int .i64 b1] 23
  clear P1 P2 P3 P4 P5 P6 G6 g7
  have Z7 : (v7.alloc (.cells #[.int .i64 b0, .int .i64 b1] 23)).heap.size = v7.heap.size + 1 := World.size_alloc _ _
  go_wp2_with fail
  generalize v7.alloc (.cells #[.int .i64 b0, .int .i64 b1] 23) = u7 at *
  generalize v7.heap.size = B7 at *
  have P1 := P1_
  have P2 := P2_
  have P3 := P3_
  have P4 := P4_
  have P5 := P5_
  have P6 := P6_
  have P7 := P7_
  clear P1_ P2_ P3_ P4_ P5_ P6_ P7_
  have E := CellsAt.new u7 24 #[.int .i64 0, .int .i64 0, .int .i64 0, .int .i64 0, .int .i64 0, .int .i64 0, .int .i64 0]
  rw [Z7] at E
  clear Z7
  have P1_ := P1.alloc (.cells #[.int .i64 0, .int .i64 0, .int .i64 0, .int .i64 0, .int .i64 0, .int .i64 0, .int .i64 0] 24)
  have P2_ := P2.alloc (.cells #[.int .i64 0, .int .i64 0, .int .i64 0, .int .i64 0, .int .i64 0, .int .i64 0, .int .i64 0] 24)
  have P3_ := P3.alloc (.cells #[.int .i64 0, .int .i64 0, .int .i64 0, .int .i64 0, .int .i64 0, .int .i64 0, .int .i64 0] 24)
  have P4_ := P4.alloc (.cells #[.int .i64 0, .int .i64 0, .int .i64 0, .int .i64 0, .int .i64 0, .int .i64 0, .int .i64 0] 24)
  have P5_ := P5.alloc (.cells #[.int .i64 0, .int .i64 0, .int .i64 0, .int .i64 0, .int .i64 0, .int .i64 0, .int .i64 0] 24)
  have P6_ := P6.alloc (.cells #[.int .i64 0, .int .i64 0, .int .i64 0, .int .i64 0, .int .i64 0, .int .i64 0, .int .i64 0] 24)
  have P7_ := P7.alloc (.cells #[.int .i64 0, .int .i64 0, .int .i64 0, .int .i64 0, .int .i64 0, .int .i64 0, .int .i64 0] 24)
  have G8 := G7.alloc #[.int .i64 0, .int .i64 0, .int .i64 0, .int .i64 0, .int .i64 0, .int .i64 0, .int .i64 0] 24
  clear P1 P2 P3 P4 P5 P6 P7 G7
  generalize u7.alloc (.cells #[.int .i64 0, .int .i64 0, .int .i64 0, .int .i64 0, .int .i64 0, .int .i64 0, .int .i64 0] 24) = u8 at *
  have P1 := P1_
  have P2 := P2_
  have P3 := P3_
  have P4 := P4_
  have P5 := P5_
  have P6 := P6_
  have P7 := P7_
  clear P1_ P2_ P3_ P4_ P5_ P6_ P7_
  have EC : ∀ j : Nat, j < 7 → u8.cell? ⟨B7 + 1, j, none⟩ = some (.int .i64 0) := by
    intro j hj
    rw [E.cell j]
    rcases (by omega : j = 0 ∨ j = 1 ∨ j = 2 ∨ j = 3 ∨ j = 4 ∨ j = 5 ∨ j = 6) with rfl | rfl | rfl | rfl | rfl | rfl | rfl <;> rfl
  have ECH := Lib.hid EC
  clear EC
  go_loopw [100] (fun i wr => ∃ j : Nat, j ≤ 7 ∧ i = .int .i64 j ∧ wr = u8) (fun i _ => 7 - (intOf i).toNat)
  case atStart => exact ⟨0, by omega, rfl, rfl⟩
  case round =>
    obtain ⟨j, hj, rfl, rfl⟩ := hrel
    by_cases hlt : j < 7
    · have hc := ECH.out j hlt
      go_wp2_with fail
      go_roundw
      case rel => exact ⟨j + 1, by omega, by go_num, by first | rfl | trivial⟩
      case measure => simp [intOf]; omega
    · have hj7 : (7 : Int) ≤ (j : Int) := by omega
      clear hlt hj ECH E
      go_wp2_with fail
      have c10 := P1.cell 0
      have c11 := P1.cell 1
      have l1 := P1.lt
      simp only [List.getElem?_toArray, List.getElem?_cons_zero, List.getElem?_cons_succ] at c10 c11
      have c20 := P2.cell 0
      have c21 := P2.cell 1
      have l2 := P2.lt
      simp only [List.getElem?_toArray, List.getElem?_cons_zero, List.getElem?_cons_succ] at c20 c21
      have c30 := P3.cell 0
      have c31 := P3.cell 1
      have l3 := P3.lt
      simp only [List.getElem?_toArray, List.getElem?_cons_zero, List.getElem?_cons_succ] at c30 c31
      have c40 := P4.cell 0
      have c41 := P4.cell 1
      have l4 := P4.lt
      simp only [List.getElem?_toArray, List.getElem?_cons_zero, List.getElem?_cons_succ] at c40 c41
      have c50 := P5.cell 0
      have c51 := P5.cell 1
      have l5 := P5.lt
      simp only [List.getElem?_toArray, List.getElem?_cons_zero, List.getElem?_cons_succ] at c50 c51
      have c60 := P6.cell 0
      have c61 := P6.cell 1
      have l6 := P6.lt
      simp only [List.getElem?_toArray, List.getElem?_cons_zero, List.getElem?_cons_succ] at c60 c61
      have c70 := P7.cell 0
      have c71 := P7.cell 1
      have l7 := P7.lt
      simp only [List.getElem?_toArray, List.getElem?_cons_zero, List.getElem?_cons_succ] at c70 c71
      have KS : ∀ W, Gr wr W → (W.cell? ⟨B1, 0, none⟩ = some (.int .i64 one) ∧ W.cell? ⟨B1, 1, none⟩ = some (.int .i64 0) ∧ W.cell? ⟨B2, 0, none⟩ = some (.int .i64 w0) ∧ W.cell? ⟨B2, 1, none⟩ = some (.int .i64 w1) ∧ W.cell? ⟨B3, 0, none⟩ = some (.int .i64 w0) ∧ W.cell? ⟨B3, 1, none⟩ = some (.int .i64 w1) ∧ W.cell? ⟨B4, 0, none⟩ = some (.int .i64 q0) ∧ W.cell? ⟨B4, 1, none⟩ = some (.int .i64 q1) ∧ W.cell? ⟨B5, 0, none⟩ = some (.int .i64 q0) ∧ W.cell? ⟨B5, 1, none⟩ = some (.int .i64 q1) ∧ W.cell? ⟨B6, 0, none⟩ = some (.int .i64 b0) ∧ W.cell? ⟨B6, 1, none⟩ = some (.int .i64 b1) ∧ W.cell? ⟨B7, 0, none⟩ = some (.int .i64 b0) ∧ W.cell? ⟨B7, 1, none⟩ = some (.int .i64 b1) ∧ Gr wr W) := fun W hG => ⟨(hG.cell (p := ⟨B1, 0, none⟩) l1).trans c10, (hG.cell (p := ⟨B1, 1, none⟩) l1).trans c11, (hG.cell (p := ⟨B2, 0, none⟩) l2).trans c20, (hG.cell (p := ⟨B2, 1, none⟩) l2).trans c21, (hG.cell (p := ⟨B3, 0, none⟩) l3).trans c30, (hG.cell (p := ⟨B3, 1, none⟩) l3).trans c31, (hG.cell (p := ⟨B4, 0, none⟩) l4).trans c40, (hG.cell (p := ⟨B4, 1, none⟩) l4).trans c41, (hG.cell (p := ⟨B5, 0, none⟩) l5).trans c50, (hG.cell (p := ⟨B5, 1, none⟩) l5).trans c51, (hG.cell (p := ⟨B6, 0, none⟩) l6).trans c60, (hG.cell (p := ⟨B6, 1, none⟩) l6).trans c61, (hG.cell (p := ⟨B7, 0, none⟩) l7).trans c70, (hG.cell (p := ⟨B7, 1, none⟩) l7).trans c71, hG⟩
      have eb := EB_.out
      have eb2 := EB2_.out
      refine wp_region_held_drew (S := fun W => W.cell? ⟨B1, 0, none⟩ = some (.int .i64 one) ∧ W.cell? ⟨B1, 1, none⟩ = some (.int .i64 0) ∧ W.cell? ⟨B2, 0, none⟩ = some (.int .i64 w0) ∧ W.cell? ⟨B2, 1, none⟩ = some (.int .i64 w1) ∧ W.cell? ⟨B3, 0, none⟩ = some (.int .i64 w0) ∧ W.cell? ⟨B3, 1, none⟩ = some (.int .i64 w1) ∧ W.cell? ⟨B4, 0, none⟩ = some (.int .i64 q0) ∧ W.cell? ⟨B4, 1, none⟩ = some (.int .i64 q1) ∧ W.cell? ⟨B5, 0, none⟩ = some (.int .i64 q0) ∧ W.cell? ⟨B5, 1, none⟩ = some (.int .i64 q1) ∧ W.cell? ⟨B6, 0, none⟩ = some (.int .i64 b0) ∧ W.cell? ⟨B6, 1, none⟩ = some (.int .i64 b1) ∧ W.cell? ⟨B7, 0, none⟩ = some (.int .i64 b0) ∧ W.cell? ⟨B7, 1, none⟩ = some (.int .i64 b1) ∧ Gr wr W) rfl (KS _ (Gr.drew (Gr.refl _))) (fun hS => ?_)
      refine wpAnyH_ready (rs := [0]) (by kernel_rfl) (by simp) ?_
      refine AllReadyH.cons rfl (fun K hK => ?_) AllReadyH.nil
      go_simp
      go_at_call 9
      refine (AL.out _).mono ?_
      rintro e w5 ⟨rfl, g5⟩
      refine hK.out _ _ ?_ (fun hHeld => ?_)
      · (exact KS _ (Gr.trans (Gr.drew (Gr.refl _)) g5))
      clear hK K
      try simp only [Act.put, List.setIfInBounds_toArray, List.set_cons_zero, List.set_cons_succ, List.getElem_toArray, List.getElem_cons_zero, List.getElem_cons_succ]
      refine wpAnyH_take (i := 1) (v := ?_) rfl (by kernel_rfl) (by kernel_rfl) (by kernel_rfl) (fun _ _ _ h => h) (Or.inl ⟨by rfl, ?_⟩) (by assumption) ?_
      rotate_left
      · (intro w hSw; (try dsimp only at hSw); go_split_ands; go_simp; try with_reducible rfl)
      try simp only [Act.put, List.setIfInBounds_toArray, List.set_cons_zero, List.set_cons_succ, List.getElem_toArray, List.getElem_cons_zero, List.getElem_cons_succ]
      refine wpAnyH_take (i := 2) (v := ?_) rfl (by kernel_rfl) (by kernel_rfl) (by kernel_rfl) (fun _ _ _ h => h) (Or.inl ⟨by rfl, ?_⟩) (by assumption) ?_
      rotate_left
      · (intro w hSw; (try dsimp only at hSw); go_split_ands; go_simp; try with_reducible rfl)
      try simp only [Act.put, List.setIfInBounds_toArray, List.set_cons_zero, List.set_cons_succ, List.getElem_toArray, List.getElem_cons_zero, List.getElem_cons_succ]
      refine wpAnyH_take (i := 3) (v := ?_) rfl (by kernel_rfl) (by kernel_rfl) (by kernel_rfl) (fun _ _ _ h => h) (Or.inl ⟨by rfl, ?_⟩) (by assumption) ?_
      rotate_left
      · (intro w hSw; (try dsimp only at hSw); go_split_ands; go_simp; try with_reducible rfl)
      try simp only [Act.put, List.setIfInBounds_toArray, List.set_cons_zero, List.set_cons_succ, List.getElem_toArray, List.getElem_cons_zero, List.getElem_cons_succ]
      refine wpAnyH_take (i := 4) (v := ?_) rfl (by kernel_rfl) (by kernel_rfl) (by kernel_rfl) (fun _ _ _ h => h) (Or.inl ⟨by rfl, ?_⟩) (by assumption) ?_
      rotate_left
      · (intro w hSw; (try dsimp only at hSw); go_split_ands; go_simp; try with_reducible rfl)
      try simp only [Act.put, List.setIfInBounds_toArray, List.set_cons_zero, List.set_cons_succ, List.getElem_toArray, List.getElem_cons_zero, List.getElem_cons_succ]
      refine wpAnyH_take (i := 5) (v := ?_) rfl (by kernel_rfl) (by kernel_rfl) (by kernel_rfl) (fun _ _ _ h => h) (Or.inl ⟨by rfl, ?_⟩) (by assumption) ?_
      rotate_left
      · (intro w hSw; (try dsimp only at hSw); go_split_ands; go_simp; try with_reducible rfl)
      try simp only [Act.put, List.setIfInBounds_toArray, List.set_cons_zero, List.set_cons_succ, List.getElem_toArray, List.getElem_cons_zero, List.getElem_cons_succ]
      refine wpAnyH_take (i := 6) (v := ?_) rfl (by kernel_rfl) (by kernel_rfl) (by kernel_rfl) (fun _ _ _ h => h) (Or.inl ⟨by rfl, ?_⟩) (by assumption) ?_
      rotate_left
      · (intro w hSw; (try dsimp only at hSw); go_split_ands; go_simp; try with_reducible rfl)
      try simp only [Act.put, List.setIfInBounds_toArray, List.set_cons_zero, List.set_cons_succ, List.getElem_toArray, List.getElem_cons_zero, List.getElem_cons_succ]
      refine wpAnyH_take (i := 7) (v := ?_) rfl (by kernel_rfl) (by kernel_rfl) (by kernel_rfl) (fun _ _ _ h => h) (Or.inl ⟨by rfl, ?_⟩) (by assumption) ?_
      rotate_left
      · (intro w hSw; (try dsimp only at hSw); go_split_ands; go_simp; try with_reducible rfl)
      try simp only [Act.put, List.setIfInBounds_toArray, List.set_cons_zero, List.set_cons_succ, List.getElem_toArray, List.getElem_cons_zero, List.getElem_cons_succ]
      refine wpAnyH_take (i := 8) (v := ?_) rfl (by kernel_rfl) (by kernel_rfl) (by kernel_rfl) (fun _ _ _ h => h) (Or.inl ⟨by rfl, ?_⟩) (by assumption) ?_
      rotate_left
      · (intro w hSw; (try dsimp only at hSw); go_split_ands; go_simp; try with_reducible rfl)
      try simp only [Act.put, List.setIfInBounds_toArray, List.set_cons_zero, List.set_cons_succ, List.getElem_toArray, List.getElem_cons_zero, List.getElem_cons_succ]
      refine wpAnyH_take (i := 9) (v := ?_) rfl (by kernel_rfl) (by kernel_rfl) (by kernel_rfl) (fun _ _ _ h => h) (Or.inl ⟨by rfl, ?_⟩) (by assumption) ?_
      rotate_left
      · (intro w hSw; (try dsimp only at hSw); go_split_ands; go_simp; try with_reducible rfl)
      try simp only [Act.put, List.setIfInBounds_toArray, List.set_cons_zero, List.set_cons_succ, List.getElem_toArray, List.getElem_cons_zero, List.getElem_cons_succ]
      refine wpAnyH_take (i := 10) (v := ?_) rfl (by kernel_rfl) (by kernel_rfl) (by kernel_rfl) (fun _ _ _ h => h) (Or.inl ⟨by rfl, ?_⟩) (by assumption) ?_
      rotate_left
      · (intro w hSw; (try dsimp only at hSw); go_split_ands; go_simp; try with_reducible rfl)
      try simp only [Act.put, List.setIfInBounds_toArray, List.set_cons_zero, List.set_cons_succ, List.getElem_toArray, List.getElem_cons_zero, List.getElem_cons_succ]
      refine wpAnyH_take (i := 11) (v := ?_) rfl (by kernel_rfl) (by kernel_rfl) (by kernel_rfl) (fun _ _ _ h => h) (Or.inl ⟨by rfl, ?_⟩) (by assumption) ?_
      rotate_left
      · (intro w hSw; (try dsimp only at hSw); go_split_ands; go_simp; try with_reducible rfl)
      try simp only [Act.put, List.setIfInBounds_toArray, List.set_cons_zero, List.set_cons_succ, List.getElem_toArray, List.getElem_cons_zero, List.getElem_cons_succ]
      refine wpAnyH_take (i := 12) (v := ?_) rfl (by kernel_rfl) (by kernel_rfl) (by kernel_rfl) (fun _ _ _ h => h) (Or.inl ⟨by rfl, ?_⟩) (by assumption) ?_
      rotate_left
      · (intro w hSw; (try dsimp only at hSw); go_split_ands; go_simp; try with_reducible rfl)
      try simp only [Act.put, List.setIfInBounds_toArray, List.set_cons_zero, List.set_cons_succ, List.getElem_toArray, List.getElem_cons_zero, List.getElem_cons_succ]
      refine wpAnyH_take (i := 13) (v := ?_) rfl (by kernel_rfl) (by kernel_rfl) (by kernel_rfl) (fun _ _ _ h => h) (Or.inl ⟨by rfl, ?_⟩) (by assumption) ?_
      rotate_left
      · (intro w hSw; (try dsimp only at hSw); go_split_ands; go_simp; try with_reducible rfl)
      try simp only [Act.put, List.setIfInBounds_toArray, List.set_cons_zero, List.set_cons_succ, List.getElem_toArray, List.getElem_cons_zero, List.getElem_cons_succ]
      refine wpAnyH_take (i := 14) (v := ?_) rfl (by kernel_rfl) (by kernel_rfl) (by kernel_rfl) (fun _ _ _ h => h) (Or.inl ⟨by rfl, ?_⟩) (by assumption) ?_
      rotate_left
      · (intro w hSw; (try dsimp only at hSw); go_split_ands; go_simp; try with_reducible rfl)
      try simp only [Act.put, List.setIfInBounds_toArray, List.set_cons_zero, List.set_cons_succ, List.getElem_toArray, List.getElem_cons_zero, List.getElem_cons_succ]
      refine wpAnyH_take (i := 15) (v := ?_) rfl (by kernel_rfl) (by kernel_rfl) (by kernel_rfl) (fun _ _ _ h => h) (Or.inl ⟨by rfl, ?_⟩) (by assumption) ?_
      rotate_left
      · (intro w hSw; (try dsimp only at hSw); go_split_ands; go_simp; try with_reducible rfl)
      try simp only [Act.put, List.setIfInBounds_toArray, List.set_cons_zero, List.set_cons_succ, List.getElem_toArray, List.getElem_cons_zero, List.getElem_cons_succ]
      refine wpAnyH_take (i := 16) (v := ?_) rfl (by kernel_rfl) (by kernel_rfl) (by kernel_rfl) (fun _ _ _ h => h) (Or.inl ⟨by rfl, ?_⟩) (by assumption) ?_
      rotate_left
      · (intro w hSw; (try dsimp only at hSw); go_split_ands; go_simp; try with_reducible rfl)
      try simp only [Act.put, List.setIfInBounds_toArray, List.set_cons_zero, List.set_cons_succ, List.getElem_toArray, List.getElem_cons_zero, List.getElem_cons_succ]
      refine wpAnyH_take (i := 17) (v := ?_) rfl (by kernel_rfl) (by kernel_rfl) (by kernel_rfl) (fun _ _ _ h => h) (Or.inl ⟨by rfl, ?_⟩) (by assumption) ?_
      rotate_left
      · (intro w hSw; (try dsimp only at hSw); go_split_ands; go_simp; try with_reducible rfl)
      try simp only [Act.put, List.setIfInBounds_toArray, List.set_cons_zero, List.set_cons_succ, List.getElem_toArray, List.getElem_cons_zero, List.getElem_cons_succ]
      refine wpAnyH_take (i := 18) (v := ?_) rfl (by kernel_rfl) (by kernel_rfl) (by kernel_rfl) (fun _ _ _ h => h) (Or.inl ⟨by rfl, ?_⟩) (by assumption) ?_
      rotate_left
      · (intro w hSw; (try dsimp only at hSw); go_split_ands; go_simp; try with_reducible rfl)
      try simp only [Act.put, List.setIfInBounds_toArray, List.set_cons_zero, List.set_cons_succ, List.getElem_toArray, List.getElem_cons_zero, List.getElem_cons_succ]
      refine wpAnyH_take (i := 19) (v := ?_) rfl (by kernel_rfl) (by kernel_rfl) (by kernel_rfl) (fun _ _ _ h => h) (Or.inl ⟨by rfl, ?_⟩) (by assumption) ?_
      rotate_left
      · (intro w hSw; (try dsimp only at hSw); go_split_ands; go_simp; try with_reducible rfl)
      try simp only [Act.put, List.setIfInBounds_toArray, List.set_cons_zero, List.set_cons_succ, List.getElem_toArray, List.getElem_cons_zero, List.getElem_cons_succ]
      refine wpAnyH_take (i := 20) (v := ?_) rfl (by kernel_rfl) (by kernel_rfl) (by kernel_rfl) (fun _ _ _ h => h) (Or.inl ⟨by rfl, ?_⟩) (by assumption) ?_
      rotate_left
      · (intro w hSw; (try dsimp only at hSw); go_split_ands; go_simp; try with_reducible rfl)
      try simp only [Act.put, List.setIfInBounds_toArray, List.set_cons_zero, List.set_cons_succ, List.getElem_toArray, List.getElem_cons_zero, List.getElem_cons_succ]
      refine wpAnyH_take (i := 21) (v := ?_) rfl (by kernel_rfl) (by kernel_rfl) (by kernel_rfl) (fun _ _ _ h => h) (Or.inl ⟨by rfl, ?_⟩) (by assumption) ?_
      rotate_left
      · (intro w hSw; (try dsimp only at hSw); go_split_ands; go_simp; try with_reducible rfl)
      try simp only [Act.put, List.setIfInBounds_toArray, List.set_cons_zero, List.set_cons_succ, List.getElem_toArray, List.getElem_cons_zero, List.getElem_cons_succ]
      refine wpAnyH_take (i := 22) (v := ?_) rfl (by kernel_rfl) (by kernel_rfl) (by kernel_rfl) (fun _ _ _ h => h) (Or.inl ⟨by rfl, ?_⟩) (by assumption) ?_
      rotate_left
      · (intro w hSw; (try dsimp only at hSw); go_split_ands; go_simp; try with_reducible rfl)
      try simp only [Act.put, List.setIfInBounds_toArray, List.set_cons_zero, List.set_cons_succ, List.getElem_toArray, List.getElem_cons_zero, List.getElem_cons_succ]
      refine wpAnyH_take (i := 23) (v := ?_) rfl (by kernel_rfl) (by kernel_rfl) (by kernel_rfl) (fun _ _ _ h => h) (Or.inl ⟨by rfl, ?_⟩) (by assumption) ?_
      rotate_left
      · (intro w hSw; (try dsimp only at hSw); go_split_ands; go_simp; try with_reducible rfl)
      try simp only [Act.put, List.setIfInBounds_toArray, List.set_cons_zero, List.set_cons_succ, List.getElem_toArray, List.getElem_cons_zero, List.getElem_cons_succ]
      refine wpAnyH_done (by kernel_rfl) ?_ _
      go_wp2_with fail
      go_ret
      exact ⟨rfl, G8.trans (by (try go_split_ands); assumption)⟩


end Go.Proofs.Ytkbnhoapfjkajaa
