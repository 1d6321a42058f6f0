/- RootsProduct: its walk, by what the functions answer. -/
import Derived.Test.YtkbnhoapfjkajaaRef07d
import Derived.BigQuiet
namespace Go.Proofs.Ytkbnhoapfjkajaa
open Go.ChangeShapes Go.WideShapes Go.ChangeAt Go.RowKit
set_option linter.unusedVariables false

set_option maxRecDepth 100000 in set_option maxHeartbeats 8000000 in
theorem rprod_c (a0 a1 a2 a3 r r5 r6 log t t2 t3 bits k m p0 p1 q0 q1 s0 s1 c0 c1 P x0 x1 X0 X1 Q : Int) (e1 : a0.tmod 5 = r) (e2 : IntKind.i64.wrap (r + 5) = r5) (e3 : r5.tmod 5 = r6) (e4 : IntKind.i64.wrap (r6 + 2) = log) (f1 : a3.tmod 19 = t) (f2 : IntKind.i64.wrap (t + 19) = t2) (f3 : t2.tmod 19 = t3) (f4 : IntKind.i64.wrap (t3 + 12) = bits) (e5 : a1.tmod 1099511627776 = k) (e6 : a2.tmod 1099511627776 = m) (bb : 12 ≤ bits ∧ bits ≤ 30) (kb : -1099511627776 ≤ k ∧ k ≤ 1099511627776) (mb : -1099511627776 ≤ m ∧ m ≤ 1099511627776)
    (d0 : wrap64 (s0 * 2 ^ bits.toNat) = x0) (d1 : wrap64 (s1 * 2 ^ bits.toNat) = x1) (d2 : IntKind.i64.wrap (c0 - x0) = X0) (d3 : IntKind.i64.wrap (c1 - x1) = X1) (d4 : wrap64 (4 * 2 ^ bits.toNat) = Q) (bX : -20000000000 ≤ X0 ∧ X0 ≤ 20000000000) (bY : -20000000000 ≤ X1 ∧ X1 ≤ 20000000000) (z0 : X0 ≤ Q ∧ -X0 ≤ Q) (z1 : X1 ≤ Q ∧ -X1 ≤ Q)
    (H1 : Hid (∀ W, Calls Try.prog 7 #[.int .i64 log, .int .i64 k, .int .i64 bits] W fun e w' => e = .returned (.tuple #[.agg #[.int .i64 p0, .int .i64 p1], .int .i64 0]) ∧ Gr W w'))
    (H2 : Hid (∀ W, Calls Try.prog 7 #[.int .i64 log, .int .i64 m, .int .i64 bits] W fun e w' => e = .returned (.tuple #[.agg #[.int .i64 q0, .int .i64 q1], .int .i64 0]) ∧ Gr W w'))
    (H3 : Hid (∀ W, Calls Try.prog 7 #[.int .i64 log, .int .i64 (k + m), .int .i64 bits] W fun e w' => e = .returned (.tuple #[.agg #[.int .i64 s0, .int .i64 s1], .int .i64 0]) ∧ Gr W w'))
    (H4 : Hid (∀ W, Calls Try.prog 20 #[.agg #[.int .i64 p0, .int .i64 p1], .agg #[.int .i64 q0, .int .i64 q1]] W fun e w' => e = .returned (.tuple #[.agg #[.int .i64 c0, .int .i64 c1], .int .i64 0]) ∧ Gr W w'))
    (AL : Hid (∀ W, Calls Try.prog 9 #[] W fun e w' => e = .returned (.bool true) ∧ Gr W w'))
    (w : World) : Calls Try.prog 6 #[.int .i64 a0, .int .i64 a1, .int .i64 a2, .int .i64 a3] w fun e w' => e = .returned (.bool true) ∧ Gr w w' := by
  have E1_ := Lib.hid e1
  have E2_ := Lib.hid e2
  have E3_ := Lib.hid e3
  have E4_ := Lib.hid e4
  have F1_ := Lib.hid f1
  have F2_ := Lib.hid f2
  have F3_ := Lib.hid f3
  have F4_ := Lib.hid f4
  have E5_ := Lib.hid e5
  have E6_ := Lib.hid e6
  have D0_ := Lib.hid d0
  have D1_ := Lib.hid d1
  have D2_ := Lib.hid d2
  have D3_ := Lib.hid d3
  have D4_ := Lib.hid d4
  clear e1 e2 e3 e4 f1 f2 f3 f4 e5 e6 d0 d1 d2 d3 d4
  have wr0 : IntKind.i64.wrap (k + m) = k + m := IntWalk.i64_in _ ⟨by omega, by omega⟩
  have wr1 : IntKind.i64.wrap (-X0) = -X0 := IntWalk.i64_in _ ⟨by omega, by omega⟩
  have wr2 : IntKind.i64.wrap (-X1) = -X1 := IntWalk.i64_in _ ⟨by omega, by omega⟩
  have e1 := E1_.out
  have e2 := E2_.out
  have e3 := E3_.out
  have e4 := E4_.out
  have f1 := F1_.out
  have f2 := F2_.out
  have f3 := F3_.out
  have f4 := F4_.out
  have e5 := E5_.out
  have e6 := E6_.out
  go_enter Try.func6, Try.ntmps6
  go_wp2_with fail
  clear e1 e2 e3 e4 f1 f2 f3 f4 e5 e6
  refine (H1.out _).mono ?_
  rintro e v1 ⟨rfl, g1⟩
  have P1_ := CellsAt.new v1 23 #[.int .i64 p0, .int .i64 p1]
  have G1 := g1.alloc #[.int .i64 p0, .int .i64 p1] 23
  clear g1
  go_wp2_with fail
  generalize v1.alloc (.cells #[.int .i64 p0, .int .i64 p1] 23) = u1 at *
  generalize v1.heap.size = B1 at *
  have P1 := P1_
  clear P1_
  go_wp2_with fail
  refine (H2.out _).mono ?_
  rintro e v2 ⟨rfl, g2⟩
  have P1_ := (P1.gr g2).alloc (.cells #[.int .i64 q0, .int .i64 q1] 23)
  have P2_ := CellsAt.new v2 23 #[.int .i64 q0, .int .i64 q1]
  have G2 := (G1.trans g2).alloc #[.int .i64 q0, .int .i64 q1] 23
  clear P1 G1 g2
  go_wp2_with fail
  generalize v2.alloc (.cells #[.int .i64 q0, .int .i64 q1] 23) = u2 at *
  generalize v2.heap.size = B2 at *
  have P1 := P1_
  have P2 := P2_
  clear P1_ P2_
  go_wp2_with fail
  refine (H3.out _).mono ?_
  rintro e v3 ⟨rfl, g3⟩
  have P1_ := (P1.gr g3).alloc (.cells #[.int .i64 s0, .int .i64 s1] 23)
  have P2_ := (P2.gr g3).alloc (.cells #[.int .i64 s0, .int .i64 s1] 23)
  have P3_ := CellsAt.new v3 23 #[.int .i64 s0, .int .i64 s1]
  have G3 := (G2.trans g3).alloc #[.int .i64 s0, .int .i64 s1] 23
  clear P1 P2 G2 g3
  have c10 := P1_.cell 0
  have c11 := P1_.cell 1
  have l1 := P1_.lt
  simp only [List.getElem?_toArray, List.getElem?_cons_zero, List.getElem?_cons_succ] at c10 c11
  have c20 := P2_.cell 0
  have c21 := P2_.cell 1
  have l2 := P2_.lt
  simp only [List.getElem?_toArray, List.getElem?_cons_zero, List.getElem?_cons_succ] at c20 c21
  go_wp2_with fail
  generalize v3.alloc (.cells #[.int .i64 s0, .int .i64 s1] 23) = u3 at *
  generalize v3.heap.size = B3 at *
  have P1 := P1_
  have P2 := P2_
  have P3 := P3_
  clear P1_ P2_ P3_
  go_wp2_with fail
  refine (H4.out _).mono ?_
  rintro e v4 ⟨rfl, g4⟩
  clear c10 c11 l1 c20 c21 l2
  have P1_ := (P1.gr g4).alloc (.cells #[.int .i64 c0, .int .i64 c1] 23)
  have P2_ := (P2.gr g4).alloc (.cells #[.int .i64 c0, .int .i64 c1] 23)
  have P3_ := (P3.gr g4).alloc (.cells #[.int .i64 c0, .int .i64 c1] 23)
  have P4_ := CellsAt.new v4 23 #[.int .i64 c0, .int .i64 c1]
  have G4 := (G3.trans g4).alloc #[.int .i64 c0, .int .i64 c1] 23
  clear P1 P2 P3 G3 g4
  go_wp2_with fail
  generalize v4.alloc (.cells #[.int .i64 c0, .int .i64 c1] 23) = u4 at *
  generalize v4.heap.size = B4 at *
  have P1 := P1_
  have P2 := P2_
  have P3 := P3_
  have P4 := P4_
  clear P1_ P2_ P3_ P4_
  have c30 := P3.cell 0
  have c31 := P3.cell 1
  have l3 := P3.lt
  simp only [List.getElem?_toArray, List.getElem?_cons_zero, List.getElem?_cons_succ] at c30 c31
  have c40 := P4.cell 0
  have c41 := P4.cell 1
  have l4 := P4.lt
  simp only [List.getElem?_toArray, List.getElem?_cons_zero, List.getElem?_cons_succ] at c40 c41
  refine (AL.out _).mono ?_
  rintro e w5 ⟨rfl, g5⟩
  have i30 := (g5.cell (p := ⟨B3, 0, none⟩) l3).trans c30
  have i31 := (g5.cell (p := ⟨B3, 1, none⟩) l3).trans c31
  have i40 := (g5.cell (p := ⟨B4, 0, none⟩) l4).trans c40
  have i41 := (g5.cell (p := ⟨B4, 1, none⟩) l4).trans c41
  have G5 := G4.trans g5
  clear c30 c31 c40 c41 l3 l4 P1 P2 P3 P4 G4 g5
  go_wp2_with fail
  have d0 := D0_.out
  have d1 := D1_.out
  have d2 := D2_.out
  have d3 := D3_.out
  have d4 := D4_.out
  go_quiet (fail)
  clear d0 d1 d2 d3
  go_wp2_with fail
  all_goals
    go_ret
    exact ⟨by first | rfl | (simp; done) | (simp; omega), G5.drewN _⟩

end Go.Proofs.Ytkbnhoapfjkajaa
