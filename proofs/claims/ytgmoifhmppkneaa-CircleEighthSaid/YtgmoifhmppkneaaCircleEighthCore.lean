/- CircleEighth: its walk, by what the functions answer. -/
import Derived.Test.YtgmoifhmppkneaaLaw06
import Derived.BigQuiet
import Derived.Deep.RegionHeld3
namespace Go.Proofs.Ytgmoifhmppkneaa
open Go.ChangeShapes Go.WideShapes Go.ChangeAt Go.RowKit
set_option linter.unusedVariables false

set_option maxRecDepth 100000 in set_option maxHeartbeats 8000000 in
theorem ceighth_c (a0 a1 k log p2 r r6 t t2 w0 w1 h0 h1 d0 d1 m0 m1 m2 : Int) (e1 : a1.tmod 6 = r) (e2 : IntKind.i64.wrap (r + 6) = r6) (e3 : r6.tmod 6 = log) (lb : 0 ≤ log ∧ log ≤ 5) (ep : 2 ^ log.toNat = p2) (pb : 1 ≤ p2 ∧ p2 ≤ 32) (e4 : a0.tmod p2 = t) (e5 : IntKind.i64.wrap (t + p2) = t2) (e6 : t2.tmod p2 = k) (kb : 0 ≤ k ∧ k ≤ 31) (bd_m0 : -300000000000000000 ≤ m0 ∧ m0 ≤ 300000000000000000) (bd_m1 : -300000000000000000 ≤ m1 ∧ m1 ≤ 300000000000000000) (bd_m2 : -300000000000000000 ≤ m2 ∧ m2 ≤ 300000000000000000)
    (HP : Hid (∀ W, Calls Try.prog 8 #[.int .i64 p2, .int .i64 log] W fun e w' => e = .returned (.tuple #[.agg #[.int .i64 w0, .int .i64 w1], .int .i64 0]) ∧ Gr W w'))
    (HQ : Hid (∀ W, Calls Try.prog 8 #[.int .i64 k, .int .i64 (log + 1)] W fun e w' => e = .returned (.tuple #[.agg #[.int .i64 h0, .int .i64 h1], .int .i64 0]) ∧ Gr W w'))
    (HS : Hid (∀ W, Calls Try.prog 8 #[.int .i64 (2 * k), .int .i64 (log + 1)] W fun e w' => e = .returned (.tuple #[.agg #[.int .i64 d0, .int .i64 d1], .int .i64 0]) ∧ Gr W w'))
    (M0 : Hid (∀ W, Calls Try.prog 15 #[.int .i64 h0, .int .i64 h0] W fun e w' => e = .returned (.int .i64 m0) ∧ w' = W))
    (M1 : Hid (∀ W, Calls Try.prog 15 #[.int .i64 h1, .int .i64 h1] W fun e w' => e = .returned (.int .i64 m1) ∧ w' = W))
    (M2 : Hid (∀ W, Calls Try.prog 15 #[.int .i64 h0, .int .i64 h1] W fun e w' => e = .returned (.int .i64 m2) ∧ w' = W))
    (N2 : Hid (∀ W, Calls Try.prog 14 #[.int .i64 w0, .int .i64 w1, .int .i64 32768] W fun e w' => e = .returned (.bool true) ∧ w' = W))
    (N0 : Hid (∀ W, Calls Try.prog 14 #[.int .i64 d0, .int .i64 (m0 - m1), .int .i64 131072] W fun e w' => e = .returned (.bool true) ∧ w' = W))
    (N1 : Hid (∀ W, Calls Try.prog 14 #[.int .i64 d1, .int .i64 (2 * m2), .int .i64 131072] W fun e w' => e = .returned (.bool true) ∧ w' = W))
    (w : World) : Calls Try.prog 6 #[.int .i64 a0, .int .i64 a1] w fun e w' => e = .returned (.bool true) ∧ Gr w w' := by
  have AL := Lib.hid alive06_c
  have ep' : wrap64 (2 ^ log.toNat) = p2 := by rw [ep]; clear e1 e2 e3 e4 e5 e6 ep; exact IntWalk.wrap64_in _ ⟨by omega, by omega⟩
  have E1 := Lib.hid e1
  have E2 := Lib.hid e2
  have E3 := Lib.hid e3
  have E4 := Lib.hid e4
  have E5 := Lib.hid e5
  have E6 := Lib.hid e6
  have EP := Lib.hid ep
  clear e1 e2 e3 e4 e5 e6 ep
  have wr0 : IntKind.i64.wrap (m0 - m1) = m0 - m1 := IntWalk.i64_in _ ⟨by omega, by omega⟩
  have wr1 : IntKind.i64.wrap (p2) = p2 := IntWalk.i64_in _ ⟨by omega, by omega⟩
  have wr2 : IntKind.i64.wrap (2 * k) = 2 * k := IntWalk.i64_in _ ⟨by omega, by omega⟩
  have wr3 : IntKind.i64.wrap (2 * m2) = 2 * m2 := IntWalk.i64_in _ ⟨by omega, by omega⟩
  have wr4 : IntKind.i64.wrap (log + 1) = log + 1 := IntWalk.i64_in _ ⟨by omega, by omega⟩
  have tz : ¬ p2 = 0 := by omega
  have tz2 : (p2 == 0) = false := by simp; omega
  have e1 := E1.out
  have e2 := E2.out
  have e3 := E3.out
  go_enter Try.func6, Try.ntmps6
  go_wp2_with fail
  clear e1 e2 e3
  have e4 := E4.out
  have e5 := E5.out
  have e6 := E6.out
  go_quiet (fail)
  clear e4 e5 e6
  have gq : Gr w (w.drewN nq) := (Gr.refl w).drewN _
  generalize w.drewN nq = u0 at *
  go_wp2_with fail
  first | refine (HP.out _).mono ?_ | (rw [ep']; refine (HP.out _).mono ?_)
  rintro e v1 ⟨rfl, g1⟩
  have P1_ := CellsAt.new v1 23 #[.int .i64 w0, .int .i64 w1]
  have G1 := g1.alloc #[.int .i64 w0, .int .i64 w1] 23
  clear g1
  go_wp2_with fail
  generalize v1.alloc (.cells #[.int .i64 w0, .int .i64 w1] 23) = u1 at *
  generalize v1.heap.size = B1 at *
  have P1 := P1_
  clear P1_
  go_wp2_with fail
  refine (HQ.out _).mono ?_
  rintro e v2 ⟨rfl, g2⟩
  have P1_ := (P1.gr g2).alloc (.cells #[.int .i64 h0, .int .i64 h1] 23)
  have P2_ := CellsAt.new v2 23 #[.int .i64 h0, .int .i64 h1]
  have G2 := (G1.trans g2).alloc #[.int .i64 h0, .int .i64 h1] 23
  clear P1 G1 g2
  go_wp2_with fail
  generalize v2.alloc (.cells #[.int .i64 h0, .int .i64 h1] 23) = u2 at *
  generalize v2.heap.size = B2 at *
  have P1 := P1_
  have P2 := P2_
  clear P1_ P2_
  go_wp2_with fail
  refine (HS.out _).mono ?_
  rintro e v3 ⟨rfl, g3⟩
  have P1_ := (P1.gr g3).alloc (.cells #[.int .i64 d0, .int .i64 d1] 23)
  have P2_ := (P2.gr g3).alloc (.cells #[.int .i64 d0, .int .i64 d1] 23)
  have P3_ := CellsAt.new v3 23 #[.int .i64 d0, .int .i64 d1]
  have G3 := (G2.trans g3).alloc #[.int .i64 d0, .int .i64 d1] 23
  clear P1 P2 G2 g3
  go_wp2_with fail
  generalize v3.alloc (.cells #[.int .i64 d0, .int .i64 d1] 23) = u3 at *
  generalize v3.heap.size = B3 at *
  have P1 := P1_
  have P2 := P2_
  have P3 := P3_
  clear P1_ P2_ P3_
  have c10 := P1.cell 0
  have c11 := P1.cell 1
  have l1 := P1.lt
  simp only [List.getElem?_toArray, List.getElem?_cons_zero, List.getElem?_cons_succ] at c10 c11
  have c20 := P2.cell 0
  have c21 := P2.cell 1
  have l2 := P2.lt
  simp only [List.getElem?_toArray, List.getElem?_cons_zero, List.getElem?_cons_succ] at c20 c21
  have c30 := P3.cell 0
  have c31 := P3.cell 1
  have l3 := P3.lt
  simp only [List.getElem?_toArray, List.getElem?_cons_zero, List.getElem?_cons_succ] at c30 c31
  clear ep'
  go_quiet (first | (go_at_call 15; with_reducible refine Calls.quiet_of_same (M0.out _)) | (go_at_call 15; with_reducible refine Calls.quiet_of_same (M1.out _)))
  have x10 : (u3.drewN nq).cell? ⟨B1, 0, none⟩ = some (.int .i64 w0) := c10
  have x11 : (u3.drewN nq).cell? ⟨B1, 1, none⟩ = some (.int .i64 w1) := c11
  have f1 : B1 < (u3.drewN nq).heap.size := l1
  have x20 : (u3.drewN nq).cell? ⟨B2, 0, none⟩ = some (.int .i64 h0) := c20
  have x21 : (u3.drewN nq).cell? ⟨B2, 1, none⟩ = some (.int .i64 h1) := c21
  have f2 : B2 < (u3.drewN nq).heap.size := l2
  have x30 : (u3.drewN nq).cell? ⟨B3, 0, none⟩ = some (.int .i64 d0) := c30
  have x31 : (u3.drewN nq).cell? ⟨B3, 1, none⟩ = some (.int .i64 d1) := c31
  have f3 : B3 < (u3.drewN nq).heap.size := l3
  have G4 := G3.drewN nq
  generalize u3.drewN nq = u4 at *
  clear c10 c11 c20 c21 c30 c31 P1 P2 P3 l1 l2 l3 G3
  go_wp2_with (go_at_call 15; with_reducible refine (M2.out _).mono ?_; rintro e w6 ⟨rfl, rfl⟩)
  refine (AL.out _).mono ?_
  rintro e w7 ⟨rfl, g5⟩
  have d10_ := (g5.cell (p := ⟨B1, 0, none⟩) f1).trans x10
  have d11_ := (g5.cell (p := ⟨B1, 1, none⟩) f1).trans x11
  have d20_ := (g5.cell (p := ⟨B2, 0, none⟩) f2).trans x20
  have d21_ := (g5.cell (p := ⟨B2, 1, none⟩) f2).trans x21
  have d30_ := (g5.cell (p := ⟨B3, 0, none⟩) f3).trans x30
  have d31_ := (g5.cell (p := ⟨B3, 1, none⟩) f3).trans x31
  clear x10 x11 f1 x20 x21 f2 x30 x31 f3
  go_wp2_with (first | (go_at_call 14; with_reducible refine (N0.out _).mono ?_; rintro e w8 ⟨rfl, rfl⟩) | (go_at_call 14; with_reducible refine (N1.out _).mono ?_; rintro e w8 ⟨rfl, rfl⟩) | (go_at_call 14; with_reducible refine (N2.out _).mono ?_; rintro e w8 ⟨rfl, rfl⟩))
  go_ret
  exact ⟨rfl, gq.trans (G4.trans g5)⟩

end Go.Proofs.Ytgmoifhmppkneaa
