/- RootsTells: its walks, by what the functions answer. -/
import Derived.Test.YtkbnhoapfjkajaaRef07d
import Derived.BigQuiet
import Derived.Deep.RegionHeld3
namespace Go.Proofs.Ytkbnhoapfjkajaa
open Go.ChangeShapes Go.WideShapes Go.ChangeAt Go.RowKit
set_option linter.unusedVariables false

set_option maxRecDepth 100000 in set_option maxHeartbeats 8000000 in
theorem rtells_ok (log k bits p0 p1 : Int)
    (HR : Hid (∀ W, Calls Try.prog 7 #[.int .i64 log, .int .i64 k, .int .i64 bits] W fun e w' => e = .returned (.tuple #[.agg #[.int .i64 p0, .int .i64 p1], .int .i64 0]) ∧ Gr W w'))
    (HM : Hid (∀ W, Calls Try.prog 8 #[.int .i64 log, .int .i64 bits] W fun e w' => e = .returned (.bool true) ∧ w' = W))
    (RR : Hid (∀ W, Calls Try.prog 10 #[.int .i64 log, .int .i64 k, .int .i64 bits] W fun e w' => e = .returned (.agg #[.int .i64 p0, .int .i64 p1]) ∧ Gr W w'))
    (AL : Hid (∀ W, Calls Try.prog 9 #[] W fun e w' => e = .returned (.bool true) ∧ Gr W w'))
    (w : World) : Calls Try.prog 3 #[.int .i64 log, .int .i64 k, .int .i64 bits] w fun e w' => e = .returned (.bool true) ∧ Gr w w' := by
  go_enter Try.func3, Try.ntmps3
  go_wp2_with fail
  refine (HR.out _).mono ?_
  rintro e v1 ⟨rfl, g1⟩
  have P1_ := CellsAt.new v1 23 #[.int .i64 p0, .int .i64 p1]
  have G1 := g1.alloc #[.int .i64 p0, .int .i64 p1] 23
  clear g1
  go_wp2_with fail
  generalize v1.alloc (.cells #[.int .i64 p0, .int .i64 p1] 23) = u1 at *
  generalize v1.heap.size = B1 at *
  have P1 := P1_
  clear P1_
  go_wp2_with (go_at_call 8; refine (HM.out _).mono ?_; rintro e wz ⟨rfl, hwz⟩; subst wz)
  have c10 := P1.cell 0
  have c11 := P1.cell 1
  have l1 := P1.lt
  simp only [List.getElem?_toArray, List.getElem?_cons_zero, List.getElem?_cons_succ] at c10 c11
  have KS : ∀ W, Gr u1 W → (W.cell? ⟨B1, 0, none⟩ = some (.int .i64 p0) ∧ W.cell? ⟨B1, 1, none⟩ = some (.int .i64 p1) ∧ Gr u1 W) := fun W hG => ⟨(hG.cell (p := ⟨B1, 0, none⟩) l1).trans c10, (hG.cell (p := ⟨B1, 1, none⟩) l1).trans c11, hG⟩
  go_region_held3 (fun W => W.cell? ⟨B1, 0, none⟩ = some (.int .i64 p0) ∧ W.cell? ⟨B1, 1, none⟩ = some (.int .i64 p1) ∧ Gr u1 W) (first | ((try go_split_ands); refine KS _ ?_; (first | assumption | exact Gr.drew (Gr.refl _) | exact Gr.drew (by assumption) | exact Gr.refl _))) (first | (go_at_call 9; go_split_ands; ((with_reducible refine (AL.out _).mono ?_); rintro e w' ⟨rfl, hg⟩; have hgw : Gr u1 w' := Gr.trans (by first | assumption | exact Gr.drew (Gr.refl _) | exact Gr.refl _) hg)) | (go_at_call 10; go_split_ands; ((with_reducible refine (RR.out _).mono ?_); rintro e w' ⟨rfl, hg⟩; have hgw : Gr u1 w' := Gr.trans (by first | assumption | exact Gr.drew (Gr.refl _) | exact Gr.refl _) hg)))
  have g4 : Gr u1 w' := by (try go_split_ands); assumption
  go_wp2_with fail
  go_ret
  exact ⟨rfl, G1.trans g4⟩

set_option maxRecDepth 100000 in set_option maxHeartbeats 8000000 in
theorem rtells_bad (log k bits : Int)
    (HR : Hid (∀ W, Calls Try.prog 7 #[.int .i64 log, .int .i64 k, .int .i64 bits] W fun e w' => e = .returned (.tuple #[.agg #[.int .i64 0, .int .i64 0], .int .i64 1]) ∧ Gr W w'))
    (HM : Hid (∀ W, Calls Try.prog 8 #[.int .i64 log, .int .i64 bits] W fun e w' => e = .returned (.bool false) ∧ w' = W))
    (AL : Hid (∀ W, Calls Try.prog 9 #[] W fun e w' => e = .returned (.bool true) ∧ Gr W w'))
    (w : World) : Calls Try.prog 3 #[.int .i64 log, .int .i64 k, .int .i64 bits] w fun e w' => e = .returned (.bool true) ∧ Gr w w' := by
  go_enter Try.func3, Try.ntmps3
  go_wp2_with fail
  refine (HR.out _).mono ?_
  rintro e v1 ⟨rfl, g1⟩
  have P1_ := CellsAt.new v1 23 #[.int .i64 0, .int .i64 0]
  have G1 := g1.alloc #[.int .i64 0, .int .i64 0] 23
  clear g1
  go_wp2_with fail
  generalize v1.alloc (.cells #[.int .i64 0, .int .i64 0] 23) = u1 at *
  generalize v1.heap.size = B1 at *
  have P1 := P1_
  clear P1_
  go_wp2_with (go_at_call 8; refine (HM.out _).mono ?_; rintro e wz ⟨rfl, hwz⟩; subst wz)
  have c10 := P1.cell 0
  have c11 := P1.cell 1
  have l1 := P1.lt
  simp only [List.getElem?_toArray, List.getElem?_cons_zero, List.getElem?_cons_succ] at c10 c11
  refine (AL.out _).mono ?_
  rintro e w5 ⟨rfl, g5⟩
  have d10 := (g5.cell (p := ⟨B1, 0, none⟩) l1).trans c10
  have d11 := (g5.cell (p := ⟨B1, 1, none⟩) l1).trans c11
  go_wp2_with fail
  go_ret
  exact ⟨rfl, G1.trans g5⟩

end Go.Proofs.Ytkbnhoapfjkajaa
