/- The walk of law CxTimes, over its callees' contracts. -/
import Derived.Test.YtbgdhpcidcnjkaaTurn
namespace Go.Proofs.Ytbgdhpcidcnjkaa.cxTimes
open Go.ChangeShapes Go.WideShapes Go.ChangeAt Go.RowKit
set_option linter.unusedVariables false

set_option maxRecDepth 100000 in
set_option maxHeartbeats 8000000 in
theorem core_t (x0 y0 x1 y1 vx0 vx1 ex rx0 rx1 vn : Int) (may : Bool)
    (HX : Hid (∀ W, Calls Try.prog 18 #[.agg #[.int .i64 x0, .int .i64 y0], .agg #[.int .i64 x1, .int .i64 y1]] W fun e w' => e = .returned (.tuple #[.agg #[.int .i64 vx0, .int .i64 vx1], .int .i64 ex]) ∧ Gr W w'))
    (HN : Hid (∀ W, Calls Try.prog 19 #[.agg #[.int .i64 x0, .int .i64 y0]] W fun e w' => e = .returned (.tuple #[.int .u64 vn, .int .i64 0]) ∧ Gr W w'))
    (HM : Hid (∀ W, Calls Try.prog 20 #[.agg #[.int .i64 x0, .int .i64 y0], .agg #[.int .i64 x1, .int .i64 y1]] W fun e w' => e = .returned (.bool may) ∧ Gr W w'))
    (RX : Hid (∀ W, Calls Try.prog 21 #[.agg #[.int .i64 x0, .int .i64 y0], .agg #[.int .i64 x1, .int .i64 y1]] W fun e w' => e = .returned (.agg #[.int .i64 rx0, .int .i64 rx1]) ∧ Gr W w'))
    (TX : Hid (∀ W, Calls Try.prog 13 #[.agg #[.int .i64 vx0, .int .i64 vx1], .int .i64 ex, .bool may, .agg #[.int .i64 rx0, .int .i64 rx1]] W fun e w' => e = .returned (.bool true) ∧ Gr W w'))
    (HW : Hid (∀ W, Calls Try.prog 22 #[.agg #[.int .i64 x0, .int .i64 y0], .int .i64 2147483648] W fun e w' => e = .returned (.bool true) ∧ Gr W w'))
    (RN : Hid (∀ W, Calls Try.prog 24 #[.agg #[.int .i64 x0, .int .i64 y0]] W fun e w' => e = .returned (.int .u64 vn) ∧ Gr W w'))
    (w : World) :
    Calls Try.prog 4 #[.agg #[.int .i64 x0, .int .i64 y0], .agg #[.int .i64 x1, .int .i64 y1]] w fun e w' => e = .returned (.bool true) ∧ Gr w w' := by
  have HAL := Lib.hid alive03_c
  go_enter Try.func4, Try.ntmps4
  go_wp2_with fail
  refine (HX.out _).mono ?_
  rintro e v1 ⟨rfl, g1⟩
  have q1 : Gr w v1 := Gr.trans (by repeat (first | exact Gr.refl _ | assumption | apply Gr.drew | apply Gr.alloc)) g1
  have ca1 : CxAt v1 w.heap.size x0 y0 := CxAt.gr ⟨by first | (simp; done) | (simp; omega), by go_simp, by go_simp⟩ g1
  have cb1 : CxAt v1 (w.heap.size + 1) x1 y1 := CxAt.gr ⟨by first | (simp; done) | (simp; omega), by go_simp, by go_simp⟩ g1
  have la1 := ca1.lt
  have ca10 := ca1.c0
  have ca11 := ca1.c1
  have lb1 := cb1.lt
  have cb10 := cb1.c0
  have cb11 := cb1.c1
  go_wp2_with fail
  refine (HN.out _).mono ?_
  rintro e v2 ⟨rfl, g2⟩
  have q2 : Gr w v2 := Gr.trans (Gr.alloc q1 _ _) g2
  have ca2 : CxAt v2 w.heap.size x0 y0 := CxAt.gr (CxAt.gr ca1 ((Gr.refl _).alloc _ _)) g2
  have cb2 : CxAt v2 (w.heap.size + 1) x1 y1 := CxAt.gr (CxAt.gr cb1 ((Gr.refl _).alloc _ _)) g2
  have cx2 : CxAt v2 v1.heap.size vx0 vx1 := CxAt.gr ⟨by first | (simp; done) | (simp; omega), by go_simp, by go_simp⟩ g2
  clear ca1 ca10 ca11
  clear cb1 cb10 cb11
  have la2 := ca2.lt
  have ca20 := ca2.c0
  have ca21 := ca2.c1
  have lb2 := cb2.lt
  have cb20 := cb2.c0
  have cb21 := cb2.c1
  have lx2 := cx2.lt
  have cx20 := cx2.c0
  have cx21 := cx2.c1
  go_wp2_with fail
  go_region_held3 (fun W => W.cell? ⟨w.heap.size, 0, none⟩ = some (.int .i64 x0) ∧ W.cell? ⟨w.heap.size, 1, none⟩ = some (.int .i64 y0) ∧ W.cell? ⟨(w.heap.size + 1), 0, none⟩ = some (.int .i64 x1) ∧ W.cell? ⟨(w.heap.size + 1), 1, none⟩ = some (.int .i64 y1) ∧ W.cell? ⟨v1.heap.size, 0, none⟩ = some (.int .i64 vx0) ∧ W.cell? ⟨v1.heap.size, 1, none⟩ = some (.int .i64 vx1) ∧ Gr v2 W)
    (first | (go_split_ands; refine ⟨?_, ?_, ?_, ?_, ?_, ?_, ?_⟩; (all_goals (first | assumption | exact Gr.refl _ | exact Gr.drew (Gr.refl _) | exact Gr.drew (by assumption) | (go_keep; done) | ((refine (Gr.cell (by assumption) ?_).trans ?_ <;> (first | assumption)); done)))))
    (first | (go_at_call 20; go_split_ands; ((with_reducible refine (HM.out _).mono ?_); rintro e w' ⟨rfl, hg⟩; have hgw : Gr v2 w' := Gr.trans (by first | assumption | exact Gr.drew (Gr.refl _) | exact Gr.drew (by assumption)) hg)) | (go_at_call 21; go_split_ands; ((with_reducible refine (RX.out _).mono ?_); rintro e w' ⟨rfl, hg⟩; have hgw : Gr v2 w' := Gr.trans (by first | assumption | exact Gr.drew (Gr.refl _) | exact Gr.drew (by assumption)) hg)) | (go_at_call 13; go_split_ands; ((with_reducible refine (TX.out _).mono ?_); rintro e w' ⟨rfl, hg⟩; have hgw : Gr v2 w' := Gr.trans (by first | assumption | exact Gr.drew (Gr.refl _) | exact Gr.drew (by assumption)) hg)) | (go_at_call 12; go_split_ands; ((with_reducible refine (HAL.out _).mono ?_); rintro e w' ⟨rfl, hg⟩; have hgw : Gr v2 w' := Gr.trans (by first | assumption | exact Gr.drew (Gr.refl _) | exact Gr.drew (by assumption)) hg)))
  have g3 : Gr v2 w' := by (try go_split_ands); assumption
  obtain ⟨v3, hB⟩ : ∃ v, v = w' := ⟨_, rfl⟩
  subst hB
  have ca3 := ca2.gr g3
  have q3 := q2.trans g3
  clear ca2 ca20 ca21
  clear cb2 cb20 cb21
  clear cx2 cx20 cx21
  have la3 := ca3.lt
  have ca30 := ca3.c0
  have ca31 := ca3.c1
  go_wp2_with fail
  go_region_held3 (fun W => W.cell? ⟨w.heap.size, 0, none⟩ = some (.int .i64 x0) ∧ W.cell? ⟨w.heap.size, 1, none⟩ = some (.int .i64 y0) ∧ Gr v3 W)
    (first | (go_split_ands; refine ⟨?_, ?_, ?_⟩; (all_goals (first | assumption | exact Gr.refl _ | exact Gr.drew (Gr.refl _) | exact Gr.drew (by assumption) | (go_keep; done) | ((refine (Gr.cell (by assumption) ?_).trans ?_ <;> (first | assumption)); done)))))
    (first | (go_at_call 23; refine (rpow31 _).mono ?_; rintro e w' ⟨rfl, rfl⟩) | (go_at_call 22; go_split_ands; ((with_reducible refine (HW.out _).mono ?_); rintro e w' ⟨rfl, hg⟩; have hgw : Gr v3 w' := Gr.trans (by first | assumption | exact Gr.drew (Gr.refl _) | exact Gr.drew (by assumption)) hg)))
  have g4 : Gr v3 w' := by (try go_split_ands); assumption
  obtain ⟨v4, hB⟩ : ∃ v, v = w' := ⟨_, rfl⟩
  subst hB
  have ca4 := ca3.gr g4
  have q4 := q3.trans g4
  clear ca3 ca30 ca31
  have la4 := ca4.lt
  have ca40 := ca4.c0
  have ca41 := ca4.c1
  go_wp2_with fail
  refine (RN.out _).mono ?_
  rintro e v5 ⟨rfl, g5⟩
  go_wp2
  go_ret
  exact ⟨by simp, q4.trans g5⟩

set_option maxRecDepth 100000 in
set_option maxHeartbeats 8000000 in
theorem core_f (x0 y0 x1 y1 vx0 vx1 ex rx0 rx1  : Int) (may : Bool)
    (HX : Hid (∀ W, Calls Try.prog 18 #[.agg #[.int .i64 x0, .int .i64 y0], .agg #[.int .i64 x1, .int .i64 y1]] W fun e w' => e = .returned (.tuple #[.agg #[.int .i64 vx0, .int .i64 vx1], .int .i64 ex]) ∧ Gr W w'))
    (HN : Hid (∀ W, Calls Try.prog 19 #[.agg #[.int .i64 x0, .int .i64 y0]] W fun e w' => e = .returned (.tuple #[.int .u64 0, .int .i64 2]) ∧ Gr W w'))
    (HM : Hid (∀ W, Calls Try.prog 20 #[.agg #[.int .i64 x0, .int .i64 y0], .agg #[.int .i64 x1, .int .i64 y1]] W fun e w' => e = .returned (.bool may) ∧ Gr W w'))
    (RX : Hid (∀ W, Calls Try.prog 21 #[.agg #[.int .i64 x0, .int .i64 y0], .agg #[.int .i64 x1, .int .i64 y1]] W fun e w' => e = .returned (.agg #[.int .i64 rx0, .int .i64 rx1]) ∧ Gr W w'))
    (TX : Hid (∀ W, Calls Try.prog 13 #[.agg #[.int .i64 vx0, .int .i64 vx1], .int .i64 ex, .bool may, .agg #[.int .i64 rx0, .int .i64 rx1]] W fun e w' => e = .returned (.bool true) ∧ Gr W w'))
    (HW : Hid (∀ W, Calls Try.prog 22 #[.agg #[.int .i64 x0, .int .i64 y0], .int .i64 2147483648] W fun e w' => e = .returned (.bool false) ∧ Gr W w'))
    (w : World) :
    Calls Try.prog 4 #[.agg #[.int .i64 x0, .int .i64 y0], .agg #[.int .i64 x1, .int .i64 y1]] w fun e w' => e = .returned (.bool true) ∧ Gr w w' := by
  have HAL := Lib.hid alive03_c
  go_enter Try.func4, Try.ntmps4
  go_wp2_with fail
  refine (HX.out _).mono ?_
  rintro e v1 ⟨rfl, g1⟩
  have q1 : Gr w v1 := Gr.trans (by repeat (first | exact Gr.refl _ | assumption | apply Gr.drew | apply Gr.alloc)) g1
  have ca1 : CxAt v1 w.heap.size x0 y0 := CxAt.gr ⟨by first | (simp; done) | (simp; omega), by go_simp, by go_simp⟩ g1
  have cb1 : CxAt v1 (w.heap.size + 1) x1 y1 := CxAt.gr ⟨by first | (simp; done) | (simp; omega), by go_simp, by go_simp⟩ g1
  have la1 := ca1.lt
  have ca10 := ca1.c0
  have ca11 := ca1.c1
  have lb1 := cb1.lt
  have cb10 := cb1.c0
  have cb11 := cb1.c1
  go_wp2_with fail
  refine (HN.out _).mono ?_
  rintro e v2 ⟨rfl, g2⟩
  have q2 : Gr w v2 := Gr.trans (Gr.alloc q1 _ _) g2
  have ca2 : CxAt v2 w.heap.size x0 y0 := CxAt.gr (CxAt.gr ca1 ((Gr.refl _).alloc _ _)) g2
  have cb2 : CxAt v2 (w.heap.size + 1) x1 y1 := CxAt.gr (CxAt.gr cb1 ((Gr.refl _).alloc _ _)) g2
  have cx2 : CxAt v2 v1.heap.size vx0 vx1 := CxAt.gr ⟨by first | (simp; done) | (simp; omega), by go_simp, by go_simp⟩ g2
  clear ca1 ca10 ca11
  clear cb1 cb10 cb11
  have la2 := ca2.lt
  have ca20 := ca2.c0
  have ca21 := ca2.c1
  have lb2 := cb2.lt
  have cb20 := cb2.c0
  have cb21 := cb2.c1
  have lx2 := cx2.lt
  have cx20 := cx2.c0
  have cx21 := cx2.c1
  go_wp2_with fail
  go_region_held3 (fun W => W.cell? ⟨w.heap.size, 0, none⟩ = some (.int .i64 x0) ∧ W.cell? ⟨w.heap.size, 1, none⟩ = some (.int .i64 y0) ∧ W.cell? ⟨(w.heap.size + 1), 0, none⟩ = some (.int .i64 x1) ∧ W.cell? ⟨(w.heap.size + 1), 1, none⟩ = some (.int .i64 y1) ∧ W.cell? ⟨v1.heap.size, 0, none⟩ = some (.int .i64 vx0) ∧ W.cell? ⟨v1.heap.size, 1, none⟩ = some (.int .i64 vx1) ∧ Gr v2 W)
    (first | (go_split_ands; refine ⟨?_, ?_, ?_, ?_, ?_, ?_, ?_⟩; (all_goals (first | assumption | exact Gr.refl _ | exact Gr.drew (Gr.refl _) | exact Gr.drew (by assumption) | (go_keep; done) | ((refine (Gr.cell (by assumption) ?_).trans ?_ <;> (first | assumption)); done)))))
    (first | (go_at_call 20; go_split_ands; ((with_reducible refine (HM.out _).mono ?_); rintro e w' ⟨rfl, hg⟩; have hgw : Gr v2 w' := Gr.trans (by first | assumption | exact Gr.drew (Gr.refl _) | exact Gr.drew (by assumption)) hg)) | (go_at_call 21; go_split_ands; ((with_reducible refine (RX.out _).mono ?_); rintro e w' ⟨rfl, hg⟩; have hgw : Gr v2 w' := Gr.trans (by first | assumption | exact Gr.drew (Gr.refl _) | exact Gr.drew (by assumption)) hg)) | (go_at_call 13; go_split_ands; ((with_reducible refine (TX.out _).mono ?_); rintro e w' ⟨rfl, hg⟩; have hgw : Gr v2 w' := Gr.trans (by first | assumption | exact Gr.drew (Gr.refl _) | exact Gr.drew (by assumption)) hg)) | (go_at_call 12; go_split_ands; ((with_reducible refine (HAL.out _).mono ?_); rintro e w' ⟨rfl, hg⟩; have hgw : Gr v2 w' := Gr.trans (by first | assumption | exact Gr.drew (Gr.refl _) | exact Gr.drew (by assumption)) hg)))
  have g3 : Gr v2 w' := by (try go_split_ands); assumption
  obtain ⟨v3, hB⟩ : ∃ v, v = w' := ⟨_, rfl⟩
  subst hB
  have ca3 := ca2.gr g3
  have q3 := q2.trans g3
  clear ca2 ca20 ca21
  clear cb2 cb20 cb21
  clear cx2 cx20 cx21
  have la3 := ca3.lt
  have ca30 := ca3.c0
  have ca31 := ca3.c1
  go_wp2_with fail
  go_region_held3 (fun W => W.cell? ⟨w.heap.size, 0, none⟩ = some (.int .i64 x0) ∧ W.cell? ⟨w.heap.size, 1, none⟩ = some (.int .i64 y0) ∧ Gr v3 W)
    (first | (go_split_ands; refine ⟨?_, ?_, ?_⟩; (all_goals (first | assumption | exact Gr.refl _ | exact Gr.drew (Gr.refl _) | exact Gr.drew (by assumption) | (go_keep; done) | ((refine (Gr.cell (by assumption) ?_).trans ?_ <;> (first | assumption)); done)))))
    (first | (go_at_call 23; refine (rpow31 _).mono ?_; rintro e w' ⟨rfl, rfl⟩) | (go_at_call 22; go_split_ands; ((with_reducible refine (HW.out _).mono ?_); rintro e w' ⟨rfl, hg⟩; have hgw : Gr v3 w' := Gr.trans (by first | assumption | exact Gr.drew (Gr.refl _) | exact Gr.drew (by assumption)) hg)))
  have g4 : Gr v3 w' := by (try go_split_ands); assumption
  obtain ⟨v4, hB⟩ : ∃ v, v = w' := ⟨_, rfl⟩
  subst hB
  have ca4 := ca3.gr g4
  have q4 := q3.trans g4
  clear ca3 ca30 ca31
  have la4 := ca4.lt
  have ca40 := ca4.c0
  have ca41 := ca4.c1
  go_wp2
  go_ret
  exact ⟨rfl, q4⟩

end Go.Proofs.Ytbgdhpcidcnjkaa.cxTimes
