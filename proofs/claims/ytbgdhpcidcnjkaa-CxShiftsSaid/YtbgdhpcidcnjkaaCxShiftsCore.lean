/- The walk of law CxShifts, over its callees' contracts. -/
import Derived.Test.YtbgdhpcidcnjkaaTurn
namespace Go.Proofs.Ytbgdhpcidcnjkaa.cxShifts
open Go.ChangeShapes Go.WideShapes Go.ChangeAt Go.RowKit
set_option linter.unusedVariables false

theorem rshift_c (x y s mo : Int) (wx : -9223372036854775808 ≤ x ∧ x ≤ 9223372036854775807) (wy : -9223372036854775808 ≤ y ∧ y ≤ 9223372036854775807) (s0 : 0 ≤ s) (s1 : s ≤ 62) (m0 : 0 ≤ mo) (m1 : mo ≤ 2) (w : World) :
    Calls Try.prog 26 #[.agg #[.int .i64 x, .int .i64 y], .int .i64 s, .int .i64 mo] w fun e w' => e = .returned (.agg #[.int .i64 (rnd x s.toNat mo), .int .i64 (rnd y s.toNat mo)]) ∧ Gr w w' := by
  have HX := Lib.hid (refShift_c x s mo wx s0 s1 m0 m1)
  have HY := Lib.hid (refShift_c y s mo wy s0 s1 m0 m1)
  generalize rnd x s.toNat mo = r0 at HX ⊢
  generalize rnd y s.toNat mo = r1 at HY ⊢
  clear wx wy s0 s1 m0 m1
  go_enter Try.func26, Try.ntmps26
  go_wp2_with fail
  go_region_held3 (fun W => W.cell? ⟨w.heap.size, 0, none⟩ = some (.int .i64 x) ∧ W.cell? ⟨w.heap.size, 1, none⟩ = some (.int .i64 y))
    (go_keep)
    (first | (go_at_call 37; ((with_reducible refine (HX.out _).mono ?_); rintro e w' ⟨rfl, rfl⟩)) | (go_at_call 37; ((with_reducible refine (HY.out _).mono ?_); rintro e w' ⟨rfl, rfl⟩)))
  go_wp2
  refine bodyPost_ret (v := .agg #[.int .i64 r0, .int .i64 r1]) ?_ rfl ⟨rfl, ?_⟩
  · simp [results, Try.results26, go_sem]
  · exact by repeat (first | exact Gr.refl _ | assumption | apply Gr.drew | apply Gr.alloc | (refine Gr.setCell ?_ (by first | (simp; done) | (simp; omega)) _))

set_option maxRecDepth 100000 in
set_option maxHeartbeats 8000000 in
theorem core_ok (x0 y0 a1 a2 v0 v1 : Int) (d0 : 0 ≤ a1) (d1 : a1 ≤ 62) (d2 : 0 ≤ a2) (d3 : a2 ≤ 2)
    (HX : Hid (∀ W, Calls Try.prog 25 #[.agg #[.int .i64 x0, .int .i64 y0], .int .i64 a1, .int .i64 a2] W fun e w' => e = .returned (.tuple #[.agg #[.int .i64 v0, .int .i64 v1], .int .i64 0]) ∧ Gr W w'))
    (RX : Hid (∀ W, Calls Try.prog 26 #[.agg #[.int .i64 x0, .int .i64 y0], .int .i64 a1, .int .i64 a2] W fun e w' => e = .returned (.agg #[.int .i64 v0, .int .i64 v1]) ∧ Gr W w'))
    (w : World) :
    Calls Try.prog 5 #[.agg #[.int .i64 x0, .int .i64 y0], .int .i64 a1, .int .i64 a2] w fun e w' => e = .returned (.bool true) ∧ Gr w w' := by
  have HAL := Lib.hid alive03_c
  go_enter Try.func5, Try.ntmps5
  go_wp2_with fail
  refine (HX.out _).mono ?_
  rintro e v1' ⟨rfl, g1⟩
  have q1 : Gr w v1' := Gr.trans (by repeat (first | exact Gr.refl _ | assumption | apply Gr.drew | apply Gr.alloc)) g1
  have ca1 : CxAt v1' w.heap.size x0 y0 := CxAt.gr ⟨by first | (simp; done) | (simp; omega), by go_simp, by go_simp⟩ g1
  have la1 := ca1.lt
  have ca10 := ca1.c0
  have ca11 := ca1.c1
  go_wp2_with fail
  obtain ⟨u, hW⟩ : ∃ u, u = v1'.alloc (.cells #[.int .i64 v0, .int .i64 v1] 23) := ⟨_, rfl⟩
  have gu : Gr w u := by rw [hW]; exact q1.alloc _ _
  have cau : CxAt u w.heap.size x0 y0 := by rw [hW]; exact CxAt.gr ca1 ((Gr.refl _).alloc _ _)
  have cxu : CxAt u v1'.heap.size v0 v1 := by rw [hW]; exact ⟨by first | (simp; done) | (simp; omega), by go_simp, by go_simp⟩
  rw [← hW]
  clear hW
  clear ca1 ca10 ca11
  have lau := cau.lt
  have cau0 := cau.c0
  have cau1 := cau.c1
  have lxu := cxu.lt
  have cxu0 := cxu.c0
  have cxu1 := cxu.c1
  go_region_held3 (fun W => W.cell? ⟨w.heap.size, 0, none⟩ = some (.int .i64 x0) ∧ W.cell? ⟨w.heap.size, 1, none⟩ = some (.int .i64 y0) ∧ W.cell? ⟨v1'.heap.size, 0, none⟩ = some (.int .i64 v0) ∧ W.cell? ⟨v1'.heap.size, 1, none⟩ = some (.int .i64 v1) ∧ Gr u W)
    (first | (go_split_ands; refine ⟨?_, ?_, ?_, ?_, ?_⟩; (all_goals (first | assumption | exact Gr.refl _ | exact Gr.drew (Gr.refl _) | exact Gr.drew (by assumption) | (go_keep; done) | ((refine (Gr.cell (by assumption) ?_).trans ?_ <;> (first | assumption)); done)))))
    (first | (go_at_call 12; go_split_ands; ((with_reducible refine (HAL.out _).mono ?_); rintro e w' ⟨rfl, hg⟩; have hgw : Gr u w' := Gr.trans (by first | assumption | exact Gr.drew (Gr.refl _) | exact Gr.drew (by assumption)) hg)) | (go_at_call 26; go_split_ands; ((with_reducible refine (RX.out _).mono ?_); rintro e w' ⟨rfl, hg⟩; have hgw : Gr u w' := Gr.trans (by first | assumption | exact Gr.drew (Gr.refl _) | exact Gr.drew (by assumption)) hg)))
  go_wp2
  go_ret
  exact ⟨by simp, gu.trans (by (try go_split_ands); assumption)⟩

set_option maxRecDepth 100000 in
set_option maxHeartbeats 8000000 in
theorem core_bad0 (x0 y0 a1 a2  : Int) (d : a1 < 0)
    (HX : Hid (∀ W, Calls Try.prog 25 #[.agg #[.int .i64 x0, .int .i64 y0], .int .i64 a1, .int .i64 a2] W fun e w' => e = .returned (.tuple #[.agg #[.int .i64 0, .int .i64 0], .int .i64 1]) ∧ Gr W w'))
    (w : World) :
    Calls Try.prog 5 #[.agg #[.int .i64 x0, .int .i64 y0], .int .i64 a1, .int .i64 a2] w fun e w' => e = .returned (.bool true) ∧ Gr w w' := by
  have HAL := Lib.hid alive03_c
  go_enter Try.func5, Try.ntmps5
  go_wp2_with fail
  refine (HX.out _).mono ?_
  rintro e v1' ⟨rfl, g1⟩
  have q1 : Gr w v1' := Gr.trans (by repeat (first | exact Gr.refl _ | assumption | apply Gr.drew | apply Gr.alloc)) g1
  have ca1 : CxAt v1' w.heap.size x0 y0 := CxAt.gr ⟨by first | (simp; done) | (simp; omega), by go_simp, by go_simp⟩ g1
  have la1 := ca1.lt
  have ca10 := ca1.c0
  have ca11 := ca1.c1
  go_wp2_with fail
  refine (HAL.out _).mono ?_
  rintro e v2 ⟨rfl, g2⟩
  have cx2 : CxAt v2 v1'.heap.size 0 0 := CxAt.gr ⟨by first | (simp; done) | (simp; omega), by go_simp, by go_simp⟩ g2
  have lx2 := cx2.lt
  have cx20 := cx2.c0
  have cx21 := cx2.c1
  go_wp2
  go_ret
  exact ⟨by simp, (Gr.alloc q1 _ _).trans g2⟩

set_option maxRecDepth 100000 in
set_option maxHeartbeats 8000000 in
theorem core_bad1 (x0 y0 a1 a2  : Int) (d0 : 0 ≤ a1) (d : 62 < a1)
    (HX : Hid (∀ W, Calls Try.prog 25 #[.agg #[.int .i64 x0, .int .i64 y0], .int .i64 a1, .int .i64 a2] W fun e w' => e = .returned (.tuple #[.agg #[.int .i64 0, .int .i64 0], .int .i64 1]) ∧ Gr W w'))
    (w : World) :
    Calls Try.prog 5 #[.agg #[.int .i64 x0, .int .i64 y0], .int .i64 a1, .int .i64 a2] w fun e w' => e = .returned (.bool true) ∧ Gr w w' := by
  have HAL := Lib.hid alive03_c
  go_enter Try.func5, Try.ntmps5
  go_wp2_with fail
  refine (HX.out _).mono ?_
  rintro e v1' ⟨rfl, g1⟩
  have q1 : Gr w v1' := Gr.trans (by repeat (first | exact Gr.refl _ | assumption | apply Gr.drew | apply Gr.alloc)) g1
  have ca1 : CxAt v1' w.heap.size x0 y0 := CxAt.gr ⟨by first | (simp; done) | (simp; omega), by go_simp, by go_simp⟩ g1
  have la1 := ca1.lt
  have ca10 := ca1.c0
  have ca11 := ca1.c1
  go_wp2_with fail
  refine (HAL.out _).mono ?_
  rintro e v2 ⟨rfl, g2⟩
  have cx2 : CxAt v2 v1'.heap.size 0 0 := CxAt.gr ⟨by first | (simp; done) | (simp; omega), by go_simp, by go_simp⟩ g2
  have lx2 := cx2.lt
  have cx20 := cx2.c0
  have cx21 := cx2.c1
  go_wp2
  go_ret
  exact ⟨by simp, (Gr.alloc q1 _ _).trans g2⟩

set_option maxRecDepth 100000 in
set_option maxHeartbeats 8000000 in
theorem core_bad2 (x0 y0 a1 a2  : Int) (d0 : 0 ≤ a1) (d1 : a1 ≤ 62) (d : a2 < 0)
    (HX : Hid (∀ W, Calls Try.prog 25 #[.agg #[.int .i64 x0, .int .i64 y0], .int .i64 a1, .int .i64 a2] W fun e w' => e = .returned (.tuple #[.agg #[.int .i64 0, .int .i64 0], .int .i64 1]) ∧ Gr W w'))
    (w : World) :
    Calls Try.prog 5 #[.agg #[.int .i64 x0, .int .i64 y0], .int .i64 a1, .int .i64 a2] w fun e w' => e = .returned (.bool true) ∧ Gr w w' := by
  have HAL := Lib.hid alive03_c
  go_enter Try.func5, Try.ntmps5
  go_wp2_with fail
  refine (HX.out _).mono ?_
  rintro e v1' ⟨rfl, g1⟩
  have q1 : Gr w v1' := Gr.trans (by repeat (first | exact Gr.refl _ | assumption | apply Gr.drew | apply Gr.alloc)) g1
  have ca1 : CxAt v1' w.heap.size x0 y0 := CxAt.gr ⟨by first | (simp; done) | (simp; omega), by go_simp, by go_simp⟩ g1
  have la1 := ca1.lt
  have ca10 := ca1.c0
  have ca11 := ca1.c1
  go_wp2_with fail
  refine (HAL.out _).mono ?_
  rintro e v2 ⟨rfl, g2⟩
  have cx2 : CxAt v2 v1'.heap.size 0 0 := CxAt.gr ⟨by first | (simp; done) | (simp; omega), by go_simp, by go_simp⟩ g2
  have lx2 := cx2.lt
  have cx20 := cx2.c0
  have cx21 := cx2.c1
  go_wp2
  go_ret
  exact ⟨by simp, (Gr.alloc q1 _ _).trans g2⟩

set_option maxRecDepth 100000 in
set_option maxHeartbeats 8000000 in
theorem core_bad3 (x0 y0 a1 a2  : Int) (d0 : 0 ≤ a1) (d1 : a1 ≤ 62) (d2 : 0 ≤ a2) (d : 2 < a2)
    (HX : Hid (∀ W, Calls Try.prog 25 #[.agg #[.int .i64 x0, .int .i64 y0], .int .i64 a1, .int .i64 a2] W fun e w' => e = .returned (.tuple #[.agg #[.int .i64 0, .int .i64 0], .int .i64 1]) ∧ Gr W w'))
    (w : World) :
    Calls Try.prog 5 #[.agg #[.int .i64 x0, .int .i64 y0], .int .i64 a1, .int .i64 a2] w fun e w' => e = .returned (.bool true) ∧ Gr w w' := by
  have HAL := Lib.hid alive03_c
  go_enter Try.func5, Try.ntmps5
  go_wp2_with fail
  refine (HX.out _).mono ?_
  rintro e v1' ⟨rfl, g1⟩
  have q1 : Gr w v1' := Gr.trans (by repeat (first | exact Gr.refl _ | assumption | apply Gr.drew | apply Gr.alloc)) g1
  have ca1 : CxAt v1' w.heap.size x0 y0 := CxAt.gr ⟨by first | (simp; done) | (simp; omega), by go_simp, by go_simp⟩ g1
  have la1 := ca1.lt
  have ca10 := ca1.c0
  have ca11 := ca1.c1
  go_wp2_with fail
  refine (HAL.out _).mono ?_
  rintro e v2 ⟨rfl, g2⟩
  have cx2 : CxAt v2 v1'.heap.size 0 0 := CxAt.gr ⟨by first | (simp; done) | (simp; omega), by go_simp, by go_simp⟩ g2
  have lx2 := cx2.lt
  have cx20 := cx2.c0
  have cx21 := cx2.c1
  go_wp2
  go_ret
  exact ⟨by simp, (Gr.alloc q1 _ _).trans g2⟩

end Go.Proofs.Ytbgdhpcidcnjkaa.cxShifts
