/- The walk of law CxSums, over its callees' contracts. -/
import Derived.Test.YtbgdhpcidcnjkaaRef03
namespace Go.Proofs.Ytbgdhpcidcnjkaa.cxSums
open Go.ChangeShapes Go.WideShapes Go.ChangeAt Go.RowKit
set_option linter.unusedVariables false

set_option maxRecDepth 100000 in
set_option maxHeartbeats 8000000 in
theorem core_t (x0 y0 x1 y1 a2 vs0 vs1 es vl0 vl1 el vc0 vc1 ec vt0 vt1 et rs0 rs1 rl0 rl1 rc0 rc1 rt0 rt1 : Int) (wb : Bool)
    (HS : Hid (∀ W, Calls Try.prog 7 #[.agg #[.int .i64 x0, .int .i64 y0], .agg #[.int .i64 x1, .int .i64 y1]] W fun e w' => e = .returned (.tuple #[.agg #[.int .i64 vs0, .int .i64 vs1], .int .i64 es]) ∧ Gr W w'))
    (HL : Hid (∀ W, Calls Try.prog 8 #[.agg #[.int .i64 x0, .int .i64 y0], .agg #[.int .i64 x1, .int .i64 y1]] W fun e w' => e = .returned (.tuple #[.agg #[.int .i64 vl0, .int .i64 vl1], .int .i64 el]) ∧ Gr W w'))
    (HC : Hid (∀ W, Calls Try.prog 9 #[.agg #[.int .i64 x0, .int .i64 y0]] W fun e w' => e = .returned (.tuple #[.agg #[.int .i64 vc0, .int .i64 vc1], .int .i64 ec]) ∧ Gr W w'))
    (HT : Hid (∀ W, Calls Try.prog 10 #[.agg #[.int .i64 x0, .int .i64 y0], .int .i64 a2] W fun e w' => e = .returned (.tuple #[.agg #[.int .i64 vt0, .int .i64 vt1], .int .i64 et]) ∧ Gr W w'))
    (HWA : Hid (∀ W, Calls Try.prog 11 #[.agg #[.int .i64 x0, .int .i64 y0]] W fun e w' => e = .returned (.bool true) ∧ Gr W w'))
    (HWB : Hid (∀ W, Calls Try.prog 11 #[.agg #[.int .i64 x1, .int .i64 y1]] W fun e w' => e = .returned (.bool wb) ∧ Gr W w'))
    (RS : Hid (∀ W, Calls Try.prog 14 #[.agg #[.int .i64 x0, .int .i64 y0], .agg #[.int .i64 x1, .int .i64 y1]] W fun e w' => e = .returned (.agg #[.int .i64 rs0, .int .i64 rs1]) ∧ Gr W w'))
    (RL : Hid (∀ W, Calls Try.prog 15 #[.agg #[.int .i64 x0, .int .i64 y0], .agg #[.int .i64 x1, .int .i64 y1]] W fun e w' => e = .returned (.agg #[.int .i64 rl0, .int .i64 rl1]) ∧ Gr W w'))
    (RC : Hid (∀ W, Calls Try.prog 16 #[.agg #[.int .i64 x0, .int .i64 y0]] W fun e w' => e = .returned (.agg #[.int .i64 rc0, .int .i64 rc1]) ∧ Gr W w'))
    (RT : Hid (∀ W, Calls Try.prog 17 #[.agg #[.int .i64 x0, .int .i64 y0], .int .i64 a2] W fun e w' => e = .returned (.agg #[.int .i64 rt0, .int .i64 rt1]) ∧ Gr W w'))
    (TS : Hid (∀ W, Calls Try.prog 13 #[.agg #[.int .i64 vs0, .int .i64 vs1], .int .i64 es, .bool wb, .agg #[.int .i64 rs0, .int .i64 rs1]] W fun e w' => e = .returned (.bool true) ∧ Gr W w'))
    (TL : Hid (∀ W, Calls Try.prog 13 #[.agg #[.int .i64 vl0, .int .i64 vl1], .int .i64 el, .bool wb, .agg #[.int .i64 rl0, .int .i64 rl1]] W fun e w' => e = .returned (.bool true) ∧ Gr W w'))
    (TC : Hid (∀ W, Calls Try.prog 13 #[.agg #[.int .i64 vc0, .int .i64 vc1], .int .i64 ec, .bool true, .agg #[.int .i64 rc0, .int .i64 rc1]] W fun e w' => e = .returned (.bool true) ∧ Gr W w'))
    (TT : Hid (∀ W, Calls Try.prog 13 #[.agg #[.int .i64 vt0, .int .i64 vt1], .int .i64 et, .bool true, .agg #[.int .i64 rt0, .int .i64 rt1]] W fun e w' => e = .returned (.bool true) ∧ Gr W w'))
    (w : World) :
    Calls Try.prog 3 #[.agg #[.int .i64 x0, .int .i64 y0], .agg #[.int .i64 x1, .int .i64 y1], .int .i64 a2] w fun e w' => e = .returned (.bool true) ∧ Gr w w' := by
  have HAL := Lib.hid alive03_c
  go_enter Try.func3, Try.ntmps3
  go_wp2_with fail
  refine (HS.out _).mono ?_
  rintro e v1 ⟨rfl, g1⟩
  have q1 : Gr w v1 := Gr.trans (by repeat (first | exact Gr.refl _ | assumption | apply Gr.drew | apply Gr.alloc)) g1
  have ca1 : CxAt v1 w.heap.size x0 y0 := CxAt.gr ⟨by first | (simp; done) | (simp; omega), by go_simp, by go_simp⟩ g1
  have cb1 : CxAt v1 (w.heap.size + 1) x1 y1 := CxAt.gr ⟨by first | (simp; done) | (simp; omega), by go_simp, by go_simp⟩ g1
  have la1 := ca1.lt
  have ca10 := ca1.c0
  have ca11 := ca1.c1
  have lb1 := cb1.lt
  have cb10 := cb1.c0
  have cb11 := cb1.c1
  clear g1
  go_wp2_with fail
  refine (HL.out _).mono ?_
  rintro e v2 ⟨rfl, g2⟩
  have q2 : Gr w v2 := Gr.trans (Gr.alloc q1 _ _) g2
  have ca2 : CxAt v2 w.heap.size x0 y0 := CxAt.gr (CxAt.gr ca1 ((Gr.refl _).alloc _ _)) g2
  have cb2 : CxAt v2 (w.heap.size + 1) x1 y1 := CxAt.gr (CxAt.gr cb1 ((Gr.refl _).alloc _ _)) g2
  have cx2 : CxAt v2 v1.heap.size vs0 vs1 := CxAt.gr ⟨by first | (simp; done) | (simp; omega), by go_simp, by go_simp⟩ g2
  have la2 := ca2.lt
  have ca20 := ca2.c0
  have ca21 := ca2.c1
  have lb2 := cb2.lt
  have cb20 := cb2.c0
  have cb21 := cb2.c1
  have lx2 := cx2.lt
  have cx20 := cx2.c0
  have cx21 := cx2.c1
  clear ca1 ca10 ca11
  clear cb1 cb10 cb11
  clear g2
  go_wp2_with fail
  refine (HC.out _).mono ?_
  rintro e v3 ⟨rfl, g3⟩
  have q3 : Gr w v3 := Gr.trans (Gr.alloc q2 _ _) g3
  have ca3 : CxAt v3 w.heap.size x0 y0 := CxAt.gr (CxAt.gr ca2 ((Gr.refl _).alloc _ _)) g3
  have cb3 : CxAt v3 (w.heap.size + 1) x1 y1 := CxAt.gr (CxAt.gr cb2 ((Gr.refl _).alloc _ _)) g3
  have cx3 : CxAt v3 v1.heap.size vs0 vs1 := CxAt.gr (CxAt.gr cx2 ((Gr.refl _).alloc _ _)) g3
  have cy3 : CxAt v3 v2.heap.size vl0 vl1 := CxAt.gr ⟨by first | (simp; done) | (simp; omega), by go_simp, by go_simp⟩ g3
  have la3 := ca3.lt
  have ca30 := ca3.c0
  have ca31 := ca3.c1
  have lb3 := cb3.lt
  have cb30 := cb3.c0
  have cb31 := cb3.c1
  have lx3 := cx3.lt
  have cx30 := cx3.c0
  have cx31 := cx3.c1
  have ly3 := cy3.lt
  have cy30 := cy3.c0
  have cy31 := cy3.c1
  clear ca2 ca20 ca21
  clear cb2 cb20 cb21
  clear cx2 cx20 cx21
  clear g3
  go_wp2_with fail
  refine (HT.out _).mono ?_
  rintro e v4 ⟨rfl, g4⟩
  have q4 : Gr w v4 := Gr.trans (Gr.alloc q3 _ _) g4
  have ca4 : CxAt v4 w.heap.size x0 y0 := CxAt.gr (CxAt.gr ca3 ((Gr.refl _).alloc _ _)) g4
  have cb4 : CxAt v4 (w.heap.size + 1) x1 y1 := CxAt.gr (CxAt.gr cb3 ((Gr.refl _).alloc _ _)) g4
  have cx4 : CxAt v4 v1.heap.size vs0 vs1 := CxAt.gr (CxAt.gr cx3 ((Gr.refl _).alloc _ _)) g4
  have cy4 : CxAt v4 v2.heap.size vl0 vl1 := CxAt.gr (CxAt.gr cy3 ((Gr.refl _).alloc _ _)) g4
  have cz4 : CxAt v4 v3.heap.size vc0 vc1 := CxAt.gr ⟨by first | (simp; done) | (simp; omega), by go_simp, by go_simp⟩ g4
  have la4 := ca4.lt
  have ca40 := ca4.c0
  have ca41 := ca4.c1
  have lb4 := cb4.lt
  have cb40 := cb4.c0
  have cb41 := cb4.c1
  have lx4 := cx4.lt
  have cx40 := cx4.c0
  have cx41 := cx4.c1
  have ly4 := cy4.lt
  have cy40 := cy4.c0
  have cy41 := cy4.c1
  have lz4 := cz4.lt
  have cz40 := cz4.c0
  have cz41 := cz4.c1
  clear ca3 ca30 ca31
  clear cb3 cb30 cb31
  clear cx3 cx30 cx31
  clear cy3 cy30 cy31
  clear g4
  go_wp2_with fail
  obtain ⟨u, hW⟩ : ∃ u, u = v4.alloc (.cells #[.int .i64 vt0, .int .i64 vt1] 23) := ⟨_, rfl⟩
  have gu : Gr w u := by rw [hW]; exact q4.alloc _ _
  have ca : CxAt u w.heap.size x0 y0 := by rw [hW]; exact CxAt.gr ca4 ((Gr.refl _).alloc _ _)
  clear ca4 ca40 ca41
  have cb : CxAt u (w.heap.size + 1) x1 y1 := by rw [hW]; exact CxAt.gr cb4 ((Gr.refl _).alloc _ _)
  clear cb4 cb40 cb41
  have cx : CxAt u v1.heap.size vs0 vs1 := by rw [hW]; exact CxAt.gr cx4 ((Gr.refl _).alloc _ _)
  clear cx4 cx40 cx41
  have cy : CxAt u v2.heap.size vl0 vl1 := by rw [hW]; exact CxAt.gr cy4 ((Gr.refl _).alloc _ _)
  clear cy4 cy40 cy41
  have cz : CxAt u v3.heap.size vc0 vc1 := by rw [hW]; exact CxAt.gr cz4 ((Gr.refl _).alloc _ _)
  clear cz4 cz40 cz41
  have ct : CxAt u v4.heap.size vt0 vt1 := by rw [hW]; exact ⟨by first | (simp; done) | (simp; omega), by go_simp, by go_simp⟩
  rw [← hW]
  clear hW
  have la := ca.lt
  have ca0 := ca.c0
  have ca1 := ca.c1
  have lb := cb.lt
  have cb0 := cb.c0
  have cb1 := cb.c1
  have lx := cx.lt
  have cx0 := cx.c0
  have cx1 := cx.c1
  have ly := cy.lt
  have cy0 := cy.c0
  have cy1 := cy.c1
  have lz := cz.lt
  have cz0 := cz.c0
  have cz1 := cz.c1
  have lt := ct.lt
  have ct0 := ct.c0
  have ct1 := ct.c1
  go_region_held3 (fun W => W.cell? ⟨w.heap.size, 0, none⟩ = some (.int .i64 x0) ∧ W.cell? ⟨w.heap.size, 1, none⟩ = some (.int .i64 y0) ∧ W.cell? ⟨(w.heap.size + 1), 0, none⟩ = some (.int .i64 x1) ∧ W.cell? ⟨(w.heap.size + 1), 1, none⟩ = some (.int .i64 y1) ∧ Gr u W)
    (first | (go_split_ands; refine ⟨?_, ?_, ?_, ?_, ?_⟩; (all_goals (first | assumption | exact Gr.refl _ | exact Gr.drew (Gr.refl _) | exact Gr.drew (by assumption) | (go_keep; done) | ((refine (Gr.cell (by assumption) ?_).trans ?_ <;> (first | assumption)); done)))))
    (first | (go_at_call 11; go_split_ands; ((with_reducible refine (HWA.out _).mono ?_); rintro e w' ⟨rfl, hg⟩; have hgw : Gr u w' := Gr.trans (by first | assumption | exact Gr.drew (Gr.refl _) | exact Gr.drew (by assumption)) hg)) | (go_at_call 11; go_split_ands; ((with_reducible refine (HWB.out _).mono ?_); rintro e w' ⟨rfl, hg⟩; have hgw : Gr u w' := Gr.trans (by first | assumption | exact Gr.drew (Gr.refl _) | exact Gr.drew (by assumption)) hg)))
  have g5 : Gr u w' := by (try go_split_ands); assumption
  obtain ⟨u5, hB⟩ : ∃ v, v = w' := ⟨_, rfl⟩
  subst hB
  have gu5 := gu.trans g5
  clear ca0 ca1
  have ka := ca.gr g5
  have kla := ka.lt
  have ka0 := ka.c0
  have ka1 := ka.c1
  clear ka ca
  clear cb0 cb1
  have kb := cb.gr g5
  have klb := kb.lt
  have kb0 := kb.c0
  have kb1 := kb.c1
  clear kb cb
  clear cx0 cx1
  have kx := cx.gr g5
  have klx := kx.lt
  have kx0 := kx.c0
  have kx1 := kx.c1
  clear kx cx
  clear cy0 cy1
  have ky := cy.gr g5
  have kly := ky.lt
  have ky0 := ky.c0
  have ky1 := ky.c1
  clear ky cy
  clear cz0 cz1
  have kz := cz.gr g5
  have klz := kz.lt
  have kz0 := kz.c0
  have kz1 := kz.c1
  clear kz cz
  clear ct0 ct1
  have kt := ct.gr g5
  have klt := kt.lt
  have kt0 := kt.c0
  have kt1 := kt.c1
  clear kt ct
  go_wp2_with fail
  go_region_held3 (fun W => W.cell? ⟨w.heap.size, 0, none⟩ = some (.int .i64 x0) ∧ W.cell? ⟨w.heap.size, 1, none⟩ = some (.int .i64 y0) ∧ W.cell? ⟨(w.heap.size + 1), 0, none⟩ = some (.int .i64 x1) ∧ W.cell? ⟨(w.heap.size + 1), 1, none⟩ = some (.int .i64 y1) ∧ W.cell? ⟨v1.heap.size, 0, none⟩ = some (.int .i64 vs0) ∧ W.cell? ⟨v1.heap.size, 1, none⟩ = some (.int .i64 vs1) ∧ W.cell? ⟨v2.heap.size, 0, none⟩ = some (.int .i64 vl0) ∧ W.cell? ⟨v2.heap.size, 1, none⟩ = some (.int .i64 vl1) ∧ W.cell? ⟨v3.heap.size, 0, none⟩ = some (.int .i64 vc0) ∧ W.cell? ⟨v3.heap.size, 1, none⟩ = some (.int .i64 vc1) ∧ W.cell? ⟨v4.heap.size, 0, none⟩ = some (.int .i64 vt0) ∧ W.cell? ⟨v4.heap.size, 1, none⟩ = some (.int .i64 vt1) ∧ Gr u5 W)
    (first | (go_split_ands; refine ⟨?_, ?_, ?_, ?_, ?_, ?_, ?_, ?_, ?_, ?_, ?_, ?_, ?_⟩; (all_goals (first | assumption | exact Gr.refl _ | exact Gr.drew (Gr.refl _) | exact Gr.drew (by assumption) | (go_keep; done) | ((refine (Gr.cell (by assumption) ?_).trans ?_ <;> (first | assumption)); done)))))
    (first | (go_at_call 12; go_split_ands; ((with_reducible refine (HAL.out _).mono ?_); rintro e w' ⟨rfl, hg⟩; have hgw : Gr u5 w' := Gr.trans (by first | assumption | exact Gr.drew (Gr.refl _) | exact Gr.drew (by assumption)) hg)) | (go_at_call 14; go_split_ands; ((with_reducible refine (RS.out _).mono ?_); rintro e w' ⟨rfl, hg⟩; have hgw : Gr u5 w' := Gr.trans (by first | assumption | exact Gr.drew (Gr.refl _) | exact Gr.drew (by assumption)) hg)) | (go_at_call 13; go_split_ands; ((with_reducible refine (TS.out _).mono ?_); rintro e w' ⟨rfl, hg⟩; have hgw : Gr u5 w' := Gr.trans (by first | assumption | exact Gr.drew (Gr.refl _) | exact Gr.drew (by assumption)) hg)) | (go_at_call 15; go_split_ands; ((with_reducible refine (RL.out _).mono ?_); rintro e w' ⟨rfl, hg⟩; have hgw : Gr u5 w' := Gr.trans (by first | assumption | exact Gr.drew (Gr.refl _) | exact Gr.drew (by assumption)) hg)) | (go_at_call 13; go_split_ands; ((with_reducible refine (TL.out _).mono ?_); rintro e w' ⟨rfl, hg⟩; have hgw : Gr u5 w' := Gr.trans (by first | assumption | exact Gr.drew (Gr.refl _) | exact Gr.drew (by assumption)) hg)) | (go_at_call 16; go_split_ands; ((with_reducible refine (RC.out _).mono ?_); rintro e w' ⟨rfl, hg⟩; have hgw : Gr u5 w' := Gr.trans (by first | assumption | exact Gr.drew (Gr.refl _) | exact Gr.drew (by assumption)) hg)) | (go_at_call 13; go_split_ands; ((with_reducible refine (TC.out _).mono ?_); rintro e w' ⟨rfl, hg⟩; have hgw : Gr u5 w' := Gr.trans (by first | assumption | exact Gr.drew (Gr.refl _) | exact Gr.drew (by assumption)) hg)) | (go_at_call 17; go_split_ands; ((with_reducible refine (RT.out _).mono ?_); rintro e w' ⟨rfl, hg⟩; have hgw : Gr u5 w' := Gr.trans (by first | assumption | exact Gr.drew (Gr.refl _) | exact Gr.drew (by assumption)) hg)) | (go_at_call 13; go_split_ands; ((with_reducible refine (TT.out _).mono ?_); rintro e w' ⟨rfl, hg⟩; have hgw : Gr u5 w' := Gr.trans (by first | assumption | exact Gr.drew (Gr.refl _) | exact Gr.drew (by assumption)) hg)))
  go_wp2
  go_ret
  exact ⟨rfl, gu5.trans (by (try go_split_ands); assumption)⟩

set_option maxRecDepth 100000 in
set_option maxHeartbeats 8000000 in
theorem core_f (x0 y0 x1 y1 a2 vs0 vs1 es vl0 vl1 el vc0 vc1 ec vt0 vt1 et rs0 rs1 rl0 rl1 rc0 rc1 rt0 rt1 : Int) (wb : Bool)
    (HS : Hid (∀ W, Calls Try.prog 7 #[.agg #[.int .i64 x0, .int .i64 y0], .agg #[.int .i64 x1, .int .i64 y1]] W fun e w' => e = .returned (.tuple #[.agg #[.int .i64 vs0, .int .i64 vs1], .int .i64 es]) ∧ Gr W w'))
    (HL : Hid (∀ W, Calls Try.prog 8 #[.agg #[.int .i64 x0, .int .i64 y0], .agg #[.int .i64 x1, .int .i64 y1]] W fun e w' => e = .returned (.tuple #[.agg #[.int .i64 vl0, .int .i64 vl1], .int .i64 el]) ∧ Gr W w'))
    (HC : Hid (∀ W, Calls Try.prog 9 #[.agg #[.int .i64 x0, .int .i64 y0]] W fun e w' => e = .returned (.tuple #[.agg #[.int .i64 vc0, .int .i64 vc1], .int .i64 ec]) ∧ Gr W w'))
    (HT : Hid (∀ W, Calls Try.prog 10 #[.agg #[.int .i64 x0, .int .i64 y0], .int .i64 a2] W fun e w' => e = .returned (.tuple #[.agg #[.int .i64 vt0, .int .i64 vt1], .int .i64 et]) ∧ Gr W w'))
    (HWA : Hid (∀ W, Calls Try.prog 11 #[.agg #[.int .i64 x0, .int .i64 y0]] W fun e w' => e = .returned (.bool false) ∧ Gr W w'))
    (RS : Hid (∀ W, Calls Try.prog 14 #[.agg #[.int .i64 x0, .int .i64 y0], .agg #[.int .i64 x1, .int .i64 y1]] W fun e w' => e = .returned (.agg #[.int .i64 rs0, .int .i64 rs1]) ∧ Gr W w'))
    (RL : Hid (∀ W, Calls Try.prog 15 #[.agg #[.int .i64 x0, .int .i64 y0], .agg #[.int .i64 x1, .int .i64 y1]] W fun e w' => e = .returned (.agg #[.int .i64 rl0, .int .i64 rl1]) ∧ Gr W w'))
    (RC : Hid (∀ W, Calls Try.prog 16 #[.agg #[.int .i64 x0, .int .i64 y0]] W fun e w' => e = .returned (.agg #[.int .i64 rc0, .int .i64 rc1]) ∧ Gr W w'))
    (RT : Hid (∀ W, Calls Try.prog 17 #[.agg #[.int .i64 x0, .int .i64 y0], .int .i64 a2] W fun e w' => e = .returned (.agg #[.int .i64 rt0, .int .i64 rt1]) ∧ Gr W w'))
    (TS : Hid (∀ W, Calls Try.prog 13 #[.agg #[.int .i64 vs0, .int .i64 vs1], .int .i64 es, .bool false, .agg #[.int .i64 rs0, .int .i64 rs1]] W fun e w' => e = .returned (.bool true) ∧ Gr W w'))
    (TL : Hid (∀ W, Calls Try.prog 13 #[.agg #[.int .i64 vl0, .int .i64 vl1], .int .i64 el, .bool false, .agg #[.int .i64 rl0, .int .i64 rl1]] W fun e w' => e = .returned (.bool true) ∧ Gr W w'))
    (TC : Hid (∀ W, Calls Try.prog 13 #[.agg #[.int .i64 vc0, .int .i64 vc1], .int .i64 ec, .bool false, .agg #[.int .i64 rc0, .int .i64 rc1]] W fun e w' => e = .returned (.bool true) ∧ Gr W w'))
    (TT : Hid (∀ W, Calls Try.prog 13 #[.agg #[.int .i64 vt0, .int .i64 vt1], .int .i64 et, .bool false, .agg #[.int .i64 rt0, .int .i64 rt1]] W fun e w' => e = .returned (.bool true) ∧ Gr W w'))
    (w : World) :
    Calls Try.prog 3 #[.agg #[.int .i64 x0, .int .i64 y0], .agg #[.int .i64 x1, .int .i64 y1], .int .i64 a2] w fun e w' => e = .returned (.bool true) ∧ Gr w w' := by
  have HAL := Lib.hid alive03_c
  go_enter Try.func3, Try.ntmps3
  go_wp2_with fail
  refine (HS.out _).mono ?_
  rintro e v1 ⟨rfl, g1⟩
  have q1 : Gr w v1 := Gr.trans (by repeat (first | exact Gr.refl _ | assumption | apply Gr.drew | apply Gr.alloc)) g1
  have ca1 : CxAt v1 w.heap.size x0 y0 := CxAt.gr ⟨by first | (simp; done) | (simp; omega), by go_simp, by go_simp⟩ g1
  have cb1 : CxAt v1 (w.heap.size + 1) x1 y1 := CxAt.gr ⟨by first | (simp; done) | (simp; omega), by go_simp, by go_simp⟩ g1
  have la1 := ca1.lt
  have ca10 := ca1.c0
  have ca11 := ca1.c1
  have lb1 := cb1.lt
  have cb10 := cb1.c0
  have cb11 := cb1.c1
  clear g1
  go_wp2_with fail
  refine (HL.out _).mono ?_
  rintro e v2 ⟨rfl, g2⟩
  have q2 : Gr w v2 := Gr.trans (Gr.alloc q1 _ _) g2
  have ca2 : CxAt v2 w.heap.size x0 y0 := CxAt.gr (CxAt.gr ca1 ((Gr.refl _).alloc _ _)) g2
  have cb2 : CxAt v2 (w.heap.size + 1) x1 y1 := CxAt.gr (CxAt.gr cb1 ((Gr.refl _).alloc _ _)) g2
  have cx2 : CxAt v2 v1.heap.size vs0 vs1 := CxAt.gr ⟨by first | (simp; done) | (simp; omega), by go_simp, by go_simp⟩ g2
  have la2 := ca2.lt
  have ca20 := ca2.c0
  have ca21 := ca2.c1
  have lb2 := cb2.lt
  have cb20 := cb2.c0
  have cb21 := cb2.c1
  have lx2 := cx2.lt
  have cx20 := cx2.c0
  have cx21 := cx2.c1
  clear ca1 ca10 ca11
  clear cb1 cb10 cb11
  clear g2
  go_wp2_with fail
  refine (HC.out _).mono ?_
  rintro e v3 ⟨rfl, g3⟩
  have q3 : Gr w v3 := Gr.trans (Gr.alloc q2 _ _) g3
  have ca3 : CxAt v3 w.heap.size x0 y0 := CxAt.gr (CxAt.gr ca2 ((Gr.refl _).alloc _ _)) g3
  have cb3 : CxAt v3 (w.heap.size + 1) x1 y1 := CxAt.gr (CxAt.gr cb2 ((Gr.refl _).alloc _ _)) g3
  have cx3 : CxAt v3 v1.heap.size vs0 vs1 := CxAt.gr (CxAt.gr cx2 ((Gr.refl _).alloc _ _)) g3
  have cy3 : CxAt v3 v2.heap.size vl0 vl1 := CxAt.gr ⟨by first | (simp; done) | (simp; omega), by go_simp, by go_simp⟩ g3
  have la3 := ca3.lt
  have ca30 := ca3.c0
  have ca31 := ca3.c1
  have lb3 := cb3.lt
  have cb30 := cb3.c0
  have cb31 := cb3.c1
  have lx3 := cx3.lt
  have cx30 := cx3.c0
  have cx31 := cx3.c1
  have ly3 := cy3.lt
  have cy30 := cy3.c0
  have cy31 := cy3.c1
  clear ca2 ca20 ca21
  clear cb2 cb20 cb21
  clear cx2 cx20 cx21
  clear g3
  go_wp2_with fail
  refine (HT.out _).mono ?_
  rintro e v4 ⟨rfl, g4⟩
  have q4 : Gr w v4 := Gr.trans (Gr.alloc q3 _ _) g4
  have ca4 : CxAt v4 w.heap.size x0 y0 := CxAt.gr (CxAt.gr ca3 ((Gr.refl _).alloc _ _)) g4
  have cb4 : CxAt v4 (w.heap.size + 1) x1 y1 := CxAt.gr (CxAt.gr cb3 ((Gr.refl _).alloc _ _)) g4
  have cx4 : CxAt v4 v1.heap.size vs0 vs1 := CxAt.gr (CxAt.gr cx3 ((Gr.refl _).alloc _ _)) g4
  have cy4 : CxAt v4 v2.heap.size vl0 vl1 := CxAt.gr (CxAt.gr cy3 ((Gr.refl _).alloc _ _)) g4
  have cz4 : CxAt v4 v3.heap.size vc0 vc1 := CxAt.gr ⟨by first | (simp; done) | (simp; omega), by go_simp, by go_simp⟩ g4
  have la4 := ca4.lt
  have ca40 := ca4.c0
  have ca41 := ca4.c1
  have lb4 := cb4.lt
  have cb40 := cb4.c0
  have cb41 := cb4.c1
  have lx4 := cx4.lt
  have cx40 := cx4.c0
  have cx41 := cx4.c1
  have ly4 := cy4.lt
  have cy40 := cy4.c0
  have cy41 := cy4.c1
  have lz4 := cz4.lt
  have cz40 := cz4.c0
  have cz41 := cz4.c1
  clear ca3 ca30 ca31
  clear cb3 cb30 cb31
  clear cx3 cx30 cx31
  clear cy3 cy30 cy31
  clear g4
  go_wp2_with fail
  obtain ⟨u, hW⟩ : ∃ u, u = v4.alloc (.cells #[.int .i64 vt0, .int .i64 vt1] 23) := ⟨_, rfl⟩
  have gu : Gr w u := by rw [hW]; exact q4.alloc _ _
  have ca : CxAt u w.heap.size x0 y0 := by rw [hW]; exact CxAt.gr ca4 ((Gr.refl _).alloc _ _)
  clear ca4 ca40 ca41
  have cb : CxAt u (w.heap.size + 1) x1 y1 := by rw [hW]; exact CxAt.gr cb4 ((Gr.refl _).alloc _ _)
  clear cb4 cb40 cb41
  have cx : CxAt u v1.heap.size vs0 vs1 := by rw [hW]; exact CxAt.gr cx4 ((Gr.refl _).alloc _ _)
  clear cx4 cx40 cx41
  have cy : CxAt u v2.heap.size vl0 vl1 := by rw [hW]; exact CxAt.gr cy4 ((Gr.refl _).alloc _ _)
  clear cy4 cy40 cy41
  have cz : CxAt u v3.heap.size vc0 vc1 := by rw [hW]; exact CxAt.gr cz4 ((Gr.refl _).alloc _ _)
  clear cz4 cz40 cz41
  have ct : CxAt u v4.heap.size vt0 vt1 := by rw [hW]; exact ⟨by first | (simp; done) | (simp; omega), by go_simp, by go_simp⟩
  rw [← hW]
  clear hW
  have la := ca.lt
  have ca0 := ca.c0
  have ca1 := ca.c1
  have lb := cb.lt
  have cb0 := cb.c0
  have cb1 := cb.c1
  have lx := cx.lt
  have cx0 := cx.c0
  have cx1 := cx.c1
  have ly := cy.lt
  have cy0 := cy.c0
  have cy1 := cy.c1
  have lz := cz.lt
  have cz0 := cz.c0
  have cz1 := cz.c1
  have lt := ct.lt
  have ct0 := ct.c0
  have ct1 := ct.c1
  refine wp_region_held_drew (S := fun W => W.cell? ⟨w.heap.size, 0, none⟩ = some (.int .i64 x0) ∧ W.cell? ⟨w.heap.size, 1, none⟩ = some (.int .i64 y0) ∧ Gr u W) rfl (⟨ca0, ca1, (Gr.refl u).drew⟩) (fun hS => ?_)
  refine wpAnyH_take (i := 0) (v := ?_) rfl (by kernel_rfl) (by kernel_rfl) (by kernel_rfl) (fun _ _ _ h => h) (Or.inl ⟨by rfl, ?_⟩) (by assumption) ?_
  rotate_left
  · (intro w hSw; (try dsimp only at hSw); go_split_ands; go_simp; try with_reducible rfl)
  try simp only [Act.put, List.setIfInBounds_toArray, List.set_cons_zero, List.set_cons_succ, List.getElem_toArray, List.getElem_cons_zero]
  refine wpAnyH_take (i := 2) (v := ?_) rfl (by kernel_rfl) (by kernel_rfl) (by kernel_rfl) (fun _ _ _ h => h) (Or.inl ⟨by rfl, ?_⟩) (by assumption) ?_
  rotate_left
  · (intro w hSw; (try dsimp only at hSw); go_split_ands; go_simp; try with_reducible rfl)
  try simp only [Act.put, List.setIfInBounds_toArray, List.set_cons_zero, List.set_cons_succ, List.getElem_toArray, List.getElem_cons_zero, List.getElem_cons_succ]
  refine wpAnyH_ready (rs := [1]) (by kernel_rfl) (by simp) ?_
  refine AllReadyH.cons rfl (fun K hK => ?_) AllReadyH.nil
  go_simp
  (go_split_ands; refine (HWA.out _).mono ?_; rintro e w' ⟨rfl, hg⟩; have hgw : Gr u w' := Gr.trans (by first | assumption | exact Gr.drew (Gr.refl _)) hg)
  refine hK.out _ _ ?_ (fun hHeld => ?_)
  · exact ⟨(hgw.cell (p := ⟨w.heap.size, 0, none⟩) la).trans ca0, (hgw.cell (p := ⟨w.heap.size, 1, none⟩) la).trans ca1, hgw⟩
  clear hK K
  try simp only [Act.put, List.setIfInBounds_toArray, List.set_cons_zero, List.set_cons_succ, List.getElem_toArray, List.getElem_cons_zero, List.getElem_cons_succ]
  refine wpAnyH_ready (rs := [3]) (by kernel_rfl) (by simp) ?_
  refine AllReadyH.cons rfl (fun K hK => ?_) AllReadyH.nil
  go_simp
  (go_split_ands; refine (HWA.out _).mono ?_; rintro e w' ⟨rfl, hg⟩; have hgw : Gr u w' := Gr.trans (by first | assumption | exact Gr.drew (Gr.refl _)) hg)
  refine hK.out _ _ ?_ (fun hHeld => ?_)
  · exact ⟨(hgw.cell (p := ⟨w.heap.size, 0, none⟩) la).trans ca0, (hgw.cell (p := ⟨w.heap.size, 1, none⟩) la).trans ca1, hgw⟩
  clear hK K
  try simp only [Act.put, List.setIfInBounds_toArray, List.set_cons_zero, List.set_cons_succ, List.getElem_toArray, List.getElem_cons_zero, List.getElem_cons_succ]
  refine wpAnyH_take (i := 4) (v := ?_) rfl (by kernel_rfl) (by kernel_rfl) (by kernel_rfl) (fun _ _ _ h => h) (Or.inl ⟨by rfl, ?_⟩) (by assumption) ?_
  rotate_left
  · (intro w hSw; (try dsimp only at hSw); go_split_ands; go_simp; try with_reducible rfl)
  try simp only [Act.put, List.setIfInBounds_toArray, List.set_cons_zero, List.set_cons_succ, List.getElem_toArray, List.getElem_cons_zero, List.getElem_cons_succ]
  refine wpAnyH_take (i := 5) (v := undef) rfl (by kernel_rfl) (by kernel_rfl) (by kernel_rfl) (fun _ _ _ h => h) (Or.inr ⟨by rfl, rfl⟩) (by assumption) ?_
  try simp only [Act.put, List.setIfInBounds_toArray, List.set_cons_zero, List.set_cons_succ, List.getElem_toArray, List.getElem_cons_zero, List.getElem_cons_succ]
  refine wpAnyH_take (i := 6) (v := undef) rfl (by kernel_rfl) (by kernel_rfl) (by kernel_rfl) (fun _ _ _ h => h) (Or.inr ⟨by rfl, rfl⟩) (by assumption) ?_
  try simp only [Act.put, List.setIfInBounds_toArray, List.set_cons_zero, List.set_cons_succ, List.getElem_toArray, List.getElem_cons_zero, List.getElem_cons_succ]
  refine wpAnyH_take (i := 7) (v := ?_) rfl (by kernel_rfl) (by kernel_rfl) (by kernel_rfl) (fun _ _ _ h => h) (Or.inl ⟨by rfl, ?_⟩) (by assumption) ?_
  rotate_left
  · (intro w hSw; (try dsimp only at hSw); go_split_ands; go_simp; try with_reducible rfl)
  try simp only [Act.put, List.setIfInBounds_toArray, List.set_cons_zero, List.set_cons_succ, List.getElem_toArray, List.getElem_cons_zero, List.getElem_cons_succ]
  refine wpAnyH_take (i := 8) (v := ?_) rfl (by kernel_rfl) (by kernel_rfl) (by kernel_rfl) (fun _ _ _ h => h) (Or.inl ⟨by rfl, ?_⟩) (by assumption) ?_
  rotate_left
  · (intro w hSw; (try dsimp only at hSw); go_split_ands; go_simp; try with_reducible rfl)
  try simp only [Act.put, List.setIfInBounds_toArray, List.set_cons_zero, List.set_cons_succ, List.getElem_toArray, List.getElem_cons_zero, List.getElem_cons_succ]
  refine wpAnyH_take (i := 9) (v := ?_) rfl (by kernel_rfl) (by kernel_rfl) (by kernel_rfl) (fun _ _ _ h => h) (Or.inl ⟨by rfl, ?_⟩) (by assumption) ?_
  rotate_left
  · (intro w hSw; (try dsimp only at hSw); go_split_ands; go_simp; try with_reducible rfl)
  try simp only [Act.put, List.setIfInBounds_toArray, List.set_cons_zero, List.set_cons_succ, List.getElem_toArray, List.getElem_cons_zero, List.getElem_cons_succ]
  refine wpAnyH_done (by kernel_rfl) ?_ _
  have g5 : Gr u w' := by (try go_split_ands); assumption
  obtain ⟨u5, hB⟩ : ∃ v, v = w' := ⟨_, rfl⟩
  subst hB
  have gu5 := gu.trans g5
  clear ca0 ca1
  have ka := ca.gr g5
  have kla := ka.lt
  have ka0 := ka.c0
  have ka1 := ka.c1
  clear ka ca
  clear cb0 cb1
  have kb := cb.gr g5
  have klb := kb.lt
  have kb0 := kb.c0
  have kb1 := kb.c1
  clear kb cb
  clear cx0 cx1
  have kx := cx.gr g5
  have klx := kx.lt
  have kx0 := kx.c0
  have kx1 := kx.c1
  clear kx cx
  clear cy0 cy1
  have ky := cy.gr g5
  have kly := ky.lt
  have ky0 := ky.c0
  have ky1 := ky.c1
  clear ky cy
  clear cz0 cz1
  have kz := cz.gr g5
  have klz := kz.lt
  have kz0 := kz.c0
  have kz1 := kz.c1
  clear kz cz
  clear ct0 ct1
  have kt := ct.gr g5
  have klt := kt.lt
  have kt0 := kt.c0
  have kt1 := kt.c1
  clear kt ct
  go_wp2_with fail
  go_region_held3 (fun W => W.cell? ⟨w.heap.size, 0, none⟩ = some (.int .i64 x0) ∧ W.cell? ⟨w.heap.size, 1, none⟩ = some (.int .i64 y0) ∧ W.cell? ⟨(w.heap.size + 1), 0, none⟩ = some (.int .i64 x1) ∧ W.cell? ⟨(w.heap.size + 1), 1, none⟩ = some (.int .i64 y1) ∧ W.cell? ⟨v1.heap.size, 0, none⟩ = some (.int .i64 vs0) ∧ W.cell? ⟨v1.heap.size, 1, none⟩ = some (.int .i64 vs1) ∧ W.cell? ⟨v2.heap.size, 0, none⟩ = some (.int .i64 vl0) ∧ W.cell? ⟨v2.heap.size, 1, none⟩ = some (.int .i64 vl1) ∧ W.cell? ⟨v3.heap.size, 0, none⟩ = some (.int .i64 vc0) ∧ W.cell? ⟨v3.heap.size, 1, none⟩ = some (.int .i64 vc1) ∧ W.cell? ⟨v4.heap.size, 0, none⟩ = some (.int .i64 vt0) ∧ W.cell? ⟨v4.heap.size, 1, none⟩ = some (.int .i64 vt1) ∧ Gr u5 W)
    (first | (go_split_ands; refine ⟨?_, ?_, ?_, ?_, ?_, ?_, ?_, ?_, ?_, ?_, ?_, ?_, ?_⟩; (all_goals (first | assumption | exact Gr.refl _ | exact Gr.drew (Gr.refl _) | exact Gr.drew (by assumption) | (go_keep; done) | ((refine (Gr.cell (by assumption) ?_).trans ?_ <;> (first | assumption)); done)))))
    (first | (go_at_call 12; go_split_ands; ((with_reducible refine (HAL.out _).mono ?_); rintro e w' ⟨rfl, hg⟩; have hgw : Gr u5 w' := Gr.trans (by first | assumption | exact Gr.drew (Gr.refl _) | exact Gr.drew (by assumption)) hg)) | (go_at_call 14; go_split_ands; ((with_reducible refine (RS.out _).mono ?_); rintro e w' ⟨rfl, hg⟩; have hgw : Gr u5 w' := Gr.trans (by first | assumption | exact Gr.drew (Gr.refl _) | exact Gr.drew (by assumption)) hg)) | (go_at_call 13; go_split_ands; ((with_reducible refine (TS.out _).mono ?_); rintro e w' ⟨rfl, hg⟩; have hgw : Gr u5 w' := Gr.trans (by first | assumption | exact Gr.drew (Gr.refl _) | exact Gr.drew (by assumption)) hg)) | (go_at_call 15; go_split_ands; ((with_reducible refine (RL.out _).mono ?_); rintro e w' ⟨rfl, hg⟩; have hgw : Gr u5 w' := Gr.trans (by first | assumption | exact Gr.drew (Gr.refl _) | exact Gr.drew (by assumption)) hg)) | (go_at_call 13; go_split_ands; ((with_reducible refine (TL.out _).mono ?_); rintro e w' ⟨rfl, hg⟩; have hgw : Gr u5 w' := Gr.trans (by first | assumption | exact Gr.drew (Gr.refl _) | exact Gr.drew (by assumption)) hg)) | (go_at_call 16; go_split_ands; ((with_reducible refine (RC.out _).mono ?_); rintro e w' ⟨rfl, hg⟩; have hgw : Gr u5 w' := Gr.trans (by first | assumption | exact Gr.drew (Gr.refl _) | exact Gr.drew (by assumption)) hg)) | (go_at_call 13; go_split_ands; ((with_reducible refine (TC.out _).mono ?_); rintro e w' ⟨rfl, hg⟩; have hgw : Gr u5 w' := Gr.trans (by first | assumption | exact Gr.drew (Gr.refl _) | exact Gr.drew (by assumption)) hg)) | (go_at_call 17; go_split_ands; ((with_reducible refine (RT.out _).mono ?_); rintro e w' ⟨rfl, hg⟩; have hgw : Gr u5 w' := Gr.trans (by first | assumption | exact Gr.drew (Gr.refl _) | exact Gr.drew (by assumption)) hg)) | (go_at_call 13; go_split_ands; ((with_reducible refine (TT.out _).mono ?_); rintro e w' ⟨rfl, hg⟩; have hgw : Gr u5 w' := Gr.trans (by first | assumption | exact Gr.drew (Gr.refl _) | exact Gr.drew (by assumption)) hg)))
  go_wp2
  go_ret
  exact ⟨rfl, gu5.trans (by (try go_split_ands); assumption)⟩

end Go.Proofs.Ytbgdhpcidcnjkaa.cxSums
