/- Package split: Join. -/
import Derived.Test.YtmhcbphkkcmecaaSplitCode6
namespace Go.Proofs.Ytmhcbphkkcmecaa
open Go.ChangeShapes Go.WideShapes Go.ChangeAt Go.RowKit
set_option linter.unusedVariables false
set_option linter.unusedSimpArgs false
set_option maxRecDepth 100000

theorem CxsAt.four {W : World} {B : Nat} {t : TypeId} {a b c d : Gi} (h : CellsAt W B t #[.int .i64 a.re, .int .i64 a.im, .int .i64 b.re, .int .i64 b.im, .int .i64 c.re, .int .i64 c.im, .int .i64 d.re, .int .i64 d.im]) : CxsAt W (.slice (some ⟨B, 0, none⟩) 4 4) [a, b, c, d] := by
  refine ⟨some ⟨B, 0, none⟩, 4, rfl, Nat.le_refl _, by unfold maxLen; omega, fun _ => ⟨B, 0, rfl, h.lt, fun j x hj => ?_⟩⟩
  match j, hj with
  | 0, hj => obtain rfl : a = x := by simpa using hj
             exact ⟨h.cell 0, h.cell 1⟩
  | 1, hj => obtain rfl : b = x := by simpa using hj
             exact ⟨h.cell 2, h.cell 3⟩
  | 2, hj => obtain rfl : c = x := by simpa using hj
             exact ⟨h.cell 4, h.cell 5⟩
  | 3, hj => obtain rfl : d = x := by simpa using hj
             exact ⟨h.cell 6, h.cell 7⟩


set_option maxHeartbeats 4000000 in
theorem sJoin_arg_of (b mo : Int) (inv : Bool) (ju jv jy jz ja jc : Gi) (HM : Hid (∀ W, Calls Try.prog 48 #[.agg #[.int .i64 b, .int .i64 mo, .bool inv]] W fun e w' => e = .returned (.bool false) ∧ Gr W w')) (w : World) :
    Calls Try.prog 23 #[.agg #[.int .i64 (ju).re, .int .i64 (ju).im], .agg #[.int .i64 (jv).re, .int .i64 (jv).im], .agg #[.int .i64 (jy).re, .int .i64 (jy).im], .agg #[.int .i64 (jz).re, .int .i64 (jz).im], .agg #[.int .i64 (ja).re, .int .i64 (ja).im], .agg #[.int .i64 (jc).re, .int .i64 (jc).im], .int .i64 b, .int .i64 mo, .bool inv] w fun e w' => e = .returned (.tuple #[.agg #[.int .i64 0, .int .i64 0, .int .i64 0, .int .i64 0, .int .i64 0, .int .i64 0, .int .i64 0, .int .i64 0], .int .i64 1]) ∧ Gr w w' := by
  go_enter Try.func23, Try.ntmps23
  go_wp2_with fail
  obtain ⟨u0, hU⟩ : ∃ uu, uu = ((((((((w.alloc (.cells #[.int .i64 ju.re, .int .i64 ju.im] 23)).alloc (.cells #[.int .i64 jv.re, .int .i64 jv.im] 23)).alloc (.cells #[.int .i64 jy.re, .int .i64 jy.im] 23)).alloc (.cells #[.int .i64 jz.re, .int .i64 jz.im] 23)).alloc (.cells #[.int .i64 ja.re, .int .i64 ja.im] 23)).alloc (.cells #[.int .i64 jc.re, .int .i64 jc.im] 23)).alloc (.cells #[.int .i64 0, .int .i64 0, .int .i64 0, .int .i64 0, .int .i64 0, .int .i64 0, .int .i64 0, .int .i64 0] 24)).alloc (.cells #[.int .i64 b, .int .i64 mo, .bool inv] 80)) := ⟨_, rfl⟩
  have gu : Gr w u0 := by rw [hU]; exact ((((((((Gr.refl w).alloc _ _).alloc _ _).alloc _ _).alloc _ _).alloc _ _).alloc _ _).alloc _ _).alloc _ _
  have R0 : CellsAt u0 (w.heap.size) 23 #[.int .i64 ju.re, .int .i64 ju.im] := by
    rw [hU]
    have := ((((((((CellsAt.new w 23 #[.int .i64 ju.re, .int .i64 ju.im]).alloc (.cells #[.int .i64 jv.re, .int .i64 jv.im] 23)).alloc (.cells #[.int .i64 jy.re, .int .i64 jy.im] 23)).alloc (.cells #[.int .i64 jz.re, .int .i64 jz.im] 23)).alloc (.cells #[.int .i64 ja.re, .int .i64 ja.im] 23)).alloc (.cells #[.int .i64 jc.re, .int .i64 jc.im] 23)).alloc (.cells #[.int .i64 0, .int .i64 0, .int .i64 0, .int .i64 0, .int .i64 0, .int .i64 0, .int .i64 0, .int .i64 0] 24)).alloc (.cells #[.int .i64 b, .int .i64 mo, .bool inv] 80))
    simpa only [World.size_alloc] using this
  have R1 : CellsAt u0 (w.heap.size + 1) 23 #[.int .i64 jv.re, .int .i64 jv.im] := by
    rw [hU]
    have := (((((((CellsAt.new (w.alloc (.cells #[.int .i64 ju.re, .int .i64 ju.im] 23)) 23 #[.int .i64 jv.re, .int .i64 jv.im]).alloc (.cells #[.int .i64 jy.re, .int .i64 jy.im] 23)).alloc (.cells #[.int .i64 jz.re, .int .i64 jz.im] 23)).alloc (.cells #[.int .i64 ja.re, .int .i64 ja.im] 23)).alloc (.cells #[.int .i64 jc.re, .int .i64 jc.im] 23)).alloc (.cells #[.int .i64 0, .int .i64 0, .int .i64 0, .int .i64 0, .int .i64 0, .int .i64 0, .int .i64 0, .int .i64 0] 24)).alloc (.cells #[.int .i64 b, .int .i64 mo, .bool inv] 80))
    simpa only [World.size_alloc] using this
  have R2 : CellsAt u0 (w.heap.size + 1 + 1) 23 #[.int .i64 jy.re, .int .i64 jy.im] := by
    rw [hU]
    have := ((((((CellsAt.new ((w.alloc (.cells #[.int .i64 ju.re, .int .i64 ju.im] 23)).alloc (.cells #[.int .i64 jv.re, .int .i64 jv.im] 23)) 23 #[.int .i64 jy.re, .int .i64 jy.im]).alloc (.cells #[.int .i64 jz.re, .int .i64 jz.im] 23)).alloc (.cells #[.int .i64 ja.re, .int .i64 ja.im] 23)).alloc (.cells #[.int .i64 jc.re, .int .i64 jc.im] 23)).alloc (.cells #[.int .i64 0, .int .i64 0, .int .i64 0, .int .i64 0, .int .i64 0, .int .i64 0, .int .i64 0, .int .i64 0] 24)).alloc (.cells #[.int .i64 b, .int .i64 mo, .bool inv] 80))
    simpa only [World.size_alloc] using this
  have R3 : CellsAt u0 (w.heap.size + 1 + 1 + 1) 23 #[.int .i64 jz.re, .int .i64 jz.im] := by
    rw [hU]
    have := (((((CellsAt.new (((w.alloc (.cells #[.int .i64 ju.re, .int .i64 ju.im] 23)).alloc (.cells #[.int .i64 jv.re, .int .i64 jv.im] 23)).alloc (.cells #[.int .i64 jy.re, .int .i64 jy.im] 23)) 23 #[.int .i64 jz.re, .int .i64 jz.im]).alloc (.cells #[.int .i64 ja.re, .int .i64 ja.im] 23)).alloc (.cells #[.int .i64 jc.re, .int .i64 jc.im] 23)).alloc (.cells #[.int .i64 0, .int .i64 0, .int .i64 0, .int .i64 0, .int .i64 0, .int .i64 0, .int .i64 0, .int .i64 0] 24)).alloc (.cells #[.int .i64 b, .int .i64 mo, .bool inv] 80))
    simpa only [World.size_alloc] using this
  have R4 : CellsAt u0 (w.heap.size + 1 + 1 + 1 + 1) 23 #[.int .i64 ja.re, .int .i64 ja.im] := by
    rw [hU]
    have := ((((CellsAt.new ((((w.alloc (.cells #[.int .i64 ju.re, .int .i64 ju.im] 23)).alloc (.cells #[.int .i64 jv.re, .int .i64 jv.im] 23)).alloc (.cells #[.int .i64 jy.re, .int .i64 jy.im] 23)).alloc (.cells #[.int .i64 jz.re, .int .i64 jz.im] 23)) 23 #[.int .i64 ja.re, .int .i64 ja.im]).alloc (.cells #[.int .i64 jc.re, .int .i64 jc.im] 23)).alloc (.cells #[.int .i64 0, .int .i64 0, .int .i64 0, .int .i64 0, .int .i64 0, .int .i64 0, .int .i64 0, .int .i64 0] 24)).alloc (.cells #[.int .i64 b, .int .i64 mo, .bool inv] 80))
    simpa only [World.size_alloc] using this
  have R5 : CellsAt u0 (w.heap.size + 1 + 1 + 1 + 1 + 1) 23 #[.int .i64 jc.re, .int .i64 jc.im] := by
    rw [hU]
    have := (((CellsAt.new (((((w.alloc (.cells #[.int .i64 ju.re, .int .i64 ju.im] 23)).alloc (.cells #[.int .i64 jv.re, .int .i64 jv.im] 23)).alloc (.cells #[.int .i64 jy.re, .int .i64 jy.im] 23)).alloc (.cells #[.int .i64 jz.re, .int .i64 jz.im] 23)).alloc (.cells #[.int .i64 ja.re, .int .i64 ja.im] 23)) 23 #[.int .i64 jc.re, .int .i64 jc.im]).alloc (.cells #[.int .i64 0, .int .i64 0, .int .i64 0, .int .i64 0, .int .i64 0, .int .i64 0, .int .i64 0, .int .i64 0] 24)).alloc (.cells #[.int .i64 b, .int .i64 mo, .bool inv] 80))
    simpa only [World.size_alloc] using this
  have R6 : CellsAt u0 (w.heap.size + 1 + 1 + 1 + 1 + 1 + 1) 24 #[.int .i64 0, .int .i64 0, .int .i64 0, .int .i64 0, .int .i64 0, .int .i64 0, .int .i64 0, .int .i64 0] := by
    rw [hU]
    have := ((CellsAt.new ((((((w.alloc (.cells #[.int .i64 ju.re, .int .i64 ju.im] 23)).alloc (.cells #[.int .i64 jv.re, .int .i64 jv.im] 23)).alloc (.cells #[.int .i64 jy.re, .int .i64 jy.im] 23)).alloc (.cells #[.int .i64 jz.re, .int .i64 jz.im] 23)).alloc (.cells #[.int .i64 ja.re, .int .i64 ja.im] 23)).alloc (.cells #[.int .i64 jc.re, .int .i64 jc.im] 23)) 24 #[.int .i64 0, .int .i64 0, .int .i64 0, .int .i64 0, .int .i64 0, .int .i64 0, .int .i64 0, .int .i64 0]).alloc (.cells #[.int .i64 b, .int .i64 mo, .bool inv] 80))
    simpa only [World.size_alloc] using this
  have R7 : CellsAt u0 (w.heap.size + 1 + 1 + 1 + 1 + 1 + 1 + 1) 80 #[.int .i64 b, .int .i64 mo, .bool inv] := by
    rw [hU]
    have := (CellsAt.new (((((((w.alloc (.cells #[.int .i64 ju.re, .int .i64 ju.im] 23)).alloc (.cells #[.int .i64 jv.re, .int .i64 jv.im] 23)).alloc (.cells #[.int .i64 jy.re, .int .i64 jy.im] 23)).alloc (.cells #[.int .i64 jz.re, .int .i64 jz.im] 23)).alloc (.cells #[.int .i64 ja.re, .int .i64 ja.im] 23)).alloc (.cells #[.int .i64 jc.re, .int .i64 jc.im] 23)).alloc (.cells #[.int .i64 0, .int .i64 0, .int .i64 0, .int .i64 0, .int .i64 0, .int .i64 0, .int .i64 0, .int .i64 0] 24)) 80 #[.int .i64 b, .int .i64 mo, .bool inv])
    simpa only [World.size_alloc] using this
  rw [← hU]
  clear hU
  have lu := R0.lt
  have lv := R1.lt
  have ly := R2.lt
  have lz := R3.lt
  have la := R4.lt
  have lc := R5.lt
  have lr := R6.lt
  have lh := R7.lt
  refine (HM.out _).mono ?_
  rintro e w1 ⟨rfl, g1⟩
  have Fu_1 := CellsAt.gr (R0) g1
  have lu_1 := CellsAt.lt (Fu_1)
  have Fv_1 := CellsAt.gr (R1) g1
  have lv_1 := CellsAt.lt (Fv_1)
  have Fy_1 := CellsAt.gr (R2) g1
  have ly_1 := CellsAt.lt (Fy_1)
  have Fz_1 := CellsAt.gr (R3) g1
  have lz_1 := CellsAt.lt (Fz_1)
  have Fa_1 := CellsAt.gr (R4) g1
  have la_1 := CellsAt.lt (Fa_1)
  have Fc_1 := CellsAt.gr (R5) g1
  have lc_1 := CellsAt.lt (Fc_1)
  have Fr_1 := CellsAt.gr (R6) g1
  have lr_1 := CellsAt.lt (Fr_1)
  have Fh_1 := CellsAt.gr (R7) g1
  have lh_1 := CellsAt.lt (Fh_1)
  have z1 := (gu).trans g1
  clear R0 R1 R2 R3 R4 R5 R6 R7 gu g1
  have ch0 := CellsAt.cell (Fh_1) 0
  have ch1 := CellsAt.cell (Fh_1) 1
  have ch2 := CellsAt.cell (Fh_1) 2
  simp only [List.getElem?_toArray, List.getElem?_cons_zero, List.getElem?_cons_succ] at ch0 ch1 ch2
  have mr0 := CellsAt.frozen (Fr_1) 0
  have cr0 := CellsAt.cell (Fr_1) 0
  simp only [List.getElem?_toArray, List.getElem?_cons_zero, List.getElem?_cons_succ] at cr0
  have mr1 := CellsAt.frozen (Fr_1) 1
  have cr1 := CellsAt.cell (Fr_1) 1
  simp only [List.getElem?_toArray, List.getElem?_cons_zero, List.getElem?_cons_succ] at cr1
  have mr2 := CellsAt.frozen (Fr_1) 2
  have cr2 := CellsAt.cell (Fr_1) 2
  simp only [List.getElem?_toArray, List.getElem?_cons_zero, List.getElem?_cons_succ] at cr2
  have mr3 := CellsAt.frozen (Fr_1) 3
  have cr3 := CellsAt.cell (Fr_1) 3
  simp only [List.getElem?_toArray, List.getElem?_cons_zero, List.getElem?_cons_succ] at cr3
  have mr4 := CellsAt.frozen (Fr_1) 4
  have cr4 := CellsAt.cell (Fr_1) 4
  simp only [List.getElem?_toArray, List.getElem?_cons_zero, List.getElem?_cons_succ] at cr4
  have mr5 := CellsAt.frozen (Fr_1) 5
  have cr5 := CellsAt.cell (Fr_1) 5
  simp only [List.getElem?_toArray, List.getElem?_cons_zero, List.getElem?_cons_succ] at cr5
  have mr6 := CellsAt.frozen (Fr_1) 6
  have cr6 := CellsAt.cell (Fr_1) 6
  simp only [List.getElem?_toArray, List.getElem?_cons_zero, List.getElem?_cons_succ] at cr6
  have mr7 := CellsAt.frozen (Fr_1) 7
  have cr7 := CellsAt.cell (Fr_1) 7
  simp only [List.getElem?_toArray, List.getElem?_cons_zero, List.getElem?_cons_succ] at cr7
  go_wp2_with fail
  clear ch0 ch1 ch2 mr0 cr0 mr1 cr1 mr2 cr2 mr3 cr3 mr4 cr4 mr5 cr5 mr6 cr6 mr7 cr7
  obtain ⟨uf, hqp1⟩ : ∃ zz, zz = ((((((((w1.setCell ⟨w.heap.size + 1 + 1 + 1 + 1 + 1 + 1, 0, none⟩ (.int .i64 0)).setCell ⟨w.heap.size + 1 + 1 + 1 + 1 + 1 + 1, 1, none⟩ (.int .i64 0)).setCell ⟨w.heap.size + 1 + 1 + 1 + 1 + 1 + 1, 2, none⟩ (.int .i64 0)).setCell ⟨w.heap.size + 1 + 1 + 1 + 1 + 1 + 1, 3, none⟩ (.int .i64 0)).setCell ⟨w.heap.size + 1 + 1 + 1 + 1 + 1 + 1, 4, none⟩ (.int .i64 0)).setCell ⟨w.heap.size + 1 + 1 + 1 + 1 + 1 + 1, 5, none⟩ (.int .i64 0)).setCell ⟨w.heap.size + 1 + 1 + 1 + 1 + 1 + 1, 6, none⟩ (.int .i64 0)).setCell ⟨w.heap.size + 1 + 1 + 1 + 1 + 1 + 1, 7, none⟩ (.int .i64 0)) := ⟨_, rfl⟩
  have Yr_p1 : CellsAt uf (w.heap.size + 1 + 1 + 1 + 1 + 1 + 1) 24 #[.int .i64 0, .int .i64 0, .int .i64 0, .int .i64 0, .int .i64 0, .int .i64 0, .int .i64 0, .int .i64 0] := by rw [hqp1]; first | exact CellsAt.set8 (Fr_1) _ _ _ _ _ _ _ _ | simpa using CellsAt.set8 (Fr_1) _ _ _ _ _ _ _ _
  have yp1 : Gr w uf := by rw [hqp1]; exact ((((((((z1).setCell (by first | omega | (simp only; omega)) _).setCell (by first | omega | (simp only; omega)) _).setCell (by first | omega | (simp only; omega)) _).setCell (by first | omega | (simp only; omega)) _).setCell (by first | omega | (simp only; omega)) _).setCell (by first | omega | (simp only; omega)) _).setCell (by first | omega | (simp only; omega)) _).setCell (by first | omega | (simp only; omega)) _
  rw [← hqp1]
  clear hqp1
  have cr0 := CellsAt.cell (Yr_p1) 0
  have cr1 := CellsAt.cell (Yr_p1) 1
  have cr2 := CellsAt.cell (Yr_p1) 2
  have cr3 := CellsAt.cell (Yr_p1) 3
  have cr4 := CellsAt.cell (Yr_p1) 4
  have cr5 := CellsAt.cell (Yr_p1) 5
  have cr6 := CellsAt.cell (Yr_p1) 6
  have cr7 := CellsAt.cell (Yr_p1) 7
  simp only [List.getElem?_toArray, List.getElem?_cons_zero, List.getElem?_cons_succ] at cr0 cr1 cr2 cr3 cr4 cr5 cr6 cr7
  refine bodyPost_ret (v := .tuple #[.agg #[.int .i64 0, .int .i64 0, .int .i64 0, .int .i64 0, .int .i64 0, .int .i64 0, .int .i64 0, .int .i64 0], .int .i64 1]) ?_ rfl ⟨rfl, yp1⟩
  simp [results, Try.results23, go_sem, *]

set_option maxHeartbeats 4000000 in
theorem sJoin_r1_of (b mo : Int) (inv : Bool) (ju jv jy jz ja jc : Gi) (HM : Hid (∀ W, Calls Try.prog 48 #[.agg #[.int .i64 b, .int .i64 mo, .bool inv]] W fun e w' => e = .returned (.bool true) ∧ Gr W w')) (HW : Hid (∀ W v, CxsAt W v [ju, jv, jy, jz] → Calls Try.prog 49 #[.int .i64 2147483648, v] W fun e w' => e = .returned (.bool false) ∧ Gr W w')) (w : World) :
    Calls Try.prog 23 #[.agg #[.int .i64 (ju).re, .int .i64 (ju).im], .agg #[.int .i64 (jv).re, .int .i64 (jv).im], .agg #[.int .i64 (jy).re, .int .i64 (jy).im], .agg #[.int .i64 (jz).re, .int .i64 (jz).im], .agg #[.int .i64 (ja).re, .int .i64 (ja).im], .agg #[.int .i64 (jc).re, .int .i64 (jc).im], .int .i64 b, .int .i64 mo, .bool inv] w fun e w' => e = .returned (.tuple #[.agg #[.int .i64 0, .int .i64 0, .int .i64 0, .int .i64 0, .int .i64 0, .int .i64 0, .int .i64 0, .int .i64 0], .int .i64 2]) ∧ Gr w w' := by
  go_enter Try.func23, Try.ntmps23
  go_wp2_with fail
  obtain ⟨u0, hU⟩ : ∃ uu, uu = ((((((((w.alloc (.cells #[.int .i64 ju.re, .int .i64 ju.im] 23)).alloc (.cells #[.int .i64 jv.re, .int .i64 jv.im] 23)).alloc (.cells #[.int .i64 jy.re, .int .i64 jy.im] 23)).alloc (.cells #[.int .i64 jz.re, .int .i64 jz.im] 23)).alloc (.cells #[.int .i64 ja.re, .int .i64 ja.im] 23)).alloc (.cells #[.int .i64 jc.re, .int .i64 jc.im] 23)).alloc (.cells #[.int .i64 0, .int .i64 0, .int .i64 0, .int .i64 0, .int .i64 0, .int .i64 0, .int .i64 0, .int .i64 0] 24)).alloc (.cells #[.int .i64 b, .int .i64 mo, .bool inv] 80)) := ⟨_, rfl⟩
  have gu : Gr w u0 := by rw [hU]; exact ((((((((Gr.refl w).alloc _ _).alloc _ _).alloc _ _).alloc _ _).alloc _ _).alloc _ _).alloc _ _).alloc _ _
  have R0 : CellsAt u0 (w.heap.size) 23 #[.int .i64 ju.re, .int .i64 ju.im] := by
    rw [hU]
    have := ((((((((CellsAt.new w 23 #[.int .i64 ju.re, .int .i64 ju.im]).alloc (.cells #[.int .i64 jv.re, .int .i64 jv.im] 23)).alloc (.cells #[.int .i64 jy.re, .int .i64 jy.im] 23)).alloc (.cells #[.int .i64 jz.re, .int .i64 jz.im] 23)).alloc (.cells #[.int .i64 ja.re, .int .i64 ja.im] 23)).alloc (.cells #[.int .i64 jc.re, .int .i64 jc.im] 23)).alloc (.cells #[.int .i64 0, .int .i64 0, .int .i64 0, .int .i64 0, .int .i64 0, .int .i64 0, .int .i64 0, .int .i64 0] 24)).alloc (.cells #[.int .i64 b, .int .i64 mo, .bool inv] 80))
    simpa only [World.size_alloc] using this
  have R1 : CellsAt u0 (w.heap.size + 1) 23 #[.int .i64 jv.re, .int .i64 jv.im] := by
    rw [hU]
    have := (((((((CellsAt.new (w.alloc (.cells #[.int .i64 ju.re, .int .i64 ju.im] 23)) 23 #[.int .i64 jv.re, .int .i64 jv.im]).alloc (.cells #[.int .i64 jy.re, .int .i64 jy.im] 23)).alloc (.cells #[.int .i64 jz.re, .int .i64 jz.im] 23)).alloc (.cells #[.int .i64 ja.re, .int .i64 ja.im] 23)).alloc (.cells #[.int .i64 jc.re, .int .i64 jc.im] 23)).alloc (.cells #[.int .i64 0, .int .i64 0, .int .i64 0, .int .i64 0, .int .i64 0, .int .i64 0, .int .i64 0, .int .i64 0] 24)).alloc (.cells #[.int .i64 b, .int .i64 mo, .bool inv] 80))
    simpa only [World.size_alloc] using this
  have R2 : CellsAt u0 (w.heap.size + 1 + 1) 23 #[.int .i64 jy.re, .int .i64 jy.im] := by
    rw [hU]
    have := ((((((CellsAt.new ((w.alloc (.cells #[.int .i64 ju.re, .int .i64 ju.im] 23)).alloc (.cells #[.int .i64 jv.re, .int .i64 jv.im] 23)) 23 #[.int .i64 jy.re, .int .i64 jy.im]).alloc (.cells #[.int .i64 jz.re, .int .i64 jz.im] 23)).alloc (.cells #[.int .i64 ja.re, .int .i64 ja.im] 23)).alloc (.cells #[.int .i64 jc.re, .int .i64 jc.im] 23)).alloc (.cells #[.int .i64 0, .int .i64 0, .int .i64 0, .int .i64 0, .int .i64 0, .int .i64 0, .int .i64 0, .int .i64 0] 24)).alloc (.cells #[.int .i64 b, .int .i64 mo, .bool inv] 80))
    simpa only [World.size_alloc] using this
  have R3 : CellsAt u0 (w.heap.size + 1 + 1 + 1) 23 #[.int .i64 jz.re, .int .i64 jz.im] := by
    rw [hU]
    have := (((((CellsAt.new (((w.alloc (.cells #[.int .i64 ju.re, .int .i64 ju.im] 23)).alloc (.cells #[.int .i64 jv.re, .int .i64 jv.im] 23)).alloc (.cells #[.int .i64 jy.re, .int .i64 jy.im] 23)) 23 #[.int .i64 jz.re, .int .i64 jz.im]).alloc (.cells #[.int .i64 ja.re, .int .i64 ja.im] 23)).alloc (.cells #[.int .i64 jc.re, .int .i64 jc.im] 23)).alloc (.cells #[.int .i64 0, .int .i64 0, .int .i64 0, .int .i64 0, .int .i64 0, .int .i64 0, .int .i64 0, .int .i64 0] 24)).alloc (.cells #[.int .i64 b, .int .i64 mo, .bool inv] 80))
    simpa only [World.size_alloc] using this
  have R4 : CellsAt u0 (w.heap.size + 1 + 1 + 1 + 1) 23 #[.int .i64 ja.re, .int .i64 ja.im] := by
    rw [hU]
    have := ((((CellsAt.new ((((w.alloc (.cells #[.int .i64 ju.re, .int .i64 ju.im] 23)).alloc (.cells #[.int .i64 jv.re, .int .i64 jv.im] 23)).alloc (.cells #[.int .i64 jy.re, .int .i64 jy.im] 23)).alloc (.cells #[.int .i64 jz.re, .int .i64 jz.im] 23)) 23 #[.int .i64 ja.re, .int .i64 ja.im]).alloc (.cells #[.int .i64 jc.re, .int .i64 jc.im] 23)).alloc (.cells #[.int .i64 0, .int .i64 0, .int .i64 0, .int .i64 0, .int .i64 0, .int .i64 0, .int .i64 0, .int .i64 0] 24)).alloc (.cells #[.int .i64 b, .int .i64 mo, .bool inv] 80))
    simpa only [World.size_alloc] using this
  have R5 : CellsAt u0 (w.heap.size + 1 + 1 + 1 + 1 + 1) 23 #[.int .i64 jc.re, .int .i64 jc.im] := by
    rw [hU]
    have := (((CellsAt.new (((((w.alloc (.cells #[.int .i64 ju.re, .int .i64 ju.im] 23)).alloc (.cells #[.int .i64 jv.re, .int .i64 jv.im] 23)).alloc (.cells #[.int .i64 jy.re, .int .i64 jy.im] 23)).alloc (.cells #[.int .i64 jz.re, .int .i64 jz.im] 23)).alloc (.cells #[.int .i64 ja.re, .int .i64 ja.im] 23)) 23 #[.int .i64 jc.re, .int .i64 jc.im]).alloc (.cells #[.int .i64 0, .int .i64 0, .int .i64 0, .int .i64 0, .int .i64 0, .int .i64 0, .int .i64 0, .int .i64 0] 24)).alloc (.cells #[.int .i64 b, .int .i64 mo, .bool inv] 80))
    simpa only [World.size_alloc] using this
  have R6 : CellsAt u0 (w.heap.size + 1 + 1 + 1 + 1 + 1 + 1) 24 #[.int .i64 0, .int .i64 0, .int .i64 0, .int .i64 0, .int .i64 0, .int .i64 0, .int .i64 0, .int .i64 0] := by
    rw [hU]
    have := ((CellsAt.new ((((((w.alloc (.cells #[.int .i64 ju.re, .int .i64 ju.im] 23)).alloc (.cells #[.int .i64 jv.re, .int .i64 jv.im] 23)).alloc (.cells #[.int .i64 jy.re, .int .i64 jy.im] 23)).alloc (.cells #[.int .i64 jz.re, .int .i64 jz.im] 23)).alloc (.cells #[.int .i64 ja.re, .int .i64 ja.im] 23)).alloc (.cells #[.int .i64 jc.re, .int .i64 jc.im] 23)) 24 #[.int .i64 0, .int .i64 0, .int .i64 0, .int .i64 0, .int .i64 0, .int .i64 0, .int .i64 0, .int .i64 0]).alloc (.cells #[.int .i64 b, .int .i64 mo, .bool inv] 80))
    simpa only [World.size_alloc] using this
  have R7 : CellsAt u0 (w.heap.size + 1 + 1 + 1 + 1 + 1 + 1 + 1) 80 #[.int .i64 b, .int .i64 mo, .bool inv] := by
    rw [hU]
    have := (CellsAt.new (((((((w.alloc (.cells #[.int .i64 ju.re, .int .i64 ju.im] 23)).alloc (.cells #[.int .i64 jv.re, .int .i64 jv.im] 23)).alloc (.cells #[.int .i64 jy.re, .int .i64 jy.im] 23)).alloc (.cells #[.int .i64 jz.re, .int .i64 jz.im] 23)).alloc (.cells #[.int .i64 ja.re, .int .i64 ja.im] 23)).alloc (.cells #[.int .i64 jc.re, .int .i64 jc.im] 23)).alloc (.cells #[.int .i64 0, .int .i64 0, .int .i64 0, .int .i64 0, .int .i64 0, .int .i64 0, .int .i64 0, .int .i64 0] 24)) 80 #[.int .i64 b, .int .i64 mo, .bool inv])
    simpa only [World.size_alloc] using this
  rw [← hU]
  clear hU
  have lu := R0.lt
  have lv := R1.lt
  have ly := R2.lt
  have lz := R3.lt
  have la := R4.lt
  have lc := R5.lt
  have lr := R6.lt
  have lh := R7.lt
  refine (HM.out _).mono ?_
  rintro e w1 ⟨rfl, g1⟩
  have Fu_1 := CellsAt.gr (R0) g1
  have lu_1 := CellsAt.lt (Fu_1)
  have Fv_1 := CellsAt.gr (R1) g1
  have lv_1 := CellsAt.lt (Fv_1)
  have Fy_1 := CellsAt.gr (R2) g1
  have ly_1 := CellsAt.lt (Fy_1)
  have Fz_1 := CellsAt.gr (R3) g1
  have lz_1 := CellsAt.lt (Fz_1)
  have Fa_1 := CellsAt.gr (R4) g1
  have la_1 := CellsAt.lt (Fa_1)
  have Fc_1 := CellsAt.gr (R5) g1
  have lc_1 := CellsAt.lt (Fc_1)
  have Fr_1 := CellsAt.gr (R6) g1
  have lr_1 := CellsAt.lt (Fr_1)
  have Fh_1 := CellsAt.gr (R7) g1
  have lh_1 := CellsAt.lt (Fh_1)
  have z1 := (gu).trans g1
  clear R0 R1 R2 R3 R4 R5 R6 R7 gu g1
  have ch0 := CellsAt.cell (Fh_1) 0
  have ch1 := CellsAt.cell (Fh_1) 1
  have ch2 := CellsAt.cell (Fh_1) 2
  simp only [List.getElem?_toArray, List.getElem?_cons_zero, List.getElem?_cons_succ] at ch0 ch1 ch2
  go_wp2_with fail
  clear ch0 ch1 ch2
  obtain ⟨v1, hqp1⟩ : ∃ zz, zz = w1 := ⟨_, rfl⟩
  have Yu_p1 : CellsAt v1 (w.heap.size) 23 #[.int .i64 ju.re, .int .i64 ju.im] := by rw [hqp1]; first | exact Fu_1 | simpa using Fu_1
  have Yv_p1 : CellsAt v1 (w.heap.size + 1) 23 #[.int .i64 jv.re, .int .i64 jv.im] := by rw [hqp1]; first | exact Fv_1 | simpa using Fv_1
  have Yy_p1 : CellsAt v1 (w.heap.size + 1 + 1) 23 #[.int .i64 jy.re, .int .i64 jy.im] := by rw [hqp1]; first | exact Fy_1 | simpa using Fy_1
  have Yz_p1 : CellsAt v1 (w.heap.size + 1 + 1 + 1) 23 #[.int .i64 jz.re, .int .i64 jz.im] := by rw [hqp1]; first | exact Fz_1 | simpa using Fz_1
  have Ya_p1 : CellsAt v1 (w.heap.size + 1 + 1 + 1 + 1) 23 #[.int .i64 ja.re, .int .i64 ja.im] := by rw [hqp1]; first | exact Fa_1 | simpa using Fa_1
  have Yc_p1 : CellsAt v1 (w.heap.size + 1 + 1 + 1 + 1 + 1) 23 #[.int .i64 jc.re, .int .i64 jc.im] := by rw [hqp1]; first | exact Fc_1 | simpa using Fc_1
  have Yr_p1 : CellsAt v1 (w.heap.size + 1 + 1 + 1 + 1 + 1 + 1) 24 #[.int .i64 0, .int .i64 0, .int .i64 0, .int .i64 0, .int .i64 0, .int .i64 0, .int .i64 0, .int .i64 0] := by rw [hqp1]; first | exact Fr_1 | simpa using Fr_1
  have Yh_p1 : CellsAt v1 (w.heap.size + 1 + 1 + 1 + 1 + 1 + 1 + 1) 80 #[.int .i64 b, .int .i64 mo, .bool inv] := by rw [hqp1]; first | exact Fh_1 | simpa using Fh_1
  have yp1 : Gr w v1 := by rw [hqp1]; exact z1
  rw [← hqp1]
  clear hqp1
  have KS : ∀ W, Gr v1 W → (W.cell? ⟨w.heap.size, 0, none⟩ = some (.int .i64 ju.re) ∧ W.cell? ⟨w.heap.size, 1, none⟩ = some (.int .i64 ju.im) ∧ W.cell? ⟨w.heap.size + 1, 0, none⟩ = some (.int .i64 jv.re) ∧ W.cell? ⟨w.heap.size + 1, 1, none⟩ = some (.int .i64 jv.im) ∧ W.cell? ⟨w.heap.size + 1 + 1, 0, none⟩ = some (.int .i64 jy.re) ∧ W.cell? ⟨w.heap.size + 1 + 1, 1, none⟩ = some (.int .i64 jy.im) ∧ W.cell? ⟨w.heap.size + 1 + 1 + 1, 0, none⟩ = some (.int .i64 jz.re) ∧ W.cell? ⟨w.heap.size + 1 + 1 + 1, 1, none⟩ = some (.int .i64 jz.im)) := fun W hG => ⟨(CellsAt.gr Yu_p1 hG).cell 0, (CellsAt.gr Yu_p1 hG).cell 1, (CellsAt.gr Yv_p1 hG).cell 0, (CellsAt.gr Yv_p1 hG).cell 1, (CellsAt.gr Yy_p1 hG).cell 0, (CellsAt.gr Yy_p1 hG).cell 1, (CellsAt.gr Yz_p1 hG).cell 0, (CellsAt.gr Yz_p1 hG).cell 1⟩
  have hclG := gr_closed v1
  try simp only [List.append_eq, List.cons_append, List.nil_append]
  refine wp_region_grow (S := Gr v1) rfl (Gr.drew (Gr.refl _)) ?_
  refine wpG_take (i := 0) (v := ?_) hclG rfl (by kernel_rfl) (by kernel_rfl) (by kernel_rfl) (fun _ _ _ h => h) (by rfl) ?_ ?_
  rotate_left
  · (intro w' hSw; have hk := KS w' hSw; go_split_ands; go_simp; try with_reducible rfl)
  try simp only [Act.put, List.setIfInBounds_toArray, List.set_cons_zero, List.set_cons_succ, List.getElem_toArray, List.getElem_cons_zero, List.getElem_cons_succ]
  refine wpG_take (i := 1) (v := ?_) hclG rfl (by kernel_rfl) (by kernel_rfl) (by kernel_rfl) (fun _ _ _ h => h) (by rfl) ?_ ?_
  rotate_left
  · (intro w' hSw; have hk := KS w' hSw; go_split_ands; go_simp; try with_reducible rfl)
  try simp only [Act.put, List.setIfInBounds_toArray, List.set_cons_zero, List.set_cons_succ, List.getElem_toArray, List.getElem_cons_zero, List.getElem_cons_succ]
  refine wpG_take (i := 2) (v := ?_) hclG rfl (by kernel_rfl) (by kernel_rfl) (by kernel_rfl) (fun _ _ _ h => h) (by rfl) ?_ ?_
  rotate_left
  · (intro w' hSw; have hk := KS w' hSw; go_split_ands; go_simp; try with_reducible rfl)
  try simp only [Act.put, List.setIfInBounds_toArray, List.set_cons_zero, List.set_cons_succ, List.getElem_toArray, List.getElem_cons_zero, List.getElem_cons_succ]
  refine wpG_take (i := 3) (v := ?_) hclG rfl (by kernel_rfl) (by kernel_rfl) (by kernel_rfl) (fun _ _ _ h => h) (by rfl) ?_ ?_
  rotate_left
  · (intro w' hSw; have hk := KS w' hSw; go_split_ands; go_simp; try with_reducible rfl)
  try simp only [Act.put, List.setIfInBounds_toArray, List.set_cons_zero, List.set_cons_succ, List.getElem_toArray, List.getElem_cons_zero, List.getElem_cons_succ]
  refine wpG_ready (rs := [4]) (by kernel_rfl) (by simp) (fun w2 g2 s2 => ?_)
  refine AllG.cons rfl (fun K hK => ?_) AllG.nil
  replace g2 := (Gr.drew (Gr.refl v1)).trans g2
  have Fu_2 := CellsAt.gr (Yu_p1) g2
  have lu_2 := CellsAt.lt (Fu_2)
  have Fv_2 := CellsAt.gr (Yv_p1) g2
  have lv_2 := CellsAt.lt (Fv_2)
  have Fy_2 := CellsAt.gr (Yy_p1) g2
  have ly_2 := CellsAt.lt (Fy_2)
  have Fz_2 := CellsAt.gr (Yz_p1) g2
  have lz_2 := CellsAt.lt (Fz_2)
  have Fa_2 := CellsAt.gr (Ya_p1) g2
  have la_2 := CellsAt.lt (Fa_2)
  have Fc_2 := CellsAt.gr (Yc_p1) g2
  have lc_2 := CellsAt.lt (Fc_2)
  have Fr_2 := CellsAt.gr (Yr_p1) g2
  have lr_2 := CellsAt.lt (Fr_2)
  have Fh_2 := CellsAt.gr (Yh_p1) g2
  have lh_2 := CellsAt.lt (Fh_2)
  have z2 := (yp1).trans g2
  clear Yu_p1 Yv_p1 Yy_p1 Yz_p1 Ya_p1 Yc_p1 Yr_p1 Yh_p1 yp1 g2
  go_simp
  refine hK.out _ _ ?_ ?_
  · exact Gr.alloc s2 _ _
  clear hK K
  try simp only [Act.put, List.setIfInBounds_toArray, List.set_cons_zero, List.set_cons_succ, List.getElem_toArray, List.getElem_cons_zero, List.getElem_cons_succ]
  refine wpG_ready (rs := [5]) (by kernel_rfl) (by simp) (fun w3 g3 s3 => ?_)
  refine AllG.cons rfl (fun K hK => ?_) AllG.nil
  have Fu_3 := CellsAt.gr ((Fu_2).alloc _) g3
  have lu_3 := CellsAt.lt (Fu_3)
  have Fv_3 := CellsAt.gr ((Fv_2).alloc _) g3
  have lv_3 := CellsAt.lt (Fv_3)
  have Fy_3 := CellsAt.gr ((Fy_2).alloc _) g3
  have ly_3 := CellsAt.lt (Fy_3)
  have Fz_3 := CellsAt.gr ((Fz_2).alloc _) g3
  have lz_3 := CellsAt.lt (Fz_3)
  have Fa_3 := CellsAt.gr ((Fa_2).alloc _) g3
  have la_3 := CellsAt.lt (Fa_3)
  have Fc_3 := CellsAt.gr ((Fc_2).alloc _) g3
  have lc_3 := CellsAt.lt (Fc_3)
  have Fr_3 := CellsAt.gr ((Fr_2).alloc _) g3
  have lr_3 := CellsAt.lt (Fr_3)
  have Fh_3 := CellsAt.gr ((Fh_2).alloc _) g3
  have lh_3 := CellsAt.lt (Fh_3)
  have Fs4_3 := CellsAt.gr (CellsAt.new w2 23 #[.int .i64 ju.re, .int .i64 ju.im, .int .i64 jv.re, .int .i64 jv.im, .int .i64 jy.re, .int .i64 jy.im, .int .i64 jz.re, .int .i64 jz.im]) g3
  have ls4_3 := CellsAt.lt (Fs4_3)
  have z3 := ((z2).alloc _ _).trans g3
  clear g3
  go_simp
  refine (HW.out _ _ (CxsAt.four Fs4_3)).mono ?_
  rintro e w4 ⟨rfl, g4⟩
  have t4 := Gr.trans s3 g4
  have Fu_4 := CellsAt.gr (Fu_3) g4
  have lu_4 := CellsAt.lt (Fu_4)
  have Fv_4 := CellsAt.gr (Fv_3) g4
  have lv_4 := CellsAt.lt (Fv_4)
  have Fy_4 := CellsAt.gr (Fy_3) g4
  have ly_4 := CellsAt.lt (Fy_4)
  have Fz_4 := CellsAt.gr (Fz_3) g4
  have lz_4 := CellsAt.lt (Fz_4)
  have Fa_4 := CellsAt.gr (Fa_3) g4
  have la_4 := CellsAt.lt (Fa_4)
  have Fc_4 := CellsAt.gr (Fc_3) g4
  have lc_4 := CellsAt.lt (Fc_4)
  have Fr_4 := CellsAt.gr (Fr_3) g4
  have lr_4 := CellsAt.lt (Fr_4)
  have Fh_4 := CellsAt.gr (Fh_3) g4
  have lh_4 := CellsAt.lt (Fh_4)
  have Fs4_4 := CellsAt.gr (Fs4_3) g4
  have ls4_4 := CellsAt.lt (Fs4_4)
  have z4 := (z3).trans g4
  clear Fu_3 Fv_3 Fy_3 Fz_3 Fa_3 Fc_3 Fr_3 Fh_3 Fs4_3 z3 g4
  refine hK.out _ _ ?_ ?_
  · exact t4
  clear hK K
  try simp only [Act.put, List.setIfInBounds_toArray, List.set_cons_zero, List.set_cons_succ, List.getElem_toArray, List.getElem_cons_zero, List.getElem_cons_succ]
  refine wpG_take (i := 6) (v := ?_) hclG rfl (by kernel_rfl) (by kernel_rfl) (by kernel_rfl) (fun _ _ _ h => h) (by rfl) ?_ ?_
  rotate_left
  · (intro w' hSw; go_simp; try with_reducible rfl)
  try simp only [Act.put, List.setIfInBounds_toArray, List.set_cons_zero, List.set_cons_succ, List.getElem_toArray, List.getElem_cons_zero, List.getElem_cons_succ]
  refine wpG_take (i := 7) (v := ?_) hclG rfl (by kernel_rfl) (by kernel_rfl) (by kernel_rfl) (fun _ _ _ h => h) (by rfl) ?_ ?_
  rotate_left
  · (intro w' hSw; go_simp; try with_reducible rfl)
  try simp only [Act.put, List.setIfInBounds_toArray, List.set_cons_zero, List.set_cons_succ, List.getElem_toArray, List.getElem_cons_zero, List.getElem_cons_succ]
  refine wpG_skip (i := 8) hclG rfl (by kernel_rfl) (by kernel_rfl) (by kernel_rfl) (fun _ _ _ h => h) (by rfl) ?_
  try simp only [Act.put, List.setIfInBounds_toArray, List.set_cons_zero, List.set_cons_succ, List.getElem_toArray, List.getElem_cons_zero, List.getElem_cons_succ]
  refine wpG_skip (i := 9) hclG rfl (by kernel_rfl) (by kernel_rfl) (by kernel_rfl) (fun _ _ _ h => h) (by rfl) ?_
  try simp only [Act.put, List.setIfInBounds_toArray, List.set_cons_zero, List.set_cons_succ, List.getElem_toArray, List.getElem_cons_zero, List.getElem_cons_succ]
  refine wpG_skip (i := 10) hclG rfl (by kernel_rfl) (by kernel_rfl) (by kernel_rfl) (fun _ _ _ h => h) (by rfl) ?_
  try simp only [Act.put, List.setIfInBounds_toArray, List.set_cons_zero, List.set_cons_succ, List.getElem_toArray, List.getElem_cons_zero, List.getElem_cons_succ]
  refine wpG_skip (i := 11) hclG rfl (by kernel_rfl) (by kernel_rfl) (by kernel_rfl) (fun _ _ _ h => h) (by rfl) ?_
  try simp only [Act.put, List.setIfInBounds_toArray, List.set_cons_zero, List.set_cons_succ, List.getElem_toArray, List.getElem_cons_zero, List.getElem_cons_succ]
  refine wpG_skip (i := 12) hclG rfl (by kernel_rfl) (by kernel_rfl) (by kernel_rfl) (fun _ _ _ h => h) (by rfl) ?_
  try simp only [Act.put, List.setIfInBounds_toArray, List.set_cons_zero, List.set_cons_succ, List.getElem_toArray, List.getElem_cons_zero, List.getElem_cons_succ]
  refine wpG_skip (i := 13) hclG rfl (by kernel_rfl) (by kernel_rfl) (by kernel_rfl) (fun _ _ _ h => h) (by rfl) ?_
  try simp only [Act.put, List.setIfInBounds_toArray, List.set_cons_zero, List.set_cons_succ, List.getElem_toArray, List.getElem_cons_zero, List.getElem_cons_succ]
  refine wpG_skip (i := 14) hclG rfl (by kernel_rfl) (by kernel_rfl) (by kernel_rfl) (fun _ _ _ h => h) (by rfl) ?_
  try simp only [Act.put, List.setIfInBounds_toArray, List.set_cons_zero, List.set_cons_succ, List.getElem_toArray, List.getElem_cons_zero, List.getElem_cons_succ]
  refine wpG_take (i := 15) (v := ?_) hclG rfl (by kernel_rfl) (by kernel_rfl) (by kernel_rfl) (fun _ _ _ h => h) (by rfl) ?_ ?_
  rotate_left
  · (intro w' hSw; go_simp; try with_reducible rfl)
  try simp only [Act.put, List.setIfInBounds_toArray, List.set_cons_zero, List.set_cons_succ, List.getElem_toArray, List.getElem_cons_zero, List.getElem_cons_succ]
  refine wpG_done (by kernel_rfl) (fun w5 g5 => ?_) _
  have Fu_5 := CellsAt.gr (Fu_4) g5
  have lu_5 := CellsAt.lt (Fu_5)
  have Fv_5 := CellsAt.gr (Fv_4) g5
  have lv_5 := CellsAt.lt (Fv_5)
  have Fy_5 := CellsAt.gr (Fy_4) g5
  have ly_5 := CellsAt.lt (Fy_5)
  have Fz_5 := CellsAt.gr (Fz_4) g5
  have lz_5 := CellsAt.lt (Fz_5)
  have Fa_5 := CellsAt.gr (Fa_4) g5
  have la_5 := CellsAt.lt (Fa_5)
  have Fc_5 := CellsAt.gr (Fc_4) g5
  have lc_5 := CellsAt.lt (Fc_5)
  have Fr_5 := CellsAt.gr (Fr_4) g5
  have lr_5 := CellsAt.lt (Fr_5)
  have Fh_5 := CellsAt.gr (Fh_4) g5
  have lh_5 := CellsAt.lt (Fh_5)
  have Fs4_5 := CellsAt.gr (Fs4_4) g5
  have ls4_5 := CellsAt.lt (Fs4_5)
  have z5 := (z4).trans g5
  clear Fu_4 Fv_4 Fy_4 Fz_4 Fa_4 Fc_4 Fr_4 Fh_4 Fs4_4 z4 g5
  clear hclG KS
  have mr0 := CellsAt.frozen (Fr_5) 0
  have cr0 := CellsAt.cell (Fr_5) 0
  simp only [List.getElem?_toArray, List.getElem?_cons_zero, List.getElem?_cons_succ] at cr0
  have mr1 := CellsAt.frozen (Fr_5) 1
  have cr1 := CellsAt.cell (Fr_5) 1
  simp only [List.getElem?_toArray, List.getElem?_cons_zero, List.getElem?_cons_succ] at cr1
  have mr2 := CellsAt.frozen (Fr_5) 2
  have cr2 := CellsAt.cell (Fr_5) 2
  simp only [List.getElem?_toArray, List.getElem?_cons_zero, List.getElem?_cons_succ] at cr2
  have mr3 := CellsAt.frozen (Fr_5) 3
  have cr3 := CellsAt.cell (Fr_5) 3
  simp only [List.getElem?_toArray, List.getElem?_cons_zero, List.getElem?_cons_succ] at cr3
  have mr4 := CellsAt.frozen (Fr_5) 4
  have cr4 := CellsAt.cell (Fr_5) 4
  simp only [List.getElem?_toArray, List.getElem?_cons_zero, List.getElem?_cons_succ] at cr4
  have mr5 := CellsAt.frozen (Fr_5) 5
  have cr5 := CellsAt.cell (Fr_5) 5
  simp only [List.getElem?_toArray, List.getElem?_cons_zero, List.getElem?_cons_succ] at cr5
  have mr6 := CellsAt.frozen (Fr_5) 6
  have cr6 := CellsAt.cell (Fr_5) 6
  simp only [List.getElem?_toArray, List.getElem?_cons_zero, List.getElem?_cons_succ] at cr6
  have mr7 := CellsAt.frozen (Fr_5) 7
  have cr7 := CellsAt.cell (Fr_5) 7
  simp only [List.getElem?_toArray, List.getElem?_cons_zero, List.getElem?_cons_succ] at cr7
  go_wp2_with fail
  clear mr0 cr0 mr1 cr1 mr2 cr2 mr3 cr3 mr4 cr4 mr5 cr5 mr6 cr6 mr7 cr7
  obtain ⟨uf, hqp2⟩ : ∃ zz, zz = ((((((((w5.setCell ⟨w.heap.size + 1 + 1 + 1 + 1 + 1 + 1, 0, none⟩ (.int .i64 0)).setCell ⟨w.heap.size + 1 + 1 + 1 + 1 + 1 + 1, 1, none⟩ (.int .i64 0)).setCell ⟨w.heap.size + 1 + 1 + 1 + 1 + 1 + 1, 2, none⟩ (.int .i64 0)).setCell ⟨w.heap.size + 1 + 1 + 1 + 1 + 1 + 1, 3, none⟩ (.int .i64 0)).setCell ⟨w.heap.size + 1 + 1 + 1 + 1 + 1 + 1, 4, none⟩ (.int .i64 0)).setCell ⟨w.heap.size + 1 + 1 + 1 + 1 + 1 + 1, 5, none⟩ (.int .i64 0)).setCell ⟨w.heap.size + 1 + 1 + 1 + 1 + 1 + 1, 6, none⟩ (.int .i64 0)).setCell ⟨w.heap.size + 1 + 1 + 1 + 1 + 1 + 1, 7, none⟩ (.int .i64 0)) := ⟨_, rfl⟩
  have Yr_p2 : CellsAt uf (w.heap.size + 1 + 1 + 1 + 1 + 1 + 1) 24 #[.int .i64 0, .int .i64 0, .int .i64 0, .int .i64 0, .int .i64 0, .int .i64 0, .int .i64 0, .int .i64 0] := by rw [hqp2]; first | exact CellsAt.set8 (Fr_5) _ _ _ _ _ _ _ _ | simpa using CellsAt.set8 (Fr_5) _ _ _ _ _ _ _ _
  have yp2 : Gr w uf := by rw [hqp2]; exact ((((((((z5).setCell (by first | omega | (simp only; omega)) _).setCell (by first | omega | (simp only; omega)) _).setCell (by first | omega | (simp only; omega)) _).setCell (by first | omega | (simp only; omega)) _).setCell (by first | omega | (simp only; omega)) _).setCell (by first | omega | (simp only; omega)) _).setCell (by first | omega | (simp only; omega)) _).setCell (by first | omega | (simp only; omega)) _
  rw [← hqp2]
  clear hqp2
  have cr0 := CellsAt.cell (Yr_p2) 0
  have cr1 := CellsAt.cell (Yr_p2) 1
  have cr2 := CellsAt.cell (Yr_p2) 2
  have cr3 := CellsAt.cell (Yr_p2) 3
  have cr4 := CellsAt.cell (Yr_p2) 4
  have cr5 := CellsAt.cell (Yr_p2) 5
  have cr6 := CellsAt.cell (Yr_p2) 6
  have cr7 := CellsAt.cell (Yr_p2) 7
  simp only [List.getElem?_toArray, List.getElem?_cons_zero, List.getElem?_cons_succ] at cr0 cr1 cr2 cr3 cr4 cr5 cr6 cr7
  refine bodyPost_ret (v := .tuple #[.agg #[.int .i64 0, .int .i64 0, .int .i64 0, .int .i64 0, .int .i64 0, .int .i64 0, .int .i64 0, .int .i64 0], .int .i64 2]) ?_ rfl ⟨rfl, yp2⟩
  simp [results, Try.results23, go_sem, *]

set_option maxHeartbeats 4000000 in
theorem sJoin_r2_of (b mo : Int) (inv : Bool) (ju jv jy jz ja jc : Gi) (P : Int) (hP : IntKind.i64.wrap (2 ^ min b.toNat 64) = P) (hb0 : 0 ≤ b) (HM : Hid (∀ W, Calls Try.prog 48 #[.agg #[.int .i64 b, .int .i64 mo, .bool inv]] W fun e w' => e = .returned (.bool true) ∧ Gr W w')) (HW : Hid (∀ W v, CxsAt W v [ju, jv, jy, jz] → Calls Try.prog 49 #[.int .i64 2147483648, v] W fun e w' => e = .returned (.bool true) ∧ Gr W w')) (HV : Hid (∀ W v, CxsAt W v [ja, jc] → Calls Try.prog 49 #[.int .i64 P, v] W fun e w' => e = .returned (.bool false) ∧ Gr W w')) (w : World) :
    Calls Try.prog 23 #[.agg #[.int .i64 (ju).re, .int .i64 (ju).im], .agg #[.int .i64 (jv).re, .int .i64 (jv).im], .agg #[.int .i64 (jy).re, .int .i64 (jy).im], .agg #[.int .i64 (jz).re, .int .i64 (jz).im], .agg #[.int .i64 (ja).re, .int .i64 (ja).im], .agg #[.int .i64 (jc).re, .int .i64 (jc).im], .int .i64 b, .int .i64 mo, .bool inv] w fun e w' => e = .returned (.tuple #[.agg #[.int .i64 0, .int .i64 0, .int .i64 0, .int .i64 0, .int .i64 0, .int .i64 0, .int .i64 0, .int .i64 0], .int .i64 2]) ∧ Gr w w' := by
  go_enter Try.func23, Try.ntmps23
  go_wp2_with fail
  obtain ⟨u0, hU⟩ : ∃ uu, uu = ((((((((w.alloc (.cells #[.int .i64 ju.re, .int .i64 ju.im] 23)).alloc (.cells #[.int .i64 jv.re, .int .i64 jv.im] 23)).alloc (.cells #[.int .i64 jy.re, .int .i64 jy.im] 23)).alloc (.cells #[.int .i64 jz.re, .int .i64 jz.im] 23)).alloc (.cells #[.int .i64 ja.re, .int .i64 ja.im] 23)).alloc (.cells #[.int .i64 jc.re, .int .i64 jc.im] 23)).alloc (.cells #[.int .i64 0, .int .i64 0, .int .i64 0, .int .i64 0, .int .i64 0, .int .i64 0, .int .i64 0, .int .i64 0] 24)).alloc (.cells #[.int .i64 b, .int .i64 mo, .bool inv] 80)) := ⟨_, rfl⟩
  have gu : Gr w u0 := by rw [hU]; exact ((((((((Gr.refl w).alloc _ _).alloc _ _).alloc _ _).alloc _ _).alloc _ _).alloc _ _).alloc _ _).alloc _ _
  have R0 : CellsAt u0 (w.heap.size) 23 #[.int .i64 ju.re, .int .i64 ju.im] := by
    rw [hU]
    have := ((((((((CellsAt.new w 23 #[.int .i64 ju.re, .int .i64 ju.im]).alloc (.cells #[.int .i64 jv.re, .int .i64 jv.im] 23)).alloc (.cells #[.int .i64 jy.re, .int .i64 jy.im] 23)).alloc (.cells #[.int .i64 jz.re, .int .i64 jz.im] 23)).alloc (.cells #[.int .i64 ja.re, .int .i64 ja.im] 23)).alloc (.cells #[.int .i64 jc.re, .int .i64 jc.im] 23)).alloc (.cells #[.int .i64 0, .int .i64 0, .int .i64 0, .int .i64 0, .int .i64 0, .int .i64 0, .int .i64 0, .int .i64 0] 24)).alloc (.cells #[.int .i64 b, .int .i64 mo, .bool inv] 80))
    simpa only [World.size_alloc] using this
  have R1 : CellsAt u0 (w.heap.size + 1) 23 #[.int .i64 jv.re, .int .i64 jv.im] := by
    rw [hU]
    have := (((((((CellsAt.new (w.alloc (.cells #[.int .i64 ju.re, .int .i64 ju.im] 23)) 23 #[.int .i64 jv.re, .int .i64 jv.im]).alloc (.cells #[.int .i64 jy.re, .int .i64 jy.im] 23)).alloc (.cells #[.int .i64 jz.re, .int .i64 jz.im] 23)).alloc (.cells #[.int .i64 ja.re, .int .i64 ja.im] 23)).alloc (.cells #[.int .i64 jc.re, .int .i64 jc.im] 23)).alloc (.cells #[.int .i64 0, .int .i64 0, .int .i64 0, .int .i64 0, .int .i64 0, .int .i64 0, .int .i64 0, .int .i64 0] 24)).alloc (.cells #[.int .i64 b, .int .i64 mo, .bool inv] 80))
    simpa only [World.size_alloc] using this
  have R2 : CellsAt u0 (w.heap.size + 1 + 1) 23 #[.int .i64 jy.re, .int .i64 jy.im] := by
    rw [hU]
    have := ((((((CellsAt.new ((w.alloc (.cells #[.int .i64 ju.re, .int .i64 ju.im] 23)).alloc (.cells #[.int .i64 jv.re, .int .i64 jv.im] 23)) 23 #[.int .i64 jy.re, .int .i64 jy.im]).alloc (.cells #[.int .i64 jz.re, .int .i64 jz.im] 23)).alloc (.cells #[.int .i64 ja.re, .int .i64 ja.im] 23)).alloc (.cells #[.int .i64 jc.re, .int .i64 jc.im] 23)).alloc (.cells #[.int .i64 0, .int .i64 0, .int .i64 0, .int .i64 0, .int .i64 0, .int .i64 0, .int .i64 0, .int .i64 0] 24)).alloc (.cells #[.int .i64 b, .int .i64 mo, .bool inv] 80))
    simpa only [World.size_alloc] using this
  have R3 : CellsAt u0 (w.heap.size + 1 + 1 + 1) 23 #[.int .i64 jz.re, .int .i64 jz.im] := by
    rw [hU]
    have := (((((CellsAt.new (((w.alloc (.cells #[.int .i64 ju.re, .int .i64 ju.im] 23)).alloc (.cells #[.int .i64 jv.re, .int .i64 jv.im] 23)).alloc (.cells #[.int .i64 jy.re, .int .i64 jy.im] 23)) 23 #[.int .i64 jz.re, .int .i64 jz.im]).alloc (.cells #[.int .i64 ja.re, .int .i64 ja.im] 23)).alloc (.cells #[.int .i64 jc.re, .int .i64 jc.im] 23)).alloc (.cells #[.int .i64 0, .int .i64 0, .int .i64 0, .int .i64 0, .int .i64 0, .int .i64 0, .int .i64 0, .int .i64 0] 24)).alloc (.cells #[.int .i64 b, .int .i64 mo, .bool inv] 80))
    simpa only [World.size_alloc] using this
  have R4 : CellsAt u0 (w.heap.size + 1 + 1 + 1 + 1) 23 #[.int .i64 ja.re, .int .i64 ja.im] := by
    rw [hU]
    have := ((((CellsAt.new ((((w.alloc (.cells #[.int .i64 ju.re, .int .i64 ju.im] 23)).alloc (.cells #[.int .i64 jv.re, .int .i64 jv.im] 23)).alloc (.cells #[.int .i64 jy.re, .int .i64 jy.im] 23)).alloc (.cells #[.int .i64 jz.re, .int .i64 jz.im] 23)) 23 #[.int .i64 ja.re, .int .i64 ja.im]).alloc (.cells #[.int .i64 jc.re, .int .i64 jc.im] 23)).alloc (.cells #[.int .i64 0, .int .i64 0, .int .i64 0, .int .i64 0, .int .i64 0, .int .i64 0, .int .i64 0, .int .i64 0] 24)).alloc (.cells #[.int .i64 b, .int .i64 mo, .bool inv] 80))
    simpa only [World.size_alloc] using this
  have R5 : CellsAt u0 (w.heap.size + 1 + 1 + 1 + 1 + 1) 23 #[.int .i64 jc.re, .int .i64 jc.im] := by
    rw [hU]
    have := (((CellsAt.new (((((w.alloc (.cells #[.int .i64 ju.re, .int .i64 ju.im] 23)).alloc (.cells #[.int .i64 jv.re, .int .i64 jv.im] 23)).alloc (.cells #[.int .i64 jy.re, .int .i64 jy.im] 23)).alloc (.cells #[.int .i64 jz.re, .int .i64 jz.im] 23)).alloc (.cells #[.int .i64 ja.re, .int .i64 ja.im] 23)) 23 #[.int .i64 jc.re, .int .i64 jc.im]).alloc (.cells #[.int .i64 0, .int .i64 0, .int .i64 0, .int .i64 0, .int .i64 0, .int .i64 0, .int .i64 0, .int .i64 0] 24)).alloc (.cells #[.int .i64 b, .int .i64 mo, .bool inv] 80))
    simpa only [World.size_alloc] using this
  have R6 : CellsAt u0 (w.heap.size + 1 + 1 + 1 + 1 + 1 + 1) 24 #[.int .i64 0, .int .i64 0, .int .i64 0, .int .i64 0, .int .i64 0, .int .i64 0, .int .i64 0, .int .i64 0] := by
    rw [hU]
    have := ((CellsAt.new ((((((w.alloc (.cells #[.int .i64 ju.re, .int .i64 ju.im] 23)).alloc (.cells #[.int .i64 jv.re, .int .i64 jv.im] 23)).alloc (.cells #[.int .i64 jy.re, .int .i64 jy.im] 23)).alloc (.cells #[.int .i64 jz.re, .int .i64 jz.im] 23)).alloc (.cells #[.int .i64 ja.re, .int .i64 ja.im] 23)).alloc (.cells #[.int .i64 jc.re, .int .i64 jc.im] 23)) 24 #[.int .i64 0, .int .i64 0, .int .i64 0, .int .i64 0, .int .i64 0, .int .i64 0, .int .i64 0, .int .i64 0]).alloc (.cells #[.int .i64 b, .int .i64 mo, .bool inv] 80))
    simpa only [World.size_alloc] using this
  have R7 : CellsAt u0 (w.heap.size + 1 + 1 + 1 + 1 + 1 + 1 + 1) 80 #[.int .i64 b, .int .i64 mo, .bool inv] := by
    rw [hU]
    have := (CellsAt.new (((((((w.alloc (.cells #[.int .i64 ju.re, .int .i64 ju.im] 23)).alloc (.cells #[.int .i64 jv.re, .int .i64 jv.im] 23)).alloc (.cells #[.int .i64 jy.re, .int .i64 jy.im] 23)).alloc (.cells #[.int .i64 jz.re, .int .i64 jz.im] 23)).alloc (.cells #[.int .i64 ja.re, .int .i64 ja.im] 23)).alloc (.cells #[.int .i64 jc.re, .int .i64 jc.im] 23)).alloc (.cells #[.int .i64 0, .int .i64 0, .int .i64 0, .int .i64 0, .int .i64 0, .int .i64 0, .int .i64 0, .int .i64 0] 24)) 80 #[.int .i64 b, .int .i64 mo, .bool inv])
    simpa only [World.size_alloc] using this
  rw [← hU]
  clear hU
  have lu := R0.lt
  have lv := R1.lt
  have ly := R2.lt
  have lz := R3.lt
  have la := R4.lt
  have lc := R5.lt
  have lr := R6.lt
  have lh := R7.lt
  refine (HM.out _).mono ?_
  rintro e w1 ⟨rfl, g1⟩
  have Fu_1 := CellsAt.gr (R0) g1
  have lu_1 := CellsAt.lt (Fu_1)
  have Fv_1 := CellsAt.gr (R1) g1
  have lv_1 := CellsAt.lt (Fv_1)
  have Fy_1 := CellsAt.gr (R2) g1
  have ly_1 := CellsAt.lt (Fy_1)
  have Fz_1 := CellsAt.gr (R3) g1
  have lz_1 := CellsAt.lt (Fz_1)
  have Fa_1 := CellsAt.gr (R4) g1
  have la_1 := CellsAt.lt (Fa_1)
  have Fc_1 := CellsAt.gr (R5) g1
  have lc_1 := CellsAt.lt (Fc_1)
  have Fr_1 := CellsAt.gr (R6) g1
  have lr_1 := CellsAt.lt (Fr_1)
  have Fh_1 := CellsAt.gr (R7) g1
  have lh_1 := CellsAt.lt (Fh_1)
  have z1 := (gu).trans g1
  clear R0 R1 R2 R3 R4 R5 R6 R7 gu g1
  have ch0 := CellsAt.cell (Fh_1) 0
  have ch1 := CellsAt.cell (Fh_1) 1
  have ch2 := CellsAt.cell (Fh_1) 2
  simp only [List.getElem?_toArray, List.getElem?_cons_zero, List.getElem?_cons_succ] at ch0 ch1 ch2
  go_wp2_with fail
  clear ch0 ch1 ch2
  obtain ⟨v1, hqp1⟩ : ∃ zz, zz = w1 := ⟨_, rfl⟩
  have Yu_p1 : CellsAt v1 (w.heap.size) 23 #[.int .i64 ju.re, .int .i64 ju.im] := by rw [hqp1]; first | exact Fu_1 | simpa using Fu_1
  have Yv_p1 : CellsAt v1 (w.heap.size + 1) 23 #[.int .i64 jv.re, .int .i64 jv.im] := by rw [hqp1]; first | exact Fv_1 | simpa using Fv_1
  have Yy_p1 : CellsAt v1 (w.heap.size + 1 + 1) 23 #[.int .i64 jy.re, .int .i64 jy.im] := by rw [hqp1]; first | exact Fy_1 | simpa using Fy_1
  have Yz_p1 : CellsAt v1 (w.heap.size + 1 + 1 + 1) 23 #[.int .i64 jz.re, .int .i64 jz.im] := by rw [hqp1]; first | exact Fz_1 | simpa using Fz_1
  have Ya_p1 : CellsAt v1 (w.heap.size + 1 + 1 + 1 + 1) 23 #[.int .i64 ja.re, .int .i64 ja.im] := by rw [hqp1]; first | exact Fa_1 | simpa using Fa_1
  have Yc_p1 : CellsAt v1 (w.heap.size + 1 + 1 + 1 + 1 + 1) 23 #[.int .i64 jc.re, .int .i64 jc.im] := by rw [hqp1]; first | exact Fc_1 | simpa using Fc_1
  have Yr_p1 : CellsAt v1 (w.heap.size + 1 + 1 + 1 + 1 + 1 + 1) 24 #[.int .i64 0, .int .i64 0, .int .i64 0, .int .i64 0, .int .i64 0, .int .i64 0, .int .i64 0, .int .i64 0] := by rw [hqp1]; first | exact Fr_1 | simpa using Fr_1
  have Yh_p1 : CellsAt v1 (w.heap.size + 1 + 1 + 1 + 1 + 1 + 1 + 1) 80 #[.int .i64 b, .int .i64 mo, .bool inv] := by rw [hqp1]; first | exact Fh_1 | simpa using Fh_1
  have yp1 : Gr w v1 := by rw [hqp1]; exact z1
  rw [← hqp1]
  clear hqp1
  have KS : ∀ W, Gr v1 W → (W.cell? ⟨w.heap.size, 0, none⟩ = some (.int .i64 ju.re) ∧ W.cell? ⟨w.heap.size, 1, none⟩ = some (.int .i64 ju.im) ∧ W.cell? ⟨w.heap.size + 1, 0, none⟩ = some (.int .i64 jv.re) ∧ W.cell? ⟨w.heap.size + 1, 1, none⟩ = some (.int .i64 jv.im) ∧ W.cell? ⟨w.heap.size + 1 + 1, 0, none⟩ = some (.int .i64 jy.re) ∧ W.cell? ⟨w.heap.size + 1 + 1, 1, none⟩ = some (.int .i64 jy.im) ∧ W.cell? ⟨w.heap.size + 1 + 1 + 1, 0, none⟩ = some (.int .i64 jz.re) ∧ W.cell? ⟨w.heap.size + 1 + 1 + 1, 1, none⟩ = some (.int .i64 jz.im) ∧ W.cell? ⟨w.heap.size + 1 + 1 + 1 + 1, 0, none⟩ = some (.int .i64 ja.re) ∧ W.cell? ⟨w.heap.size + 1 + 1 + 1 + 1, 1, none⟩ = some (.int .i64 ja.im) ∧ W.cell? ⟨w.heap.size + 1 + 1 + 1 + 1 + 1, 0, none⟩ = some (.int .i64 jc.re) ∧ W.cell? ⟨w.heap.size + 1 + 1 + 1 + 1 + 1, 1, none⟩ = some (.int .i64 jc.im)) := fun W hG => ⟨(CellsAt.gr Yu_p1 hG).cell 0, (CellsAt.gr Yu_p1 hG).cell 1, (CellsAt.gr Yv_p1 hG).cell 0, (CellsAt.gr Yv_p1 hG).cell 1, (CellsAt.gr Yy_p1 hG).cell 0, (CellsAt.gr Yy_p1 hG).cell 1, (CellsAt.gr Yz_p1 hG).cell 0, (CellsAt.gr Yz_p1 hG).cell 1, (CellsAt.gr Ya_p1 hG).cell 0, (CellsAt.gr Ya_p1 hG).cell 1, (CellsAt.gr Yc_p1 hG).cell 0, (CellsAt.gr Yc_p1 hG).cell 1⟩
  have hclG := gr_closed v1
  try simp only [List.append_eq, List.cons_append, List.nil_append]
  refine wp_region_grow (S := Gr v1) rfl (Gr.drew (Gr.refl _)) ?_
  refine wpG_take (i := 0) (v := ?_) hclG rfl (by kernel_rfl) (by kernel_rfl) (by kernel_rfl) (fun _ _ _ h => h) (by rfl) ?_ ?_
  rotate_left
  · (intro w' hSw; have hk := KS w' hSw; go_split_ands; go_simp; try with_reducible rfl)
  try simp only [Act.put, List.setIfInBounds_toArray, List.set_cons_zero, List.set_cons_succ, List.getElem_toArray, List.getElem_cons_zero, List.getElem_cons_succ]
  refine wpG_take (i := 1) (v := ?_) hclG rfl (by kernel_rfl) (by kernel_rfl) (by kernel_rfl) (fun _ _ _ h => h) (by rfl) ?_ ?_
  rotate_left
  · (intro w' hSw; have hk := KS w' hSw; go_split_ands; go_simp; try with_reducible rfl)
  try simp only [Act.put, List.setIfInBounds_toArray, List.set_cons_zero, List.set_cons_succ, List.getElem_toArray, List.getElem_cons_zero, List.getElem_cons_succ]
  refine wpG_take (i := 2) (v := ?_) hclG rfl (by kernel_rfl) (by kernel_rfl) (by kernel_rfl) (fun _ _ _ h => h) (by rfl) ?_ ?_
  rotate_left
  · (intro w' hSw; have hk := KS w' hSw; go_split_ands; go_simp; try with_reducible rfl)
  try simp only [Act.put, List.setIfInBounds_toArray, List.set_cons_zero, List.set_cons_succ, List.getElem_toArray, List.getElem_cons_zero, List.getElem_cons_succ]
  refine wpG_take (i := 3) (v := ?_) hclG rfl (by kernel_rfl) (by kernel_rfl) (by kernel_rfl) (fun _ _ _ h => h) (by rfl) ?_ ?_
  rotate_left
  · (intro w' hSw; have hk := KS w' hSw; go_split_ands; go_simp; try with_reducible rfl)
  try simp only [Act.put, List.setIfInBounds_toArray, List.set_cons_zero, List.set_cons_succ, List.getElem_toArray, List.getElem_cons_zero, List.getElem_cons_succ]
  refine wpG_ready (rs := [4]) (by kernel_rfl) (by simp) (fun w2 g2 s2 => ?_)
  refine AllG.cons rfl (fun K hK => ?_) AllG.nil
  replace g2 := (Gr.drew (Gr.refl v1)).trans g2
  have Fu_2 := CellsAt.gr (Yu_p1) g2
  have lu_2 := CellsAt.lt (Fu_2)
  have Fv_2 := CellsAt.gr (Yv_p1) g2
  have lv_2 := CellsAt.lt (Fv_2)
  have Fy_2 := CellsAt.gr (Yy_p1) g2
  have ly_2 := CellsAt.lt (Fy_2)
  have Fz_2 := CellsAt.gr (Yz_p1) g2
  have lz_2 := CellsAt.lt (Fz_2)
  have Fa_2 := CellsAt.gr (Ya_p1) g2
  have la_2 := CellsAt.lt (Fa_2)
  have Fc_2 := CellsAt.gr (Yc_p1) g2
  have lc_2 := CellsAt.lt (Fc_2)
  have Fr_2 := CellsAt.gr (Yr_p1) g2
  have lr_2 := CellsAt.lt (Fr_2)
  have Fh_2 := CellsAt.gr (Yh_p1) g2
  have lh_2 := CellsAt.lt (Fh_2)
  have z2 := (yp1).trans g2
  clear Yu_p1 Yv_p1 Yy_p1 Yz_p1 Ya_p1 Yc_p1 Yr_p1 Yh_p1 yp1 g2
  go_simp
  refine hK.out _ _ ?_ ?_
  · exact Gr.alloc s2 _ _
  clear hK K
  try simp only [Act.put, List.setIfInBounds_toArray, List.set_cons_zero, List.set_cons_succ, List.getElem_toArray, List.getElem_cons_zero, List.getElem_cons_succ]
  refine wpG_ready (rs := [5]) (by kernel_rfl) (by simp) (fun w3 g3 s3 => ?_)
  refine AllG.cons rfl (fun K hK => ?_) AllG.nil
  have Fu_3 := CellsAt.gr ((Fu_2).alloc _) g3
  have lu_3 := CellsAt.lt (Fu_3)
  have Fv_3 := CellsAt.gr ((Fv_2).alloc _) g3
  have lv_3 := CellsAt.lt (Fv_3)
  have Fy_3 := CellsAt.gr ((Fy_2).alloc _) g3
  have ly_3 := CellsAt.lt (Fy_3)
  have Fz_3 := CellsAt.gr ((Fz_2).alloc _) g3
  have lz_3 := CellsAt.lt (Fz_3)
  have Fa_3 := CellsAt.gr ((Fa_2).alloc _) g3
  have la_3 := CellsAt.lt (Fa_3)
  have Fc_3 := CellsAt.gr ((Fc_2).alloc _) g3
  have lc_3 := CellsAt.lt (Fc_3)
  have Fr_3 := CellsAt.gr ((Fr_2).alloc _) g3
  have lr_3 := CellsAt.lt (Fr_3)
  have Fh_3 := CellsAt.gr ((Fh_2).alloc _) g3
  have lh_3 := CellsAt.lt (Fh_3)
  have Fs4_3 := CellsAt.gr (CellsAt.new w2 23 #[.int .i64 ju.re, .int .i64 ju.im, .int .i64 jv.re, .int .i64 jv.im, .int .i64 jy.re, .int .i64 jy.im, .int .i64 jz.re, .int .i64 jz.im]) g3
  have ls4_3 := CellsAt.lt (Fs4_3)
  have z3 := ((z2).alloc _ _).trans g3
  clear g3
  go_simp
  refine (HW.out _ _ (CxsAt.four Fs4_3)).mono ?_
  rintro e w4 ⟨rfl, g4⟩
  have t4 := Gr.trans s3 g4
  have Fu_4 := CellsAt.gr (Fu_3) g4
  have lu_4 := CellsAt.lt (Fu_4)
  have Fv_4 := CellsAt.gr (Fv_3) g4
  have lv_4 := CellsAt.lt (Fv_4)
  have Fy_4 := CellsAt.gr (Fy_3) g4
  have ly_4 := CellsAt.lt (Fy_4)
  have Fz_4 := CellsAt.gr (Fz_3) g4
  have lz_4 := CellsAt.lt (Fz_4)
  have Fa_4 := CellsAt.gr (Fa_3) g4
  have la_4 := CellsAt.lt (Fa_4)
  have Fc_4 := CellsAt.gr (Fc_3) g4
  have lc_4 := CellsAt.lt (Fc_4)
  have Fr_4 := CellsAt.gr (Fr_3) g4
  have lr_4 := CellsAt.lt (Fr_4)
  have Fh_4 := CellsAt.gr (Fh_3) g4
  have lh_4 := CellsAt.lt (Fh_4)
  have Fs4_4 := CellsAt.gr (Fs4_3) g4
  have ls4_4 := CellsAt.lt (Fs4_4)
  have z4 := (z3).trans g4
  clear Fu_3 Fv_3 Fy_3 Fz_3 Fa_3 Fc_3 Fr_3 Fh_3 Fs4_3 z3 g4
  refine hK.out _ _ ?_ ?_
  · exact t4
  clear hK K
  try simp only [Act.put, List.setIfInBounds_toArray, List.set_cons_zero, List.set_cons_succ, List.getElem_toArray, List.getElem_cons_zero, List.getElem_cons_succ]
  refine wpG_take (i := 6) (v := ?_) hclG rfl (by kernel_rfl) (by kernel_rfl) (by kernel_rfl) (fun _ _ _ h => h) (by rfl) ?_ ?_
  rotate_left
  · (intro w' hSw; go_simp; try with_reducible rfl)
  try simp only [Act.put, List.setIfInBounds_toArray, List.set_cons_zero, List.set_cons_succ, List.getElem_toArray, List.getElem_cons_zero, List.getElem_cons_succ]
  refine wpG_take (i := 7) (v := ?_) hclG rfl (by kernel_rfl) (by kernel_rfl) (by kernel_rfl) (fun _ _ _ h => h) (by rfl) ?_ ?_
  rotate_left
  · (intro w' hSw; go_simp; try with_reducible rfl)
  try simp only [Act.put, List.setIfInBounds_toArray, List.set_cons_zero, List.set_cons_succ, List.getElem_toArray, List.getElem_cons_zero, List.getElem_cons_succ]
  refine wpG_take (i := 8) (v := ?_) hclG rfl (by kernel_rfl) (by kernel_rfl) (by kernel_rfl) (fun _ _ _ h => h) (by rfl) ?_ ?_
  rotate_left
  · (intro w' hSw; go_simp; try with_reducible rfl)
  try simp only [Act.put, List.setIfInBounds_toArray, List.set_cons_zero, List.set_cons_succ, List.getElem_toArray, List.getElem_cons_zero, List.getElem_cons_succ]
  refine wpG_take (i := 9) (v := ?_) hclG rfl (by kernel_rfl) (by kernel_rfl) (by kernel_rfl) (fun _ _ _ h => h) (by rfl) ?_ ?_
  rotate_left
  · (intro w' hSw; go_simp; try with_reducible rfl)
  try simp only [Act.put, List.setIfInBounds_toArray, List.set_cons_zero, List.set_cons_succ, List.getElem_toArray, List.getElem_cons_zero, List.getElem_cons_succ]
  refine wpG_take (i := 10) (v := ?_) hclG rfl (by kernel_rfl) (by kernel_rfl) (by kernel_rfl) (fun _ _ _ h => h) (by rfl) ?_ ?_
  rotate_left
  · (intro w' hSw; have hk := KS w' hSw; go_split_ands; go_simp; try with_reducible rfl)
  try simp only [Act.put, List.setIfInBounds_toArray, List.set_cons_zero, List.set_cons_succ, List.getElem_toArray, List.getElem_cons_zero, List.getElem_cons_succ]
  refine wpG_take (i := 11) (v := ?_) hclG rfl (by kernel_rfl) (by kernel_rfl) (by kernel_rfl) (fun _ _ _ h => h) (by rfl) ?_ ?_
  rotate_left
  · (intro w' hSw; have hk := KS w' hSw; go_split_ands; go_simp; try with_reducible rfl)
  try simp only [Act.put, List.setIfInBounds_toArray, List.set_cons_zero, List.set_cons_succ, List.getElem_toArray, List.getElem_cons_zero, List.getElem_cons_succ]
  refine wpG_ready (rs := [12]) (by kernel_rfl) (by simp) (fun w5 g5 s5 => ?_)
  refine AllG.cons rfl (fun K hK => ?_) AllG.nil
  have Fu_5 := CellsAt.gr (Fu_4) g5
  have lu_5 := CellsAt.lt (Fu_5)
  have Fv_5 := CellsAt.gr (Fv_4) g5
  have lv_5 := CellsAt.lt (Fv_5)
  have Fy_5 := CellsAt.gr (Fy_4) g5
  have ly_5 := CellsAt.lt (Fy_5)
  have Fz_5 := CellsAt.gr (Fz_4) g5
  have lz_5 := CellsAt.lt (Fz_5)
  have Fa_5 := CellsAt.gr (Fa_4) g5
  have la_5 := CellsAt.lt (Fa_5)
  have Fc_5 := CellsAt.gr (Fc_4) g5
  have lc_5 := CellsAt.lt (Fc_5)
  have Fr_5 := CellsAt.gr (Fr_4) g5
  have lr_5 := CellsAt.lt (Fr_5)
  have Fh_5 := CellsAt.gr (Fh_4) g5
  have lh_5 := CellsAt.lt (Fh_5)
  have Fs4_5 := CellsAt.gr (Fs4_4) g5
  have ls4_5 := CellsAt.lt (Fs4_5)
  have z5 := (z4).trans g5
  clear Fu_4 Fv_4 Fy_4 Fz_4 Fa_4 Fc_4 Fr_4 Fh_4 Fs4_4 z4 g5
  go_simp
  refine hK.out _ _ ?_ ?_
  · exact Gr.alloc s5 _ _
  clear hK K
  try simp only [Act.put, List.setIfInBounds_toArray, List.set_cons_zero, List.set_cons_succ, List.getElem_toArray, List.getElem_cons_zero, List.getElem_cons_succ]
  refine wpG_ready (rs := [13]) (by kernel_rfl) (by simp) (fun w6 g6 s6 => ?_)
  refine AllG.cons rfl (fun K hK => ?_) AllG.nil
  have Fu_6 := CellsAt.gr ((Fu_5).alloc _) g6
  have lu_6 := CellsAt.lt (Fu_6)
  have Fv_6 := CellsAt.gr ((Fv_5).alloc _) g6
  have lv_6 := CellsAt.lt (Fv_6)
  have Fy_6 := CellsAt.gr ((Fy_5).alloc _) g6
  have ly_6 := CellsAt.lt (Fy_6)
  have Fz_6 := CellsAt.gr ((Fz_5).alloc _) g6
  have lz_6 := CellsAt.lt (Fz_6)
  have Fa_6 := CellsAt.gr ((Fa_5).alloc _) g6
  have la_6 := CellsAt.lt (Fa_6)
  have Fc_6 := CellsAt.gr ((Fc_5).alloc _) g6
  have lc_6 := CellsAt.lt (Fc_6)
  have Fr_6 := CellsAt.gr ((Fr_5).alloc _) g6
  have lr_6 := CellsAt.lt (Fr_6)
  have Fh_6 := CellsAt.gr ((Fh_5).alloc _) g6
  have lh_6 := CellsAt.lt (Fh_6)
  have Fs4_6 := CellsAt.gr ((Fs4_5).alloc _) g6
  have ls4_6 := CellsAt.lt (Fs4_6)
  have Fs2_6 := CellsAt.gr (CellsAt.new w5 23 #[.int .i64 ja.re, .int .i64 ja.im, .int .i64 jc.re, .int .i64 jc.im]) g6
  have ls2_6 := CellsAt.lt (Fs2_6)
  have z6 := ((z5).alloc _ _).trans g6
  clear g6
  go_simp
  refine (HV.out _ _ (CxsAt.two Fs2_6)).mono ?_
  rintro e w7 ⟨rfl, g7⟩
  have t7 := Gr.trans s6 g7
  have Fu_7 := CellsAt.gr (Fu_6) g7
  have lu_7 := CellsAt.lt (Fu_7)
  have Fv_7 := CellsAt.gr (Fv_6) g7
  have lv_7 := CellsAt.lt (Fv_7)
  have Fy_7 := CellsAt.gr (Fy_6) g7
  have ly_7 := CellsAt.lt (Fy_7)
  have Fz_7 := CellsAt.gr (Fz_6) g7
  have lz_7 := CellsAt.lt (Fz_7)
  have Fa_7 := CellsAt.gr (Fa_6) g7
  have la_7 := CellsAt.lt (Fa_7)
  have Fc_7 := CellsAt.gr (Fc_6) g7
  have lc_7 := CellsAt.lt (Fc_7)
  have Fr_7 := CellsAt.gr (Fr_6) g7
  have lr_7 := CellsAt.lt (Fr_7)
  have Fh_7 := CellsAt.gr (Fh_6) g7
  have lh_7 := CellsAt.lt (Fh_7)
  have Fs4_7 := CellsAt.gr (Fs4_6) g7
  have ls4_7 := CellsAt.lt (Fs4_7)
  have Fs2_7 := CellsAt.gr (Fs2_6) g7
  have ls2_7 := CellsAt.lt (Fs2_7)
  have z7 := (z6).trans g7
  clear Fu_6 Fv_6 Fy_6 Fz_6 Fa_6 Fc_6 Fr_6 Fh_6 Fs4_6 Fs2_6 z6 g7
  refine hK.out _ _ ?_ ?_
  · exact t7
  clear hK K
  try simp only [Act.put, List.setIfInBounds_toArray, List.set_cons_zero, List.set_cons_succ, List.getElem_toArray, List.getElem_cons_zero, List.getElem_cons_succ]
  refine wpG_take (i := 14) (v := ?_) hclG rfl (by kernel_rfl) (by kernel_rfl) (by kernel_rfl) (fun _ _ _ h => h) (by rfl) ?_ ?_
  rotate_left
  · (intro w' hSw; go_simp; try with_reducible rfl)
  try simp only [Act.put, List.setIfInBounds_toArray, List.set_cons_zero, List.set_cons_succ, List.getElem_toArray, List.getElem_cons_zero, List.getElem_cons_succ]
  refine wpG_take (i := 15) (v := ?_) hclG rfl (by kernel_rfl) (by kernel_rfl) (by kernel_rfl) (fun _ _ _ h => h) (by rfl) ?_ ?_
  rotate_left
  · (intro w' hSw; go_simp; try with_reducible rfl)
  try simp only [Act.put, List.setIfInBounds_toArray, List.set_cons_zero, List.set_cons_succ, List.getElem_toArray, List.getElem_cons_zero, List.getElem_cons_succ]
  refine wpG_done (by kernel_rfl) (fun w8 g8 => ?_) _
  have Fu_8 := CellsAt.gr (Fu_7) g8
  have lu_8 := CellsAt.lt (Fu_8)
  have Fv_8 := CellsAt.gr (Fv_7) g8
  have lv_8 := CellsAt.lt (Fv_8)
  have Fy_8 := CellsAt.gr (Fy_7) g8
  have ly_8 := CellsAt.lt (Fy_8)
  have Fz_8 := CellsAt.gr (Fz_7) g8
  have lz_8 := CellsAt.lt (Fz_8)
  have Fa_8 := CellsAt.gr (Fa_7) g8
  have la_8 := CellsAt.lt (Fa_8)
  have Fc_8 := CellsAt.gr (Fc_7) g8
  have lc_8 := CellsAt.lt (Fc_8)
  have Fr_8 := CellsAt.gr (Fr_7) g8
  have lr_8 := CellsAt.lt (Fr_8)
  have Fh_8 := CellsAt.gr (Fh_7) g8
  have lh_8 := CellsAt.lt (Fh_8)
  have Fs4_8 := CellsAt.gr (Fs4_7) g8
  have ls4_8 := CellsAt.lt (Fs4_8)
  have Fs2_8 := CellsAt.gr (Fs2_7) g8
  have ls2_8 := CellsAt.lt (Fs2_8)
  have z8 := (z7).trans g8
  clear Fu_7 Fv_7 Fy_7 Fz_7 Fa_7 Fc_7 Fr_7 Fh_7 Fs4_7 Fs2_7 z7 g8
  clear hclG KS
  have mr0 := CellsAt.frozen (Fr_8) 0
  have cr0 := CellsAt.cell (Fr_8) 0
  simp only [List.getElem?_toArray, List.getElem?_cons_zero, List.getElem?_cons_succ] at cr0
  have mr1 := CellsAt.frozen (Fr_8) 1
  have cr1 := CellsAt.cell (Fr_8) 1
  simp only [List.getElem?_toArray, List.getElem?_cons_zero, List.getElem?_cons_succ] at cr1
  have mr2 := CellsAt.frozen (Fr_8) 2
  have cr2 := CellsAt.cell (Fr_8) 2
  simp only [List.getElem?_toArray, List.getElem?_cons_zero, List.getElem?_cons_succ] at cr2
  have mr3 := CellsAt.frozen (Fr_8) 3
  have cr3 := CellsAt.cell (Fr_8) 3
  simp only [List.getElem?_toArray, List.getElem?_cons_zero, List.getElem?_cons_succ] at cr3
  have mr4 := CellsAt.frozen (Fr_8) 4
  have cr4 := CellsAt.cell (Fr_8) 4
  simp only [List.getElem?_toArray, List.getElem?_cons_zero, List.getElem?_cons_succ] at cr4
  have mr5 := CellsAt.frozen (Fr_8) 5
  have cr5 := CellsAt.cell (Fr_8) 5
  simp only [List.getElem?_toArray, List.getElem?_cons_zero, List.getElem?_cons_succ] at cr5
  have mr6 := CellsAt.frozen (Fr_8) 6
  have cr6 := CellsAt.cell (Fr_8) 6
  simp only [List.getElem?_toArray, List.getElem?_cons_zero, List.getElem?_cons_succ] at cr6
  have mr7 := CellsAt.frozen (Fr_8) 7
  have cr7 := CellsAt.cell (Fr_8) 7
  simp only [List.getElem?_toArray, List.getElem?_cons_zero, List.getElem?_cons_succ] at cr7
  go_wp2_with fail
  clear mr0 cr0 mr1 cr1 mr2 cr2 mr3 cr3 mr4 cr4 mr5 cr5 mr6 cr6 mr7 cr7
  obtain ⟨uf, hqp2⟩ : ∃ zz, zz = ((((((((w8.setCell ⟨w.heap.size + 1 + 1 + 1 + 1 + 1 + 1, 0, none⟩ (.int .i64 0)).setCell ⟨w.heap.size + 1 + 1 + 1 + 1 + 1 + 1, 1, none⟩ (.int .i64 0)).setCell ⟨w.heap.size + 1 + 1 + 1 + 1 + 1 + 1, 2, none⟩ (.int .i64 0)).setCell ⟨w.heap.size + 1 + 1 + 1 + 1 + 1 + 1, 3, none⟩ (.int .i64 0)).setCell ⟨w.heap.size + 1 + 1 + 1 + 1 + 1 + 1, 4, none⟩ (.int .i64 0)).setCell ⟨w.heap.size + 1 + 1 + 1 + 1 + 1 + 1, 5, none⟩ (.int .i64 0)).setCell ⟨w.heap.size + 1 + 1 + 1 + 1 + 1 + 1, 6, none⟩ (.int .i64 0)).setCell ⟨w.heap.size + 1 + 1 + 1 + 1 + 1 + 1, 7, none⟩ (.int .i64 0)) := ⟨_, rfl⟩
  have Yr_p2 : CellsAt uf (w.heap.size + 1 + 1 + 1 + 1 + 1 + 1) 24 #[.int .i64 0, .int .i64 0, .int .i64 0, .int .i64 0, .int .i64 0, .int .i64 0, .int .i64 0, .int .i64 0] := by rw [hqp2]; first | exact CellsAt.set8 (Fr_8) _ _ _ _ _ _ _ _ | simpa using CellsAt.set8 (Fr_8) _ _ _ _ _ _ _ _
  have yp2 : Gr w uf := by rw [hqp2]; exact ((((((((z8).setCell (by first | omega | (simp only; omega)) _).setCell (by first | omega | (simp only; omega)) _).setCell (by first | omega | (simp only; omega)) _).setCell (by first | omega | (simp only; omega)) _).setCell (by first | omega | (simp only; omega)) _).setCell (by first | omega | (simp only; omega)) _).setCell (by first | omega | (simp only; omega)) _).setCell (by first | omega | (simp only; omega)) _
  rw [← hqp2]
  clear hqp2
  have cr0 := CellsAt.cell (Yr_p2) 0
  have cr1 := CellsAt.cell (Yr_p2) 1
  have cr2 := CellsAt.cell (Yr_p2) 2
  have cr3 := CellsAt.cell (Yr_p2) 3
  have cr4 := CellsAt.cell (Yr_p2) 4
  have cr5 := CellsAt.cell (Yr_p2) 5
  have cr6 := CellsAt.cell (Yr_p2) 6
  have cr7 := CellsAt.cell (Yr_p2) 7
  simp only [List.getElem?_toArray, List.getElem?_cons_zero, List.getElem?_cons_succ] at cr0 cr1 cr2 cr3 cr4 cr5 cr6 cr7
  refine bodyPost_ret (v := .tuple #[.agg #[.int .i64 0, .int .i64 0, .int .i64 0, .int .i64 0, .int .i64 0, .int .i64 0, .int .i64 0, .int .i64 0], .int .i64 2]) ?_ rfl ⟨rfl, yp2⟩
  simp [results, Try.results23, go_sem, *]

set_option maxHeartbeats 4000000 in
theorem sJoin_ok_of (b mo : Int) (inv : Bool) (ju jv jy jz ja jc : Gi) (P : Int) (q0 q1 q2 q3 : Gi) (hP : IntKind.i64.wrap (2 ^ min b.toNat 64) = P) (hb0 : 0 ≤ b) (HM : Hid (∀ W, Calls Try.prog 48 #[.agg #[.int .i64 b, .int .i64 mo, .bool inv]] W fun e w' => e = .returned (.bool true) ∧ Gr W w')) (HW : Hid (∀ W v, CxsAt W v [ju, jv, jy, jz] → Calls Try.prog 49 #[.int .i64 2147483648, v] W fun e w' => e = .returned (.bool true) ∧ Gr W w')) (HV : Hid (∀ W v, CxsAt W v [ja, jc] → Calls Try.prog 49 #[.int .i64 P, v] W fun e w' => e = .returned (.bool true) ∧ Gr W w'))
    (HJ : Hid (∀ W, Calls Try.prog 50 #[.agg #[.int .i64 b, .int .i64 mo, .bool inv], .agg #[.int .i64 (ju).re, .int .i64 (ju).im], .agg #[.int .i64 (jv).re, .int .i64 (jv).im], .agg #[.int .i64 (jy).re, .int .i64 (jy).im], .agg #[.int .i64 (jz).re, .int .i64 (jz).im], .agg #[.int .i64 (ja).re, .int .i64 (ja).im], .agg #[.int .i64 (jc).re, .int .i64 (jc).im]] W fun e w' => e = .returned (.agg #[.int .i64 q0.re, .int .i64 q0.im, .int .i64 q1.re, .int .i64 q1.im, .int .i64 q2.re, .int .i64 q2.im, .int .i64 q3.re, .int .i64 q3.im]) ∧ Gr W w')) (w : World) :
    Calls Try.prog 23 #[.agg #[.int .i64 (ju).re, .int .i64 (ju).im], .agg #[.int .i64 (jv).re, .int .i64 (jv).im], .agg #[.int .i64 (jy).re, .int .i64 (jy).im], .agg #[.int .i64 (jz).re, .int .i64 (jz).im], .agg #[.int .i64 (ja).re, .int .i64 (ja).im], .agg #[.int .i64 (jc).re, .int .i64 (jc).im], .int .i64 b, .int .i64 mo, .bool inv] w fun e w' => e = .returned (.tuple #[.agg #[.int .i64 q0.re, .int .i64 q0.im, .int .i64 q1.re, .int .i64 q1.im, .int .i64 q2.re, .int .i64 q2.im, .int .i64 q3.re, .int .i64 q3.im], .int .i64 0]) ∧ Gr w w' := by
  go_enter Try.func23, Try.ntmps23
  go_wp2_with fail
  obtain ⟨u0, hU⟩ : ∃ uu, uu = ((((((((w.alloc (.cells #[.int .i64 ju.re, .int .i64 ju.im] 23)).alloc (.cells #[.int .i64 jv.re, .int .i64 jv.im] 23)).alloc (.cells #[.int .i64 jy.re, .int .i64 jy.im] 23)).alloc (.cells #[.int .i64 jz.re, .int .i64 jz.im] 23)).alloc (.cells #[.int .i64 ja.re, .int .i64 ja.im] 23)).alloc (.cells #[.int .i64 jc.re, .int .i64 jc.im] 23)).alloc (.cells #[.int .i64 0, .int .i64 0, .int .i64 0, .int .i64 0, .int .i64 0, .int .i64 0, .int .i64 0, .int .i64 0] 24)).alloc (.cells #[.int .i64 b, .int .i64 mo, .bool inv] 80)) := ⟨_, rfl⟩
  have gu : Gr w u0 := by rw [hU]; exact ((((((((Gr.refl w).alloc _ _).alloc _ _).alloc _ _).alloc _ _).alloc _ _).alloc _ _).alloc _ _).alloc _ _
  have R0 : CellsAt u0 (w.heap.size) 23 #[.int .i64 ju.re, .int .i64 ju.im] := by
    rw [hU]
    have := ((((((((CellsAt.new w 23 #[.int .i64 ju.re, .int .i64 ju.im]).alloc (.cells #[.int .i64 jv.re, .int .i64 jv.im] 23)).alloc (.cells #[.int .i64 jy.re, .int .i64 jy.im] 23)).alloc (.cells #[.int .i64 jz.re, .int .i64 jz.im] 23)).alloc (.cells #[.int .i64 ja.re, .int .i64 ja.im] 23)).alloc (.cells #[.int .i64 jc.re, .int .i64 jc.im] 23)).alloc (.cells #[.int .i64 0, .int .i64 0, .int .i64 0, .int .i64 0, .int .i64 0, .int .i64 0, .int .i64 0, .int .i64 0] 24)).alloc (.cells #[.int .i64 b, .int .i64 mo, .bool inv] 80))
    simpa only [World.size_alloc] using this
  have R1 : CellsAt u0 (w.heap.size + 1) 23 #[.int .i64 jv.re, .int .i64 jv.im] := by
    rw [hU]
    have := (((((((CellsAt.new (w.alloc (.cells #[.int .i64 ju.re, .int .i64 ju.im] 23)) 23 #[.int .i64 jv.re, .int .i64 jv.im]).alloc (.cells #[.int .i64 jy.re, .int .i64 jy.im] 23)).alloc (.cells #[.int .i64 jz.re, .int .i64 jz.im] 23)).alloc (.cells #[.int .i64 ja.re, .int .i64 ja.im] 23)).alloc (.cells #[.int .i64 jc.re, .int .i64 jc.im] 23)).alloc (.cells #[.int .i64 0, .int .i64 0, .int .i64 0, .int .i64 0, .int .i64 0, .int .i64 0, .int .i64 0, .int .i64 0] 24)).alloc (.cells #[.int .i64 b, .int .i64 mo, .bool inv] 80))
    simpa only [World.size_alloc] using this
  have R2 : CellsAt u0 (w.heap.size + 1 + 1) 23 #[.int .i64 jy.re, .int .i64 jy.im] := by
    rw [hU]
    have := ((((((CellsAt.new ((w.alloc (.cells #[.int .i64 ju.re, .int .i64 ju.im] 23)).alloc (.cells #[.int .i64 jv.re, .int .i64 jv.im] 23)) 23 #[.int .i64 jy.re, .int .i64 jy.im]).alloc (.cells #[.int .i64 jz.re, .int .i64 jz.im] 23)).alloc (.cells #[.int .i64 ja.re, .int .i64 ja.im] 23)).alloc (.cells #[.int .i64 jc.re, .int .i64 jc.im] 23)).alloc (.cells #[.int .i64 0, .int .i64 0, .int .i64 0, .int .i64 0, .int .i64 0, .int .i64 0, .int .i64 0, .int .i64 0] 24)).alloc (.cells #[.int .i64 b, .int .i64 mo, .bool inv] 80))
    simpa only [World.size_alloc] using this
  have R3 : CellsAt u0 (w.heap.size + 1 + 1 + 1) 23 #[.int .i64 jz.re, .int .i64 jz.im] := by
    rw [hU]
    have := (((((CellsAt.new (((w.alloc (.cells #[.int .i64 ju.re, .int .i64 ju.im] 23)).alloc (.cells #[.int .i64 jv.re, .int .i64 jv.im] 23)).alloc (.cells #[.int .i64 jy.re, .int .i64 jy.im] 23)) 23 #[.int .i64 jz.re, .int .i64 jz.im]).alloc (.cells #[.int .i64 ja.re, .int .i64 ja.im] 23)).alloc (.cells #[.int .i64 jc.re, .int .i64 jc.im] 23)).alloc (.cells #[.int .i64 0, .int .i64 0, .int .i64 0, .int .i64 0, .int .i64 0, .int .i64 0, .int .i64 0, .int .i64 0] 24)).alloc (.cells #[.int .i64 b, .int .i64 mo, .bool inv] 80))
    simpa only [World.size_alloc] using this
  have R4 : CellsAt u0 (w.heap.size + 1 + 1 + 1 + 1) 23 #[.int .i64 ja.re, .int .i64 ja.im] := by
    rw [hU]
    have := ((((CellsAt.new ((((w.alloc (.cells #[.int .i64 ju.re, .int .i64 ju.im] 23)).alloc (.cells #[.int .i64 jv.re, .int .i64 jv.im] 23)).alloc (.cells #[.int .i64 jy.re, .int .i64 jy.im] 23)).alloc (.cells #[.int .i64 jz.re, .int .i64 jz.im] 23)) 23 #[.int .i64 ja.re, .int .i64 ja.im]).alloc (.cells #[.int .i64 jc.re, .int .i64 jc.im] 23)).alloc (.cells #[.int .i64 0, .int .i64 0, .int .i64 0, .int .i64 0, .int .i64 0, .int .i64 0, .int .i64 0, .int .i64 0] 24)).alloc (.cells #[.int .i64 b, .int .i64 mo, .bool inv] 80))
    simpa only [World.size_alloc] using this
  have R5 : CellsAt u0 (w.heap.size + 1 + 1 + 1 + 1 + 1) 23 #[.int .i64 jc.re, .int .i64 jc.im] := by
    rw [hU]
    have := (((CellsAt.new (((((w.alloc (.cells #[.int .i64 ju.re, .int .i64 ju.im] 23)).alloc (.cells #[.int .i64 jv.re, .int .i64 jv.im] 23)).alloc (.cells #[.int .i64 jy.re, .int .i64 jy.im] 23)).alloc (.cells #[.int .i64 jz.re, .int .i64 jz.im] 23)).alloc (.cells #[.int .i64 ja.re, .int .i64 ja.im] 23)) 23 #[.int .i64 jc.re, .int .i64 jc.im]).alloc (.cells #[.int .i64 0, .int .i64 0, .int .i64 0, .int .i64 0, .int .i64 0, .int .i64 0, .int .i64 0, .int .i64 0] 24)).alloc (.cells #[.int .i64 b, .int .i64 mo, .bool inv] 80))
    simpa only [World.size_alloc] using this
  have R6 : CellsAt u0 (w.heap.size + 1 + 1 + 1 + 1 + 1 + 1) 24 #[.int .i64 0, .int .i64 0, .int .i64 0, .int .i64 0, .int .i64 0, .int .i64 0, .int .i64 0, .int .i64 0] := by
    rw [hU]
    have := ((CellsAt.new ((((((w.alloc (.cells #[.int .i64 ju.re, .int .i64 ju.im] 23)).alloc (.cells #[.int .i64 jv.re, .int .i64 jv.im] 23)).alloc (.cells #[.int .i64 jy.re, .int .i64 jy.im] 23)).alloc (.cells #[.int .i64 jz.re, .int .i64 jz.im] 23)).alloc (.cells #[.int .i64 ja.re, .int .i64 ja.im] 23)).alloc (.cells #[.int .i64 jc.re, .int .i64 jc.im] 23)) 24 #[.int .i64 0, .int .i64 0, .int .i64 0, .int .i64 0, .int .i64 0, .int .i64 0, .int .i64 0, .int .i64 0]).alloc (.cells #[.int .i64 b, .int .i64 mo, .bool inv] 80))
    simpa only [World.size_alloc] using this
  have R7 : CellsAt u0 (w.heap.size + 1 + 1 + 1 + 1 + 1 + 1 + 1) 80 #[.int .i64 b, .int .i64 mo, .bool inv] := by
    rw [hU]
    have := (CellsAt.new (((((((w.alloc (.cells #[.int .i64 ju.re, .int .i64 ju.im] 23)).alloc (.cells #[.int .i64 jv.re, .int .i64 jv.im] 23)).alloc (.cells #[.int .i64 jy.re, .int .i64 jy.im] 23)).alloc (.cells #[.int .i64 jz.re, .int .i64 jz.im] 23)).alloc (.cells #[.int .i64 ja.re, .int .i64 ja.im] 23)).alloc (.cells #[.int .i64 jc.re, .int .i64 jc.im] 23)).alloc (.cells #[.int .i64 0, .int .i64 0, .int .i64 0, .int .i64 0, .int .i64 0, .int .i64 0, .int .i64 0, .int .i64 0] 24)) 80 #[.int .i64 b, .int .i64 mo, .bool inv])
    simpa only [World.size_alloc] using this
  rw [← hU]
  clear hU
  have lu := R0.lt
  have lv := R1.lt
  have ly := R2.lt
  have lz := R3.lt
  have la := R4.lt
  have lc := R5.lt
  have lr := R6.lt
  have lh := R7.lt
  refine (HM.out _).mono ?_
  rintro e w1 ⟨rfl, g1⟩
  have Fu_1 := CellsAt.gr (R0) g1
  have lu_1 := CellsAt.lt (Fu_1)
  have Fv_1 := CellsAt.gr (R1) g1
  have lv_1 := CellsAt.lt (Fv_1)
  have Fy_1 := CellsAt.gr (R2) g1
  have ly_1 := CellsAt.lt (Fy_1)
  have Fz_1 := CellsAt.gr (R3) g1
  have lz_1 := CellsAt.lt (Fz_1)
  have Fa_1 := CellsAt.gr (R4) g1
  have la_1 := CellsAt.lt (Fa_1)
  have Fc_1 := CellsAt.gr (R5) g1
  have lc_1 := CellsAt.lt (Fc_1)
  have Fr_1 := CellsAt.gr (R6) g1
  have lr_1 := CellsAt.lt (Fr_1)
  have Fh_1 := CellsAt.gr (R7) g1
  have lh_1 := CellsAt.lt (Fh_1)
  have z1 := (gu).trans g1
  clear R0 R1 R2 R3 R4 R5 R6 R7 gu g1
  have ch0 := CellsAt.cell (Fh_1) 0
  have ch1 := CellsAt.cell (Fh_1) 1
  have ch2 := CellsAt.cell (Fh_1) 2
  simp only [List.getElem?_toArray, List.getElem?_cons_zero, List.getElem?_cons_succ] at ch0 ch1 ch2
  go_wp2_with fail
  clear ch0 ch1 ch2
  obtain ⟨v1, hqp1⟩ : ∃ zz, zz = w1 := ⟨_, rfl⟩
  have Yu_p1 : CellsAt v1 (w.heap.size) 23 #[.int .i64 ju.re, .int .i64 ju.im] := by rw [hqp1]; first | exact Fu_1 | simpa using Fu_1
  have Yv_p1 : CellsAt v1 (w.heap.size + 1) 23 #[.int .i64 jv.re, .int .i64 jv.im] := by rw [hqp1]; first | exact Fv_1 | simpa using Fv_1
  have Yy_p1 : CellsAt v1 (w.heap.size + 1 + 1) 23 #[.int .i64 jy.re, .int .i64 jy.im] := by rw [hqp1]; first | exact Fy_1 | simpa using Fy_1
  have Yz_p1 : CellsAt v1 (w.heap.size + 1 + 1 + 1) 23 #[.int .i64 jz.re, .int .i64 jz.im] := by rw [hqp1]; first | exact Fz_1 | simpa using Fz_1
  have Ya_p1 : CellsAt v1 (w.heap.size + 1 + 1 + 1 + 1) 23 #[.int .i64 ja.re, .int .i64 ja.im] := by rw [hqp1]; first | exact Fa_1 | simpa using Fa_1
  have Yc_p1 : CellsAt v1 (w.heap.size + 1 + 1 + 1 + 1 + 1) 23 #[.int .i64 jc.re, .int .i64 jc.im] := by rw [hqp1]; first | exact Fc_1 | simpa using Fc_1
  have Yr_p1 : CellsAt v1 (w.heap.size + 1 + 1 + 1 + 1 + 1 + 1) 24 #[.int .i64 0, .int .i64 0, .int .i64 0, .int .i64 0, .int .i64 0, .int .i64 0, .int .i64 0, .int .i64 0] := by rw [hqp1]; first | exact Fr_1 | simpa using Fr_1
  have Yh_p1 : CellsAt v1 (w.heap.size + 1 + 1 + 1 + 1 + 1 + 1 + 1) 80 #[.int .i64 b, .int .i64 mo, .bool inv] := by rw [hqp1]; first | exact Fh_1 | simpa using Fh_1
  have yp1 : Gr w v1 := by rw [hqp1]; exact z1
  rw [← hqp1]
  clear hqp1
  have KS : ∀ W, Gr v1 W → (W.cell? ⟨w.heap.size, 0, none⟩ = some (.int .i64 ju.re) ∧ W.cell? ⟨w.heap.size, 1, none⟩ = some (.int .i64 ju.im) ∧ W.cell? ⟨w.heap.size + 1, 0, none⟩ = some (.int .i64 jv.re) ∧ W.cell? ⟨w.heap.size + 1, 1, none⟩ = some (.int .i64 jv.im) ∧ W.cell? ⟨w.heap.size + 1 + 1, 0, none⟩ = some (.int .i64 jy.re) ∧ W.cell? ⟨w.heap.size + 1 + 1, 1, none⟩ = some (.int .i64 jy.im) ∧ W.cell? ⟨w.heap.size + 1 + 1 + 1, 0, none⟩ = some (.int .i64 jz.re) ∧ W.cell? ⟨w.heap.size + 1 + 1 + 1, 1, none⟩ = some (.int .i64 jz.im) ∧ W.cell? ⟨w.heap.size + 1 + 1 + 1 + 1, 0, none⟩ = some (.int .i64 ja.re) ∧ W.cell? ⟨w.heap.size + 1 + 1 + 1 + 1, 1, none⟩ = some (.int .i64 ja.im) ∧ W.cell? ⟨w.heap.size + 1 + 1 + 1 + 1 + 1, 0, none⟩ = some (.int .i64 jc.re) ∧ W.cell? ⟨w.heap.size + 1 + 1 + 1 + 1 + 1, 1, none⟩ = some (.int .i64 jc.im)) := fun W hG => ⟨(CellsAt.gr Yu_p1 hG).cell 0, (CellsAt.gr Yu_p1 hG).cell 1, (CellsAt.gr Yv_p1 hG).cell 0, (CellsAt.gr Yv_p1 hG).cell 1, (CellsAt.gr Yy_p1 hG).cell 0, (CellsAt.gr Yy_p1 hG).cell 1, (CellsAt.gr Yz_p1 hG).cell 0, (CellsAt.gr Yz_p1 hG).cell 1, (CellsAt.gr Ya_p1 hG).cell 0, (CellsAt.gr Ya_p1 hG).cell 1, (CellsAt.gr Yc_p1 hG).cell 0, (CellsAt.gr Yc_p1 hG).cell 1⟩
  have hclG := gr_closed v1
  try simp only [List.append_eq, List.cons_append, List.nil_append]
  refine wp_region_grow (S := Gr v1) rfl (Gr.drew (Gr.refl _)) ?_
  refine wpG_take (i := 0) (v := ?_) hclG rfl (by kernel_rfl) (by kernel_rfl) (by kernel_rfl) (fun _ _ _ h => h) (by rfl) ?_ ?_
  rotate_left
  · (intro w' hSw; have hk := KS w' hSw; go_split_ands; go_simp; try with_reducible rfl)
  try simp only [Act.put, List.setIfInBounds_toArray, List.set_cons_zero, List.set_cons_succ, List.getElem_toArray, List.getElem_cons_zero, List.getElem_cons_succ]
  refine wpG_take (i := 1) (v := ?_) hclG rfl (by kernel_rfl) (by kernel_rfl) (by kernel_rfl) (fun _ _ _ h => h) (by rfl) ?_ ?_
  rotate_left
  · (intro w' hSw; have hk := KS w' hSw; go_split_ands; go_simp; try with_reducible rfl)
  try simp only [Act.put, List.setIfInBounds_toArray, List.set_cons_zero, List.set_cons_succ, List.getElem_toArray, List.getElem_cons_zero, List.getElem_cons_succ]
  refine wpG_take (i := 2) (v := ?_) hclG rfl (by kernel_rfl) (by kernel_rfl) (by kernel_rfl) (fun _ _ _ h => h) (by rfl) ?_ ?_
  rotate_left
  · (intro w' hSw; have hk := KS w' hSw; go_split_ands; go_simp; try with_reducible rfl)
  try simp only [Act.put, List.setIfInBounds_toArray, List.set_cons_zero, List.set_cons_succ, List.getElem_toArray, List.getElem_cons_zero, List.getElem_cons_succ]
  refine wpG_take (i := 3) (v := ?_) hclG rfl (by kernel_rfl) (by kernel_rfl) (by kernel_rfl) (fun _ _ _ h => h) (by rfl) ?_ ?_
  rotate_left
  · (intro w' hSw; have hk := KS w' hSw; go_split_ands; go_simp; try with_reducible rfl)
  try simp only [Act.put, List.setIfInBounds_toArray, List.set_cons_zero, List.set_cons_succ, List.getElem_toArray, List.getElem_cons_zero, List.getElem_cons_succ]
  refine wpG_ready (rs := [4]) (by kernel_rfl) (by simp) (fun w2 g2 s2 => ?_)
  refine AllG.cons rfl (fun K hK => ?_) AllG.nil
  replace g2 := (Gr.drew (Gr.refl v1)).trans g2
  have Fu_2 := CellsAt.gr (Yu_p1) g2
  have lu_2 := CellsAt.lt (Fu_2)
  have Fv_2 := CellsAt.gr (Yv_p1) g2
  have lv_2 := CellsAt.lt (Fv_2)
  have Fy_2 := CellsAt.gr (Yy_p1) g2
  have ly_2 := CellsAt.lt (Fy_2)
  have Fz_2 := CellsAt.gr (Yz_p1) g2
  have lz_2 := CellsAt.lt (Fz_2)
  have Fa_2 := CellsAt.gr (Ya_p1) g2
  have la_2 := CellsAt.lt (Fa_2)
  have Fc_2 := CellsAt.gr (Yc_p1) g2
  have lc_2 := CellsAt.lt (Fc_2)
  have Fr_2 := CellsAt.gr (Yr_p1) g2
  have lr_2 := CellsAt.lt (Fr_2)
  have Fh_2 := CellsAt.gr (Yh_p1) g2
  have lh_2 := CellsAt.lt (Fh_2)
  have z2 := (yp1).trans g2
  clear Yu_p1 Yv_p1 Yy_p1 Yz_p1 Ya_p1 Yc_p1 Yr_p1 Yh_p1 yp1 g2
  go_simp
  refine hK.out _ _ ?_ ?_
  · exact Gr.alloc s2 _ _
  clear hK K
  try simp only [Act.put, List.setIfInBounds_toArray, List.set_cons_zero, List.set_cons_succ, List.getElem_toArray, List.getElem_cons_zero, List.getElem_cons_succ]
  refine wpG_ready (rs := [5]) (by kernel_rfl) (by simp) (fun w3 g3 s3 => ?_)
  refine AllG.cons rfl (fun K hK => ?_) AllG.nil
  have Fu_3 := CellsAt.gr ((Fu_2).alloc _) g3
  have lu_3 := CellsAt.lt (Fu_3)
  have Fv_3 := CellsAt.gr ((Fv_2).alloc _) g3
  have lv_3 := CellsAt.lt (Fv_3)
  have Fy_3 := CellsAt.gr ((Fy_2).alloc _) g3
  have ly_3 := CellsAt.lt (Fy_3)
  have Fz_3 := CellsAt.gr ((Fz_2).alloc _) g3
  have lz_3 := CellsAt.lt (Fz_3)
  have Fa_3 := CellsAt.gr ((Fa_2).alloc _) g3
  have la_3 := CellsAt.lt (Fa_3)
  have Fc_3 := CellsAt.gr ((Fc_2).alloc _) g3
  have lc_3 := CellsAt.lt (Fc_3)
  have Fr_3 := CellsAt.gr ((Fr_2).alloc _) g3
  have lr_3 := CellsAt.lt (Fr_3)
  have Fh_3 := CellsAt.gr ((Fh_2).alloc _) g3
  have lh_3 := CellsAt.lt (Fh_3)
  have Fs4_3 := CellsAt.gr (CellsAt.new w2 23 #[.int .i64 ju.re, .int .i64 ju.im, .int .i64 jv.re, .int .i64 jv.im, .int .i64 jy.re, .int .i64 jy.im, .int .i64 jz.re, .int .i64 jz.im]) g3
  have ls4_3 := CellsAt.lt (Fs4_3)
  have z3 := ((z2).alloc _ _).trans g3
  clear g3
  go_simp
  refine (HW.out _ _ (CxsAt.four Fs4_3)).mono ?_
  rintro e w4 ⟨rfl, g4⟩
  have t4 := Gr.trans s3 g4
  have Fu_4 := CellsAt.gr (Fu_3) g4
  have lu_4 := CellsAt.lt (Fu_4)
  have Fv_4 := CellsAt.gr (Fv_3) g4
  have lv_4 := CellsAt.lt (Fv_4)
  have Fy_4 := CellsAt.gr (Fy_3) g4
  have ly_4 := CellsAt.lt (Fy_4)
  have Fz_4 := CellsAt.gr (Fz_3) g4
  have lz_4 := CellsAt.lt (Fz_4)
  have Fa_4 := CellsAt.gr (Fa_3) g4
  have la_4 := CellsAt.lt (Fa_4)
  have Fc_4 := CellsAt.gr (Fc_3) g4
  have lc_4 := CellsAt.lt (Fc_4)
  have Fr_4 := CellsAt.gr (Fr_3) g4
  have lr_4 := CellsAt.lt (Fr_4)
  have Fh_4 := CellsAt.gr (Fh_3) g4
  have lh_4 := CellsAt.lt (Fh_4)
  have Fs4_4 := CellsAt.gr (Fs4_3) g4
  have ls4_4 := CellsAt.lt (Fs4_4)
  have z4 := (z3).trans g4
  clear Fu_3 Fv_3 Fy_3 Fz_3 Fa_3 Fc_3 Fr_3 Fh_3 Fs4_3 z3 g4
  refine hK.out _ _ ?_ ?_
  · exact t4
  clear hK K
  try simp only [Act.put, List.setIfInBounds_toArray, List.set_cons_zero, List.set_cons_succ, List.getElem_toArray, List.getElem_cons_zero, List.getElem_cons_succ]
  refine wpG_take (i := 6) (v := ?_) hclG rfl (by kernel_rfl) (by kernel_rfl) (by kernel_rfl) (fun _ _ _ h => h) (by rfl) ?_ ?_
  rotate_left
  · (intro w' hSw; go_simp; try with_reducible rfl)
  try simp only [Act.put, List.setIfInBounds_toArray, List.set_cons_zero, List.set_cons_succ, List.getElem_toArray, List.getElem_cons_zero, List.getElem_cons_succ]
  refine wpG_take (i := 7) (v := ?_) hclG rfl (by kernel_rfl) (by kernel_rfl) (by kernel_rfl) (fun _ _ _ h => h) (by rfl) ?_ ?_
  rotate_left
  · (intro w' hSw; go_simp; try with_reducible rfl)
  try simp only [Act.put, List.setIfInBounds_toArray, List.set_cons_zero, List.set_cons_succ, List.getElem_toArray, List.getElem_cons_zero, List.getElem_cons_succ]
  refine wpG_take (i := 8) (v := ?_) hclG rfl (by kernel_rfl) (by kernel_rfl) (by kernel_rfl) (fun _ _ _ h => h) (by rfl) ?_ ?_
  rotate_left
  · (intro w' hSw; go_simp; try with_reducible rfl)
  try simp only [Act.put, List.setIfInBounds_toArray, List.set_cons_zero, List.set_cons_succ, List.getElem_toArray, List.getElem_cons_zero, List.getElem_cons_succ]
  refine wpG_take (i := 9) (v := ?_) hclG rfl (by kernel_rfl) (by kernel_rfl) (by kernel_rfl) (fun _ _ _ h => h) (by rfl) ?_ ?_
  rotate_left
  · (intro w' hSw; go_simp; try with_reducible rfl)
  try simp only [Act.put, List.setIfInBounds_toArray, List.set_cons_zero, List.set_cons_succ, List.getElem_toArray, List.getElem_cons_zero, List.getElem_cons_succ]
  refine wpG_take (i := 10) (v := ?_) hclG rfl (by kernel_rfl) (by kernel_rfl) (by kernel_rfl) (fun _ _ _ h => h) (by rfl) ?_ ?_
  rotate_left
  · (intro w' hSw; have hk := KS w' hSw; go_split_ands; go_simp; try with_reducible rfl)
  try simp only [Act.put, List.setIfInBounds_toArray, List.set_cons_zero, List.set_cons_succ, List.getElem_toArray, List.getElem_cons_zero, List.getElem_cons_succ]
  refine wpG_take (i := 11) (v := ?_) hclG rfl (by kernel_rfl) (by kernel_rfl) (by kernel_rfl) (fun _ _ _ h => h) (by rfl) ?_ ?_
  rotate_left
  · (intro w' hSw; have hk := KS w' hSw; go_split_ands; go_simp; try with_reducible rfl)
  try simp only [Act.put, List.setIfInBounds_toArray, List.set_cons_zero, List.set_cons_succ, List.getElem_toArray, List.getElem_cons_zero, List.getElem_cons_succ]
  refine wpG_ready (rs := [12]) (by kernel_rfl) (by simp) (fun w5 g5 s5 => ?_)
  refine AllG.cons rfl (fun K hK => ?_) AllG.nil
  have Fu_5 := CellsAt.gr (Fu_4) g5
  have lu_5 := CellsAt.lt (Fu_5)
  have Fv_5 := CellsAt.gr (Fv_4) g5
  have lv_5 := CellsAt.lt (Fv_5)
  have Fy_5 := CellsAt.gr (Fy_4) g5
  have ly_5 := CellsAt.lt (Fy_5)
  have Fz_5 := CellsAt.gr (Fz_4) g5
  have lz_5 := CellsAt.lt (Fz_5)
  have Fa_5 := CellsAt.gr (Fa_4) g5
  have la_5 := CellsAt.lt (Fa_5)
  have Fc_5 := CellsAt.gr (Fc_4) g5
  have lc_5 := CellsAt.lt (Fc_5)
  have Fr_5 := CellsAt.gr (Fr_4) g5
  have lr_5 := CellsAt.lt (Fr_5)
  have Fh_5 := CellsAt.gr (Fh_4) g5
  have lh_5 := CellsAt.lt (Fh_5)
  have Fs4_5 := CellsAt.gr (Fs4_4) g5
  have ls4_5 := CellsAt.lt (Fs4_5)
  have z5 := (z4).trans g5
  clear Fu_4 Fv_4 Fy_4 Fz_4 Fa_4 Fc_4 Fr_4 Fh_4 Fs4_4 z4 g5
  go_simp
  refine hK.out _ _ ?_ ?_
  · exact Gr.alloc s5 _ _
  clear hK K
  try simp only [Act.put, List.setIfInBounds_toArray, List.set_cons_zero, List.set_cons_succ, List.getElem_toArray, List.getElem_cons_zero, List.getElem_cons_succ]
  refine wpG_ready (rs := [13]) (by kernel_rfl) (by simp) (fun w6 g6 s6 => ?_)
  refine AllG.cons rfl (fun K hK => ?_) AllG.nil
  have Fu_6 := CellsAt.gr ((Fu_5).alloc _) g6
  have lu_6 := CellsAt.lt (Fu_6)
  have Fv_6 := CellsAt.gr ((Fv_5).alloc _) g6
  have lv_6 := CellsAt.lt (Fv_6)
  have Fy_6 := CellsAt.gr ((Fy_5).alloc _) g6
  have ly_6 := CellsAt.lt (Fy_6)
  have Fz_6 := CellsAt.gr ((Fz_5).alloc _) g6
  have lz_6 := CellsAt.lt (Fz_6)
  have Fa_6 := CellsAt.gr ((Fa_5).alloc _) g6
  have la_6 := CellsAt.lt (Fa_6)
  have Fc_6 := CellsAt.gr ((Fc_5).alloc _) g6
  have lc_6 := CellsAt.lt (Fc_6)
  have Fr_6 := CellsAt.gr ((Fr_5).alloc _) g6
  have lr_6 := CellsAt.lt (Fr_6)
  have Fh_6 := CellsAt.gr ((Fh_5).alloc _) g6
  have lh_6 := CellsAt.lt (Fh_6)
  have Fs4_6 := CellsAt.gr ((Fs4_5).alloc _) g6
  have ls4_6 := CellsAt.lt (Fs4_6)
  have Fs2_6 := CellsAt.gr (CellsAt.new w5 23 #[.int .i64 ja.re, .int .i64 ja.im, .int .i64 jc.re, .int .i64 jc.im]) g6
  have ls2_6 := CellsAt.lt (Fs2_6)
  have z6 := ((z5).alloc _ _).trans g6
  clear g6
  go_simp
  refine (HV.out _ _ (CxsAt.two Fs2_6)).mono ?_
  rintro e w7 ⟨rfl, g7⟩
  have t7 := Gr.trans s6 g7
  have Fu_7 := CellsAt.gr (Fu_6) g7
  have lu_7 := CellsAt.lt (Fu_7)
  have Fv_7 := CellsAt.gr (Fv_6) g7
  have lv_7 := CellsAt.lt (Fv_7)
  have Fy_7 := CellsAt.gr (Fy_6) g7
  have ly_7 := CellsAt.lt (Fy_7)
  have Fz_7 := CellsAt.gr (Fz_6) g7
  have lz_7 := CellsAt.lt (Fz_7)
  have Fa_7 := CellsAt.gr (Fa_6) g7
  have la_7 := CellsAt.lt (Fa_7)
  have Fc_7 := CellsAt.gr (Fc_6) g7
  have lc_7 := CellsAt.lt (Fc_7)
  have Fr_7 := CellsAt.gr (Fr_6) g7
  have lr_7 := CellsAt.lt (Fr_7)
  have Fh_7 := CellsAt.gr (Fh_6) g7
  have lh_7 := CellsAt.lt (Fh_7)
  have Fs4_7 := CellsAt.gr (Fs4_6) g7
  have ls4_7 := CellsAt.lt (Fs4_7)
  have Fs2_7 := CellsAt.gr (Fs2_6) g7
  have ls2_7 := CellsAt.lt (Fs2_7)
  have z7 := (z6).trans g7
  clear Fu_6 Fv_6 Fy_6 Fz_6 Fa_6 Fc_6 Fr_6 Fh_6 Fs4_6 Fs2_6 z6 g7
  refine hK.out _ _ ?_ ?_
  · exact t7
  clear hK K
  try simp only [Act.put, List.setIfInBounds_toArray, List.set_cons_zero, List.set_cons_succ, List.getElem_toArray, List.getElem_cons_zero, List.getElem_cons_succ]
  refine wpG_take (i := 14) (v := ?_) hclG rfl (by kernel_rfl) (by kernel_rfl) (by kernel_rfl) (fun _ _ _ h => h) (by rfl) ?_ ?_
  rotate_left
  · (intro w' hSw; go_simp; try with_reducible rfl)
  try simp only [Act.put, List.setIfInBounds_toArray, List.set_cons_zero, List.set_cons_succ, List.getElem_toArray, List.getElem_cons_zero, List.getElem_cons_succ]
  refine wpG_take (i := 15) (v := ?_) hclG rfl (by kernel_rfl) (by kernel_rfl) (by kernel_rfl) (fun _ _ _ h => h) (by rfl) ?_ ?_
  rotate_left
  · (intro w' hSw; go_simp; try with_reducible rfl)
  try simp only [Act.put, List.setIfInBounds_toArray, List.set_cons_zero, List.set_cons_succ, List.getElem_toArray, List.getElem_cons_zero, List.getElem_cons_succ]
  refine wpG_done (by kernel_rfl) (fun w8 g8 => ?_) _
  have Fu_8 := CellsAt.gr (Fu_7) g8
  have lu_8 := CellsAt.lt (Fu_8)
  have Fv_8 := CellsAt.gr (Fv_7) g8
  have lv_8 := CellsAt.lt (Fv_8)
  have Fy_8 := CellsAt.gr (Fy_7) g8
  have ly_8 := CellsAt.lt (Fy_8)
  have Fz_8 := CellsAt.gr (Fz_7) g8
  have lz_8 := CellsAt.lt (Fz_8)
  have Fa_8 := CellsAt.gr (Fa_7) g8
  have la_8 := CellsAt.lt (Fa_8)
  have Fc_8 := CellsAt.gr (Fc_7) g8
  have lc_8 := CellsAt.lt (Fc_8)
  have Fr_8 := CellsAt.gr (Fr_7) g8
  have lr_8 := CellsAt.lt (Fr_8)
  have Fh_8 := CellsAt.gr (Fh_7) g8
  have lh_8 := CellsAt.lt (Fh_8)
  have Fs4_8 := CellsAt.gr (Fs4_7) g8
  have ls4_8 := CellsAt.lt (Fs4_8)
  have Fs2_8 := CellsAt.gr (Fs2_7) g8
  have ls2_8 := CellsAt.lt (Fs2_8)
  have z8 := (z7).trans g8
  clear Fu_7 Fv_7 Fy_7 Fz_7 Fa_7 Fc_7 Fr_7 Fh_7 Fs4_7 Fs2_7 z7 g8
  clear hclG KS
  have ch0 := CellsAt.cell (Fh_8) 0
  have ch1 := CellsAt.cell (Fh_8) 1
  have ch2 := CellsAt.cell (Fh_8) 2
  have cu0 := CellsAt.cell (Fu_8) 0
  have cu1 := CellsAt.cell (Fu_8) 1
  have cv0 := CellsAt.cell (Fv_8) 0
  have cv1 := CellsAt.cell (Fv_8) 1
  have cy0 := CellsAt.cell (Fy_8) 0
  have cy1 := CellsAt.cell (Fy_8) 1
  have cz0 := CellsAt.cell (Fz_8) 0
  have cz1 := CellsAt.cell (Fz_8) 1
  have ca0 := CellsAt.cell (Fa_8) 0
  have ca1 := CellsAt.cell (Fa_8) 1
  have cc0 := CellsAt.cell (Fc_8) 0
  have cc1 := CellsAt.cell (Fc_8) 1
  simp only [List.getElem?_toArray, List.getElem?_cons_zero, List.getElem?_cons_succ] at ch0 ch1 ch2 cu0 cu1 cv0 cv1 cy0 cy1 cz0 cz1 ca0 ca1 cc0 cc1
  have mr0 := CellsAt.frozen (Fr_8) 0
  have cr0 := CellsAt.cell (Fr_8) 0
  simp only [List.getElem?_toArray, List.getElem?_cons_zero, List.getElem?_cons_succ] at cr0
  have mr1 := CellsAt.frozen (Fr_8) 1
  have cr1 := CellsAt.cell (Fr_8) 1
  simp only [List.getElem?_toArray, List.getElem?_cons_zero, List.getElem?_cons_succ] at cr1
  have mr2 := CellsAt.frozen (Fr_8) 2
  have cr2 := CellsAt.cell (Fr_8) 2
  simp only [List.getElem?_toArray, List.getElem?_cons_zero, List.getElem?_cons_succ] at cr2
  have mr3 := CellsAt.frozen (Fr_8) 3
  have cr3 := CellsAt.cell (Fr_8) 3
  simp only [List.getElem?_toArray, List.getElem?_cons_zero, List.getElem?_cons_succ] at cr3
  have mr4 := CellsAt.frozen (Fr_8) 4
  have cr4 := CellsAt.cell (Fr_8) 4
  simp only [List.getElem?_toArray, List.getElem?_cons_zero, List.getElem?_cons_succ] at cr4
  have mr5 := CellsAt.frozen (Fr_8) 5
  have cr5 := CellsAt.cell (Fr_8) 5
  simp only [List.getElem?_toArray, List.getElem?_cons_zero, List.getElem?_cons_succ] at cr5
  have mr6 := CellsAt.frozen (Fr_8) 6
  have cr6 := CellsAt.cell (Fr_8) 6
  simp only [List.getElem?_toArray, List.getElem?_cons_zero, List.getElem?_cons_succ] at cr6
  have mr7 := CellsAt.frozen (Fr_8) 7
  have cr7 := CellsAt.cell (Fr_8) 7
  simp only [List.getElem?_toArray, List.getElem?_cons_zero, List.getElem?_cons_succ] at cr7
  go_wp2_with fail
  clear ch0 ch1 ch2 cu0 cu1 cv0 cv1 cy0 cy1 cz0 cz1 ca0 ca1 cc0 cc1 mr0 cr0 mr1 cr1 mr2 cr2 mr3 cr3 mr4 cr4 mr5 cr5 mr6 cr6 mr7 cr7
  refine (HJ.out _).mono ?_
  rintro e w9 ⟨rfl, g9⟩
  have Fu_9 := CellsAt.gr (Fu_8) g9
  have lu_9 := CellsAt.lt (Fu_9)
  have Fv_9 := CellsAt.gr (Fv_8) g9
  have lv_9 := CellsAt.lt (Fv_9)
  have Fy_9 := CellsAt.gr (Fy_8) g9
  have ly_9 := CellsAt.lt (Fy_9)
  have Fz_9 := CellsAt.gr (Fz_8) g9
  have lz_9 := CellsAt.lt (Fz_9)
  have Fa_9 := CellsAt.gr (Fa_8) g9
  have la_9 := CellsAt.lt (Fa_9)
  have Fc_9 := CellsAt.gr (Fc_8) g9
  have lc_9 := CellsAt.lt (Fc_9)
  have Fr_9 := CellsAt.gr (Fr_8) g9
  have lr_9 := CellsAt.lt (Fr_9)
  have Fh_9 := CellsAt.gr (Fh_8) g9
  have lh_9 := CellsAt.lt (Fh_9)
  have Fs4_9 := CellsAt.gr (Fs4_8) g9
  have ls4_9 := CellsAt.lt (Fs4_9)
  have Fs2_9 := CellsAt.gr (Fs2_8) g9
  have ls2_9 := CellsAt.lt (Fs2_9)
  have z9 := (z8).trans g9
  clear Fu_8 Fv_8 Fy_8 Fz_8 Fa_8 Fc_8 Fr_8 Fh_8 Fs4_8 Fs2_8 z8 g9
  have mr0 := CellsAt.frozen (Fr_9) 0
  have cr0 := CellsAt.cell (Fr_9) 0
  simp only [List.getElem?_toArray, List.getElem?_cons_zero, List.getElem?_cons_succ] at cr0
  have mr1 := CellsAt.frozen (Fr_9) 1
  have cr1 := CellsAt.cell (Fr_9) 1
  simp only [List.getElem?_toArray, List.getElem?_cons_zero, List.getElem?_cons_succ] at cr1
  have mr2 := CellsAt.frozen (Fr_9) 2
  have cr2 := CellsAt.cell (Fr_9) 2
  simp only [List.getElem?_toArray, List.getElem?_cons_zero, List.getElem?_cons_succ] at cr2
  have mr3 := CellsAt.frozen (Fr_9) 3
  have cr3 := CellsAt.cell (Fr_9) 3
  simp only [List.getElem?_toArray, List.getElem?_cons_zero, List.getElem?_cons_succ] at cr3
  have mr4 := CellsAt.frozen (Fr_9) 4
  have cr4 := CellsAt.cell (Fr_9) 4
  simp only [List.getElem?_toArray, List.getElem?_cons_zero, List.getElem?_cons_succ] at cr4
  have mr5 := CellsAt.frozen (Fr_9) 5
  have cr5 := CellsAt.cell (Fr_9) 5
  simp only [List.getElem?_toArray, List.getElem?_cons_zero, List.getElem?_cons_succ] at cr5
  have mr6 := CellsAt.frozen (Fr_9) 6
  have cr6 := CellsAt.cell (Fr_9) 6
  simp only [List.getElem?_toArray, List.getElem?_cons_zero, List.getElem?_cons_succ] at cr6
  have mr7 := CellsAt.frozen (Fr_9) 7
  have cr7 := CellsAt.cell (Fr_9) 7
  simp only [List.getElem?_toArray, List.getElem?_cons_zero, List.getElem?_cons_succ] at cr7
  go_wp2_with fail
  clear mr0 cr0 mr1 cr1 mr2 cr2 mr3 cr3 mr4 cr4 mr5 cr5 mr6 cr6 mr7 cr7
  obtain ⟨uf, hqp2⟩ : ∃ zz, zz = ((((((((w9.setCell ⟨w.heap.size + 1 + 1 + 1 + 1 + 1 + 1, 0, none⟩ (.int .i64 q0.re)).setCell ⟨w.heap.size + 1 + 1 + 1 + 1 + 1 + 1, 1, none⟩ (.int .i64 q0.im)).setCell ⟨w.heap.size + 1 + 1 + 1 + 1 + 1 + 1, 2, none⟩ (.int .i64 q1.re)).setCell ⟨w.heap.size + 1 + 1 + 1 + 1 + 1 + 1, 3, none⟩ (.int .i64 q1.im)).setCell ⟨w.heap.size + 1 + 1 + 1 + 1 + 1 + 1, 4, none⟩ (.int .i64 q2.re)).setCell ⟨w.heap.size + 1 + 1 + 1 + 1 + 1 + 1, 5, none⟩ (.int .i64 q2.im)).setCell ⟨w.heap.size + 1 + 1 + 1 + 1 + 1 + 1, 6, none⟩ (.int .i64 q3.re)).setCell ⟨w.heap.size + 1 + 1 + 1 + 1 + 1 + 1, 7, none⟩ (.int .i64 q3.im)) := ⟨_, rfl⟩
  have Yr_p2 : CellsAt uf (w.heap.size + 1 + 1 + 1 + 1 + 1 + 1) 24 #[.int .i64 q0.re, .int .i64 q0.im, .int .i64 q1.re, .int .i64 q1.im, .int .i64 q2.re, .int .i64 q2.im, .int .i64 q3.re, .int .i64 q3.im] := by rw [hqp2]; first | exact CellsAt.set8 (Fr_9) _ _ _ _ _ _ _ _ | simpa using CellsAt.set8 (Fr_9) _ _ _ _ _ _ _ _
  have yp2 : Gr w uf := by rw [hqp2]; exact ((((((((z9).setCell (by first | omega | (simp only; omega)) _).setCell (by first | omega | (simp only; omega)) _).setCell (by first | omega | (simp only; omega)) _).setCell (by first | omega | (simp only; omega)) _).setCell (by first | omega | (simp only; omega)) _).setCell (by first | omega | (simp only; omega)) _).setCell (by first | omega | (simp only; omega)) _).setCell (by first | omega | (simp only; omega)) _
  rw [← hqp2]
  clear hqp2
  have cr0 := CellsAt.cell (Yr_p2) 0
  have cr1 := CellsAt.cell (Yr_p2) 1
  have cr2 := CellsAt.cell (Yr_p2) 2
  have cr3 := CellsAt.cell (Yr_p2) 3
  have cr4 := CellsAt.cell (Yr_p2) 4
  have cr5 := CellsAt.cell (Yr_p2) 5
  have cr6 := CellsAt.cell (Yr_p2) 6
  have cr7 := CellsAt.cell (Yr_p2) 7
  simp only [List.getElem?_toArray, List.getElem?_cons_zero, List.getElem?_cons_succ] at cr0 cr1 cr2 cr3 cr4 cr5 cr6 cr7
  refine bodyPost_ret (v := .tuple #[.agg #[.int .i64 q0.re, .int .i64 q0.im, .int .i64 q1.re, .int .i64 q1.im, .int .i64 q2.re, .int .i64 q2.im, .int .i64 q3.re, .int .i64 q3.im], .int .i64 0]) ?_ rfl ⟨rfl, yp2⟩
  simp [results, Try.results23, go_sem, *]

end Go.Proofs.Ytmhcbphkkcmecaa
