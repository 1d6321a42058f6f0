/- What four that are joined are. -/
import Derived.Test.YtmhcbphkkcmecaaGreatSplitCode1
namespace Go.Proofs.YtmhcbphkkcmecaaGreat
open Go.ChangeShapes Go.WideShapes Go.ChangeAt Go.RowKit
set_option linter.unusedVariables false
set_option linter.unusedSimpArgs false
set_option maxRecDepth 100000


set_option maxHeartbeats 8000000 in
theorem sJoined_of (b mo P n : Int) (inv : Bool) (ju jv jy jz jw1 jw3 t t3 p tt tt3 d U V q0 q1 q2 q3 : Gi) (hP : IntKind.i64.wrap (2 * 2 ^ min b.toNat 64) = P) (hb0 : 0 ≤ b)
    (HT : Hid (∀ W, Calls Tryz.prog 75 #[.agg #[.int .i64 (jy).re, .int .i64 (jy).im], .agg #[.int .i64 (jw1).re, .int .i64 (jw1).im]] W fun e w' => e = .returned (.tuple #[.agg #[.int .i64 (t).re, .int .i64 (t).im], .int .i64 0]) ∧ Gr W w')) (HT3 : Hid (∀ W, Calls Tryz.prog 75 #[.agg #[.int .i64 (jz).re, .int .i64 (jz).im], .agg #[.int .i64 (jw3).re, .int .i64 (jw3).im]] W fun e w' => e = .returned (.tuple #[.agg #[.int .i64 (t3).re, .int .i64 (t3).im], .int .i64 0]) ∧ Gr W w')) (HP : Hid (∀ W, Calls Tryz.prog 51 #[.agg #[.int .i64 (t).re, .int .i64 (t).im], .agg #[.int .i64 (t3).re, .int .i64 (t3).im]] W fun e w' => e = .returned (.tuple #[.agg #[.int .i64 (p).re, .int .i64 (p).im], .int .i64 0]) ∧ Gr W w'))
    (HN : Hid (∀ W, Calls Tryz.prog 76 #[.agg #[.int .i64 b, .int .i64 mo, .bool inv]] W fun e w' => e = .returned (.int .i64 n) ∧ Gr W w')) (HR : Hid (∀ W, Calls Tryz.prog 68 #[.agg #[.int .i64 (t).re, .int .i64 (t).im], .int .i64 n] W fun e w' => e = .returned (.tuple #[.agg #[.int .i64 (tt).re, .int .i64 (tt).im], .int .i64 0]) ∧ Gr W w')) (HR3 : Hid (∀ W, Calls Tryz.prog 68 #[.agg #[.int .i64 (t3).re, .int .i64 (t3).im], .int .i64 n] W fun e w' => e = .returned (.tuple #[.agg #[.int .i64 (tt3).re, .int .i64 (tt3).im], .int .i64 0]) ∧ Gr W w'))
    (HL : Hid (∀ W, Calls Tryz.prog 52 #[.agg #[.int .i64 (tt).re, .int .i64 (tt).im], .agg #[.int .i64 (tt3).re, .int .i64 (tt3).im]] W fun e w' => e = .returned (.tuple #[.agg #[.int .i64 (d).re, .int .i64 (d).im], .int .i64 0]) ∧ Gr W w')) (HU : Hid (∀ W, Calls Tryz.prog 75 #[.agg #[.int .i64 (ju).re, .int .i64 (ju).im], .agg #[.int .i64 P, .int .i64 0]] W fun e w' => e = .returned (.tuple #[.agg #[.int .i64 (U).re, .int .i64 (U).im], .int .i64 0]) ∧ Gr W w')) (HV : Hid (∀ W, Calls Tryz.prog 75 #[.agg #[.int .i64 (jv).re, .int .i64 (jv).im], .agg #[.int .i64 P, .int .i64 0]] W fun e w' => e = .returned (.tuple #[.agg #[.int .i64 (V).re, .int .i64 (V).im], .int .i64 0]) ∧ Gr W w'))
    (HQ0 : Hid (∀ W, Calls Tryz.prog 77 #[.agg #[.int .i64 b, .int .i64 mo, .bool inv], .agg #[.int .i64 (U).re, .int .i64 (U).im], .agg #[.int .i64 (p).re, .int .i64 (p).im], .int .i64 1] W fun e w' => e = .returned (.agg #[.int .i64 (q0).re, .int .i64 (q0).im]) ∧ Gr W w')) (HQ1 : Hid (∀ W, Calls Tryz.prog 77 #[.agg #[.int .i64 b, .int .i64 mo, .bool inv], .agg #[.int .i64 (V).re, .int .i64 (V).im], .agg #[.int .i64 (d).re, .int .i64 (d).im], .int .i64 1] W fun e w' => e = .returned (.agg #[.int .i64 (q1).re, .int .i64 (q1).im]) ∧ Gr W w')) (HQ2 : Hid (∀ W, Calls Tryz.prog 77 #[.agg #[.int .i64 b, .int .i64 mo, .bool inv], .agg #[.int .i64 (U).re, .int .i64 (U).im], .agg #[.int .i64 (p).re, .int .i64 (p).im], .int .i64 (-1)] W fun e w' => e = .returned (.agg #[.int .i64 (q2).re, .int .i64 (q2).im]) ∧ Gr W w')) (HQ3 : Hid (∀ W, Calls Tryz.prog 77 #[.agg #[.int .i64 b, .int .i64 mo, .bool inv], .agg #[.int .i64 (V).re, .int .i64 (V).im], .agg #[.int .i64 (d).re, .int .i64 (d).im], .int .i64 (-1)] W fun e w' => e = .returned (.agg #[.int .i64 (q3).re, .int .i64 (q3).im]) ∧ Gr W w')) (w : World) :
    Calls Tryz.prog 56 #[.agg #[.int .i64 b, .int .i64 mo, .bool inv], .agg #[.int .i64 (ju).re, .int .i64 (ju).im], .agg #[.int .i64 (jv).re, .int .i64 (jv).im], .agg #[.int .i64 (jy).re, .int .i64 (jy).im], .agg #[.int .i64 (jz).re, .int .i64 (jz).im], .agg #[.int .i64 (jw1).re, .int .i64 (jw1).im], .agg #[.int .i64 (jw3).re, .int .i64 (jw3).im]] w fun e w' => e = .returned (.agg #[.int .i64 q0.re, .int .i64 q0.im, .int .i64 q1.re, .int .i64 q1.im, .int .i64 q2.re, .int .i64 q2.im, .int .i64 q3.re, .int .i64 q3.im]) ∧ Gr w w' := by
  go_enter Tryz.func56, Tryz.ntmps56
  go_wp2_with fail
  obtain ⟨u0, hU⟩ : ∃ uu, uu = ((((((((w.alloc (.cells #[.int .i64 b, .int .i64 mo, .bool inv] 37)).alloc (.cells #[.int .i64 ju.re, .int .i64 ju.im] 42)).alloc (.cells #[.int .i64 jv.re, .int .i64 jv.im] 42)).alloc (.cells #[.int .i64 jy.re, .int .i64 jy.im] 42)).alloc (.cells #[.int .i64 jz.re, .int .i64 jz.im] 42)).alloc (.cells #[.int .i64 jw1.re, .int .i64 jw1.im] 42)).alloc (.cells #[.int .i64 jw3.re, .int .i64 jw3.im] 42)).alloc (.cells #[.int .i64 0, .int .i64 0, .int .i64 0, .int .i64 0, .int .i64 0, .int .i64 0, .int .i64 0, .int .i64 0] 83)) := ⟨_, rfl⟩
  have gu : Gr w u0 := by rw [hU]; exact ((((((((Gr.refl w).alloc _ _).alloc _ _).alloc _ _).alloc _ _).alloc _ _).alloc _ _).alloc _ _).alloc _ _
  have R0 : CellsAt u0 (w.heap.size) 37 #[.int .i64 b, .int .i64 mo, .bool inv] := by
    rw [hU]
    have := ((((((((CellsAt.new w 37 #[.int .i64 b, .int .i64 mo, .bool inv]).alloc (.cells #[.int .i64 ju.re, .int .i64 ju.im] 42)).alloc (.cells #[.int .i64 jv.re, .int .i64 jv.im] 42)).alloc (.cells #[.int .i64 jy.re, .int .i64 jy.im] 42)).alloc (.cells #[.int .i64 jz.re, .int .i64 jz.im] 42)).alloc (.cells #[.int .i64 jw1.re, .int .i64 jw1.im] 42)).alloc (.cells #[.int .i64 jw3.re, .int .i64 jw3.im] 42)).alloc (.cells #[.int .i64 0, .int .i64 0, .int .i64 0, .int .i64 0, .int .i64 0, .int .i64 0, .int .i64 0, .int .i64 0] 83))
    simpa only [World.size_alloc] using this
  have R1 : CellsAt u0 (w.heap.size + 1) 42 #[.int .i64 ju.re, .int .i64 ju.im] := by
    rw [hU]
    have := (((((((CellsAt.new (w.alloc (.cells #[.int .i64 b, .int .i64 mo, .bool inv] 37)) 42 #[.int .i64 ju.re, .int .i64 ju.im]).alloc (.cells #[.int .i64 jv.re, .int .i64 jv.im] 42)).alloc (.cells #[.int .i64 jy.re, .int .i64 jy.im] 42)).alloc (.cells #[.int .i64 jz.re, .int .i64 jz.im] 42)).alloc (.cells #[.int .i64 jw1.re, .int .i64 jw1.im] 42)).alloc (.cells #[.int .i64 jw3.re, .int .i64 jw3.im] 42)).alloc (.cells #[.int .i64 0, .int .i64 0, .int .i64 0, .int .i64 0, .int .i64 0, .int .i64 0, .int .i64 0, .int .i64 0] 83))
    simpa only [World.size_alloc] using this
  have R2 : CellsAt u0 (w.heap.size + 1 + 1) 42 #[.int .i64 jv.re, .int .i64 jv.im] := by
    rw [hU]
    have := ((((((CellsAt.new ((w.alloc (.cells #[.int .i64 b, .int .i64 mo, .bool inv] 37)).alloc (.cells #[.int .i64 ju.re, .int .i64 ju.im] 42)) 42 #[.int .i64 jv.re, .int .i64 jv.im]).alloc (.cells #[.int .i64 jy.re, .int .i64 jy.im] 42)).alloc (.cells #[.int .i64 jz.re, .int .i64 jz.im] 42)).alloc (.cells #[.int .i64 jw1.re, .int .i64 jw1.im] 42)).alloc (.cells #[.int .i64 jw3.re, .int .i64 jw3.im] 42)).alloc (.cells #[.int .i64 0, .int .i64 0, .int .i64 0, .int .i64 0, .int .i64 0, .int .i64 0, .int .i64 0, .int .i64 0] 83))
    simpa only [World.size_alloc] using this
  have R3 : CellsAt u0 (w.heap.size + 1 + 1 + 1) 42 #[.int .i64 jy.re, .int .i64 jy.im] := by
    rw [hU]
    have := (((((CellsAt.new (((w.alloc (.cells #[.int .i64 b, .int .i64 mo, .bool inv] 37)).alloc (.cells #[.int .i64 ju.re, .int .i64 ju.im] 42)).alloc (.cells #[.int .i64 jv.re, .int .i64 jv.im] 42)) 42 #[.int .i64 jy.re, .int .i64 jy.im]).alloc (.cells #[.int .i64 jz.re, .int .i64 jz.im] 42)).alloc (.cells #[.int .i64 jw1.re, .int .i64 jw1.im] 42)).alloc (.cells #[.int .i64 jw3.re, .int .i64 jw3.im] 42)).alloc (.cells #[.int .i64 0, .int .i64 0, .int .i64 0, .int .i64 0, .int .i64 0, .int .i64 0, .int .i64 0, .int .i64 0] 83))
    simpa only [World.size_alloc] using this
  have R4 : CellsAt u0 (w.heap.size + 1 + 1 + 1 + 1) 42 #[.int .i64 jz.re, .int .i64 jz.im] := by
    rw [hU]
    have := ((((CellsAt.new ((((w.alloc (.cells #[.int .i64 b, .int .i64 mo, .bool inv] 37)).alloc (.cells #[.int .i64 ju.re, .int .i64 ju.im] 42)).alloc (.cells #[.int .i64 jv.re, .int .i64 jv.im] 42)).alloc (.cells #[.int .i64 jy.re, .int .i64 jy.im] 42)) 42 #[.int .i64 jz.re, .int .i64 jz.im]).alloc (.cells #[.int .i64 jw1.re, .int .i64 jw1.im] 42)).alloc (.cells #[.int .i64 jw3.re, .int .i64 jw3.im] 42)).alloc (.cells #[.int .i64 0, .int .i64 0, .int .i64 0, .int .i64 0, .int .i64 0, .int .i64 0, .int .i64 0, .int .i64 0] 83))
    simpa only [World.size_alloc] using this
  have R5 : CellsAt u0 (w.heap.size + 1 + 1 + 1 + 1 + 1) 42 #[.int .i64 jw1.re, .int .i64 jw1.im] := by
    rw [hU]
    have := (((CellsAt.new (((((w.alloc (.cells #[.int .i64 b, .int .i64 mo, .bool inv] 37)).alloc (.cells #[.int .i64 ju.re, .int .i64 ju.im] 42)).alloc (.cells #[.int .i64 jv.re, .int .i64 jv.im] 42)).alloc (.cells #[.int .i64 jy.re, .int .i64 jy.im] 42)).alloc (.cells #[.int .i64 jz.re, .int .i64 jz.im] 42)) 42 #[.int .i64 jw1.re, .int .i64 jw1.im]).alloc (.cells #[.int .i64 jw3.re, .int .i64 jw3.im] 42)).alloc (.cells #[.int .i64 0, .int .i64 0, .int .i64 0, .int .i64 0, .int .i64 0, .int .i64 0, .int .i64 0, .int .i64 0] 83))
    simpa only [World.size_alloc] using this
  have R6 : CellsAt u0 (w.heap.size + 1 + 1 + 1 + 1 + 1 + 1) 42 #[.int .i64 jw3.re, .int .i64 jw3.im] := by
    rw [hU]
    have := ((CellsAt.new ((((((w.alloc (.cells #[.int .i64 b, .int .i64 mo, .bool inv] 37)).alloc (.cells #[.int .i64 ju.re, .int .i64 ju.im] 42)).alloc (.cells #[.int .i64 jv.re, .int .i64 jv.im] 42)).alloc (.cells #[.int .i64 jy.re, .int .i64 jy.im] 42)).alloc (.cells #[.int .i64 jz.re, .int .i64 jz.im] 42)).alloc (.cells #[.int .i64 jw1.re, .int .i64 jw1.im] 42)) 42 #[.int .i64 jw3.re, .int .i64 jw3.im]).alloc (.cells #[.int .i64 0, .int .i64 0, .int .i64 0, .int .i64 0, .int .i64 0, .int .i64 0, .int .i64 0, .int .i64 0] 83))
    simpa only [World.size_alloc] using this
  have R7 : CellsAt u0 (w.heap.size + 1 + 1 + 1 + 1 + 1 + 1 + 1) 83 #[.int .i64 0, .int .i64 0, .int .i64 0, .int .i64 0, .int .i64 0, .int .i64 0, .int .i64 0, .int .i64 0] := by
    rw [hU]
    have := (CellsAt.new (((((((w.alloc (.cells #[.int .i64 b, .int .i64 mo, .bool inv] 37)).alloc (.cells #[.int .i64 ju.re, .int .i64 ju.im] 42)).alloc (.cells #[.int .i64 jv.re, .int .i64 jv.im] 42)).alloc (.cells #[.int .i64 jy.re, .int .i64 jy.im] 42)).alloc (.cells #[.int .i64 jz.re, .int .i64 jz.im] 42)).alloc (.cells #[.int .i64 jw1.re, .int .i64 jw1.im] 42)).alloc (.cells #[.int .i64 jw3.re, .int .i64 jw3.im] 42)) 83 #[.int .i64 0, .int .i64 0, .int .i64 0, .int .i64 0, .int .i64 0, .int .i64 0, .int .i64 0, .int .i64 0])
    simpa only [World.size_alloc] using this
  rw [← hU]
  clear hU
  have lh := R0.lt
  have lu := R1.lt
  have lv := R2.lt
  have ly := R3.lt
  have lz := R4.lt
  have lw1 := R5.lt
  have lw3 := R6.lt
  have lr := R7.lt
  refine (HT.out _).mono ?_
  rintro e w1 ⟨rfl, g1⟩
  have Fh_1 := CellsAt.gr (R0) g1
  have lh_1 := CellsAt.lt (Fh_1)
  have Fu_1 := CellsAt.gr (R1) g1
  have lu_1 := CellsAt.lt (Fu_1)
  have Fv_1 := CellsAt.gr (R2) g1
  have lv_1 := CellsAt.lt (Fv_1)
  have Fy_1 := CellsAt.gr (R3) g1
  have ly_1 := CellsAt.lt (Fy_1)
  have Fz_1 := CellsAt.gr (R4) g1
  have lz_1 := CellsAt.lt (Fz_1)
  have Fw1_1 := CellsAt.gr (R5) g1
  have lw1_1 := CellsAt.lt (Fw1_1)
  have Fw3_1 := CellsAt.gr (R6) g1
  have lw3_1 := CellsAt.lt (Fw3_1)
  have Fr_1 := CellsAt.gr (R7) g1
  have lr_1 := CellsAt.lt (Fr_1)
  have z1 := (gu).trans g1
  clear R0 R1 R2 R3 R4 R5 R6 R7 gu g1
  have ch0 := CellsAt.cell (Fh_1) 0
  have ch1 := CellsAt.cell (Fh_1) 1
  have ch2 := CellsAt.cell (Fh_1) 2
  have cu0 := CellsAt.cell (Fu_1) 0
  have cu1 := CellsAt.cell (Fu_1) 1
  have cv0 := CellsAt.cell (Fv_1) 0
  have cv1 := CellsAt.cell (Fv_1) 1
  have cy0 := CellsAt.cell (Fy_1) 0
  have cy1 := CellsAt.cell (Fy_1) 1
  have cz0 := CellsAt.cell (Fz_1) 0
  have cz1 := CellsAt.cell (Fz_1) 1
  have cw10 := CellsAt.cell (Fw1_1) 0
  have cw11 := CellsAt.cell (Fw1_1) 1
  have cw30 := CellsAt.cell (Fw3_1) 0
  have cw31 := CellsAt.cell (Fw3_1) 1
  simp only [List.getElem?_toArray, List.getElem?_cons_zero, List.getElem?_cons_succ] at ch0 ch1 ch2 cu0 cu1 cv0 cv1 cy0 cy1 cz0 cz1 cw10 cw11 cw30 cw31
  go_wp2_with fail
  clear ch0 ch1 ch2 cu0 cu1 cv0 cv1 cy0 cy1 cz0 cz1 cw10 cw11 cw30 cw31
  have Yh_p1 : CellsAt (w1.alloc (.cells #[.int .i64 t.re, .int .i64 t.im] 42)) (w.heap.size) 37 #[.int .i64 b, .int .i64 mo, .bool inv] := by first | exact CellsAt.alloc (Fh_1) (.cells #[.int .i64 t.re, .int .i64 t.im] 42) | simpa using CellsAt.alloc (Fh_1) (.cells #[.int .i64 t.re, .int .i64 t.im] 42)
  have Yu_p1 : CellsAt (w1.alloc (.cells #[.int .i64 t.re, .int .i64 t.im] 42)) (w.heap.size + 1) 42 #[.int .i64 ju.re, .int .i64 ju.im] := by first | exact CellsAt.alloc (Fu_1) (.cells #[.int .i64 t.re, .int .i64 t.im] 42) | simpa using CellsAt.alloc (Fu_1) (.cells #[.int .i64 t.re, .int .i64 t.im] 42)
  have Yv_p1 : CellsAt (w1.alloc (.cells #[.int .i64 t.re, .int .i64 t.im] 42)) (w.heap.size + 1 + 1) 42 #[.int .i64 jv.re, .int .i64 jv.im] := by first | exact CellsAt.alloc (Fv_1) (.cells #[.int .i64 t.re, .int .i64 t.im] 42) | simpa using CellsAt.alloc (Fv_1) (.cells #[.int .i64 t.re, .int .i64 t.im] 42)
  have Yy_p1 : CellsAt (w1.alloc (.cells #[.int .i64 t.re, .int .i64 t.im] 42)) (w.heap.size + 1 + 1 + 1) 42 #[.int .i64 jy.re, .int .i64 jy.im] := by first | exact CellsAt.alloc (Fy_1) (.cells #[.int .i64 t.re, .int .i64 t.im] 42) | simpa using CellsAt.alloc (Fy_1) (.cells #[.int .i64 t.re, .int .i64 t.im] 42)
  have Yz_p1 : CellsAt (w1.alloc (.cells #[.int .i64 t.re, .int .i64 t.im] 42)) (w.heap.size + 1 + 1 + 1 + 1) 42 #[.int .i64 jz.re, .int .i64 jz.im] := by first | exact CellsAt.alloc (Fz_1) (.cells #[.int .i64 t.re, .int .i64 t.im] 42) | simpa using CellsAt.alloc (Fz_1) (.cells #[.int .i64 t.re, .int .i64 t.im] 42)
  have Yw1_p1 : CellsAt (w1.alloc (.cells #[.int .i64 t.re, .int .i64 t.im] 42)) (w.heap.size + 1 + 1 + 1 + 1 + 1) 42 #[.int .i64 jw1.re, .int .i64 jw1.im] := by first | exact CellsAt.alloc (Fw1_1) (.cells #[.int .i64 t.re, .int .i64 t.im] 42) | simpa using CellsAt.alloc (Fw1_1) (.cells #[.int .i64 t.re, .int .i64 t.im] 42)
  have Yw3_p1 : CellsAt (w1.alloc (.cells #[.int .i64 t.re, .int .i64 t.im] 42)) (w.heap.size + 1 + 1 + 1 + 1 + 1 + 1) 42 #[.int .i64 jw3.re, .int .i64 jw3.im] := by first | exact CellsAt.alloc (Fw3_1) (.cells #[.int .i64 t.re, .int .i64 t.im] 42) | simpa using CellsAt.alloc (Fw3_1) (.cells #[.int .i64 t.re, .int .i64 t.im] 42)
  have Yr_p1 : CellsAt (w1.alloc (.cells #[.int .i64 t.re, .int .i64 t.im] 42)) (w.heap.size + 1 + 1 + 1 + 1 + 1 + 1 + 1) 83 #[.int .i64 0, .int .i64 0, .int .i64 0, .int .i64 0, .int .i64 0, .int .i64 0, .int .i64 0, .int .i64 0] := by first | exact CellsAt.alloc (Fr_1) (.cells #[.int .i64 t.re, .int .i64 t.im] 42) | simpa using CellsAt.alloc (Fr_1) (.cells #[.int .i64 t.re, .int .i64 t.im] 42)
  have Yt_p1 : CellsAt (w1.alloc (.cells #[.int .i64 t.re, .int .i64 t.im] 42)) (w1.heap.size) 42 #[.int .i64 t.re, .int .i64 t.im] := by first | exact CellsAt.new w1 42 #[.int .i64 t.re, .int .i64 t.im] | simpa using CellsAt.new w1 42 #[.int .i64 t.re, .int .i64 t.im]
  have yp1 := Gr.alloc (z1) #[.int .i64 t.re, .int .i64 t.im] 42
  refine (HT3.out _).mono ?_
  rintro e w2 ⟨rfl, g2⟩
  have Fh_2 := CellsAt.gr (Yh_p1) g2
  have lh_2 := CellsAt.lt (Fh_2)
  have Fu_2 := CellsAt.gr (Yu_p1) g2
  have lu_2 := CellsAt.lt (Fu_2)
  have Fv_2 := CellsAt.gr (Yv_p1) g2
  have lv_2 := CellsAt.lt (Fv_2)
  have Fy_2 := CellsAt.gr (Yy_p1) g2
  have ly_2 := CellsAt.lt (Fy_2)
  have Fz_2 := CellsAt.gr (Yz_p1) g2
  have lz_2 := CellsAt.lt (Fz_2)
  have Fw1_2 := CellsAt.gr (Yw1_p1) g2
  have lw1_2 := CellsAt.lt (Fw1_2)
  have Fw3_2 := CellsAt.gr (Yw3_p1) g2
  have lw3_2 := CellsAt.lt (Fw3_2)
  have Fr_2 := CellsAt.gr (Yr_p1) g2
  have lr_2 := CellsAt.lt (Fr_2)
  have Ft_2 := CellsAt.gr (Yt_p1) g2
  have lt_2 := CellsAt.lt (Ft_2)
  have z2 := (yp1).trans g2
  clear Yh_p1 Yu_p1 Yv_p1 Yy_p1 Yz_p1 Yw1_p1 Yw3_p1 Yr_p1 Yt_p1 yp1 g2
  have ch0 := CellsAt.cell (Fh_2) 0
  have ch1 := CellsAt.cell (Fh_2) 1
  have ch2 := CellsAt.cell (Fh_2) 2
  have cu0 := CellsAt.cell (Fu_2) 0
  have cu1 := CellsAt.cell (Fu_2) 1
  have cv0 := CellsAt.cell (Fv_2) 0
  have cv1 := CellsAt.cell (Fv_2) 1
  have cy0 := CellsAt.cell (Fy_2) 0
  have cy1 := CellsAt.cell (Fy_2) 1
  have cz0 := CellsAt.cell (Fz_2) 0
  have cz1 := CellsAt.cell (Fz_2) 1
  have cw10 := CellsAt.cell (Fw1_2) 0
  have cw11 := CellsAt.cell (Fw1_2) 1
  have cw30 := CellsAt.cell (Fw3_2) 0
  have cw31 := CellsAt.cell (Fw3_2) 1
  have ct0 := CellsAt.cell (Ft_2) 0
  have ct1 := CellsAt.cell (Ft_2) 1
  simp only [List.getElem?_toArray, List.getElem?_cons_zero, List.getElem?_cons_succ] at ch0 ch1 ch2 cu0 cu1 cv0 cv1 cy0 cy1 cz0 cz1 cw10 cw11 cw30 cw31 ct0 ct1
  go_wp2_with fail
  clear ch0 ch1 ch2 cu0 cu1 cv0 cv1 cy0 cy1 cz0 cz1 cw10 cw11 cw30 cw31 ct0 ct1
  have Yh_p2 : CellsAt (w2.alloc (.cells #[.int .i64 t3.re, .int .i64 t3.im] 42)) (w.heap.size) 37 #[.int .i64 b, .int .i64 mo, .bool inv] := by first | exact CellsAt.alloc (Fh_2) (.cells #[.int .i64 t3.re, .int .i64 t3.im] 42) | simpa using CellsAt.alloc (Fh_2) (.cells #[.int .i64 t3.re, .int .i64 t3.im] 42)
  have Yu_p2 : CellsAt (w2.alloc (.cells #[.int .i64 t3.re, .int .i64 t3.im] 42)) (w.heap.size + 1) 42 #[.int .i64 ju.re, .int .i64 ju.im] := by first | exact CellsAt.alloc (Fu_2) (.cells #[.int .i64 t3.re, .int .i64 t3.im] 42) | simpa using CellsAt.alloc (Fu_2) (.cells #[.int .i64 t3.re, .int .i64 t3.im] 42)
  have Yv_p2 : CellsAt (w2.alloc (.cells #[.int .i64 t3.re, .int .i64 t3.im] 42)) (w.heap.size + 1 + 1) 42 #[.int .i64 jv.re, .int .i64 jv.im] := by first | exact CellsAt.alloc (Fv_2) (.cells #[.int .i64 t3.re, .int .i64 t3.im] 42) | simpa using CellsAt.alloc (Fv_2) (.cells #[.int .i64 t3.re, .int .i64 t3.im] 42)
  have Yy_p2 : CellsAt (w2.alloc (.cells #[.int .i64 t3.re, .int .i64 t3.im] 42)) (w.heap.size + 1 + 1 + 1) 42 #[.int .i64 jy.re, .int .i64 jy.im] := by first | exact CellsAt.alloc (Fy_2) (.cells #[.int .i64 t3.re, .int .i64 t3.im] 42) | simpa using CellsAt.alloc (Fy_2) (.cells #[.int .i64 t3.re, .int .i64 t3.im] 42)
  have Yz_p2 : CellsAt (w2.alloc (.cells #[.int .i64 t3.re, .int .i64 t3.im] 42)) (w.heap.size + 1 + 1 + 1 + 1) 42 #[.int .i64 jz.re, .int .i64 jz.im] := by first | exact CellsAt.alloc (Fz_2) (.cells #[.int .i64 t3.re, .int .i64 t3.im] 42) | simpa using CellsAt.alloc (Fz_2) (.cells #[.int .i64 t3.re, .int .i64 t3.im] 42)
  have Yw1_p2 : CellsAt (w2.alloc (.cells #[.int .i64 t3.re, .int .i64 t3.im] 42)) (w.heap.size + 1 + 1 + 1 + 1 + 1) 42 #[.int .i64 jw1.re, .int .i64 jw1.im] := by first | exact CellsAt.alloc (Fw1_2) (.cells #[.int .i64 t3.re, .int .i64 t3.im] 42) | simpa using CellsAt.alloc (Fw1_2) (.cells #[.int .i64 t3.re, .int .i64 t3.im] 42)
  have Yw3_p2 : CellsAt (w2.alloc (.cells #[.int .i64 t3.re, .int .i64 t3.im] 42)) (w.heap.size + 1 + 1 + 1 + 1 + 1 + 1) 42 #[.int .i64 jw3.re, .int .i64 jw3.im] := by first | exact CellsAt.alloc (Fw3_2) (.cells #[.int .i64 t3.re, .int .i64 t3.im] 42) | simpa using CellsAt.alloc (Fw3_2) (.cells #[.int .i64 t3.re, .int .i64 t3.im] 42)
  have Yr_p2 : CellsAt (w2.alloc (.cells #[.int .i64 t3.re, .int .i64 t3.im] 42)) (w.heap.size + 1 + 1 + 1 + 1 + 1 + 1 + 1) 83 #[.int .i64 0, .int .i64 0, .int .i64 0, .int .i64 0, .int .i64 0, .int .i64 0, .int .i64 0, .int .i64 0] := by first | exact CellsAt.alloc (Fr_2) (.cells #[.int .i64 t3.re, .int .i64 t3.im] 42) | simpa using CellsAt.alloc (Fr_2) (.cells #[.int .i64 t3.re, .int .i64 t3.im] 42)
  have Yt_p2 : CellsAt (w2.alloc (.cells #[.int .i64 t3.re, .int .i64 t3.im] 42)) (w1.heap.size) 42 #[.int .i64 t.re, .int .i64 t.im] := by first | exact CellsAt.alloc (Ft_2) (.cells #[.int .i64 t3.re, .int .i64 t3.im] 42) | simpa using CellsAt.alloc (Ft_2) (.cells #[.int .i64 t3.re, .int .i64 t3.im] 42)
  have Yt3_p2 : CellsAt (w2.alloc (.cells #[.int .i64 t3.re, .int .i64 t3.im] 42)) (w2.heap.size) 42 #[.int .i64 t3.re, .int .i64 t3.im] := by first | exact CellsAt.new w2 42 #[.int .i64 t3.re, .int .i64 t3.im] | simpa using CellsAt.new w2 42 #[.int .i64 t3.re, .int .i64 t3.im]
  have yp2 := Gr.alloc (z2) #[.int .i64 t3.re, .int .i64 t3.im] 42
  refine (HP.out _).mono ?_
  rintro e w3 ⟨rfl, g3⟩
  have Fh_3 := CellsAt.gr (Yh_p2) g3
  have lh_3 := CellsAt.lt (Fh_3)
  have Fu_3 := CellsAt.gr (Yu_p2) g3
  have lu_3 := CellsAt.lt (Fu_3)
  have Fv_3 := CellsAt.gr (Yv_p2) g3
  have lv_3 := CellsAt.lt (Fv_3)
  have Fy_3 := CellsAt.gr (Yy_p2) g3
  have ly_3 := CellsAt.lt (Fy_3)
  have Fz_3 := CellsAt.gr (Yz_p2) g3
  have lz_3 := CellsAt.lt (Fz_3)
  have Fw1_3 := CellsAt.gr (Yw1_p2) g3
  have lw1_3 := CellsAt.lt (Fw1_3)
  have Fw3_3 := CellsAt.gr (Yw3_p2) g3
  have lw3_3 := CellsAt.lt (Fw3_3)
  have Fr_3 := CellsAt.gr (Yr_p2) g3
  have lr_3 := CellsAt.lt (Fr_3)
  have Ft_3 := CellsAt.gr (Yt_p2) g3
  have lt_3 := CellsAt.lt (Ft_3)
  have Ft3_3 := CellsAt.gr (Yt3_p2) g3
  have lt3_3 := CellsAt.lt (Ft3_3)
  have z3 := (yp2).trans g3
  clear Yh_p2 Yu_p2 Yv_p2 Yy_p2 Yz_p2 Yw1_p2 Yw3_p2 Yr_p2 Yt_p2 Yt3_p2 yp2 g3
  have ch0 := CellsAt.cell (Fh_3) 0
  have ch1 := CellsAt.cell (Fh_3) 1
  have ch2 := CellsAt.cell (Fh_3) 2
  have cu0 := CellsAt.cell (Fu_3) 0
  have cu1 := CellsAt.cell (Fu_3) 1
  have cv0 := CellsAt.cell (Fv_3) 0
  have cv1 := CellsAt.cell (Fv_3) 1
  have cy0 := CellsAt.cell (Fy_3) 0
  have cy1 := CellsAt.cell (Fy_3) 1
  have cz0 := CellsAt.cell (Fz_3) 0
  have cz1 := CellsAt.cell (Fz_3) 1
  have cw10 := CellsAt.cell (Fw1_3) 0
  have cw11 := CellsAt.cell (Fw1_3) 1
  have cw30 := CellsAt.cell (Fw3_3) 0
  have cw31 := CellsAt.cell (Fw3_3) 1
  have ct0 := CellsAt.cell (Ft_3) 0
  have ct1 := CellsAt.cell (Ft_3) 1
  have ct30 := CellsAt.cell (Ft3_3) 0
  have ct31 := CellsAt.cell (Ft3_3) 1
  simp only [List.getElem?_toArray, List.getElem?_cons_zero, List.getElem?_cons_succ] at ch0 ch1 ch2 cu0 cu1 cv0 cv1 cy0 cy1 cz0 cz1 cw10 cw11 cw30 cw31 ct0 ct1 ct30 ct31
  go_wp2_with fail
  clear ch0 ch1 ch2 cu0 cu1 cv0 cv1 cy0 cy1 cz0 cz1 cw10 cw11 cw30 cw31 ct0 ct1 ct30 ct31
  have Yh_p3 : CellsAt (w3.alloc (.cells #[.int .i64 p.re, .int .i64 p.im] 42)) (w.heap.size) 37 #[.int .i64 b, .int .i64 mo, .bool inv] := by first | exact CellsAt.alloc (Fh_3) (.cells #[.int .i64 p.re, .int .i64 p.im] 42) | simpa using CellsAt.alloc (Fh_3) (.cells #[.int .i64 p.re, .int .i64 p.im] 42)
  have Yu_p3 : CellsAt (w3.alloc (.cells #[.int .i64 p.re, .int .i64 p.im] 42)) (w.heap.size + 1) 42 #[.int .i64 ju.re, .int .i64 ju.im] := by first | exact CellsAt.alloc (Fu_3) (.cells #[.int .i64 p.re, .int .i64 p.im] 42) | simpa using CellsAt.alloc (Fu_3) (.cells #[.int .i64 p.re, .int .i64 p.im] 42)
  have Yv_p3 : CellsAt (w3.alloc (.cells #[.int .i64 p.re, .int .i64 p.im] 42)) (w.heap.size + 1 + 1) 42 #[.int .i64 jv.re, .int .i64 jv.im] := by first | exact CellsAt.alloc (Fv_3) (.cells #[.int .i64 p.re, .int .i64 p.im] 42) | simpa using CellsAt.alloc (Fv_3) (.cells #[.int .i64 p.re, .int .i64 p.im] 42)
  have Yy_p3 : CellsAt (w3.alloc (.cells #[.int .i64 p.re, .int .i64 p.im] 42)) (w.heap.size + 1 + 1 + 1) 42 #[.int .i64 jy.re, .int .i64 jy.im] := by first | exact CellsAt.alloc (Fy_3) (.cells #[.int .i64 p.re, .int .i64 p.im] 42) | simpa using CellsAt.alloc (Fy_3) (.cells #[.int .i64 p.re, .int .i64 p.im] 42)
  have Yz_p3 : CellsAt (w3.alloc (.cells #[.int .i64 p.re, .int .i64 p.im] 42)) (w.heap.size + 1 + 1 + 1 + 1) 42 #[.int .i64 jz.re, .int .i64 jz.im] := by first | exact CellsAt.alloc (Fz_3) (.cells #[.int .i64 p.re, .int .i64 p.im] 42) | simpa using CellsAt.alloc (Fz_3) (.cells #[.int .i64 p.re, .int .i64 p.im] 42)
  have Yw1_p3 : CellsAt (w3.alloc (.cells #[.int .i64 p.re, .int .i64 p.im] 42)) (w.heap.size + 1 + 1 + 1 + 1 + 1) 42 #[.int .i64 jw1.re, .int .i64 jw1.im] := by first | exact CellsAt.alloc (Fw1_3) (.cells #[.int .i64 p.re, .int .i64 p.im] 42) | simpa using CellsAt.alloc (Fw1_3) (.cells #[.int .i64 p.re, .int .i64 p.im] 42)
  have Yw3_p3 : CellsAt (w3.alloc (.cells #[.int .i64 p.re, .int .i64 p.im] 42)) (w.heap.size + 1 + 1 + 1 + 1 + 1 + 1) 42 #[.int .i64 jw3.re, .int .i64 jw3.im] := by first | exact CellsAt.alloc (Fw3_3) (.cells #[.int .i64 p.re, .int .i64 p.im] 42) | simpa using CellsAt.alloc (Fw3_3) (.cells #[.int .i64 p.re, .int .i64 p.im] 42)
  have Yr_p3 : CellsAt (w3.alloc (.cells #[.int .i64 p.re, .int .i64 p.im] 42)) (w.heap.size + 1 + 1 + 1 + 1 + 1 + 1 + 1) 83 #[.int .i64 0, .int .i64 0, .int .i64 0, .int .i64 0, .int .i64 0, .int .i64 0, .int .i64 0, .int .i64 0] := by first | exact CellsAt.alloc (Fr_3) (.cells #[.int .i64 p.re, .int .i64 p.im] 42) | simpa using CellsAt.alloc (Fr_3) (.cells #[.int .i64 p.re, .int .i64 p.im] 42)
  have Yt_p3 : CellsAt (w3.alloc (.cells #[.int .i64 p.re, .int .i64 p.im] 42)) (w1.heap.size) 42 #[.int .i64 t.re, .int .i64 t.im] := by first | exact CellsAt.alloc (Ft_3) (.cells #[.int .i64 p.re, .int .i64 p.im] 42) | simpa using CellsAt.alloc (Ft_3) (.cells #[.int .i64 p.re, .int .i64 p.im] 42)
  have Yt3_p3 : CellsAt (w3.alloc (.cells #[.int .i64 p.re, .int .i64 p.im] 42)) (w2.heap.size) 42 #[.int .i64 t3.re, .int .i64 t3.im] := by first | exact CellsAt.alloc (Ft3_3) (.cells #[.int .i64 p.re, .int .i64 p.im] 42) | simpa using CellsAt.alloc (Ft3_3) (.cells #[.int .i64 p.re, .int .i64 p.im] 42)
  have Yp_p3 : CellsAt (w3.alloc (.cells #[.int .i64 p.re, .int .i64 p.im] 42)) (w3.heap.size) 42 #[.int .i64 p.re, .int .i64 p.im] := by first | exact CellsAt.new w3 42 #[.int .i64 p.re, .int .i64 p.im] | simpa using CellsAt.new w3 42 #[.int .i64 p.re, .int .i64 p.im]
  have yp3 := Gr.alloc (z3) #[.int .i64 p.re, .int .i64 p.im] 42
  generalize (w3.alloc (.cells #[.int .i64 p.re, .int .i64 p.im] 42)) = v3 at *
  have KS : ∀ W, GB (w1.heap.size) v3 W → (W.cell? ⟨w.heap.size, 0, none⟩ = some (.int .i64 b) ∧ W.cell? ⟨w.heap.size, 1, none⟩ = some (.int .i64 mo) ∧ W.cell? ⟨w.heap.size, 2, none⟩ = some (.bool inv)) := fun W hG => ⟨(GB.cellsAt hG Yh_p3 (by omega)).cell 0, (GB.cellsAt hG Yh_p3 (by omega)).cell 1, (GB.cellsAt hG Yh_p3 (by omega)).cell 2⟩
  have hclG := gb_closed (w1.heap.size) v3
  try simp only [List.append_eq, List.cons_append, List.nil_append]
  refine wp_region_grow (S := GB (w1.heap.size) v3) rfl (GB.drew (GB.refl _ _)) ?_
  refine wpG_take (i := 1) (v := ?_) hclG rfl (by kernel_rfl) (by kernel_rfl) (by kernel_rfl) (fun _ _ _ h => h) (by rfl) ?_ ?_
  rotate_left
  · (intro w' hSw; have hk := KS w' hSw; go_split_ands; go_simp; try with_reducible rfl)
  try simp only [Act.put, List.setIfInBounds_toArray, List.set_cons_zero, List.set_cons_succ, List.getElem_toArray, List.getElem_cons_zero, List.getElem_cons_succ]
  refine wpG_call (i := 2) hclG rfl (by kernel_rfl) (by kernel_rfl) (by kernel_rfl) (fun _ _ _ h => h) (fun W hS => HN.out W) (by rfl) ?_ ?_
  · (intro w' hSw; go_simp; try with_reducible rfl)
  try simp only [Act.put, List.setIfInBounds_toArray, List.set_cons_zero, List.set_cons_succ, List.getElem_toArray, List.getElem_cons_zero, List.getElem_cons_succ]
  refine wpG_ready (rs := [0]) (by kernel_rfl) (by simp) (fun w4 g4 s4 => ?_)
  refine AllG.cons rfl (fun K hK => ?_) AllG.nil
  replace g4 := (Gr.drew (Gr.refl v3)).trans g4
  have Fh_4 := CellsAt.gr (Yh_p3) g4
  have lh_4 := CellsAt.lt (Fh_4)
  have Fu_4 := CellsAt.gr (Yu_p3) g4
  have lu_4 := CellsAt.lt (Fu_4)
  have Fv_4 := CellsAt.gr (Yv_p3) g4
  have lv_4 := CellsAt.lt (Fv_4)
  have Fy_4 := CellsAt.gr (Yy_p3) g4
  have ly_4 := CellsAt.lt (Fy_4)
  have Fz_4 := CellsAt.gr (Yz_p3) g4
  have lz_4 := CellsAt.lt (Fz_4)
  have Fw1_4 := CellsAt.gr (Yw1_p3) g4
  have lw1_4 := CellsAt.lt (Fw1_4)
  have Fw3_4 := CellsAt.gr (Yw3_p3) g4
  have lw3_4 := CellsAt.lt (Fw3_4)
  have Fr_4 := CellsAt.gr (Yr_p3) g4
  have lr_4 := CellsAt.lt (Fr_4)
  have Ft_4 := CellsAt.gr (Yt_p3) g4
  have lt_4 := CellsAt.lt (Ft_4)
  have Ft3_4 := CellsAt.gr (Yt3_p3) g4
  have lt3_4 := CellsAt.lt (Ft3_4)
  have Fp_4 := CellsAt.gr (Yp_p3) g4
  have lp_4 := CellsAt.lt (Fp_4)
  have z4 := (yp3).trans g4
  clear Yh_p3 Yu_p3 Yv_p3 Yy_p3 Yz_p3 Yw1_p3 Yw3_p3 Yr_p3 Yt_p3 Yt3_p3 Yp_p3 yp3 g4
  have ct0 := CellsAt.cell (Ft_4) 0
  have ct1 := CellsAt.cell (Ft_4) 1
  simp only [List.getElem?_toArray, List.getElem?_cons_zero, List.getElem?_cons_succ] at ct0 ct1
  go_simp
  clear ct0 ct1
  refine hK.out _ _ ?_ ?_
  · exact s4
  clear hK K
  try simp only [Act.put, List.setIfInBounds_toArray, List.set_cons_zero, List.set_cons_succ, List.getElem_toArray, List.getElem_cons_zero, List.getElem_cons_succ]
  refine wpG_call (i := 3) hclG rfl (by kernel_rfl) (by kernel_rfl) (by kernel_rfl) (fun _ _ _ h => h) (fun W hS => HR.out W) (by rfl) ?_ ?_
  · (intro w' hSw; go_simp; try with_reducible rfl)
  try simp only [Act.put, List.setIfInBounds_toArray, List.set_cons_zero, List.set_cons_succ, List.getElem_toArray, List.getElem_cons_zero, List.getElem_cons_succ]
  refine wpG_take (i := 4) (v := ?_) hclG rfl (by kernel_rfl) (by kernel_rfl) (by kernel_rfl) (fun _ _ _ h => h) (by rfl) ?_ ?_
  rotate_left
  · (intro w' hSw; go_simp; try with_reducible rfl)
  try simp only [Act.put, List.setIfInBounds_toArray, List.set_cons_zero, List.set_cons_succ, List.getElem_toArray, List.getElem_cons_zero, List.getElem_cons_succ]
  refine wpG_take (i := 5) (v := ?_) hclG rfl (by kernel_rfl) (by kernel_rfl) (by kernel_rfl) (fun _ _ _ h => h) (by rfl) ?_ ?_
  rotate_left
  · (intro w' hSw; go_simp; try with_reducible rfl)
  try simp only [Act.put, List.setIfInBounds_toArray, List.set_cons_zero, List.set_cons_succ, List.getElem_toArray, List.getElem_cons_zero, List.getElem_cons_succ]
  refine wpG_take (i := 6) (v := ?_) hclG rfl (by kernel_rfl) (by kernel_rfl) (by kernel_rfl) (fun _ _ _ h => h) (by rfl) ?_ ?_
  rotate_left
  · (intro w' hSw; go_simp; try with_reducible rfl)
  try simp only [Act.put, List.setIfInBounds_toArray, List.set_cons_zero, List.set_cons_succ, List.getElem_toArray, List.getElem_cons_zero, List.getElem_cons_succ]
  refine wpG_ready (rs := [7]) (by kernel_rfl) (by simp) (fun w5 g5 s5 => ?_)
  refine AllG.cons rfl (fun K hK => ?_) AllG.nil
  have Fh_5 := CellsAt.gr (Fh_4) g5
  have lh_5 := CellsAt.lt (Fh_5)
  have Fu_5 := CellsAt.gr (Fu_4) g5
  have lu_5 := CellsAt.lt (Fu_5)
  have Fv_5 := CellsAt.gr (Fv_4) g5
  have lv_5 := CellsAt.lt (Fv_5)
  have Fy_5 := CellsAt.gr (Fy_4) g5
  have ly_5 := CellsAt.lt (Fy_5)
  have Fz_5 := CellsAt.gr (Fz_4) g5
  have lz_5 := CellsAt.lt (Fz_5)
  have Fw1_5 := CellsAt.gr (Fw1_4) g5
  have lw1_5 := CellsAt.lt (Fw1_5)
  have Fw3_5 := CellsAt.gr (Fw3_4) g5
  have lw3_5 := CellsAt.lt (Fw3_5)
  have Fr_5 := CellsAt.gr (Fr_4) g5
  have lr_5 := CellsAt.lt (Fr_5)
  have Ft_5 := CellsAt.gr (Ft_4) g5
  have lt_5 := CellsAt.lt (Ft_5)
  have Ft3_5 := CellsAt.gr (Ft3_4) g5
  have lt3_5 := CellsAt.lt (Ft3_5)
  have Fp_5 := CellsAt.gr (Fp_4) g5
  have lp_5 := CellsAt.lt (Fp_5)
  have z5 := (z4).trans g5
  clear Fh_4 Fu_4 Fv_4 Fy_4 Fz_4 Fw1_4 Fw3_4 Fr_4 Ft_4 Ft3_4 Fp_4 z4 g5
  have mt0 := CellsAt.frozen (Ft_5) 0
  have ct0 := CellsAt.cell (Ft_5) 0
  simp only [List.getElem?_toArray, List.getElem?_cons_zero, List.getElem?_cons_succ] at ct0
  have mt1 := CellsAt.frozen (Ft_5) 1
  have ct1 := CellsAt.cell (Ft_5) 1
  simp only [List.getElem?_toArray, List.getElem?_cons_zero, List.getElem?_cons_succ] at ct1
  go_simp
  clear mt0 ct0 mt1 ct1
  refine hK.out _ _ ?_ ?_
  · exact (GB.set (GB.set s5 _ _) _ _)
  clear hK K
  try simp only [Act.put, List.setIfInBounds_toArray, List.set_cons_zero, List.set_cons_succ, List.getElem_toArray, List.getElem_cons_zero, List.getElem_cons_succ]
  have Yh_p4 : CellsAt ((w5.setCell ⟨w1.heap.size, 0, none⟩ (.int .i64 tt.re)).setCell ⟨w1.heap.size, 1, none⟩ (.int .i64 tt.im)) (w.heap.size) 37 #[.int .i64 b, .int .i64 mo, .bool inv] := by first | exact CellsAt.other (CellsAt.other (Fh_5) (by omega) 0 (.int .i64 tt.re)) (by omega) 1 (.int .i64 tt.im) | simpa using CellsAt.other (CellsAt.other (Fh_5) (by omega) 0 (.int .i64 tt.re)) (by omega) 1 (.int .i64 tt.im)
  have Yu_p4 : CellsAt ((w5.setCell ⟨w1.heap.size, 0, none⟩ (.int .i64 tt.re)).setCell ⟨w1.heap.size, 1, none⟩ (.int .i64 tt.im)) (w.heap.size + 1) 42 #[.int .i64 ju.re, .int .i64 ju.im] := by first | exact CellsAt.other (CellsAt.other (Fu_5) (by omega) 0 (.int .i64 tt.re)) (by omega) 1 (.int .i64 tt.im) | simpa using CellsAt.other (CellsAt.other (Fu_5) (by omega) 0 (.int .i64 tt.re)) (by omega) 1 (.int .i64 tt.im)
  have Yv_p4 : CellsAt ((w5.setCell ⟨w1.heap.size, 0, none⟩ (.int .i64 tt.re)).setCell ⟨w1.heap.size, 1, none⟩ (.int .i64 tt.im)) (w.heap.size + 1 + 1) 42 #[.int .i64 jv.re, .int .i64 jv.im] := by first | exact CellsAt.other (CellsAt.other (Fv_5) (by omega) 0 (.int .i64 tt.re)) (by omega) 1 (.int .i64 tt.im) | simpa using CellsAt.other (CellsAt.other (Fv_5) (by omega) 0 (.int .i64 tt.re)) (by omega) 1 (.int .i64 tt.im)
  have Yy_p4 : CellsAt ((w5.setCell ⟨w1.heap.size, 0, none⟩ (.int .i64 tt.re)).setCell ⟨w1.heap.size, 1, none⟩ (.int .i64 tt.im)) (w.heap.size + 1 + 1 + 1) 42 #[.int .i64 jy.re, .int .i64 jy.im] := by first | exact CellsAt.other (CellsAt.other (Fy_5) (by omega) 0 (.int .i64 tt.re)) (by omega) 1 (.int .i64 tt.im) | simpa using CellsAt.other (CellsAt.other (Fy_5) (by omega) 0 (.int .i64 tt.re)) (by omega) 1 (.int .i64 tt.im)
  have Yz_p4 : CellsAt ((w5.setCell ⟨w1.heap.size, 0, none⟩ (.int .i64 tt.re)).setCell ⟨w1.heap.size, 1, none⟩ (.int .i64 tt.im)) (w.heap.size + 1 + 1 + 1 + 1) 42 #[.int .i64 jz.re, .int .i64 jz.im] := by first | exact CellsAt.other (CellsAt.other (Fz_5) (by omega) 0 (.int .i64 tt.re)) (by omega) 1 (.int .i64 tt.im) | simpa using CellsAt.other (CellsAt.other (Fz_5) (by omega) 0 (.int .i64 tt.re)) (by omega) 1 (.int .i64 tt.im)
  have Yw1_p4 : CellsAt ((w5.setCell ⟨w1.heap.size, 0, none⟩ (.int .i64 tt.re)).setCell ⟨w1.heap.size, 1, none⟩ (.int .i64 tt.im)) (w.heap.size + 1 + 1 + 1 + 1 + 1) 42 #[.int .i64 jw1.re, .int .i64 jw1.im] := by first | exact CellsAt.other (CellsAt.other (Fw1_5) (by omega) 0 (.int .i64 tt.re)) (by omega) 1 (.int .i64 tt.im) | simpa using CellsAt.other (CellsAt.other (Fw1_5) (by omega) 0 (.int .i64 tt.re)) (by omega) 1 (.int .i64 tt.im)
  have Yw3_p4 : CellsAt ((w5.setCell ⟨w1.heap.size, 0, none⟩ (.int .i64 tt.re)).setCell ⟨w1.heap.size, 1, none⟩ (.int .i64 tt.im)) (w.heap.size + 1 + 1 + 1 + 1 + 1 + 1) 42 #[.int .i64 jw3.re, .int .i64 jw3.im] := by first | exact CellsAt.other (CellsAt.other (Fw3_5) (by omega) 0 (.int .i64 tt.re)) (by omega) 1 (.int .i64 tt.im) | simpa using CellsAt.other (CellsAt.other (Fw3_5) (by omega) 0 (.int .i64 tt.re)) (by omega) 1 (.int .i64 tt.im)
  have Yr_p4 : CellsAt ((w5.setCell ⟨w1.heap.size, 0, none⟩ (.int .i64 tt.re)).setCell ⟨w1.heap.size, 1, none⟩ (.int .i64 tt.im)) (w.heap.size + 1 + 1 + 1 + 1 + 1 + 1 + 1) 83 #[.int .i64 0, .int .i64 0, .int .i64 0, .int .i64 0, .int .i64 0, .int .i64 0, .int .i64 0, .int .i64 0] := by first | exact CellsAt.other (CellsAt.other (Fr_5) (by omega) 0 (.int .i64 tt.re)) (by omega) 1 (.int .i64 tt.im) | simpa using CellsAt.other (CellsAt.other (Fr_5) (by omega) 0 (.int .i64 tt.re)) (by omega) 1 (.int .i64 tt.im)
  have Yt_p4 : CellsAt ((w5.setCell ⟨w1.heap.size, 0, none⟩ (.int .i64 tt.re)).setCell ⟨w1.heap.size, 1, none⟩ (.int .i64 tt.im)) (w1.heap.size) 42 #[.int .i64 tt.re, .int .i64 tt.im] := by first | exact CellsAt.set (CellsAt.set (Ft_5) 0 (.int .i64 tt.re)) 1 (.int .i64 tt.im) | simpa using CellsAt.set (CellsAt.set (Ft_5) 0 (.int .i64 tt.re)) 1 (.int .i64 tt.im)
  have Yt3_p4 : CellsAt ((w5.setCell ⟨w1.heap.size, 0, none⟩ (.int .i64 tt.re)).setCell ⟨w1.heap.size, 1, none⟩ (.int .i64 tt.im)) (w2.heap.size) 42 #[.int .i64 t3.re, .int .i64 t3.im] := by first | exact CellsAt.other (CellsAt.other (Ft3_5) (by omega) 0 (.int .i64 tt.re)) (by omega) 1 (.int .i64 tt.im) | simpa using CellsAt.other (CellsAt.other (Ft3_5) (by omega) 0 (.int .i64 tt.re)) (by omega) 1 (.int .i64 tt.im)
  have Yp_p4 : CellsAt ((w5.setCell ⟨w1.heap.size, 0, none⟩ (.int .i64 tt.re)).setCell ⟨w1.heap.size, 1, none⟩ (.int .i64 tt.im)) (w3.heap.size) 42 #[.int .i64 p.re, .int .i64 p.im] := by first | exact CellsAt.other (CellsAt.other (Fp_5) (by omega) 0 (.int .i64 tt.re)) (by omega) 1 (.int .i64 tt.im) | simpa using CellsAt.other (CellsAt.other (Fp_5) (by omega) 0 (.int .i64 tt.re)) (by omega) 1 (.int .i64 tt.im)
  have yp4 := Gr.setCell (Gr.setCell (z5) (a := ⟨w1.heap.size, 0, none⟩) (by first | omega | (simp only; omega)) (.int .i64 tt.re)) (a := ⟨w1.heap.size, 1, none⟩) (by first | omega | (simp only; omega)) (.int .i64 tt.im)
  refine wpG_done (by kernel_rfl) (fun w6 g6 => ?_) _
  have Fh_6 := CellsAt.gr (Yh_p4) g6
  have lh_6 := CellsAt.lt (Fh_6)
  have Fu_6 := CellsAt.gr (Yu_p4) g6
  have lu_6 := CellsAt.lt (Fu_6)
  have Fv_6 := CellsAt.gr (Yv_p4) g6
  have lv_6 := CellsAt.lt (Fv_6)
  have Fy_6 := CellsAt.gr (Yy_p4) g6
  have ly_6 := CellsAt.lt (Fy_6)
  have Fz_6 := CellsAt.gr (Yz_p4) g6
  have lz_6 := CellsAt.lt (Fz_6)
  have Fw1_6 := CellsAt.gr (Yw1_p4) g6
  have lw1_6 := CellsAt.lt (Fw1_6)
  have Fw3_6 := CellsAt.gr (Yw3_p4) g6
  have lw3_6 := CellsAt.lt (Fw3_6)
  have Fr_6 := CellsAt.gr (Yr_p4) g6
  have lr_6 := CellsAt.lt (Fr_6)
  have Ft_6 := CellsAt.gr (Yt_p4) g6
  have lt_6 := CellsAt.lt (Ft_6)
  have Ft3_6 := CellsAt.gr (Yt3_p4) g6
  have lt3_6 := CellsAt.lt (Ft3_6)
  have Fp_6 := CellsAt.gr (Yp_p4) g6
  have lp_6 := CellsAt.lt (Fp_6)
  have z6 := (yp4).trans g6
  clear Yh_p4 Yu_p4 Yv_p4 Yy_p4 Yz_p4 Yw1_p4 Yw3_p4 Yr_p4 Yt_p4 Yt3_p4 Yp_p4 yp4 g6
  clear hclG KS
  go_wp2_with fail
  have Yh_p5 : CellsAt w6 (w.heap.size) 37 #[.int .i64 b, .int .i64 mo, .bool inv] := by first | exact Fh_6 | simpa using Fh_6
  have Yu_p5 : CellsAt w6 (w.heap.size + 1) 42 #[.int .i64 ju.re, .int .i64 ju.im] := by first | exact Fu_6 | simpa using Fu_6
  have Yv_p5 : CellsAt w6 (w.heap.size + 1 + 1) 42 #[.int .i64 jv.re, .int .i64 jv.im] := by first | exact Fv_6 | simpa using Fv_6
  have Yy_p5 : CellsAt w6 (w.heap.size + 1 + 1 + 1) 42 #[.int .i64 jy.re, .int .i64 jy.im] := by first | exact Fy_6 | simpa using Fy_6
  have Yz_p5 : CellsAt w6 (w.heap.size + 1 + 1 + 1 + 1) 42 #[.int .i64 jz.re, .int .i64 jz.im] := by first | exact Fz_6 | simpa using Fz_6
  have Yw1_p5 : CellsAt w6 (w.heap.size + 1 + 1 + 1 + 1 + 1) 42 #[.int .i64 jw1.re, .int .i64 jw1.im] := by first | exact Fw1_6 | simpa using Fw1_6
  have Yw3_p5 : CellsAt w6 (w.heap.size + 1 + 1 + 1 + 1 + 1 + 1) 42 #[.int .i64 jw3.re, .int .i64 jw3.im] := by first | exact Fw3_6 | simpa using Fw3_6
  have Yr_p5 : CellsAt w6 (w.heap.size + 1 + 1 + 1 + 1 + 1 + 1 + 1) 83 #[.int .i64 0, .int .i64 0, .int .i64 0, .int .i64 0, .int .i64 0, .int .i64 0, .int .i64 0, .int .i64 0] := by first | exact Fr_6 | simpa using Fr_6
  have Yt_p5 : CellsAt w6 (w1.heap.size) 42 #[.int .i64 tt.re, .int .i64 tt.im] := by first | exact Ft_6 | simpa using Ft_6
  have Yt3_p5 : CellsAt w6 (w2.heap.size) 42 #[.int .i64 t3.re, .int .i64 t3.im] := by first | exact Ft3_6 | simpa using Ft3_6
  have Yp_p5 : CellsAt w6 (w3.heap.size) 42 #[.int .i64 p.re, .int .i64 p.im] := by first | exact Fp_6 | simpa using Fp_6
  have yp5 := z6
  generalize w6 = v6 at *
  have KS : ∀ W, GB (w2.heap.size) v6 W → (W.cell? ⟨w.heap.size, 0, none⟩ = some (.int .i64 b) ∧ W.cell? ⟨w.heap.size, 1, none⟩ = some (.int .i64 mo) ∧ W.cell? ⟨w.heap.size, 2, none⟩ = some (.bool inv)) := fun W hG => ⟨(GB.cellsAt hG Yh_p5 (by omega)).cell 0, (GB.cellsAt hG Yh_p5 (by omega)).cell 1, (GB.cellsAt hG Yh_p5 (by omega)).cell 2⟩
  have hclG := gb_closed (w2.heap.size) v6
  try simp only [List.append_eq, List.cons_append, List.nil_append]
  refine wp_region_grow (S := GB (w2.heap.size) v6) rfl (GB.drew (GB.refl _ _)) ?_
  refine wpG_take (i := 1) (v := ?_) hclG rfl (by kernel_rfl) (by kernel_rfl) (by kernel_rfl) (fun _ _ _ h => h) (by rfl) ?_ ?_
  rotate_left
  · (intro w' hSw; have hk := KS w' hSw; go_split_ands; go_simp; try with_reducible rfl)
  try simp only [Act.put, List.setIfInBounds_toArray, List.set_cons_zero, List.set_cons_succ, List.getElem_toArray, List.getElem_cons_zero, List.getElem_cons_succ]
  refine wpG_call (i := 2) hclG rfl (by kernel_rfl) (by kernel_rfl) (by kernel_rfl) (fun _ _ _ h => h) (fun W hS => HN.out W) (by rfl) ?_ ?_
  · (intro w' hSw; go_simp; try with_reducible rfl)
  try simp only [Act.put, List.setIfInBounds_toArray, List.set_cons_zero, List.set_cons_succ, List.getElem_toArray, List.getElem_cons_zero, List.getElem_cons_succ]
  refine wpG_ready (rs := [0]) (by kernel_rfl) (by simp) (fun w7 g7 s7 => ?_)
  refine AllG.cons rfl (fun K hK => ?_) AllG.nil
  replace g7 := (Gr.drew (Gr.refl v6)).trans g7
  have Fh_7 := CellsAt.gr (Yh_p5) g7
  have lh_7 := CellsAt.lt (Fh_7)
  have Fu_7 := CellsAt.gr (Yu_p5) g7
  have lu_7 := CellsAt.lt (Fu_7)
  have Fv_7 := CellsAt.gr (Yv_p5) g7
  have lv_7 := CellsAt.lt (Fv_7)
  have Fy_7 := CellsAt.gr (Yy_p5) g7
  have ly_7 := CellsAt.lt (Fy_7)
  have Fz_7 := CellsAt.gr (Yz_p5) g7
  have lz_7 := CellsAt.lt (Fz_7)
  have Fw1_7 := CellsAt.gr (Yw1_p5) g7
  have lw1_7 := CellsAt.lt (Fw1_7)
  have Fw3_7 := CellsAt.gr (Yw3_p5) g7
  have lw3_7 := CellsAt.lt (Fw3_7)
  have Fr_7 := CellsAt.gr (Yr_p5) g7
  have lr_7 := CellsAt.lt (Fr_7)
  have Ft_7 := CellsAt.gr (Yt_p5) g7
  have lt_7 := CellsAt.lt (Ft_7)
  have Ft3_7 := CellsAt.gr (Yt3_p5) g7
  have lt3_7 := CellsAt.lt (Ft3_7)
  have Fp_7 := CellsAt.gr (Yp_p5) g7
  have lp_7 := CellsAt.lt (Fp_7)
  have z7 := (yp5).trans g7
  clear Yh_p5 Yu_p5 Yv_p5 Yy_p5 Yz_p5 Yw1_p5 Yw3_p5 Yr_p5 Yt_p5 Yt3_p5 Yp_p5 yp5 g7
  have ct30 := CellsAt.cell (Ft3_7) 0
  have ct31 := CellsAt.cell (Ft3_7) 1
  simp only [List.getElem?_toArray, List.getElem?_cons_zero, List.getElem?_cons_succ] at ct30 ct31
  go_simp
  clear ct30 ct31
  refine hK.out _ _ ?_ ?_
  · exact s7
  clear hK K
  try simp only [Act.put, List.setIfInBounds_toArray, List.set_cons_zero, List.set_cons_succ, List.getElem_toArray, List.getElem_cons_zero, List.getElem_cons_succ]
  refine wpG_call (i := 3) hclG rfl (by kernel_rfl) (by kernel_rfl) (by kernel_rfl) (fun _ _ _ h => h) (fun W hS => HR3.out W) (by rfl) ?_ ?_
  · (intro w' hSw; go_simp; try with_reducible rfl)
  try simp only [Act.put, List.setIfInBounds_toArray, List.set_cons_zero, List.set_cons_succ, List.getElem_toArray, List.getElem_cons_zero, List.getElem_cons_succ]
  refine wpG_take (i := 4) (v := ?_) hclG rfl (by kernel_rfl) (by kernel_rfl) (by kernel_rfl) (fun _ _ _ h => h) (by rfl) ?_ ?_
  rotate_left
  · (intro w' hSw; go_simp; try with_reducible rfl)
  try simp only [Act.put, List.setIfInBounds_toArray, List.set_cons_zero, List.set_cons_succ, List.getElem_toArray, List.getElem_cons_zero, List.getElem_cons_succ]
  refine wpG_take (i := 5) (v := ?_) hclG rfl (by kernel_rfl) (by kernel_rfl) (by kernel_rfl) (fun _ _ _ h => h) (by rfl) ?_ ?_
  rotate_left
  · (intro w' hSw; go_simp; try with_reducible rfl)
  try simp only [Act.put, List.setIfInBounds_toArray, List.set_cons_zero, List.set_cons_succ, List.getElem_toArray, List.getElem_cons_zero, List.getElem_cons_succ]
  refine wpG_take (i := 6) (v := ?_) hclG rfl (by kernel_rfl) (by kernel_rfl) (by kernel_rfl) (fun _ _ _ h => h) (by rfl) ?_ ?_
  rotate_left
  · (intro w' hSw; go_simp; try with_reducible rfl)
  try simp only [Act.put, List.setIfInBounds_toArray, List.set_cons_zero, List.set_cons_succ, List.getElem_toArray, List.getElem_cons_zero, List.getElem_cons_succ]
  refine wpG_ready (rs := [7]) (by kernel_rfl) (by simp) (fun w8 g8 s8 => ?_)
  refine AllG.cons rfl (fun K hK => ?_) AllG.nil
  have Fh_8 := CellsAt.gr (Fh_7) g8
  have lh_8 := CellsAt.lt (Fh_8)
  have Fu_8 := CellsAt.gr (Fu_7) g8
  have lu_8 := CellsAt.lt (Fu_8)
  have Fv_8 := CellsAt.gr (Fv_7) g8
  have lv_8 := CellsAt.lt (Fv_8)
  have Fy_8 := CellsAt.gr (Fy_7) g8
  have ly_8 := CellsAt.lt (Fy_8)
  have Fz_8 := CellsAt.gr (Fz_7) g8
  have lz_8 := CellsAt.lt (Fz_8)
  have Fw1_8 := CellsAt.gr (Fw1_7) g8
  have lw1_8 := CellsAt.lt (Fw1_8)
  have Fw3_8 := CellsAt.gr (Fw3_7) g8
  have lw3_8 := CellsAt.lt (Fw3_8)
  have Fr_8 := CellsAt.gr (Fr_7) g8
  have lr_8 := CellsAt.lt (Fr_8)
  have Ft_8 := CellsAt.gr (Ft_7) g8
  have lt_8 := CellsAt.lt (Ft_8)
  have Ft3_8 := CellsAt.gr (Ft3_7) g8
  have lt3_8 := CellsAt.lt (Ft3_8)
  have Fp_8 := CellsAt.gr (Fp_7) g8
  have lp_8 := CellsAt.lt (Fp_8)
  have z8 := (z7).trans g8
  clear Fh_7 Fu_7 Fv_7 Fy_7 Fz_7 Fw1_7 Fw3_7 Fr_7 Ft_7 Ft3_7 Fp_7 z7 g8
  have mt30 := CellsAt.frozen (Ft3_8) 0
  have ct30 := CellsAt.cell (Ft3_8) 0
  simp only [List.getElem?_toArray, List.getElem?_cons_zero, List.getElem?_cons_succ] at ct30
  have mt31 := CellsAt.frozen (Ft3_8) 1
  have ct31 := CellsAt.cell (Ft3_8) 1
  simp only [List.getElem?_toArray, List.getElem?_cons_zero, List.getElem?_cons_succ] at ct31
  go_simp
  clear mt30 ct30 mt31 ct31
  refine hK.out _ _ ?_ ?_
  · exact (GB.set (GB.set s8 _ _) _ _)
  clear hK K
  try simp only [Act.put, List.setIfInBounds_toArray, List.set_cons_zero, List.set_cons_succ, List.getElem_toArray, List.getElem_cons_zero, List.getElem_cons_succ]
  have Yh_p6 : CellsAt ((w8.setCell ⟨w2.heap.size, 0, none⟩ (.int .i64 tt3.re)).setCell ⟨w2.heap.size, 1, none⟩ (.int .i64 tt3.im)) (w.heap.size) 37 #[.int .i64 b, .int .i64 mo, .bool inv] := by first | exact CellsAt.other (CellsAt.other (Fh_8) (by omega) 0 (.int .i64 tt3.re)) (by omega) 1 (.int .i64 tt3.im) | simpa using CellsAt.other (CellsAt.other (Fh_8) (by omega) 0 (.int .i64 tt3.re)) (by omega) 1 (.int .i64 tt3.im)
  have Yu_p6 : CellsAt ((w8.setCell ⟨w2.heap.size, 0, none⟩ (.int .i64 tt3.re)).setCell ⟨w2.heap.size, 1, none⟩ (.int .i64 tt3.im)) (w.heap.size + 1) 42 #[.int .i64 ju.re, .int .i64 ju.im] := by first | exact CellsAt.other (CellsAt.other (Fu_8) (by omega) 0 (.int .i64 tt3.re)) (by omega) 1 (.int .i64 tt3.im) | simpa using CellsAt.other (CellsAt.other (Fu_8) (by omega) 0 (.int .i64 tt3.re)) (by omega) 1 (.int .i64 tt3.im)
  have Yv_p6 : CellsAt ((w8.setCell ⟨w2.heap.size, 0, none⟩ (.int .i64 tt3.re)).setCell ⟨w2.heap.size, 1, none⟩ (.int .i64 tt3.im)) (w.heap.size + 1 + 1) 42 #[.int .i64 jv.re, .int .i64 jv.im] := by first | exact CellsAt.other (CellsAt.other (Fv_8) (by omega) 0 (.int .i64 tt3.re)) (by omega) 1 (.int .i64 tt3.im) | simpa using CellsAt.other (CellsAt.other (Fv_8) (by omega) 0 (.int .i64 tt3.re)) (by omega) 1 (.int .i64 tt3.im)
  have Yy_p6 : CellsAt ((w8.setCell ⟨w2.heap.size, 0, none⟩ (.int .i64 tt3.re)).setCell ⟨w2.heap.size, 1, none⟩ (.int .i64 tt3.im)) (w.heap.size + 1 + 1 + 1) 42 #[.int .i64 jy.re, .int .i64 jy.im] := by first | exact CellsAt.other (CellsAt.other (Fy_8) (by omega) 0 (.int .i64 tt3.re)) (by omega) 1 (.int .i64 tt3.im) | simpa using CellsAt.other (CellsAt.other (Fy_8) (by omega) 0 (.int .i64 tt3.re)) (by omega) 1 (.int .i64 tt3.im)
  have Yz_p6 : CellsAt ((w8.setCell ⟨w2.heap.size, 0, none⟩ (.int .i64 tt3.re)).setCell ⟨w2.heap.size, 1, none⟩ (.int .i64 tt3.im)) (w.heap.size + 1 + 1 + 1 + 1) 42 #[.int .i64 jz.re, .int .i64 jz.im] := by first | exact CellsAt.other (CellsAt.other (Fz_8) (by omega) 0 (.int .i64 tt3.re)) (by omega) 1 (.int .i64 tt3.im) | simpa using CellsAt.other (CellsAt.other (Fz_8) (by omega) 0 (.int .i64 tt3.re)) (by omega) 1 (.int .i64 tt3.im)
  have Yw1_p6 : CellsAt ((w8.setCell ⟨w2.heap.size, 0, none⟩ (.int .i64 tt3.re)).setCell ⟨w2.heap.size, 1, none⟩ (.int .i64 tt3.im)) (w.heap.size + 1 + 1 + 1 + 1 + 1) 42 #[.int .i64 jw1.re, .int .i64 jw1.im] := by first | exact CellsAt.other (CellsAt.other (Fw1_8) (by omega) 0 (.int .i64 tt3.re)) (by omega) 1 (.int .i64 tt3.im) | simpa using CellsAt.other (CellsAt.other (Fw1_8) (by omega) 0 (.int .i64 tt3.re)) (by omega) 1 (.int .i64 tt3.im)
  have Yw3_p6 : CellsAt ((w8.setCell ⟨w2.heap.size, 0, none⟩ (.int .i64 tt3.re)).setCell ⟨w2.heap.size, 1, none⟩ (.int .i64 tt3.im)) (w.heap.size + 1 + 1 + 1 + 1 + 1 + 1) 42 #[.int .i64 jw3.re, .int .i64 jw3.im] := by first | exact CellsAt.other (CellsAt.other (Fw3_8) (by omega) 0 (.int .i64 tt3.re)) (by omega) 1 (.int .i64 tt3.im) | simpa using CellsAt.other (CellsAt.other (Fw3_8) (by omega) 0 (.int .i64 tt3.re)) (by omega) 1 (.int .i64 tt3.im)
  have Yr_p6 : CellsAt ((w8.setCell ⟨w2.heap.size, 0, none⟩ (.int .i64 tt3.re)).setCell ⟨w2.heap.size, 1, none⟩ (.int .i64 tt3.im)) (w.heap.size + 1 + 1 + 1 + 1 + 1 + 1 + 1) 83 #[.int .i64 0, .int .i64 0, .int .i64 0, .int .i64 0, .int .i64 0, .int .i64 0, .int .i64 0, .int .i64 0] := by first | exact CellsAt.other (CellsAt.other (Fr_8) (by omega) 0 (.int .i64 tt3.re)) (by omega) 1 (.int .i64 tt3.im) | simpa using CellsAt.other (CellsAt.other (Fr_8) (by omega) 0 (.int .i64 tt3.re)) (by omega) 1 (.int .i64 tt3.im)
  have Yt_p6 : CellsAt ((w8.setCell ⟨w2.heap.size, 0, none⟩ (.int .i64 tt3.re)).setCell ⟨w2.heap.size, 1, none⟩ (.int .i64 tt3.im)) (w1.heap.size) 42 #[.int .i64 tt.re, .int .i64 tt.im] := by first | exact CellsAt.other (CellsAt.other (Ft_8) (by omega) 0 (.int .i64 tt3.re)) (by omega) 1 (.int .i64 tt3.im) | simpa using CellsAt.other (CellsAt.other (Ft_8) (by omega) 0 (.int .i64 tt3.re)) (by omega) 1 (.int .i64 tt3.im)
  have Yt3_p6 : CellsAt ((w8.setCell ⟨w2.heap.size, 0, none⟩ (.int .i64 tt3.re)).setCell ⟨w2.heap.size, 1, none⟩ (.int .i64 tt3.im)) (w2.heap.size) 42 #[.int .i64 tt3.re, .int .i64 tt3.im] := by first | exact CellsAt.set (CellsAt.set (Ft3_8) 0 (.int .i64 tt3.re)) 1 (.int .i64 tt3.im) | simpa using CellsAt.set (CellsAt.set (Ft3_8) 0 (.int .i64 tt3.re)) 1 (.int .i64 tt3.im)
  have Yp_p6 : CellsAt ((w8.setCell ⟨w2.heap.size, 0, none⟩ (.int .i64 tt3.re)).setCell ⟨w2.heap.size, 1, none⟩ (.int .i64 tt3.im)) (w3.heap.size) 42 #[.int .i64 p.re, .int .i64 p.im] := by first | exact CellsAt.other (CellsAt.other (Fp_8) (by omega) 0 (.int .i64 tt3.re)) (by omega) 1 (.int .i64 tt3.im) | simpa using CellsAt.other (CellsAt.other (Fp_8) (by omega) 0 (.int .i64 tt3.re)) (by omega) 1 (.int .i64 tt3.im)
  have yp6 := Gr.setCell (Gr.setCell (z8) (a := ⟨w2.heap.size, 0, none⟩) (by first | omega | (simp only; omega)) (.int .i64 tt3.re)) (a := ⟨w2.heap.size, 1, none⟩) (by first | omega | (simp only; omega)) (.int .i64 tt3.im)
  refine wpG_done (by kernel_rfl) (fun w9 g9 => ?_) _
  have Fh_9 := CellsAt.gr (Yh_p6) g9
  have lh_9 := CellsAt.lt (Fh_9)
  have Fu_9 := CellsAt.gr (Yu_p6) g9
  have lu_9 := CellsAt.lt (Fu_9)
  have Fv_9 := CellsAt.gr (Yv_p6) g9
  have lv_9 := CellsAt.lt (Fv_9)
  have Fy_9 := CellsAt.gr (Yy_p6) g9
  have ly_9 := CellsAt.lt (Fy_9)
  have Fz_9 := CellsAt.gr (Yz_p6) g9
  have lz_9 := CellsAt.lt (Fz_9)
  have Fw1_9 := CellsAt.gr (Yw1_p6) g9
  have lw1_9 := CellsAt.lt (Fw1_9)
  have Fw3_9 := CellsAt.gr (Yw3_p6) g9
  have lw3_9 := CellsAt.lt (Fw3_9)
  have Fr_9 := CellsAt.gr (Yr_p6) g9
  have lr_9 := CellsAt.lt (Fr_9)
  have Ft_9 := CellsAt.gr (Yt_p6) g9
  have lt_9 := CellsAt.lt (Ft_9)
  have Ft3_9 := CellsAt.gr (Yt3_p6) g9
  have lt3_9 := CellsAt.lt (Ft3_9)
  have Fp_9 := CellsAt.gr (Yp_p6) g9
  have lp_9 := CellsAt.lt (Fp_9)
  have z9 := (yp6).trans g9
  clear Yh_p6 Yu_p6 Yv_p6 Yy_p6 Yz_p6 Yw1_p6 Yw3_p6 Yr_p6 Yt_p6 Yt3_p6 Yp_p6 yp6 g9
  clear hclG KS
  have ct0 := CellsAt.cell (Ft_9) 0
  have ct1 := CellsAt.cell (Ft_9) 1
  have ct30 := CellsAt.cell (Ft3_9) 0
  have ct31 := CellsAt.cell (Ft3_9) 1
  simp only [List.getElem?_toArray, List.getElem?_cons_zero, List.getElem?_cons_succ] at ct0 ct1 ct30 ct31
  go_wp2_with fail
  clear ct0 ct1 ct30 ct31
  refine (HL.out _).mono ?_
  rintro e w10 ⟨rfl, g10⟩
  have Fh_10 := CellsAt.gr (Fh_9) g10
  have lh_10 := CellsAt.lt (Fh_10)
  have Fu_10 := CellsAt.gr (Fu_9) g10
  have lu_10 := CellsAt.lt (Fu_10)
  have Fv_10 := CellsAt.gr (Fv_9) g10
  have lv_10 := CellsAt.lt (Fv_10)
  have Fy_10 := CellsAt.gr (Fy_9) g10
  have ly_10 := CellsAt.lt (Fy_10)
  have Fz_10 := CellsAt.gr (Fz_9) g10
  have lz_10 := CellsAt.lt (Fz_10)
  have Fw1_10 := CellsAt.gr (Fw1_9) g10
  have lw1_10 := CellsAt.lt (Fw1_10)
  have Fw3_10 := CellsAt.gr (Fw3_9) g10
  have lw3_10 := CellsAt.lt (Fw3_10)
  have Fr_10 := CellsAt.gr (Fr_9) g10
  have lr_10 := CellsAt.lt (Fr_10)
  have Ft_10 := CellsAt.gr (Ft_9) g10
  have lt_10 := CellsAt.lt (Ft_10)
  have Ft3_10 := CellsAt.gr (Ft3_9) g10
  have lt3_10 := CellsAt.lt (Ft3_10)
  have Fp_10 := CellsAt.gr (Fp_9) g10
  have lp_10 := CellsAt.lt (Fp_10)
  have z10 := (z9).trans g10
  clear Fh_9 Fu_9 Fv_9 Fy_9 Fz_9 Fw1_9 Fw3_9 Fr_9 Ft_9 Ft3_9 Fp_9 z9 g10
  have ch0 := CellsAt.cell (Fh_10) 0
  have ch1 := CellsAt.cell (Fh_10) 1
  have ch2 := CellsAt.cell (Fh_10) 2
  have cu0 := CellsAt.cell (Fu_10) 0
  have cu1 := CellsAt.cell (Fu_10) 1
  have cv0 := CellsAt.cell (Fv_10) 0
  have cv1 := CellsAt.cell (Fv_10) 1
  have cy0 := CellsAt.cell (Fy_10) 0
  have cy1 := CellsAt.cell (Fy_10) 1
  have cz0 := CellsAt.cell (Fz_10) 0
  have cz1 := CellsAt.cell (Fz_10) 1
  have cw10 := CellsAt.cell (Fw1_10) 0
  have cw11 := CellsAt.cell (Fw1_10) 1
  have cw30 := CellsAt.cell (Fw3_10) 0
  have cw31 := CellsAt.cell (Fw3_10) 1
  have ct0 := CellsAt.cell (Ft_10) 0
  have ct1 := CellsAt.cell (Ft_10) 1
  have ct30 := CellsAt.cell (Ft3_10) 0
  have ct31 := CellsAt.cell (Ft3_10) 1
  simp only [List.getElem?_toArray, List.getElem?_cons_zero, List.getElem?_cons_succ] at ch0 ch1 ch2 cu0 cu1 cv0 cv1 cy0 cy1 cz0 cz1 cw10 cw11 cw30 cw31 ct0 ct1 ct30 ct31
  go_wp2_with fail
  clear ch0 ch1 ch2 cu0 cu1 cv0 cv1 cy0 cy1 cz0 cz1 cw10 cw11 cw30 cw31 ct0 ct1 ct30 ct31
  have Yh_p7 : CellsAt ((w10.alloc (.cells #[.int .i64 d.re, .int .i64 d.im] 42)).alloc (.cells #[.int .i64 P, .int .i64 0] 42)) (w.heap.size) 37 #[.int .i64 b, .int .i64 mo, .bool inv] := by first | exact CellsAt.alloc (CellsAt.alloc (Fh_10) (.cells #[.int .i64 d.re, .int .i64 d.im] 42)) (.cells #[.int .i64 P, .int .i64 0] 42) | simpa using CellsAt.alloc (CellsAt.alloc (Fh_10) (.cells #[.int .i64 d.re, .int .i64 d.im] 42)) (.cells #[.int .i64 P, .int .i64 0] 42)
  have Yu_p7 : CellsAt ((w10.alloc (.cells #[.int .i64 d.re, .int .i64 d.im] 42)).alloc (.cells #[.int .i64 P, .int .i64 0] 42)) (w.heap.size + 1) 42 #[.int .i64 ju.re, .int .i64 ju.im] := by first | exact CellsAt.alloc (CellsAt.alloc (Fu_10) (.cells #[.int .i64 d.re, .int .i64 d.im] 42)) (.cells #[.int .i64 P, .int .i64 0] 42) | simpa using CellsAt.alloc (CellsAt.alloc (Fu_10) (.cells #[.int .i64 d.re, .int .i64 d.im] 42)) (.cells #[.int .i64 P, .int .i64 0] 42)
  have Yv_p7 : CellsAt ((w10.alloc (.cells #[.int .i64 d.re, .int .i64 d.im] 42)).alloc (.cells #[.int .i64 P, .int .i64 0] 42)) (w.heap.size + 1 + 1) 42 #[.int .i64 jv.re, .int .i64 jv.im] := by first | exact CellsAt.alloc (CellsAt.alloc (Fv_10) (.cells #[.int .i64 d.re, .int .i64 d.im] 42)) (.cells #[.int .i64 P, .int .i64 0] 42) | simpa using CellsAt.alloc (CellsAt.alloc (Fv_10) (.cells #[.int .i64 d.re, .int .i64 d.im] 42)) (.cells #[.int .i64 P, .int .i64 0] 42)
  have Yy_p7 : CellsAt ((w10.alloc (.cells #[.int .i64 d.re, .int .i64 d.im] 42)).alloc (.cells #[.int .i64 P, .int .i64 0] 42)) (w.heap.size + 1 + 1 + 1) 42 #[.int .i64 jy.re, .int .i64 jy.im] := by first | exact CellsAt.alloc (CellsAt.alloc (Fy_10) (.cells #[.int .i64 d.re, .int .i64 d.im] 42)) (.cells #[.int .i64 P, .int .i64 0] 42) | simpa using CellsAt.alloc (CellsAt.alloc (Fy_10) (.cells #[.int .i64 d.re, .int .i64 d.im] 42)) (.cells #[.int .i64 P, .int .i64 0] 42)
  have Yz_p7 : CellsAt ((w10.alloc (.cells #[.int .i64 d.re, .int .i64 d.im] 42)).alloc (.cells #[.int .i64 P, .int .i64 0] 42)) (w.heap.size + 1 + 1 + 1 + 1) 42 #[.int .i64 jz.re, .int .i64 jz.im] := by first | exact CellsAt.alloc (CellsAt.alloc (Fz_10) (.cells #[.int .i64 d.re, .int .i64 d.im] 42)) (.cells #[.int .i64 P, .int .i64 0] 42) | simpa using CellsAt.alloc (CellsAt.alloc (Fz_10) (.cells #[.int .i64 d.re, .int .i64 d.im] 42)) (.cells #[.int .i64 P, .int .i64 0] 42)
  have Yw1_p7 : CellsAt ((w10.alloc (.cells #[.int .i64 d.re, .int .i64 d.im] 42)).alloc (.cells #[.int .i64 P, .int .i64 0] 42)) (w.heap.size + 1 + 1 + 1 + 1 + 1) 42 #[.int .i64 jw1.re, .int .i64 jw1.im] := by first | exact CellsAt.alloc (CellsAt.alloc (Fw1_10) (.cells #[.int .i64 d.re, .int .i64 d.im] 42)) (.cells #[.int .i64 P, .int .i64 0] 42) | simpa using CellsAt.alloc (CellsAt.alloc (Fw1_10) (.cells #[.int .i64 d.re, .int .i64 d.im] 42)) (.cells #[.int .i64 P, .int .i64 0] 42)
  have Yw3_p7 : CellsAt ((w10.alloc (.cells #[.int .i64 d.re, .int .i64 d.im] 42)).alloc (.cells #[.int .i64 P, .int .i64 0] 42)) (w.heap.size + 1 + 1 + 1 + 1 + 1 + 1) 42 #[.int .i64 jw3.re, .int .i64 jw3.im] := by first | exact CellsAt.alloc (CellsAt.alloc (Fw3_10) (.cells #[.int .i64 d.re, .int .i64 d.im] 42)) (.cells #[.int .i64 P, .int .i64 0] 42) | simpa using CellsAt.alloc (CellsAt.alloc (Fw3_10) (.cells #[.int .i64 d.re, .int .i64 d.im] 42)) (.cells #[.int .i64 P, .int .i64 0] 42)
  have Yr_p7 : CellsAt ((w10.alloc (.cells #[.int .i64 d.re, .int .i64 d.im] 42)).alloc (.cells #[.int .i64 P, .int .i64 0] 42)) (w.heap.size + 1 + 1 + 1 + 1 + 1 + 1 + 1) 83 #[.int .i64 0, .int .i64 0, .int .i64 0, .int .i64 0, .int .i64 0, .int .i64 0, .int .i64 0, .int .i64 0] := by first | exact CellsAt.alloc (CellsAt.alloc (Fr_10) (.cells #[.int .i64 d.re, .int .i64 d.im] 42)) (.cells #[.int .i64 P, .int .i64 0] 42) | simpa using CellsAt.alloc (CellsAt.alloc (Fr_10) (.cells #[.int .i64 d.re, .int .i64 d.im] 42)) (.cells #[.int .i64 P, .int .i64 0] 42)
  have Yt_p7 : CellsAt ((w10.alloc (.cells #[.int .i64 d.re, .int .i64 d.im] 42)).alloc (.cells #[.int .i64 P, .int .i64 0] 42)) (w1.heap.size) 42 #[.int .i64 tt.re, .int .i64 tt.im] := by first | exact CellsAt.alloc (CellsAt.alloc (Ft_10) (.cells #[.int .i64 d.re, .int .i64 d.im] 42)) (.cells #[.int .i64 P, .int .i64 0] 42) | simpa using CellsAt.alloc (CellsAt.alloc (Ft_10) (.cells #[.int .i64 d.re, .int .i64 d.im] 42)) (.cells #[.int .i64 P, .int .i64 0] 42)
  have Yt3_p7 : CellsAt ((w10.alloc (.cells #[.int .i64 d.re, .int .i64 d.im] 42)).alloc (.cells #[.int .i64 P, .int .i64 0] 42)) (w2.heap.size) 42 #[.int .i64 tt3.re, .int .i64 tt3.im] := by first | exact CellsAt.alloc (CellsAt.alloc (Ft3_10) (.cells #[.int .i64 d.re, .int .i64 d.im] 42)) (.cells #[.int .i64 P, .int .i64 0] 42) | simpa using CellsAt.alloc (CellsAt.alloc (Ft3_10) (.cells #[.int .i64 d.re, .int .i64 d.im] 42)) (.cells #[.int .i64 P, .int .i64 0] 42)
  have Yp_p7 : CellsAt ((w10.alloc (.cells #[.int .i64 d.re, .int .i64 d.im] 42)).alloc (.cells #[.int .i64 P, .int .i64 0] 42)) (w3.heap.size) 42 #[.int .i64 p.re, .int .i64 p.im] := by first | exact CellsAt.alloc (CellsAt.alloc (Fp_10) (.cells #[.int .i64 d.re, .int .i64 d.im] 42)) (.cells #[.int .i64 P, .int .i64 0] 42) | simpa using CellsAt.alloc (CellsAt.alloc (Fp_10) (.cells #[.int .i64 d.re, .int .i64 d.im] 42)) (.cells #[.int .i64 P, .int .i64 0] 42)
  have Yd_p7 : CellsAt ((w10.alloc (.cells #[.int .i64 d.re, .int .i64 d.im] 42)).alloc (.cells #[.int .i64 P, .int .i64 0] 42)) (w10.heap.size) 42 #[.int .i64 d.re, .int .i64 d.im] := by first | exact CellsAt.alloc (CellsAt.new w10 42 #[.int .i64 d.re, .int .i64 d.im]) (.cells #[.int .i64 P, .int .i64 0] 42) | simpa using CellsAt.alloc (CellsAt.new w10 42 #[.int .i64 d.re, .int .i64 d.im]) (.cells #[.int .i64 P, .int .i64 0] 42)
  have Yo_p7 : CellsAt ((w10.alloc (.cells #[.int .i64 d.re, .int .i64 d.im] 42)).alloc (.cells #[.int .i64 P, .int .i64 0] 42)) (w10.heap.size + 1) 42 #[.int .i64 P, .int .i64 0] := by first | exact CellsAt.new (w10.alloc (.cells #[.int .i64 d.re, .int .i64 d.im] 42)) 42 #[.int .i64 P, .int .i64 0] | simpa using CellsAt.new (w10.alloc (.cells #[.int .i64 d.re, .int .i64 d.im] 42)) 42 #[.int .i64 P, .int .i64 0]
  have yp7 := Gr.alloc (Gr.alloc (z10) #[.int .i64 d.re, .int .i64 d.im] 42) #[.int .i64 P, .int .i64 0] 42
  refine (HU.out _).mono ?_
  rintro e w11 ⟨rfl, g11⟩
  have Fh_11 := CellsAt.gr (Yh_p7) g11
  have lh_11 := CellsAt.lt (Fh_11)
  have Fu_11 := CellsAt.gr (Yu_p7) g11
  have lu_11 := CellsAt.lt (Fu_11)
  have Fv_11 := CellsAt.gr (Yv_p7) g11
  have lv_11 := CellsAt.lt (Fv_11)
  have Fy_11 := CellsAt.gr (Yy_p7) g11
  have ly_11 := CellsAt.lt (Fy_11)
  have Fz_11 := CellsAt.gr (Yz_p7) g11
  have lz_11 := CellsAt.lt (Fz_11)
  have Fw1_11 := CellsAt.gr (Yw1_p7) g11
  have lw1_11 := CellsAt.lt (Fw1_11)
  have Fw3_11 := CellsAt.gr (Yw3_p7) g11
  have lw3_11 := CellsAt.lt (Fw3_11)
  have Fr_11 := CellsAt.gr (Yr_p7) g11
  have lr_11 := CellsAt.lt (Fr_11)
  have Ft_11 := CellsAt.gr (Yt_p7) g11
  have lt_11 := CellsAt.lt (Ft_11)
  have Ft3_11 := CellsAt.gr (Yt3_p7) g11
  have lt3_11 := CellsAt.lt (Ft3_11)
  have Fp_11 := CellsAt.gr (Yp_p7) g11
  have lp_11 := CellsAt.lt (Fp_11)
  have Fd_11 := CellsAt.gr (Yd_p7) g11
  have ld_11 := CellsAt.lt (Fd_11)
  have Fo_11 := CellsAt.gr (Yo_p7) g11
  have lo_11 := CellsAt.lt (Fo_11)
  have z11 := (yp7).trans g11
  clear Yh_p7 Yu_p7 Yv_p7 Yy_p7 Yz_p7 Yw1_p7 Yw3_p7 Yr_p7 Yt_p7 Yt3_p7 Yp_p7 Yd_p7 Yo_p7 yp7 g11
  have ch0 := CellsAt.cell (Fh_11) 0
  have ch1 := CellsAt.cell (Fh_11) 1
  have ch2 := CellsAt.cell (Fh_11) 2
  have cu0 := CellsAt.cell (Fu_11) 0
  have cu1 := CellsAt.cell (Fu_11) 1
  have cv0 := CellsAt.cell (Fv_11) 0
  have cv1 := CellsAt.cell (Fv_11) 1
  have cd0 := CellsAt.cell (Fd_11) 0
  have cd1 := CellsAt.cell (Fd_11) 1
  have co0 := CellsAt.cell (Fo_11) 0
  have co1 := CellsAt.cell (Fo_11) 1
  simp only [List.getElem?_toArray, List.getElem?_cons_zero, List.getElem?_cons_succ] at ch0 ch1 ch2 cu0 cu1 cv0 cv1 cd0 cd1 co0 co1
  have mu0 := CellsAt.frozen (Fu_11) 0
  have mu1 := CellsAt.frozen (Fu_11) 1
  go_wp2_with fail
  clear ch0 ch1 ch2 cu0 cu1 cv0 cv1 cd0 cd1 co0 co1 mu0 mu1
  have Yh_p8 : CellsAt ((w11.setCell ⟨w.heap.size + 1, 0, none⟩ (.int .i64 U.re)).setCell ⟨w.heap.size + 1, 1, none⟩ (.int .i64 U.im)) (w.heap.size) 37 #[.int .i64 b, .int .i64 mo, .bool inv] := by first | exact CellsAt.other (CellsAt.other (Fh_11) (by omega) 0 (.int .i64 U.re)) (by omega) 1 (.int .i64 U.im) | simpa using CellsAt.other (CellsAt.other (Fh_11) (by omega) 0 (.int .i64 U.re)) (by omega) 1 (.int .i64 U.im)
  have Yu_p8 : CellsAt ((w11.setCell ⟨w.heap.size + 1, 0, none⟩ (.int .i64 U.re)).setCell ⟨w.heap.size + 1, 1, none⟩ (.int .i64 U.im)) (w.heap.size + 1) 42 #[.int .i64 U.re, .int .i64 U.im] := by first | exact CellsAt.set (CellsAt.set (Fu_11) 0 (.int .i64 U.re)) 1 (.int .i64 U.im) | simpa using CellsAt.set (CellsAt.set (Fu_11) 0 (.int .i64 U.re)) 1 (.int .i64 U.im)
  have Yv_p8 : CellsAt ((w11.setCell ⟨w.heap.size + 1, 0, none⟩ (.int .i64 U.re)).setCell ⟨w.heap.size + 1, 1, none⟩ (.int .i64 U.im)) (w.heap.size + 1 + 1) 42 #[.int .i64 jv.re, .int .i64 jv.im] := by first | exact CellsAt.other (CellsAt.other (Fv_11) (by omega) 0 (.int .i64 U.re)) (by omega) 1 (.int .i64 U.im) | simpa using CellsAt.other (CellsAt.other (Fv_11) (by omega) 0 (.int .i64 U.re)) (by omega) 1 (.int .i64 U.im)
  have Yy_p8 : CellsAt ((w11.setCell ⟨w.heap.size + 1, 0, none⟩ (.int .i64 U.re)).setCell ⟨w.heap.size + 1, 1, none⟩ (.int .i64 U.im)) (w.heap.size + 1 + 1 + 1) 42 #[.int .i64 jy.re, .int .i64 jy.im] := by first | exact CellsAt.other (CellsAt.other (Fy_11) (by omega) 0 (.int .i64 U.re)) (by omega) 1 (.int .i64 U.im) | simpa using CellsAt.other (CellsAt.other (Fy_11) (by omega) 0 (.int .i64 U.re)) (by omega) 1 (.int .i64 U.im)
  have Yz_p8 : CellsAt ((w11.setCell ⟨w.heap.size + 1, 0, none⟩ (.int .i64 U.re)).setCell ⟨w.heap.size + 1, 1, none⟩ (.int .i64 U.im)) (w.heap.size + 1 + 1 + 1 + 1) 42 #[.int .i64 jz.re, .int .i64 jz.im] := by first | exact CellsAt.other (CellsAt.other (Fz_11) (by omega) 0 (.int .i64 U.re)) (by omega) 1 (.int .i64 U.im) | simpa using CellsAt.other (CellsAt.other (Fz_11) (by omega) 0 (.int .i64 U.re)) (by omega) 1 (.int .i64 U.im)
  have Yw1_p8 : CellsAt ((w11.setCell ⟨w.heap.size + 1, 0, none⟩ (.int .i64 U.re)).setCell ⟨w.heap.size + 1, 1, none⟩ (.int .i64 U.im)) (w.heap.size + 1 + 1 + 1 + 1 + 1) 42 #[.int .i64 jw1.re, .int .i64 jw1.im] := by first | exact CellsAt.other (CellsAt.other (Fw1_11) (by omega) 0 (.int .i64 U.re)) (by omega) 1 (.int .i64 U.im) | simpa using CellsAt.other (CellsAt.other (Fw1_11) (by omega) 0 (.int .i64 U.re)) (by omega) 1 (.int .i64 U.im)
  have Yw3_p8 : CellsAt ((w11.setCell ⟨w.heap.size + 1, 0, none⟩ (.int .i64 U.re)).setCell ⟨w.heap.size + 1, 1, none⟩ (.int .i64 U.im)) (w.heap.size + 1 + 1 + 1 + 1 + 1 + 1) 42 #[.int .i64 jw3.re, .int .i64 jw3.im] := by first | exact CellsAt.other (CellsAt.other (Fw3_11) (by omega) 0 (.int .i64 U.re)) (by omega) 1 (.int .i64 U.im) | simpa using CellsAt.other (CellsAt.other (Fw3_11) (by omega) 0 (.int .i64 U.re)) (by omega) 1 (.int .i64 U.im)
  have Yr_p8 : CellsAt ((w11.setCell ⟨w.heap.size + 1, 0, none⟩ (.int .i64 U.re)).setCell ⟨w.heap.size + 1, 1, none⟩ (.int .i64 U.im)) (w.heap.size + 1 + 1 + 1 + 1 + 1 + 1 + 1) 83 #[.int .i64 0, .int .i64 0, .int .i64 0, .int .i64 0, .int .i64 0, .int .i64 0, .int .i64 0, .int .i64 0] := by first | exact CellsAt.other (CellsAt.other (Fr_11) (by omega) 0 (.int .i64 U.re)) (by omega) 1 (.int .i64 U.im) | simpa using CellsAt.other (CellsAt.other (Fr_11) (by omega) 0 (.int .i64 U.re)) (by omega) 1 (.int .i64 U.im)
  have Yt_p8 : CellsAt ((w11.setCell ⟨w.heap.size + 1, 0, none⟩ (.int .i64 U.re)).setCell ⟨w.heap.size + 1, 1, none⟩ (.int .i64 U.im)) (w1.heap.size) 42 #[.int .i64 tt.re, .int .i64 tt.im] := by first | exact CellsAt.other (CellsAt.other (Ft_11) (by omega) 0 (.int .i64 U.re)) (by omega) 1 (.int .i64 U.im) | simpa using CellsAt.other (CellsAt.other (Ft_11) (by omega) 0 (.int .i64 U.re)) (by omega) 1 (.int .i64 U.im)
  have Yt3_p8 : CellsAt ((w11.setCell ⟨w.heap.size + 1, 0, none⟩ (.int .i64 U.re)).setCell ⟨w.heap.size + 1, 1, none⟩ (.int .i64 U.im)) (w2.heap.size) 42 #[.int .i64 tt3.re, .int .i64 tt3.im] := by first | exact CellsAt.other (CellsAt.other (Ft3_11) (by omega) 0 (.int .i64 U.re)) (by omega) 1 (.int .i64 U.im) | simpa using CellsAt.other (CellsAt.other (Ft3_11) (by omega) 0 (.int .i64 U.re)) (by omega) 1 (.int .i64 U.im)
  have Yp_p8 : CellsAt ((w11.setCell ⟨w.heap.size + 1, 0, none⟩ (.int .i64 U.re)).setCell ⟨w.heap.size + 1, 1, none⟩ (.int .i64 U.im)) (w3.heap.size) 42 #[.int .i64 p.re, .int .i64 p.im] := by first | exact CellsAt.other (CellsAt.other (Fp_11) (by omega) 0 (.int .i64 U.re)) (by omega) 1 (.int .i64 U.im) | simpa using CellsAt.other (CellsAt.other (Fp_11) (by omega) 0 (.int .i64 U.re)) (by omega) 1 (.int .i64 U.im)
  have Yd_p8 : CellsAt ((w11.setCell ⟨w.heap.size + 1, 0, none⟩ (.int .i64 U.re)).setCell ⟨w.heap.size + 1, 1, none⟩ (.int .i64 U.im)) (w10.heap.size) 42 #[.int .i64 d.re, .int .i64 d.im] := by first | exact CellsAt.other (CellsAt.other (Fd_11) (by omega) 0 (.int .i64 U.re)) (by omega) 1 (.int .i64 U.im) | simpa using CellsAt.other (CellsAt.other (Fd_11) (by omega) 0 (.int .i64 U.re)) (by omega) 1 (.int .i64 U.im)
  have Yo_p8 : CellsAt ((w11.setCell ⟨w.heap.size + 1, 0, none⟩ (.int .i64 U.re)).setCell ⟨w.heap.size + 1, 1, none⟩ (.int .i64 U.im)) (w10.heap.size + 1) 42 #[.int .i64 P, .int .i64 0] := by first | exact CellsAt.other (CellsAt.other (Fo_11) (by omega) 0 (.int .i64 U.re)) (by omega) 1 (.int .i64 U.im) | simpa using CellsAt.other (CellsAt.other (Fo_11) (by omega) 0 (.int .i64 U.re)) (by omega) 1 (.int .i64 U.im)
  have yp8 := Gr.setCell (Gr.setCell (z11) (a := ⟨w.heap.size + 1, 0, none⟩) (by first | omega | (simp only; omega)) (.int .i64 U.re)) (a := ⟨w.heap.size + 1, 1, none⟩) (by first | omega | (simp only; omega)) (.int .i64 U.im)
  refine (HV.out _).mono ?_
  rintro e w12 ⟨rfl, g12⟩
  have Fh_12 := CellsAt.gr (Yh_p8) g12
  have lh_12 := CellsAt.lt (Fh_12)
  have Fu_12 := CellsAt.gr (Yu_p8) g12
  have lu_12 := CellsAt.lt (Fu_12)
  have Fv_12 := CellsAt.gr (Yv_p8) g12
  have lv_12 := CellsAt.lt (Fv_12)
  have Fy_12 := CellsAt.gr (Yy_p8) g12
  have ly_12 := CellsAt.lt (Fy_12)
  have Fz_12 := CellsAt.gr (Yz_p8) g12
  have lz_12 := CellsAt.lt (Fz_12)
  have Fw1_12 := CellsAt.gr (Yw1_p8) g12
  have lw1_12 := CellsAt.lt (Fw1_12)
  have Fw3_12 := CellsAt.gr (Yw3_p8) g12
  have lw3_12 := CellsAt.lt (Fw3_12)
  have Fr_12 := CellsAt.gr (Yr_p8) g12
  have lr_12 := CellsAt.lt (Fr_12)
  have Ft_12 := CellsAt.gr (Yt_p8) g12
  have lt_12 := CellsAt.lt (Ft_12)
  have Ft3_12 := CellsAt.gr (Yt3_p8) g12
  have lt3_12 := CellsAt.lt (Ft3_12)
  have Fp_12 := CellsAt.gr (Yp_p8) g12
  have lp_12 := CellsAt.lt (Fp_12)
  have Fd_12 := CellsAt.gr (Yd_p8) g12
  have ld_12 := CellsAt.lt (Fd_12)
  have Fo_12 := CellsAt.gr (Yo_p8) g12
  have lo_12 := CellsAt.lt (Fo_12)
  have z12 := (yp8).trans g12
  clear Yh_p8 Yu_p8 Yv_p8 Yy_p8 Yz_p8 Yw1_p8 Yw3_p8 Yr_p8 Yt_p8 Yt3_p8 Yp_p8 Yd_p8 Yo_p8 yp8 g12
  have ch0 := CellsAt.cell (Fh_12) 0
  have ch1 := CellsAt.cell (Fh_12) 1
  have ch2 := CellsAt.cell (Fh_12) 2
  have cu0 := CellsAt.cell (Fu_12) 0
  have cu1 := CellsAt.cell (Fu_12) 1
  have cv0 := CellsAt.cell (Fv_12) 0
  have cv1 := CellsAt.cell (Fv_12) 1
  have cd0 := CellsAt.cell (Fd_12) 0
  have cd1 := CellsAt.cell (Fd_12) 1
  have co0 := CellsAt.cell (Fo_12) 0
  have co1 := CellsAt.cell (Fo_12) 1
  simp only [List.getElem?_toArray, List.getElem?_cons_zero, List.getElem?_cons_succ] at ch0 ch1 ch2 cu0 cu1 cv0 cv1 cd0 cd1 co0 co1
  have mv0 := CellsAt.frozen (Fv_12) 0
  have mv1 := CellsAt.frozen (Fv_12) 1
  go_wp2_with fail
  clear ch0 ch1 ch2 cu0 cu1 cv0 cv1 cd0 cd1 co0 co1 mv0 mv1
  have Yh_p9 : CellsAt ((w12.setCell ⟨w.heap.size + 1 + 1, 0, none⟩ (.int .i64 V.re)).setCell ⟨w.heap.size + 1 + 1, 1, none⟩ (.int .i64 V.im)) (w.heap.size) 37 #[.int .i64 b, .int .i64 mo, .bool inv] := by first | exact CellsAt.other (CellsAt.other (Fh_12) (by omega) 0 (.int .i64 V.re)) (by omega) 1 (.int .i64 V.im) | simpa using CellsAt.other (CellsAt.other (Fh_12) (by omega) 0 (.int .i64 V.re)) (by omega) 1 (.int .i64 V.im)
  have Yu_p9 : CellsAt ((w12.setCell ⟨w.heap.size + 1 + 1, 0, none⟩ (.int .i64 V.re)).setCell ⟨w.heap.size + 1 + 1, 1, none⟩ (.int .i64 V.im)) (w.heap.size + 1) 42 #[.int .i64 U.re, .int .i64 U.im] := by first | exact CellsAt.other (CellsAt.other (Fu_12) (by omega) 0 (.int .i64 V.re)) (by omega) 1 (.int .i64 V.im) | simpa using CellsAt.other (CellsAt.other (Fu_12) (by omega) 0 (.int .i64 V.re)) (by omega) 1 (.int .i64 V.im)
  have Yv_p9 : CellsAt ((w12.setCell ⟨w.heap.size + 1 + 1, 0, none⟩ (.int .i64 V.re)).setCell ⟨w.heap.size + 1 + 1, 1, none⟩ (.int .i64 V.im)) (w.heap.size + 1 + 1) 42 #[.int .i64 V.re, .int .i64 V.im] := by first | exact CellsAt.set (CellsAt.set (Fv_12) 0 (.int .i64 V.re)) 1 (.int .i64 V.im) | simpa using CellsAt.set (CellsAt.set (Fv_12) 0 (.int .i64 V.re)) 1 (.int .i64 V.im)
  have Yy_p9 : CellsAt ((w12.setCell ⟨w.heap.size + 1 + 1, 0, none⟩ (.int .i64 V.re)).setCell ⟨w.heap.size + 1 + 1, 1, none⟩ (.int .i64 V.im)) (w.heap.size + 1 + 1 + 1) 42 #[.int .i64 jy.re, .int .i64 jy.im] := by first | exact CellsAt.other (CellsAt.other (Fy_12) (by omega) 0 (.int .i64 V.re)) (by omega) 1 (.int .i64 V.im) | simpa using CellsAt.other (CellsAt.other (Fy_12) (by omega) 0 (.int .i64 V.re)) (by omega) 1 (.int .i64 V.im)
  have Yz_p9 : CellsAt ((w12.setCell ⟨w.heap.size + 1 + 1, 0, none⟩ (.int .i64 V.re)).setCell ⟨w.heap.size + 1 + 1, 1, none⟩ (.int .i64 V.im)) (w.heap.size + 1 + 1 + 1 + 1) 42 #[.int .i64 jz.re, .int .i64 jz.im] := by first | exact CellsAt.other (CellsAt.other (Fz_12) (by omega) 0 (.int .i64 V.re)) (by omega) 1 (.int .i64 V.im) | simpa using CellsAt.other (CellsAt.other (Fz_12) (by omega) 0 (.int .i64 V.re)) (by omega) 1 (.int .i64 V.im)
  have Yw1_p9 : CellsAt ((w12.setCell ⟨w.heap.size + 1 + 1, 0, none⟩ (.int .i64 V.re)).setCell ⟨w.heap.size + 1 + 1, 1, none⟩ (.int .i64 V.im)) (w.heap.size + 1 + 1 + 1 + 1 + 1) 42 #[.int .i64 jw1.re, .int .i64 jw1.im] := by first | exact CellsAt.other (CellsAt.other (Fw1_12) (by omega) 0 (.int .i64 V.re)) (by omega) 1 (.int .i64 V.im) | simpa using CellsAt.other (CellsAt.other (Fw1_12) (by omega) 0 (.int .i64 V.re)) (by omega) 1 (.int .i64 V.im)
  have Yw3_p9 : CellsAt ((w12.setCell ⟨w.heap.size + 1 + 1, 0, none⟩ (.int .i64 V.re)).setCell ⟨w.heap.size + 1 + 1, 1, none⟩ (.int .i64 V.im)) (w.heap.size + 1 + 1 + 1 + 1 + 1 + 1) 42 #[.int .i64 jw3.re, .int .i64 jw3.im] := by first | exact CellsAt.other (CellsAt.other (Fw3_12) (by omega) 0 (.int .i64 V.re)) (by omega) 1 (.int .i64 V.im) | simpa using CellsAt.other (CellsAt.other (Fw3_12) (by omega) 0 (.int .i64 V.re)) (by omega) 1 (.int .i64 V.im)
  have Yr_p9 : CellsAt ((w12.setCell ⟨w.heap.size + 1 + 1, 0, none⟩ (.int .i64 V.re)).setCell ⟨w.heap.size + 1 + 1, 1, none⟩ (.int .i64 V.im)) (w.heap.size + 1 + 1 + 1 + 1 + 1 + 1 + 1) 83 #[.int .i64 0, .int .i64 0, .int .i64 0, .int .i64 0, .int .i64 0, .int .i64 0, .int .i64 0, .int .i64 0] := by first | exact CellsAt.other (CellsAt.other (Fr_12) (by omega) 0 (.int .i64 V.re)) (by omega) 1 (.int .i64 V.im) | simpa using CellsAt.other (CellsAt.other (Fr_12) (by omega) 0 (.int .i64 V.re)) (by omega) 1 (.int .i64 V.im)
  have Yt_p9 : CellsAt ((w12.setCell ⟨w.heap.size + 1 + 1, 0, none⟩ (.int .i64 V.re)).setCell ⟨w.heap.size + 1 + 1, 1, none⟩ (.int .i64 V.im)) (w1.heap.size) 42 #[.int .i64 tt.re, .int .i64 tt.im] := by first | exact CellsAt.other (CellsAt.other (Ft_12) (by omega) 0 (.int .i64 V.re)) (by omega) 1 (.int .i64 V.im) | simpa using CellsAt.other (CellsAt.other (Ft_12) (by omega) 0 (.int .i64 V.re)) (by omega) 1 (.int .i64 V.im)
  have Yt3_p9 : CellsAt ((w12.setCell ⟨w.heap.size + 1 + 1, 0, none⟩ (.int .i64 V.re)).setCell ⟨w.heap.size + 1 + 1, 1, none⟩ (.int .i64 V.im)) (w2.heap.size) 42 #[.int .i64 tt3.re, .int .i64 tt3.im] := by first | exact CellsAt.other (CellsAt.other (Ft3_12) (by omega) 0 (.int .i64 V.re)) (by omega) 1 (.int .i64 V.im) | simpa using CellsAt.other (CellsAt.other (Ft3_12) (by omega) 0 (.int .i64 V.re)) (by omega) 1 (.int .i64 V.im)
  have Yp_p9 : CellsAt ((w12.setCell ⟨w.heap.size + 1 + 1, 0, none⟩ (.int .i64 V.re)).setCell ⟨w.heap.size + 1 + 1, 1, none⟩ (.int .i64 V.im)) (w3.heap.size) 42 #[.int .i64 p.re, .int .i64 p.im] := by first | exact CellsAt.other (CellsAt.other (Fp_12) (by omega) 0 (.int .i64 V.re)) (by omega) 1 (.int .i64 V.im) | simpa using CellsAt.other (CellsAt.other (Fp_12) (by omega) 0 (.int .i64 V.re)) (by omega) 1 (.int .i64 V.im)
  have Yd_p9 : CellsAt ((w12.setCell ⟨w.heap.size + 1 + 1, 0, none⟩ (.int .i64 V.re)).setCell ⟨w.heap.size + 1 + 1, 1, none⟩ (.int .i64 V.im)) (w10.heap.size) 42 #[.int .i64 d.re, .int .i64 d.im] := by first | exact CellsAt.other (CellsAt.other (Fd_12) (by omega) 0 (.int .i64 V.re)) (by omega) 1 (.int .i64 V.im) | simpa using CellsAt.other (CellsAt.other (Fd_12) (by omega) 0 (.int .i64 V.re)) (by omega) 1 (.int .i64 V.im)
  have Yo_p9 : CellsAt ((w12.setCell ⟨w.heap.size + 1 + 1, 0, none⟩ (.int .i64 V.re)).setCell ⟨w.heap.size + 1 + 1, 1, none⟩ (.int .i64 V.im)) (w10.heap.size + 1) 42 #[.int .i64 P, .int .i64 0] := by first | exact CellsAt.other (CellsAt.other (Fo_12) (by omega) 0 (.int .i64 V.re)) (by omega) 1 (.int .i64 V.im) | simpa using CellsAt.other (CellsAt.other (Fo_12) (by omega) 0 (.int .i64 V.re)) (by omega) 1 (.int .i64 V.im)
  have yp9 := Gr.setCell (Gr.setCell (z12) (a := ⟨w.heap.size + 1 + 1, 0, none⟩) (by first | omega | (simp only; omega)) (.int .i64 V.re)) (a := ⟨w.heap.size + 1 + 1, 1, none⟩) (by first | omega | (simp only; omega)) (.int .i64 V.im)
  generalize ((w12.setCell ⟨w.heap.size + 1 + 1, 0, none⟩ (.int .i64 V.re)).setCell ⟨w.heap.size + 1 + 1, 1, none⟩ (.int .i64 V.im)) = v12 at *
  have KS : ∀ W, GB (w.heap.size + 1 + 1 + 1 + 1 + 1 + 1 + 1) v12 W → (W.cell? ⟨w.heap.size, 0, none⟩ = some (.int .i64 b) ∧ W.cell? ⟨w.heap.size, 1, none⟩ = some (.int .i64 mo) ∧ W.cell? ⟨w.heap.size, 2, none⟩ = some (.bool inv) ∧ W.cell? ⟨w.heap.size + 1, 0, none⟩ = some (.int .i64 U.re) ∧ W.cell? ⟨w.heap.size + 1, 1, none⟩ = some (.int .i64 U.im) ∧ W.cell? ⟨w.heap.size + 1 + 1, 0, none⟩ = some (.int .i64 V.re) ∧ W.cell? ⟨w.heap.size + 1 + 1, 1, none⟩ = some (.int .i64 V.im) ∧ W.cell? ⟨w3.heap.size, 0, none⟩ = some (.int .i64 p.re) ∧ W.cell? ⟨w3.heap.size, 1, none⟩ = some (.int .i64 p.im) ∧ W.cell? ⟨w10.heap.size, 0, none⟩ = some (.int .i64 d.re) ∧ W.cell? ⟨w10.heap.size, 1, none⟩ = some (.int .i64 d.im)) := fun W hG => ⟨(GB.cellsAt hG Yh_p9 (by omega)).cell 0, (GB.cellsAt hG Yh_p9 (by omega)).cell 1, (GB.cellsAt hG Yh_p9 (by omega)).cell 2, (GB.cellsAt hG Yu_p9 (by omega)).cell 0, (GB.cellsAt hG Yu_p9 (by omega)).cell 1, (GB.cellsAt hG Yv_p9 (by omega)).cell 0, (GB.cellsAt hG Yv_p9 (by omega)).cell 1, (GB.cellsAt hG Yp_p9 (by omega)).cell 0, (GB.cellsAt hG Yp_p9 (by omega)).cell 1, (GB.cellsAt hG Yd_p9 (by omega)).cell 0, (GB.cellsAt hG Yd_p9 (by omega)).cell 1⟩
  have hclG := gb_closed (w.heap.size + 1 + 1 + 1 + 1 + 1 + 1 + 1) v12
  try simp only [List.append_eq, List.cons_append, List.nil_append]
  refine wp_region_grow (S := GB (w.heap.size + 1 + 1 + 1 + 1 + 1 + 1 + 1) v12) rfl (GB.drew (GB.refl _ _)) ?_
  refine wpG_take (i := 0) (v := ?_) hclG rfl (by kernel_rfl) (by kernel_rfl) (by kernel_rfl) (fun _ _ _ h => h) (by rfl) ?_ ?_
  rotate_left
  · (intro w' hSw; have hk := KS w' hSw; go_split_ands; go_simp; try with_reducible rfl)
  try simp only [Act.put, List.setIfInBounds_toArray, List.set_cons_zero, List.set_cons_succ, List.getElem_toArray, List.getElem_cons_zero, List.getElem_cons_succ]
  refine wpG_take (i := 1) (v := ?_) hclG rfl (by kernel_rfl) (by kernel_rfl) (by kernel_rfl) (fun _ _ _ h => h) (by rfl) ?_ ?_
  rotate_left
  · (intro w' hSw; have hk := KS w' hSw; go_split_ands; go_simp; try with_reducible rfl)
  try simp only [Act.put, List.setIfInBounds_toArray, List.set_cons_zero, List.set_cons_succ, List.getElem_toArray, List.getElem_cons_zero, List.getElem_cons_succ]
  refine wpG_take (i := 2) (v := ?_) hclG rfl (by kernel_rfl) (by kernel_rfl) (by kernel_rfl) (fun _ _ _ h => h) (by rfl) ?_ ?_
  rotate_left
  · (intro w' hSw; have hk := KS w' hSw; go_split_ands; go_simp; try with_reducible rfl)
  try simp only [Act.put, List.setIfInBounds_toArray, List.set_cons_zero, List.set_cons_succ, List.getElem_toArray, List.getElem_cons_zero, List.getElem_cons_succ]
  refine wpG_call (i := 3) hclG rfl (by kernel_rfl) (by kernel_rfl) (by kernel_rfl) (fun _ _ _ h => h) (fun W hS => HQ0.out W) (by rfl) ?_ ?_
  · (intro w' hSw; go_simp; try with_reducible rfl)
  try simp only [Act.put, List.setIfInBounds_toArray, List.set_cons_zero, List.set_cons_succ, List.getElem_toArray, List.getElem_cons_zero, List.getElem_cons_succ]
  refine wpG_take (i := 4) (v := ?_) hclG rfl (by kernel_rfl) (by kernel_rfl) (by kernel_rfl) (fun _ _ _ h => h) (by rfl) ?_ ?_
  rotate_left
  · (intro w' hSw; have hk := KS w' hSw; go_split_ands; go_simp; try with_reducible rfl)
  try simp only [Act.put, List.setIfInBounds_toArray, List.set_cons_zero, List.set_cons_succ, List.getElem_toArray, List.getElem_cons_zero, List.getElem_cons_succ]
  refine wpG_take (i := 5) (v := ?_) hclG rfl (by kernel_rfl) (by kernel_rfl) (by kernel_rfl) (fun _ _ _ h => h) (by rfl) ?_ ?_
  rotate_left
  · (intro w' hSw; have hk := KS w' hSw; go_split_ands; go_simp; try with_reducible rfl)
  try simp only [Act.put, List.setIfInBounds_toArray, List.set_cons_zero, List.set_cons_succ, List.getElem_toArray, List.getElem_cons_zero, List.getElem_cons_succ]
  refine wpG_take (i := 6) (v := ?_) hclG rfl (by kernel_rfl) (by kernel_rfl) (by kernel_rfl) (fun _ _ _ h => h) (by rfl) ?_ ?_
  rotate_left
  · (intro w' hSw; have hk := KS w' hSw; go_split_ands; go_simp; try with_reducible rfl)
  try simp only [Act.put, List.setIfInBounds_toArray, List.set_cons_zero, List.set_cons_succ, List.getElem_toArray, List.getElem_cons_zero, List.getElem_cons_succ]
  refine wpG_call (i := 7) hclG rfl (by kernel_rfl) (by kernel_rfl) (by kernel_rfl) (fun _ _ _ h => h) (fun W hS => HQ1.out W) (by rfl) ?_ ?_
  · (intro w' hSw; go_simp; try with_reducible rfl)
  try simp only [Act.put, List.setIfInBounds_toArray, List.set_cons_zero, List.set_cons_succ, List.getElem_toArray, List.getElem_cons_zero, List.getElem_cons_succ]
  refine wpG_take (i := 8) (v := ?_) hclG rfl (by kernel_rfl) (by kernel_rfl) (by kernel_rfl) (fun _ _ _ h => h) (by rfl) ?_ ?_
  rotate_left
  · (intro w' hSw; have hk := KS w' hSw; go_split_ands; go_simp; try with_reducible rfl)
  try simp only [Act.put, List.setIfInBounds_toArray, List.set_cons_zero, List.set_cons_succ, List.getElem_toArray, List.getElem_cons_zero, List.getElem_cons_succ]
  refine wpG_take (i := 9) (v := ?_) hclG rfl (by kernel_rfl) (by kernel_rfl) (by kernel_rfl) (fun _ _ _ h => h) (by rfl) ?_ ?_
  rotate_left
  · (intro w' hSw; have hk := KS w' hSw; go_split_ands; go_simp; try with_reducible rfl)
  try simp only [Act.put, List.setIfInBounds_toArray, List.set_cons_zero, List.set_cons_succ, List.getElem_toArray, List.getElem_cons_zero, List.getElem_cons_succ]
  refine wpG_take (i := 10) (v := ?_) hclG rfl (by kernel_rfl) (by kernel_rfl) (by kernel_rfl) (fun _ _ _ h => h) (by rfl) ?_ ?_
  rotate_left
  · (intro w' hSw; have hk := KS w' hSw; go_split_ands; go_simp; try with_reducible rfl)
  try simp only [Act.put, List.setIfInBounds_toArray, List.set_cons_zero, List.set_cons_succ, List.getElem_toArray, List.getElem_cons_zero, List.getElem_cons_succ]
  refine wpG_call (i := 11) hclG rfl (by kernel_rfl) (by kernel_rfl) (by kernel_rfl) (fun _ _ _ h => h) (fun W hS => HQ2.out W) (by rfl) ?_ ?_
  · (intro w' hSw; go_simp; try with_reducible rfl)
  try simp only [Act.put, List.setIfInBounds_toArray, List.set_cons_zero, List.set_cons_succ, List.getElem_toArray, List.getElem_cons_zero, List.getElem_cons_succ]
  refine wpG_take (i := 12) (v := ?_) hclG rfl (by kernel_rfl) (by kernel_rfl) (by kernel_rfl) (fun _ _ _ h => h) (by rfl) ?_ ?_
  rotate_left
  · (intro w' hSw; have hk := KS w' hSw; go_split_ands; go_simp; try with_reducible rfl)
  try simp only [Act.put, List.setIfInBounds_toArray, List.set_cons_zero, List.set_cons_succ, List.getElem_toArray, List.getElem_cons_zero, List.getElem_cons_succ]
  refine wpG_take (i := 13) (v := ?_) hclG rfl (by kernel_rfl) (by kernel_rfl) (by kernel_rfl) (fun _ _ _ h => h) (by rfl) ?_ ?_
  rotate_left
  · (intro w' hSw; have hk := KS w' hSw; go_split_ands; go_simp; try with_reducible rfl)
  try simp only [Act.put, List.setIfInBounds_toArray, List.set_cons_zero, List.set_cons_succ, List.getElem_toArray, List.getElem_cons_zero, List.getElem_cons_succ]
  refine wpG_take (i := 14) (v := ?_) hclG rfl (by kernel_rfl) (by kernel_rfl) (by kernel_rfl) (fun _ _ _ h => h) (by rfl) ?_ ?_
  rotate_left
  · (intro w' hSw; have hk := KS w' hSw; go_split_ands; go_simp; try with_reducible rfl)
  try simp only [Act.put, List.setIfInBounds_toArray, List.set_cons_zero, List.set_cons_succ, List.getElem_toArray, List.getElem_cons_zero, List.getElem_cons_succ]
  refine wpG_call (i := 15) hclG rfl (by kernel_rfl) (by kernel_rfl) (by kernel_rfl) (fun _ _ _ h => h) (fun W hS => HQ3.out W) (by rfl) ?_ ?_
  · (intro w' hSw; go_simp; try with_reducible rfl)
  try simp only [Act.put, List.setIfInBounds_toArray, List.set_cons_zero, List.set_cons_succ, List.getElem_toArray, List.getElem_cons_zero, List.getElem_cons_succ]
  refine wpG_take (i := 16) (v := ?_) hclG rfl (by kernel_rfl) (by kernel_rfl) (by kernel_rfl) (fun _ _ _ h => h) (by rfl) ?_ ?_
  rotate_left
  · (intro w' hSw; go_simp; try with_reducible rfl)
  try simp only [Act.put, List.setIfInBounds_toArray, List.set_cons_zero, List.set_cons_succ, List.getElem_toArray, List.getElem_cons_zero, List.getElem_cons_succ]
  refine wpG_ready (rs := [17]) (by kernel_rfl) (by simp) (fun w13 g13 s13 => ?_)
  refine AllG.cons rfl (fun K hK => ?_) AllG.nil
  replace g13 := (Gr.drew (Gr.refl v12)).trans g13
  have Fh_13 := CellsAt.gr (Yh_p9) g13
  have lh_13 := CellsAt.lt (Fh_13)
  have Fu_13 := CellsAt.gr (Yu_p9) g13
  have lu_13 := CellsAt.lt (Fu_13)
  have Fv_13 := CellsAt.gr (Yv_p9) g13
  have lv_13 := CellsAt.lt (Fv_13)
  have Fy_13 := CellsAt.gr (Yy_p9) g13
  have ly_13 := CellsAt.lt (Fy_13)
  have Fz_13 := CellsAt.gr (Yz_p9) g13
  have lz_13 := CellsAt.lt (Fz_13)
  have Fw1_13 := CellsAt.gr (Yw1_p9) g13
  have lw1_13 := CellsAt.lt (Fw1_13)
  have Fw3_13 := CellsAt.gr (Yw3_p9) g13
  have lw3_13 := CellsAt.lt (Fw3_13)
  have Fr_13 := CellsAt.gr (Yr_p9) g13
  have lr_13 := CellsAt.lt (Fr_13)
  have Ft_13 := CellsAt.gr (Yt_p9) g13
  have lt_13 := CellsAt.lt (Ft_13)
  have Ft3_13 := CellsAt.gr (Yt3_p9) g13
  have lt3_13 := CellsAt.lt (Ft3_13)
  have Fp_13 := CellsAt.gr (Yp_p9) g13
  have lp_13 := CellsAt.lt (Fp_13)
  have Fd_13 := CellsAt.gr (Yd_p9) g13
  have ld_13 := CellsAt.lt (Fd_13)
  have Fo_13 := CellsAt.gr (Yo_p9) g13
  have lo_13 := CellsAt.lt (Fo_13)
  have z13 := (yp9).trans g13
  clear Yh_p9 Yu_p9 Yv_p9 Yy_p9 Yz_p9 Yw1_p9 Yw3_p9 Yr_p9 Yt_p9 Yt3_p9 Yp_p9 Yd_p9 Yo_p9 yp9 g13
  have mr0 := CellsAt.frozen (Fr_13) 0
  have cr0 := CellsAt.cell (Fr_13) 0
  simp only [List.getElem?_toArray, List.getElem?_cons_zero, List.getElem?_cons_succ] at cr0
  have mr1 := CellsAt.frozen (Fr_13) 1
  have cr1 := CellsAt.cell (Fr_13) 1
  simp only [List.getElem?_toArray, List.getElem?_cons_zero, List.getElem?_cons_succ] at cr1
  have mr2 := CellsAt.frozen (Fr_13) 2
  have cr2 := CellsAt.cell (Fr_13) 2
  simp only [List.getElem?_toArray, List.getElem?_cons_zero, List.getElem?_cons_succ] at cr2
  have mr3 := CellsAt.frozen (Fr_13) 3
  have cr3 := CellsAt.cell (Fr_13) 3
  simp only [List.getElem?_toArray, List.getElem?_cons_zero, List.getElem?_cons_succ] at cr3
  have mr4 := CellsAt.frozen (Fr_13) 4
  have cr4 := CellsAt.cell (Fr_13) 4
  simp only [List.getElem?_toArray, List.getElem?_cons_zero, List.getElem?_cons_succ] at cr4
  have mr5 := CellsAt.frozen (Fr_13) 5
  have cr5 := CellsAt.cell (Fr_13) 5
  simp only [List.getElem?_toArray, List.getElem?_cons_zero, List.getElem?_cons_succ] at cr5
  have mr6 := CellsAt.frozen (Fr_13) 6
  have cr6 := CellsAt.cell (Fr_13) 6
  simp only [List.getElem?_toArray, List.getElem?_cons_zero, List.getElem?_cons_succ] at cr6
  have mr7 := CellsAt.frozen (Fr_13) 7
  have cr7 := CellsAt.cell (Fr_13) 7
  simp only [List.getElem?_toArray, List.getElem?_cons_zero, List.getElem?_cons_succ] at cr7
  go_simp
  clear mr0 cr0 mr1 cr1 mr2 cr2 mr3 cr3 mr4 cr4 mr5 cr5 mr6 cr6 mr7 cr7
  refine hK.out _ _ ?_ ?_
  · exact (GB.set (GB.set (GB.set (GB.set (GB.set (GB.set (GB.set (GB.set s13 _ _) _ _) _ _) _ _) _ _) _ _) _ _) _ _)
  clear hK K
  try simp only [Act.put, List.setIfInBounds_toArray, List.set_cons_zero, List.set_cons_succ, List.getElem_toArray, List.getElem_cons_zero, List.getElem_cons_succ]
  have Yh_p10 : CellsAt ((((((((w13.setCell ⟨w.heap.size + 1 + 1 + 1 + 1 + 1 + 1 + 1, 0, none⟩ (.int .i64 q0.re)).setCell ⟨w.heap.size + 1 + 1 + 1 + 1 + 1 + 1 + 1, 1, none⟩ (.int .i64 q0.im)).setCell ⟨w.heap.size + 1 + 1 + 1 + 1 + 1 + 1 + 1, 2, none⟩ (.int .i64 q1.re)).setCell ⟨w.heap.size + 1 + 1 + 1 + 1 + 1 + 1 + 1, 3, none⟩ (.int .i64 q1.im)).setCell ⟨w.heap.size + 1 + 1 + 1 + 1 + 1 + 1 + 1, 4, none⟩ (.int .i64 q2.re)).setCell ⟨w.heap.size + 1 + 1 + 1 + 1 + 1 + 1 + 1, 5, none⟩ (.int .i64 q2.im)).setCell ⟨w.heap.size + 1 + 1 + 1 + 1 + 1 + 1 + 1, 6, none⟩ (.int .i64 q3.re)).setCell ⟨w.heap.size + 1 + 1 + 1 + 1 + 1 + 1 + 1, 7, none⟩ (.int .i64 q3.im)) (w.heap.size) 37 #[.int .i64 b, .int .i64 mo, .bool inv] := by first | exact CellsAt.other (CellsAt.other (CellsAt.other (CellsAt.other (CellsAt.other (CellsAt.other (CellsAt.other (CellsAt.other (Fh_13) (by omega) 0 (.int .i64 q0.re)) (by omega) 1 (.int .i64 q0.im)) (by omega) 2 (.int .i64 q1.re)) (by omega) 3 (.int .i64 q1.im)) (by omega) 4 (.int .i64 q2.re)) (by omega) 5 (.int .i64 q2.im)) (by omega) 6 (.int .i64 q3.re)) (by omega) 7 (.int .i64 q3.im) | simpa using CellsAt.other (CellsAt.other (CellsAt.other (CellsAt.other (CellsAt.other (CellsAt.other (CellsAt.other (CellsAt.other (Fh_13) (by omega) 0 (.int .i64 q0.re)) (by omega) 1 (.int .i64 q0.im)) (by omega) 2 (.int .i64 q1.re)) (by omega) 3 (.int .i64 q1.im)) (by omega) 4 (.int .i64 q2.re)) (by omega) 5 (.int .i64 q2.im)) (by omega) 6 (.int .i64 q3.re)) (by omega) 7 (.int .i64 q3.im)
  have Yu_p10 : CellsAt ((((((((w13.setCell ⟨w.heap.size + 1 + 1 + 1 + 1 + 1 + 1 + 1, 0, none⟩ (.int .i64 q0.re)).setCell ⟨w.heap.size + 1 + 1 + 1 + 1 + 1 + 1 + 1, 1, none⟩ (.int .i64 q0.im)).setCell ⟨w.heap.size + 1 + 1 + 1 + 1 + 1 + 1 + 1, 2, none⟩ (.int .i64 q1.re)).setCell ⟨w.heap.size + 1 + 1 + 1 + 1 + 1 + 1 + 1, 3, none⟩ (.int .i64 q1.im)).setCell ⟨w.heap.size + 1 + 1 + 1 + 1 + 1 + 1 + 1, 4, none⟩ (.int .i64 q2.re)).setCell ⟨w.heap.size + 1 + 1 + 1 + 1 + 1 + 1 + 1, 5, none⟩ (.int .i64 q2.im)).setCell ⟨w.heap.size + 1 + 1 + 1 + 1 + 1 + 1 + 1, 6, none⟩ (.int .i64 q3.re)).setCell ⟨w.heap.size + 1 + 1 + 1 + 1 + 1 + 1 + 1, 7, none⟩ (.int .i64 q3.im)) (w.heap.size + 1) 42 #[.int .i64 U.re, .int .i64 U.im] := by first | exact CellsAt.other (CellsAt.other (CellsAt.other (CellsAt.other (CellsAt.other (CellsAt.other (CellsAt.other (CellsAt.other (Fu_13) (by omega) 0 (.int .i64 q0.re)) (by omega) 1 (.int .i64 q0.im)) (by omega) 2 (.int .i64 q1.re)) (by omega) 3 (.int .i64 q1.im)) (by omega) 4 (.int .i64 q2.re)) (by omega) 5 (.int .i64 q2.im)) (by omega) 6 (.int .i64 q3.re)) (by omega) 7 (.int .i64 q3.im) | simpa using CellsAt.other (CellsAt.other (CellsAt.other (CellsAt.other (CellsAt.other (CellsAt.other (CellsAt.other (CellsAt.other (Fu_13) (by omega) 0 (.int .i64 q0.re)) (by omega) 1 (.int .i64 q0.im)) (by omega) 2 (.int .i64 q1.re)) (by omega) 3 (.int .i64 q1.im)) (by omega) 4 (.int .i64 q2.re)) (by omega) 5 (.int .i64 q2.im)) (by omega) 6 (.int .i64 q3.re)) (by omega) 7 (.int .i64 q3.im)
  have Yv_p10 : CellsAt ((((((((w13.setCell ⟨w.heap.size + 1 + 1 + 1 + 1 + 1 + 1 + 1, 0, none⟩ (.int .i64 q0.re)).setCell ⟨w.heap.size + 1 + 1 + 1 + 1 + 1 + 1 + 1, 1, none⟩ (.int .i64 q0.im)).setCell ⟨w.heap.size + 1 + 1 + 1 + 1 + 1 + 1 + 1, 2, none⟩ (.int .i64 q1.re)).setCell ⟨w.heap.size + 1 + 1 + 1 + 1 + 1 + 1 + 1, 3, none⟩ (.int .i64 q1.im)).setCell ⟨w.heap.size + 1 + 1 + 1 + 1 + 1 + 1 + 1, 4, none⟩ (.int .i64 q2.re)).setCell ⟨w.heap.size + 1 + 1 + 1 + 1 + 1 + 1 + 1, 5, none⟩ (.int .i64 q2.im)).setCell ⟨w.heap.size + 1 + 1 + 1 + 1 + 1 + 1 + 1, 6, none⟩ (.int .i64 q3.re)).setCell ⟨w.heap.size + 1 + 1 + 1 + 1 + 1 + 1 + 1, 7, none⟩ (.int .i64 q3.im)) (w.heap.size + 1 + 1) 42 #[.int .i64 V.re, .int .i64 V.im] := by first | exact CellsAt.other (CellsAt.other (CellsAt.other (CellsAt.other (CellsAt.other (CellsAt.other (CellsAt.other (CellsAt.other (Fv_13) (by omega) 0 (.int .i64 q0.re)) (by omega) 1 (.int .i64 q0.im)) (by omega) 2 (.int .i64 q1.re)) (by omega) 3 (.int .i64 q1.im)) (by omega) 4 (.int .i64 q2.re)) (by omega) 5 (.int .i64 q2.im)) (by omega) 6 (.int .i64 q3.re)) (by omega) 7 (.int .i64 q3.im) | simpa using CellsAt.other (CellsAt.other (CellsAt.other (CellsAt.other (CellsAt.other (CellsAt.other (CellsAt.other (CellsAt.other (Fv_13) (by omega) 0 (.int .i64 q0.re)) (by omega) 1 (.int .i64 q0.im)) (by omega) 2 (.int .i64 q1.re)) (by omega) 3 (.int .i64 q1.im)) (by omega) 4 (.int .i64 q2.re)) (by omega) 5 (.int .i64 q2.im)) (by omega) 6 (.int .i64 q3.re)) (by omega) 7 (.int .i64 q3.im)
  have Yy_p10 : CellsAt ((((((((w13.setCell ⟨w.heap.size + 1 + 1 + 1 + 1 + 1 + 1 + 1, 0, none⟩ (.int .i64 q0.re)).setCell ⟨w.heap.size + 1 + 1 + 1 + 1 + 1 + 1 + 1, 1, none⟩ (.int .i64 q0.im)).setCell ⟨w.heap.size + 1 + 1 + 1 + 1 + 1 + 1 + 1, 2, none⟩ (.int .i64 q1.re)).setCell ⟨w.heap.size + 1 + 1 + 1 + 1 + 1 + 1 + 1, 3, none⟩ (.int .i64 q1.im)).setCell ⟨w.heap.size + 1 + 1 + 1 + 1 + 1 + 1 + 1, 4, none⟩ (.int .i64 q2.re)).setCell ⟨w.heap.size + 1 + 1 + 1 + 1 + 1 + 1 + 1, 5, none⟩ (.int .i64 q2.im)).setCell ⟨w.heap.size + 1 + 1 + 1 + 1 + 1 + 1 + 1, 6, none⟩ (.int .i64 q3.re)).setCell ⟨w.heap.size + 1 + 1 + 1 + 1 + 1 + 1 + 1, 7, none⟩ (.int .i64 q3.im)) (w.heap.size + 1 + 1 + 1) 42 #[.int .i64 jy.re, .int .i64 jy.im] := by first | exact CellsAt.other (CellsAt.other (CellsAt.other (CellsAt.other (CellsAt.other (CellsAt.other (CellsAt.other (CellsAt.other (Fy_13) (by omega) 0 (.int .i64 q0.re)) (by omega) 1 (.int .i64 q0.im)) (by omega) 2 (.int .i64 q1.re)) (by omega) 3 (.int .i64 q1.im)) (by omega) 4 (.int .i64 q2.re)) (by omega) 5 (.int .i64 q2.im)) (by omega) 6 (.int .i64 q3.re)) (by omega) 7 (.int .i64 q3.im) | simpa using CellsAt.other (CellsAt.other (CellsAt.other (CellsAt.other (CellsAt.other (CellsAt.other (CellsAt.other (CellsAt.other (Fy_13) (by omega) 0 (.int .i64 q0.re)) (by omega) 1 (.int .i64 q0.im)) (by omega) 2 (.int .i64 q1.re)) (by omega) 3 (.int .i64 q1.im)) (by omega) 4 (.int .i64 q2.re)) (by omega) 5 (.int .i64 q2.im)) (by omega) 6 (.int .i64 q3.re)) (by omega) 7 (.int .i64 q3.im)
  have Yz_p10 : CellsAt ((((((((w13.setCell ⟨w.heap.size + 1 + 1 + 1 + 1 + 1 + 1 + 1, 0, none⟩ (.int .i64 q0.re)).setCell ⟨w.heap.size + 1 + 1 + 1 + 1 + 1 + 1 + 1, 1, none⟩ (.int .i64 q0.im)).setCell ⟨w.heap.size + 1 + 1 + 1 + 1 + 1 + 1 + 1, 2, none⟩ (.int .i64 q1.re)).setCell ⟨w.heap.size + 1 + 1 + 1 + 1 + 1 + 1 + 1, 3, none⟩ (.int .i64 q1.im)).setCell ⟨w.heap.size + 1 + 1 + 1 + 1 + 1 + 1 + 1, 4, none⟩ (.int .i64 q2.re)).setCell ⟨w.heap.size + 1 + 1 + 1 + 1 + 1 + 1 + 1, 5, none⟩ (.int .i64 q2.im)).setCell ⟨w.heap.size + 1 + 1 + 1 + 1 + 1 + 1 + 1, 6, none⟩ (.int .i64 q3.re)).setCell ⟨w.heap.size + 1 + 1 + 1 + 1 + 1 + 1 + 1, 7, none⟩ (.int .i64 q3.im)) (w.heap.size + 1 + 1 + 1 + 1) 42 #[.int .i64 jz.re, .int .i64 jz.im] := by first | exact CellsAt.other (CellsAt.other (CellsAt.other (CellsAt.other (CellsAt.other (CellsAt.other (CellsAt.other (CellsAt.other (Fz_13) (by omega) 0 (.int .i64 q0.re)) (by omega) 1 (.int .i64 q0.im)) (by omega) 2 (.int .i64 q1.re)) (by omega) 3 (.int .i64 q1.im)) (by omega) 4 (.int .i64 q2.re)) (by omega) 5 (.int .i64 q2.im)) (by omega) 6 (.int .i64 q3.re)) (by omega) 7 (.int .i64 q3.im) | simpa using CellsAt.other (CellsAt.other (CellsAt.other (CellsAt.other (CellsAt.other (CellsAt.other (CellsAt.other (CellsAt.other (Fz_13) (by omega) 0 (.int .i64 q0.re)) (by omega) 1 (.int .i64 q0.im)) (by omega) 2 (.int .i64 q1.re)) (by omega) 3 (.int .i64 q1.im)) (by omega) 4 (.int .i64 q2.re)) (by omega) 5 (.int .i64 q2.im)) (by omega) 6 (.int .i64 q3.re)) (by omega) 7 (.int .i64 q3.im)
  have Yw1_p10 : CellsAt ((((((((w13.setCell ⟨w.heap.size + 1 + 1 + 1 + 1 + 1 + 1 + 1, 0, none⟩ (.int .i64 q0.re)).setCell ⟨w.heap.size + 1 + 1 + 1 + 1 + 1 + 1 + 1, 1, none⟩ (.int .i64 q0.im)).setCell ⟨w.heap.size + 1 + 1 + 1 + 1 + 1 + 1 + 1, 2, none⟩ (.int .i64 q1.re)).setCell ⟨w.heap.size + 1 + 1 + 1 + 1 + 1 + 1 + 1, 3, none⟩ (.int .i64 q1.im)).setCell ⟨w.heap.size + 1 + 1 + 1 + 1 + 1 + 1 + 1, 4, none⟩ (.int .i64 q2.re)).setCell ⟨w.heap.size + 1 + 1 + 1 + 1 + 1 + 1 + 1, 5, none⟩ (.int .i64 q2.im)).setCell ⟨w.heap.size + 1 + 1 + 1 + 1 + 1 + 1 + 1, 6, none⟩ (.int .i64 q3.re)).setCell ⟨w.heap.size + 1 + 1 + 1 + 1 + 1 + 1 + 1, 7, none⟩ (.int .i64 q3.im)) (w.heap.size + 1 + 1 + 1 + 1 + 1) 42 #[.int .i64 jw1.re, .int .i64 jw1.im] := by first | exact CellsAt.other (CellsAt.other (CellsAt.other (CellsAt.other (CellsAt.other (CellsAt.other (CellsAt.other (CellsAt.other (Fw1_13) (by omega) 0 (.int .i64 q0.re)) (by omega) 1 (.int .i64 q0.im)) (by omega) 2 (.int .i64 q1.re)) (by omega) 3 (.int .i64 q1.im)) (by omega) 4 (.int .i64 q2.re)) (by omega) 5 (.int .i64 q2.im)) (by omega) 6 (.int .i64 q3.re)) (by omega) 7 (.int .i64 q3.im) | simpa using CellsAt.other (CellsAt.other (CellsAt.other (CellsAt.other (CellsAt.other (CellsAt.other (CellsAt.other (CellsAt.other (Fw1_13) (by omega) 0 (.int .i64 q0.re)) (by omega) 1 (.int .i64 q0.im)) (by omega) 2 (.int .i64 q1.re)) (by omega) 3 (.int .i64 q1.im)) (by omega) 4 (.int .i64 q2.re)) (by omega) 5 (.int .i64 q2.im)) (by omega) 6 (.int .i64 q3.re)) (by omega) 7 (.int .i64 q3.im)
  have Yw3_p10 : CellsAt ((((((((w13.setCell ⟨w.heap.size + 1 + 1 + 1 + 1 + 1 + 1 + 1, 0, none⟩ (.int .i64 q0.re)).setCell ⟨w.heap.size + 1 + 1 + 1 + 1 + 1 + 1 + 1, 1, none⟩ (.int .i64 q0.im)).setCell ⟨w.heap.size + 1 + 1 + 1 + 1 + 1 + 1 + 1, 2, none⟩ (.int .i64 q1.re)).setCell ⟨w.heap.size + 1 + 1 + 1 + 1 + 1 + 1 + 1, 3, none⟩ (.int .i64 q1.im)).setCell ⟨w.heap.size + 1 + 1 + 1 + 1 + 1 + 1 + 1, 4, none⟩ (.int .i64 q2.re)).setCell ⟨w.heap.size + 1 + 1 + 1 + 1 + 1 + 1 + 1, 5, none⟩ (.int .i64 q2.im)).setCell ⟨w.heap.size + 1 + 1 + 1 + 1 + 1 + 1 + 1, 6, none⟩ (.int .i64 q3.re)).setCell ⟨w.heap.size + 1 + 1 + 1 + 1 + 1 + 1 + 1, 7, none⟩ (.int .i64 q3.im)) (w.heap.size + 1 + 1 + 1 + 1 + 1 + 1) 42 #[.int .i64 jw3.re, .int .i64 jw3.im] := by first | exact CellsAt.other (CellsAt.other (CellsAt.other (CellsAt.other (CellsAt.other (CellsAt.other (CellsAt.other (CellsAt.other (Fw3_13) (by omega) 0 (.int .i64 q0.re)) (by omega) 1 (.int .i64 q0.im)) (by omega) 2 (.int .i64 q1.re)) (by omega) 3 (.int .i64 q1.im)) (by omega) 4 (.int .i64 q2.re)) (by omega) 5 (.int .i64 q2.im)) (by omega) 6 (.int .i64 q3.re)) (by omega) 7 (.int .i64 q3.im) | simpa using CellsAt.other (CellsAt.other (CellsAt.other (CellsAt.other (CellsAt.other (CellsAt.other (CellsAt.other (CellsAt.other (Fw3_13) (by omega) 0 (.int .i64 q0.re)) (by omega) 1 (.int .i64 q0.im)) (by omega) 2 (.int .i64 q1.re)) (by omega) 3 (.int .i64 q1.im)) (by omega) 4 (.int .i64 q2.re)) (by omega) 5 (.int .i64 q2.im)) (by omega) 6 (.int .i64 q3.re)) (by omega) 7 (.int .i64 q3.im)
  have Yr_p10 : CellsAt ((((((((w13.setCell ⟨w.heap.size + 1 + 1 + 1 + 1 + 1 + 1 + 1, 0, none⟩ (.int .i64 q0.re)).setCell ⟨w.heap.size + 1 + 1 + 1 + 1 + 1 + 1 + 1, 1, none⟩ (.int .i64 q0.im)).setCell ⟨w.heap.size + 1 + 1 + 1 + 1 + 1 + 1 + 1, 2, none⟩ (.int .i64 q1.re)).setCell ⟨w.heap.size + 1 + 1 + 1 + 1 + 1 + 1 + 1, 3, none⟩ (.int .i64 q1.im)).setCell ⟨w.heap.size + 1 + 1 + 1 + 1 + 1 + 1 + 1, 4, none⟩ (.int .i64 q2.re)).setCell ⟨w.heap.size + 1 + 1 + 1 + 1 + 1 + 1 + 1, 5, none⟩ (.int .i64 q2.im)).setCell ⟨w.heap.size + 1 + 1 + 1 + 1 + 1 + 1 + 1, 6, none⟩ (.int .i64 q3.re)).setCell ⟨w.heap.size + 1 + 1 + 1 + 1 + 1 + 1 + 1, 7, none⟩ (.int .i64 q3.im)) (w.heap.size + 1 + 1 + 1 + 1 + 1 + 1 + 1) 83 #[.int .i64 q0.re, .int .i64 q0.im, .int .i64 q1.re, .int .i64 q1.im, .int .i64 q2.re, .int .i64 q2.im, .int .i64 q3.re, .int .i64 q3.im] := by first | exact CellsAt.set (CellsAt.set (CellsAt.set (CellsAt.set (CellsAt.set (CellsAt.set (CellsAt.set (CellsAt.set (Fr_13) 0 (.int .i64 q0.re)) 1 (.int .i64 q0.im)) 2 (.int .i64 q1.re)) 3 (.int .i64 q1.im)) 4 (.int .i64 q2.re)) 5 (.int .i64 q2.im)) 6 (.int .i64 q3.re)) 7 (.int .i64 q3.im) | simpa using CellsAt.set (CellsAt.set (CellsAt.set (CellsAt.set (CellsAt.set (CellsAt.set (CellsAt.set (CellsAt.set (Fr_13) 0 (.int .i64 q0.re)) 1 (.int .i64 q0.im)) 2 (.int .i64 q1.re)) 3 (.int .i64 q1.im)) 4 (.int .i64 q2.re)) 5 (.int .i64 q2.im)) 6 (.int .i64 q3.re)) 7 (.int .i64 q3.im)
  have Yt_p10 : CellsAt ((((((((w13.setCell ⟨w.heap.size + 1 + 1 + 1 + 1 + 1 + 1 + 1, 0, none⟩ (.int .i64 q0.re)).setCell ⟨w.heap.size + 1 + 1 + 1 + 1 + 1 + 1 + 1, 1, none⟩ (.int .i64 q0.im)).setCell ⟨w.heap.size + 1 + 1 + 1 + 1 + 1 + 1 + 1, 2, none⟩ (.int .i64 q1.re)).setCell ⟨w.heap.size + 1 + 1 + 1 + 1 + 1 + 1 + 1, 3, none⟩ (.int .i64 q1.im)).setCell ⟨w.heap.size + 1 + 1 + 1 + 1 + 1 + 1 + 1, 4, none⟩ (.int .i64 q2.re)).setCell ⟨w.heap.size + 1 + 1 + 1 + 1 + 1 + 1 + 1, 5, none⟩ (.int .i64 q2.im)).setCell ⟨w.heap.size + 1 + 1 + 1 + 1 + 1 + 1 + 1, 6, none⟩ (.int .i64 q3.re)).setCell ⟨w.heap.size + 1 + 1 + 1 + 1 + 1 + 1 + 1, 7, none⟩ (.int .i64 q3.im)) (w1.heap.size) 42 #[.int .i64 tt.re, .int .i64 tt.im] := by first | exact CellsAt.other (CellsAt.other (CellsAt.other (CellsAt.other (CellsAt.other (CellsAt.other (CellsAt.other (CellsAt.other (Ft_13) (by omega) 0 (.int .i64 q0.re)) (by omega) 1 (.int .i64 q0.im)) (by omega) 2 (.int .i64 q1.re)) (by omega) 3 (.int .i64 q1.im)) (by omega) 4 (.int .i64 q2.re)) (by omega) 5 (.int .i64 q2.im)) (by omega) 6 (.int .i64 q3.re)) (by omega) 7 (.int .i64 q3.im) | simpa using CellsAt.other (CellsAt.other (CellsAt.other (CellsAt.other (CellsAt.other (CellsAt.other (CellsAt.other (CellsAt.other (Ft_13) (by omega) 0 (.int .i64 q0.re)) (by omega) 1 (.int .i64 q0.im)) (by omega) 2 (.int .i64 q1.re)) (by omega) 3 (.int .i64 q1.im)) (by omega) 4 (.int .i64 q2.re)) (by omega) 5 (.int .i64 q2.im)) (by omega) 6 (.int .i64 q3.re)) (by omega) 7 (.int .i64 q3.im)
  have Yt3_p10 : CellsAt ((((((((w13.setCell ⟨w.heap.size + 1 + 1 + 1 + 1 + 1 + 1 + 1, 0, none⟩ (.int .i64 q0.re)).setCell ⟨w.heap.size + 1 + 1 + 1 + 1 + 1 + 1 + 1, 1, none⟩ (.int .i64 q0.im)).setCell ⟨w.heap.size + 1 + 1 + 1 + 1 + 1 + 1 + 1, 2, none⟩ (.int .i64 q1.re)).setCell ⟨w.heap.size + 1 + 1 + 1 + 1 + 1 + 1 + 1, 3, none⟩ (.int .i64 q1.im)).setCell ⟨w.heap.size + 1 + 1 + 1 + 1 + 1 + 1 + 1, 4, none⟩ (.int .i64 q2.re)).setCell ⟨w.heap.size + 1 + 1 + 1 + 1 + 1 + 1 + 1, 5, none⟩ (.int .i64 q2.im)).setCell ⟨w.heap.size + 1 + 1 + 1 + 1 + 1 + 1 + 1, 6, none⟩ (.int .i64 q3.re)).setCell ⟨w.heap.size + 1 + 1 + 1 + 1 + 1 + 1 + 1, 7, none⟩ (.int .i64 q3.im)) (w2.heap.size) 42 #[.int .i64 tt3.re, .int .i64 tt3.im] := by first | exact CellsAt.other (CellsAt.other (CellsAt.other (CellsAt.other (CellsAt.other (CellsAt.other (CellsAt.other (CellsAt.other (Ft3_13) (by omega) 0 (.int .i64 q0.re)) (by omega) 1 (.int .i64 q0.im)) (by omega) 2 (.int .i64 q1.re)) (by omega) 3 (.int .i64 q1.im)) (by omega) 4 (.int .i64 q2.re)) (by omega) 5 (.int .i64 q2.im)) (by omega) 6 (.int .i64 q3.re)) (by omega) 7 (.int .i64 q3.im) | simpa using CellsAt.other (CellsAt.other (CellsAt.other (CellsAt.other (CellsAt.other (CellsAt.other (CellsAt.other (CellsAt.other (Ft3_13) (by omega) 0 (.int .i64 q0.re)) (by omega) 1 (.int .i64 q0.im)) (by omega) 2 (.int .i64 q1.re)) (by omega) 3 (.int .i64 q1.im)) (by omega) 4 (.int .i64 q2.re)) (by omega) 5 (.int .i64 q2.im)) (by omega) 6 (.int .i64 q3.re)) (by omega) 7 (.int .i64 q3.im)
  have Yp_p10 : CellsAt ((((((((w13.setCell ⟨w.heap.size + 1 + 1 + 1 + 1 + 1 + 1 + 1, 0, none⟩ (.int .i64 q0.re)).setCell ⟨w.heap.size + 1 + 1 + 1 + 1 + 1 + 1 + 1, 1, none⟩ (.int .i64 q0.im)).setCell ⟨w.heap.size + 1 + 1 + 1 + 1 + 1 + 1 + 1, 2, none⟩ (.int .i64 q1.re)).setCell ⟨w.heap.size + 1 + 1 + 1 + 1 + 1 + 1 + 1, 3, none⟩ (.int .i64 q1.im)).setCell ⟨w.heap.size + 1 + 1 + 1 + 1 + 1 + 1 + 1, 4, none⟩ (.int .i64 q2.re)).setCell ⟨w.heap.size + 1 + 1 + 1 + 1 + 1 + 1 + 1, 5, none⟩ (.int .i64 q2.im)).setCell ⟨w.heap.size + 1 + 1 + 1 + 1 + 1 + 1 + 1, 6, none⟩ (.int .i64 q3.re)).setCell ⟨w.heap.size + 1 + 1 + 1 + 1 + 1 + 1 + 1, 7, none⟩ (.int .i64 q3.im)) (w3.heap.size) 42 #[.int .i64 p.re, .int .i64 p.im] := by first | exact CellsAt.other (CellsAt.other (CellsAt.other (CellsAt.other (CellsAt.other (CellsAt.other (CellsAt.other (CellsAt.other (Fp_13) (by omega) 0 (.int .i64 q0.re)) (by omega) 1 (.int .i64 q0.im)) (by omega) 2 (.int .i64 q1.re)) (by omega) 3 (.int .i64 q1.im)) (by omega) 4 (.int .i64 q2.re)) (by omega) 5 (.int .i64 q2.im)) (by omega) 6 (.int .i64 q3.re)) (by omega) 7 (.int .i64 q3.im) | simpa using CellsAt.other (CellsAt.other (CellsAt.other (CellsAt.other (CellsAt.other (CellsAt.other (CellsAt.other (CellsAt.other (Fp_13) (by omega) 0 (.int .i64 q0.re)) (by omega) 1 (.int .i64 q0.im)) (by omega) 2 (.int .i64 q1.re)) (by omega) 3 (.int .i64 q1.im)) (by omega) 4 (.int .i64 q2.re)) (by omega) 5 (.int .i64 q2.im)) (by omega) 6 (.int .i64 q3.re)) (by omega) 7 (.int .i64 q3.im)
  have Yd_p10 : CellsAt ((((((((w13.setCell ⟨w.heap.size + 1 + 1 + 1 + 1 + 1 + 1 + 1, 0, none⟩ (.int .i64 q0.re)).setCell ⟨w.heap.size + 1 + 1 + 1 + 1 + 1 + 1 + 1, 1, none⟩ (.int .i64 q0.im)).setCell ⟨w.heap.size + 1 + 1 + 1 + 1 + 1 + 1 + 1, 2, none⟩ (.int .i64 q1.re)).setCell ⟨w.heap.size + 1 + 1 + 1 + 1 + 1 + 1 + 1, 3, none⟩ (.int .i64 q1.im)).setCell ⟨w.heap.size + 1 + 1 + 1 + 1 + 1 + 1 + 1, 4, none⟩ (.int .i64 q2.re)).setCell ⟨w.heap.size + 1 + 1 + 1 + 1 + 1 + 1 + 1, 5, none⟩ (.int .i64 q2.im)).setCell ⟨w.heap.size + 1 + 1 + 1 + 1 + 1 + 1 + 1, 6, none⟩ (.int .i64 q3.re)).setCell ⟨w.heap.size + 1 + 1 + 1 + 1 + 1 + 1 + 1, 7, none⟩ (.int .i64 q3.im)) (w10.heap.size) 42 #[.int .i64 d.re, .int .i64 d.im] := by first | exact CellsAt.other (CellsAt.other (CellsAt.other (CellsAt.other (CellsAt.other (CellsAt.other (CellsAt.other (CellsAt.other (Fd_13) (by omega) 0 (.int .i64 q0.re)) (by omega) 1 (.int .i64 q0.im)) (by omega) 2 (.int .i64 q1.re)) (by omega) 3 (.int .i64 q1.im)) (by omega) 4 (.int .i64 q2.re)) (by omega) 5 (.int .i64 q2.im)) (by omega) 6 (.int .i64 q3.re)) (by omega) 7 (.int .i64 q3.im) | simpa using CellsAt.other (CellsAt.other (CellsAt.other (CellsAt.other (CellsAt.other (CellsAt.other (CellsAt.other (CellsAt.other (Fd_13) (by omega) 0 (.int .i64 q0.re)) (by omega) 1 (.int .i64 q0.im)) (by omega) 2 (.int .i64 q1.re)) (by omega) 3 (.int .i64 q1.im)) (by omega) 4 (.int .i64 q2.re)) (by omega) 5 (.int .i64 q2.im)) (by omega) 6 (.int .i64 q3.re)) (by omega) 7 (.int .i64 q3.im)
  have Yo_p10 : CellsAt ((((((((w13.setCell ⟨w.heap.size + 1 + 1 + 1 + 1 + 1 + 1 + 1, 0, none⟩ (.int .i64 q0.re)).setCell ⟨w.heap.size + 1 + 1 + 1 + 1 + 1 + 1 + 1, 1, none⟩ (.int .i64 q0.im)).setCell ⟨w.heap.size + 1 + 1 + 1 + 1 + 1 + 1 + 1, 2, none⟩ (.int .i64 q1.re)).setCell ⟨w.heap.size + 1 + 1 + 1 + 1 + 1 + 1 + 1, 3, none⟩ (.int .i64 q1.im)).setCell ⟨w.heap.size + 1 + 1 + 1 + 1 + 1 + 1 + 1, 4, none⟩ (.int .i64 q2.re)).setCell ⟨w.heap.size + 1 + 1 + 1 + 1 + 1 + 1 + 1, 5, none⟩ (.int .i64 q2.im)).setCell ⟨w.heap.size + 1 + 1 + 1 + 1 + 1 + 1 + 1, 6, none⟩ (.int .i64 q3.re)).setCell ⟨w.heap.size + 1 + 1 + 1 + 1 + 1 + 1 + 1, 7, none⟩ (.int .i64 q3.im)) (w10.heap.size + 1) 42 #[.int .i64 P, .int .i64 0] := by first | exact CellsAt.other (CellsAt.other (CellsAt.other (CellsAt.other (CellsAt.other (CellsAt.other (CellsAt.other (CellsAt.other (Fo_13) (by omega) 0 (.int .i64 q0.re)) (by omega) 1 (.int .i64 q0.im)) (by omega) 2 (.int .i64 q1.re)) (by omega) 3 (.int .i64 q1.im)) (by omega) 4 (.int .i64 q2.re)) (by omega) 5 (.int .i64 q2.im)) (by omega) 6 (.int .i64 q3.re)) (by omega) 7 (.int .i64 q3.im) | simpa using CellsAt.other (CellsAt.other (CellsAt.other (CellsAt.other (CellsAt.other (CellsAt.other (CellsAt.other (CellsAt.other (Fo_13) (by omega) 0 (.int .i64 q0.re)) (by omega) 1 (.int .i64 q0.im)) (by omega) 2 (.int .i64 q1.re)) (by omega) 3 (.int .i64 q1.im)) (by omega) 4 (.int .i64 q2.re)) (by omega) 5 (.int .i64 q2.im)) (by omega) 6 (.int .i64 q3.re)) (by omega) 7 (.int .i64 q3.im)
  have yp10 := Gr.setCell (Gr.setCell (Gr.setCell (Gr.setCell (Gr.setCell (Gr.setCell (Gr.setCell (Gr.setCell (z13) (a := ⟨w.heap.size + 1 + 1 + 1 + 1 + 1 + 1 + 1, 0, none⟩) (by first | omega | (simp only; omega)) (.int .i64 q0.re)) (a := ⟨w.heap.size + 1 + 1 + 1 + 1 + 1 + 1 + 1, 1, none⟩) (by first | omega | (simp only; omega)) (.int .i64 q0.im)) (a := ⟨w.heap.size + 1 + 1 + 1 + 1 + 1 + 1 + 1, 2, none⟩) (by first | omega | (simp only; omega)) (.int .i64 q1.re)) (a := ⟨w.heap.size + 1 + 1 + 1 + 1 + 1 + 1 + 1, 3, none⟩) (by first | omega | (simp only; omega)) (.int .i64 q1.im)) (a := ⟨w.heap.size + 1 + 1 + 1 + 1 + 1 + 1 + 1, 4, none⟩) (by first | omega | (simp only; omega)) (.int .i64 q2.re)) (a := ⟨w.heap.size + 1 + 1 + 1 + 1 + 1 + 1 + 1, 5, none⟩) (by first | omega | (simp only; omega)) (.int .i64 q2.im)) (a := ⟨w.heap.size + 1 + 1 + 1 + 1 + 1 + 1 + 1, 6, none⟩) (by first | omega | (simp only; omega)) (.int .i64 q3.re)) (a := ⟨w.heap.size + 1 + 1 + 1 + 1 + 1 + 1 + 1, 7, none⟩) (by first | omega | (simp only; omega)) (.int .i64 q3.im)
  refine wpG_done (by kernel_rfl) (fun w14 g14 => ?_) _
  have Fh_14 := CellsAt.gr (Yh_p10) g14
  have lh_14 := CellsAt.lt (Fh_14)
  have Fu_14 := CellsAt.gr (Yu_p10) g14
  have lu_14 := CellsAt.lt (Fu_14)
  have Fv_14 := CellsAt.gr (Yv_p10) g14
  have lv_14 := CellsAt.lt (Fv_14)
  have Fy_14 := CellsAt.gr (Yy_p10) g14
  have ly_14 := CellsAt.lt (Fy_14)
  have Fz_14 := CellsAt.gr (Yz_p10) g14
  have lz_14 := CellsAt.lt (Fz_14)
  have Fw1_14 := CellsAt.gr (Yw1_p10) g14
  have lw1_14 := CellsAt.lt (Fw1_14)
  have Fw3_14 := CellsAt.gr (Yw3_p10) g14
  have lw3_14 := CellsAt.lt (Fw3_14)
  have Fr_14 := CellsAt.gr (Yr_p10) g14
  have lr_14 := CellsAt.lt (Fr_14)
  have Ft_14 := CellsAt.gr (Yt_p10) g14
  have lt_14 := CellsAt.lt (Ft_14)
  have Ft3_14 := CellsAt.gr (Yt3_p10) g14
  have lt3_14 := CellsAt.lt (Ft3_14)
  have Fp_14 := CellsAt.gr (Yp_p10) g14
  have lp_14 := CellsAt.lt (Fp_14)
  have Fd_14 := CellsAt.gr (Yd_p10) g14
  have ld_14 := CellsAt.lt (Fd_14)
  have Fo_14 := CellsAt.gr (Yo_p10) g14
  have lo_14 := CellsAt.lt (Fo_14)
  have z14 := (yp10).trans g14
  clear Yh_p10 Yu_p10 Yv_p10 Yy_p10 Yz_p10 Yw1_p10 Yw3_p10 Yr_p10 Yt_p10 Yt3_p10 Yp_p10 Yd_p10 Yo_p10 yp10 g14
  clear hclG KS
  go_wp2_with fail
  have Yh_p11 : CellsAt w14 (w.heap.size) 37 #[.int .i64 b, .int .i64 mo, .bool inv] := by first | exact Fh_14 | simpa using Fh_14
  have Yu_p11 : CellsAt w14 (w.heap.size + 1) 42 #[.int .i64 U.re, .int .i64 U.im] := by first | exact Fu_14 | simpa using Fu_14
  have Yv_p11 : CellsAt w14 (w.heap.size + 1 + 1) 42 #[.int .i64 V.re, .int .i64 V.im] := by first | exact Fv_14 | simpa using Fv_14
  have Yy_p11 : CellsAt w14 (w.heap.size + 1 + 1 + 1) 42 #[.int .i64 jy.re, .int .i64 jy.im] := by first | exact Fy_14 | simpa using Fy_14
  have Yz_p11 : CellsAt w14 (w.heap.size + 1 + 1 + 1 + 1) 42 #[.int .i64 jz.re, .int .i64 jz.im] := by first | exact Fz_14 | simpa using Fz_14
  have Yw1_p11 : CellsAt w14 (w.heap.size + 1 + 1 + 1 + 1 + 1) 42 #[.int .i64 jw1.re, .int .i64 jw1.im] := by first | exact Fw1_14 | simpa using Fw1_14
  have Yw3_p11 : CellsAt w14 (w.heap.size + 1 + 1 + 1 + 1 + 1 + 1) 42 #[.int .i64 jw3.re, .int .i64 jw3.im] := by first | exact Fw3_14 | simpa using Fw3_14
  have Yr_p11 : CellsAt w14 (w.heap.size + 1 + 1 + 1 + 1 + 1 + 1 + 1) 83 #[.int .i64 q0.re, .int .i64 q0.im, .int .i64 q1.re, .int .i64 q1.im, .int .i64 q2.re, .int .i64 q2.im, .int .i64 q3.re, .int .i64 q3.im] := by first | exact Fr_14 | simpa using Fr_14
  have Yt_p11 : CellsAt w14 (w1.heap.size) 42 #[.int .i64 tt.re, .int .i64 tt.im] := by first | exact Ft_14 | simpa using Ft_14
  have Yt3_p11 : CellsAt w14 (w2.heap.size) 42 #[.int .i64 tt3.re, .int .i64 tt3.im] := by first | exact Ft3_14 | simpa using Ft3_14
  have Yp_p11 : CellsAt w14 (w3.heap.size) 42 #[.int .i64 p.re, .int .i64 p.im] := by first | exact Fp_14 | simpa using Fp_14
  have Yd_p11 : CellsAt w14 (w10.heap.size) 42 #[.int .i64 d.re, .int .i64 d.im] := by first | exact Fd_14 | simpa using Fd_14
  have Yo_p11 : CellsAt w14 (w10.heap.size + 1) 42 #[.int .i64 P, .int .i64 0] := by first | exact Fo_14 | simpa using Fo_14
  have yp11 := z14
  generalize w14 = uf at *
  have cr0 := CellsAt.cell (Yr_p11) 0
  have cr1 := CellsAt.cell (Yr_p11) 1
  have cr2 := CellsAt.cell (Yr_p11) 2
  have cr3 := CellsAt.cell (Yr_p11) 3
  have cr4 := CellsAt.cell (Yr_p11) 4
  have cr5 := CellsAt.cell (Yr_p11) 5
  have cr6 := CellsAt.cell (Yr_p11) 6
  have cr7 := CellsAt.cell (Yr_p11) 7
  simp only [List.getElem?_toArray, List.getElem?_cons_zero, List.getElem?_cons_succ] at cr0 cr1 cr2 cr3 cr4 cr5 cr6 cr7
  refine bodyPost_ret (v := .agg #[.int .i64 q0.re, .int .i64 q0.im, .int .i64 q1.re, .int .i64 q1.im, .int .i64 q2.re, .int .i64 q2.im, .int .i64 q3.re, .int .i64 q3.im]) ?_ rfl ⟨rfl, yp11⟩
  simp [results, Tryz.results56, go_sem, *]

end Go.Proofs.YtmhcbphkkcmecaaGreat
