import Derived.Test.YtdignnmpfkgkoaaGreatRealUntanglesS14
namespace Go.Proofs.YtdignnmpfkgkoaaGreat
section
open Go.ChangeShapes Go.WideShapes Go.ChangeAt Go.RowKit
set_option linter.unusedVariables false
set_option linter.unusedSimpArgs false
set_option maxRecDepth 100000
set_option maxHeartbeats 8000000 in
theorem sJoined_of (b mo P n : Int) (inv : Bool) (ju jv jy jz jw1 jw3 t t3 p tt tt3 d U V q0 q1 q2 q3 : Gi) (hP : IntKind.i64.wrap (2 * 2 ^ min b.toNat 64) = P) (hb0 : 0 ≤ b)
 (HT : CR 128 #[.agg #[.int .i64 (jy).re, .int .i64 (jy).im], .agg #[.int .i64 (jw1).re, .int .i64 (jw1).im]] (.tuple #[.agg #[.int .i64 (t).re, .int .i64 (t).im], .int .i64 0])) (HT3 : CR 128 #[.agg #[.int .i64 (jz).re, .int .i64 (jz).im], .agg #[.int .i64 (jw3).re, .int .i64 (jw3).im]] (.tuple #[.agg #[.int .i64 (t3).re, .int .i64 (t3).im], .int .i64 0])) (HP : CR 126 #[.agg #[.int .i64 (t).re, .int .i64 (t).im], .agg #[.int .i64 (t3).re, .int .i64 (t3).im]] (.tuple #[.agg #[.int .i64 (p).re, .int .i64 (p).im], .int .i64 0]))
 (HN : CR 215 #[.agg #[.int .i64 b, .int .i64 mo, .bool inv]] (.int .i64 n)) (HR : CR 125 #[.agg #[.int .i64 (t).re, .int .i64 (t).im], .int .i64 n] (.tuple #[.agg #[.int .i64 (tt).re, .int .i64 (tt).im], .int .i64 0])) (HR3 : CR 125 #[.agg #[.int .i64 (t3).re, .int .i64 (t3).im], .int .i64 n] (.tuple #[.agg #[.int .i64 (tt3).re, .int .i64 (tt3).im], .int .i64 0]))
 (HL : CR 127 #[.agg #[.int .i64 (tt).re, .int .i64 (tt).im], .agg #[.int .i64 (tt3).re, .int .i64 (tt3).im]] (.tuple #[.agg #[.int .i64 (d).re, .int .i64 (d).im], .int .i64 0])) (HU : CR 128 #[.agg #[.int .i64 (ju).re, .int .i64 (ju).im], .agg #[.int .i64 P, .int .i64 0]] (.tuple #[.agg #[.int .i64 (U).re, .int .i64 (U).im], .int .i64 0])) (HV : CR 128 #[.agg #[.int .i64 (jv).re, .int .i64 (jv).im], .agg #[.int .i64 P, .int .i64 0]] (.tuple #[.agg #[.int .i64 (V).re, .int .i64 (V).im], .int .i64 0]))
 (HQ0 : CR 216 #[.agg #[.int .i64 b, .int .i64 mo, .bool inv], .agg #[.int .i64 (U).re, .int .i64 (U).im], .agg #[.int .i64 (p).re, .int .i64 (p).im], .int .i64 1] (.agg #[.int .i64 (q0).re, .int .i64 (q0).im])) (HQ1 : CR 216 #[.agg #[.int .i64 b, .int .i64 mo, .bool inv], .agg #[.int .i64 (V).re, .int .i64 (V).im], .agg #[.int .i64 (d).re, .int .i64 (d).im], .int .i64 1] (.agg #[.int .i64 (q1).re, .int .i64 (q1).im])) (HQ2 : CR 216 #[.agg #[.int .i64 b, .int .i64 mo, .bool inv], .agg #[.int .i64 (U).re, .int .i64 (U).im], .agg #[.int .i64 (p).re, .int .i64 (p).im], .int .i64 (-1)] (.agg #[.int .i64 (q2).re, .int .i64 (q2).im])) (HQ3 : CR 216 #[.agg #[.int .i64 b, .int .i64 mo, .bool inv], .agg #[.int .i64 (V).re, .int .i64 (V).im], .agg #[.int .i64 (d).re, .int .i64 (d).im], .int .i64 (-1)] (.agg #[.int .i64 (q3).re, .int .i64 (q3).im])) (w : World) :
 CW 199 #[.agg #[.int .i64 b, .int .i64 mo, .bool inv], .agg #[.int .i64 (ju).re, .int .i64 (ju).im], .agg #[.int .i64 (jv).re, .int .i64 (jv).im], .agg #[.int .i64 (jy).re, .int .i64 (jy).im], .agg #[.int .i64 (jz).re, .int .i64 (jz).im], .agg #[.int .i64 (jw1).re, .int .i64 (jw1).im], .agg #[.int .i64 (jw3).re, .int .i64 (jw3).im]] w (.agg #[.int .i64 q0.re, .int .i64 q0.im, .int .i64 q1.re, .int .i64 q1.im, .int .i64 q2.re, .int .i64 q2.im, .int .i64 q3.re, .int .i64 q3.im]) :=by
 delta CW
 go_enter Tryz.func199, Tryz.ntmps199
 go_wp2_with fail
 obtain ⟨u0, hU⟩ : ∃ uu, uu = ((((((((w.alloc (.cells #[.int .i64 b, .int .i64 mo, .bool inv] 181)).alloc (.cells #[.int .i64 ju.re, .int .i64 ju.im] 50)).alloc (.cells #[.int .i64 jv.re, .int .i64 jv.im] 50)).alloc (.cells #[.int .i64 jy.re, .int .i64 jy.im] 50)).alloc (.cells #[.int .i64 jz.re, .int .i64 jz.im] 50)).alloc (.cells #[.int .i64 jw1.re, .int .i64 jw1.im] 50)).alloc (.cells #[.int .i64 jw3.re, .int .i64 jw3.im] 50)).alloc (.cells #[.int .i64 0, .int .i64 0, .int .i64 0, .int .i64 0, .int .i64 0, .int .i64 0, .int .i64 0, .int .i64 0] 225)) := ⟨_, rfl⟩
 have gu : Gr w u0 := by rw [hU]; exact ((((((((Gr.refl w).alloc _ _).alloc _ _).alloc _ _).alloc _ _).alloc _ _).alloc _ _).alloc _ _).alloc _ _
 have R0 : CellsAt u0 (w.heap.size) 181 #[.int .i64 b, .int .i64 mo, .bool inv] := by
  rw [hU]
  have := ((((((((CellsAt.new w 181 #[.int .i64 b, .int .i64 mo, .bool inv]).alloc (.cells #[.int .i64 ju.re, .int .i64 ju.im] 50)).alloc (.cells #[.int .i64 jv.re, .int .i64 jv.im] 50)).alloc (.cells #[.int .i64 jy.re, .int .i64 jy.im] 50)).alloc (.cells #[.int .i64 jz.re, .int .i64 jz.im] 50)).alloc (.cells #[.int .i64 jw1.re, .int .i64 jw1.im] 50)).alloc (.cells #[.int .i64 jw3.re, .int .i64 jw3.im] 50)).alloc (.cells #[.int .i64 0, .int .i64 0, .int .i64 0, .int .i64 0, .int .i64 0, .int .i64 0, .int .i64 0, .int .i64 0] 225))
  simpa only [World.size_alloc] using this
 have R1 : CellsAt u0 (w.heap.size + 1) 50 #[.int .i64 ju.re, .int .i64 ju.im] := by
  rw [hU]
  have := (((((((CellsAt.new (w.alloc (.cells #[.int .i64 b, .int .i64 mo, .bool inv] 181)) 50 #[.int .i64 ju.re, .int .i64 ju.im]).alloc (.cells #[.int .i64 jv.re, .int .i64 jv.im] 50)).alloc (.cells #[.int .i64 jy.re, .int .i64 jy.im] 50)).alloc (.cells #[.int .i64 jz.re, .int .i64 jz.im] 50)).alloc (.cells #[.int .i64 jw1.re, .int .i64 jw1.im] 50)).alloc (.cells #[.int .i64 jw3.re, .int .i64 jw3.im] 50)).alloc (.cells #[.int .i64 0, .int .i64 0, .int .i64 0, .int .i64 0, .int .i64 0, .int .i64 0, .int .i64 0, .int .i64 0] 225))
  simpa only [World.size_alloc] using this
 have R2 : CellsAt u0 (w.heap.size + 1 + 1) 50 #[.int .i64 jv.re, .int .i64 jv.im] := by
  rw [hU]
  have := ((((((CellsAt.new ((w.alloc (.cells #[.int .i64 b, .int .i64 mo, .bool inv] 181)).alloc (.cells #[.int .i64 ju.re, .int .i64 ju.im] 50)) 50 #[.int .i64 jv.re, .int .i64 jv.im]).alloc (.cells #[.int .i64 jy.re, .int .i64 jy.im] 50)).alloc (.cells #[.int .i64 jz.re, .int .i64 jz.im] 50)).alloc (.cells #[.int .i64 jw1.re, .int .i64 jw1.im] 50)).alloc (.cells #[.int .i64 jw3.re, .int .i64 jw3.im] 50)).alloc (.cells #[.int .i64 0, .int .i64 0, .int .i64 0, .int .i64 0, .int .i64 0, .int .i64 0, .int .i64 0, .int .i64 0] 225))
  simpa only [World.size_alloc] using this
 have R3 : CellsAt u0 (w.heap.size + 1 + 1 + 1) 50 #[.int .i64 jy.re, .int .i64 jy.im] := by
  rw [hU]
  have := (((((CellsAt.new (((w.alloc (.cells #[.int .i64 b, .int .i64 mo, .bool inv] 181)).alloc (.cells #[.int .i64 ju.re, .int .i64 ju.im] 50)).alloc (.cells #[.int .i64 jv.re, .int .i64 jv.im] 50)) 50 #[.int .i64 jy.re, .int .i64 jy.im]).alloc (.cells #[.int .i64 jz.re, .int .i64 jz.im] 50)).alloc (.cells #[.int .i64 jw1.re, .int .i64 jw1.im] 50)).alloc (.cells #[.int .i64 jw3.re, .int .i64 jw3.im] 50)).alloc (.cells #[.int .i64 0, .int .i64 0, .int .i64 0, .int .i64 0, .int .i64 0, .int .i64 0, .int .i64 0, .int .i64 0] 225))
  simpa only [World.size_alloc] using this
 have R4 : CellsAt u0 (w.heap.size + 1 + 1 + 1 + 1) 50 #[.int .i64 jz.re, .int .i64 jz.im] := by
  rw [hU]
  have := ((((CellsAt.new ((((w.alloc (.cells #[.int .i64 b, .int .i64 mo, .bool inv] 181)).alloc (.cells #[.int .i64 ju.re, .int .i64 ju.im] 50)).alloc (.cells #[.int .i64 jv.re, .int .i64 jv.im] 50)).alloc (.cells #[.int .i64 jy.re, .int .i64 jy.im] 50)) 50 #[.int .i64 jz.re, .int .i64 jz.im]).alloc (.cells #[.int .i64 jw1.re, .int .i64 jw1.im] 50)).alloc (.cells #[.int .i64 jw3.re, .int .i64 jw3.im] 50)).alloc (.cells #[.int .i64 0, .int .i64 0, .int .i64 0, .int .i64 0, .int .i64 0, .int .i64 0, .int .i64 0, .int .i64 0] 225))
  simpa only [World.size_alloc] using this
 have R5 : CellsAt u0 (w.heap.size + 1 + 1 + 1 + 1 + 1) 50 #[.int .i64 jw1.re, .int .i64 jw1.im] := by
  rw [hU]
  have := (((CellsAt.new (((((w.alloc (.cells #[.int .i64 b, .int .i64 mo, .bool inv] 181)).alloc (.cells #[.int .i64 ju.re, .int .i64 ju.im] 50)).alloc (.cells #[.int .i64 jv.re, .int .i64 jv.im] 50)).alloc (.cells #[.int .i64 jy.re, .int .i64 jy.im] 50)).alloc (.cells #[.int .i64 jz.re, .int .i64 jz.im] 50)) 50 #[.int .i64 jw1.re, .int .i64 jw1.im]).alloc (.cells #[.int .i64 jw3.re, .int .i64 jw3.im] 50)).alloc (.cells #[.int .i64 0, .int .i64 0, .int .i64 0, .int .i64 0, .int .i64 0, .int .i64 0, .int .i64 0, .int .i64 0] 225))
  simpa only [World.size_alloc] using this
 have R6 : CellsAt u0 (w.heap.size + 1 + 1 + 1 + 1 + 1 + 1) 50 #[.int .i64 jw3.re, .int .i64 jw3.im] := by
  rw [hU]
  have := ((CellsAt.new ((((((w.alloc (.cells #[.int .i64 b, .int .i64 mo, .bool inv] 181)).alloc (.cells #[.int .i64 ju.re, .int .i64 ju.im] 50)).alloc (.cells #[.int .i64 jv.re, .int .i64 jv.im] 50)).alloc (.cells #[.int .i64 jy.re, .int .i64 jy.im] 50)).alloc (.cells #[.int .i64 jz.re, .int .i64 jz.im] 50)).alloc (.cells #[.int .i64 jw1.re, .int .i64 jw1.im] 50)) 50 #[.int .i64 jw3.re, .int .i64 jw3.im]).alloc (.cells #[.int .i64 0, .int .i64 0, .int .i64 0, .int .i64 0, .int .i64 0, .int .i64 0, .int .i64 0, .int .i64 0] 225))
  simpa only [World.size_alloc] using this
 have R7 : CellsAt u0 (w.heap.size + 1 + 1 + 1 + 1 + 1 + 1 + 1) 225 #[.int .i64 0, .int .i64 0, .int .i64 0, .int .i64 0, .int .i64 0, .int .i64 0, .int .i64 0, .int .i64 0] := by
  rw [hU]
  have := (CellsAt.new (((((((w.alloc (.cells #[.int .i64 b, .int .i64 mo, .bool inv] 181)).alloc (.cells #[.int .i64 ju.re, .int .i64 ju.im] 50)).alloc (.cells #[.int .i64 jv.re, .int .i64 jv.im] 50)).alloc (.cells #[.int .i64 jy.re, .int .i64 jy.im] 50)).alloc (.cells #[.int .i64 jz.re, .int .i64 jz.im] 50)).alloc (.cells #[.int .i64 jw1.re, .int .i64 jw1.im] 50)).alloc (.cells #[.int .i64 jw3.re, .int .i64 jw3.im] 50)) 225 #[.int .i64 0, .int .i64 0, .int .i64 0, .int .i64 0, .int .i64 0, .int .i64 0, .int .i64 0, .int .i64 0])
  simpa only [World.size_alloc] using this
 rw [← hU]
 clear hU
 have lh := R0.lt
 have lu := R1.lt
 have lv := R2.lt
 have ly := R3.lt
 have lz := R4.lt
 have lw1 := R5.lt
 have lw3 := R6.lt
 have lr := R7.lt
 refine (HT.out _).mono ?_
 rintro e w1 ⟨rfl, g1⟩
 have ⟨Fh_1, lh_1⟩ := R0.gl g1
 have ⟨Fu_1, lu_1⟩ := R1.gl g1
 have ⟨Fv_1, lv_1⟩ := R2.gl g1
 have ⟨Fy_1, ly_1⟩ := R3.gl g1
 have ⟨Fz_1, lz_1⟩ := R4.gl g1
 have ⟨Fw1_1, lw1_1⟩ := R5.gl g1
 have ⟨Fw3_1, lw3_1⟩ := R6.gl g1
 have ⟨Fr_1, lr_1⟩ := R7.gl g1
 have z1 := gu.trans g1
 clear R0 R1 R2 R3 R4 R5 R6 R7 gu g1
 obtain ⟨ch0, ch1, ch2⟩ := Fh_1.t3
 obtain ⟨cu0, cu1⟩ := Fu_1.t2
 obtain ⟨cv0, cv1⟩ := Fv_1.t2
 obtain ⟨cy0, cy1⟩ := Fy_1.t2
 obtain ⟨cz0, cz1⟩ := Fz_1.t2
 obtain ⟨cw10, cw11⟩ := Fw1_1.t2
 obtain ⟨cw30, cw31⟩ := Fw3_1.t2
 go_wp2_with fail
 clear ch0 ch1 ch2 cu0 cu1 cv0 cv1 cy0 cy1 cz0 cz1 cw10 cw11 cw30 cw31
 refine (HT3.out _).mono ?_
 rintro e w2 ⟨rfl, g2⟩
 have ⟨Fh_2, lh_2⟩ := CellsAt.gl (Fh_1.alloc _) g2
 have ⟨Fu_2, lu_2⟩ := CellsAt.gl (Fu_1.alloc _) g2
 have ⟨Fv_2, lv_2⟩ := CellsAt.gl (Fv_1.alloc _) g2
 have ⟨Fy_2, ly_2⟩ := CellsAt.gl (Fy_1.alloc _) g2
 have ⟨Fz_2, lz_2⟩ := CellsAt.gl (Fz_1.alloc _) g2
 have ⟨Fw1_2, lw1_2⟩ := CellsAt.gl (Fw1_1.alloc _) g2
 have ⟨Fw3_2, lw3_2⟩ := CellsAt.gl (Fw3_1.alloc _) g2
 have ⟨Fr_2, lr_2⟩ := CellsAt.gl (Fr_1.alloc _) g2
 have ⟨Ft_2, lt_2⟩ := CellsAt.gl (CellsAt.new w1 50 #[.int .i64 t.re, .int .i64 t.im]) g2
 have z2 := (z1.alloc _ _).trans g2
 clear g2
 obtain ⟨ch0, ch1, ch2⟩ := Fh_2.t3
 obtain ⟨cu0, cu1⟩ := Fu_2.t2
 obtain ⟨cv0, cv1⟩ := Fv_2.t2
 obtain ⟨cz0, cz1⟩ := Fz_2.t2
 obtain ⟨cw30, cw31⟩ := Fw3_2.t2
 obtain ⟨ct0, ct1⟩ := Ft_2.t2
 go_wp2_with fail
 clear ch0 ch1 ch2 cu0 cu1 cv0 cv1 cz0 cz1 cw30 cw31 ct0 ct1
 refine (HP.out _).mono ?_
 rintro e w3 ⟨rfl, g3⟩
 have ⟨Fh_3, lh_3⟩ := CellsAt.gl (Fh_2.alloc _) g3
 have ⟨Fu_3, lu_3⟩ := CellsAt.gl (Fu_2.alloc _) g3
 have ⟨Fv_3, lv_3⟩ := CellsAt.gl (Fv_2.alloc _) g3
 have ⟨Fz_3, lz_3⟩ := CellsAt.gl (Fz_2.alloc _) g3
 have ⟨Fw3_3, lw3_3⟩ := CellsAt.gl (Fw3_2.alloc _) g3
 have ⟨Fr_3, lr_3⟩ := CellsAt.gl (Fr_2.alloc _) g3
 have ⟨Ft_3, lt_3⟩ := CellsAt.gl (Ft_2.alloc _) g3
 have ⟨Ft3_3, lt3_3⟩ := CellsAt.gl (CellsAt.new w2 50 #[.int .i64 t3.re, .int .i64 t3.im]) g3
 have z3 := (z2.alloc _ _).trans g3
 clear g3
 obtain ⟨ch0, ch1, ch2⟩ := Fh_3.t3
 obtain ⟨cu0, cu1⟩ := Fu_3.t2
 obtain ⟨cv0, cv1⟩ := Fv_3.t2
 obtain ⟨ct0, ct1⟩ := Ft_3.t2
 obtain ⟨ct30, ct31⟩ := Ft3_3.t2
 go_wp2_with fail
 clear ch0 ch1 ch2 cu0 cu1 cv0 cv1 ct0 ct1 ct30 ct31
 obtain ⟨v3, hqp1⟩ : ∃ zz, zz = (w3.alloc (.cells #[.int .i64 p.re, .int .i64 p.im] 50)) := ⟨_, rfl⟩
 have Yh_p1 : CellsAt v3 (w.heap.size) 181 #[.int .i64 b, .int .i64 mo, .bool inv] := by rw [hqp1]; first | exact Fh_3.alloc _ | simpa using Fh_3.alloc _
 have Yu_p1 : CellsAt v3 (w.heap.size + 1) 50 #[.int .i64 ju.re, .int .i64 ju.im] := by rw [hqp1]; first | exact Fu_3.alloc _ | simpa using Fu_3.alloc _
 have Yv_p1 : CellsAt v3 (w.heap.size + 1 + 1) 50 #[.int .i64 jv.re, .int .i64 jv.im] := by rw [hqp1]; first | exact Fv_3.alloc _ | simpa using Fv_3.alloc _
 have Yr_p1 : CellsAt v3 (w.heap.size + 1 + 1 + 1 + 1 + 1 + 1 + 1) 225 #[.int .i64 0, .int .i64 0, .int .i64 0, .int .i64 0, .int .i64 0, .int .i64 0, .int .i64 0, .int .i64 0] := by rw [hqp1]; first | exact Fr_3.alloc _ | simpa using Fr_3.alloc _
 have Yt_p1 : CellsAt v3 (w1.heap.size) 50 #[.int .i64 t.re, .int .i64 t.im] := by rw [hqp1]; first | exact Ft_3.alloc _ | simpa using Ft_3.alloc _
 have Yt3_p1 : CellsAt v3 (w2.heap.size) 50 #[.int .i64 t3.re, .int .i64 t3.im] := by rw [hqp1]; first | exact Ft3_3.alloc _ | simpa using Ft3_3.alloc _
 have Yp_p1 : CellsAt v3 (w3.heap.size) 50 #[.int .i64 p.re, .int .i64 p.im] := by rw [hqp1]; have q_ := CellsAt.new w3 50 #[.int .i64 p.re, .int .i64 p.im]; first | exact q_ | simpa using q_
 have yp1 : Gr w v3 := by rw [hqp1]; exact z3.alloc _ _
 rw [← hqp1]
 clear hqp1
 have KS : ∀ W, GB (w1.heap.size) v3 W → (W.cell? ⟨w.heap.size, 0, none⟩ = some (.int .i64 b) ∧ W.cell? ⟨w.heap.size, 1, none⟩ = some (.int .i64 mo) ∧ W.cell? ⟨w.heap.size, 2, none⟩ = some (.bool inv)) := fun W hG => ⟨(GB.cellsAt hG Yh_p1 (by omega)).cell 0, (GB.cellsAt hG Yh_p1 (by omega)).cell 1, (GB.cellsAt hG Yh_p1 (by omega)).cell 2⟩
 have hclG := gb_closed (w1.heap.size) v3
 try simp only [List.append_eq, List.cons_append, List.nil_append]
 refine wp_region_grow (S := GB (w1.heap.size) v3) rfl (GB.drew (GB.refl _ _)) ?_
 refine gK 1 hclG KS ?_
 refine wpG_call (i := 2) hclG rfl (by kernel_rfl) (by kernel_rfl) (by kernel_rfl) (fun _ _ _ h => h) (fun W hS => HN.out W) (by rfl) ?_ ?_
 ·(intro w' hSw; go_simp; try with_reducible rfl)
 try simp only [Act.put, putS]
 refine gR 0 fun w4 g4 s4 K hK => ?_
 replace g4 := (Gr.drew (Gr.refl v3)).trans g4
 have ⟨Fh_4, lh_4⟩ := Yh_p1.gl g4
 have ⟨Fu_4, lu_4⟩ := Yu_p1.gl g4
 have ⟨Fv_4, lv_4⟩ := Yv_p1.gl g4
 have ⟨Fr_4, lr_4⟩ := Yr_p1.gl g4
 have ⟨Ft_4, lt_4⟩ := Yt_p1.gl g4
 have ⟨Ft3_4, lt3_4⟩ := Yt3_p1.gl g4
 have ⟨Fp_4, lp_4⟩ := Yp_p1.gl g4
 have z4 := yp1.trans g4
 clear Yh_p1 Yu_p1 Yv_p1 Yr_p1 Yt_p1 Yt3_p1 Yp_p1 yp1 g4
 obtain ⟨ct0, ct1⟩ := Ft_4.t2
 go_simp
 clear ct0 ct1
 refine hK.out _ _ ?_ ?_
 ·exact s4
 clear hK K
 try simp only [Act.put, putS]
 refine wpG_call (i := 3) hclG rfl (by kernel_rfl) (by kernel_rfl) (by kernel_rfl) (fun _ _ _ h => h) (fun W hS => HR.out W) (by rfl) ?_ ?_
 ·(intro w' hSw; go_simp; try with_reducible rfl)
 try simp only [Act.put, putS]
 refine gT 4 hclG ?_
 refine gT 5 hclG ?_
 refine gT 6 hclG ?_
 refine gR 7 fun w5 g5 s5 K hK => ?_
 have ⟨Fh_5, lh_5⟩ := Fh_4.gl g5
 have ⟨Fu_5, lu_5⟩ := Fu_4.gl g5
 have ⟨Fv_5, lv_5⟩ := Fv_4.gl g5
 have ⟨Fr_5, lr_5⟩ := Fr_4.gl g5
 have ⟨Ft_5, lt_5⟩ := Ft_4.gl g5
 have ⟨Ft3_5, lt3_5⟩ := Ft3_4.gl g5
 have ⟨Fp_5, lp_5⟩ := Fp_4.gl g5
 have z5 := z4.trans g5
 clear Fh_4 Fu_4 Fv_4 Fr_4 Ft_4 Ft3_4 Fp_4 z4 g5
 have mt0 := CellsAt.frozen (Ft_5) 0
 have ct0 := Ft_5.at 0
 have mt1 := CellsAt.frozen (Ft_5) 1
 have ct1 := Ft_5.at 1
 go_simp
 clear mt0 ct0 mt1 ct1
 refine hK.out _ _ ?_ ?_
 ·exact (GB.set (GB.set s5 _ _) _ _)
 clear hK K
 try simp only [Act.put, putS]
 refine wpG_done (by kernel_rfl) (fun w6 g6 => ?_) _
 have ⟨Fh_6, lh_6⟩ := CellsAt.gl ((Fh_5.ot).ot) g6
 have ⟨Fu_6, lu_6⟩ := CellsAt.gl ((Fu_5.ot).ot) g6
 have ⟨Fv_6, lv_6⟩ := CellsAt.gl ((Fv_5.ot).ot) g6
 have ⟨Fr_6, lr_6⟩ := CellsAt.gl ((Fr_5.ot).ot) g6
 have ⟨Ft_6, lt_6⟩ := CellsAt.gl (CellsAt.set2 (Ft_5) _ _) g6
 have ⟨Ft3_6, lt3_6⟩ := CellsAt.gl ((Ft3_5.ot).ot) g6
 have ⟨Fp_6, lp_6⟩ := CellsAt.gl ((Fp_5.ot).ot) g6
 have z6 := ((z5.sc _).sc _).trans g6
 clear g6
 clear hclG KS
 go_wp2_with fail
 obtain ⟨v6, hqp2⟩ : ∃ zz, zz = w6 := ⟨_, rfl⟩
 have Yh_p2 : CellsAt v6 (w.heap.size) 181 #[.int .i64 b, .int .i64 mo, .bool inv] := by rw [hqp2]; first | exact Fh_6 | simpa using Fh_6
 have Yu_p2 : CellsAt v6 (w.heap.size + 1) 50 #[.int .i64 ju.re, .int .i64 ju.im] := by rw [hqp2]; first | exact Fu_6 | simpa using Fu_6
 have Yv_p2 : CellsAt v6 (w.heap.size + 1 + 1) 50 #[.int .i64 jv.re, .int .i64 jv.im] := by rw [hqp2]; first | exact Fv_6 | simpa using Fv_6
 have Yr_p2 : CellsAt v6 (w.heap.size + 1 + 1 + 1 + 1 + 1 + 1 + 1) 225 #[.int .i64 0, .int .i64 0, .int .i64 0, .int .i64 0, .int .i64 0, .int .i64 0, .int .i64 0, .int .i64 0] := by rw [hqp2]; first | exact Fr_6 | simpa using Fr_6
 have Yt_p2 : CellsAt v6 (w1.heap.size) 50 #[.int .i64 tt.re, .int .i64 tt.im] := by rw [hqp2]; first | exact Ft_6 | simpa using Ft_6
 have Yt3_p2 : CellsAt v6 (w2.heap.size) 50 #[.int .i64 t3.re, .int .i64 t3.im] := by rw [hqp2]; first | exact Ft3_6 | simpa using Ft3_6
 have Yp_p2 : CellsAt v6 (w3.heap.size) 50 #[.int .i64 p.re, .int .i64 p.im] := by rw [hqp2]; first | exact Fp_6 | simpa using Fp_6
 have yp2 : Gr w v6 := by rw [hqp2]; exact z6
 rw [← hqp2]
 clear hqp2
 have KS : ∀ W, GB (w2.heap.size) v6 W → (W.cell? ⟨w.heap.size, 0, none⟩ = some (.int .i64 b) ∧ W.cell? ⟨w.heap.size, 1, none⟩ = some (.int .i64 mo) ∧ W.cell? ⟨w.heap.size, 2, none⟩ = some (.bool inv)) := fun W hG => ⟨(GB.cellsAt hG Yh_p2 (by omega)).cell 0, (GB.cellsAt hG Yh_p2 (by omega)).cell 1, (GB.cellsAt hG Yh_p2 (by omega)).cell 2⟩
 have hclG := gb_closed (w2.heap.size) v6
 try simp only [List.append_eq, List.cons_append, List.nil_append]
 refine wp_region_grow (S := GB (w2.heap.size) v6) rfl (GB.drew (GB.refl _ _)) ?_
 refine gK 1 hclG KS ?_
 refine wpG_call (i := 2) hclG rfl (by kernel_rfl) (by kernel_rfl) (by kernel_rfl) (fun _ _ _ h => h) (fun W hS => HN.out W) (by rfl) ?_ ?_
 ·(intro w' hSw; go_simp; try with_reducible rfl)
 try simp only [Act.put, putS]
 refine gR 0 fun w7 g7 s7 K hK => ?_
 replace g7 := (Gr.drew (Gr.refl v6)).trans g7
 have ⟨Fh_7, lh_7⟩ := Yh_p2.gl g7
 have ⟨Fu_7, lu_7⟩ := Yu_p2.gl g7
 have ⟨Fv_7, lv_7⟩ := Yv_p2.gl g7
 have ⟨Fr_7, lr_7⟩ := Yr_p2.gl g7
 have ⟨Ft_7, lt_7⟩ := Yt_p2.gl g7
 have ⟨Ft3_7, lt3_7⟩ := Yt3_p2.gl g7
 have ⟨Fp_7, lp_7⟩ := Yp_p2.gl g7
 have z7 := yp2.trans g7
 clear Yh_p2 Yu_p2 Yv_p2 Yr_p2 Yt_p2 Yt3_p2 Yp_p2 yp2 g7
 obtain ⟨ct30, ct31⟩ := Ft3_7.t2
 go_simp
 clear ct30 ct31
 refine hK.out _ _ ?_ ?_
 ·exact s7
 clear hK K
 try simp only [Act.put, putS]
 refine wpG_call (i := 3) hclG rfl (by kernel_rfl) (by kernel_rfl) (by kernel_rfl) (fun _ _ _ h => h) (fun W hS => HR3.out W) (by rfl) ?_ ?_
 ·(intro w' hSw; go_simp; try with_reducible rfl)
 try simp only [Act.put, putS]
 refine gT 4 hclG ?_
 refine gT 5 hclG ?_
 refine gT 6 hclG ?_
 refine gR 7 fun w8 g8 s8 K hK => ?_
 have ⟨Fh_8, lh_8⟩ := Fh_7.gl g8
 have ⟨Fu_8, lu_8⟩ := Fu_7.gl g8
 have ⟨Fv_8, lv_8⟩ := Fv_7.gl g8
 have ⟨Fr_8, lr_8⟩ := Fr_7.gl g8
 have ⟨Ft_8, lt_8⟩ := Ft_7.gl g8
 have ⟨Ft3_8, lt3_8⟩ := Ft3_7.gl g8
 have ⟨Fp_8, lp_8⟩ := Fp_7.gl g8
 have z8 := z7.trans g8
 clear Fh_7 Fu_7 Fv_7 Fr_7 Ft_7 Ft3_7 Fp_7 z7 g8
 have mt30 := CellsAt.frozen (Ft3_8) 0
 have ct30 := Ft3_8.at 0
 have mt31 := CellsAt.frozen (Ft3_8) 1
 have ct31 := Ft3_8.at 1
 go_simp
 clear mt30 ct30 mt31 ct31
 refine hK.out _ _ ?_ ?_
 ·exact (GB.set (GB.set s8 _ _) _ _)
 clear hK K
 try simp only [Act.put, putS]
 refine wpG_done (by kernel_rfl) (fun w9 g9 => ?_) _
 have ⟨Fh_9, lh_9⟩ := CellsAt.gl ((Fh_8.ot).ot) g9
 have ⟨Fu_9, lu_9⟩ := CellsAt.gl ((Fu_8.ot).ot) g9
 have ⟨Fv_9, lv_9⟩ := CellsAt.gl ((Fv_8.ot).ot) g9
 have ⟨Fr_9, lr_9⟩ := CellsAt.gl ((Fr_8.ot).ot) g9
 have ⟨Ft_9, lt_9⟩ := CellsAt.gl ((Ft_8.ot).ot) g9
 have ⟨Ft3_9, lt3_9⟩ := CellsAt.gl (CellsAt.set2 (Ft3_8) _ _) g9
 have ⟨Fp_9, lp_9⟩ := CellsAt.gl ((Fp_8.ot).ot) g9
 have z9 := ((z8.sc _).sc _).trans g9
 clear g9
 clear hclG KS
 obtain ⟨ct0, ct1⟩ := Ft_9.t2
 obtain ⟨ct30, ct31⟩ := Ft3_9.t2
 go_wp2_with fail
 clear ct0 ct1 ct30 ct31
 refine (HL.out _).mono ?_
 rintro e w10 ⟨rfl, g10⟩
 have ⟨Fh_10, lh_10⟩ := Fh_9.gl g10
 have ⟨Fu_10, lu_10⟩ := Fu_9.gl g10
 have ⟨Fv_10, lv_10⟩ := Fv_9.gl g10
 have ⟨Fr_10, lr_10⟩ := Fr_9.gl g10
 have ⟨Ft_10, lt_10⟩ := Ft_9.gl g10
 have ⟨Ft3_10, lt3_10⟩ := Ft3_9.gl g10
 have ⟨Fp_10, lp_10⟩ := Fp_9.gl g10
 have z10 := z9.trans g10
 clear Fh_9 Fu_9 Fv_9 Fr_9 Ft_9 Ft3_9 Fp_9 z9 g10
 obtain ⟨ch0, ch1, ch2⟩ := Fh_10.t3
 obtain ⟨cu0, cu1⟩ := Fu_10.t2
 obtain ⟨cv0, cv1⟩ := Fv_10.t2
 go_wp2_with fail
 clear ch0 ch1 ch2 cu0 cu1 cv0 cv1
 refine (HU.out _).mono ?_
 rintro e w11 ⟨rfl, g11⟩
 have ⟨Fh_11, lh_11⟩ := CellsAt.gl ((Fh_10.alloc _).alloc _) g11
 have ⟨Fu_11, lu_11⟩ := CellsAt.gl ((Fu_10.alloc _).alloc _) g11
 have ⟨Fv_11, lv_11⟩ := CellsAt.gl ((Fv_10.alloc _).alloc _) g11
 have ⟨Fr_11, lr_11⟩ := CellsAt.gl ((Fr_10.alloc _).alloc _) g11
 have ⟨Fp_11, lp_11⟩ := CellsAt.gl ((Fp_10.alloc _).alloc _) g11
 have ⟨Fd_11, ld_11⟩ := CellsAt.gl ((CellsAt.new w10 50 #[.int .i64 d.re, .int .i64 d.im]).alloc _) g11
 have ⟨Fo_11, lo_11⟩ := CellsAt.gl (CellsAt.newAt (w10.alloc (.cells #[.int .i64 d.re, .int .i64 d.im] 50)) 50 #[.int .i64 P, .int .i64 0] (B := w10.heap.size + 1) (by simp)) g11
 have z11 := ((z10.alloc _ _).alloc _ _).trans g11
 clear g11
 obtain ⟨ch0, ch1, ch2⟩ := Fh_11.t3
 obtain ⟨cu0, cu1⟩ := Fu_11.t2
 obtain ⟨cv0, cv1⟩ := Fv_11.t2
 obtain ⟨cd0, cd1⟩ := Fd_11.t2
 obtain ⟨co0, co1⟩ := Fo_11.t2
 obtain ⟨mu0, mu1⟩ := Fu_11.f2
 go_wp2_with fail
 clear ch0 ch1 ch2 cu0 cu1 cv0 cv1 cd0 cd1 co0 co1 mu0 mu1
 refine (HV.out _).mono ?_
 rintro e w12 ⟨rfl, g12⟩
 have ⟨Fh_12, lh_12⟩ := CellsAt.gl ((Fh_11.ot).ot) g12
 have ⟨Fu_12, lu_12⟩ := CellsAt.gl (CellsAt.set2 (Fu_11) _ _) g12
 have ⟨Fv_12, lv_12⟩ := CellsAt.gl ((Fv_11.ot).ot) g12
 have ⟨Fr_12, lr_12⟩ := CellsAt.gl ((Fr_11.ot).ot) g12
 have ⟨Fp_12, lp_12⟩ := CellsAt.gl ((Fp_11.ot).ot) g12
 have ⟨Fd_12, ld_12⟩ := CellsAt.gl ((Fd_11.ot).ot) g12
 have ⟨Fo_12, lo_12⟩ := CellsAt.gl ((Fo_11.ot).ot) g12
 have z12 := ((z11.sc _).sc _).trans g12
 clear g12
 obtain ⟨ch0, ch1, ch2⟩ := Fh_12.t3
 obtain ⟨cu0, cu1⟩ := Fu_12.t2
 obtain ⟨cv0, cv1⟩ := Fv_12.t2
 obtain ⟨cd0, cd1⟩ := Fd_12.t2
 obtain ⟨co0, co1⟩ := Fo_12.t2
 obtain ⟨mv0, mv1⟩ := Fv_12.f2
 go_wp2_with fail
 clear ch0 ch1 ch2 cu0 cu1 cv0 cv1 cd0 cd1 co0 co1 mv0 mv1
 obtain ⟨v12, hqp3⟩ : ∃ zz, zz = ((w12.setCell ⟨w.heap.size + 1 + 1, 0, none⟩ (.int .i64 V.re)).setCell ⟨w.heap.size + 1 + 1, 1, none⟩ (.int .i64 V.im)) := ⟨_, rfl⟩
 have Yh_p3 : CellsAt v12 (w.heap.size) 181 #[.int .i64 b, .int .i64 mo, .bool inv] := by rw [hqp3]; first | exact (Fh_12.ot).ot | simpa using (Fh_12.ot).ot
 have Yu_p3 : CellsAt v12 (w.heap.size + 1) 50 #[.int .i64 U.re, .int .i64 U.im] := by rw [hqp3]; first | exact (Fu_12.ot).ot | simpa using (Fu_12.ot).ot
 have Yv_p3 : CellsAt v12 (w.heap.size + 1 + 1) 50 #[.int .i64 V.re, .int .i64 V.im] := by rw [hqp3]; first | exact CellsAt.set2 (Fv_12) _ _ | simpa using CellsAt.set2 (Fv_12) _ _
 have Yr_p3 : CellsAt v12 (w.heap.size + 1 + 1 + 1 + 1 + 1 + 1 + 1) 225 #[.int .i64 0, .int .i64 0, .int .i64 0, .int .i64 0, .int .i64 0, .int .i64 0, .int .i64 0, .int .i64 0] := by rw [hqp3]; first | exact (Fr_12.ot).ot | simpa using (Fr_12.ot).ot
 have Yp_p3 : CellsAt v12 (w3.heap.size) 50 #[.int .i64 p.re, .int .i64 p.im] := by rw [hqp3]; first | exact (Fp_12.ot).ot | simpa using (Fp_12.ot).ot
 have Yd_p3 : CellsAt v12 (w10.heap.size) 50 #[.int .i64 d.re, .int .i64 d.im] := by rw [hqp3]; first | exact (Fd_12.ot).ot | simpa using (Fd_12.ot).ot
 have yp3 : Gr w v12 := by rw [hqp3]; exact (z12.sc _).sc _
 rw [← hqp3]
 clear hqp3
 have KS : ∀ W, GB (w.heap.size + 1 + 1 + 1 + 1 + 1 + 1 + 1) v12 W → (W.cell? ⟨w.heap.size, 0, none⟩ = some (.int .i64 b) ∧ W.cell? ⟨w.heap.size, 1, none⟩ = some (.int .i64 mo) ∧ W.cell? ⟨w.heap.size, 2, none⟩ = some (.bool inv) ∧ W.cell? ⟨w.heap.size + 1, 0, none⟩ = some (.int .i64 U.re) ∧ W.cell? ⟨w.heap.size + 1, 1, none⟩ = some (.int .i64 U.im) ∧ W.cell? ⟨w.heap.size + 1 + 1, 0, none⟩ = some (.int .i64 V.re) ∧ W.cell? ⟨w.heap.size + 1 + 1, 1, none⟩ = some (.int .i64 V.im) ∧ W.cell? ⟨w3.heap.size, 0, none⟩ = some (.int .i64 p.re) ∧ W.cell? ⟨w3.heap.size, 1, none⟩ = some (.int .i64 p.im) ∧ W.cell? ⟨w10.heap.size, 0, none⟩ = some (.int .i64 d.re) ∧ W.cell? ⟨w10.heap.size, 1, none⟩ = some (.int .i64 d.im)) := fun W hG => ⟨(GB.cellsAt hG Yh_p3 (by omega)).cell 0, (GB.cellsAt hG Yh_p3 (by omega)).cell 1, (GB.cellsAt hG Yh_p3 (by omega)).cell 2, (GB.cellsAt hG Yu_p3 (by omega)).cell 0, (GB.cellsAt hG Yu_p3 (by omega)).cell 1, (GB.cellsAt hG Yv_p3 (by omega)).cell 0, (GB.cellsAt hG Yv_p3 (by omega)).cell 1, (GB.cellsAt hG Yp_p3 (by omega)).cell 0, (GB.cellsAt hG Yp_p3 (by omega)).cell 1, (GB.cellsAt hG Yd_p3 (by omega)).cell 0, (GB.cellsAt hG Yd_p3 (by omega)).cell 1⟩
 have hclG := gb_closed (w.heap.size + 1 + 1 + 1 + 1 + 1 + 1 + 1) v12
 try simp only [List.append_eq, List.cons_append, List.nil_append]
 refine wp_region_grow (S := GB (w.heap.size + 1 + 1 + 1 + 1 + 1 + 1 + 1) v12) rfl (GB.drew (GB.refl _ _)) ?_
 refine gK 0 hclG KS ?_
 refine gK 1 hclG KS ?_
 refine gK 2 hclG KS ?_
 refine wpG_call (i := 3) hclG rfl (by kernel_rfl) (by kernel_rfl) (by kernel_rfl) (fun _ _ _ h => h) (fun W hS => HQ0.out W) (by rfl) ?_ ?_
 ·(intro w' hSw; go_simp; try with_reducible rfl)
 try simp only [Act.put, putS]
 refine gK 4 hclG KS ?_
 refine gK 5 hclG KS ?_
 refine gK 6 hclG KS ?_
 refine wpG_call (i := 7) hclG rfl (by kernel_rfl) (by kernel_rfl) (by kernel_rfl) (fun _ _ _ h => h) (fun W hS => HQ1.out W) (by rfl) ?_ ?_
 ·(intro w' hSw; go_simp; try with_reducible rfl)
 try simp only [Act.put, putS]
 refine gK 8 hclG KS ?_
 refine gK 9 hclG KS ?_
 refine gK 10 hclG KS ?_
 refine wpG_call (i := 11) hclG rfl (by kernel_rfl) (by kernel_rfl) (by kernel_rfl) (fun _ _ _ h => h) (fun W hS => HQ2.out W) (by rfl) ?_ ?_
 ·(intro w' hSw; go_simp; try with_reducible rfl)
 try simp only [Act.put, putS]
 refine gK 12 hclG KS ?_
 refine gK 13 hclG KS ?_
 refine gK 14 hclG KS ?_
 refine wpG_call (i := 15) hclG rfl (by kernel_rfl) (by kernel_rfl) (by kernel_rfl) (fun _ _ _ h => h) (fun W hS => HQ3.out W) (by rfl) ?_ ?_
 ·(intro w' hSw; go_simp; try with_reducible rfl)
 try simp only [Act.put, putS]
 refine gT 16 hclG ?_
 refine gR 17 fun w13 g13 s13 K hK => ?_
 replace g13 := (Gr.drew (Gr.refl v12)).trans g13
 have ⟨Fh_13, lh_13⟩ := Yh_p3.gl g13
 have ⟨Fu_13, lu_13⟩ := Yu_p3.gl g13
 have ⟨Fv_13, lv_13⟩ := Yv_p3.gl g13
 have ⟨Fr_13, lr_13⟩ := Yr_p3.gl g13
 have ⟨Fp_13, lp_13⟩ := Yp_p3.gl g13
 have ⟨Fd_13, ld_13⟩ := Yd_p3.gl g13
 have z13 := yp3.trans g13
 clear Yh_p3 Yu_p3 Yv_p3 Yr_p3 Yp_p3 Yd_p3 yp3 g13
 have mr0 := CellsAt.frozen (Fr_13) 0
 have cr0 := Fr_13.at 0
 have mr1 := CellsAt.frozen (Fr_13) 1
 have cr1 := Fr_13.at 1
 have mr2 := CellsAt.frozen (Fr_13) 2
 have cr2 := Fr_13.at 2
 have mr3 := CellsAt.frozen (Fr_13) 3
 have cr3 := Fr_13.at 3
 have mr4 := CellsAt.frozen (Fr_13) 4
 have cr4 := Fr_13.at 4
 have mr5 := CellsAt.frozen (Fr_13) 5
 have cr5 := Fr_13.at 5
 have mr6 := CellsAt.frozen (Fr_13) 6
 have cr6 := Fr_13.at 6
 have mr7 := CellsAt.frozen (Fr_13) 7
 have cr7 := Fr_13.at 7
 go_simp
 clear mr0 cr0 mr1 cr1 mr2 cr2 mr3 cr3 mr4 cr4 mr5 cr5 mr6 cr6 mr7 cr7
 refine hK.out _ _ ?_ ?_
 ·exact (GB.set (GB.set (GB.set (GB.set (GB.set (GB.set (GB.set (GB.set s13 _ _) _ _) _ _) _ _) _ _) _ _) _ _) _ _)
 clear hK K
 try simp only [Act.put, putS]
 refine wpG_done (by kernel_rfl) (fun w14 g14 => ?_) _
 have ⟨Fh_14, lh_14⟩ := CellsAt.gl ((((((((Fh_13.ot).ot).ot).ot).ot).ot).ot).ot) g14
 have ⟨Fu_14, lu_14⟩ := CellsAt.gl ((((((((Fu_13.ot).ot).ot).ot).ot).ot).ot).ot) g14
 have ⟨Fv_14, lv_14⟩ := CellsAt.gl ((((((((Fv_13.ot).ot).ot).ot).ot).ot).ot).ot) g14
 have ⟨Fr_14, lr_14⟩ := CellsAt.gl (CellsAt.set8 (Fr_13) _ _ _ _ _ _ _ _) g14
 have ⟨Fp_14, lp_14⟩ := CellsAt.gl ((((((((Fp_13.ot).ot).ot).ot).ot).ot).ot).ot) g14
 have ⟨Fd_14, ld_14⟩ := CellsAt.gl ((((((((Fd_13.ot).ot).ot).ot).ot).ot).ot).ot) g14
 have z14 := ((((((((z13.sc _).sc _).sc _).sc _).sc _).sc _).sc _).sc _).trans g14
 clear g14
 clear hclG KS
 go_wp2_with fail
 obtain ⟨uf, hqp4⟩ : ∃ zz, zz = w14 := ⟨_, rfl⟩
 have Yh_p4 : CellsAt uf (w.heap.size) 181 #[.int .i64 b, .int .i64 mo, .bool inv] := by rw [hqp4]; first | exact Fh_14 | simpa using Fh_14
 have Yu_p4 : CellsAt uf (w.heap.size + 1) 50 #[.int .i64 U.re, .int .i64 U.im] := by rw [hqp4]; first | exact Fu_14 | simpa using Fu_14
 have Yv_p4 : CellsAt uf (w.heap.size + 1 + 1) 50 #[.int .i64 V.re, .int .i64 V.im] := by rw [hqp4]; first | exact Fv_14 | simpa using Fv_14
 have Yr_p4 : CellsAt uf (w.heap.size + 1 + 1 + 1 + 1 + 1 + 1 + 1) 225 #[.int .i64 q0.re, .int .i64 q0.im, .int .i64 q1.re, .int .i64 q1.im, .int .i64 q2.re, .int .i64 q2.im, .int .i64 q3.re, .int .i64 q3.im] := by rw [hqp4]; first | exact Fr_14 | simpa using Fr_14
 have Yp_p4 : CellsAt uf (w3.heap.size) 50 #[.int .i64 p.re, .int .i64 p.im] := by rw [hqp4]; first | exact Fp_14 | simpa using Fp_14
 have Yd_p4 : CellsAt uf (w10.heap.size) 50 #[.int .i64 d.re, .int .i64 d.im] := by rw [hqp4]; first | exact Fd_14 | simpa using Fd_14
 have yp4 : Gr w uf := by rw [hqp4]; exact z14
 rw [← hqp4]
 clear hqp4
 obtain ⟨cr0, cr1, cr2, cr3, cr4, cr5, cr6, cr7⟩ := Yr_p4.t8
 refine bodyPost_ret (v := .agg #[.int .i64 q0.re, .int .i64 q0.im, .int .i64 q1.re, .int .i64 q1.im, .int .i64 q2.re, .int .i64 q2.im, .int .i64 q3.re, .int .i64 q3.im]) ?_ rfl ⟨rfl, yp4⟩
 simp [results, Tryz.results199, go_sem, *]
end
end Go.Proofs.YtdignnmpfkgkoaaGreat
