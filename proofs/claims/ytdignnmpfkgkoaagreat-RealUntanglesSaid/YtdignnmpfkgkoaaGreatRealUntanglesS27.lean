import Derived.Test.YtdignnmpfkgkoaaGreatRealUntanglesS22
namespace Go.Proofs.YtdignnmpfkgkoaaGreat
section
open Go.ChangeShapes Go.WideShapes Go.ChangeAt Go.RowKit
set_option linter.unusedVariables false
set_option linter.unusedSimpArgs false
set_option maxRecDepth 100000
set_option maxHeartbeats 8000000 in
theorem rlBin_of (a o v t b ta tb oa ob z : Gi) (fo lo ke sc mo : Int) (iv : Bool) (k b0 T q l1 s0 s1 d : Int) (HB : CR 97 #[.agg #[.int .i64 fo, .int .i64 lo, .int .i64 ke, .int .i64 sc, .int .i64 mo, .bool iv]] (.int .i64 b0))
 (HE : Hid (wrap64 (b0 - 2) = T ∧ IntKind.i64.wrap (b0 - 2) = T ∧ (∀ W, (Op.shift .shl .i64 1 .i64 T).run Tryz.prog W = .ok (.int .i64 q) W) ∧ wrap64 (lo + 1) = l1 ∧ IntKind.i64.wrap (lo + 1) = l1))
 (HF : Hid (wrap64 ((oa).re + (ob).re) = s0 ∧ wrap64 ((oa).im + (ob).im) = s1 ∧ wrap64 (T + 2) = d ∧ IntKind.i64.wrap ((oa).re + (ob).re) = s0 ∧ IntKind.i64.wrap ((oa).im + (ob).im) = s1 ∧ IntKind.i64.wrap (T + 2) = d))
 (HR : CR 124 #[.int .i64 l1, .int .i64 k, .int .i64 T] (.tuple #[.agg #[.int .i64 (v).re, .int .i64 (v).im], .int .i64 0])) (HT : CR 125 #[.agg #[.int .i64 (v).re, .int .i64 (v).im], .int .i64 (-1)] (.tuple #[.agg #[.int .i64 (t).re, .int .i64 (t).im], .int .i64 0])) (HC : CR 116 #[.agg #[.int .i64 (o).re, .int .i64 (o).im]] (.tuple #[.agg #[.int .i64 (b).re, .int .i64 (b).im], .int .i64 0]))
 (HS : CR 126 #[.agg #[.int .i64 q, .int .i64 0], .agg #[.int .i64 (t).re, .int .i64 (t).im]] (.tuple #[.agg #[.int .i64 (ta).re, .int .i64 (ta).im], .int .i64 0])) (HL : CR 127 #[.agg #[.int .i64 q, .int .i64 0], .agg #[.int .i64 (t).re, .int .i64 (t).im]] (.tuple #[.agg #[.int .i64 (tb).re, .int .i64 (tb).im], .int .i64 0]))
 (H1 : CR 128 #[.agg #[.int .i64 (a).re, .int .i64 (a).im], .agg #[.int .i64 (ta).re, .int .i64 (ta).im]] (.tuple #[.agg #[.int .i64 (oa).re, .int .i64 (oa).im], .int .i64 0])) (H2 : CR 128 #[.agg #[.int .i64 (b).re, .int .i64 (b).im], .agg #[.int .i64 (tb).re, .int .i64 (tb).im]] (.tuple #[.agg #[.int .i64 (ob).re, .int .i64 (ob).im], .int .i64 0])) (HZ : CR 129 #[.agg #[.int .i64 s0, .int .i64 s1], .int .i64 d, .int .i64 mo] (.tuple #[.agg #[.int .i64 (z).re, .int .i64 (z).im], .int .i64 0])) (w : World) :
 CW 73 #[.agg #[.int .i64 (a).re, .int .i64 (a).im], .agg #[.int .i64 (o).re, .int .i64 (o).im], .int .i64 k, .agg #[.int .i64 fo, .int .i64 lo, .int .i64 ke, .int .i64 sc, .int .i64 mo, .bool iv]] w (.agg #[.int .i64 (z).re, .int .i64 (z).im]) :=by
 delta CW
 go_enter Tryz.func73, Tryz.ntmps73
 go_wp2_with fail
 obtain ⟨u0, hU⟩ : ∃ uu, uu = ((((w.alloc (.cells #[.int .i64 (a).re, .int .i64 (a).im] 50)).alloc (.cells #[.int .i64 (o).re, .int .i64 (o).im] 50)).alloc (.cells #[.int .i64 fo, .int .i64 lo, .int .i64 ke, .int .i64 sc, .int .i64 mo, .bool iv] 24)).alloc (.cells #[.int .i64 0, .int .i64 0] 50)) := ⟨_, rfl⟩
 have ⟨gu, R0, R1, R2, R3⟩ := lay4 hU
 rw [← hU]
 clear hU
 have la := R0.lt
 have lo := R1.lt
 have lp := R2.lt
 have lr := R3.lt
 obtain ⟨cp0, cp1, cp2, cp3, cp4, cp5⟩ := R2.t6
 go_wp2_with fail
 clear cp0 cp1 cp2 cp3 cp4 cp5
 refine (HB.out _).mono ?_
 rintro e w1 ⟨rfl, g1⟩
 have ⟨Fa_1, la_1⟩ := R0.gl g1
 have ⟨Fo_1, lo_1⟩ := R1.gl g1
 have ⟨Fp_1, lp_1⟩ := R2.gl g1
 have ⟨Fr_1, lr_1⟩ := R3.gl g1
 have z1 := gu.trans g1
 clear R0 R1 R2 R3 gu g1
 obtain ⟨e1, e1b, e2, e3, e3b⟩ := HE.out
 obtain ⟨cp0, cp1, cp2, cp3, cp4, cp5⟩ := Fp_1.t6
 go_wp2_with fail
 clear cp0 cp1 cp2 cp3 cp4 cp5
 refine (HR.out _).mono ?_
 rintro e w2 ⟨rfl, g2⟩
 have ⟨Fa_2, la_2⟩ := CellsAt.gl (Fa_1.alloc _) g2
 have ⟨Fo_2, lo_2⟩ := CellsAt.gl (Fo_1.alloc _) g2
 have ⟨Fp_2, lp_2⟩ := CellsAt.gl (Fp_1.alloc _) g2
 have ⟨Fr_2, lr_2⟩ := CellsAt.gl (Fr_1.alloc _) g2
 have ⟨Fn_2, ln_2⟩ := CellsAt.gl (CellsAt.new w1 50 #[.int .i64 q, .int .i64 0]) g2
 have z2 := (z1.alloc _ _).trans g2
 clear g2
 go_wp2_with fail
 refine (HT.out _).mono ?_
 rintro e w3 ⟨rfl, g3⟩
 have ⟨Fa_3, la_3⟩ := CellsAt.gl (Fa_2.alloc _) g3
 have ⟨Fo_3, lo_3⟩ := CellsAt.gl (Fo_2.alloc _) g3
 have ⟨Fp_3, lp_3⟩ := CellsAt.gl (Fp_2.alloc _) g3
 have ⟨Fr_3, lr_3⟩ := CellsAt.gl (Fr_2.alloc _) g3
 have ⟨Fn_3, ln_3⟩ := CellsAt.gl (Fn_2.alloc _) g3
 have ⟨Fw_3, lw_3⟩ := CellsAt.gl (CellsAt.new w2 50 #[.int .i64 (v).re, .int .i64 (v).im]) g3
 have z3 := (z2.alloc _ _).trans g3
 clear g3
 obtain ⟨co0, co1⟩ := Fo_3.t2
 go_wp2_with fail
 clear co0 co1
 refine (HC.out _).mono ?_
 rintro e w4 ⟨rfl, g4⟩
 have ⟨Fa_4, la_4⟩ := CellsAt.gl (Fa_3.alloc _) g4
 have ⟨Fo_4, lo_4⟩ := CellsAt.gl (Fo_3.alloc _) g4
 have ⟨Fp_4, lp_4⟩ := CellsAt.gl (Fp_3.alloc _) g4
 have ⟨Fr_4, lr_4⟩ := CellsAt.gl (Fr_3.alloc _) g4
 have ⟨Fn_4, ln_4⟩ := CellsAt.gl (Fn_3.alloc _) g4
 have ⟨Ft_4, lt_4⟩ := CellsAt.gl (CellsAt.new w3 50 #[.int .i64 (t).re, .int .i64 (t).im]) g4
 have z4 := (z3.alloc _ _).trans g4
 clear g4
 obtain ⟨cn0, cn1⟩ := Fn_4.t2
 obtain ⟨ct0, ct1⟩ := Ft_4.t2
 go_wp2_with fail
 clear cn0 cn1 ct0 ct1
 refine (HS.out _).mono ?_
 rintro e w5 ⟨rfl, g5⟩
 have ⟨Fa_5, la_5⟩ := CellsAt.gl (Fa_4.alloc _) g5
 have ⟨Fp_5, lp_5⟩ := CellsAt.gl (Fp_4.alloc _) g5
 have ⟨Fr_5, lr_5⟩ := CellsAt.gl (Fr_4.alloc _) g5
 have ⟨Fn_5, ln_5⟩ := CellsAt.gl (Fn_4.alloc _) g5
 have ⟨Ft_5, lt_5⟩ := CellsAt.gl (Ft_4.alloc _) g5
 have ⟨Fb_5, lb_5⟩ := CellsAt.gl (CellsAt.new w4 50 #[.int .i64 (b).re, .int .i64 (b).im]) g5
 have z5 := (z4.alloc _ _).trans g5
 clear g5
 obtain ⟨cn0, cn1⟩ := Fn_5.t2
 obtain ⟨ct0, ct1⟩ := Ft_5.t2
 go_wp2_with fail
 clear cn0 cn1 ct0 ct1
 refine (HL.out _).mono ?_
 rintro e w6 ⟨rfl, g6⟩
 have ⟨Fa_6, la_6⟩ := CellsAt.gl (Fa_5.alloc _) g6
 have ⟨Fp_6, lp_6⟩ := CellsAt.gl (Fp_5.alloc _) g6
 have ⟨Fr_6, lr_6⟩ := CellsAt.gl (Fr_5.alloc _) g6
 have ⟨Fn_6, ln_6⟩ := CellsAt.gl (Fn_5.alloc _) g6
 have ⟨Ft_6, lt_6⟩ := CellsAt.gl (Ft_5.alloc _) g6
 have ⟨Fb_6, lb_6⟩ := CellsAt.gl (Fb_5.alloc _) g6
 have ⟨Fx_6, lx_6⟩ := CellsAt.gl (CellsAt.new w5 50 #[.int .i64 (ta).re, .int .i64 (ta).im]) g6
 have z6 := (z5.alloc _ _).trans g6
 clear g6
 obtain ⟨ca0, ca1⟩ := Fa_6.t2
 obtain ⟨cx0, cx1⟩ := Fx_6.t2
 go_wp2_with fail
 clear ca0 ca1 cx0 cx1
 refine (H1.out _).mono ?_
 rintro e w7 ⟨rfl, g7⟩
 have ⟨Fa_7, la_7⟩ := CellsAt.gl (Fa_6.alloc _) g7
 have ⟨Fp_7, lp_7⟩ := CellsAt.gl (Fp_6.alloc _) g7
 have ⟨Fr_7, lr_7⟩ := CellsAt.gl (Fr_6.alloc _) g7
 have ⟨Fb_7, lb_7⟩ := CellsAt.gl (Fb_6.alloc _) g7
 have ⟨Fx_7, lx_7⟩ := CellsAt.gl (Fx_6.alloc _) g7
 have ⟨Fy_7, ly_7⟩ := CellsAt.gl (CellsAt.new w6 50 #[.int .i64 (tb).re, .int .i64 (tb).im]) g7
 have z7 := (z6.alloc _ _).trans g7
 clear g7
 obtain ⟨cb0, cb1⟩ := Fb_7.t2
 obtain ⟨cy0, cy1⟩ := Fy_7.t2
 go_wp2_with fail
 clear cb0 cb1 cy0 cy1
 refine (H2.out _).mono ?_
 rintro e w8 ⟨rfl, g8⟩
 have ⟨Fp_8, lp_8⟩ := CellsAt.gl (Fp_7.alloc _) g8
 have ⟨Fr_8, lr_8⟩ := CellsAt.gl (Fr_7.alloc _) g8
 have ⟨Fb_8, lb_8⟩ := CellsAt.gl (Fb_7.alloc _) g8
 have ⟨Fy_8, ly_8⟩ := CellsAt.gl (Fy_7.alloc _) g8
 have ⟨Fc_8, lc_8⟩ := CellsAt.gl (CellsAt.new w7 50 #[.int .i64 (oa).re, .int .i64 (oa).im]) g8
 have z8 := (z7.alloc _ _).trans g8
 clear g8
 obtain ⟨f1, f2, f3, f1b, f2b, f3b⟩ := HF.out
 obtain ⟨cc0, cc1⟩ := Fc_8.t2
 obtain ⟨cp0, cp1, cp2, cp3, cp4, cp5⟩ := Fp_8.t6
 go_wp2_with fail
 clear cc0 cc1 cp0 cp1 cp2 cp3 cp4 cp5
 refine (HZ.out _).mono ?_
 rintro e w9 ⟨rfl, g9⟩
 have ⟨Fp_9, lp_9⟩ := CellsAt.gl (Fp_8.alloc _) g9
 have ⟨Fr_9, lr_9⟩ := CellsAt.gl (Fr_8.alloc _) g9
 have ⟨Fc_9, lc_9⟩ := CellsAt.gl (Fc_8.alloc _) g9
 have ⟨Fd_9, ld_9⟩ := CellsAt.gl (CellsAt.new w8 50 #[.int .i64 (ob).re, .int .i64 (ob).im]) g9
 have z9 := (z8.alloc _ _).trans g9
 clear g9
 have mr0 := CellsAt.frozen (Fr_9) 0
 have cr0 := Fr_9.at 0
 have mr1 := CellsAt.frozen (Fr_9) 1
 have cr1 := Fr_9.at 1
 go_wp2_with fail
 clear mr0 cr0 mr1 cr1
 obtain ⟨uf, hqp1⟩ : ∃ zz, zz = (((w9.setCell ⟨w.heap.size + 1 + 1 + 1, 0, none⟩ (.int .i64 (z).re)).setCell ⟨w.heap.size + 1 + 1 + 1, 1, none⟩ (.int .i64 (z).im)).alloc (.cells #[.int .i64 (z).re, .int .i64 (z).im] 50)) := ⟨_, rfl⟩
 have Yr_p1 : CellsAt uf (w.heap.size + 1 + 1 + 1) 50 #[.int .i64 (z).re, .int .i64 (z).im] := by rw [hqp1]; exact (CellsAt.set2 (Fr_9) _ _).alloc _
 have yp1 : Gr w uf := by rw [hqp1]; exact ((z9.sc _).sc _).alloc _ _
 rw [← hqp1]
 clear hqp1
 obtain ⟨cr0, cr1⟩ := Yr_p1.t2
 refine bodyPost_ret (v := .agg #[.int .i64 (z).re, .int .i64 (z).im]) ?_ rfl ⟨rfl, yp1⟩
 simp [results, Tryz.results73, go_sem, *]
set_option maxHeartbeats 2000000 in
theorem rPlan18_no (fo lo ke sc mo : Int) (iv : Bool) (HC : CR 37 #[.agg #[.int .i64 fo, .int .i64 lo, .int .i64 ke, .int .i64 sc, .int .i64 mo, .bool iv]] (.bool false)) (w : World) :
 CW 14 #[.agg #[.int .i64 fo, .int .i64 lo, .int .i64 ke, .int .i64 sc, .int .i64 mo, .bool iv]] w (.bool false) :=by
 delta CW
 go_enter Tryz.func14, Tryz.ntmps14
 go_wp2_with fail
 obtain ⟨u0, hU⟩ : ∃ uu, uu = (w.alloc (.cells #[.int .i64 fo, .int .i64 lo, .int .i64 ke, .int .i64 sc, .int .i64 mo, .bool iv] 24)) := ⟨_, rfl⟩
 have ⟨gu, R0⟩ := lay1 hU
 rw [← hU]
 clear hU
 have lp := R0.lt
 obtain ⟨cp0, cp1, cp2, cp3, cp4, cp5⟩ := R0.t6
 go_wp2_with fail
 clear cp0 cp1 cp2 cp3 cp4 cp5
 refine (HC.out _).mono ?_
 rintro e w1 ⟨rfl, g1⟩
 have ⟨Fp_1, lp_1⟩ := R0.gl g1
 have z1 := gu.trans g1
 clear R0 gu g1
 go_wp2_with fail
 go_ret
 exact ⟨rfl, z1⟩
set_option maxHeartbeats 2000000 in
theorem rPlan18_long (fo lo ke sc mo : Int) (iv : Bool) (h : (decide (lo ≤ 5)) = false) (HC : CR 37 #[.agg #[.int .i64 fo, .int .i64 lo, .int .i64 ke, .int .i64 sc, .int .i64 mo, .bool iv]] (.bool true)) (w : World) :
 CW 14 #[.agg #[.int .i64 fo, .int .i64 lo, .int .i64 ke, .int .i64 sc, .int .i64 mo, .bool iv]] w (.bool false) :=by
 delta CW
 go_enter Tryz.func14, Tryz.ntmps14
 go_wp2_with fail
 obtain ⟨u0, hU⟩ : ∃ uu, uu = (w.alloc (.cells #[.int .i64 fo, .int .i64 lo, .int .i64 ke, .int .i64 sc, .int .i64 mo, .bool iv] 24)) := ⟨_, rfl⟩
 have ⟨gu, R0⟩ := lay1 hU
 rw [← hU]
 clear hU
 have lp := R0.lt
 obtain ⟨cp0, cp1, cp2, cp3, cp4, cp5⟩ := R0.t6
 go_wp2_with fail
 clear cp0 cp1 cp2 cp3 cp4 cp5
 refine (HC.out _).mono ?_
 rintro e w1 ⟨rfl, g1⟩
 have ⟨Fp_1, lp_1⟩ := R0.gl g1
 have z1 := gu.trans g1
 clear R0 gu g1
 obtain ⟨cp0, cp1, cp2, cp3, cp4, cp5⟩ := Fp_1.t6
 go_wp2_with fail
 clear cp0 cp1 cp2 cp3 cp4 cp5
 go_ret
 exact ⟨rfl, z1⟩
set_option maxHeartbeats 2000000 in
theorem rPlan18_yes (fo lo ke sc mo : Int) (iv : Bool) (h : (decide (lo ≤ 5)) = true) (HC : CR 37 #[.agg #[.int .i64 fo, .int .i64 lo, .int .i64 ke, .int .i64 sc, .int .i64 mo, .bool iv]] (.bool true)) (w : World) :
 CW 14 #[.agg #[.int .i64 fo, .int .i64 lo, .int .i64 ke, .int .i64 sc, .int .i64 mo, .bool iv]] w (.bool (!iv)) :=by
 delta CW
 go_enter Tryz.func14, Tryz.ntmps14
 go_wp2_with fail
 obtain ⟨u0, hU⟩ : ∃ uu, uu = (w.alloc (.cells #[.int .i64 fo, .int .i64 lo, .int .i64 ke, .int .i64 sc, .int .i64 mo, .bool iv] 24)) := ⟨_, rfl⟩
 have ⟨gu, R0⟩ := lay1 hU
 rw [← hU]
 clear hU
 have lp := R0.lt
 obtain ⟨cp0, cp1, cp2, cp3, cp4, cp5⟩ := R0.t6
 go_wp2_with fail
 clear cp0 cp1 cp2 cp3 cp4 cp5
 refine (HC.out _).mono ?_
 rintro e w1 ⟨rfl, g1⟩
 have ⟨Fp_1, lp_1⟩ := R0.gl g1
 have z1 := gu.trans g1
 clear R0 gu g1
 obtain ⟨cp0, cp1, cp2, cp3, cp4, cp5⟩ := Fp_1.t6
 go_wp2_with fail
 clear cp0 cp1 cp2 cp3 cp4 cp5
 go_ret
 exact ⟨rfl, z1⟩
set_option maxHeartbeats 8000000 in
theorem rBin18_of (sp : Option Addr) (m cx q cl yb yo wb wo wl wc k i1 i2 : Nat) (ex : Int) (sa : Bool) (fo lo ke sc mo : Int) (iv : Bool) (T T2 d : Int) (a c cc s l t sc1 r pr x z : Gi)
 (h0 : ¬ m = 0) (e1 : (k : Int).tmod (m : Int) = (i1 : Int)) (b1 : (i1 : Int) < (m : Int)) (e2 : IntKind.i64.wrap ((m : Int) - (k : Int)) = d) (e3 : d.tmod (m : Int) = (i2 : Int)) (b2 : (i2 : Int) < (m : Int)) (b3 : (k : Int) < (wl : Int)) (e4 : IntKind.i64.wrap (T + 2) = T2)
 (HB : CR 42 #[.int .i64 fo] (.int .i64 T)) (HJ : CR 79 #[.agg #[.int .i64 (c).re, .int .i64 (c).im]] (.agg #[.int .i64 (cc).re, .int .i64 (cc).im])) (HL : CR 81 #[.agg #[.int .i64 (a).re, .int .i64 (a).im], .agg #[.int .i64 (cc).re, .int .i64 (cc).im]] (.agg #[.int .i64 (l).re, .int .i64 (l).im])) (HT : CR 80 #[.agg #[.int .i64 (l).re, .int .i64 (l).im], .int .i64 (-1)] (.agg #[.int .i64 (t).re, .int .i64 (t).im]))
 (HS : CR 82 #[.agg #[.int .i64 (a).re, .int .i64 (a).im], .agg #[.int .i64 (cc).re, .int .i64 (cc).im]] (.agg #[.int .i64 (s).re, .int .i64 (s).im])) (HK : CR 83 #[.agg #[.int .i64 (s).re, .int .i64 (s).im], .int .i64 T] (.agg #[.int .i64 (sc1).re, .int .i64 (sc1).im])) (HM : CR 84 #[.agg #[.int .i64 (t).re, .int .i64 (t).im], .agg #[.int .i64 (r).re, .int .i64 (r).im]] (.agg #[.int .i64 (pr).re, .int .i64 (pr).im])) (HU : CR 82 #[.agg #[.int .i64 (sc1).re, .int .i64 (sc1).im], .agg #[.int .i64 (pr).re, .int .i64 (pr).im]] (.agg #[.int .i64 (x).re, .int .i64 (x).im])) (HZ : CR 85 #[.agg #[.int .i64 (x).re, .int .i64 (x).im], .int .i64 T2, .int .i64 mo] (.agg #[.int .i64 (z).re, .int .i64 (z).im]))
 (w : World) (ybl : yb < w.heap.size) (wbl : wb < w.heap.size) (hA : w.cell? ⟨yb, yo + i1 * 2, none⟩ = some (.int .i64 a.re) ∧ w.cell? ⟨yb, yo + i1 * 2 + 1, none⟩ = some (.int .i64 a.im)) (hC : w.cell? ⟨yb, yo + i2 * 2, none⟩ = some (.int .i64 c.re) ∧ w.cell? ⟨yb, yo + i2 * 2 + 1, none⟩ = some (.int .i64 c.im)) (hR : w.cell? ⟨wb, wo + k * 2, none⟩ = some (.int .i64 r.re) ∧ w.cell? ⟨wb, wo + k * 2 + 1, none⟩ = some (.int .i64 r.im)) :
 CW 43 #[.agg #[.slice (some ⟨yb, yo, none⟩) m cx, .int .i64 ex, .bool sa, .slice sp q cl], .agg #[.int .i64 fo, .int .i64 lo, .int .i64 ke, .int .i64 sc, .int .i64 mo, .bool iv], .slice (some ⟨wb, wo, none⟩) wl wc, .int .i64 (k : Int)] w (.agg #[.int .i64 (z).re, .int .i64 (z).im]) :=by
 delta CW
 obtain ⟨hA0, hA1⟩ := hA
 obtain ⟨hC0, hC1⟩ := hC
 obtain ⟨hR0, hR1⟩ := hR
 go_enter Tryz.func43, Tryz.ntmps43
 go_wp2_with fail
 obtain ⟨u0, hU⟩ : ∃ uu, uu = (((w.alloc (.cells #[.slice (some ⟨yb, yo, none⟩) m cx, .int .i64 ex, .bool sa, .slice sp q cl] 27)).alloc (.cells #[.int .i64 fo, .int .i64 lo, .int .i64 ke, .int .i64 sc, .int .i64 mo, .bool iv] 24)).alloc (.cells #[.int .i64 0, .int .i64 0] 50)) := ⟨_, rfl⟩
 have ⟨gu, R0, R1, R2⟩ := lay3 hU
 rw [← hU]
 clear hU
 have lb := R0.lt
 have lp := R1.lt
 have lr := R2.lt
 obtain ⟨cb0, cb1, cb2, cb3⟩ := R0.t4
 obtain ⟨cp0, cp1, cp2, cp3, cp4, cp5⟩ := R1.t6
 go_wp2_with fail
 clear cb0 cb1 cb2 cb3 cp0 cp1 cp2 cp3 cp4 cp5
 refine (HB.out _).mono ?_
 rintro e w1 ⟨rfl, g1⟩
 have ⟨Fb_1, lb_1⟩ := R0.gl g1
 have ⟨Fp_1, lp_1⟩ := R1.gl g1
 have ⟨Fr_1, lr_1⟩ := R2.gl g1
 have z1 := gu.trans g1
 clear R0 R1 R2 gu g1
 go_wp2_with fail
 obtain ⟨v1, hqp1⟩ : ∃ zz, zz = w1 := ⟨_, rfl⟩
 have Yb_p1 : CellsAt v1 (w.heap.size) 27 #[.slice (some ⟨yb, yo, none⟩) m cx, .int .i64 ex, .bool sa, .slice sp q cl] := by rw [hqp1]; first | exact Fb_1 | simpa using Fb_1
 have Yp_p1 : CellsAt v1 (w.heap.size + 1) 24 #[.int .i64 fo, .int .i64 lo, .int .i64 ke, .int .i64 sc, .int .i64 mo, .bool iv] := by rw [hqp1]; first | exact Fp_1 | simpa using Fp_1
 have Yr_p1 : CellsAt v1 (w.heap.size + 1 + 1) 50 #[.int .i64 0, .int .i64 0] := by rw [hqp1]; first | exact Fr_1 | simpa using Fr_1
 have yp1 : Gr w v1 := by rw [hqp1]; exact z1
 rw [← hqp1]
 clear hqp1
 have zy1 : yb < v1.heap.size := Nat.lt_of_lt_of_le ybl (yp1).size
 have KS : ∀ W, Gr v1 W → (W.cell? ⟨w.heap.size, 0, none⟩ = some (.slice (some ⟨yb, yo, none⟩) m cx) ∧ W.cell? ⟨w.heap.size, 1, none⟩ = some (.int .i64 ex) ∧ W.cell? ⟨w.heap.size, 2, none⟩ = some (.bool sa) ∧ W.cell? ⟨w.heap.size, 3, none⟩ = some (.slice sp q cl) ∧ W.cell? ⟨yb, yo + i1 * 2, none⟩ = some (.int .i64 a.re) ∧ W.cell? ⟨yb, yo + i1 * 2 + 1, none⟩ = some (.int .i64 a.im)) := fun W hG => ⟨(CellsAt.gr Yb_p1 hG).cell 0, (CellsAt.gr Yb_p1 hG).cell 1, (CellsAt.gr Yb_p1 hG).cell 2, (CellsAt.gr Yb_p1 hG).cell 3, ((yp1.trans hG).cell (p := ⟨yb, yo + i1 * 2, none⟩) ybl).trans hA0, ((yp1.trans hG).cell (p := ⟨yb, yo + i1 * 2 + 1, none⟩) ybl).trans hA1⟩
 have hclG := gr_closed v1
 try simp only [List.append_eq, List.cons_append, List.nil_append]
 refine wp_region_grow (S := Gr v1) rfl (Gr.drew (Gr.refl _)) ?_
 refine gT 0 hclG ?_
 refine gK 1 hclG KS ?_
 refine gT 2 hclG ?_
 refine gT 3 hclG ?_
 refine gT 4 hclG ?_
 refine gT 5 hclG ?_
 refine gK 6 hclG KS ?_
 refine gR 7 fun w2 g2 s2 K hK => ?_
 replace g2 := (Gr.drew (Gr.refl v1)).trans g2
 have ⟨Fb_2, lb_2⟩ := Yb_p1.gl g2
 have ⟨Fp_2, lp_2⟩ := Yp_p1.gl g2
 have ⟨Fr_2, lr_2⟩ := Yr_p1.gl g2
 have z2 := yp1.trans g2
 clear Yb_p1 Yp_p1 Yr_p1 yp1 g2
 have sa2 := (z2).size
 have sb2 := s2.size
 go_simp
 refine hK.out _ _ ?_ ?_
 ·exact Gr.alloc s2 _ _
 clear hK K
 try simp only [Act.put, putS]
 refine gR 8 fun w3 g3 s3 K hK => ?_
 have ⟨Fb_3, lb_3⟩ := CellsAt.gl (Fb_2.alloc _) g3
 have ⟨Fp_3, lp_3⟩ := CellsAt.gl (Fp_2.alloc _) g3
 have ⟨Fr_3, lr_3⟩ := CellsAt.gl (Fr_2.alloc _) g3
 have ⟨Fa_3, la_3⟩ := CellsAt.gl (CellsAt.new w2 50 #[.int .i64 0, .int .i64 0]) g3
 have z3 := (z2.alloc _ _).trans g3
 clear g3
 have ma0 := CellsAt.frozen (Fa_3) 0
 have ca0 := Fa_3.at 0
 have ma1 := CellsAt.frozen (Fa_3) 1
 have ca1 := Fa_3.at 1
 go_simp
 clear ma0 ca0 ma1 ca1
 refine hK.out _ _ ?_ ?_
 ·exact (Gr.setCell (Gr.setCell s3 (by first | omega | (simp only; omega)) _) (by first | omega | (simp only; omega)) _)
 clear hK K
 try simp only [Act.put, putS]
 refine wpG_done (by kernel_rfl) (fun w4 g4 => ?_) _
 have ⟨Fb_4, lb_4⟩ := CellsAt.gl ((Fb_3.ot).ot) g4
 have ⟨Fp_4, lp_4⟩ := CellsAt.gl ((Fp_3.ot).ot) g4
 have ⟨Fr_4, lr_4⟩ := CellsAt.gl ((Fr_3.ot).ot) g4
 have ⟨Fa_4, la_4⟩ := CellsAt.gl (CellsAt.set2 (Fa_3) _ _) g4
 have z4 := ((z3.sc _).sc _).trans g4
 clear g4
 clear hclG KS
 go_wp2_with fail
 obtain ⟨v2, hqp2⟩ : ∃ zz, zz = w4 := ⟨_, rfl⟩
 have Yb_p2 : CellsAt v2 (w.heap.size) 27 #[.slice (some ⟨yb, yo, none⟩) m cx, .int .i64 ex, .bool sa, .slice sp q cl] := by rw [hqp2]; first | exact Fb_4 | simpa using Fb_4
 have Yp_p2 : CellsAt v2 (w.heap.size + 1) 24 #[.int .i64 fo, .int .i64 lo, .int .i64 ke, .int .i64 sc, .int .i64 mo, .bool iv] := by rw [hqp2]; first | exact Fp_4 | simpa using Fp_4
 have Yr_p2 : CellsAt v2 (w.heap.size + 1 + 1) 50 #[.int .i64 0, .int .i64 0] := by rw [hqp2]; first | exact Fr_4 | simpa using Fr_4
 have Ya_p2 : CellsAt v2 (w2.heap.size) 50 #[.int .i64 (a).re, .int .i64 (a).im] := by rw [hqp2]; first | exact Fa_4 | simpa using Fa_4
 have yp2 : Gr w v2 := by rw [hqp2]; exact z4
 rw [← hqp2]
 clear hqp2
 clear zy1
 have zy2 : yb < v2.heap.size := Nat.lt_of_lt_of_le ybl (yp2).size
 have KS : ∀ W, Gr v2 W → (W.cell? ⟨w.heap.size, 0, none⟩ = some (.slice (some ⟨yb, yo, none⟩) m cx) ∧ W.cell? ⟨w.heap.size, 1, none⟩ = some (.int .i64 ex) ∧ W.cell? ⟨w.heap.size, 2, none⟩ = some (.bool sa) ∧ W.cell? ⟨w.heap.size, 3, none⟩ = some (.slice sp q cl) ∧ W.cell? ⟨yb, yo + i2 * 2, none⟩ = some (.int .i64 c.re) ∧ W.cell? ⟨yb, yo + i2 * 2 + 1, none⟩ = some (.int .i64 c.im)) := fun W hG => ⟨(CellsAt.gr Yb_p2 hG).cell 0, (CellsAt.gr Yb_p2 hG).cell 1, (CellsAt.gr Yb_p2 hG).cell 2, (CellsAt.gr Yb_p2 hG).cell 3, ((yp2.trans hG).cell (p := ⟨yb, yo + i2 * 2, none⟩) ybl).trans hC0, ((yp2.trans hG).cell (p := ⟨yb, yo + i2 * 2 + 1, none⟩) ybl).trans hC1⟩
 have hclG := gr_closed v2
 try simp only [List.append_eq, List.cons_append, List.nil_append]
 refine wp_region_grow (S := Gr v2) rfl (Gr.drew (Gr.refl _)) ?_
 refine gT 0 hclG ?_
 refine gK 1 hclG KS ?_
 refine gT 2 hclG ?_
 refine gT 3 hclG ?_
 refine gT 4 hclG ?_
 refine gT 5 hclG ?_
 refine gT 6 hclG ?_
 refine gT 7 hclG ?_
 refine gK 8 hclG KS ?_
 refine wpG_call (i := 9) hclG rfl (by kernel_rfl) (by kernel_rfl) (by kernel_rfl) (fun _ _ _ h => h) (fun W hS => HJ.out W) (by rfl) ?_ ?_
 ·(intro w' hSw; go_simp; try with_reducible rfl)
 try simp only [Act.put, putS]
 refine gR 10 fun w5 g5 s5 K hK => ?_
 replace g5 := (Gr.drew (Gr.refl v2)).trans g5
 have ⟨Fb_5, lb_5⟩ := Yb_p2.gl g5
 have ⟨Fp_5, lp_5⟩ := Yp_p2.gl g5
 have ⟨Fr_5, lr_5⟩ := Yr_p2.gl g5
 have ⟨Fa_5, la_5⟩ := Ya_p2.gl g5
 have z5 := yp2.trans g5
 clear Yb_p2 Yp_p2 Yr_p2 Ya_p2 yp2 g5
 have sa5 := (z5).size
 have sb5 := s5.size
 go_simp
 refine hK.out _ _ ?_ ?_
 ·exact Gr.alloc s5 _ _
 clear hK K
 try simp only [Act.put, putS]
 refine gR 11 fun w6 g6 s6 K hK => ?_
 have ⟨Fb_6, lb_6⟩ := CellsAt.gl (Fb_5.alloc _) g6
 have ⟨Fp_6, lp_6⟩ := CellsAt.gl (Fp_5.alloc _) g6
 have ⟨Fr_6, lr_6⟩ := CellsAt.gl (Fr_5.alloc _) g6
 have ⟨Fa_6, la_6⟩ := CellsAt.gl (Fa_5.alloc _) g6
 have ⟨Fc_6, lc_6⟩ := CellsAt.gl (CellsAt.new w5 50 #[.int .i64 0, .int .i64 0]) g6
 have z6 := (z5.alloc _ _).trans g6
 clear g6
 have mc0 := CellsAt.frozen (Fc_6) 0
 have cc0 := Fc_6.at 0
 have mc1 := CellsAt.frozen (Fc_6) 1
 have cc1 := Fc_6.at 1
 go_simp
 clear mc0 cc0 mc1 cc1
 refine hK.out _ _ ?_ ?_
 ·exact (Gr.setCell (Gr.setCell s6 (by first | omega | (simp only; omega)) _) (by first | omega | (simp only; omega)) _)
 clear hK K
 try simp only [Act.put, putS]
 refine wpG_done (by kernel_rfl) (fun w7 g7 => ?_) _
 have ⟨Fb_7, lb_7⟩ := CellsAt.gl ((Fb_6.ot).ot) g7
 have ⟨Fp_7, lp_7⟩ := CellsAt.gl ((Fp_6.ot).ot) g7
 have ⟨Fr_7, lr_7⟩ := CellsAt.gl ((Fr_6.ot).ot) g7
 have ⟨Fa_7, la_7⟩ := CellsAt.gl ((Fa_6.ot).ot) g7
 have ⟨Fc_7, lc_7⟩ := CellsAt.gl (CellsAt.set2 (Fc_6) _ _) g7
 have z7 := ((z6.sc _).sc _).trans g7
 clear g7
 clear hclG KS
 obtain ⟨ca0, ca1⟩ := Fa_7.t2
 obtain ⟨cc0, cc1⟩ := Fc_7.t2
 go_wp2_with fail
 clear ca0 ca1 cc0 cc1
 refine (HL.out _).mono ?_
 rintro e w8 ⟨rfl, g8⟩
 have ⟨Fb_8, lb_8⟩ := Fb_7.gl g8
 have ⟨Fp_8, lp_8⟩ := Fp_7.gl g8
 have ⟨Fr_8, lr_8⟩ := Fr_7.gl g8
 have ⟨Fa_8, la_8⟩ := Fa_7.gl g8
 have ⟨Fc_8, lc_8⟩ := Fc_7.gl g8
 have z8 := z7.trans g8
 clear Fb_7 Fp_7 Fr_7 Fa_7 Fc_7 z7 g8
 go_wp2_with fail
 refine (HT.out _).mono ?_
 rintro e w9 ⟨rfl, g9⟩
 have ⟨Fb_9, lb_9⟩ := Fb_8.gl g9
 have ⟨Fp_9, lp_9⟩ := Fp_8.gl g9
 have ⟨Fr_9, lr_9⟩ := Fr_8.gl g9
 have ⟨Fa_9, la_9⟩ := Fa_8.gl g9
 have ⟨Fc_9, lc_9⟩ := Fc_8.gl g9
 have z9 := z8.trans g9
 clear Fb_8 Fp_8 Fr_8 Fa_8 Fc_8 z8 g9
 go_wp2_with fail
 obtain ⟨v3, hqp3⟩ : ∃ zz, zz = (w9.alloc (.cells #[.int .i64 (t).re, .int .i64 (t).im] 50)) := ⟨_, rfl⟩
 have Yb_p3 : CellsAt v3 (w.heap.size) 27 #[.slice (some ⟨yb, yo, none⟩) m cx, .int .i64 ex, .bool sa, .slice sp q cl] := by rw [hqp3]; first | exact Fb_9.alloc _ | simpa using Fb_9.alloc _
 have Yp_p3 : CellsAt v3 (w.heap.size + 1) 24 #[.int .i64 fo, .int .i64 lo, .int .i64 ke, .int .i64 sc, .int .i64 mo, .bool iv] := by rw [hqp3]; first | exact Fp_9.alloc _ | simpa using Fp_9.alloc _
 have Yr_p3 : CellsAt v3 (w.heap.size + 1 + 1) 50 #[.int .i64 0, .int .i64 0] := by rw [hqp3]; first | exact Fr_9.alloc _ | simpa using Fr_9.alloc _
 have Ya_p3 : CellsAt v3 (w2.heap.size) 50 #[.int .i64 (a).re, .int .i64 (a).im] := by rw [hqp3]; first | exact Fa_9.alloc _ | simpa using Fa_9.alloc _
 have Yc_p3 : CellsAt v3 (w5.heap.size) 50 #[.int .i64 (cc).re, .int .i64 (cc).im] := by rw [hqp3]; first | exact Fc_9.alloc _ | simpa using Fc_9.alloc _
 have Yt_p3 : CellsAt v3 (w9.heap.size) 50 #[.int .i64 (t).re, .int .i64 (t).im] := by rw [hqp3]; have q_ := CellsAt.new w9 50 #[.int .i64 (t).re, .int .i64 (t).im]; first | exact q_ | simpa using q_
 have yp3 : Gr w v3 := by rw [hqp3]; exact z9.alloc _ _
 rw [← hqp3]
 clear hqp3
 clear zy2
 have zy3 : wb < v3.heap.size := Nat.lt_of_lt_of_le wbl (yp3).size
 have KS : ∀ W, Gr v3 W → (W.cell? ⟨w2.heap.size, 0, none⟩ = some (.int .i64 (a).re) ∧ W.cell? ⟨w2.heap.size, 1, none⟩ = some (.int .i64 (a).im) ∧ W.cell? ⟨w5.heap.size, 0, none⟩ = some (.int .i64 (cc).re) ∧ W.cell? ⟨w5.heap.size, 1, none⟩ = some (.int .i64 (cc).im) ∧ W.cell? ⟨w9.heap.size, 0, none⟩ = some (.int .i64 (t).re) ∧ W.cell? ⟨w9.heap.size, 1, none⟩ = some (.int .i64 (t).im) ∧ W.cell? ⟨wb, wo + k * 2, none⟩ = some (.int .i64 r.re) ∧ W.cell? ⟨wb, wo + k * 2 + 1, none⟩ = some (.int .i64 r.im)) := fun W hG => ⟨(CellsAt.gr Ya_p3 hG).cell 0, (CellsAt.gr Ya_p3 hG).cell 1, (CellsAt.gr Yc_p3 hG).cell 0, (CellsAt.gr Yc_p3 hG).cell 1, (CellsAt.gr Yt_p3 hG).cell 0, (CellsAt.gr Yt_p3 hG).cell 1, ((yp3.trans hG).cell (p := ⟨wb, wo + k * 2, none⟩) wbl).trans hR0, ((yp3.trans hG).cell (p := ⟨wb, wo + k * 2 + 1, none⟩) wbl).trans hR1⟩
 have hclG := gr_closed v3
 try simp only [List.append_eq, List.cons_append, List.nil_append]
 refine wp_region_grow (S := Gr v3) rfl (Gr.drew (Gr.refl _)) ?_
 refine gK 0 hclG KS ?_
 refine gK 1 hclG KS ?_
 refine wpG_call (i := 2) hclG rfl (by kernel_rfl) (by kernel_rfl) (by kernel_rfl) (fun _ _ _ h => h) (fun W hS => HS.out W) (by rfl) ?_ ?_
 ·(intro w' hSw; go_simp; try with_reducible rfl)
 try simp only [Act.put, putS]
 refine gT 3 hclG ?_
 refine wpG_call (i := 4) hclG rfl (by kernel_rfl) (by kernel_rfl) (by kernel_rfl) (fun _ _ _ h => h) (fun W hS => HK.out W) (by rfl) ?_ ?_
 ·(intro w' hSw; go_simp; try with_reducible rfl)
 try simp only [Act.put, putS]
 refine gK 5 hclG KS ?_
 refine gT 6 hclG ?_
 refine gT 7 hclG ?_
 refine gT 8 hclG ?_
 refine gK 9 hclG KS ?_
 refine wpG_call (i := 10) hclG rfl (by kernel_rfl) (by kernel_rfl) (by kernel_rfl) (fun _ _ _ h => h) (fun W hS => HM.out W) (by rfl) ?_ ?_
 ·(intro w' hSw; go_simp; try with_reducible rfl)
 try simp only [Act.put, putS]
 refine wpG_call (i := 11) hclG rfl (by kernel_rfl) (by kernel_rfl) (by kernel_rfl) (fun _ _ _ h => h) (fun W hS => HU.out W) (by rfl) ?_ ?_
 ·(intro w' hSw; go_simp; try with_reducible rfl)
 try simp only [Act.put, putS]
 refine gR 12 fun w10 g10 s10 K hK => ?_
 replace g10 := (Gr.drew (Gr.refl v3)).trans g10
 have ⟨Fb_10, lb_10⟩ := Yb_p3.gl g10
 have ⟨Fp_10, lp_10⟩ := Yp_p3.gl g10
 have ⟨Fr_10, lr_10⟩ := Yr_p3.gl g10
 have ⟨Fa_10, la_10⟩ := Ya_p3.gl g10
 have ⟨Fc_10, lc_10⟩ := Yc_p3.gl g10
 have ⟨Ft_10, lt_10⟩ := Yt_p3.gl g10
 have z10 := yp3.trans g10
 clear Yb_p3 Yp_p3 Yr_p3 Ya_p3 Yc_p3 Yt_p3 yp3 g10
 have sa10 := (z10).size
 have sb10 := s10.size
 go_simp
 refine hK.out _ _ ?_ ?_
 ·exact Gr.alloc s10 _ _
 clear hK K
 try simp only [Act.put, putS]
 refine gR 13 fun w11 g11 s11 K hK => ?_
 have ⟨Fb_11, lb_11⟩ := CellsAt.gl (Fb_10.alloc _) g11
 have ⟨Fp_11, lp_11⟩ := CellsAt.gl (Fp_10.alloc _) g11
 have ⟨Fr_11, lr_11⟩ := CellsAt.gl (Fr_10.alloc _) g11
 have ⟨Fa_11, la_11⟩ := CellsAt.gl (Fa_10.alloc _) g11
 have ⟨Fc_11, lc_11⟩ := CellsAt.gl (Fc_10.alloc _) g11
 have ⟨Ft_11, lt_11⟩ := CellsAt.gl (Ft_10.alloc _) g11
 have ⟨Fx_11, lx_11⟩ := CellsAt.gl (CellsAt.new w10 50 #[.int .i64 0, .int .i64 0]) g11
 have z11 := (z10.alloc _ _).trans g11
 clear g11
 have mx0 := CellsAt.frozen (Fx_11) 0
 have cx0 := Fx_11.at 0
 have mx1 := CellsAt.frozen (Fx_11) 1
 have cx1 := Fx_11.at 1
 go_simp
 clear mx0 cx0 mx1 cx1
 refine hK.out _ _ ?_ ?_
 ·exact (Gr.setCell (Gr.setCell s11 (by first | omega | (simp only; omega)) _) (by first | omega | (simp only; omega)) _)
 clear hK K
 try simp only [Act.put, putS]
 refine wpG_done (by kernel_rfl) (fun w12 g12 => ?_) _
 have ⟨Fb_12, lb_12⟩ := CellsAt.gl ((Fb_11.ot).ot) g12
 have ⟨Fp_12, lp_12⟩ := CellsAt.gl ((Fp_11.ot).ot) g12
 have ⟨Fr_12, lr_12⟩ := CellsAt.gl ((Fr_11.ot).ot) g12
 have ⟨Fa_12, la_12⟩ := CellsAt.gl ((Fa_11.ot).ot) g12
 have ⟨Fc_12, lc_12⟩ := CellsAt.gl ((Fc_11.ot).ot) g12
 have ⟨Ft_12, lt_12⟩ := CellsAt.gl ((Ft_11.ot).ot) g12
 have ⟨Fx_12, lx_12⟩ := CellsAt.gl (CellsAt.set2 (Fx_11) _ _) g12
 have z12 := ((z11.sc _).sc _).trans g12
 clear g12
 clear hclG KS
 obtain ⟨cx0, cx1⟩ := Fx_12.t2
 obtain ⟨cp0, cp1, cp2, cp3, cp4, cp5⟩ := Fp_12.t6
 go_wp2_with fail
 clear cx0 cx1 cp0 cp1 cp2 cp3 cp4 cp5
 refine (HZ.out _).mono ?_
 rintro e w13 ⟨rfl, g13⟩
 have ⟨Fb_13, lb_13⟩ := Fb_12.gl g13
 have ⟨Fp_13, lp_13⟩ := Fp_12.gl g13
 have ⟨Fr_13, lr_13⟩ := Fr_12.gl g13
 have ⟨Fa_13, la_13⟩ := Fa_12.gl g13
 have ⟨Fc_13, lc_13⟩ := Fc_12.gl g13
 have ⟨Ft_13, lt_13⟩ := Ft_12.gl g13
 have ⟨Fx_13, lx_13⟩ := Fx_12.gl g13
 have z13 := z12.trans g13
 clear Fb_12 Fp_12 Fr_12 Fa_12 Fc_12 Ft_12 Fx_12 z12 g13
 have mr0 := CellsAt.frozen (Fr_13) 0
 have cr0 := Fr_13.at 0
 have mr1 := CellsAt.frozen (Fr_13) 1
 have cr1 := Fr_13.at 1
 go_wp2_with fail
 clear mr0 cr0 mr1 cr1
 obtain ⟨uf, hqp4⟩ : ∃ zz, zz = ((w13.setCell ⟨w.heap.size + 1 + 1, 0, none⟩ (.int .i64 (z).re)).setCell ⟨w.heap.size + 1 + 1, 1, none⟩ (.int .i64 (z).im)) := ⟨_, rfl⟩
 have Yb_p4 : CellsAt uf (w.heap.size) 27 #[.slice (some ⟨yb, yo, none⟩) m cx, .int .i64 ex, .bool sa, .slice sp q cl] := by rw [hqp4]; first | exact (Fb_13.ot).ot | simpa using (Fb_13.ot).ot
 have Yp_p4 : CellsAt uf (w.heap.size + 1) 24 #[.int .i64 fo, .int .i64 lo, .int .i64 ke, .int .i64 sc, .int .i64 mo, .bool iv] := by rw [hqp4]; first | exact (Fp_13.ot).ot | simpa using (Fp_13.ot).ot
 have Yr_p4 : CellsAt uf (w.heap.size + 1 + 1) 50 #[.int .i64 (z).re, .int .i64 (z).im] := by rw [hqp4]; first | exact CellsAt.set2 (Fr_13) _ _ | simpa using CellsAt.set2 (Fr_13) _ _
 have Ya_p4 : CellsAt uf (w2.heap.size) 50 #[.int .i64 (a).re, .int .i64 (a).im] := by rw [hqp4]; first | exact (Fa_13.ot).ot | simpa using (Fa_13.ot).ot
 have Yc_p4 : CellsAt uf (w5.heap.size) 50 #[.int .i64 (cc).re, .int .i64 (cc).im] := by rw [hqp4]; first | exact (Fc_13.ot).ot | simpa using (Fc_13.ot).ot
 have Yt_p4 : CellsAt uf (w9.heap.size) 50 #[.int .i64 (t).re, .int .i64 (t).im] := by rw [hqp4]; first | exact (Ft_13.ot).ot | simpa using (Ft_13.ot).ot
 have Yx_p4 : CellsAt uf (w10.heap.size) 50 #[.int .i64 (x).re, .int .i64 (x).im] := by rw [hqp4]; first | exact (Fx_13.ot).ot | simpa using (Fx_13.ot).ot
 have yp4 : Gr w uf := by rw [hqp4]; exact (z13.sc _).sc _
 rw [← hqp4]
 clear hqp4
 obtain ⟨cr0, cr1⟩ := Yr_p4.t2
 refine bodyPost_ret (v := .agg #[.int .i64 (z).re, .int .i64 (z).im]) ?_ rfl ⟨rfl, yp4⟩
 simp [results, Tryz.results43, go_sem, *]
end
end Go.Proofs.YtdignnmpfkgkoaaGreat
