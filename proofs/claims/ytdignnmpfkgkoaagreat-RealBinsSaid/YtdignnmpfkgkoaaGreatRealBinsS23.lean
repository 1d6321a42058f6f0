import Derived.Test.YtdignnmpfkgkoaaGreatRealBinsS21
namespace Go.Proofs.YtdignnmpfkgkoaaGreat
section
open Go.ChangeShapes Go.WideShapes Go.ChangeAt Go.RowKit
set_option linter.unusedVariables false
set_option linter.unusedSimpArgs false
set_option maxRecDepth 100000
set_option maxHeartbeats 16000000
theorem rlBin_of (a o v t b ta tb oa ob z : Gi) (fo lo ke sc mo : Int) (iv : Bool) (k b0 T q l1 s0 s1 d : Int) (HB : CR 97 #[.agg #[fo, lo, ke, sc, mo, iv]] (.int .i64 b0))
 (HE : Hid (wrap64 (b0 - 2) = T ∧ IntKind.i64.wrap (b0 - 2) = T ∧ (∀ W, (Op.shift .shl .i64 1 .i64 T).run Tryz.prog W = .ok (.int .i64 q) W) ∧ wrap64 (lo + 1) = l1 ∧ IntKind.i64.wrap (lo + 1) = l1))
 (HF : Hid (wrap64 ((oa).re + (ob).re) = s0 ∧ wrap64 ((oa).im + (ob).im) = s1 ∧ wrap64 (T + 2) = d ∧ IntKind.i64.wrap ((oa).re + (ob).re) = s0 ∧ IntKind.i64.wrap ((oa).im + (ob).im) = s1 ∧ IntKind.i64.wrap (T + 2) = d))
 (HR : CR 124 #[l1, k, T] (.tuple #[.agg #[v.re, v.im], .int .i64 0])) (HT : CR 125 #[.agg #[v.re, v.im], .int .i64 (-1)] (.tuple #[.agg #[t.re, t.im], .int .i64 0])) (HC : CR 116 #[.agg #[o.re, o.im]] (.tuple #[.agg #[b.re, b.im], .int .i64 0]))
 (HS : CR 126 #[.agg #[q, .int .i64 0], .agg #[t.re, t.im]] (.tuple #[.agg #[ta.re, ta.im], .int .i64 0])) (HL : CR 127 #[.agg #[q, .int .i64 0], .agg #[t.re, t.im]] (.tuple #[.agg #[tb.re, tb.im], .int .i64 0]))
 (H1 : CR 128 #[.agg #[a.re, a.im], .agg #[ta.re, ta.im]] (.tuple #[.agg #[oa.re, oa.im], .int .i64 0])) (H2 : CR 128 #[.agg #[b.re, b.im], .agg #[tb.re, tb.im]] (.tuple #[.agg #[ob.re, ob.im], .int .i64 0])) (HZ : CR 129 #[.agg #[s0, s1], d, mo] (.tuple #[.agg #[z.re, z.im], .int .i64 0])) (w : World) :
 CW 73 #[.agg #[a.re, a.im], .agg #[o.re, o.im], k, .agg #[fo, lo, ke, sc, mo, iv]] w (.agg #[z.re, z.im]) :=by
 delta CW
 go_in
 go_wp2_with fail
 refine lc4 fun u0 gu R0 R1 R2 R3 => ?_
 have la := R0.lt
 have lo := R1.lt
 have lp := R2.lt
 have lr := R3.lt
 obtain ⟨cp0, cp1, cp2, cp3, cp4, cp5⟩ := R2.t6
 go_wp2_with fail
 clear cp0 cp1 cp2 cp3 cp4 cp5
 refine (HB.out _).mono ?_
 rintro e w1 ⟨rfl, g1⟩
 have ⟨Fa_1, la_1⟩ := R0.gl g1
 have ⟨Fo_1, lo_1⟩ := R1.gl g1
 have ⟨Fp_1, lp_1⟩ := R2.gl g1
 have ⟨Fr_1, lr_1⟩ := R3.gl g1
 have z1 := gu.trans g1
 clear R0 R1 R2 R3 gu g1
 obtain ⟨e1, e1b, e2, e3, e3b⟩ := HE.out
 obtain ⟨cp0, cp1, cp2, cp3, cp4, cp5⟩ := Fp_1.t6
 go_wp2_with fail
 clear cp0 cp1 cp2 cp3 cp4 cp5
 refine (HR.out _).mono ?_
 rintro e w2 ⟨rfl, g2⟩
 have ⟨Fa_2, la_2⟩ := CellsAt.gl (Fa_1.alloc _) g2
 have ⟨Fo_2, lo_2⟩ := CellsAt.gl (Fo_1.alloc _) g2
 have ⟨Fp_2, lp_2⟩ := CellsAt.gl (Fp_1.alloc _) g2
 have ⟨Fr_2, lr_2⟩ := CellsAt.gl (Fr_1.alloc _) g2
 have ⟨Fn_2, ln_2⟩ := CellsAt.gl (CellsAt.new w1 50 #[q, .int .i64 0]) g2
 have z2 := (z1.alloc _ _).trans g2
 clear g2
 go_wp2_with fail
 refine (HT.out _).mono ?_
 rintro e w3 ⟨rfl, g3⟩
 have ⟨Fa_3, la_3⟩ := CellsAt.gl (Fa_2.alloc _) g3
 have ⟨Fo_3, lo_3⟩ := CellsAt.gl (Fo_2.alloc _) g3
 have ⟨Fp_3, lp_3⟩ := CellsAt.gl (Fp_2.alloc _) g3
 have ⟨Fr_3, lr_3⟩ := CellsAt.gl (Fr_2.alloc _) g3
 have ⟨Fn_3, ln_3⟩ := CellsAt.gl (Fn_2.alloc _) g3
 have ⟨Fw_3, lw_3⟩ := CellsAt.gl (CellsAt.new w2 50 #[v.re, v.im]) g3
 have z3 := (z2.alloc _ _).trans g3
 clear g3
 obtain ⟨co0, co1⟩ := Fo_3.t2
 go_wp2_with fail
 clear co0 co1
 refine (HC.out _).mono ?_
 rintro e w4 ⟨rfl, g4⟩
 have ⟨Fa_4, la_4⟩ := CellsAt.gl (Fa_3.alloc _) g4
 have ⟨Fo_4, lo_4⟩ := CellsAt.gl (Fo_3.alloc _) g4
 have ⟨Fp_4, lp_4⟩ := CellsAt.gl (Fp_3.alloc _) g4
 have ⟨Fr_4, lr_4⟩ := CellsAt.gl (Fr_3.alloc _) g4
 have ⟨Fn_4, ln_4⟩ := CellsAt.gl (Fn_3.alloc _) g4
 have ⟨Ft_4, lt_4⟩ := CellsAt.gl (CellsAt.new w3 50 #[t.re, t.im]) g4
 have z4 := (z3.alloc _ _).trans g4
 clear g4
 obtain ⟨cn0, cn1⟩ := Fn_4.t2
 obtain ⟨ct0, ct1⟩ := Ft_4.t2
 go_wp2_with fail
 clear cn0 cn1 ct0 ct1
 refine (HS.out _).mono ?_
 rintro e w5 ⟨rfl, g5⟩
 have ⟨Fa_5, la_5⟩ := CellsAt.gl (Fa_4.alloc _) g5
 have ⟨Fp_5, lp_5⟩ := CellsAt.gl (Fp_4.alloc _) g5
 have ⟨Fr_5, lr_5⟩ := CellsAt.gl (Fr_4.alloc _) g5
 have ⟨Fn_5, ln_5⟩ := CellsAt.gl (Fn_4.alloc _) g5
 have ⟨Ft_5, lt_5⟩ := CellsAt.gl (Ft_4.alloc _) g5
 have ⟨Fb_5, lb_5⟩ := CellsAt.gl (CellsAt.new w4 50 #[b.re, b.im]) g5
 have z5 := (z4.alloc _ _).trans g5
 clear g5
 obtain ⟨cn0, cn1⟩ := Fn_5.t2
 obtain ⟨ct0, ct1⟩ := Ft_5.t2
 go_wp2_with fail
 clear cn0 cn1 ct0 ct1
 refine (HL.out _).mono ?_
 rintro e w6 ⟨rfl, g6⟩
 have ⟨Fa_6, la_6⟩ := CellsAt.gl (Fa_5.alloc _) g6
 have ⟨Fp_6, lp_6⟩ := CellsAt.gl (Fp_5.alloc _) g6
 have ⟨Fr_6, lr_6⟩ := CellsAt.gl (Fr_5.alloc _) g6
 have ⟨Fn_6, ln_6⟩ := CellsAt.gl (Fn_5.alloc _) g6
 have ⟨Ft_6, lt_6⟩ := CellsAt.gl (Ft_5.alloc _) g6
 have ⟨Fb_6, lb_6⟩ := CellsAt.gl (Fb_5.alloc _) g6
 have ⟨Fx_6, lx_6⟩ := CellsAt.gl (CellsAt.new w5 50 #[ta.re, ta.im]) g6
 have z6 := (z5.alloc _ _).trans g6
 clear g6
 obtain ⟨ca0, ca1⟩ := Fa_6.t2
 obtain ⟨cx0, cx1⟩ := Fx_6.t2
 go_wp2_with fail
 clear ca0 ca1 cx0 cx1
 refine (H1.out _).mono ?_
 rintro e w7 ⟨rfl, g7⟩
 have ⟨Fa_7, la_7⟩ := CellsAt.gl (Fa_6.alloc _) g7
 have ⟨Fp_7, lp_7⟩ := CellsAt.gl (Fp_6.alloc _) g7
 have ⟨Fr_7, lr_7⟩ := CellsAt.gl (Fr_6.alloc _) g7
 have ⟨Fb_7, lb_7⟩ := CellsAt.gl (Fb_6.alloc _) g7
 have ⟨Fx_7, lx_7⟩ := CellsAt.gl (Fx_6.alloc _) g7
 have ⟨Fy_7, ly_7⟩ := CellsAt.gl (CellsAt.new w6 50 #[tb.re, tb.im]) g7
 have z7 := (z6.alloc _ _).trans g7
 clear g7
 obtain ⟨cb0, cb1⟩ := Fb_7.t2
 obtain ⟨cy0, cy1⟩ := Fy_7.t2
 go_wp2_with fail
 clear cb0 cb1 cy0 cy1
 refine (H2.out _).mono ?_
 rintro e w8 ⟨rfl, g8⟩
 have ⟨Fp_8, lp_8⟩ := CellsAt.gl (Fp_7.alloc _) g8
 have ⟨Fr_8, lr_8⟩ := CellsAt.gl (Fr_7.alloc _) g8
 have ⟨Fb_8, lb_8⟩ := CellsAt.gl (Fb_7.alloc _) g8
 have ⟨Fy_8, ly_8⟩ := CellsAt.gl (Fy_7.alloc _) g8
 have ⟨Fc_8, lc_8⟩ := CellsAt.gl (CellsAt.new w7 50 #[oa.re, oa.im]) g8
 have z8 := (z7.alloc _ _).trans g8
 clear g8
 obtain ⟨f1, f2, f3, f1b, f2b, f3b⟩ := HF.out
 obtain ⟨cc0, cc1⟩ := Fc_8.t2
 obtain ⟨cp0, cp1, cp2, cp3, cp4, cp5⟩ := Fp_8.t6
 go_wp2_with fail
 clear cc0 cc1 cp0 cp1 cp2 cp3 cp4 cp5
 refine (HZ.out _).mono ?_
 rintro e w9 ⟨rfl, g9⟩
 have ⟨Fp_9, lp_9⟩ := CellsAt.gl (Fp_8.alloc _) g9
 have ⟨Fr_9, lr_9⟩ := CellsAt.gl (Fr_8.alloc _) g9
 have ⟨Fc_9, lc_9⟩ := CellsAt.gl (Fc_8.alloc _) g9
 have ⟨Fd_9, ld_9⟩ := CellsAt.gl (CellsAt.new w8 50 #[ob.re, ob.im]) g9
 have z9 := (z8.alloc _ _).trans g9
 clear g9
 obtain ⟨mr0, mr1⟩ := Fr_9.f2
 obtain ⟨cr0, cr1⟩ := Fr_9.t2
 go_wp2_with fail
 clear mr0 cr0 mr1 cr1
 obtain ⟨uf, hqp1⟩ : ∃ zz, zz = (((w9.setCell ⟨w.heap.size + 1 + 1 + 1, 0, none⟩ (.int .i64 (z).re)).setCell ⟨w.heap.size + 1 + 1 + 1, 1, none⟩ (.int .i64 (z).im)).alloc (.cells #[z.re, z.im] 50)) := ⟨_, rfl⟩
 have Yr_p1 : CellsAt uf (w.heap.size + 1 + 1 + 1) 50 #[z.re, z.im] := by rw [hqp1]; exact (CellsAt.set2 (Fr_9) _ _).alloc _
 have yp1 : Gr w uf := by rw [hqp1]; exact ((z9.sc _).sc _).alloc _ _
 rw [← hqp1]
 clear hqp1
 obtain ⟨cr0, cr1⟩ := Yr_p1.t2
 refine bodyPost_ret (v := .agg #[z.re, z.im]) ?_ rfl ⟨rfl, yp1⟩
 simp [results, Tryz.results73, go_sem, *]
theorem rPacks18_odd (n : Int) (h : (n.tmod 2 == 0) = false) (w : World) :
 CW 9 #[n] w (.bool false) :=by
 delta CW
 go_in
 go_wp2_with fail
 go_ret
 exact ⟨rfl, Gr.refl _⟩
theorem rPacks18_even (n q r : Int) (h : (n.tmod 2 == 0) = true) (hq : IntKind.i64.wrap (n.tdiv 2) = q) (HL : CR 35 #[q] (.int .i64 r)) (w : World) :
 CW 9 #[n] w (.bool (decide (0 ≤ r))) :=by
 delta CW
 go_in
 go_wp2_with fail
 refine (HL.out _).mono ?_
 rintro e w1 ⟨rfl, g1⟩
 go_wp2_with fail
 go_ret
 exact ⟨rfl, g1⟩
theorem rPlan18_no (fo lo ke sc mo : Int) (iv : Bool) (HC : CR 37 #[.agg #[fo, lo, ke, sc, mo, iv]] (.bool false)) (w : World) :
 CW 14 #[.agg #[fo, lo, ke, sc, mo, iv]] w (.bool false) :=by
 delta CW
 go_in
 go_wp2_with fail
 refine lc1 fun u0 gu R0 => ?_
 have lp := R0.lt
 obtain ⟨cp0, cp1, cp2, cp3, cp4, cp5⟩ := R0.t6
 go_wp2_with fail
 clear cp0 cp1 cp2 cp3 cp4 cp5
 refine (HC.out _).mono ?_
 rintro e w1 ⟨rfl, g1⟩
 have ⟨Fp_1, lp_1⟩ := R0.gl g1
 have z1 := gu.trans g1
 clear R0 gu g1
 go_wp2_with fail
 go_ret
 exact ⟨rfl, z1⟩
theorem rPlan18_long (fo lo ke sc mo : Int) (iv : Bool) (h : (decide (lo ≤ 5)) = false) (HC : CR 37 #[.agg #[fo, lo, ke, sc, mo, iv]] (.bool true)) (w : World) :
 CW 14 #[.agg #[fo, lo, ke, sc, mo, iv]] w (.bool false) :=by
 delta CW
 go_in
 go_wp2_with fail
 refine lc1 fun u0 gu R0 => ?_
 have lp := R0.lt
 obtain ⟨cp0, cp1, cp2, cp3, cp4, cp5⟩ := R0.t6
 go_wp2_with fail
 clear cp0 cp1 cp2 cp3 cp4 cp5
 refine (HC.out _).mono ?_
 rintro e w1 ⟨rfl, g1⟩
 have ⟨Fp_1, lp_1⟩ := R0.gl g1
 have z1 := gu.trans g1
 clear R0 gu g1
 obtain ⟨cp0, cp1, cp2, cp3, cp4, cp5⟩ := Fp_1.t6
 go_wp2_with fail
 clear cp0 cp1 cp2 cp3 cp4 cp5
 go_ret
 exact ⟨rfl, z1⟩
theorem rPlan18_yes (fo lo ke sc mo : Int) (iv : Bool) (h : (decide (lo ≤ 5)) = true) (HC : CR 37 #[.agg #[fo, lo, ke, sc, mo, iv]] (.bool true)) (w : World) :
 CW 14 #[.agg #[fo, lo, ke, sc, mo, iv]] w (.bool (!iv)) :=by
 delta CW
 go_in
 go_wp2_with fail
 refine lc1 fun u0 gu R0 => ?_
 have lp := R0.lt
 obtain ⟨cp0, cp1, cp2, cp3, cp4, cp5⟩ := R0.t6
 go_wp2_with fail
 clear cp0 cp1 cp2 cp3 cp4 cp5
 refine (HC.out _).mono ?_
 rintro e w1 ⟨rfl, g1⟩
 have ⟨Fp_1, lp_1⟩ := R0.gl g1
 have z1 := gu.trans g1
 clear R0 gu g1
 obtain ⟨cp0, cp1, cp2, cp3, cp4, cp5⟩ := Fp_1.t6
 go_wp2_with fail
 clear cp0 cp1 cp2 cp3 cp4 cp5
 go_ret
 exact ⟨rfl, z1⟩
theorem rNumbers18_c (p : Option Addr) (n cap : Nat) (fo lo ke sc mo : Int) (iv : Bool) (K d : Int) (hd : IntKind.i64.wrap (2 * K) = d) (HP : CR 38 #[lo] (.int .i64 K)) (w : World) :
 CW 15 #[.slice p n cap, .agg #[fo, lo, ke, sc, mo, iv]] w (.bool ((n : Int) == d)) :=by
 delta CW
 go_in
 go_wp2_with fail
 refine lc1 fun u0 gu R0 => ?_
 have lp := R0.lt
 obtain ⟨cp0, cp1, cp2, cp3, cp4, cp5⟩ := R0.t6
 go_wp2_with fail
 clear cp0 cp1 cp2 cp3 cp4 cp5
 refine (HP.out _).mono ?_
 rintro e w1 ⟨rfl, g1⟩
 have ⟨Fp_1, lp_1⟩ := R0.gl g1
 have z1 := gu.trans g1
 clear R0 gu g1
 go_wp2_with fail
 go_ret
 exact ⟨rfl, z1⟩
theorem rBin18_of (sp : Option Addr) (m cx q cl yb yo wb wo wl wc k i1 i2 : Nat) (ex : Int) (sa : Bool) (fo lo ke sc mo : Int) (iv : Bool) (T T2 d : Int) (a c cc s l t sc1 r pr x z : Gi)
 (h0 : ¬ m = 0) (e1 : (k : Int).tmod (m : Int) = (i1 : Int)) (b1 : (i1 : Int) < (m : Int)) (e2 : IntKind.i64.wrap ((m : Int) - (k : Int)) = d) (e3 : d.tmod (m : Int) = (i2 : Int)) (b2 : (i2 : Int) < (m : Int)) (b3 : (k : Int) < (wl : Int)) (e4 : IntKind.i64.wrap (T + 2) = T2)
 (HB : CR 42 #[fo] (.int .i64 T)) (HJ : CR 79 #[.agg #[c.re, c.im]] (.agg #[cc.re, cc.im])) (HL : CR 81 #[.agg #[a.re, a.im], .agg #[cc.re, cc.im]] (.agg #[l.re, l.im])) (HT : CR 80 #[.agg #[l.re, l.im], .int .i64 (-1)] (.agg #[t.re, t.im]))
 (HS : CR 82 #[.agg #[a.re, a.im], .agg #[cc.re, cc.im]] (.agg #[s.re, s.im])) (HK : CR 83 #[.agg #[s.re, s.im], T] (.agg #[sc1.re, sc1.im])) (HM : CR 84 #[.agg #[t.re, t.im], .agg #[r.re, r.im]] (.agg #[pr.re, pr.im])) (HU : CR 82 #[.agg #[sc1.re, sc1.im], .agg #[pr.re, pr.im]] (.agg #[x.re, x.im])) (HZ : CR 85 #[.agg #[x.re, x.im], T2, mo] (.agg #[z.re, z.im]))
 (w : World) (ybl : yb < w.heap.size) (wbl : wb < w.heap.size) (hA : w.cell? ⟨yb, yo + i1 * 2, none⟩ = some (.int .i64 a.re) ∧ w.cell? ⟨yb, yo + i1 * 2 + 1, none⟩ = some (.int .i64 a.im)) (hC : w.cell? ⟨yb, yo + i2 * 2, none⟩ = some (.int .i64 c.re) ∧ w.cell? ⟨yb, yo + i2 * 2 + 1, none⟩ = some (.int .i64 c.im)) (hR : w.cell? ⟨wb, wo + k * 2, none⟩ = some (.int .i64 r.re) ∧ w.cell? ⟨wb, wo + k * 2 + 1, none⟩ = some (.int .i64 r.im)) :
 CW 43 #[.agg #[.slice (some ⟨yb, yo, none⟩) m cx, ex, sa, .slice sp q cl], .agg #[fo, lo, ke, sc, mo, iv], .slice (some ⟨wb, wo, none⟩) wl wc, (k : Int)] w (.agg #[z.re, z.im]) :=by
 delta CW
 obtain ⟨hA0, hA1⟩ := hA
 obtain ⟨hC0, hC1⟩ := hC
 obtain ⟨hR0, hR1⟩ := hR
 go_in
 go_wp2_with fail
 refine lc3 fun u0 gu R0 R1 R2 => ?_
 have lb := R0.lt
 have lp := R1.lt
 have lr := R2.lt
 obtain ⟨cb0, cb1, cb2, cb3⟩ := R0.t4
 obtain ⟨cp0, cp1, cp2, cp3, cp4, cp5⟩ := R1.t6
 go_wp2_with fail
 clear cb0 cb1 cb2 cb3 cp0 cp1 cp2 cp3 cp4 cp5
 refine (HB.out _).mono ?_
 rintro e w1 ⟨rfl, g1⟩
 have ⟨Fb_1, lb_1⟩ := R0.gl g1
 have ⟨Fp_1, lp_1⟩ := R1.gl g1
 have ⟨Fr_1, lr_1⟩ := R2.gl g1
 have z1 := gu.trans g1
 clear R0 R1 R2 gu g1
 go_wp2_with fail
 obtain ⟨v1, hqp1⟩ : ∃ zz, zz = w1 := ⟨_, rfl⟩
 subst hqp1
 have Yb_p1 := Fb_1
 have Yp_p1 := Fp_1
 have Yr_p1 := Fr_1
 have yp1 := z1
 have zy1 : yb < v1.heap.size := Nat.lt_of_lt_of_le ybl (yp1).size
 have KS := fun W (hG : Gr v1 W) => And.intro (CellsAt.gr Yb_p1 hG).t4 (And.intro (((yp1.trans hG).cell (p := ⟨yb, yo + i1 * 2, none⟩) ybl).trans hA0) (((yp1.trans hG).cell (p := ⟨yb, yo + i1 * 2 + 1, none⟩) ybl).trans hA1))
 have hclG := gr_closed v1
 try simp only [List.append_eq, List.cons_append, List.nil_append]
 refine wp_region_grow (S := Gr v1) rfl (Gr.drew (Gr.refl _)) ?_
 refine gT 0 hclG ?_
 refine gK 1 hclG KS ?_
 refine gT 2 hclG ?_
 refine gT 3 hclG ?_
 refine gT 4 hclG ?_
 refine gT 5 hclG ?_
 refine gK 6 hclG KS ?_
 refine gR 7 fun w2 g2 s2 K hK => ?_
 replace g2 := (Gr.drew (Gr.refl v1)).trans g2
 have ⟨Fb_2, lb_2⟩ := Yb_p1.gl g2
 have ⟨Fp_2, lp_2⟩ := Yp_p1.gl g2
 have ⟨Fr_2, lr_2⟩ := Yr_p1.gl g2
 have z2 := yp1.trans g2
 clear Yb_p1 Yp_p1 Yr_p1 yp1 g2
 have sa2 := (z2).size
 have sb2 := s2.size
 go_simp
 refine hK.out _ _ ?_ ?_
 ·exact Gr.alloc s2 _ _
 clear hK K
 try simp only [Act.put, putS]
 refine gR 8 fun w3 g3 s3 K hK => ?_
 have ⟨Fb_3, lb_3⟩ := CellsAt.gl (Fb_2.alloc _) g3
 have ⟨Fp_3, lp_3⟩ := CellsAt.gl (Fp_2.alloc _) g3
 have ⟨Fr_3, lr_3⟩ := CellsAt.gl (Fr_2.alloc _) g3
 have ⟨Fa_3, la_3⟩ := CellsAt.gl (CellsAt.new w2 50 #[.int .i64 0, .int .i64 0]) g3
 have z3 := (z2.alloc _ _).trans g3
 clear g3
 obtain ⟨ma0, ma1⟩ := Fa_3.f2
 obtain ⟨ca0, ca1⟩ := Fa_3.t2
 go_simp
 clear ma0 ca0 ma1 ca1
 refine hK.out _ _ ?_ ?_
 ·exact (Gr.setCell (Gr.setCell s3 (by first | omega | (simp only; omega)) _) (by first | omega | (simp only; omega)) _)
 clear hK K
 try simp only [Act.put, putS]
 refine wpG_done (by kernel_rfl) (fun w4 g4 => ?_) _
 have ⟨Fb_4, lb_4⟩ := CellsAt.gl ((Fb_3.ot).ot) g4
 have ⟨Fp_4, lp_4⟩ := CellsAt.gl ((Fp_3.ot).ot) g4
 have ⟨Fr_4, lr_4⟩ := CellsAt.gl ((Fr_3.ot).ot) g4
 have ⟨Fa_4, la_4⟩ := CellsAt.gl (CellsAt.set2 (Fa_3) _ _) g4
 have z4 := ((z3.sc _).sc _).trans g4
 clear g4
 clear hclG KS
 go_wp2_with fail
 obtain ⟨v2, hqp2⟩ : ∃ zz, zz = w4 := ⟨_, rfl⟩
 subst hqp2
 have Yb_p2 := Fb_4
 have Yp_p2 := Fp_4
 have Yr_p2 := Fr_4
 have Ya_p2 := Fa_4
 have yp2 := z4
 clear zy1
 have zy2 : yb < v2.heap.size := Nat.lt_of_lt_of_le ybl (yp2).size
 have KS := fun W (hG : Gr v2 W) => And.intro (CellsAt.gr Yb_p2 hG).t4 (And.intro (((yp2.trans hG).cell (p := ⟨yb, yo + i2 * 2, none⟩) ybl).trans hC0) (((yp2.trans hG).cell (p := ⟨yb, yo + i2 * 2 + 1, none⟩) ybl).trans hC1))
 have hclG := gr_closed v2
 try simp only [List.append_eq, List.cons_append, List.nil_append]
 refine wp_region_grow (S := Gr v2) rfl (Gr.drew (Gr.refl _)) ?_
 refine gT 0 hclG ?_
 refine gK 1 hclG KS ?_
 refine gT 2 hclG ?_
 refine gT 3 hclG ?_
 refine gT 4 hclG ?_
 refine gT 5 hclG ?_
 refine gT 6 hclG ?_
 refine gT 7 hclG ?_
 refine gK 8 hclG KS ?_
 refine gC 9 hclG (fun W hS => HJ.out W) ?_
 try simp only [Act.put, putS]
 refine gR 10 fun w5 g5 s5 K hK => ?_
 replace g5 := (Gr.drew (Gr.refl v2)).trans g5
 have ⟨Fb_5, lb_5⟩ := Yb_p2.gl g5
 have ⟨Fp_5, lp_5⟩ := Yp_p2.gl g5
 have ⟨Fr_5, lr_5⟩ := Yr_p2.gl g5
 have ⟨Fa_5, la_5⟩ := Ya_p2.gl g5
 have z5 := yp2.trans g5
 clear Yb_p2 Yp_p2 Yr_p2 Ya_p2 yp2 g5
 have sa5 := (z5).size
 have sb5 := s5.size
 go_simp
 refine hK.out _ _ ?_ ?_
 ·exact Gr.alloc s5 _ _
 clear hK K
 try simp only [Act.put, putS]
 refine gR 11 fun w6 g6 s6 K hK => ?_
 have ⟨Fb_6, lb_6⟩ := CellsAt.gl (Fb_5.alloc _) g6
 have ⟨Fp_6, lp_6⟩ := CellsAt.gl (Fp_5.alloc _) g6
 have ⟨Fr_6, lr_6⟩ := CellsAt.gl (Fr_5.alloc _) g6
 have ⟨Fa_6, la_6⟩ := CellsAt.gl (Fa_5.alloc _) g6
 have ⟨Fc_6, lc_6⟩ := CellsAt.gl (CellsAt.new w5 50 #[.int .i64 0, .int .i64 0]) g6
 have z6 := (z5.alloc _ _).trans g6
 clear g6
 obtain ⟨mc0, mc1⟩ := Fc_6.f2
 obtain ⟨cc0, cc1⟩ := Fc_6.t2
 go_simp
 clear mc0 cc0 mc1 cc1
 refine hK.out _ _ ?_ ?_
 ·exact (Gr.setCell (Gr.setCell s6 (by first | omega | (simp only; omega)) _) (by first | omega | (simp only; omega)) _)
 clear hK K
 try simp only [Act.put, putS]
 refine wpG_done (by kernel_rfl) (fun w7 g7 => ?_) _
 have ⟨Fb_7, lb_7⟩ := CellsAt.gl ((Fb_6.ot).ot) g7
 have ⟨Fp_7, lp_7⟩ := CellsAt.gl ((Fp_6.ot).ot) g7
 have ⟨Fr_7, lr_7⟩ := CellsAt.gl ((Fr_6.ot).ot) g7
 have ⟨Fa_7, la_7⟩ := CellsAt.gl ((Fa_6.ot).ot) g7
 have ⟨Fc_7, lc_7⟩ := CellsAt.gl (CellsAt.set2 (Fc_6) _ _) g7
 have z7 := ((z6.sc _).sc _).trans g7
 clear g7
 clear hclG KS
 obtain ⟨ca0, ca1⟩ := Fa_7.t2
 obtain ⟨cc0, cc1⟩ := Fc_7.t2
 go_wp2_with fail
 clear ca0 ca1 cc0 cc1
 refine (HL.out _).mono ?_
 rintro e w8 ⟨rfl, g8⟩
 have ⟨Fb_8, lb_8⟩ := Fb_7.gl g8
 have ⟨Fp_8, lp_8⟩ := Fp_7.gl g8
 have ⟨Fr_8, lr_8⟩ := Fr_7.gl g8
 have ⟨Fa_8, la_8⟩ := Fa_7.gl g8
 have ⟨Fc_8, lc_8⟩ := Fc_7.gl g8
 have z8 := z7.trans g8
 clear Fb_7 Fp_7 Fr_7 Fa_7 Fc_7 z7 g8
 go_wp2_with fail
 refine (HT.out _).mono ?_
 rintro e w9 ⟨rfl, g9⟩
 have ⟨Fb_9, lb_9⟩ := Fb_8.gl g9
 have ⟨Fp_9, lp_9⟩ := Fp_8.gl g9
 have ⟨Fr_9, lr_9⟩ := Fr_8.gl g9
 have ⟨Fa_9, la_9⟩ := Fa_8.gl g9
 have ⟨Fc_9, lc_9⟩ := Fc_8.gl g9
 have z9 := z8.trans g9
 clear Fb_8 Fp_8 Fr_8 Fa_8 Fc_8 z8 g9
 go_wp2_with fail
 obtain ⟨v3, hqp3⟩ : ∃ zz, zz = (w9.alloc (.cells #[t.re, t.im] 50)) := ⟨_, rfl⟩
 have Yb_p3 : CellsAt v3 (w.heap.size) 27 #[.slice (some ⟨yb, yo, none⟩) m cx, ex, sa, .slice sp q cl] := by rw [hqp3]; first | exact Fb_9.alloc _ | simpa using Fb_9.alloc _
 have Yp_p3 : CellsAt v3 (w.heap.size + 1) 24 #[fo, lo, ke, sc, mo, iv] := by rw [hqp3]; first | exact Fp_9.alloc _ | simpa using Fp_9.alloc _
 have Yr_p3 : CellsAt v3 (w.heap.size + 1 + 1) 50 #[.int .i64 0, .int .i64 0] := by rw [hqp3]; first | exact Fr_9.alloc _ | simpa using Fr_9.alloc _
 have Ya_p3 : CellsAt v3 (w2.heap.size) 50 #[a.re, a.im] := by rw [hqp3]; first | exact Fa_9.alloc _ | simpa using Fa_9.alloc _
 have Yc_p3 : CellsAt v3 (w5.heap.size) 50 #[cc.re, cc.im] := by rw [hqp3]; first | exact Fc_9.alloc _ | simpa using Fc_9.alloc _
 have Yt_p3 : CellsAt v3 (w9.heap.size) 50 #[t.re, t.im] := by rw [hqp3]; have q_ := CellsAt.new w9 50 #[t.re, t.im]; first | exact q_ | simpa using q_
 have yp3 : Gr w v3 := by rw [hqp3]; exact z9.alloc _ _
 rw [← hqp3]
 clear hqp3
 clear zy2
 have zy3 : wb < v3.heap.size := Nat.lt_of_lt_of_le wbl (yp3).size
 have KS := fun W (hG : Gr v3 W) => And.intro (CellsAt.gr Ya_p3 hG).t2 (And.intro (CellsAt.gr Yc_p3 hG).t2 (And.intro (CellsAt.gr Yt_p3 hG).t2 (And.intro (((yp3.trans hG).cell (p := ⟨wb, wo + k * 2, none⟩) wbl).trans hR0) (((yp3.trans hG).cell (p := ⟨wb, wo + k * 2 + 1, none⟩) wbl).trans hR1))))
 have hclG := gr_closed v3
 try simp only [List.append_eq, List.cons_append, List.nil_append]
 refine wp_region_grow (S := Gr v3) rfl (Gr.drew (Gr.refl _)) ?_
 refine gK 0 hclG KS ?_
 refine gK 1 hclG KS ?_
 refine gC 2 hclG (fun W hS => HS.out W) ?_
 try simp only [Act.put, putS]
 refine gT 3 hclG ?_
 refine gC 4 hclG (fun W hS => HK.out W) ?_
 try simp only [Act.put, putS]
 refine gK 5 hclG KS ?_
 refine gT 6 hclG ?_
 refine gT 7 hclG ?_
 refine gT 8 hclG ?_
 refine gK 9 hclG KS ?_
 refine gC 10 hclG (fun W hS => HM.out W) ?_
 try simp only [Act.put, putS]
 refine gC 11 hclG (fun W hS => HU.out W) ?_
 try simp only [Act.put, putS]
 refine gR 12 fun w10 g10 s10 K hK => ?_
 replace g10 := (Gr.drew (Gr.refl v3)).trans g10
 have ⟨Fb_10, lb_10⟩ := Yb_p3.gl g10
 have ⟨Fp_10, lp_10⟩ := Yp_p3.gl g10
 have ⟨Fr_10, lr_10⟩ := Yr_p3.gl g10
 have ⟨Fa_10, la_10⟩ := Ya_p3.gl g10
 have ⟨Fc_10, lc_10⟩ := Yc_p3.gl g10
 have ⟨Ft_10, lt_10⟩ := Yt_p3.gl g10
 have z10 := yp3.trans g10
 clear Yb_p3 Yp_p3 Yr_p3 Ya_p3 Yc_p3 Yt_p3 yp3 g10
 have sa10 := (z10).size
 have sb10 := s10.size
 go_simp
 refine hK.out _ _ ?_ ?_
 ·exact Gr.alloc s10 _ _
 clear hK K
 try simp only [Act.put, putS]
 refine gR 13 fun w11 g11 s11 K hK => ?_
 have ⟨Fb_11, lb_11⟩ := CellsAt.gl (Fb_10.alloc _) g11
 have ⟨Fp_11, lp_11⟩ := CellsAt.gl (Fp_10.alloc _) g11
 have ⟨Fr_11, lr_11⟩ := CellsAt.gl (Fr_10.alloc _) g11
 have ⟨Fa_11, la_11⟩ := CellsAt.gl (Fa_10.alloc _) g11
 have ⟨Fc_11, lc_11⟩ := CellsAt.gl (Fc_10.alloc _) g11
 have ⟨Ft_11, lt_11⟩ := CellsAt.gl (Ft_10.alloc _) g11
 have ⟨Fx_11, lx_11⟩ := CellsAt.gl (CellsAt.new w10 50 #[.int .i64 0, .int .i64 0]) g11
 have z11 := (z10.alloc _ _).trans g11
 clear g11
 obtain ⟨mx0, mx1⟩ := Fx_11.f2
 obtain ⟨cx0, cx1⟩ := Fx_11.t2
 go_simp
 clear mx0 cx0 mx1 cx1
 refine hK.out _ _ ?_ ?_
 ·exact (Gr.setCell (Gr.setCell s11 (by first | omega | (simp only; omega)) _) (by first | omega | (simp only; omega)) _)
 clear hK K
 try simp only [Act.put, putS]
 refine wpG_done (by kernel_rfl) (fun w12 g12 => ?_) _
 have ⟨Fb_12, lb_12⟩ := CellsAt.gl ((Fb_11.ot).ot) g12
 have ⟨Fp_12, lp_12⟩ := CellsAt.gl ((Fp_11.ot).ot) g12
 have ⟨Fr_12, lr_12⟩ := CellsAt.gl ((Fr_11.ot).ot) g12
 have ⟨Fa_12, la_12⟩ := CellsAt.gl ((Fa_11.ot).ot) g12
 have ⟨Fc_12, lc_12⟩ := CellsAt.gl ((Fc_11.ot).ot) g12
 have ⟨Ft_12, lt_12⟩ := CellsAt.gl ((Ft_11.ot).ot) g12
 have ⟨Fx_12, lx_12⟩ := CellsAt.gl (CellsAt.set2 (Fx_11) _ _) g12
 have z12 := ((z11.sc _).sc _).trans g12
 clear g12
 clear hclG KS
 obtain ⟨cx0, cx1⟩ := Fx_12.t2
 obtain ⟨cp0, cp1, cp2, cp3, cp4, cp5⟩ := Fp_12.t6
 go_wp2_with fail
 clear cx0 cx1 cp0 cp1 cp2 cp3 cp4 cp5
 refine (HZ.out _).mono ?_
 rintro e w13 ⟨rfl, g13⟩
 have ⟨Fb_13, lb_13⟩ := Fb_12.gl g13
 have ⟨Fp_13, lp_13⟩ := Fp_12.gl g13
 have ⟨Fr_13, lr_13⟩ := Fr_12.gl g13
 have ⟨Fa_13, la_13⟩ := Fa_12.gl g13
 have ⟨Fc_13, lc_13⟩ := Fc_12.gl g13
 have ⟨Ft_13, lt_13⟩ := Ft_12.gl g13
 have ⟨Fx_13, lx_13⟩ := Fx_12.gl g13
 have z13 := z12.trans g13
 clear Fb_12 Fp_12 Fr_12 Fa_12 Fc_12 Ft_12 Fx_12 z12 g13
 obtain ⟨mr0, mr1⟩ := Fr_13.f2
 obtain ⟨cr0, cr1⟩ := Fr_13.t2
 go_wp2_with fail
 clear mr0 cr0 mr1 cr1
 obtain ⟨uf, hqp4⟩ : ∃ zz, zz = ((w13.setCell ⟨w.heap.size + 1 + 1, 0, none⟩ (.int .i64 (z).re)).setCell ⟨w.heap.size + 1 + 1, 1, none⟩ (.int .i64 (z).im)) := ⟨_, rfl⟩
 have Yb_p4 : CellsAt uf (w.heap.size) 27 #[.slice (some ⟨yb, yo, none⟩) m cx, ex, sa, .slice sp q cl] := by rw [hqp4]; first | exact (Fb_13.ot).ot | simpa using (Fb_13.ot).ot
 have Yp_p4 : CellsAt uf (w.heap.size + 1) 24 #[fo, lo, ke, sc, mo, iv] := by rw [hqp4]; first | exact (Fp_13.ot).ot | simpa using (Fp_13.ot).ot
 have Yr_p4 : CellsAt uf (w.heap.size + 1 + 1) 50 #[z.re, z.im] := by rw [hqp4]; first | exact CellsAt.set2 (Fr_13) _ _ | simpa using CellsAt.set2 (Fr_13) _ _
 have Ya_p4 : CellsAt uf (w2.heap.size) 50 #[a.re, a.im] := by rw [hqp4]; first | exact (Fa_13.ot).ot | simpa using (Fa_13.ot).ot
 have Yc_p4 : CellsAt uf (w5.heap.size) 50 #[cc.re, cc.im] := by rw [hqp4]; first | exact (Fc_13.ot).ot | simpa using (Fc_13.ot).ot
 have Yt_p4 : CellsAt uf (w9.heap.size) 50 #[t.re, t.im] := by rw [hqp4]; first | exact (Ft_13.ot).ot | simpa using (Ft_13.ot).ot
 have Yx_p4 : CellsAt uf (w10.heap.size) 50 #[x.re, x.im] := by rw [hqp4]; first | exact (Fx_13.ot).ot | simpa using (Fx_13.ot).ot
 have yp4 : Gr w uf := by rw [hqp4]; exact (z13.sc _).sc _
 rw [← hqp4]
 clear hqp4
 obtain ⟨cr0, cr1⟩ := Yr_p4.t2
 refine bodyPost_ret (v := .agg #[z.re, z.im]) ?_ rfl ⟨rfl, yp4⟩
 simp [results, Tryz.results43, go_sem, *]
end
section
open Go.ChangeShapes Go.WideShapes Go.ChangeAt Go.RowKit Go.Shelf
set_option linter.unusedVariables false
set_option maxRecDepth 100000
set_option maxHeartbeats 16000000
theorem wideA_fn (f : FuncId) : Fence.wide.fn f = True := rfl
attribute [local go_sem] wideA_fn Oper.semAt_some
theorem divided_c (x d : Int) (wx : -9223372036854775808 ≤ x ∧ x ≤ 9223372036854775807) (h : 1 ≤ d) (w : World) :
 Calls Tryz.prog 231 #[x, d] w fun e w' => e = .returned (.int .i64 (x / d)) ∧ w' = w := by
 have HD := kh (div_ok x d wx h)
 clear wx h
 go_in
 go_wp2_with (go_at_call 235; refine (HD.out _).mono ?_; rintro e w2 ⟨rfl, rfl⟩)
 go_ret
 exact ⟨rfl, rfl⟩
theorem hasArc_yes (x : Int) (h0 : 2 ≤ x) (h1 : x ≤ 17592186044416) (w : World) :
 Calls Tryz.prog 240 #[x] w fun e w' => e = .returned (.bool true) ∧ w' = w := by
 go_in
 go_wp2
 go_ret
 exact ⟨rfl, rfl⟩
theorem terms_c (x : Int) (w : World) :
 Calls Tryz.prog 227 #[x] w fun e w' => e = .returned (.func (.func 230) #[] #[.pointer (some ⟨w.heap.size, 0, none⟩)]) ∧ w' = w.alloc (.cells #[x] 3) := by
 go_in
 go_wp2
 go_ret
 exact ⟨rfl, rfl⟩
def IsT (m : Nat) (ys : List Int) : Prop := ∃ k, k ≤ 28 ∧ arcP m k = 0 ∧ (∀ j, j < k → 0 < arcP m j) ∧ ys = (List.range k).map (arcT m)
def sgn (j : Nat) : Int := if j % 2 = 1 then -1 else 1
theorem sgn_mul (m j : Nat) : sgn j * ((arcP m j : Int) / (2 * (j : Int) + 1)) = arcT m j := by
 have e : (arcP m j : Int) / (2 * (j : Int) + 1) = (arcM m j : Int) := by
  rw [arcM, Int.natCast_ediv]; simp
 rw [e, sgn, arcT]
 split <;> omega
theorem sgn_succ (j : Nat) : -sgn j = sgn (j + 1) := by
 unfold sgn
 by_cases h : j % 2 = 1
 ·rw [if_pos h, if_neg (by omega)]; rfl
 ·rw [if_neg h, if_pos (by omega)]
theorem sgn_bd (j : Nat) : -1 ≤ sgn j ∧ sgn j ≤ 1 := by unfold sgn; split <;> omega
theorem arcT_bd (m j : Nat) (h : 2 ≤ m) : -36028797018963968 ≤ arcT m j ∧ arcT m j ≤ 36028797018963968 := by
 have := arcM_top m j h
 unfold arcT
 split <;> omega
theorem arcP_cast (m j : Nat) : (arcP m (j + 1) : Int) = (arcP m j : Int) / (m : Int) / (m : Int) := by
 rw [arcP, Int.natCast_ediv, Int.natCast_ediv]
theorem arcL_succ (m j : Nat) : (List.range (j + 1)).map (arcT m) = (List.range j).map (arcT m) ++ [arcT m j] := by
 rw [List.range_succ, List.map_append]; rfl
set_option maxRecDepth 100000 in set_option maxHeartbeats 2000000 in
theorem terms1_in (n : Nat) (hn : 1 ≤ n) (l Bn B0 m : Nat) (m0 : 2 ≤ m) (m1 : m ≤ 17592186044416) (J Jx : List Int → World → Prop) (W0 : World) (hJ : AbidesFrom W0.heap.size J)
 (hY : ∀ pre x W, J pre W → pre.length < 28 → YieldAt Fence.wide (n - 1) Tryz.prog l #[.int .i64 x] W fun e W' =>
  (e = .returned (.bool true) ∧ J (pre ++ [x]) W' ∧ W'.heap[Bn]? = W.heap[Bn]?) ∨ (e = .returned (.bool false) ∧ Jx (pre ++ [x]) W'))
 (W : World) (hBn : Boxed W Bn 3 (.int .i64 m)) (h0 : J [] W) :
 CallsIn Fence.wide n Tryz.prog 230 #[.func (.yield l) #[] #[], .pointer (some ⟨Bn, 0, none⟩)] W fun e W' => (∃ v, e = .returned v) ∧
  ((∃ ys, IsT m ys ∧ J ys W') ∨ (∃ pre, True ∧ Jx pre W')) := by
 have hc := hBn.cell
 have HD1 := kh (divided_c 72057594037927936 m (by omega) (by omega))
 have e0 : ((72057594037927936 : Int) / (m : Int)) = (arcP m 0 : Int) := by rw [arcP, Int.natCast_ediv]; rfl
 rw [e0] at HD1
 clear e0
 have M1 := kh m1
 refine callsIn_of_wp Tryz.func230 rfl trivial ?_ rfl
 simp only [Tryz.ntmps230, List.size_toArray, List.length_cons, List.length_nil, Nat.reduceAdd, Nat.reduceSub, Array.replicate_succ, Array.replicate_zero, List.push_toArray, List.append_toArray, List.nil_append, List.cons_append]
 gi_wp2_with (gi_at_call 231; refine (callsIn_wide.2 (HD1.out _)).mono ?_; rintro e w2 ⟨rfl, rfl⟩)
 gi_loopw [3, 4, 5] (fun s d p wr => ∃ j : Nat, j ≤ 28 ∧ s = .int .i64 (sgn j) ∧ d = .int .i64 (2 * (j : Int) + 1) ∧ p = .int .i64 (arcP m j) ∧ Boxed wr Bn 3 (.int .i64 m) ∧ (∀ i, i < j → 0 < arcP m i) ∧ J ((List.range j).map (arcT m)) wr)
  (fun _ d _ _ => 100 - (intOf d).toNat)
 case atStart =>
  exact ⟨0, by omega, rfl, rfl, rfl, hBn, fun i hi => absurd hi (Nat.not_lt_zero _), h0⟩
 case round =>
  clear hc h0 hBn;obtain ⟨j, hj, rfl, rfl, rfl, hb, hl, hJs⟩ := hrel;have hc := hb.cell
  by_cases hp : arcP m j = 0
  ·have hp' : ((arcP m j : Int) != 0) = false := by simp [hp]
   gi_wp2
   go_end0
   exact ⟨⟨_, rfl⟩, .inl ⟨_, ⟨j, hj, hp, hl, rfl⟩, hJs⟩⟩
  ·have hp' : ((arcP m j : Int) != 0) = true := by simpa using hp
   have hj28 := arcP_live m j m0 (by omega);obtain ⟨fn, tmps, assign, body, hy, hR⟩ := hY _ (arcT m j) wr hJs (by simpa using hj28);have ht := arcP_top m j m0;have HD := kh (divided_c (arcP m j) (2 * (j : Int) + 1) (by omega) (by omega))
   have E : wrap64 (sgn j * ((arcP m j : Int) / (2 * (j : Int) + 1))) = arcT m j := by
    rw [sgn_mul]
    have := arcT_bd m j m0
    exact IntWalk.wrap64_in _ ⟨by omega, by omega⟩
   rw [← E] at hy;have HT := kh ht;have HE := kh E;clear E ht hc;have hc := hb.cell
   gi_wp2_with (gi_at_call 231; refine (callsIn_wide.2 (HD.out _)).mono ?_; rintro e w2 ⟨rfl, rfl⟩)
   refine hR.mono ?_;clear hy hR;rintro e W3 (⟨rfl, hJ3, hk3⟩ | ⟨rfl, hJx3⟩)
   ·have hb3 : Boxed W3 Bn 3 (.int .i64 m) := hk3.trans hb
    clear hc hJs hk3;have hc3 := hb3.cell;have ht := HT.out;have HA := kh (divided_c (arcP m j) m (by omega) (by omega))
    have hq : (arcP m j : Int) / (m : Int) ≤ 36028797018963968 := Int.le_trans (Int.ediv_le_self _ (by omega)) (by omega)
    have hq0 : 0 ≤ (arcP m j : Int) / (m : Int) := Int.ediv_nonneg (by omega) (by omega)
    have HB := kh (divided_c ((arcP m j : Int) / (m : Int)) m (by omega) (by omega));rw [← arcP_cast] at HB;have sb := sgn_bd j;clear ht hq hq0
    gi_wp2_with fail
    clear sb
    gi_quiet (first | (gi_at_call 231; with_reducible refine CallsIn.quiet_of_same (callsIn_wide.2 (HA.out _))) | (gi_at_call 231; with_reducible refine CallsIn.quiet_of_same (callsIn_wide.2 (HB.out _))))
    have hJ4 : J ((List.range (j + 1)).map (arcT m)) (W3.drewN nq) := by
     rw [arcL_succ]
     exact hJ _ _ _ none hJ3 ⟨rfl, rfl, rfl, Nat.le_refl _, fun _ _ _ => rfl⟩ (fun r e => by cases e)
    go_roundw
    case rel =>
     (repeat apply Exists.intro)
     refine ⟨?_, rfl⟩;refine ⟨j + 1, by omega, by rw [sgn_succ], ?_, rfl, hb3, fun i hi => ?_, hJ4⟩
     ·congr 1
     ·by_cases hij : i = j
      ·rw [hij]; omega
      ·exact hl i (by omega)
    case measure => simp [intOf]; omega
   ·gi_wp2
    refine bodyPost_ret (results_none rfl _ _ _) rfl ?_
    exact ⟨⟨_, rfl⟩, .inr ⟨_, trivial, hJx3⟩⟩
theorem terms_stops (n : Nat) (hn : 1 ≤ n) (Bn m : Nat) (m0 : 2 ≤ m) (m1 : m ≤ 17592186044416) (w : World) (hb : Boxed w Bn 3 (.int .i64 m)) :
 SeqStopsK Fence.wide n Tryz.prog 230 #[.pointer (some ⟨Bn, 0, none⟩)] (fun x : Int => #[Value.int .i64 x]) (fun A B => B.heap[Bn]? = A.heap[Bn]?) (IsT m) (fun _ => True) 28 w := fun l J Jx W hW hJ _ hY h0 =>
 terms1_in n hn l Bn 0 m m0 m1 J Jx W hJ hY W ((hW.block Bn hb.lt).trans hb) h0
def sumW (xs : List Int) : Int := xs.foldl (fun s x => wrap64 (s + x)) 0
theorem sumW_snoc (xs : List Int) (x : Int) : sumW (xs ++ [x]) = wrap64 (sumW xs + x) := by simp [sumW]
theorem sumW_arc (m : Nat) (h : 2 ≤ m) : ∀ k, sumW ((List.range k).map (arcT m)) = arcS m k
 | 0 => rfl
 | k + 1 => by
   rw [arcL_succ, sumW_snoc, sumW_arc m h k]
   have := arcS_bd m (k + 1) h
   exact IntWalk.wrap64_in _ ⟨by rw [arcS] at this; omega, by rw [arcS] at this; omega⟩
theorem IsT.sum {m : Nat} {ys : List Int} (h : IsT m ys) (m0 : 2 ≤ m) : sumW ys = (arcOf m : Int) := by
 obtain ⟨k, hk, h0, _, rfl⟩ := h
 rw [sumW_arc m m0, arcS_all m k m0 (by omega) h0]
set_option maxRecDepth 100000 in set_option maxHeartbeats 2000000 in
theorem sum_c (Bn m : Nat) (m0 : 2 ≤ m) (m1 : m ≤ 17592186044416) (w : World) (hbn : Boxed w Bn 3 (.int .i64 m)) :
 CW 226 #[.func (.func 230) #[] #[.pointer (some ⟨Bn, 0, none⟩)]] w (.int .i64 (arcOf m)) :=by
 delta CW
 refine (callsIn_wide (n := 5)).1 ?_
 refine callsIn_of_wp_marks Tryz.func226 rfl trivial ?_ rfl
 simp only [Tryz.ntmps226, List.size_toArray, List.length_cons, List.length_nil, Nat.reduceAdd, Nat.reduceSub, Array.replicate_succ, Array.replicate_zero, List.push_toArray, List.append_toArray, List.nil_append, List.cons_append]
 gi_wp2
 have hs := And.intro (Boxed.new w 3 (.int .i64 0)).cell (Boxed.new w 3 (.int .i64 0)).frozen
 have hB0 : Below w.heap.size w (w.alloc (.cells #[.int .i64 0] 3)) := (Below.refl _ w).alloc (Nat.le_refl _) _
 refine wpIn_rangeFunc_ownF rfl (by omega) (gf := 230) (lb := #[.pointer (some ⟨Bn, 0, none⟩)]) rfl trivial (enters_of Tryz.func230 (by kernel_rfl) rfl)
  (terms_stops 4 (by omega) Bn m m0 m1 w hbn) (fun h k => k.trans h)
  (fun W l o o' hl h _ _ => World.putObj_heap_other (fun e => by have := hbn.lt; simp at hl; omega)) hB0 (fun _ => rfl)
  (fun pre W => (W.cell? ⟨w.heap.size, 0, none⟩ = some (.int .i64 (sumW pre)) ∧ W.frozen? ⟨w.heap.size, 0, none⟩ = false) ∧ Below w.heap.size w W)
  (fun _ _ _ => False)
  (OwnFrom.and (Own.from (fun s A B row hs hg hr => ⟨cell_kept hs.1 hg hr, (frozen_kept hs.1 hg hr).trans hs.2⟩) _) (ownFrom_below (Nat.le_refl _) (by simp)))
  (fun _ _ _ _ _ hs _ _ => hs)
  ⟨⟨hs.1, hs.2⟩, hB0⟩
  (fun x => { tmps := #[.func (.func 230) #[] #[.pointer (some ⟨Bn, 0, none⟩)], undef, .int .i64 0, .pointer (some ⟨w.heap.size, 0, none⟩), .int .i64 x, .func (.func 230) #[] #[.pointer (some ⟨Bn, 0, none⟩)], .int .i64 x, undef, undef, undef, undef], defers := [] }) ?assign ?body ?done ?stop
 case assign =>
  intro l x W K hK
  gi_wp2
  exact hK
 case body =>
  rintro l pre x W ⟨⟨hc, hf⟩, hB⟩ _
  gi_wp2
  refine ⟨KeepsOthers.setCell _ _ _, Below.heap_setCell _ _ _ _ ?_, ⟨by rw [sumW_snoc]; exact World.cell?_setCell_same' _ _ _ (by rw [hc]; rfl), by rw [World.frozen?_setCell]; exact hf⟩, hB.setCell (p := ⟨w.heap.size, 0, none⟩) (Nat.le_refl _) _⟩
  have := hbn.lt
  simp; omega
 case done =>
  rintro D ys W hD hS ⟨⟨hc, _⟩, hB⟩ hK;rw [hS.sum m0] at hc
  gi_wp2
  refine ⟨by simp, .inl ⟨_, _, rfl, run_takeDeferred hK, ?_⟩⟩
  exact ⟨_, results_tmp rfl _ _ _, rfl, ⟨hB.trans (belowK_b (w := w) (Nat.le_refl _) W D _ _ (by simp at hD; omega) hK rfl rfl)⟩⟩
 case stop =>
  rintro D c pre W _ _ h _
  exact h.elim
end
section
open Go.ChangeShapes Go.WideShapes Go.ChangeAt Go.RowKit Go.Shelf
set_option linter.unusedVariables false
attribute [local go_sem] wideA_fn Oper.semAt_some
theorem arc_ok (m : Nat) (m0 : 2 ≤ m) (m1 : m ≤ 17592186044416) (w : World) :
 CW 239 #[m] w (.tuple #[(arcOf m), .int .i64 0]) :=by
 delta CW
 have HH := kh (hasArc_yes m (by omega) (by omega))
 have HT := kh (terms_c m)
 have HS := kh fun W => sum_c W.heap.size m m0 m1 (W.alloc (.cells #[m] 3)) (Boxed.new W _ _)
 clear m0 m1
 go_in
 go_wp2_with (first
  | (go_at_call 240; refine (HH.out _).mono ?_; rintro e w1 ⟨rfl, rfl⟩)
  | (go_at_call 227; refine (HT.out _).mono ?_; rintro e w2 ⟨rfl, rfl⟩)
  | (go_at_call 226; refine (HS.out _).mono ?_; rintro e w3 ⟨rfl, hg⟩))
 go_ret2
 exact ⟨rfl, Gr.trans ((Gr.refl _).alloc _ _) hg⟩
theorem arc_2 : arcOf 2 = 33409331186036029 := by decide +kernel
theorem arc_3 : arcOf 3 = 23184570830191493 := by decide +kernel
theorem quarter_c (w : World) :
 CW 223 #[] w (.int .i64 56593902016227522) :=by
 delta CW
 have HT2 := kh (terms_c 2)
 have HT3 := kh (terms_c 3)
 have HS2 := kh fun W => sum_c W.heap.size 2 (by omega) (by omega) (W.alloc (.cells #[.int .i64 2] 3)) (Boxed.new W _ _)
 have HS3 := kh fun W => sum_c W.heap.size 3 (by omega) (by omega) (W.alloc (.cells #[.int .i64 3] 3)) (Boxed.new W _ _)
 rw [arc_2] at HS2
 rw [arc_3] at HS3
 go_in
 go_wp2_with (first
  | (go_at_call 227; with_reducible refine (HT2.out _).mono ?_; rintro e w1 ⟨rfl, rfl⟩)
  | (go_at_call 226; with_reducible refine (HS2.out _).mono ?_; rintro e w2 ⟨rfl, hg2⟩; clear HS2 HT2)
  | (go_at_call 227; with_reducible refine (HT3.out _).mono ?_; rintro e w3 ⟨rfl, rfl⟩)
  | (go_at_call 226; with_reducible refine (HS3.out _).mono ?_; rintro e w4 ⟨rfl, hg4⟩))
 go_ret
 exact ⟨rfl, (Gr.trans ((Gr.refl _).alloc _ _) hg2).trans (Gr.trans ((Gr.refl _).alloc _ _) hg4)⟩
end
end Go.Proofs.YtdignnmpfkgkoaaGreat
