import Derived.Test.YtdignnmpfkgkoaaGreatRealBinsS38
namespace Go.Proofs.YtdignnmpfkgkoaaGreat
set_option maxHeartbeats 16000000
section
open Go.ChangeShapes Go.WideShapes Go.ChangeAt Go.RowKit
set_option linter.unusedVariables false
set_option linter.unusedSimpArgs false
set_option maxRecDepth 100000
set_option maxHeartbeats 16000000
theorem ftReady_no (v : Value) (xs : List Gi) (fo lo ke sc mo y : Int) (iv : Bool) (hy : ¬ y = 0) (hb : (y == 0) = false) (HN : Hid (∀ W, CxsAt W v xs → Calls Tryz.prog 104 #[v, .agg #[fo, lo, ke, sc, mo, iv]] W fun e w' => e = .returned (.int .i64 y) ∧ Gr W w')) (w : World) (hv : CxsAt w v xs) :
 CW 60 #[v, .agg #[fo, lo, ke, sc, mo, iv]] w (.tuple #[.agg #[.slice none 0 0, .int .i64 0, false, .slice none 0 0], y]) :=by
 delta CW
 go_in
 go_wp2_with fail
 refine lc2 fun u0 gu R0 R1 => ?_
 have lp := R0.lt
 have lr := R1.lt
 obtain ⟨cp0, cp1, cp2, cp3, cp4, cp5⟩ := R0.t6
 go_wp2_with fail
 clear cp0 cp1 cp2 cp3 cp4 cp5
 refine (HN.out _ (hv.gr gu)).mono ?_
 rintro e w1 ⟨rfl, g1⟩
 have ⟨Fp_1, lp_1⟩ := R0.gl g1
 have ⟨Fr_1, lr_1⟩ := R1.gl g1
 have z1 := gu.trans g1
 clear R0 R1 gu g1
 obtain ⟨mr0, mr1, mr2, mr3⟩ := Fr_1.f4
 obtain ⟨cr0, cr1, cr2, cr3⟩ := Fr_1.t4
 go_wp2_with fail
 clear mr0 cr0 mr1 cr1 mr2 cr2 mr3 cr3
 obtain ⟨uf, hqf⟩ : ∃ zz, zz = ((((w1.setCell ⟨w.heap.size + 1, 0, none⟩ (.slice none 0 0)).setCell ⟨w.heap.size + 1, 1, none⟩ (.int .i64 0)).setCell ⟨w.heap.size + 1, 2, none⟩ (.bool false)).setCell ⟨w.heap.size + 1, 3, none⟩ (.slice none 0 0)) := ⟨_, rfl⟩
 have Yr : CellsAt uf (w.heap.size + 1) 27 #[.slice none 0 0, .int .i64 0, false, .slice none 0 0] := by rw [hqf]; have q_ := CellsAt.set (CellsAt.set (CellsAt.set (CellsAt.set (Fr_1) 0 (.slice none 0 0)) 1 (.int .i64 0)) 2 (.bool false)) 3 (.slice none 0 0); first | exact q_ | simpa using q_
 have yz : Gr w uf := by rw [hqf]; exact (((z1.sc _).sc _).sc _).sc _
 rw [← hqf]
 clear hqf
 obtain ⟨cr0, cr1, cr2, cr3⟩ := Yr.t4
 refine bodyPost_ret (v := .tuple #[.agg #[.slice none 0 0, .int .i64 0, false, .slice none 0 0], y]) ?_ rfl ⟨rfl, yz⟩
 simp [results, Tryz.results60, go_sem, *]
theorem ftReady_row (v : Value) (xs fs ys : List Gi) (fo lo ke sc mo s : Int) (iv : Bool) (sT : TypeId) (rV : Value) (F1 : FuncId) (e1 : Enters F1) (m1 : ∀ n W, (method (n + 1) sT rV "headroom/fft.ahead").run Tryz.prog W = .ok (F1, rV) W) (hke : ¬ ke = 2) (hkb : (ke == 2) = false)
 (HN : Hid (∀ W, CxsAt W v xs → Calls Tryz.prog 104 #[v, .agg #[fo, lo, ke, sc, mo, iv]] W fun e w' => e = .returned (.int .i64 0) ∧ Gr W w')) (HS : CR 105 #[.agg #[fo, lo, ke, sc, mo, iv]] (.iface sT rV))
 (HA : Hid (∀ W, CxsAt W v xs → Calls Tryz.prog F1 #[rV, v] W fun e w' => e = .returned (.int .i64 s) ∧ Gr W w'))
 (HF : Hid (∀ W, CxsAt W v xs → Calls Tryz.prog 106 #[v] W fun e w' => ∃ u, e = .returned (.tuple #[u, .int .i64 0]) ∧ CxsAt w' u fs ∧ Gr W w'))
 (HSH : Hid (∀ u W, CxsAt W u fs → Calls Tryz.prog 107 #[u, s, mo] W fun e w' => ∃ u, e = .returned (.tuple #[u, .int .i64 0]) ∧ CxsAt w' u ys ∧ Gr W w')) (w : World) (hv : CxsAt w v xs) :
 Calls Tryz.prog 60 #[v, .agg #[fo, lo, ke, sc, mo, iv]] w fun e w' => ∃ u, e = .returned (.tuple #[.agg #[u, s, false, .slice none 0 0], .int .i64 0]) ∧ CxsAt w' u ys ∧ Gr w w' := by
 unfold Enters at e1
 go_in
 go_wp2_with fail
 refine lc2 fun u0 gu R0 R1 => ?_
 have lp := R0.lt
 have lr := R1.lt
 obtain ⟨cp0, cp1, cp2, cp3, cp4, cp5⟩ := R0.t6
 go_wp2_with fail
 clear cp0 cp1 cp2 cp3 cp4 cp5
 refine (HN.out _ (hv.gr gu)).mono ?_
 rintro e w1 ⟨rfl, g1⟩
 have ⟨Fp_1, lp_1⟩ := R0.gl g1
 have ⟨Fr_1, lr_1⟩ := R1.gl g1
 have z1 := gu.trans g1
 clear R0 R1 gu g1
 obtain ⟨cp0, cp1, cp2, cp3, cp4, cp5⟩ := Fp_1.t6
 go_wp2_with fail
 clear cp0 cp1 cp2 cp3 cp4 cp5
 refine (HS.out _).mono ?_
 rintro e w2 ⟨rfl, g2⟩
 have ⟨Fp_2, lp_2⟩ := Fp_1.gl g2
 have ⟨Fr_2, lr_2⟩ := Fr_1.gl g2
 have z2 := z1.trans g2
 clear Fp_1 Fr_1 z1 g2
 obtain ⟨cp0, cp1, cp2, cp3, cp4, cp5⟩ := Fp_2.t6
 go_wp2_with fail
 clear cp0 cp1 cp2 cp3 cp4 cp5
 refine (HA.out _ (hv.gr z2)).mono ?_
 rintro e w3 ⟨rfl, g3⟩
 have ⟨Fp_3, lp_3⟩ := Fp_2.gl g3
 have ⟨Fr_3, lr_3⟩ := Fr_2.gl g3
 have z3 := z2.trans g3
 clear Fp_2 Fr_2 z2 g3
 obtain ⟨cp0, cp1, cp2, cp3, cp4, cp5⟩ := Fp_3.t6
 go_wp2_with fail
 clear cp0 cp1 cp2 cp3 cp4 cp5
 refine (HF.out _ (hv.gr z3)).mono ?_
 rintro e w4 ⟨vf, rfl, hf, g4⟩
 have ⟨Fp_4, lp_4⟩ := Fp_3.gl g4
 have ⟨Fr_4, lr_4⟩ := Fr_3.gl g4
 have z4 := z3.trans g4
 clear Fp_3 Fr_3 z3 g4
 obtain ⟨cp0, cp1, cp2, cp3, cp4, cp5⟩ := Fp_4.t6
 go_wp2_with fail
 clear cp0 cp1 cp2 cp3 cp4 cp5
 refine (HSH.out _ _ hf).mono ?_
 rintro e w5 ⟨vy, rfl, hy, g5⟩
 have ⟨Fp_5, lp_5⟩ := Fp_4.gl g5
 have ⟨Fr_5, lr_5⟩ := Fr_4.gl g5
 have Kf_5 := hf.gr g5
 have z5 := z4.trans g5
 clear Fp_4 Fr_4 z4 g5
 obtain ⟨yp, yc, rfl⟩ := hy.len
 obtain ⟨mr0, mr1, mr2, mr3⟩ := Fr_5.f4
 obtain ⟨cr0, cr1, cr2, cr3⟩ := Fr_5.t4
 go_wp2_with fail
 clear mr0 cr0 mr1 cr1 mr2 cr2 mr3 cr3
 have ap := CxsAt.apart hy Fr_5
 have cxe := (((hy.set ap 0 (.slice yp ys.length yc)).set ap 1 (.int .i64 s)).set ap 2 (.bool false)).set ap 3 (.slice none 0 0)
 obtain ⟨uf, hqf⟩ : ∃ zz, zz = ((((w5.setCell ⟨w.heap.size + 1, 0, none⟩ (.slice yp ys.length yc)).setCell ⟨w.heap.size + 1, 1, none⟩ (.int .i64 s)).setCell ⟨w.heap.size + 1, 2, none⟩ (.bool false)).setCell ⟨w.heap.size + 1, 3, none⟩ (.slice none 0 0)) := ⟨_, rfl⟩
 rw [← hqf] at cxe
 have Yr : CellsAt uf (w.heap.size + 1) 27 #[.slice yp ys.length yc, s, false, .slice none 0 0] := by rw [hqf]; have q_ := CellsAt.set (CellsAt.set (CellsAt.set (CellsAt.set (Fr_5) 0 (.slice yp ys.length yc)) 1 (.int .i64 s)) 2 (.bool false)) 3 (.slice none 0 0); first | exact q_ | simpa using q_
 have yz : Gr w uf := by rw [hqf]; exact (((z5.sc _).sc _).sc _).sc _
 rw [← hqf]
 clear hqf
 obtain ⟨cr0, cr1, cr2, cr3⟩ := Yr.t4
 refine bodyPost_ret (v := .tuple #[.agg #[.slice yp ys.length yc, s, false, .slice none 0 0], .int .i64 0]) ?_ rfl ⟨_, rfl, cxe, yz⟩
 simp [results, Tryz.results60, go_sem, *]
theorem ftReady_split (v : Value) (xs ys : List Gi) (fo lo sc mo s : Int) (iv : Bool) (sT : TypeId) (rV : Value) (F1 : FuncId) (e1 : Enters F1) (m1 : ∀ n W, (method (n + 1) sT rV "headroom/fft.ahead").run Tryz.prog W = .ok (F1, rV) W)
 (HN : Hid (∀ W, CxsAt W v xs → Calls Tryz.prog 104 #[v, .agg #[fo, lo, .int .i64 2, sc, mo, iv]] W fun e w' => e = .returned (.int .i64 0) ∧ Gr W w')) (HS : CR 105 #[.agg #[fo, lo, .int .i64 2, sc, mo, iv]] (.iface sT rV))
 (HA : Hid (∀ W, CxsAt W v xs → Calls Tryz.prog F1 #[rV, v] W fun e w' => e = .returned (.int .i64 s) ∧ Gr W w'))
 (HSH : Hid (∀ u W, CxsAt W u xs → Calls Tryz.prog 107 #[u, s, mo] W fun e w' => ∃ u, e = .returned (.tuple #[u, .int .i64 0]) ∧ CxsAt w' u ys ∧ Gr W w')) (w : World) (hv : CxsAt w v xs) :
 Calls Tryz.prog 60 #[v, .agg #[fo, lo, .int .i64 2, sc, mo, iv]] w fun e w' => ∃ u, e = .returned (.tuple #[.agg #[u, s, false, .slice none 0 0], .int .i64 0]) ∧ CxsAt w' u ys ∧ Gr w w' := by
 unfold Enters at e1
 go_in
 go_wp2_with fail
 refine lc2 fun u0 gu R0 R1 => ?_
 have lp := R0.lt
 have lr := R1.lt
 obtain ⟨cp0, cp1, cp2, cp3, cp4, cp5⟩ := R0.t6
 go_wp2_with fail
 clear cp0 cp1 cp2 cp3 cp4 cp5
 refine (HN.out _ (hv.gr gu)).mono ?_
 rintro e w1 ⟨rfl, g1⟩
 have ⟨Fp_1, lp_1⟩ := R0.gl g1
 have ⟨Fr_1, lr_1⟩ := R1.gl g1
 have z1 := gu.trans g1
 clear R0 R1 gu g1
 obtain ⟨cp0, cp1, cp2, cp3, cp4, cp5⟩ := Fp_1.t6
 go_wp2_with fail
 clear cp0 cp1 cp2 cp3 cp4 cp5
 refine (HS.out _).mono ?_
 rintro e w2 ⟨rfl, g2⟩
 have ⟨Fp_2, lp_2⟩ := Fp_1.gl g2
 have ⟨Fr_2, lr_2⟩ := Fr_1.gl g2
 have z2 := z1.trans g2
 clear Fp_1 Fr_1 z1 g2
 obtain ⟨cp0, cp1, cp2, cp3, cp4, cp5⟩ := Fp_2.t6
 go_wp2_with fail
 clear cp0 cp1 cp2 cp3 cp4 cp5
 refine (HA.out _ (hv.gr z2)).mono ?_
 rintro e w3 ⟨rfl, g3⟩
 have ⟨Fp_3, lp_3⟩ := Fp_2.gl g3
 have ⟨Fr_3, lr_3⟩ := Fr_2.gl g3
 have z3 := z2.trans g3
 clear Fp_2 Fr_2 z2 g3
 obtain ⟨cp0, cp1, cp2, cp3, cp4, cp5⟩ := Fp_3.t6
 go_wp2_with fail
 clear cp0 cp1 cp2 cp3 cp4 cp5
 refine (HSH.out _ _ (hv.gr z3)).mono ?_
 rintro e w4 ⟨vy, rfl, hy, g4⟩
 have ⟨Fp_4, lp_4⟩ := Fp_3.gl g4
 have ⟨Fr_4, lr_4⟩ := Fr_3.gl g4
 have z4 := z3.trans g4
 clear Fp_3 Fr_3 z3 g4
 obtain ⟨yp, yc, rfl⟩ := hy.len
 obtain ⟨mr0, mr1, mr2, mr3⟩ := Fr_4.f4
 obtain ⟨cr0, cr1, cr2, cr3⟩ := Fr_4.t4
 go_wp2_with fail
 clear mr0 cr0 mr1 cr1 mr2 cr2 mr3 cr3
 have ap := CxsAt.apart hy Fr_4
 have cxe := (((hy.set ap 0 (.slice yp ys.length yc)).set ap 1 (.int .i64 s)).set ap 2 (.bool false)).set ap 3 (.slice none 0 0)
 obtain ⟨uf, hqf⟩ : ∃ zz, zz = ((((w4.setCell ⟨w.heap.size + 1, 0, none⟩ (.slice yp ys.length yc)).setCell ⟨w.heap.size + 1, 1, none⟩ (.int .i64 s)).setCell ⟨w.heap.size + 1, 2, none⟩ (.bool false)).setCell ⟨w.heap.size + 1, 3, none⟩ (.slice none 0 0)) := ⟨_, rfl⟩
 rw [← hqf] at cxe
 have Yr : CellsAt uf (w.heap.size + 1) 27 #[.slice yp ys.length yc, s, false, .slice none 0 0] := by rw [hqf]; have q_ := CellsAt.set (CellsAt.set (CellsAt.set (CellsAt.set (Fr_4) 0 (.slice yp ys.length yc)) 1 (.int .i64 s)) 2 (.bool false)) 3 (.slice none 0 0); first | exact q_ | simpa using q_
 have yz : Gr w uf := by rw [hqf]; exact (((z4.sc _).sc _).sc _).sc _
 rw [← hqf]
 clear hqf
 obtain ⟨cr0, cr1, cr2, cr3⟩ := Yr.t4
 refine bodyPost_ret (v := .tuple #[.agg #[.slice yp ys.length yc, s, false, .slice none 0 0], .int .i64 0]) ?_ rfl ⟨_, rfl, cxe, yz⟩
 simp [results, Tryz.results60, go_sem, *]
theorem ftRun_no (v : Value) (xs : List Gi) (fo lo ke sc mo y : Int) (iv : Bool) (hy : ¬ y = 0) (hb : (y == 0) = false) (HR : Hid (∀ W, CxsAt W v xs → Calls Tryz.prog 60 #[v, .agg #[fo, lo, ke, sc, mo, iv]] W fun e w' => e = .returned (.tuple #[.agg #[.slice none 0 0, .int .i64 0, false, .slice none 0 0], y]) ∧ Gr W w')) (w : World) (hv : CxsAt w v xs) :
 CW 25 #[v, .agg #[fo, lo, ke, sc, mo, iv]] w (.tuple #[.agg #[.slice none 0 0, .int .i64 0, false, .slice none 0 0], y]) :=by
 delta CW
 go_in
 go_wp2_with fail
 refine lc2 fun u0 gu R0 R1 => ?_
 have lp := R0.lt
 have lr := R1.lt
 obtain ⟨cp0, cp1, cp2, cp3, cp4, cp5⟩ := R0.t6
 go_wp2_with fail
 clear cp0 cp1 cp2 cp3 cp4 cp5
 refine (HR.out _ (hv.gr gu)).mono ?_
 rintro e w1 ⟨rfl, g1⟩
 have ⟨Fp_1, lp_1⟩ := R0.gl g1
 have ⟨Fr_1, lr_1⟩ := R1.gl g1
 have z1 := gu.trans g1
 clear R0 R1 gu g1
 obtain ⟨mr0, mr1, mr2, mr3⟩ := Fr_1.f4
 obtain ⟨cr0, cr1, cr2, cr3⟩ := Fr_1.t4
 go_wp2_with fail
 clear mr0 cr0 mr1 cr1 mr2 cr2 mr3 cr3
 obtain ⟨uf, hqf⟩ : ∃ zz, zz = (((((w1.setCell ⟨w.heap.size + 1, 0, none⟩ (.slice none 0 0)).setCell ⟨w.heap.size + 1, 1, none⟩ (.int .i64 0)).setCell ⟨w.heap.size + 1, 2, none⟩ (.bool false)).setCell ⟨w.heap.size + 1, 3, none⟩ (.slice none 0 0)).alloc (.cells #[.slice none 0 0, .int .i64 0, false, .slice none 0 0] 27)) := ⟨_, rfl⟩
 have Yr : CellsAt uf (w.heap.size + 1) 27 #[.slice none 0 0, .int .i64 0, false, .slice none 0 0] := by rw [hqf]; exact (CellsAt.set (CellsAt.set (CellsAt.set (CellsAt.set (Fr_1) 0 (.slice none 0 0)) 1 (.int .i64 0)) 2 (.bool false)) 3 (.slice none 0 0)).alloc _
 have yz : Gr w uf := by rw [hqf]; exact ((((z1.sc _).sc _).sc _).sc _).alloc _ _
 rw [← hqf]
 clear hqf
 obtain ⟨cr0, cr1, cr2, cr3⟩ := Yr.t4
 refine bodyPost_ret (v := .tuple #[.agg #[.slice none 0 0, .int .i64 0, false, .slice none 0 0], y]) ?_ rfl ⟨rfl, yz⟩
 simp [results, Tryz.results25, go_sem, *]
theorem ftRun_split (v : Value) (xs rs ys : List Gi) (fo lo sc mo e0 ex2 : Int) (iv : Bool)
 (HR : Hid (∀ W, CxsAt W v xs → Calls Tryz.prog 60 #[v, .agg #[fo, lo, .int .i64 2, sc, mo, iv]] W fun e w' => ∃ u, e = .returned (.tuple #[.agg #[u, e0, false, .slice none 0 0], .int .i64 0]) ∧ CxsAt w' u rs ∧ Gr W w'))
 (HSB : Hid (∀ u W, CxsAt W u rs → Calls Tryz.prog 63 #[.agg #[u, e0, false, .slice none 0 0], .agg #[fo, lo, .int .i64 2, sc, mo, iv]] W fun e w' => ∃ u, e = .returned (.agg #[u, ex2, false, .slice none 0 0]) ∧ CxsAt w' u ys ∧ Gr W w')) (w : World) (hv : CxsAt w v xs) :
 Calls Tryz.prog 25 #[v, .agg #[fo, lo, .int .i64 2, sc, mo, iv]] w fun e w' => ∃ u, e = .returned (.tuple #[.agg #[u, ex2, false, .slice none 0 0], .int .i64 0]) ∧ CxsAt w' u ys ∧ Gr w w' := by
 go_in
 go_wp2_with fail
 refine lc2 fun u0 gu R0 R1 => ?_
 have lp := R0.lt
 have lr := R1.lt
 obtain ⟨cp0, cp1, cp2, cp3, cp4, cp5⟩ := R0.t6
 go_wp2_with fail
 clear cp0 cp1 cp2 cp3 cp4 cp5
 refine (HR.out _ (hv.gr gu)).mono ?_
 rintro e w1 ⟨vx, rfl, hx, g1⟩
 have ⟨Fp_1, lp_1⟩ := R0.gl g1
 have ⟨Fr_1, lr_1⟩ := R1.gl g1
 have z1 := gu.trans g1
 clear R0 R1 gu g1
 obtain ⟨px, cx, rfl⟩ := hx.len
 obtain ⟨cp0, cp1, cp2, cp3, cp4, cp5⟩ := Fp_1.t6
 go_wp2_with fail
 clear cp0 cp1 cp2 cp3 cp4 cp5
 have hxa := hx.gr ((Gr.refl _).alloc #[.slice px rs.length cx, e0, false, .slice none 0 0] 27)
 refine (HSB.out _ _ hxa).mono ?_
 rintro e w2 ⟨vy, rfl, hy, g2⟩
 have ⟨Fp_2, lp_2⟩ := CellsAt.gl (Fp_1.alloc _) g2
 have ⟨Fr_2, lr_2⟩ := CellsAt.gl (Fr_1.alloc _) g2
 have ⟨Fb_2, lb_2⟩ := CellsAt.gl (CellsAt.new w1 27 #[.slice px rs.length cx, e0, false, .slice none 0 0]) g2
 have z2 := (z1.alloc _ _).trans g2
 clear g2
 obtain ⟨py, cy, rfl⟩ := hy.len
 obtain ⟨mr0, mr1, mr2, mr3⟩ := Fr_2.f4
 obtain ⟨cr0, cr1, cr2, cr3⟩ := Fr_2.t4
 go_wp2_with fail
 clear mr0 cr0 mr1 cr1 mr2 cr2 mr3 cr3
 have ap := CxsAt.apart hy Fr_2
 have cxe := (((hy.set ap 0 (.slice py ys.length cy)).set ap 1 (.int .i64 ex2)).set ap 2 (.bool false)).set ap 3 (.slice none 0 0)
 obtain ⟨uf, hqf⟩ : ∃ zz, zz = ((((w2.setCell ⟨w.heap.size + 1, 0, none⟩ (.slice py ys.length cy)).setCell ⟨w.heap.size + 1, 1, none⟩ (.int .i64 ex2)).setCell ⟨w.heap.size + 1, 2, none⟩ (.bool false)).setCell ⟨w.heap.size + 1, 3, none⟩ (.slice none 0 0)) := ⟨_, rfl⟩
 rw [← hqf] at cxe
 have Yr : CellsAt uf (w.heap.size + 1) 27 #[.slice py ys.length cy, ex2, false, .slice none 0 0] := by rw [hqf]; have q_ := CellsAt.set (CellsAt.set (CellsAt.set (CellsAt.set (Fr_2) 0 (.slice py ys.length cy)) 1 (.int .i64 ex2)) 2 (.bool false)) 3 (.slice none 0 0); first | exact q_ | simpa using q_
 have yz : Gr w uf := by rw [hqf]; exact (((z2.sc _).sc _).sc _).sc _
 rw [← hqf]
 clear hqf
 obtain ⟨cr0, cr1, cr2, cr3⟩ := Yr.t4
 refine bodyPost_ret (v := .tuple #[.agg #[.slice py ys.length cy, ex2, false, .slice none 0 0], .int .i64 0]) ?_ rfl ⟨_, rfl, cxe, yz⟩
 simp [results, Tryz.results25, go_sem, *]
theorem ftRun_passes (v : Value) (xs L ws : List Gi) (S : Nat → BV) (fo lo ke sc mo bits : Int) (iv : Bool) (sT : TypeId) (rV : Value) (hke : ¬ ke = 2) (hkb : (ke == 2) = false) (hL : L.length ≤ 7) (hS0 : (S 0).sh = []) (hS1 : (S 0).sat = false)
 (HR : Hid (∀ W, CxsAt W v xs → Calls Tryz.prog 60 #[v, .agg #[fo, lo, ke, sc, mo, iv]] W fun e w' => ∃ u, e = .returned (.tuple #[.agg #[u, (S 0).ex, false, .slice none 0 0], .int .i64 0]) ∧ CxsAt w' u (S 0).X ∧ Gr W w'))
 (HPS : Hid (∀ W, Calls Tryz.prog 64 #[.agg #[fo, lo, ke, sc, mo, iv]] W fun e w' => ∃ v, e = .returned (.tuple #[v, .int .i64 0]) ∧ CxsAt w' v L ∧ Gr W w'))
 (HO : Hid (∀ W, Calls Tryz.prog 65 #[.agg #[fo, lo, ke, sc, mo, iv]] W fun e w' => ∃ B v, e = .returned (.agg #[fo, lo, ke, sc, mo, iv, .iface sT rV, .map (some B), v, bits]) ∧ KMap w' B ∧ CxsAt w' v ws ∧ Gr W w'))
 (HN : Hid (∀ (j : Nat) q, L[j]? = some q → ∀ B v vx vs W, CxsAt W vx (S j).X → NumsAt W vs (S j).sh → CxsAt W v ws → KMap W B → Calls Tryz.prog 66 #[.agg #[fo, lo, ke, sc, mo, iv, .iface sT rV, .map (some B), v, bits], .agg #[vx, (S j).ex, (S j).sat, vs], .agg #[q.re, q.im]] W fun e w' => ∃ vx vs, e = .returned (.agg #[vx, (S (j + 1)).ex, (S (j + 1)).sat, vs]) ∧ CxsAt w' vx (S (j + 1)).X ∧ NumsAt w' vs (S (j + 1)).sh ∧ Gr W w' ∧ ∀ b, vs.ownBlock = some b → W.heap.size ≤ b))
 (w : World) (hv : CxsAt w v xs) :
 Calls Tryz.prog 25 #[v, .agg #[fo, lo, ke, sc, mo, iv]] w fun e w' => ∃ vx vs, e = .returned (.tuple #[.agg #[vx, (S L.length).ex, (S L.length).sat, vs], .int .i64 0]) ∧ CxsAt w' vx (S L.length).X ∧ NumsAt w' vs (S L.length).sh ∧ Gr w w' := by
 go_in
 go_wp2_with fail
 refine lc2 fun u0 gu R0 R1 => ?_
 have lp := R0.lt
 have lr := R1.lt
 obtain ⟨cp0, cp1, cp2, cp3, cp4, cp5⟩ := R0.t6
 go_wp2_with fail
 clear cp0 cp1 cp2 cp3 cp4 cp5
 refine (HR.out _ (hv.gr gu)).mono ?_
 rintro e w1 ⟨vx, rfl, hx1, g1⟩
 have ⟨Fp_1, lp_1⟩ := R0.gl g1
 have ⟨Fr_1, lr_1⟩ := R1.gl g1
 have z1 := gu.trans g1
 clear R0 R1 gu g1
 obtain ⟨px, cx, rfl⟩ := hx1.len
 obtain ⟨cp0, cp1, cp2, cp3, cp4, cp5⟩ := Fp_1.t6
 go_wp2_with fail
 clear cp0 cp1 cp2 cp3 cp4 cp5
 have hxa := hx1.gr ((Gr.refl _).alloc #[.slice px (S 0).X.length cx, (S 0).ex, false, .slice none 0 0] 27)
 refine (HPS.out _).mono ?_
 rintro e w2 ⟨vp, rfl, hp2, g2⟩
 have ⟨Fp_2, lp_2⟩ := CellsAt.gl (Fp_1.alloc _) g2
 have ⟨Fr_2, lr_2⟩ := CellsAt.gl (Fr_1.alloc _) g2
 have ⟨Fb_2, lb_2⟩ := CellsAt.gl (CellsAt.new w1 27 #[.slice px (S 0).X.length cx, (S 0).ex, false, .slice none 0 0]) g2
 have Kx_2 := hxa.gr g2
 have z2 := (z1.alloc _ _).trans g2
 clear g2
 obtain ⟨pp, pcap, rfl⟩ := hp2.len
 obtain ⟨cp0, cp1, cp2, cp3, cp4, cp5⟩ := Fp_2.t6
 go_wp2_with fail
 clear cp0 cp1 cp2 cp3 cp4 cp5
 refine (HO.out _).mono ?_
 rintro e w3 ⟨mB, vw, rfl, hm3, hw3, g3⟩
 have ⟨Fp_3, lp_3⟩ := Fp_2.gl g3
 have ⟨Fr_3, lr_3⟩ := Fr_2.gl g3
 have ⟨Fb_3, lb_3⟩ := Fb_2.gl g3
 have Kx_3 := Kx_2.gr g3
 have Kp_3 := hp2.gr g3
 have z3 := z2.trans g3
 clear Fp_2 Fr_2 Fb_2 z2 g3
 obtain ⟨wp, wc, rfl⟩ := hw3.len
 go_wp2_with fail
 obtain ⟨u4, hqp1⟩ : ∃ zz, zz = (w3.alloc (.cells #[fo, lo, ke, sc, mo, iv, .iface sT rV, .map (some mB), .slice wp ws.length wc, bits] 86)) := ⟨_, rfl⟩
 have Yp_p1 : CellsAt u4 (w.heap.size) 24 #[fo, lo, ke, sc, mo, iv] := by rw [hqp1]; first | exact Fp_3.alloc _ | simpa using Fp_3.alloc _
 have Yr_p1 : CellsAt u4 (w.heap.size + 1) 27 #[.slice none 0 0, .int .i64 0, false, .slice none 0 0] := by rw [hqp1]; first | exact Fr_3.alloc _ | simpa using Fr_3.alloc _
 have Yb_p1 : CellsAt u4 (w1.heap.size) 27 #[.slice px (S 0).X.length cx, (S 0).ex, false, .slice none 0 0] := by rw [hqp1]; first | exact Fb_3.alloc _ | simpa using Fb_3.alloc _
 have Yh_p1 : CellsAt u4 (w3.heap.size) 86 #[fo, lo, ke, sc, mo, iv, .iface sT rV, .map (some mB), .slice wp ws.length wc, bits] := by rw [hqp1]; have q_ := CellsAt.new w3 86 #[fo, lo, ke, sc, mo, iv, .iface sT rV, .map (some mB), .slice wp ws.length wc, bits]; first | exact q_ | simpa using q_
 have Vx_p1 := (Kx_3.gr ((Gr.refl w3).alloc #[fo, lo, ke, sc, mo, iv, .iface sT rV, .map (some mB), .slice wp ws.length wc, bits] 86))
 rw [← hqp1] at Vx_p1
 have Vp_p1 := (Kp_3.gr ((Gr.refl w3).alloc #[fo, lo, ke, sc, mo, iv, .iface sT rV, .map (some mB), .slice wp ws.length wc, bits] 86))
 rw [← hqp1] at Vp_p1
 have Vw_p1 := (hw3.gr ((Gr.refl w3).alloc #[fo, lo, ke, sc, mo, iv, .iface sT rV, .map (some mB), .slice wp ws.length wc, bits] 86))
 rw [← hqp1] at Vw_p1
 have VK_p1 := (hm3.gr ((Gr.refl w3).alloc #[fo, lo, ke, sc, mo, iv, .iface sT rV, .map (some mB), .slice wp ws.length wc, bits] 86))
 rw [← hqp1] at VK_p1
 have yp1 : Gr w u4 := by rw [hqp1]; exact z3.alloc _ _
 rw [← hqp1]
 clear hqp1
 have lh4 := Yh_p1.lt
 have lb4 := Yb_p1.lt
 have lr4 := Yr_p1.lt
 have hgK : mB ≠ w1.heap.size := KMap.ne VK_p1 Yb_p1
 have hszz : w3.heap.size < u4.heap.size := lh4
 go_loopw [38] (fun i wr => ∃ (j : Nat) (px ps : Option Addr) (cx cs : Nat), j ≤ L.length ∧ i = .int .i64 j ∧ CellsAt wr w1.heap.size 27 #[.slice px (S j).X.length cx, (S j).ex, (S j).sat, .slice ps (S j).sh.length cs] ∧ CxsAt wr (.slice px (S j).X.length cx) (S j).X ∧ NumsAt wr (.slice ps (S j).sh.length cs) (S j).sh ∧ (∀ b, (Value.slice ps (S j).sh.length cs).ownBlock = some b → b ≠ w1.heap.size ∧ b ≠ w.heap.size + 1) ∧ CellsAt wr (w3.heap.size) 86 #[fo, lo, ke, sc, mo, iv, .iface sT rV, .map (some mB), .slice wp ws.length wc, bits] ∧ CellsAt wr (w.heap.size + 1) 27 #[.slice none 0 0, .int .i64 0, false, .slice none 0 0] ∧ CxsAt wr (.slice pp L.length pcap) L ∧ CxsAt wr (.slice wp ws.length wc) ws ∧ KMap wr mB ∧ u4.heap.size ≤ wr.heap.size ∧ Gr w wr)
  (fun i _ => L.length - (intOf i).toNat)
 case atStart => exact ⟨0, px, none, cx, 0, by omega, rfl, by rw [hS0, hS1]; exact Yb_p1, Vx_p1, by rw [hS0]; exact NumsAt.nil _, (fun b e => by cases e), Yh_p1, Yr_p1, Vp_p1, Vw_p1, VK_p1, Nat.le_refl _, yp1⟩
 case round =>
  clear Yp_p1 Yr_p1 Yb_p1 Yh_p1 Vx_p1 Vp_p1 Vw_p1 VK_p1 yp1;obtain ⟨j, px, ps, cx, cs, hj, rfl, hO, hX, hS, hfr, hH, hRr, hL, hW, hK, hsz, hg⟩ := hrel
  by_cases hlt : j < L.length
  ·obtain ⟨q, hq⟩ := get_of_lt hlt
   have hlI : (j : Int) < (L.length : Int) := by omega
   have hl7 : (L.length : Int) ≤ 7 := by omega
   obtain ⟨b, oo, cap', hsl, hln, hb, hc⟩ := hL.at (by intro e; rw [e] at hlt; simp at hlt)
   cases hsl
   obtain ⟨k1, k2⟩ := hc j q hq;have HNX := kh fun B v vx vs W => HN.out j q hq B v vx vs W
   obtain ⟨re, im⟩ := q
   simp only at k1 k2 HNX
   clear hq hc;have lO := hO.lt;have lH := hH.lt;have lR := hRr.lt;generalize hS1' : S (j + 1) = T at HNX;have HS1 := kh hS1';clear hS1';obtain ⟨X', ex', sat', sh'⟩ := T;generalize hS0' : S j = T at *;have HS0 := kh hS0';clear hS0';obtain ⟨X, ex, sat, sh⟩ := T
   simp only at hO hX hS hfr HNX
   obtain ⟨co0, co1, co2, co3⟩ := hO.t4;obtain ⟨ch0, ch1, ch2, ch3, ch4, ch5, ch6, ch7, ch8, ch9⟩ := hH.t10;go_wp2_with fail;clear co0 co1 co2 co3 ch0 ch1 ch2 ch3 ch4 ch5 ch6 ch7 ch8 ch9
   have ga : Gr wr (wr.alloc (.cells #[re, im] 72)) := (Gr.refl wr).alloc _ _
   refine (HNX.out _ _ _ _ _ (hX.gr ga) (hS.gr ga) (hW.gr ga) (hK.gr ga)).mono ?_;rintro e w5 ⟨vx5, vs5, rfl, hx5, hs5, g5, hf5⟩;obtain ⟨px5, cx5, rfl⟩ := hx5.len;obtain ⟨ps5, cs5, rfl⟩ := hs5.len
   try simp only at hx5 hs5 hf5
   have g6 := ga.trans g5;have O6 := CellsAt.gr hO g6;have H6 := CellsAt.gr hH g6;have R6 := CellsAt.gr hRr g6;have L6 := hL.gr g6;have W6 := hW.gr g6;have K6 := hK.gr g6;have y6 := hg.trans g6;have s6 := g6.size
   have hsa : (wr.alloc (.cells #[re, im] 72)).heap.size = wr.heap.size + 1 := by simp
   obtain ⟨mo0, mo1, mo2, mo3⟩ := O6.f4;obtain ⟨co0, co1, co2, co3⟩ := O6.t4;have lO6 := O6.lt;clear hO hH hRr hL hX hS hW hK hg g5 ga k1 k2;go_wp2_with fail;have apx := CxsAt.apart hx5 O6;have apl := CxsAt.apart L6 O6;have apw := CxsAt.apart W6 O6;have X7 := ((((hx5.set apx 0 (.slice px5 X'.length cx5)).set apx 1 (.int .i64 ex')).set apx 2 (.bool sat')).set apx 3 (.slice ps5 sh'.length cs5));have L7 := ((((L6.set apl 0 (.slice px5 X'.length cx5)).set apl 1 (.int .i64 ex')).set apl 2 (.bool sat')).set apl 3 (.slice ps5 sh'.length cs5));have W7 := ((((W6.set apw 0 (.slice px5 X'.length cx5)).set apw 1 (.int .i64 ex')).set apw 2 (.bool sat')).set apw 3 (.slice ps5 sh'.length cs5));have K7 := ((((K6.set hgK 0 (.slice px5 X'.length cx5)).set hgK 1 (.int .i64 ex')).set hgK 2 (.bool sat')).set hgK 3 (.slice ps5 sh'.length cs5));have S7 := ((((hs5.set (B := w1.heap.size) (fun e => by have := hf5 _ e; omega) 0 (.slice px5 X'.length cx5)).set (B := w1.heap.size) (fun e => by have := hf5 _ e; omega) 1 (.int .i64 ex')).set (B := w1.heap.size) (fun e => by have := hf5 _ e; omega) 2 (.bool sat')).set (B := w1.heap.size) (fun e => by have := hf5 _ e; omega) 3 (.slice ps5 sh'.length cs5))
   have O7 : CellsAt _ w1.heap.size 27 #[.slice px5 X'.length cx5, ex', sat', .slice ps5 sh'.length cs5] := ((((O6.set 0 (.slice px5 X'.length cx5)).set 1 (.int .i64 ex')).set 2 (.bool sat')).set 3 (.slice ps5 sh'.length cs5))
   go_roundw
   case rel =>
    refine ⟨j + 1, px5, ps5, cx5, cs5, by omega, by go_num, ?_, ?_, ?_, ?_, ?_, ?_, ?_, ?_, ?_, ?_, ?_⟩
    all_goals (try rw [HS1.out])
    ·exact O7
    ·exact X7
    ·exact S7
    ·exact fun b e => by have := hf5 _ e; exact ⟨by omega, by omega⟩
    ·exact ((((H6.ot).ot).ot).ot)
    ·exact ((((R6.ot).ot).ot).ot)
    ·exact L7
    ·exact W7
    ·exact K7
    ·simp; omega
    ·exact (((y6.sc _).sc _).sc _).sc _
   case measure => simp [intOf]; omega
  ·obtain rfl : j = L.length := by omega
   have hlI : ¬ (L.length : Int) < (L.length : Int) := by omega
   have lO := hO.lt;have lR := hRr.lt;obtain ⟨mr0, mr1, mr2, mr3⟩ := hRr.f4;obtain ⟨co0, co1, co2, co3⟩ := hO.t4;obtain ⟨cr0, cr1, cr2, cr3⟩ := hRr.t4;have apx := CxsAt.apart hX hRr;go_wp2_with fail;have X7 := (((hX.set apx 0 (.slice px (S L.length).X.length cx)).set apx 1 (.int .i64 (S L.length).ex)).set apx 2 (.bool (S L.length).sat)).set apx 3 (.slice ps (S L.length).sh.length cs);have S7 := (((hS.set (B := w.heap.size + 1) (fun e => (hfr _ e).2 rfl) 0 (.slice px (S L.length).X.length cx)).set (B := w.heap.size + 1) (fun e => (hfr _ e).2 rfl) 1 (.int .i64 (S L.length).ex)).set (B := w.heap.size + 1) (fun e => (hfr _ e).2 rfl) 2 (.bool (S L.length).sat)).set (B := w.heap.size + 1) (fun e => (hfr _ e).2 rfl) 3 (.slice ps (S L.length).sh.length cs)
   obtain ⟨uf, hqf⟩ : ∃ zz, zz = ((((wr.setCell ⟨w.heap.size + 1, 0, none⟩ (.slice px (S L.length).X.length cx)).setCell ⟨w.heap.size + 1, 1, none⟩ (.int .i64 (S L.length).ex)).setCell ⟨w.heap.size + 1, 2, none⟩ (.bool (S L.length).sat)).setCell ⟨w.heap.size + 1, 3, none⟩ (.slice ps (S L.length).sh.length cs)) := ⟨_, rfl⟩
   rw [← hqf] at X7 S7
   have Yr : CellsAt uf (w.heap.size + 1) 27 #[.slice px (S L.length).X.length cx, (S L.length).ex, (S L.length).sat, .slice ps (S L.length).sh.length cs] := by rw [hqf]; exact ((((hRr.set 0 (.slice px (S L.length).X.length cx)).set 1 (.int .i64 (S L.length).ex)).set 2 (.bool (S L.length).sat)).set 3 (.slice ps (S L.length).sh.length cs))
   have yz : Gr w uf := by rw [hqf]; exact (((hg.sc _).sc _).sc _).sc _
   rw [← hqf];clear hqf;obtain ⟨cs0, cs1, cs2, cs3⟩ := Yr.t4;refine bodyPost_ret (v := .tuple #[.agg #[.slice px (S L.length).X.length cx, (S L.length).ex, (S L.length).sat, .slice ps (S L.length).sh.length cs], .int .i64 0]) ?_ rfl ⟨_, _, rfl, X7, S7, yz⟩
   simp [results, Tryz.results25, go_sem, *]
theorem one_shl {lo n : Int} (h : (lo = 2 ∧ n = 4) ∨ (lo = 3 ∧ n = 8) ∨ (lo = 4 ∧ n = 16) ∨ (lo = 5 ∧ n = 32) ∨ (lo = 6 ∧ n = 64)) (W : World) : (Op.shift .shl .i64 1 .i64 lo).run Tryz.prog W = .ok (.int .i64 n) W := by
 rcases h with ⟨rfl, rfl⟩ | ⟨rfl, rfl⟩ | ⟨rfl, rfl⟩ | ⟨rfl, rfl⟩ | ⟨rfl, rfl⟩ <;> kernel_rfl
theorem ftNum_plan (v : Value) (fo lo ke sc mo : Int) (iv : Bool) (HC : CR 71 #[.agg #[fo, lo, ke, sc, mo, iv]] (.int .i64 4)) (w : World) :
 CW 104 #[v, .agg #[fo, lo, ke, sc, mo, iv]] w (.int .i64 4) :=by
 delta CW
 go_in
 go_wp2_with fail
 refine lc1 fun u0 gu R0 => ?_
 have lp := R0.lt
 refine (HC.out _).mono ?_
 rintro e w1 ⟨rfl, g1⟩
 have ⟨Fp_1, lp_1⟩ := R0.gl g1
 have z1 := gu.trans g1
 clear R0 gu g1
 go_wp2_with fail
 go_ret
 exact ⟨rfl, z1⟩
theorem ftNum_size (p : Option Addr) (l cap : Nat) (fo lo ke sc mo n : Int) (iv : Bool) (hlo : (lo = 2 ∧ n = 4) ∨ (lo = 3 ∧ n = 8) ∨ (lo = 4 ∧ n = 16) ∨ (lo = 5 ∧ n = 32) ∨ (lo = 6 ∧ n = 64)) (hn : ¬ (l : Int) = n) (HC : CR 71 #[.agg #[fo, lo, ke, sc, mo, iv]] (.int .i64 0)) (w : World) :
 CW 104 #[.slice p l cap, .agg #[fo, lo, ke, sc, mo, iv]] w (.int .i64 3) :=by
 delta CW
 have hb : ((l : Int) == n) = false := by simp [hn]
 have hsh := one_shl hlo
 clear hlo
 go_in
 go_wp2_with fail
 refine lc1 fun u0 gu R0 => ?_
 have lp := R0.lt
 refine (HC.out _).mono ?_
 rintro e w1 ⟨rfl, g1⟩
 have ⟨Fp_1, lp_1⟩ := R0.gl g1
 have z1 := gu.trans g1
 clear R0 gu g1
 obtain ⟨cp0, cp1, cp2, cp3, cp4, cp5⟩ := Fp_1.t6
 go_wp2_with fail
 clear cp0 cp1 cp2 cp3 cp4 cp5
 go_ret
 exact ⟨rfl, z1⟩
theorem ftNum_parts (p : Option Addr) (l cap : Nat) (xs : List Gi) (fo lo ke sc mo n q : Int) (iv r : Bool) (hlo : (lo = 2 ∧ n = 4) ∨ (lo = 3 ∧ n = 8) ∨ (lo = 4 ∧ n = 16) ∨ (lo = 5 ∧ n = 32) ∨ (lo = 6 ∧ n = 64)) (hn : (l : Int) = n) (q0 : 0 ≤ q) (q1 : q ≤ 2147483648) (HC : CR 71 #[.agg #[fo, lo, ke, sc, mo, iv]] (.int .i64 0)) (HO : CR 146 #[.agg #[fo, lo, ke, sc, mo, iv]] (.int .i64 q))
 (HW : Hid (∀ W, CxsAt W (.slice p l cap) xs → Calls Tryz.prog 147 #[.int .i64 (-q), .int .i64 (q - 1), .slice p l cap] W fun e w' => e = .returned (.bool r) ∧ Gr W w')) (w : World) (hv : CxsAt w (.slice p l cap) xs) :
 CW 104 #[.slice p l cap, .agg #[fo, lo, ke, sc, mo, iv]] w (.int .i64 (if r = true then 0 else 2)) :=by
 delta CW
 have hb : ((l : Int) == n) = true := by simp [hn]
 have hsh := one_shl hlo
 clear hlo
 go_in
 go_wp2_with fail
 refine lc1 fun u0 gu R0 => ?_
 have lp := R0.lt
 refine (HC.out _).mono ?_
 rintro e w1 ⟨rfl, g1⟩
 have ⟨Fp_1, lp_1⟩ := R0.gl g1
 have z1 := gu.trans g1
 clear R0 gu g1
 obtain ⟨cp0, cp1, cp2, cp3, cp4, cp5⟩ := Fp_1.t6
 go_wp2_with fail
 clear cp0 cp1 cp2 cp3 cp4 cp5
 refine (HO.out _).mono ?_
 rintro e w2 ⟨rfl, g2⟩
 have ⟨Fp_2, lp_2⟩ := Fp_1.gl g2
 have z2 := z1.trans g2
 clear Fp_1 z1 g2
 go_wp2_with fail
 refine (HW.out _ (hv.gr z2)).mono ?_
 rintro e w3 ⟨rfl, g3⟩
 have ⟨Fp_3, lp_3⟩ := Fp_2.gl g3
 have z3 := z2.trans g3
 clear Fp_2 z2 g3
 cases r
 all_goals
  go_wp2_with fail
  go_ret
  exact ⟨rfl, z3⟩
theorem ftSplit_c (vx vs : Value) (xs ys : List Gi) (fo lo ke sc mo ex ex2 : Int) (iv sa : Bool) (he : wrap64 (ex + lo) = ex2)
 (HR : Hid (∀ W, CxsAt W vx xs → Calls Tryz.prog 111 #[vx, fo, mo, iv] W fun e w' => ∃ v, e = .returned (.tuple #[v, .int .i64 0]) ∧ CxsAt w' v ys ∧ Gr W w')) (w : World) (hv : CxsAt w vx xs) :
 Calls Tryz.prog 63 #[.agg #[vx, ex, sa, vs], .agg #[fo, lo, ke, sc, mo, iv]] w fun e w' => ∃ u, e = .returned (.agg #[u, ex2, false, .slice none 0 0]) ∧ CxsAt w' u ys ∧ Gr w w' := by
 go_in
 go_wp2_with fail
 refine lc3 fun u0 gu R0 R1 R2 => ?_
 have lb := R0.lt
 have lp := R1.lt
 have lr := R2.lt
 obtain ⟨cb0, cb1, cb2, cb3⟩ := R0.t4
 obtain ⟨cp0, cp1, cp2, cp3, cp4, cp5⟩ := R1.t6
 go_wp2_with fail
 clear cb0 cb1 cb2 cb3 cp0 cp1 cp2 cp3 cp4 cp5
 refine (HR.out _ (hv.gr gu)).mono ?_
 rintro e w1 ⟨vy, rfl, hy, g1⟩
 have ⟨Fb_1, lb_1⟩ := R0.gl g1
 have ⟨Fp_1, lp_1⟩ := R1.gl g1
 have ⟨Fr_1, lr_1⟩ := R2.gl g1
 have z1 := gu.trans g1
 clear R0 R1 R2 gu g1
 obtain ⟨yp, yc, rfl⟩ := hy.len
 obtain ⟨cb0, cb1, cb2, cb3⟩ := Fb_1.t4
 obtain ⟨cp0, cp1, cp2, cp3, cp4, cp5⟩ := Fp_1.t6
 obtain ⟨mr0, mr1, mr2, mr3⟩ := Fr_1.f4
 obtain ⟨cr0, cr1, cr2, cr3⟩ := Fr_1.t4
 go_wp2_with fail
 clear cb0 cb1 cb2 cb3 cp0 cp1 cp2 cp3 cp4 cp5 mr0 cr0 mr1 cr1 mr2 cr2 mr3 cr3
 have ap := CxsAt.apart hy Fr_1
 have cxe := (((hy.set ap 0 (.slice yp ys.length yc)).set ap 1 (.int .i64 ex2)).set ap 2 (.bool false)).set ap 3 (.slice none 0 0)
 obtain ⟨uf, hqf⟩ : ∃ zz, zz = ((((w1.setCell ⟨w.heap.size + 1 + 1, 0, none⟩ (.slice yp ys.length yc)).setCell ⟨w.heap.size + 1 + 1, 1, none⟩ (.int .i64 ex2)).setCell ⟨w.heap.size + 1 + 1, 2, none⟩ (.bool false)).setCell ⟨w.heap.size + 1 + 1, 3, none⟩ (.slice none 0 0)) := ⟨_, rfl⟩
 rw [← hqf] at cxe
 have Yr : CellsAt uf (w.heap.size + 1 + 1) 27 #[.slice yp ys.length yc, ex2, false, .slice none 0 0] := by rw [hqf]; have q_ := CellsAt.set (CellsAt.set (CellsAt.set (CellsAt.set (Fr_1) 0 (.slice yp ys.length yc)) 1 (.int .i64 ex2)) 2 (.bool false)) 3 (.slice none 0 0); first | exact q_ | simpa using q_
 have yz : Gr w uf := by rw [hqf]; exact (((z1.sc _).sc _).sc _).sc _
 rw [← hqf]
 clear hqf
 obtain ⟨cr0, cr1, cr2, cr3⟩ := Yr.t4
 refine bodyPost_ret (v := .agg #[.slice yp ys.length yc, ex2, false, .slice none 0 0]) ?_ rfl ⟨_, rfl, cxe, yz⟩
 simp [results, Tryz.results63, go_sem, *]
end
end Go.Proofs.YtdignnmpfkgkoaaGreat
