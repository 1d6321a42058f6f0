import Derived.Test.YtablflakcaimmaaGreatFftPassesS24
namespace Go.Proofs.YtablflakcaimmaaGreat
section
open Go.ChangeShapes Go.WideShapes Go.ChangeAt Go.RowKit
set_option linter.unusedVariables false
set_option linter.unusedSimpArgs false
set_option maxRecDepth 100000
set_option maxHeartbeats 2000000 in
theorem ftReady_no (v : Value) (xs : List Gi) (fo lo ke sc mo y : Int) (iv : Bool) (hy : ¬ y = 0) (hb : (y == 0) = false) (HN : Hid (∀ W, CxsAt W v xs → Calls Tryz.prog 37 #[v, .agg #[.int .i64 fo, .int .i64 lo, .int .i64 ke, .int .i64 sc, .int .i64 mo, .bool iv]] W fun e w' => e = .returned (.int .i64 y) ∧ Gr W w')) (w : World) (hv : CxsAt w v xs) :
 Calls Tryz.prog 14 #[v, .agg #[.int .i64 fo, .int .i64 lo, .int .i64 ke, .int .i64 sc, .int .i64 mo, .bool iv]] w fun e w' => e = .returned (.tuple #[.agg #[.slice none 0 0, .int .i64 0, .bool false, .slice none 0 0], .int .i64 y]) ∧ Gr w w' := by
 go_enter Tryz.func14, Tryz.ntmps14
 go_wp2_with fail
 obtain ⟨u0, hU⟩ : ∃ uu, uu = ((w.alloc (.cells #[.int .i64 fo, .int .i64 lo, .int .i64 ke, .int .i64 sc, .int .i64 mo, .bool iv] 24)).alloc (.cells #[.slice none 0 0, .int .i64 0, .bool false, .slice none 0 0] 27)) := ⟨_, rfl⟩
 have ⟨gu, R0, R1⟩ := lay2 hU
 rw [← hU]
 clear hU
 have lp := R0.lt
 have lr := R1.lt
 obtain ⟨cp0, cp1, cp2, cp3, cp4, cp5⟩ := R0.t6
 go_wp2_with fail
 clear cp0 cp1 cp2 cp3 cp4 cp5
 refine (HN.out _ (hv.gr gu)).mono ?_
 rintro e w1 ⟨rfl, g1⟩
 have ⟨Fp_1, lp_1⟩ := CellsAt.gl (R0) g1
 have ⟨Fr_1, lr_1⟩ := CellsAt.gl (R1) g1
 have z1 := (gu).trans g1
 clear R0 R1 gu g1
 have mr0 := CellsAt.frozen (Fr_1) 0
 have cr0 := Fr_1.at 0
 have mr1 := CellsAt.frozen (Fr_1) 1
 have cr1 := Fr_1.at 1
 have mr2 := CellsAt.frozen (Fr_1) 2
 have cr2 := Fr_1.at 2
 have mr3 := CellsAt.frozen (Fr_1) 3
 have cr3 := Fr_1.at 3
 go_wp2_with fail
 clear mr0 cr0 mr1 cr1 mr2 cr2 mr3 cr3
 obtain ⟨uf, hqf⟩ : ∃ zz, zz = ((((w1.setCell ⟨w.heap.size + 1, 0, none⟩ (.slice none 0 0)).setCell ⟨w.heap.size + 1, 1, none⟩ (.int .i64 0)).setCell ⟨w.heap.size + 1, 2, none⟩ (.bool false)).setCell ⟨w.heap.size + 1, 3, none⟩ (.slice none 0 0)) := ⟨_, rfl⟩
 have Yr : CellsAt uf (w.heap.size + 1) 27 #[.slice none 0 0, .int .i64 0, .bool false, .slice none 0 0] := by rw [hqf]; first | exact CellsAt.set (CellsAt.set (CellsAt.set (CellsAt.set (Fr_1) 0 (.slice none 0 0)) 1 (.int .i64 0)) 2 (.bool false)) 3 (.slice none 0 0) | simpa using CellsAt.set (CellsAt.set (CellsAt.set (CellsAt.set (Fr_1) 0 (.slice none 0 0)) 1 (.int .i64 0)) 2 (.bool false)) 3 (.slice none 0 0)
 have yz : Gr w uf := by rw [hqf]; exact ((((z1).setCell (by first | omega | (simp only; omega)) _).setCell (by first | omega | (simp only; omega)) _).setCell (by first | omega | (simp only; omega)) _).setCell (by first | omega | (simp only; omega)) _
 rw [← hqf]
 clear hqf
 have cr0 := CellsAt.cell Yr 0
 have cr1 := CellsAt.cell Yr 1
 have cr2 := CellsAt.cell Yr 2
 have cr3 := CellsAt.cell Yr 3
 simp only [getS] at cr0 cr1 cr2 cr3
 refine bodyPost_ret (v := .tuple #[.agg #[.slice none 0 0, .int .i64 0, .bool false, .slice none 0 0], .int .i64 y]) ?_ rfl ⟨rfl, yz⟩
 simp [results, Tryz.results14, go_sem, *]
set_option maxHeartbeats 2000000 in
theorem ftReady_row (v : Value) (xs fs ys : List Gi) (fo lo ke sc mo s : Int) (iv : Bool) (sT : TypeId) (rV : Value) (F1 : FuncId) (e1 : Enters F1) (m1 : ∀ n W, (method (n + 1) sT rV "headroom/fft.ahead").run Tryz.prog W = .ok (F1, rV) W) (hke : ¬ ke = 2) (hkb : (ke == 2) = false)
 (HN : Hid (∀ W, CxsAt W v xs → Calls Tryz.prog 37 #[v, .agg #[.int .i64 fo, .int .i64 lo, .int .i64 ke, .int .i64 sc, .int .i64 mo, .bool iv]] W fun e w' => e = .returned (.int .i64 0) ∧ Gr W w')) (HS : CR 38 #[.agg #[.int .i64 fo, .int .i64 lo, .int .i64 ke, .int .i64 sc, .int .i64 mo, .bool iv]] (.iface sT rV))
 (HA : Hid (∀ W, CxsAt W v xs → Calls Tryz.prog F1 #[rV, v] W fun e w' => e = .returned (.int .i64 s) ∧ Gr W w'))
 (HF : Hid (∀ W, CxsAt W v xs → Calls Tryz.prog 39 #[v] W fun e w' => ∃ u, e = .returned (.tuple #[u, .int .i64 0]) ∧ CxsAt w' u fs ∧ Gr W w'))
 (HSH : Hid (∀ u W, CxsAt W u fs → Calls Tryz.prog 25 #[u, .int .i64 s, .int .i64 mo] W fun e w' => ∃ u, e = .returned (.tuple #[u, .int .i64 0]) ∧ CxsAt w' u ys ∧ Gr W w')) (w : World) (hv : CxsAt w v xs) :
 Calls Tryz.prog 14 #[v, .agg #[.int .i64 fo, .int .i64 lo, .int .i64 ke, .int .i64 sc, .int .i64 mo, .bool iv]] w fun e w' => ∃ u, e = .returned (.tuple #[.agg #[u, .int .i64 s, .bool false, .slice none 0 0], .int .i64 0]) ∧ CxsAt w' u ys ∧ Gr w w' := by
 unfold Enters at e1
 go_enter Tryz.func14, Tryz.ntmps14
 go_wp2_with fail
 obtain ⟨u0, hU⟩ : ∃ uu, uu = ((w.alloc (.cells #[.int .i64 fo, .int .i64 lo, .int .i64 ke, .int .i64 sc, .int .i64 mo, .bool iv] 24)).alloc (.cells #[.slice none 0 0, .int .i64 0, .bool false, .slice none 0 0] 27)) := ⟨_, rfl⟩
 have ⟨gu, R0, R1⟩ := lay2 hU
 rw [← hU]
 clear hU
 have lp := R0.lt
 have lr := R1.lt
 obtain ⟨cp0, cp1, cp2, cp3, cp4, cp5⟩ := R0.t6
 go_wp2_with fail
 clear cp0 cp1 cp2 cp3 cp4 cp5
 refine (HN.out _ (hv.gr gu)).mono ?_
 rintro e w1 ⟨rfl, g1⟩
 have ⟨Fp_1, lp_1⟩ := CellsAt.gl (R0) g1
 have ⟨Fr_1, lr_1⟩ := CellsAt.gl (R1) g1
 have z1 := (gu).trans g1
 clear R0 R1 gu g1
 obtain ⟨cp0, cp1, cp2, cp3, cp4, cp5⟩ := Fp_1.t6
 go_wp2_with fail
 clear cp0 cp1 cp2 cp3 cp4 cp5
 refine (HS.out _).mono ?_
 rintro e w2 ⟨rfl, g2⟩
 have ⟨Fp_2, lp_2⟩ := CellsAt.gl (Fp_1) g2
 have ⟨Fr_2, lr_2⟩ := CellsAt.gl (Fr_1) g2
 have z2 := (z1).trans g2
 clear Fp_1 Fr_1 z1 g2
 obtain ⟨cp0, cp1, cp2, cp3, cp4, cp5⟩ := Fp_2.t6
 go_wp2_with fail
 clear cp0 cp1 cp2 cp3 cp4 cp5
 refine (HA.out _ (hv.gr z2)).mono ?_
 rintro e w3 ⟨rfl, g3⟩
 have ⟨Fp_3, lp_3⟩ := CellsAt.gl (Fp_2) g3
 have ⟨Fr_3, lr_3⟩ := CellsAt.gl (Fr_2) g3
 have z3 := (z2).trans g3
 clear Fp_2 Fr_2 z2 g3
 obtain ⟨cp0, cp1, cp2, cp3, cp4, cp5⟩ := Fp_3.t6
 go_wp2_with fail
 clear cp0 cp1 cp2 cp3 cp4 cp5
 refine (HF.out _ (hv.gr z3)).mono ?_
 rintro e w4 ⟨vf, rfl, hf, g4⟩
 have ⟨Fp_4, lp_4⟩ := CellsAt.gl (Fp_3) g4
 have ⟨Fr_4, lr_4⟩ := CellsAt.gl (Fr_3) g4
 have z4 := (z3).trans g4
 clear Fp_3 Fr_3 z3 g4
 obtain ⟨cp0, cp1, cp2, cp3, cp4, cp5⟩ := Fp_4.t6
 go_wp2_with fail
 clear cp0 cp1 cp2 cp3 cp4 cp5
 refine (HSH.out _ _ hf).mono ?_
 rintro e w5 ⟨vy, rfl, hy, g5⟩
 have ⟨Fp_5, lp_5⟩ := CellsAt.gl (Fp_4) g5
 have ⟨Fr_5, lr_5⟩ := CellsAt.gl (Fr_4) g5
 have Kf_5 := CxsAt.gr (hf) g5
 have z5 := (z4).trans g5
 clear Fp_4 Fr_4 z4 g5
 obtain ⟨yp, yc, rfl⟩ := hy.len
 have mr0 := CellsAt.frozen (Fr_5) 0
 have cr0 := Fr_5.at 0
 have mr1 := CellsAt.frozen (Fr_5) 1
 have cr1 := Fr_5.at 1
 have mr2 := CellsAt.frozen (Fr_5) 2
 have cr2 := Fr_5.at 2
 have mr3 := CellsAt.frozen (Fr_5) 3
 have cr3 := Fr_5.at 3
 go_wp2_with fail
 clear mr0 cr0 mr1 cr1 mr2 cr2 mr3 cr3
 have ap := CxsAt.apart hy Fr_5
 have cxe := (((hy.set ap 0 (.slice yp ys.length yc)).set ap 1 (.int .i64 s)).set ap 2 (.bool false)).set ap 3 (.slice none 0 0)
 obtain ⟨uf, hqf⟩ : ∃ zz, zz = ((((w5.setCell ⟨w.heap.size + 1, 0, none⟩ (.slice yp ys.length yc)).setCell ⟨w.heap.size + 1, 1, none⟩ (.int .i64 s)).setCell ⟨w.heap.size + 1, 2, none⟩ (.bool false)).setCell ⟨w.heap.size + 1, 3, none⟩ (.slice none 0 0)) := ⟨_, rfl⟩
 rw [← hqf] at cxe
 have Yr : CellsAt uf (w.heap.size + 1) 27 #[.slice yp ys.length yc, .int .i64 s, .bool false, .slice none 0 0] := by rw [hqf]; first | exact CellsAt.set (CellsAt.set (CellsAt.set (CellsAt.set (Fr_5) 0 (.slice yp ys.length yc)) 1 (.int .i64 s)) 2 (.bool false)) 3 (.slice none 0 0) | simpa using CellsAt.set (CellsAt.set (CellsAt.set (CellsAt.set (Fr_5) 0 (.slice yp ys.length yc)) 1 (.int .i64 s)) 2 (.bool false)) 3 (.slice none 0 0)
 have yz : Gr w uf := by rw [hqf]; exact ((((z5).setCell (by first | omega | (simp only; omega)) _).setCell (by first | omega | (simp only; omega)) _).setCell (by first | omega | (simp only; omega)) _).setCell (by first | omega | (simp only; omega)) _
 rw [← hqf]
 clear hqf
 have cr0 := CellsAt.cell Yr 0
 have cr1 := CellsAt.cell Yr 1
 have cr2 := CellsAt.cell Yr 2
 have cr3 := CellsAt.cell Yr 3
 simp only [getS] at cr0 cr1 cr2 cr3
 refine bodyPost_ret (v := .tuple #[.agg #[.slice yp ys.length yc, .int .i64 s, .bool false, .slice none 0 0], .int .i64 0]) ?_ rfl ⟨_, rfl, cxe, yz⟩
 simp [results, Tryz.results14, go_sem, *]
set_option maxHeartbeats 2000000 in
theorem ftReady_split (v : Value) (xs ys : List Gi) (fo lo sc mo s : Int) (iv : Bool) (sT : TypeId) (rV : Value) (F1 : FuncId) (e1 : Enters F1) (m1 : ∀ n W, (method (n + 1) sT rV "headroom/fft.ahead").run Tryz.prog W = .ok (F1, rV) W)
 (HN : Hid (∀ W, CxsAt W v xs → Calls Tryz.prog 37 #[v, .agg #[.int .i64 fo, .int .i64 lo, .int .i64 2, .int .i64 sc, .int .i64 mo, .bool iv]] W fun e w' => e = .returned (.int .i64 0) ∧ Gr W w')) (HS : CR 38 #[.agg #[.int .i64 fo, .int .i64 lo, .int .i64 2, .int .i64 sc, .int .i64 mo, .bool iv]] (.iface sT rV))
 (HA : Hid (∀ W, CxsAt W v xs → Calls Tryz.prog F1 #[rV, v] W fun e w' => e = .returned (.int .i64 s) ∧ Gr W w'))
 (HSH : Hid (∀ u W, CxsAt W u xs → Calls Tryz.prog 25 #[u, .int .i64 s, .int .i64 mo] W fun e w' => ∃ u, e = .returned (.tuple #[u, .int .i64 0]) ∧ CxsAt w' u ys ∧ Gr W w')) (w : World) (hv : CxsAt w v xs) :
 Calls Tryz.prog 14 #[v, .agg #[.int .i64 fo, .int .i64 lo, .int .i64 2, .int .i64 sc, .int .i64 mo, .bool iv]] w fun e w' => ∃ u, e = .returned (.tuple #[.agg #[u, .int .i64 s, .bool false, .slice none 0 0], .int .i64 0]) ∧ CxsAt w' u ys ∧ Gr w w' := by
 unfold Enters at e1
 go_enter Tryz.func14, Tryz.ntmps14
 go_wp2_with fail
 obtain ⟨u0, hU⟩ : ∃ uu, uu = ((w.alloc (.cells #[.int .i64 fo, .int .i64 lo, .int .i64 2, .int .i64 sc, .int .i64 mo, .bool iv] 24)).alloc (.cells #[.slice none 0 0, .int .i64 0, .bool false, .slice none 0 0] 27)) := ⟨_, rfl⟩
 have ⟨gu, R0, R1⟩ := lay2 hU
 rw [← hU]
 clear hU
 have lp := R0.lt
 have lr := R1.lt
 obtain ⟨cp0, cp1, cp2, cp3, cp4, cp5⟩ := R0.t6
 go_wp2_with fail
 clear cp0 cp1 cp2 cp3 cp4 cp5
 refine (HN.out _ (hv.gr gu)).mono ?_
 rintro e w1 ⟨rfl, g1⟩
 have ⟨Fp_1, lp_1⟩ := CellsAt.gl (R0) g1
 have ⟨Fr_1, lr_1⟩ := CellsAt.gl (R1) g1
 have z1 := (gu).trans g1
 clear R0 R1 gu g1
 obtain ⟨cp0, cp1, cp2, cp3, cp4, cp5⟩ := Fp_1.t6
 go_wp2_with fail
 clear cp0 cp1 cp2 cp3 cp4 cp5
 refine (HS.out _).mono ?_
 rintro e w2 ⟨rfl, g2⟩
 have ⟨Fp_2, lp_2⟩ := CellsAt.gl (Fp_1) g2
 have ⟨Fr_2, lr_2⟩ := CellsAt.gl (Fr_1) g2
 have z2 := (z1).trans g2
 clear Fp_1 Fr_1 z1 g2
 obtain ⟨cp0, cp1, cp2, cp3, cp4, cp5⟩ := Fp_2.t6
 go_wp2_with fail
 clear cp0 cp1 cp2 cp3 cp4 cp5
 refine (HA.out _ (hv.gr z2)).mono ?_
 rintro e w3 ⟨rfl, g3⟩
 have ⟨Fp_3, lp_3⟩ := CellsAt.gl (Fp_2) g3
 have ⟨Fr_3, lr_3⟩ := CellsAt.gl (Fr_2) g3
 have z3 := (z2).trans g3
 clear Fp_2 Fr_2 z2 g3
 obtain ⟨cp0, cp1, cp2, cp3, cp4, cp5⟩ := Fp_3.t6
 go_wp2_with fail
 clear cp0 cp1 cp2 cp3 cp4 cp5
 refine (HSH.out _ _ (hv.gr z3)).mono ?_
 rintro e w4 ⟨vy, rfl, hy, g4⟩
 have ⟨Fp_4, lp_4⟩ := CellsAt.gl (Fp_3) g4
 have ⟨Fr_4, lr_4⟩ := CellsAt.gl (Fr_3) g4
 have z4 := (z3).trans g4
 clear Fp_3 Fr_3 z3 g4
 obtain ⟨yp, yc, rfl⟩ := hy.len
 have mr0 := CellsAt.frozen (Fr_4) 0
 have cr0 := Fr_4.at 0
 have mr1 := CellsAt.frozen (Fr_4) 1
 have cr1 := Fr_4.at 1
 have mr2 := CellsAt.frozen (Fr_4) 2
 have cr2 := Fr_4.at 2
 have mr3 := CellsAt.frozen (Fr_4) 3
 have cr3 := Fr_4.at 3
 go_wp2_with fail
 clear mr0 cr0 mr1 cr1 mr2 cr2 mr3 cr3
 have ap := CxsAt.apart hy Fr_4
 have cxe := (((hy.set ap 0 (.slice yp ys.length yc)).set ap 1 (.int .i64 s)).set ap 2 (.bool false)).set ap 3 (.slice none 0 0)
 obtain ⟨uf, hqf⟩ : ∃ zz, zz = ((((w4.setCell ⟨w.heap.size + 1, 0, none⟩ (.slice yp ys.length yc)).setCell ⟨w.heap.size + 1, 1, none⟩ (.int .i64 s)).setCell ⟨w.heap.size + 1, 2, none⟩ (.bool false)).setCell ⟨w.heap.size + 1, 3, none⟩ (.slice none 0 0)) := ⟨_, rfl⟩
 rw [← hqf] at cxe
 have Yr : CellsAt uf (w.heap.size + 1) 27 #[.slice yp ys.length yc, .int .i64 s, .bool false, .slice none 0 0] := by rw [hqf]; first | exact CellsAt.set (CellsAt.set (CellsAt.set (CellsAt.set (Fr_4) 0 (.slice yp ys.length yc)) 1 (.int .i64 s)) 2 (.bool false)) 3 (.slice none 0 0) | simpa using CellsAt.set (CellsAt.set (CellsAt.set (CellsAt.set (Fr_4) 0 (.slice yp ys.length yc)) 1 (.int .i64 s)) 2 (.bool false)) 3 (.slice none 0 0)
 have yz : Gr w uf := by rw [hqf]; exact ((((z4).setCell (by first | omega | (simp only; omega)) _).setCell (by first | omega | (simp only; omega)) _).setCell (by first | omega | (simp only; omega)) _).setCell (by first | omega | (simp only; omega)) _
 rw [← hqf]
 clear hqf
 have cr0 := CellsAt.cell Yr 0
 have cr1 := CellsAt.cell Yr 1
 have cr2 := CellsAt.cell Yr 2
 have cr3 := CellsAt.cell Yr 3
 simp only [getS] at cr0 cr1 cr2 cr3
 refine bodyPost_ret (v := .tuple #[.agg #[.slice yp ys.length yc, .int .i64 s, .bool false, .slice none 0 0], .int .i64 0]) ?_ rfl ⟨_, rfl, cxe, yz⟩
 simp [results, Tryz.results14, go_sem, *]
set_option maxHeartbeats 2000000 in
theorem ftNext_plan (bp sp : Option Addr) (bc sl : Nat) (xs : List Gi) (ls : List Int) (fo lo ke sc mo ex pass : Int) (iv sa : Bool) (HP : CR 20 #[.agg #[.int .i64 fo, .int .i64 lo, .int .i64 ke, .int .i64 sc, .int .i64 mo, .bool iv]] (.tuple #[.slice none 0 0, .int .i64 4])) (w : World) :
 Calls Tryz.prog 16 #[.agg #[.slice bp xs.length bc, .int .i64 ex, .bool sa, .slice sp ls.length sl], .agg #[.int .i64 fo, .int .i64 lo, .int .i64 ke, .int .i64 sc, .int .i64 mo, .bool iv], .int .i64 pass] w fun e w' => e = .returned (.tuple #[.agg #[.slice none 0 0, .int .i64 0, .bool false, .slice none 0 0], .int .i64 4]) ∧ Gr w w' := by
 go_enter Tryz.func16, Tryz.ntmps16
 go_wp2_with fail
 obtain ⟨u0, hU⟩ : ∃ uu, uu = (((w.alloc (.cells #[.slice bp xs.length bc, .int .i64 ex, .bool sa, .slice sp ls.length sl] 27)).alloc (.cells #[.int .i64 fo, .int .i64 lo, .int .i64 ke, .int .i64 sc, .int .i64 mo, .bool iv] 24)).alloc (.cells #[.slice none 0 0, .int .i64 0, .bool false, .slice none 0 0] 27)) := ⟨_, rfl⟩
 have ⟨gu, R0, R1, R2⟩ := lay3 hU
 rw [← hU]
 clear hU
 have lb := R0.lt
 have lp := R1.lt
 have lr := R2.lt
 obtain ⟨cp0, cp1, cp2, cp3, cp4, cp5⟩ := R1.t6
 go_wp2_with fail
 clear cp0 cp1 cp2 cp3 cp4 cp5
 refine (HP.out _).mono ?_
 rintro e w1 ⟨rfl, g1⟩
 have ⟨Fb_1, lb_1⟩ := CellsAt.gl (R0) g1
 have ⟨Fp_1, lp_1⟩ := CellsAt.gl (R1) g1
 have ⟨Fr_1, lr_1⟩ := CellsAt.gl (R2) g1
 have z1 := (gu).trans g1
 clear R0 R1 R2 gu g1
 have mr0 := CellsAt.frozen (Fr_1) 0
 have cr0 := Fr_1.at 0
 have mr1 := CellsAt.frozen (Fr_1) 1
 have cr1 := Fr_1.at 1
 have mr2 := CellsAt.frozen (Fr_1) 2
 have cr2 := Fr_1.at 2
 have mr3 := CellsAt.frozen (Fr_1) 3
 have cr3 := Fr_1.at 3
 go_wp2_with fail
 clear mr0 cr0 mr1 cr1 mr2 cr2 mr3 cr3
 obtain ⟨uf, hqf⟩ : ∃ zz, zz = ((((w1.setCell ⟨w.heap.size + 1 + 1, 0, none⟩ (.slice none 0 0)).setCell ⟨w.heap.size + 1 + 1, 1, none⟩ (.int .i64 0)).setCell ⟨w.heap.size + 1 + 1, 2, none⟩ (.bool false)).setCell ⟨w.heap.size + 1 + 1, 3, none⟩ (.slice none 0 0)) := ⟨_, rfl⟩
 have Yr : CellsAt uf (w.heap.size + 1 + 1) 27 #[.slice none 0 0, .int .i64 0, .bool false, .slice none 0 0] := by rw [hqf]; first | exact CellsAt.set (CellsAt.set (CellsAt.set (CellsAt.set (Fr_1) 0 (.slice none 0 0)) 1 (.int .i64 0)) 2 (.bool false)) 3 (.slice none 0 0) | simpa using CellsAt.set (CellsAt.set (CellsAt.set (CellsAt.set (Fr_1) 0 (.slice none 0 0)) 1 (.int .i64 0)) 2 (.bool false)) 3 (.slice none 0 0)
 have yz : Gr w uf := by rw [hqf]; exact ((((z1).setCell (by first | omega | (simp only; omega)) _).setCell (by first | omega | (simp only; omega)) _).setCell (by first | omega | (simp only; omega)) _).setCell (by first | omega | (simp only; omega)) _
 rw [← hqf]
 clear hqf
 have cr0 := CellsAt.cell Yr 0
 have cr1 := CellsAt.cell Yr 1
 have cr2 := CellsAt.cell Yr 2
 have cr3 := CellsAt.cell Yr 3
 simp only [getS] at cr0 cr1 cr2 cr3
 refine bodyPost_ret (v := .tuple #[.agg #[.slice none 0 0, .int .i64 0, .bool false, .slice none 0 0], .int .i64 4]) ?_ rfl ⟨rfl, yz⟩
 simp [results, Tryz.results16, go_sem, *]
set_option maxHeartbeats 2000000 in
theorem ftNext_arg0 (bp sp : Option Addr) (bc sl : Nat) (xs : List Gi) (ls : List Int) (fo lo ke sc mo ex pass : Int) (iv sa : Bool) (L : List Gi) (h0 : pass < 0) (HP : Hid (∀ W, Calls Tryz.prog 20 #[.agg #[.int .i64 fo, .int .i64 lo, .int .i64 ke, .int .i64 sc, .int .i64 mo, .bool iv]] W fun e w' => ∃ v, e = .returned (.tuple #[v, .int .i64 0]) ∧ CxsAt w' v L ∧ Gr W w')) (w : World) :
 Calls Tryz.prog 16 #[.agg #[.slice bp xs.length bc, .int .i64 ex, .bool sa, .slice sp ls.length sl], .agg #[.int .i64 fo, .int .i64 lo, .int .i64 ke, .int .i64 sc, .int .i64 mo, .bool iv], .int .i64 pass] w fun e w' => e = .returned (.tuple #[.agg #[.slice none 0 0, .int .i64 0, .bool false, .slice none 0 0], .int .i64 1]) ∧ Gr w w' := by
 go_enter Tryz.func16, Tryz.ntmps16
 go_wp2_with fail
 obtain ⟨u0, hU⟩ : ∃ uu, uu = (((w.alloc (.cells #[.slice bp xs.length bc, .int .i64 ex, .bool sa, .slice sp ls.length sl] 27)).alloc (.cells #[.int .i64 fo, .int .i64 lo, .int .i64 ke, .int .i64 sc, .int .i64 mo, .bool iv] 24)).alloc (.cells #[.slice none 0 0, .int .i64 0, .bool false, .slice none 0 0] 27)) := ⟨_, rfl⟩
 have ⟨gu, R0, R1, R2⟩ := lay3 hU
 rw [← hU]
 clear hU
 have lb := R0.lt
 have lp := R1.lt
 have lr := R2.lt
 obtain ⟨cp0, cp1, cp2, cp3, cp4, cp5⟩ := R1.t6
 go_wp2_with fail
 clear cp0 cp1 cp2 cp3 cp4 cp5
 refine (HP.out _).mono ?_
 rintro e w1 ⟨vp, rfl, hp, g1⟩
 have ⟨Fb_1, lb_1⟩ := CellsAt.gl (R0) g1
 have ⟨Fp_1, lp_1⟩ := CellsAt.gl (R1) g1
 have ⟨Fr_1, lr_1⟩ := CellsAt.gl (R2) g1
 have z1 := (gu).trans g1
 clear R0 R1 R2 gu g1
 obtain ⟨pp, pc, rfl⟩ := hp.len
 have mr0 := CellsAt.frozen (Fr_1) 0
 have cr0 := Fr_1.at 0
 have mr1 := CellsAt.frozen (Fr_1) 1
 have cr1 := Fr_1.at 1
 have mr2 := CellsAt.frozen (Fr_1) 2
 have cr2 := Fr_1.at 2
 have mr3 := CellsAt.frozen (Fr_1) 3
 have cr3 := Fr_1.at 3
 go_wp2_with fail
 clear mr0 cr0 mr1 cr1 mr2 cr2 mr3 cr3
 obtain ⟨uf, hqf⟩ : ∃ zz, zz = ((((w1.setCell ⟨w.heap.size + 1 + 1, 0, none⟩ (.slice none 0 0)).setCell ⟨w.heap.size + 1 + 1, 1, none⟩ (.int .i64 0)).setCell ⟨w.heap.size + 1 + 1, 2, none⟩ (.bool false)).setCell ⟨w.heap.size + 1 + 1, 3, none⟩ (.slice none 0 0)) := ⟨_, rfl⟩
 have Yr : CellsAt uf (w.heap.size + 1 + 1) 27 #[.slice none 0 0, .int .i64 0, .bool false, .slice none 0 0] := by rw [hqf]; first | exact CellsAt.set (CellsAt.set (CellsAt.set (CellsAt.set (Fr_1) 0 (.slice none 0 0)) 1 (.int .i64 0)) 2 (.bool false)) 3 (.slice none 0 0) | simpa using CellsAt.set (CellsAt.set (CellsAt.set (CellsAt.set (Fr_1) 0 (.slice none 0 0)) 1 (.int .i64 0)) 2 (.bool false)) 3 (.slice none 0 0)
 have yz : Gr w uf := by rw [hqf]; exact ((((z1).setCell (by first | omega | (simp only; omega)) _).setCell (by first | omega | (simp only; omega)) _).setCell (by first | omega | (simp only; omega)) _).setCell (by first | omega | (simp only; omega)) _
 rw [← hqf]
 clear hqf
 have cr0 := CellsAt.cell Yr 0
 have cr1 := CellsAt.cell Yr 1
 have cr2 := CellsAt.cell Yr 2
 have cr3 := CellsAt.cell Yr 3
 simp only [getS] at cr0 cr1 cr2 cr3
 refine bodyPost_ret (v := .tuple #[.agg #[.slice none 0 0, .int .i64 0, .bool false, .slice none 0 0], .int .i64 1]) ?_ rfl ⟨rfl, yz⟩
 simp [results, Tryz.results16, go_sem, *]
set_option maxHeartbeats 2000000 in
theorem ftNext_arg1 (bp sp : Option Addr) (bc sl : Nat) (xs : List Gi) (ls : List Int) (fo lo ke sc mo ex pass : Int) (iv sa : Bool) (L : List Gi) (h0 : ¬ pass < 0) (h1 : pass ≥ (L.length : Int)) (HP : Hid (∀ W, Calls Tryz.prog 20 #[.agg #[.int .i64 fo, .int .i64 lo, .int .i64 ke, .int .i64 sc, .int .i64 mo, .bool iv]] W fun e w' => ∃ v, e = .returned (.tuple #[v, .int .i64 0]) ∧ CxsAt w' v L ∧ Gr W w')) (w : World) :
 Calls Tryz.prog 16 #[.agg #[.slice bp xs.length bc, .int .i64 ex, .bool sa, .slice sp ls.length sl], .agg #[.int .i64 fo, .int .i64 lo, .int .i64 ke, .int .i64 sc, .int .i64 mo, .bool iv], .int .i64 pass] w fun e w' => e = .returned (.tuple #[.agg #[.slice none 0 0, .int .i64 0, .bool false, .slice none 0 0], .int .i64 1]) ∧ Gr w w' := by
 go_enter Tryz.func16, Tryz.ntmps16
 go_wp2_with fail
 obtain ⟨u0, hU⟩ : ∃ uu, uu = (((w.alloc (.cells #[.slice bp xs.length bc, .int .i64 ex, .bool sa, .slice sp ls.length sl] 27)).alloc (.cells #[.int .i64 fo, .int .i64 lo, .int .i64 ke, .int .i64 sc, .int .i64 mo, .bool iv] 24)).alloc (.cells #[.slice none 0 0, .int .i64 0, .bool false, .slice none 0 0] 27)) := ⟨_, rfl⟩
 have ⟨gu, R0, R1, R2⟩ := lay3 hU
 rw [← hU]
 clear hU
 have lb := R0.lt
 have lp := R1.lt
 have lr := R2.lt
 obtain ⟨cp0, cp1, cp2, cp3, cp4, cp5⟩ := R1.t6
 go_wp2_with fail
 clear cp0 cp1 cp2 cp3 cp4 cp5
 refine (HP.out _).mono ?_
 rintro e w1 ⟨vp, rfl, hp, g1⟩
 have ⟨Fb_1, lb_1⟩ := CellsAt.gl (R0) g1
 have ⟨Fp_1, lp_1⟩ := CellsAt.gl (R1) g1
 have ⟨Fr_1, lr_1⟩ := CellsAt.gl (R2) g1
 have z1 := (gu).trans g1
 clear R0 R1 R2 gu g1
 obtain ⟨pp, pc, rfl⟩ := hp.len
 have mr0 := CellsAt.frozen (Fr_1) 0
 have cr0 := Fr_1.at 0
 have mr1 := CellsAt.frozen (Fr_1) 1
 have cr1 := Fr_1.at 1
 have mr2 := CellsAt.frozen (Fr_1) 2
 have cr2 := Fr_1.at 2
 have mr3 := CellsAt.frozen (Fr_1) 3
 have cr3 := Fr_1.at 3
 go_wp2_with fail
 clear mr0 cr0 mr1 cr1 mr2 cr2 mr3 cr3
 obtain ⟨uf, hqf⟩ : ∃ zz, zz = ((((w1.setCell ⟨w.heap.size + 1 + 1, 0, none⟩ (.slice none 0 0)).setCell ⟨w.heap.size + 1 + 1, 1, none⟩ (.int .i64 0)).setCell ⟨w.heap.size + 1 + 1, 2, none⟩ (.bool false)).setCell ⟨w.heap.size + 1 + 1, 3, none⟩ (.slice none 0 0)) := ⟨_, rfl⟩
 have Yr : CellsAt uf (w.heap.size + 1 + 1) 27 #[.slice none 0 0, .int .i64 0, .bool false, .slice none 0 0] := by rw [hqf]; first | exact CellsAt.set (CellsAt.set (CellsAt.set (CellsAt.set (Fr_1) 0 (.slice none 0 0)) 1 (.int .i64 0)) 2 (.bool false)) 3 (.slice none 0 0) | simpa using CellsAt.set (CellsAt.set (CellsAt.set (CellsAt.set (Fr_1) 0 (.slice none 0 0)) 1 (.int .i64 0)) 2 (.bool false)) 3 (.slice none 0 0)
 have yz : Gr w uf := by rw [hqf]; exact ((((z1).setCell (by first | omega | (simp only; omega)) _).setCell (by first | omega | (simp only; omega)) _).setCell (by first | omega | (simp only; omega)) _).setCell (by first | omega | (simp only; omega)) _
 rw [← hqf]
 clear hqf
 have cr0 := CellsAt.cell Yr 0
 have cr1 := CellsAt.cell Yr 1
 have cr2 := CellsAt.cell Yr 2
 have cr3 := CellsAt.cell Yr 3
 simp only [getS] at cr0 cr1 cr2 cr3
 refine bodyPost_ret (v := .tuple #[.agg #[.slice none 0 0, .int .i64 0, .bool false, .slice none 0 0], .int .i64 1]) ?_ rfl ⟨rfl, yz⟩
 simp [results, Tryz.results16, go_sem, *]
set_option maxHeartbeats 2000000 in
theorem ftNext_blk (bp sp : Option Addr) (bc sl : Nat) (xs : List Gi) (ls : List Int) (fo lo ke sc mo ex pass : Int) (iv sa : Bool) (L : List Gi) (y : Int) (hy : ¬ y = 0) (hb : (y == 0) = false) (h0 : ¬ pass < 0) (h1 : ¬ pass ≥ (L.length : Int)) (HP : Hid (∀ W, Calls Tryz.prog 20 #[.agg #[.int .i64 fo, .int .i64 lo, .int .i64 ke, .int .i64 sc, .int .i64 mo, .bool iv]] W fun e w' => ∃ v, e = .returned (.tuple #[v, .int .i64 0]) ∧ CxsAt w' v L ∧ Gr W w')) (HE : Hid (∀ W, CxsAt W (.slice bp xs.length bc) xs → Calls Tryz.prog 44 #[.agg #[.slice bp xs.length bc, .int .i64 ex, .bool sa, .slice sp ls.length sl], .agg #[.int .i64 fo, .int .i64 lo, .int .i64 ke, .int .i64 sc, .int .i64 mo, .bool iv]] W fun e w' => e = .returned (.int .i64 y) ∧ Gr W w')) (w : World) (hv : CxsAt w (.slice bp xs.length bc) xs) :
 Calls Tryz.prog 16 #[.agg #[.slice bp xs.length bc, .int .i64 ex, .bool sa, .slice sp ls.length sl], .agg #[.int .i64 fo, .int .i64 lo, .int .i64 ke, .int .i64 sc, .int .i64 mo, .bool iv], .int .i64 pass] w fun e w' => e = .returned (.tuple #[.agg #[.slice none 0 0, .int .i64 0, .bool false, .slice none 0 0], .int .i64 y]) ∧ Gr w w' := by
 go_enter Tryz.func16, Tryz.ntmps16
 go_wp2_with fail
 obtain ⟨u0, hU⟩ : ∃ uu, uu = (((w.alloc (.cells #[.slice bp xs.length bc, .int .i64 ex, .bool sa, .slice sp ls.length sl] 27)).alloc (.cells #[.int .i64 fo, .int .i64 lo, .int .i64 ke, .int .i64 sc, .int .i64 mo, .bool iv] 24)).alloc (.cells #[.slice none 0 0, .int .i64 0, .bool false, .slice none 0 0] 27)) := ⟨_, rfl⟩
 have ⟨gu, R0, R1, R2⟩ := lay3 hU
 rw [← hU]
 clear hU
 have lb := R0.lt
 have lp := R1.lt
 have lr := R2.lt
 obtain ⟨cp0, cp1, cp2, cp3, cp4, cp5⟩ := R1.t6
 go_wp2_with fail
 clear cp0 cp1 cp2 cp3 cp4 cp5
 refine (HP.out _).mono ?_
 rintro e w1 ⟨vp, rfl, hp, g1⟩
 have ⟨Fb_1, lb_1⟩ := CellsAt.gl (R0) g1
 have ⟨Fp_1, lp_1⟩ := CellsAt.gl (R1) g1
 have ⟨Fr_1, lr_1⟩ := CellsAt.gl (R2) g1
 have z1 := (gu).trans g1
 clear R0 R1 R2 gu g1
 obtain ⟨pp, pc, rfl⟩ := hp.len
 obtain ⟨cb0, cb1, cb2, cb3⟩ := Fb_1.t4
 obtain ⟨cp0, cp1, cp2, cp3, cp4, cp5⟩ := Fp_1.t6
 go_wp2_with fail
 clear cb0 cb1 cb2 cb3 cp0 cp1 cp2 cp3 cp4 cp5
 refine (HE.out _ (hv.gr z1)).mono ?_
 rintro e w2 ⟨rfl, g2⟩
 have ⟨Fb_2, lb_2⟩ := CellsAt.gl (Fb_1) g2
 have ⟨Fp_2, lp_2⟩ := CellsAt.gl (Fp_1) g2
 have ⟨Fr_2, lr_2⟩ := CellsAt.gl (Fr_1) g2
 have z2 := (z1).trans g2
 clear Fb_1 Fp_1 Fr_1 z1 g2
 have mr0 := CellsAt.frozen (Fr_2) 0
 have cr0 := Fr_2.at 0
 have mr1 := CellsAt.frozen (Fr_2) 1
 have cr1 := Fr_2.at 1
 have mr2 := CellsAt.frozen (Fr_2) 2
 have cr2 := Fr_2.at 2
 have mr3 := CellsAt.frozen (Fr_2) 3
 have cr3 := Fr_2.at 3
 go_wp2_with fail
 clear mr0 cr0 mr1 cr1 mr2 cr2 mr3 cr3
 obtain ⟨uf, hqf⟩ : ∃ zz, zz = ((((w2.setCell ⟨w.heap.size + 1 + 1, 0, none⟩ (.slice none 0 0)).setCell ⟨w.heap.size + 1 + 1, 1, none⟩ (.int .i64 0)).setCell ⟨w.heap.size + 1 + 1, 2, none⟩ (.bool false)).setCell ⟨w.heap.size + 1 + 1, 3, none⟩ (.slice none 0 0)) := ⟨_, rfl⟩
 have Yr : CellsAt uf (w.heap.size + 1 + 1) 27 #[.slice none 0 0, .int .i64 0, .bool false, .slice none 0 0] := by rw [hqf]; first | exact CellsAt.set (CellsAt.set (CellsAt.set (CellsAt.set (Fr_2) 0 (.slice none 0 0)) 1 (.int .i64 0)) 2 (.bool false)) 3 (.slice none 0 0) | simpa using CellsAt.set (CellsAt.set (CellsAt.set (CellsAt.set (Fr_2) 0 (.slice none 0 0)) 1 (.int .i64 0)) 2 (.bool false)) 3 (.slice none 0 0)
 have yz : Gr w uf := by rw [hqf]; exact ((((z2).setCell (by first | omega | (simp only; omega)) _).setCell (by first | omega | (simp only; omega)) _).setCell (by first | omega | (simp only; omega)) _).setCell (by first | omega | (simp only; omega)) _
 rw [← hqf]
 clear hqf
 have cr0 := CellsAt.cell Yr 0
 have cr1 := CellsAt.cell Yr 1
 have cr2 := CellsAt.cell Yr 2
 have cr3 := CellsAt.cell Yr 3
 simp only [getS] at cr0 cr1 cr2 cr3
 refine bodyPost_ret (v := .tuple #[.agg #[.slice none 0 0, .int .i64 0, .bool false, .slice none 0 0], .int .i64 y]) ?_ rfl ⟨rfl, yz⟩
 simp [results, Tryz.results16, go_sem, *]
set_option maxHeartbeats 4000000 in
theorem ftNext_yes (bp sp : Option Addr) (bc sl : Nat) (xs L ws ys : List Gi) (ls ts : List Int) (fo lo ke sc mo ex ex2 bits : Int) (iv sa sa2 : Bool) (sV : Value) (j : Nat) (q : Gi) (hq : L[j]? = some q) (h0 : ¬ (j : Int) < 0) (h1 : ¬ (j : Int) ≥ (L.length : Int)) (HP : Hid (∀ W, Calls Tryz.prog 20 #[.agg #[.int .i64 fo, .int .i64 lo, .int .i64 ke, .int .i64 sc, .int .i64 mo, .bool iv]] W fun e w' => ∃ v, e = .returned (.tuple #[v, .int .i64 0]) ∧ CxsAt w' v L ∧ Gr W w')) (HE : Hid (∀ W, CxsAt W (.slice bp xs.length bc) xs → Calls Tryz.prog 44 #[.agg #[.slice bp xs.length bc, .int .i64 ex, .bool sa, .slice sp ls.length sl], .agg #[.int .i64 fo, .int .i64 lo, .int .i64 ke, .int .i64 sc, .int .i64 mo, .bool iv]] W fun e w' => e = .returned (.int .i64 0) ∧ Gr W w'))
 (HO : Hid (∀ W, Calls Tryz.prog 28 #[.agg #[.int .i64 fo, .int .i64 lo, .int .i64 ke, .int .i64 sc, .int .i64 mo, .bool iv]] W fun e w' => ∃ B v, e = .returned (.agg #[.int .i64 fo, .int .i64 lo, .int .i64 ke, .int .i64 sc, .int .i64 mo, .bool iv, sV, .map (some B), v, .int .i64 bits]) ∧ KMap w' B ∧ CxsAt w' v ws ∧ Gr W w'))
 (HB : Hid (∀ B v W, CxsAt W (.slice bp xs.length bc) xs → NumsAt W (.slice sp ls.length sl) ls → CxsAt W v ws → KMap W B → Calls Tryz.prog 29 #[.agg #[.int .i64 fo, .int .i64 lo, .int .i64 ke, .int .i64 sc, .int .i64 mo, .bool iv, sV, .map (some B), v, .int .i64 bits], .agg #[.slice bp xs.length bc, .int .i64 ex, .bool sa, .slice sp ls.length sl], .agg #[.int .i64 q.re, .int .i64 q.im]] W fun e w' => ∃ ux us, e = .returned (.agg #[ux, .int .i64 ex2, .bool sa2, us]) ∧ CxsAt w' ux ys ∧ NumsAt w' us ts ∧ Gr W w' ∧ ∀ b, us.ownBlock = some b → W.heap.size ≤ b))
 (w : World) (hv : CxsAt w (.slice bp xs.length bc) xs) (hl : NumsAt w (.slice sp ls.length sl) ls) :
 Calls Tryz.prog 16 #[.agg #[.slice bp xs.length bc, .int .i64 ex, .bool sa, .slice sp ls.length sl], .agg #[.int .i64 fo, .int .i64 lo, .int .i64 ke, .int .i64 sc, .int .i64 mo, .bool iv], .int .i64 (j : Nat)] w fun e w' => ∃ ux us, e = .returned (.tuple #[.agg #[ux, .int .i64 ex2, .bool sa2, us], .int .i64 0]) ∧ CxsAt w' ux ys ∧ NumsAt w' us ts ∧ Gr w w' ∧ ∀ b, us.ownBlock = some b → w.heap.size ≤ b := by
 go_enter Tryz.func16, Tryz.ntmps16
 go_wp2_with fail
 obtain ⟨u0, hU⟩ : ∃ uu, uu = (((w.alloc (.cells #[.slice bp xs.length bc, .int .i64 ex, .bool sa, .slice sp ls.length sl] 27)).alloc (.cells #[.int .i64 fo, .int .i64 lo, .int .i64 ke, .int .i64 sc, .int .i64 mo, .bool iv] 24)).alloc (.cells #[.slice none 0 0, .int .i64 0, .bool false, .slice none 0 0] 27)) := ⟨_, rfl⟩
 have ⟨gu, R0, R1, R2⟩ := lay3 hU
 rw [← hU]
 clear hU
 have lb := R0.lt
 have lp := R1.lt
 have lr := R2.lt
 obtain ⟨cp0, cp1, cp2, cp3, cp4, cp5⟩ := R1.t6
 go_wp2_with fail
 clear cp0 cp1 cp2 cp3 cp4 cp5
 refine (HP.out _).mono ?_
 rintro e w1 ⟨vp, rfl, hp, g1⟩
 have ⟨Fb_1, lb_1⟩ := CellsAt.gl (R0) g1
 have ⟨Fp_1, lp_1⟩ := CellsAt.gl (R1) g1
 have ⟨Fr_1, lr_1⟩ := CellsAt.gl (R2) g1
 have z1 := (gu).trans g1
 clear R0 R1 R2 gu g1
 obtain ⟨pp, pc, rfl⟩ := hp.len
 obtain ⟨cb0, cb1, cb2, cb3⟩ := Fb_1.t4
 obtain ⟨cp0, cp1, cp2, cp3, cp4, cp5⟩ := Fp_1.t6
 go_wp2_with fail
 clear cb0 cb1 cb2 cb3 cp0 cp1 cp2 cp3 cp4 cp5
 refine (HE.out _ (hv.gr z1)).mono ?_
 rintro e w2 ⟨rfl, g2⟩
 have ⟨Fb_2, lb_2⟩ := CellsAt.gl (Fb_1) g2
 have ⟨Fp_2, lp_2⟩ := CellsAt.gl (Fp_1) g2
 have ⟨Fr_2, lr_2⟩ := CellsAt.gl (Fr_1) g2
 have Kp_2 := CxsAt.gr (hp) g2
 have z2 := (z1).trans g2
 clear Fb_1 Fp_1 Fr_1 z1 g2
 go_wp2_with fail
 have hjl : j < L.length := (List.getElem?_eq_some_iff.1 hq).1
 obtain ⟨ua, hqp1⟩ : ∃ zz, zz = w2 := ⟨_, rfl⟩
 have Yb_p1 : CellsAt ua (w.heap.size) 27 #[.slice bp xs.length bc, .int .i64 ex, .bool sa, .slice sp ls.length sl] := by rw [hqp1]; first | exact Fb_2 | simpa using Fb_2
 have Yp_p1 : CellsAt ua (w.heap.size + 1) 24 #[.int .i64 fo, .int .i64 lo, .int .i64 ke, .int .i64 sc, .int .i64 mo, .bool iv] := by rw [hqp1]; first | exact Fp_2 | simpa using Fp_2
 have Yr_p1 : CellsAt ua (w.heap.size + 1 + 1) 27 #[.slice none 0 0, .int .i64 0, .bool false, .slice none 0 0] := by rw [hqp1]; first | exact Fr_2 | simpa using Fr_2
 have Vp_p1 := Kp_2
 rw [← hqp1] at Vp_p1
 have yp1 : Gr w ua := by rw [hqp1]; exact z2
 rw [← hqp1]
 clear hqp1
 obtain ⟨qb, qo, qc, hsl, _, hqb, hqc⟩ := Vp_p1.at (by intro e; rw [e] at hjl; simp at hjl)
 cases hsl
 obtain ⟨k1, k2⟩ := hqc j q hq
 have hqr := CxsAt.apart Vp_p1 Yr_p1 qb qo pc rfl (by intro e; rw [e] at hjl; simp at hjl)
 obtain ⟨re, im⟩ := q
 simp only at k1 k2
 have KS : ∀ W, GB (w.heap.size + 1 + 1) ua W → (W.cell? ⟨w.heap.size, 0, none⟩ = some (.slice bp xs.length bc) ∧ W.cell? ⟨w.heap.size, 1, none⟩ = some (.int .i64 ex) ∧ W.cell? ⟨w.heap.size, 2, none⟩ = some (.bool sa) ∧ W.cell? ⟨w.heap.size, 3, none⟩ = some (.slice sp ls.length sl) ∧ W.cell? ⟨w.heap.size + 1, 0, none⟩ = some (.int .i64 fo) ∧ W.cell? ⟨w.heap.size + 1, 1, none⟩ = some (.int .i64 lo) ∧ W.cell? ⟨w.heap.size + 1, 2, none⟩ = some (.int .i64 ke) ∧ W.cell? ⟨w.heap.size + 1, 3, none⟩ = some (.int .i64 sc) ∧ W.cell? ⟨w.heap.size + 1, 4, none⟩ = some (.int .i64 mo) ∧ W.cell? ⟨w.heap.size + 1, 5, none⟩ = some (.bool iv) ∧ W.cell? ⟨qb, qo + j * 2, none⟩ = some (.int .i64 re) ∧ W.cell? ⟨qb, qo + j * 2 + 1, none⟩ = some (.int .i64 im)) := fun W hG => ⟨(GB.cellsAt hG Yb_p1 (by omega)).cell 0, (GB.cellsAt hG Yb_p1 (by omega)).cell 1, (GB.cellsAt hG Yb_p1 (by omega)).cell 2, (GB.cellsAt hG Yb_p1 (by omega)).cell 3, (GB.cellsAt hG Yp_p1 (by omega)).cell 0, (GB.cellsAt hG Yp_p1 (by omega)).cell 1, (GB.cellsAt hG Yp_p1 (by omega)).cell 2, (GB.cellsAt hG Yp_p1 (by omega)).cell 3, (GB.cellsAt hG Yp_p1 (by omega)).cell 4, (GB.cellsAt hG Yp_p1 (by omega)).cell 5, (GB.cell hG (p := ⟨qb, qo + j * 2, none⟩) hqb hqr).trans k1, (GB.cell hG (p := ⟨qb, qo + j * 2 + 1, none⟩) hqb hqr).trans k2⟩
 have hclG := gb_closed (w.heap.size + 1 + 1) ua
 try simp only [List.append_eq, List.cons_append, List.nil_append]
 refine wp_region_grow (S := GB (w.heap.size + 1 + 1) ua) rfl (GB.drew (GB.refl _ _)) ?_
 refine gK 0 hclG KS ?_
 refine gK 2 hclG KS ?_
 refine gK 3 hclG KS ?_
 refine gK 4 hclG KS ?_
 refine gK 5 hclG KS ?_
 refine gK 6 hclG KS ?_
 refine wpG_ready (rs := [1]) (by kernel_rfl) (by simp) (fun w3 g3 s3 => ?_)
 refine AllG.cons rfl (fun K hK => ?_) AllG.nil
 replace g3 := (Gr.drew (Gr.refl ua)).trans g3
 have ⟨Fb_3, lb_3⟩ := CellsAt.gl (Yb_p1) g3
 have ⟨Fp_3, lp_3⟩ := CellsAt.gl (Yp_p1) g3
 have ⟨Fr_3, lr_3⟩ := CellsAt.gl (Yr_p1) g3
 have z3 := (yp1).trans g3
 clear Yb_p1 Yp_p1 Yr_p1 yp1 g3
 go_simp
 refine (HO.out w3).mono ?_
 rintro e w4 ⟨mB, vw, rfl, hm, hw, g4⟩
 have t4 := GB.gr s3 g4
 have ⟨Fb_4, lb_4⟩ := CellsAt.gl (Fb_3) g4
 have ⟨Fp_4, lp_4⟩ := CellsAt.gl (Fp_3) g4
 have ⟨Fr_4, lr_4⟩ := CellsAt.gl (Fr_3) g4
 have z4 := (z3).trans g4
 clear Fb_3 Fp_3 Fr_3 z3 g4
 refine hK.out _ _ ?_ ?_
 ·exact t4
 clear hK K
 try simp only [Act.put, putS]
 refine wpG_ready (rs := [7]) (by kernel_rfl) (by simp) (fun w5 g5 s5 => ?_)
 refine AllG.cons rfl (fun K hK => ?_) AllG.nil
 have ⟨Fb_5, lb_5⟩ := CellsAt.gl (Fb_4) g5
 have ⟨Fp_5, lp_5⟩ := CellsAt.gl (Fp_4) g5
 have ⟨Fr_5, lr_5⟩ := CellsAt.gl (Fr_4) g5
 have Kw_5 := CxsAt.gr (hw) g5
 have MK_5 := KMap.gr (hm) g5
 have z5 := (z4).trans g5
 clear Fb_4 Fp_4 Fr_4 z4 g5
 go_simp
 refine (HB.out _ _ _ (hv.gr z5) (hl.gr z5) Kw_5 MK_5).mono ?_
 rintro e w6 ⟨vx2, vs2, rfl, hux, hus, g6, hfr⟩
 obtain ⟨up, uc, rfl⟩ := hux.len
 obtain ⟨tp, tc, rfl⟩ := hus.len
 have hnnS : (Value.slice tp ts.length tc).ownBlock ≠ some (w.heap.size + 1 + 1) := fun e => by have := hfr _ e; have := CellsAt.lt (Fr_5); omega
 have t6 := GB.gr s5 g6
 have ⟨Fb_6, lb_6⟩ := CellsAt.gl (Fb_5) g6
 have ⟨Fp_6, lp_6⟩ := CellsAt.gl (Fp_5) g6
 have ⟨Fr_6, lr_6⟩ := CellsAt.gl (Fr_5) g6
 have Kw_6 := CxsAt.gr (Kw_5) g6
 have MK_6 := KMap.gr (MK_5) g6
 have z6 := (z5).trans g6
 clear Fb_5 Fp_5 Fr_5 z5 g6
 refine hK.out _ _ ?_ ?_
 ·exact t6
 clear hK K
 try simp only [Act.put, putS]
 refine wpG_ready (rs := [8]) (by kernel_rfl) (by simp) (fun w7 g7 s7 => ?_)
 refine AllG.cons rfl (fun K hK => ?_) AllG.nil
 have ⟨Fb_7, lb_7⟩ := CellsAt.gl (Fb_6) g7
 have ⟨Fp_7, lp_7⟩ := CellsAt.gl (Fp_6) g7
 have ⟨Fr_7, lr_7⟩ := CellsAt.gl (Fr_6) g7
 have Kw_7 := CxsAt.gr (Kw_6) g7
 have Kx_7 := CxsAt.gr (hux) g7
 have NS_7 := NumsAt.gr (hus) g7
 have z7 := (z6).trans g7
 clear Fb_6 Fp_6 Fr_6 z6 g7
 have mr0 := CellsAt.frozen (Fr_7) 0
 have cr0 := Fr_7.at 0
 have mr1 := CellsAt.frozen (Fr_7) 1
 have cr1 := Fr_7.at 1
 have mr2 := CellsAt.frozen (Fr_7) 2
 have cr2 := Fr_7.at 2
 have mr3 := CellsAt.frozen (Fr_7) 3
 have cr3 := Fr_7.at 3
 go_simp
 clear mr0 cr0 mr1 cr1 mr2 cr2 mr3 cr3
 have Aw_7 := CxsAt.apart Kw_7 Fr_7
 have Ax_7 := CxsAt.apart Kx_7 Fr_7
 refine hK.out _ _ ?_ ?_
 ·exact (GB.set (GB.set (GB.set (GB.set s7 _ _) _ _) _ _) _ _)
 clear hK K
 try simp only [Act.put, putS]
 refine gT 9 hclG ?_
 refine wpG_done (by kernel_rfl) (fun w8 g8 => ?_) _
 have ⟨Fb_8, lb_8⟩ := CellsAt.gl (((((Fb_7).other (by omega) _ _).other (by omega) _ _).other (by omega) _ _).other (by omega) _ _) g8
 have ⟨Fp_8, lp_8⟩ := CellsAt.gl (((((Fp_7).other (by omega) _ _).other (by omega) _ _).other (by omega) _ _).other (by omega) _ _) g8
 have Fr_8 : CellsAt w8 (w.heap.size + 1 + 1) 27 #[.slice up ys.length uc, .int .i64 ex2, .bool sa2, .slice tp ts.length tc] := CellsAt.gr (CellsAt.set (CellsAt.set (CellsAt.set (CellsAt.set (Fr_7) 0 (.slice up ys.length uc)) 1 (.int .i64 ex2)) 2 (.bool sa2)) 3 (.slice tp ts.length tc)) g8
 have lr_8 := CellsAt.lt (Fr_8)
 have Kw_8 := CxsAt.gr ((CxsAt.set (CxsAt.set (CxsAt.set (CxsAt.set Kw_7 Aw_7 0 (.slice up ys.length uc)) Aw_7 1 (.int .i64 ex2)) Aw_7 2 (.bool sa2)) Aw_7 3 (.slice tp ts.length tc))) g8
 have Kx_8 := CxsAt.gr ((CxsAt.set (CxsAt.set (CxsAt.set (CxsAt.set Kx_7 Ax_7 0 (.slice up ys.length uc)) Ax_7 1 (.int .i64 ex2)) Ax_7 2 (.bool sa2)) Ax_7 3 (.slice tp ts.length tc))) g8
 have NS_8 := NumsAt.gr ((NumsAt.set (B := w.heap.size + 1 + 1) (NumsAt.set (B := w.heap.size + 1 + 1) (NumsAt.set (B := w.heap.size + 1 + 1) (NumsAt.set (B := w.heap.size + 1 + 1) NS_7 hnnS 0 (.slice up ys.length uc)) hnnS 1 (.int .i64 ex2)) hnnS 2 (.bool sa2)) hnnS 3 (.slice tp ts.length tc))) g8
 have z8 := (((((z7).setCell (by first | omega | (simp only; omega)) _).setCell (by first | omega | (simp only; omega)) _).setCell (by first | omega | (simp only; omega)) _).setCell (by first | omega | (simp only; omega)) _).trans g8
 clear g8
 clear hclG KS
 obtain ⟨cr0, cr1, cr2, cr3⟩ := Fr_8.t4
 go_wp2_with fail
 clear cr0 cr1 cr2 cr3
 refine bodyPost_ret (v := .tuple #[.agg #[.slice up ys.length uc, .int .i64 ex2, .bool sa2, .slice tp ts.length tc], .int .i64 0]) ?_ rfl ⟨_, _, rfl, Kx_8, NS_8, z8, fun bb hb => ?_⟩
 rotate_left
 ·have := hfr _ hb; omega
 obtain ⟨cr0, cr1, cr2, cr3⟩ := Fr_8.t4
 simp [results, Tryz.results16, go_sem, *]
end
end Go.Proofs.YtablflakcaimmaaGreat
