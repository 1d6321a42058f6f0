import Derived.Test.YtdignnmpfkgkoaaGreatGS29
namespace Go.Proofs.YtdignnmpfkgkoaaGreat
section
open Go.ChangeShapes Go.WideShapes Go.ChangeAt Go.RowKit
set_option linter.unusedVariables false
set_option linter.unusedSimpArgs false
set_option maxRecDepth 100000
theorem dMeasured_yes (n L : Nat) (h : IsLog (n : Int) L) (px : Option Addr) (cx : Nat) (xs : List Gi) (hxn : xs.length = n) (m y : Int) (hy : (allIn 2147483648 xs = true ∧ m = maxG xs ∧ y = 0) ∨ (allIn 2147483648 xs = false ∧ m = 0 ∧ y = 2)) (w : World) (hvx : CxsAt w (.slice px n cx) xs) :
 Calls Tryz.prog 67 #[.slice px n cx] w fun e w' => e = .returned (.tuple #[.int .i64 (if y = 0 then (L : Int) else 0), .int .i64 m, .int .i64 y]) ∧ Gr w w' := by
 have HL := Lib.hid (log08_yes (n : Int) L h)
 have hle : xs.length ≤ 1048576 := by have := isLog_cases h; omega
 rcases hy with ⟨hb, rfl, rfl⟩ | ⟨hb, rfl, rfl⟩
 ·have HM := Lib.hid fun W hW => scanMax_yes (.slice px n cx) xs hb hle W hW
  generalize maxG xs = m at *
  clear h hb hle
  rw [if_pos rfl]
  go_enter Tryz.func67, Tryz.ntmps67
  go_wp2_with (go_at_call 34; refine (HL.out _).mono ?_; rintro e wz ⟨rfl, rfl⟩)
  refine (HM.out _ hvx).mono ?_
  rintro e w1 ⟨rfl, g1⟩
  go_wp2_with fail
  refine bodyPost_ret (v := .tuple #[.int .i64 (L : Int), .int .i64 m, .int .i64 0]) ?_ rfl ⟨rfl, g1⟩
  simp [results, Tryz.results67, go_sem, *]
 ·have HM := Lib.hid fun W hW => scanMax_no (.slice px n cx) xs hb hle W hW
  clear h hb hle
  rw [if_neg (by decide)]
  go_enter Tryz.func67, Tryz.ntmps67
  go_wp2_with (go_at_call 34; refine (HL.out _).mono ?_; rintro e wz ⟨rfl, rfl⟩)
  refine (HM.out _ hvx).mono ?_
  rintro e w1 ⟨rfl, g1⟩
  go_wp2_with fail
  refine bodyPost_ret (v := .tuple #[.int .i64 0, .int .i64 0, .int .i64 2]) ?_ rfl ⟨rfl, g1⟩
  simp [results, Tryz.results67, go_sem, *]
set_option maxHeartbeats 1000000 in
theorem dHalves_of (x y p q : Int) (u : Gi) (HS : CR 129 #[.agg #[.int .i64 x, .int .i64 y], .int .i64 20, .int .i64 0] (.tuple #[.agg #[.int .i64 (u).re, .int .i64 (u).im], .int .i64 0])) (e1 : bits .and .i64 x 1048575 = p) (e2 : bits .and .i64 y 1048575 = q) (w : World) :
 Calls Tryz.prog 117 #[.agg #[.int .i64 x, .int .i64 y]] w fun e w' => e = .returned (.agg #[.int .i64 u.re, .int .i64 u.im, .int .i64 p, .int .i64 q]) ∧ Gr w w' := by
 go_enter Tryz.func117, Tryz.ntmps117
 go_wp2_with fail
 obtain ⟨u0, hU⟩ : ∃ uu, uu = ((w.alloc (.cells #[.int .i64 x, .int .i64 y] 50)).alloc (.cells #[.int .i64 0, .int .i64 0, .int .i64 0, .int .i64 0] 145)) := ⟨_, rfl⟩
 have ⟨gu, R0, R1⟩ := lay2 hU
 rw [← hU]
 clear hU
 have la := R0.lt
 have lr := R1.lt
 obtain ⟨ca0, ca1⟩ := R0.t2
 go_wp2_with fail
 clear ca0 ca1
 refine (HS.out _).mono ?_
 rintro e w1 ⟨rfl, g1⟩
 have ⟨Fa_1, la_1⟩ := CellsAt.gl (R0) g1
 have ⟨Fr_1, lr_1⟩ := CellsAt.gl (R1) g1
 have z1 := (gu).trans g1
 clear R0 R1 gu g1
 obtain ⟨ca0, ca1⟩ := Fa_1.t2
 have mr0 := CellsAt.frozen (Fr_1) 0
 have cr0 := Fr_1.at 0
 have mr1 := CellsAt.frozen (Fr_1) 1
 have cr1 := Fr_1.at 1
 have mr2 := CellsAt.frozen (Fr_1) 2
 have cr2 := Fr_1.at 2
 have mr3 := CellsAt.frozen (Fr_1) 3
 have cr3 := Fr_1.at 3
 go_wp2_with fail
 clear ca0 ca1 mr0 cr0 mr1 cr1 mr2 cr2 mr3 cr3
 obtain ⟨uf, hqp1⟩ : ∃ zz, zz = (((((w1.setCell ⟨w.heap.size + 1, 0, none⟩ (.int .i64 u.re)).setCell ⟨w.heap.size + 1, 1, none⟩ (.int .i64 u.im)).setCell ⟨w.heap.size + 1, 2, none⟩ (.int .i64 p)).setCell ⟨w.heap.size + 1, 3, none⟩ (.int .i64 q)).alloc (.cells #[.int .i64 (u).re, .int .i64 (u).im] 50)) := ⟨_, rfl⟩
 have Ya_p1 : CellsAt uf (w.heap.size) 50 #[.int .i64 x, .int .i64 y] := by rw [hqp1]; first | exact (((((Fa_1).other (by omega) _ _).other (by omega) _ _).other (by omega) _ _).other (by omega) _ _).alloc _ | simpa using (((((Fa_1).other (by omega) _ _).other (by omega) _ _).other (by omega) _ _).other (by omega) _ _).alloc _
 have Yr_p1 : CellsAt uf (w.heap.size + 1) 145 #[.int .i64 u.re, .int .i64 u.im, .int .i64 p, .int .i64 q] := by rw [hqp1]; first | exact (CellsAt.set (CellsAt.set (CellsAt.set (CellsAt.set (Fr_1) 0 (.int .i64 u.re)) 1 (.int .i64 u.im)) 2 (.int .i64 p)) 3 (.int .i64 q)).alloc _ | simpa using (CellsAt.set (CellsAt.set (CellsAt.set (CellsAt.set (Fr_1) 0 (.int .i64 u.re)) 1 (.int .i64 u.im)) 2 (.int .i64 p)) 3 (.int .i64 q)).alloc _
 have Yu_p1 : CellsAt uf (w1.heap.size) 50 #[.int .i64 (u).re, .int .i64 (u).im] := by rw [hqp1]; first | exact CellsAt.newAt ((((w1.setCell ⟨w.heap.size + 1, 0, none⟩ (.int .i64 u.re)).setCell ⟨w.heap.size + 1, 1, none⟩ (.int .i64 u.im)).setCell ⟨w.heap.size + 1, 2, none⟩ (.int .i64 p)).setCell ⟨w.heap.size + 1, 3, none⟩ (.int .i64 q)) 50 #[.int .i64 (u).re, .int .i64 (u).im] (B := w1.heap.size) (by simp) | simpa using CellsAt.newAt ((((w1.setCell ⟨w.heap.size + 1, 0, none⟩ (.int .i64 u.re)).setCell ⟨w.heap.size + 1, 1, none⟩ (.int .i64 u.im)).setCell ⟨w.heap.size + 1, 2, none⟩ (.int .i64 p)).setCell ⟨w.heap.size + 1, 3, none⟩ (.int .i64 q)) 50 #[.int .i64 (u).re, .int .i64 (u).im] (B := w1.heap.size) (by simp)
 have yp1 : Gr w uf := by rw [hqp1]; exact (((((z1).setCell (by first | omega | (simp only; omega)) _).setCell (by first | omega | (simp only; omega)) _).setCell (by first | omega | (simp only; omega)) _).setCell (by first | omega | (simp only; omega)) _).alloc _ _
 rw [← hqp1]
 clear hqp1
 obtain ⟨cr0, cr1, cr2, cr3⟩ := Yr_p1.t4
 refine bodyPost_ret (v := .agg #[.int .i64 u.re, .int .i64 u.im, .int .i64 p, .int .i64 q]) ?_ rfl ⟨rfl, yp1⟩
 simp [results, Tryz.results117, go_sem, *]
set_option maxHeartbeats 1000000 in
theorem dTold_of (a b c s z : Gi) (H1 : CR 129 #[.agg #[.int .i64 (b).re, .int .i64 (b).im], .int .i64 20, .int .i64 0] (.tuple #[.agg #[.int .i64 (c).re, .int .i64 (c).im], .int .i64 0])) (H2 : CR 126 #[.agg #[.int .i64 (a).re, .int .i64 (a).im], .agg #[.int .i64 (c).re, .int .i64 (c).im]] (.tuple #[.agg #[.int .i64 (s).re, .int .i64 (s).im], .int .i64 0])) (H3 : CR 129 #[.agg #[.int .i64 (s).re, .int .i64 (s).im], .int .i64 12, .int .i64 0] (.tuple #[.agg #[.int .i64 (z).re, .int .i64 (z).im], .int .i64 0])) (w : World) :
 Calls Tryz.prog 119 #[.agg #[.int .i64 (a).re, .int .i64 (a).im, .int .i64 (b).re, .int .i64 (b).im]] w fun e w' => e = .returned (.agg #[.int .i64 (z).re, .int .i64 (z).im]) ∧ Gr w w' := by
 go_enter Tryz.func119, Tryz.ntmps119
 go_wp2_with fail
 obtain ⟨u0, hU⟩ : ∃ uu, uu = ((w.alloc (.cells #[.int .i64 (a).re, .int .i64 (a).im, .int .i64 (b).re, .int .i64 (b).im] 145)).alloc (.cells #[.int .i64 0, .int .i64 0] 50)) := ⟨_, rfl⟩
 have ⟨gu, R0, R1⟩ := lay2 hU
 rw [← hU]
 clear hU
 have lu := R0.lt
 have lr := R1.lt
 obtain ⟨cu0, cu1, cu2, cu3⟩ := R0.t4
 go_wp2_with fail
 clear cu0 cu1 cu2 cu3
 refine (H1.out _).mono ?_
 rintro e w1 ⟨rfl, g1⟩
 have ⟨Fu_1, lu_1⟩ := CellsAt.gl (R0) g1
 have ⟨Fr_1, lr_1⟩ := CellsAt.gl (R1) g1
 have z1 := (gu).trans g1
 clear R0 R1 gu g1
 obtain ⟨cu0, cu1, cu2, cu3⟩ := Fu_1.t4
 go_wp2_with fail
 clear cu0 cu1 cu2 cu3
 refine (H2.out _).mono ?_
 rintro e w2 ⟨rfl, g2⟩
 have ⟨Fu_2, lu_2⟩ := CellsAt.gl ((Fu_1).alloc _) g2
 have ⟨Fr_2, lr_2⟩ := CellsAt.gl ((Fr_1).alloc _) g2
 have ⟨Fc_2, lc_2⟩ := CellsAt.gl (CellsAt.new w1 50 #[.int .i64 (c).re, .int .i64 (c).im]) g2
 have z2 := ((z1).alloc _ _).trans g2
 clear g2
 go_wp2_with fail
 refine (H3.out _).mono ?_
 rintro e w3 ⟨rfl, g3⟩
 have ⟨Fu_3, lu_3⟩ := CellsAt.gl ((Fu_2).alloc _) g3
 have ⟨Fr_3, lr_3⟩ := CellsAt.gl ((Fr_2).alloc _) g3
 have ⟨Fc_3, lc_3⟩ := CellsAt.gl ((Fc_2).alloc _) g3
 have ⟨Fs_3, ls_3⟩ := CellsAt.gl (CellsAt.new w2 50 #[.int .i64 (s).re, .int .i64 (s).im]) g3
 have z3 := ((z2).alloc _ _).trans g3
 clear g3
 have mr0 := CellsAt.frozen (Fr_3) 0
 have cr0 := Fr_3.at 0
 have mr1 := CellsAt.frozen (Fr_3) 1
 have cr1 := Fr_3.at 1
 go_wp2_with fail
 clear mr0 cr0 mr1 cr1
 obtain ⟨uf, hqp1⟩ : ∃ zz, zz = (((w3.setCell ⟨w.heap.size + 1, 0, none⟩ (.int .i64 (z).re)).setCell ⟨w.heap.size + 1, 1, none⟩ (.int .i64 (z).im)).alloc (.cells #[.int .i64 (z).re, .int .i64 (z).im] 50)) := ⟨_, rfl⟩
 have Yu_p1 : CellsAt uf (w.heap.size) 145 #[.int .i64 (a).re, .int .i64 (a).im, .int .i64 (b).re, .int .i64 (b).im] := by rw [hqp1]; first | exact (((Fu_3).other (by omega) _ _).other (by omega) _ _).alloc _ | simpa using (((Fu_3).other (by omega) _ _).other (by omega) _ _).alloc _
 have Yr_p1 : CellsAt uf (w.heap.size + 1) 50 #[.int .i64 (z).re, .int .i64 (z).im] := by rw [hqp1]; first | exact (CellsAt.set2 (Fr_3) _ _).alloc _ | simpa using (CellsAt.set2 (Fr_3) _ _).alloc _
 have Yc_p1 : CellsAt uf (w1.heap.size) 50 #[.int .i64 (c).re, .int .i64 (c).im] := by rw [hqp1]; first | exact (((Fc_3).other (by omega) _ _).other (by omega) _ _).alloc _ | simpa using (((Fc_3).other (by omega) _ _).other (by omega) _ _).alloc _
 have Ys_p1 : CellsAt uf (w2.heap.size) 50 #[.int .i64 (s).re, .int .i64 (s).im] := by rw [hqp1]; first | exact (((Fs_3).other (by omega) _ _).other (by omega) _ _).alloc _ | simpa using (((Fs_3).other (by omega) _ _).other (by omega) _ _).alloc _
 have Yz_p1 : CellsAt uf (w3.heap.size) 50 #[.int .i64 (z).re, .int .i64 (z).im] := by rw [hqp1]; first | exact CellsAt.newAt ((w3.setCell ⟨w.heap.size + 1, 0, none⟩ (.int .i64 (z).re)).setCell ⟨w.heap.size + 1, 1, none⟩ (.int .i64 (z).im)) 50 #[.int .i64 (z).re, .int .i64 (z).im] (B := w3.heap.size) (by simp) | simpa using CellsAt.newAt ((w3.setCell ⟨w.heap.size + 1, 0, none⟩ (.int .i64 (z).re)).setCell ⟨w.heap.size + 1, 1, none⟩ (.int .i64 (z).im)) 50 #[.int .i64 (z).re, .int .i64 (z).im] (B := w3.heap.size) (by simp)
 have yp1 : Gr w uf := by rw [hqp1]; exact (((z3).setCell (by first | omega | (simp only; omega)) _).setCell (by first | omega | (simp only; omega)) _).alloc _ _
 rw [← hqp1]
 clear hqp1
 obtain ⟨cr0, cr1⟩ := Yr_p1.t2
 refine bodyPost_ret (v := .agg #[.int .i64 (z).re, .int .i64 (z).im]) ?_ rfl ⟨rfl, yp1⟩
 simp [results, Tryz.results119, go_sem, *]
set_option maxHeartbeats 4000000 in
theorem dPlus_of (sm0 sm1 a hf0 hf1 pr0 pr1 nw0 nw1 : Gi) (HT0 : CR 128 #[.agg #[.int .i64 (a).re, .int .i64 (a).im], .agg #[.int .i64 (hf0).re, .int .i64 (hf0).im]] (.tuple #[.agg #[.int .i64 (pr0).re, .int .i64 (pr0).im], .int .i64 0])) (HS0 : CR 126 #[.agg #[.int .i64 (sm0).re, .int .i64 (sm0).im], .agg #[.int .i64 (pr0).re, .int .i64 (pr0).im]] (.tuple #[.agg #[.int .i64 (nw0).re, .int .i64 (nw0).im], .int .i64 0])) (HT1 : CR 128 #[.agg #[.int .i64 (a).re, .int .i64 (a).im], .agg #[.int .i64 (hf1).re, .int .i64 (hf1).im]] (.tuple #[.agg #[.int .i64 (pr1).re, .int .i64 (pr1).im], .int .i64 0])) (HS1 : CR 126 #[.agg #[.int .i64 (sm1).re, .int .i64 (sm1).im], .agg #[.int .i64 (pr1).re, .int .i64 (pr1).im]] (.tuple #[.agg #[.int .i64 (nw1).re, .int .i64 (nw1).im], .int .i64 0])) (w : World) :
 Calls Tryz.prog 118 #[.agg #[.int .i64 (sm0).re, .int .i64 (sm0).im, .int .i64 (sm1).re, .int .i64 (sm1).im], .agg #[.int .i64 (a).re, .int .i64 (a).im], .agg #[.int .i64 (hf0).re, .int .i64 (hf0).im, .int .i64 (hf1).re, .int .i64 (hf1).im]] w fun e w' => e = .returned (.agg #[.int .i64 (nw0).re, .int .i64 (nw0).im, .int .i64 (nw1).re, .int .i64 (nw1).im]) ∧ Gr w w' := by
 go_enter Tryz.func118, Tryz.ntmps118
 go_wp2_with fail
 obtain ⟨u0, hU⟩ : ∃ uu, uu = ((((w.alloc (.cells #[.int .i64 (sm0).re, .int .i64 (sm0).im, .int .i64 (sm1).re, .int .i64 (sm1).im] 145)).alloc (.cells #[.int .i64 (a).re, .int .i64 (a).im] 50)).alloc (.cells #[.int .i64 (hf0).re, .int .i64 (hf0).im, .int .i64 (hf1).re, .int .i64 (hf1).im] 145)).alloc (.cells #[.int .i64 0, .int .i64 0, .int .i64 0, .int .i64 0] 145)) := ⟨_, rfl⟩
 have ⟨gu, R0, R1, R2, R3⟩ := lay4 hU
 rw [← hU]
 clear hU
 have ls := R0.lt
 have la := R1.lt
 have lh := R2.lt
 have lr := R3.lt
 obtain ⟨ch0, ch1, ch2, ch3⟩ := R2.t4
 go_wp2_with fail
 clear ch0 ch1 ch2 ch3
 have i0 : ∀ W, (Instr.index 145 (.agg #[.int .i64 (hf0).re, .int .i64 (hf0).im, .int .i64 (hf1).re, .int .i64 (hf1).im]) (.int .i64 0)).run Tryz.prog W = .ok (.agg #[.int .i64 (hf0).re, .int .i64 (hf0).im]) W := fun _ => by kernel_rfl
 have i1 : ∀ W, (Instr.index 145 (.agg #[.int .i64 (hf0).re, .int .i64 (hf0).im, .int .i64 (hf1).re, .int .i64 (hf1).im]) (.int .i64 1)).run Tryz.prog W = .ok (.agg #[.int .i64 (hf1).re, .int .i64 (hf1).im]) W := fun _ => by kernel_rfl
 refine wp_loop_rounds 3 ?_
 rw [rounds_succ]
 obtain ⟨ca0, ca1⟩ := R1.t2
 go_wp2_with fail
 clear ca0 ca1
 refine (HT0.out _).mono ?_
 rintro e w1 ⟨rfl, g1⟩
 have ⟨Fs_1, ls_1⟩ := CellsAt.gl ((R0).alloc _) g1
 have ⟨Fa_1, la_1⟩ := CellsAt.gl ((R1).alloc _) g1
 have ⟨Fh_1, lh_1⟩ := CellsAt.gl ((R2).alloc _) g1
 have ⟨Fr_1, lr_1⟩ := CellsAt.gl ((R3).alloc _) g1
 have ⟨Fx0_1, lx0_1⟩ := CellsAt.gl (CellsAt.new u0 50 #[.int .i64 (hf0).re, .int .i64 (hf0).im]) g1
 have z1 := ((gu).alloc _ _).trans g1
 clear g1
 go_wp2_with fail
 obtain ⟨uu0, hqp1⟩ : ∃ zz, zz = (w1.alloc (.cells #[.int .i64 (pr0).re, .int .i64 (pr0).im] 50)) := ⟨_, rfl⟩
 have Ys_p1 : CellsAt uu0 (w.heap.size) 145 #[.int .i64 (sm0).re, .int .i64 (sm0).im, .int .i64 (sm1).re, .int .i64 (sm1).im] := by rw [hqp1]; first | exact (Fs_1).alloc _ | simpa using (Fs_1).alloc _
 have Ya_p1 : CellsAt uu0 (w.heap.size + 1) 50 #[.int .i64 (a).re, .int .i64 (a).im] := by rw [hqp1]; first | exact (Fa_1).alloc _ | simpa using (Fa_1).alloc _
 have Yh_p1 : CellsAt uu0 (w.heap.size + 1 + 1) 145 #[.int .i64 (hf0).re, .int .i64 (hf0).im, .int .i64 (hf1).re, .int .i64 (hf1).im] := by rw [hqp1]; first | exact (Fh_1).alloc _ | simpa using (Fh_1).alloc _
 have Yr_p1 : CellsAt uu0 (w.heap.size + 1 + 1 + 1) 145 #[.int .i64 0, .int .i64 0, .int .i64 0, .int .i64 0] := by rw [hqp1]; first | exact (Fr_1).alloc _ | simpa using (Fr_1).alloc _
 have Yx0_p1 : CellsAt uu0 (u0.heap.size) 50 #[.int .i64 (hf0).re, .int .i64 (hf0).im] := by rw [hqp1]; first | exact (Fx0_1).alloc _ | simpa using (Fx0_1).alloc _
 have Ypp0_p1 : CellsAt uu0 (w1.heap.size) 50 #[.int .i64 (pr0).re, .int .i64 (pr0).im] := by rw [hqp1]; first | exact CellsAt.new w1 50 #[.int .i64 (pr0).re, .int .i64 (pr0).im] | simpa using CellsAt.new w1 50 #[.int .i64 (pr0).re, .int .i64 (pr0).im]
 have yp1 : Gr w uu0 := by rw [hqp1]; exact (z1).alloc _ _
 rw [← hqp1]
 clear hqp1
 have KS : ∀ W, GB (w.heap.size) uu0 W → (W.cell? ⟨w1.heap.size, 0, none⟩ = some (.int .i64 (pr0).re) ∧ W.cell? ⟨w1.heap.size, 1, none⟩ = some (.int .i64 (pr0).im)) := fun W hG => ⟨(GB.cellsAt hG Ypp0_p1 (by omega)).cell 0, (GB.cellsAt hG Ypp0_p1 (by omega)).cell 1⟩
 have hclG := gb_closed (w.heap.size) uu0
 try simp only [List.append_eq, List.cons_append, List.nil_append]
 refine wp_region_grow (S := GB (w.heap.size) uu0) rfl (GB.drew (GB.refl _ _)) ?_
 refine gT 0 hclG ?_
 refine gT 1 hclG ?_
 refine gT 2 hclG ?_
 refine gK 4 hclG KS ?_
 refine wpG_ready (rs := [3]) (by kernel_rfl) (by simp) (fun w2 g2 s2 => ?_)
 refine AllG.cons rfl (fun K hK => ?_) AllG.nil
 replace g2 := (Gr.drew (Gr.refl uu0)).trans g2
 have ⟨Fs_2, ls_2⟩ := CellsAt.gl (Ys_p1) g2
 have ⟨Fa_2, la_2⟩ := CellsAt.gl (Ya_p1) g2
 have ⟨Fh_2, lh_2⟩ := CellsAt.gl (Yh_p1) g2
 have ⟨Fr_2, lr_2⟩ := CellsAt.gl (Yr_p1) g2
 have ⟨Fx0_2, lx0_2⟩ := CellsAt.gl (Yx0_p1) g2
 have ⟨Fpp0_2, lpp0_2⟩ := CellsAt.gl (Ypp0_p1) g2
 have z2 := (yp1).trans g2
 clear Ys_p1 Ya_p1 Yh_p1 Yr_p1 Yx0_p1 Ypp0_p1 yp1 g2
 obtain ⟨cs0, cs1, cs2, cs3⟩ := Fs_2.t4
 go_simp
 clear cs0 cs1 cs2 cs3
 refine hK.out _ _ ?_ ?_
 ·exact s2
 clear hK K
 try simp only [Act.put, putS]
 refine wpG_call (i := 5) hclG rfl (by kernel_rfl) (by kernel_rfl) (by kernel_rfl) (fun _ _ _ h => h) (fun W _ => HS0.out W) (by rfl) ?_ ?_
 ·(intro w' hSw; go_simp; try with_reducible rfl)
 try simp only [Act.put, putS]
 refine gT 6 hclG ?_
 refine gT 7 hclG ?_
 refine gT 8 hclG ?_
 refine gT 9 hclG ?_
 refine wpG_ready (rs := [10]) (by kernel_rfl) (by simp) (fun w3 g3 s3 => ?_)
 refine AllG.cons rfl (fun K hK => ?_) AllG.nil
 have ⟨Fs_3, ls_3⟩ := CellsAt.gl (Fs_2) g3
 have ⟨Fa_3, la_3⟩ := CellsAt.gl (Fa_2) g3
 have ⟨Fh_3, lh_3⟩ := CellsAt.gl (Fh_2) g3
 have ⟨Fr_3, lr_3⟩ := CellsAt.gl (Fr_2) g3
 have ⟨Fx0_3, lx0_3⟩ := CellsAt.gl (Fx0_2) g3
 have ⟨Fpp0_3, lpp0_3⟩ := CellsAt.gl (Fpp0_2) g3
 have z3 := (z2).trans g3
 clear Fs_2 Fa_2 Fh_2 Fr_2 Fx0_2 Fpp0_2 z2 g3
 have ms0 := CellsAt.frozen (Fs_3) 0
 have cs0 := Fs_3.at 0
 have ms1 := CellsAt.frozen (Fs_3) 1
 have cs1 := Fs_3.at 1
 have ms2 := CellsAt.frozen (Fs_3) 2
 have cs2 := Fs_3.at 2
 have ms3 := CellsAt.frozen (Fs_3) 3
 have cs3 := Fs_3.at 3
 go_simp
 clear ms0 cs0 ms1 cs1 ms2 cs2 ms3 cs3
 refine hK.out _ _ ?_ ?_
 ·exact (GB.set (GB.set s3 _ _) _ _)
 clear hK K
 try simp only [Act.put, putS]
 refine wpG_done (by kernel_rfl) (fun w4 g4 => ?_) _
 have Fs_4 : CellsAt w4 (w.heap.size) 145 #[.int .i64 (nw0).re, .int .i64 (nw0).im, .int .i64 (sm1).re, .int .i64 (sm1).im] := CellsAt.gr (CellsAt.set (CellsAt.set (Fs_3) 0 (.int .i64 (nw0).re)) 1 (.int .i64 (nw0).im)) g4
 have ls_4 := CellsAt.lt (Fs_4)
 have ⟨Fa_4, la_4⟩ := CellsAt.gl (((Fa_3).other (by omega) _ _).other (by omega) _ _) g4
 have ⟨Fh_4, lh_4⟩ := CellsAt.gl (((Fh_3).other (by omega) _ _).other (by omega) _ _) g4
 have ⟨Fr_4, lr_4⟩ := CellsAt.gl (((Fr_3).other (by omega) _ _).other (by omega) _ _) g4
 have ⟨Fx0_4, lx0_4⟩ := CellsAt.gl (((Fx0_3).other (by omega) _ _).other (by omega) _ _) g4
 have ⟨Fpp0_4, lpp0_4⟩ := CellsAt.gl (((Fpp0_3).other (by omega) _ _).other (by omega) _ _) g4
 have z4 := (((z3).setCell (by first | omega | (simp only; omega)) _).setCell (by first | omega | (simp only; omega)) _).trans g4
 clear g4
 clear hclG KS
 go_wp2_with fail
 rw [rounds_succ]
 obtain ⟨ca0, ca1⟩ := Fa_4.t2
 go_wp2_with fail
 clear ca0 ca1
 refine (HT1.out _).mono ?_
 rintro e w5 ⟨rfl, g5⟩
 have ⟨Fs_5, ls_5⟩ := CellsAt.gl ((Fs_4).alloc _) g5
 have ⟨Fa_5, la_5⟩ := CellsAt.gl ((Fa_4).alloc _) g5
 have ⟨Fh_5, lh_5⟩ := CellsAt.gl ((Fh_4).alloc _) g5
 have ⟨Fr_5, lr_5⟩ := CellsAt.gl ((Fr_4).alloc _) g5
 have ⟨Fx1_5, lx1_5⟩ := CellsAt.gl (CellsAt.new w4 50 #[.int .i64 (hf1).re, .int .i64 (hf1).im]) g5
 have z5 := ((z4).alloc _ _).trans g5
 clear g5
 go_wp2_with fail
 obtain ⟨uu1, hqp2⟩ : ∃ zz, zz = (w5.alloc (.cells #[.int .i64 (pr1).re, .int .i64 (pr1).im] 50)) := ⟨_, rfl⟩
 have Ys_p2 : CellsAt uu1 (w.heap.size) 145 #[.int .i64 (nw0).re, .int .i64 (nw0).im, .int .i64 (sm1).re, .int .i64 (sm1).im] := by rw [hqp2]; first | exact (Fs_5).alloc _ | simpa using (Fs_5).alloc _
 have Ya_p2 : CellsAt uu1 (w.heap.size + 1) 50 #[.int .i64 (a).re, .int .i64 (a).im] := by rw [hqp2]; first | exact (Fa_5).alloc _ | simpa using (Fa_5).alloc _
 have Yh_p2 : CellsAt uu1 (w.heap.size + 1 + 1) 145 #[.int .i64 (hf0).re, .int .i64 (hf0).im, .int .i64 (hf1).re, .int .i64 (hf1).im] := by rw [hqp2]; first | exact (Fh_5).alloc _ | simpa using (Fh_5).alloc _
 have Yr_p2 : CellsAt uu1 (w.heap.size + 1 + 1 + 1) 145 #[.int .i64 0, .int .i64 0, .int .i64 0, .int .i64 0] := by rw [hqp2]; first | exact (Fr_5).alloc _ | simpa using (Fr_5).alloc _
 have Yx1_p2 : CellsAt uu1 (w4.heap.size) 50 #[.int .i64 (hf1).re, .int .i64 (hf1).im] := by rw [hqp2]; first | exact (Fx1_5).alloc _ | simpa using (Fx1_5).alloc _
 have Ypp1_p2 : CellsAt uu1 (w5.heap.size) 50 #[.int .i64 (pr1).re, .int .i64 (pr1).im] := by rw [hqp2]; first | exact CellsAt.new w5 50 #[.int .i64 (pr1).re, .int .i64 (pr1).im] | simpa using CellsAt.new w5 50 #[.int .i64 (pr1).re, .int .i64 (pr1).im]
 have yp2 : Gr w uu1 := by rw [hqp2]; exact (z5).alloc _ _
 rw [← hqp2]
 clear hqp2
 have KS : ∀ W, GB (w.heap.size) uu1 W → (W.cell? ⟨w5.heap.size, 0, none⟩ = some (.int .i64 (pr1).re) ∧ W.cell? ⟨w5.heap.size, 1, none⟩ = some (.int .i64 (pr1).im)) := fun W hG => ⟨(GB.cellsAt hG Ypp1_p2 (by omega)).cell 0, (GB.cellsAt hG Ypp1_p2 (by omega)).cell 1⟩
 have hclG := gb_closed (w.heap.size) uu1
 try simp only [List.append_eq, List.cons_append, List.nil_append]
 refine wp_region_grow (S := GB (w.heap.size) uu1) rfl (GB.drew (GB.refl _ _)) ?_
 refine gT 0 hclG ?_
 refine gT 1 hclG ?_
 refine gT 2 hclG ?_
 refine gK 4 hclG KS ?_
 refine wpG_ready (rs := [3]) (by kernel_rfl) (by simp) (fun w6 g6 s6 => ?_)
 refine AllG.cons rfl (fun K hK => ?_) AllG.nil
 replace g6 := (Gr.drew (Gr.refl uu1)).trans g6
 have ⟨Fs_6, ls_6⟩ := CellsAt.gl (Ys_p2) g6
 have ⟨Fa_6, la_6⟩ := CellsAt.gl (Ya_p2) g6
 have ⟨Fh_6, lh_6⟩ := CellsAt.gl (Yh_p2) g6
 have ⟨Fr_6, lr_6⟩ := CellsAt.gl (Yr_p2) g6
 have ⟨Fx1_6, lx1_6⟩ := CellsAt.gl (Yx1_p2) g6
 have ⟨Fpp1_6, lpp1_6⟩ := CellsAt.gl (Ypp1_p2) g6
 have z6 := (yp2).trans g6
 clear Ys_p2 Ya_p2 Yh_p2 Yr_p2 Yx1_p2 Ypp1_p2 yp2 g6
 obtain ⟨cs0, cs1, cs2, cs3⟩ := Fs_6.t4
 go_simp
 clear cs0 cs1 cs2 cs3
 refine hK.out _ _ ?_ ?_
 ·exact s6
 clear hK K
 try simp only [Act.put, putS]
 refine wpG_call (i := 5) hclG rfl (by kernel_rfl) (by kernel_rfl) (by kernel_rfl) (fun _ _ _ h => h) (fun W _ => HS1.out W) (by rfl) ?_ ?_
 ·(intro w' hSw; go_simp; try with_reducible rfl)
 try simp only [Act.put, putS]
 refine gT 6 hclG ?_
 refine gT 7 hclG ?_
 refine gT 8 hclG ?_
 refine gT 9 hclG ?_
 refine wpG_ready (rs := [10]) (by kernel_rfl) (by simp) (fun w7 g7 s7 => ?_)
 refine AllG.cons rfl (fun K hK => ?_) AllG.nil
 have ⟨Fs_7, ls_7⟩ := CellsAt.gl (Fs_6) g7
 have ⟨Fa_7, la_7⟩ := CellsAt.gl (Fa_6) g7
 have ⟨Fh_7, lh_7⟩ := CellsAt.gl (Fh_6) g7
 have ⟨Fr_7, lr_7⟩ := CellsAt.gl (Fr_6) g7
 have ⟨Fx1_7, lx1_7⟩ := CellsAt.gl (Fx1_6) g7
 have ⟨Fpp1_7, lpp1_7⟩ := CellsAt.gl (Fpp1_6) g7
 have z7 := (z6).trans g7
 clear Fs_6 Fa_6 Fh_6 Fr_6 Fx1_6 Fpp1_6 z6 g7
 have ms0 := CellsAt.frozen (Fs_7) 0
 have cs0 := Fs_7.at 0
 have ms1 := CellsAt.frozen (Fs_7) 1
 have cs1 := Fs_7.at 1
 have ms2 := CellsAt.frozen (Fs_7) 2
 have cs2 := Fs_7.at 2
 have ms3 := CellsAt.frozen (Fs_7) 3
 have cs3 := Fs_7.at 3
 go_simp
 clear ms0 cs0 ms1 cs1 ms2 cs2 ms3 cs3
 refine hK.out _ _ ?_ ?_
 ·exact (GB.set (GB.set s7 _ _) _ _)
 clear hK K
 try simp only [Act.put, putS]
 refine wpG_done (by kernel_rfl) (fun w8 g8 => ?_) _
 have Fs_8 : CellsAt w8 (w.heap.size) 145 #[.int .i64 (nw0).re, .int .i64 (nw0).im, .int .i64 (nw1).re, .int .i64 (nw1).im] := CellsAt.gr (CellsAt.set (CellsAt.set (Fs_7) 2 (.int .i64 (nw1).re)) 3 (.int .i64 (nw1).im)) g8
 have ls_8 := CellsAt.lt (Fs_8)
 have ⟨Fa_8, la_8⟩ := CellsAt.gl (((Fa_7).other (by omega) _ _).other (by omega) _ _) g8
 have ⟨Fh_8, lh_8⟩ := CellsAt.gl (((Fh_7).other (by omega) _ _).other (by omega) _ _) g8
 have ⟨Fr_8, lr_8⟩ := CellsAt.gl (((Fr_7).other (by omega) _ _).other (by omega) _ _) g8
 have ⟨Fx1_8, lx1_8⟩ := CellsAt.gl (((Fx1_7).other (by omega) _ _).other (by omega) _ _) g8
 have ⟨Fpp1_8, lpp1_8⟩ := CellsAt.gl (((Fpp1_7).other (by omega) _ _).other (by omega) _ _) g8
 have z8 := (((z7).setCell (by first | omega | (simp only; omega)) _).setCell (by first | omega | (simp only; omega)) _).trans g8
 clear g8
 clear hclG KS
 go_wp2_with fail
 rw [rounds_succ]
 obtain ⟨cs0, cs1, cs2, cs3⟩ := Fs_8.t4
 have mr0 := CellsAt.frozen (Fr_8) 0
 have cr0 := Fr_8.at 0
 have mr1 := CellsAt.frozen (Fr_8) 1
 have cr1 := Fr_8.at 1
 have mr2 := CellsAt.frozen (Fr_8) 2
 have cr2 := Fr_8.at 2
 have mr3 := CellsAt.frozen (Fr_8) 3
 have cr3 := Fr_8.at 3
 go_wp2_with fail
 clear cs0 cs1 cs2 cs3 mr0 cr0 mr1 cr1 mr2 cr2 mr3 cr3
 obtain ⟨uf, hqp3⟩ : ∃ zz, zz = ((((w8.setCell ⟨w.heap.size + 1 + 1 + 1, 0, none⟩ (.int .i64 (nw0).re)).setCell ⟨w.heap.size + 1 + 1 + 1, 1, none⟩ (.int .i64 (nw0).im)).setCell ⟨w.heap.size + 1 + 1 + 1, 2, none⟩ (.int .i64 (nw1).re)).setCell ⟨w.heap.size + 1 + 1 + 1, 3, none⟩ (.int .i64 (nw1).im)) := ⟨_, rfl⟩
 have Ys_p3 : CellsAt uf (w.heap.size) 145 #[.int .i64 (nw0).re, .int .i64 (nw0).im, .int .i64 (nw1).re, .int .i64 (nw1).im] := by rw [hqp3]; first | exact ((((Fs_8).other (by omega) _ _).other (by omega) _ _).other (by omega) _ _).other (by omega) _ _ | simpa using ((((Fs_8).other (by omega) _ _).other (by omega) _ _).other (by omega) _ _).other (by omega) _ _
 have Ya_p3 : CellsAt uf (w.heap.size + 1) 50 #[.int .i64 (a).re, .int .i64 (a).im] := by rw [hqp3]; first | exact ((((Fa_8).other (by omega) _ _).other (by omega) _ _).other (by omega) _ _).other (by omega) _ _ | simpa using ((((Fa_8).other (by omega) _ _).other (by omega) _ _).other (by omega) _ _).other (by omega) _ _
 have Yh_p3 : CellsAt uf (w.heap.size + 1 + 1) 145 #[.int .i64 (hf0).re, .int .i64 (hf0).im, .int .i64 (hf1).re, .int .i64 (hf1).im] := by rw [hqp3]; first | exact ((((Fh_8).other (by omega) _ _).other (by omega) _ _).other (by omega) _ _).other (by omega) _ _ | simpa using ((((Fh_8).other (by omega) _ _).other (by omega) _ _).other (by omega) _ _).other (by omega) _ _
 have Yr_p3 : CellsAt uf (w.heap.size + 1 + 1 + 1) 145 #[.int .i64 (nw0).re, .int .i64 (nw0).im, .int .i64 (nw1).re, .int .i64 (nw1).im] := by rw [hqp3]; first | exact CellsAt.set (CellsAt.set (CellsAt.set (CellsAt.set (Fr_8) 0 (.int .i64 (nw0).re)) 1 (.int .i64 (nw0).im)) 2 (.int .i64 (nw1).re)) 3 (.int .i64 (nw1).im) | simpa using CellsAt.set (CellsAt.set (CellsAt.set (CellsAt.set (Fr_8) 0 (.int .i64 (nw0).re)) 1 (.int .i64 (nw0).im)) 2 (.int .i64 (nw1).re)) 3 (.int .i64 (nw1).im)
 have yp3 : Gr w uf := by rw [hqp3]; exact ((((z8).setCell (by first | omega | (simp only; omega)) _).setCell (by first | omega | (simp only; omega)) _).setCell (by first | omega | (simp only; omega)) _).setCell (by first | omega | (simp only; omega)) _
 rw [← hqp3]
 clear hqp3
 obtain ⟨cr0, cr1, cr2, cr3⟩ := Yr_p3.t4
 refine bodyPost_ret (v := .agg #[.int .i64 (nw0).re, .int .i64 (nw0).im, .int .i64 (nw1).re, .int .i64 (nw1).im]) ?_ rfl ⟨rfl, yp3⟩
 simp [results, Tryz.results118, go_sem, *]
end
end Go.Proofs.YtdignnmpfkgkoaaGreat
