import Derived.Test.YtablflakcaimmaaGreatFftRunsS21
import Derived.Test.YtablflakcaimmaaGreatFftRunsS33
namespace Go.Proofs.YtablflakcaimmaaGreat
section
open Go.ChangeShapes Go.WideShapes Go.ChangeAt Go.RowKit
set_option linter.unusedVariables false
set_option linter.unusedSimpArgs false
set_option maxRecDepth 100000
theorem rturn12_gi (a : Gi) (q : Int) (h : a.re.natAbs ≤ 4611686018427387904 ∧ a.im.natAbs ≤ 4611686018427387904) (w : World) :
 CW 97 #[.agg #[.int .i64 (a).re, .int .i64 (a).im], .int .i64 q] w (.agg #[.int .i64 (a.turn q).re, .int .i64 (a.turn q).im]) :=by
 delta CW
 have h0 : wrap64 (-a.re) = -a.re := IntWalk.wrap64_in _ (by omega)
 have h1 : wrap64 (-a.im) = -a.im := IntWalk.wrap64_in _ (by omega)
 have ht := tmod4 q
 unfold Gi.turn
 rcases q4g q with hm | hm | hm | hm <;> rw [hm] at ht <;> simp only [hm]
 ·exact rturn_0 a.re a.im q _ _ _ h0 h1 rfl (by omega) w
 ·exact rturn_1 a.re a.im q _ _ _ h0 h1 rfl (by omega) w
 ·exact rturn_2 a.re a.im q _ _ _ h0 h1 rfl (by omega) w
 ·exact rturn_3 a.re a.im q _ _ _ h0 h1 rfl (by omega) w
theorem rless_gi (a b : Gi) (h0 : -9223372036854775808 ≤ a.re - b.re ∧ a.re - b.re ≤ 9223372036854775807) (h1 : -9223372036854775808 ≤ a.im - b.im ∧ a.im - b.im ≤ 9223372036854775807) (w : World) :
 Calls Tryz.prog 65 #[.agg #[.int .i64 (a).re, .int .i64 (a).im], .agg #[.int .i64 (b).re, .int .i64 (b).im]] w fun e w' => e = .returned (.agg #[.int .i64 (gsub a b).re, .int .i64 (gsub a b).im]) ∧ Gr w w' :=
 rless_c a.re a.im b.re b.im _ _ (IntWalk.wrap64_in _ h0) (IntWalk.wrap64_in _ h1) w
theorem scale12_c (a : Gi) (bits : Nat) (hb : bits ≤ 30) (ha : Bd 2147483648 a) (w : World) :
 CW 98 #[.agg #[.int .i64 (a).re, .int .i64 (a).im], .int .i64 bits] w (.agg #[.int .i64 (gscale bits a).re, .int .i64 (gscale bits a).im]) :=by
 delta CW
 have h1 : (2 : Nat) ^ bits ≤ 2 ^ 30 := Nat.pow_le_pow_right (by decide) hb
 have hc : ((2 ^ bits : Nat) : Int) = 2 ^ bits := by rw [Int.natCast_pow]; rfl
 have hp := pow_pos2 bits
 have h2 : (2 : Int) ^ bits ≤ 1073741824 := by omega
 have l := (Bd.scale ha bits).le
 have l0 : wrap64 (a.re * 2 ^ bits) = (gscale bits a).re := IntWalk.wrap64_in _ (by unfold gscale at l; simp only at l; omega)
 have l1 : wrap64 (a.im * 2 ^ bits) = (gscale bits a).im := IntWalk.wrap64_in _ (by unfold gscale at l; simp only at l; omega)
 have HP := Lib.hid (pow08_c' bits (2 ^ bits) rfl (by omega))
 generalize gscale bits a = r at *
 generalize (2 : Int) ^ bits = P at *
 clear h1 hc hp h2 l hb ha
 go_enter Tryz.func98, Tryz.ntmps98
 go_wp2_with (go_at_call 26; refine (HP.out _).mono ?_; rintro e wz ⟨rfl, rfl⟩)
 refine bodyPost_ret (v := .agg #[.int .i64 r.re, .int .i64 r.im]) ?_ rfl ⟨rfl, ?_⟩
 ·simp [results, Tryz.results98, go_sem]
 ·exact by repeat (first | exact Gr.refl _ | assumption | apply Gr.drew | apply Gr.alloc | (refine Gr.setCell ?_ (by first | (simp; done) | (simp; omega)) _))
set_option maxHeartbeats 4000000 in
theorem rJoin_true_0_of (bits mo b1 b2 : Int) (ju jv jy jz ja jc t t3 p d dd U V s o : Gi) (h1 : wrap64 (bits + 1) = b1) (h2 : wrap64 (bits + 2) = b2)
 (HT : CR 96 #[.agg #[.int .i64 (jy).re, .int .i64 (jy).im], .agg #[.int .i64 (ja).re, .int .i64 (ja).im]] (.agg #[.int .i64 (t).re, .int .i64 (t).im])) (HT3 : CR 96 #[.agg #[.int .i64 (jz).re, .int .i64 (jz).im], .agg #[.int .i64 (jc).re, .int .i64 (jc).im]] (.agg #[.int .i64 (t3).re, .int .i64 (t3).im])) (HP : CR 64 #[.agg #[.int .i64 (t).re, .int .i64 (t).im], .agg #[.int .i64 (t3).re, .int .i64 (t3).im]] (.agg #[.int .i64 (p).re, .int .i64 (p).im])) (HL : CR 65 #[.agg #[.int .i64 (t).re, .int .i64 (t).im], .agg #[.int .i64 (t3).re, .int .i64 (t3).im]] (.agg #[.int .i64 (d).re, .int .i64 (d).im]))
 (HN : CR 97 #[.agg #[.int .i64 (d).re, .int .i64 (d).im], .int .i64 1] (.agg #[.int .i64 (dd).re, .int .i64 (dd).im])) (HU : CR 98 #[.agg #[.int .i64 (ju).re, .int .i64 (ju).im], .int .i64 b1] (.agg #[.int .i64 (U).re, .int .i64 (U).im])) (HV : CR 98 #[.agg #[.int .i64 (jv).re, .int .i64 (jv).im], .int .i64 b1] (.agg #[.int .i64 (V).re, .int .i64 (V).im]))
 (HS : CR 64 #[.agg #[.int .i64 (U).re, .int .i64 (U).im], .agg #[.int .i64 (p).re, .int .i64 (p).im]] (.agg #[.int .i64 (s).re, .int .i64 (s).im])) (HF : CR 63 #[.agg #[.int .i64 (s).re, .int .i64 (s).im], .int .i64 b2, .int .i64 mo] (.agg #[.int .i64 (o).re, .int .i64 (o).im])) (w : World) :
 CW 68 #[.agg #[.int .i64 ju.re, .int .i64 ju.im, .int .i64 jv.re, .int .i64 jv.im, .int .i64 jy.re, .int .i64 jy.im, .int .i64 jz.re, .int .i64 jz.im, .int .i64 ja.re, .int .i64 ja.im, .int .i64 jc.re, .int .i64 jc.im], .int .i64 0, .int .i64 bits, .int .i64 mo, .bool true] w (.agg #[.int .i64 (o).re, .int .i64 (o).im]) :=by
 delta CW
 go_enter Tryz.func68, Tryz.ntmps68
 go_wp2_with fail
 obtain ⟨u0, hU⟩ : ∃ uu, uu = ((w.alloc (.cells #[.int .i64 ju.re, .int .i64 ju.im, .int .i64 jv.re, .int .i64 jv.im, .int .i64 jy.re, .int .i64 jy.im, .int .i64 jz.re, .int .i64 jz.im, .int .i64 ja.re, .int .i64 ja.im, .int .i64 jc.re, .int .i64 jc.im] 103)).alloc (.cells #[.int .i64 0, .int .i64 0] 55)) := ⟨_, rfl⟩
 have ⟨gu, R0, R1⟩ := lay2 hU
 rw [← hU]
 clear hU
 have lj := R0.lt
 have lr := R1.lt
 refine (HT.out _).mono ?_
 rintro e w1 ⟨rfl, g1⟩
 have ⟨Fj_1, lj_1⟩ := R0.gl g1
 have ⟨Fr_1, lr_1⟩ := R1.gl g1
 have z1 := gu.trans g1
 clear R0 R1 gu g1
 obtain ⟨cj0, cj1, cj2, cj3, cj4, cj5, cj6, cj7, cj8, cj9, cj10, cj11⟩ := Fj_1.t12
 go_wp2_with fail
 clear cj0 cj1 cj2 cj3 cj4 cj5 cj6 cj7 cj8 cj9 cj10 cj11
 refine (HT3.out _).mono ?_
 rintro e w2 ⟨rfl, g2⟩
 have ⟨Fj_2, lj_2⟩ := CellsAt.gl (Fj_1.alloc _) g2
 have ⟨Fr_2, lr_2⟩ := CellsAt.gl (Fr_1.alloc _) g2
 have ⟨Ft_2, lt_2⟩ := CellsAt.gl (CellsAt.new w1 55 #[.int .i64 t.re, .int .i64 t.im]) g2
 have z2 := (z1.alloc _ _).trans g2
 clear g2
 obtain ⟨ct0, ct1⟩ := Ft_2.t2
 go_wp2_with fail
 clear ct0 ct1
 refine (HP.out _).mono ?_
 rintro e w3 ⟨rfl, g3⟩
 have ⟨Fj_3, lj_3⟩ := CellsAt.gl (Fj_2.alloc _) g3
 have ⟨Fr_3, lr_3⟩ := CellsAt.gl (Fr_2.alloc _) g3
 have ⟨Ft_3, lt_3⟩ := CellsAt.gl (Ft_2.alloc _) g3
 have ⟨Ft3_3, lt3_3⟩ := CellsAt.gl (CellsAt.new w2 55 #[.int .i64 t3.re, .int .i64 t3.im]) g3
 have z3 := (z2.alloc _ _).trans g3
 clear g3
 obtain ⟨ct0, ct1⟩ := Ft_3.t2
 obtain ⟨ct30, ct31⟩ := Ft3_3.t2
 go_wp2_with fail
 clear ct0 ct1 ct30 ct31
 refine (HL.out _).mono ?_
 rintro e w4 ⟨rfl, g4⟩
 have ⟨Fj_4, lj_4⟩ := CellsAt.gl (Fj_3.alloc _) g4
 have ⟨Fr_4, lr_4⟩ := CellsAt.gl (Fr_3.alloc _) g4
 have ⟨Ft_4, lt_4⟩ := CellsAt.gl (Ft_3.alloc _) g4
 have ⟨Ft3_4, lt3_4⟩ := CellsAt.gl (Ft3_3.alloc _) g4
 have ⟨Fp_4, lp_4⟩ := CellsAt.gl (CellsAt.new w3 55 #[.int .i64 p.re, .int .i64 p.im]) g4
 have z4 := (z3.alloc _ _).trans g4
 clear g4
 go_wp2_with fail
 refine (HN.out _).mono ?_
 rintro e w5 ⟨rfl, g5⟩
 have ⟨Fj_5, lj_5⟩ := CellsAt.gl (Fj_4.alloc _) g5
 have ⟨Fr_5, lr_5⟩ := CellsAt.gl (Fr_4.alloc _) g5
 have ⟨Fp_5, lp_5⟩ := CellsAt.gl (Fp_4.alloc _) g5
 have ⟨Fd_5, ld_5⟩ := CellsAt.gl (CellsAt.new w4 55 #[.int .i64 d.re, .int .i64 d.im]) g5
 have z5 := (z4.alloc _ _).trans g5
 clear g5
 obtain ⟨cj0, cj1, cj2, cj3, cj4, cj5, cj6, cj7, cj8, cj9, cj10, cj11⟩ := Fj_5.t12
 have md0 := CellsAt.frozen (Fd_5) 0
 have cd0 := Fd_5.at 0
 have md1 := CellsAt.frozen (Fd_5) 1
 have cd1 := Fd_5.at 1
 go_wp2_with fail
 clear cj0 cj1 cj2 cj3 cj4 cj5 cj6 cj7 cj8 cj9 cj10 cj11 md0 cd0 md1 cd1
 refine (HU.out _).mono ?_
 rintro e w6 ⟨rfl, g6⟩
 have ⟨Fj_6, lj_6⟩ := CellsAt.gl ((Fj_5.ot).ot) g6
 have ⟨Fr_6, lr_6⟩ := CellsAt.gl ((Fr_5.ot).ot) g6
 have ⟨Fp_6, lp_6⟩ := CellsAt.gl ((Fp_5.ot).ot) g6
 have ⟨Fd_6, ld_6⟩ := CellsAt.gl (CellsAt.set2 (Fd_5) _ _) g6
 have z6 := ((z5.sc _).sc _).trans g6
 clear g6
 obtain ⟨cd0, cd1⟩ := Fd_6.t2
 obtain ⟨cp0, cp1⟩ := Fp_6.t2
 have mr0 := CellsAt.frozen (Fr_6) 0
 have cr0 := Fr_6.at 0
 have mr1 := CellsAt.frozen (Fr_6) 1
 have cr1 := Fr_6.at 1
 go_wp2_with fail
 clear cd0 cd1 cp0 cp1 mr0 cr0 mr1 cr1
 refine (HS.out _).mono ?_
 rintro e w7 ⟨rfl, g7⟩
 have ⟨Fr_7, lr_7⟩ := CellsAt.gl (Fr_6.alloc _) g7
 have ⟨Fp_7, lp_7⟩ := CellsAt.gl (Fp_6.alloc _) g7
 have ⟨Fd_7, ld_7⟩ := CellsAt.gl (Fd_6.alloc _) g7
 have ⟨Fs_7, ls_7⟩ := CellsAt.gl (CellsAt.new w6 55 #[.int .i64 U.re, .int .i64 U.im]) g7
 have z7 := (z6.alloc _ _).trans g7
 clear g7
 have mr0 := CellsAt.frozen (Fr_7) 0
 have cr0 := Fr_7.at 0
 have mr1 := CellsAt.frozen (Fr_7) 1
 have cr1 := Fr_7.at 1
 go_wp2_with fail
 clear mr0 cr0 mr1 cr1
 refine (HF.out _).mono ?_
 rintro e w8 ⟨rfl, g8⟩
 have ⟨Fr_8, lr_8⟩ := Fr_7.gl g8
 have z8 := z7.trans g8
 clear Fr_7 z7 g8
 have mr0 := CellsAt.frozen (Fr_8) 0
 have cr0 := Fr_8.at 0
 have mr1 := CellsAt.frozen (Fr_8) 1
 have cr1 := Fr_8.at 1
 go_wp2_with fail
 clear mr0 cr0 mr1 cr1
 obtain ⟨uf, hqp1⟩ : ∃ zz, zz = ((w8.setCell ⟨w.heap.size + 1, 0, none⟩ (.int .i64 o.re)).setCell ⟨w.heap.size + 1, 1, none⟩ (.int .i64 o.im)) := ⟨_, rfl⟩
 have Yr_p1 : CellsAt uf (w.heap.size + 1) 55 #[.int .i64 o.re, .int .i64 o.im] := by rw [hqp1]; first | exact CellsAt.set2 (Fr_8) _ _ | simpa using CellsAt.set2 (Fr_8) _ _
 have yp1 : Gr w uf := by rw [hqp1]; exact (z8.sc _).sc _
 rw [← hqp1]
 clear hqp1
 obtain ⟨cr0, cr1⟩ := Yr_p1.t2
 refine bodyPost_ret (v := .agg #[.int .i64 o.re, .int .i64 o.im]) ?_ rfl ⟨rfl, yp1⟩
 simp [results, Tryz.results68, go_sem, *]
set_option maxHeartbeats 4000000 in
theorem rJoin_true_1_of (bits mo b1 b2 : Int) (ju jv jy jz ja jc t t3 p d dd U V s o : Gi) (h1 : wrap64 (bits + 1) = b1) (h2 : wrap64 (bits + 2) = b2)
 (HT : CR 96 #[.agg #[.int .i64 (jy).re, .int .i64 (jy).im], .agg #[.int .i64 (ja).re, .int .i64 (ja).im]] (.agg #[.int .i64 (t).re, .int .i64 (t).im])) (HT3 : CR 96 #[.agg #[.int .i64 (jz).re, .int .i64 (jz).im], .agg #[.int .i64 (jc).re, .int .i64 (jc).im]] (.agg #[.int .i64 (t3).re, .int .i64 (t3).im])) (HP : CR 64 #[.agg #[.int .i64 (t).re, .int .i64 (t).im], .agg #[.int .i64 (t3).re, .int .i64 (t3).im]] (.agg #[.int .i64 (p).re, .int .i64 (p).im])) (HL : CR 65 #[.agg #[.int .i64 (t).re, .int .i64 (t).im], .agg #[.int .i64 (t3).re, .int .i64 (t3).im]] (.agg #[.int .i64 (d).re, .int .i64 (d).im]))
 (HN : CR 97 #[.agg #[.int .i64 (d).re, .int .i64 (d).im], .int .i64 1] (.agg #[.int .i64 (dd).re, .int .i64 (dd).im])) (HU : CR 98 #[.agg #[.int .i64 (ju).re, .int .i64 (ju).im], .int .i64 b1] (.agg #[.int .i64 (U).re, .int .i64 (U).im])) (HV : CR 98 #[.agg #[.int .i64 (jv).re, .int .i64 (jv).im], .int .i64 b1] (.agg #[.int .i64 (V).re, .int .i64 (V).im]))
 (HS : CR 64 #[.agg #[.int .i64 (V).re, .int .i64 (V).im], .agg #[.int .i64 (dd).re, .int .i64 (dd).im]] (.agg #[.int .i64 (s).re, .int .i64 (s).im])) (HF : CR 63 #[.agg #[.int .i64 (s).re, .int .i64 (s).im], .int .i64 b2, .int .i64 mo] (.agg #[.int .i64 (o).re, .int .i64 (o).im])) (w : World) :
 CW 68 #[.agg #[.int .i64 ju.re, .int .i64 ju.im, .int .i64 jv.re, .int .i64 jv.im, .int .i64 jy.re, .int .i64 jy.im, .int .i64 jz.re, .int .i64 jz.im, .int .i64 ja.re, .int .i64 ja.im, .int .i64 jc.re, .int .i64 jc.im], .int .i64 1, .int .i64 bits, .int .i64 mo, .bool true] w (.agg #[.int .i64 (o).re, .int .i64 (o).im]) :=by
 delta CW
 go_enter Tryz.func68, Tryz.ntmps68
 go_wp2_with fail
 obtain ⟨u0, hU⟩ : ∃ uu, uu = ((w.alloc (.cells #[.int .i64 ju.re, .int .i64 ju.im, .int .i64 jv.re, .int .i64 jv.im, .int .i64 jy.re, .int .i64 jy.im, .int .i64 jz.re, .int .i64 jz.im, .int .i64 ja.re, .int .i64 ja.im, .int .i64 jc.re, .int .i64 jc.im] 103)).alloc (.cells #[.int .i64 0, .int .i64 0] 55)) := ⟨_, rfl⟩
 have ⟨gu, R0, R1⟩ := lay2 hU
 rw [← hU]
 clear hU
 have lj := R0.lt
 have lr := R1.lt
 refine (HT.out _).mono ?_
 rintro e w1 ⟨rfl, g1⟩
 have ⟨Fj_1, lj_1⟩ := R0.gl g1
 have ⟨Fr_1, lr_1⟩ := R1.gl g1
 have z1 := gu.trans g1
 clear R0 R1 gu g1
 obtain ⟨cj0, cj1, cj2, cj3, cj4, cj5, cj6, cj7, cj8, cj9, cj10, cj11⟩ := Fj_1.t12
 go_wp2_with fail
 clear cj0 cj1 cj2 cj3 cj4 cj5 cj6 cj7 cj8 cj9 cj10 cj11
 refine (HT3.out _).mono ?_
 rintro e w2 ⟨rfl, g2⟩
 have ⟨Fj_2, lj_2⟩ := CellsAt.gl (Fj_1.alloc _) g2
 have ⟨Fr_2, lr_2⟩ := CellsAt.gl (Fr_1.alloc _) g2
 have ⟨Ft_2, lt_2⟩ := CellsAt.gl (CellsAt.new w1 55 #[.int .i64 t.re, .int .i64 t.im]) g2
 have z2 := (z1.alloc _ _).trans g2
 clear g2
 obtain ⟨ct0, ct1⟩ := Ft_2.t2
 go_wp2_with fail
 clear ct0 ct1
 refine (HP.out _).mono ?_
 rintro e w3 ⟨rfl, g3⟩
 have ⟨Fj_3, lj_3⟩ := CellsAt.gl (Fj_2.alloc _) g3
 have ⟨Fr_3, lr_3⟩ := CellsAt.gl (Fr_2.alloc _) g3
 have ⟨Ft_3, lt_3⟩ := CellsAt.gl (Ft_2.alloc _) g3
 have ⟨Ft3_3, lt3_3⟩ := CellsAt.gl (CellsAt.new w2 55 #[.int .i64 t3.re, .int .i64 t3.im]) g3
 have z3 := (z2.alloc _ _).trans g3
 clear g3
 obtain ⟨ct0, ct1⟩ := Ft_3.t2
 obtain ⟨ct30, ct31⟩ := Ft3_3.t2
 go_wp2_with fail
 clear ct0 ct1 ct30 ct31
 refine (HL.out _).mono ?_
 rintro e w4 ⟨rfl, g4⟩
 have ⟨Fj_4, lj_4⟩ := CellsAt.gl (Fj_3.alloc _) g4
 have ⟨Fr_4, lr_4⟩ := CellsAt.gl (Fr_3.alloc _) g4
 have ⟨Ft_4, lt_4⟩ := CellsAt.gl (Ft_3.alloc _) g4
 have ⟨Ft3_4, lt3_4⟩ := CellsAt.gl (Ft3_3.alloc _) g4
 have ⟨Fp_4, lp_4⟩ := CellsAt.gl (CellsAt.new w3 55 #[.int .i64 p.re, .int .i64 p.im]) g4
 have z4 := (z3.alloc _ _).trans g4
 clear g4
 go_wp2_with fail
 refine (HN.out _).mono ?_
 rintro e w5 ⟨rfl, g5⟩
 have ⟨Fj_5, lj_5⟩ := CellsAt.gl (Fj_4.alloc _) g5
 have ⟨Fr_5, lr_5⟩ := CellsAt.gl (Fr_4.alloc _) g5
 have ⟨Fp_5, lp_5⟩ := CellsAt.gl (Fp_4.alloc _) g5
 have ⟨Fd_5, ld_5⟩ := CellsAt.gl (CellsAt.new w4 55 #[.int .i64 d.re, .int .i64 d.im]) g5
 have z5 := (z4.alloc _ _).trans g5
 clear g5
 obtain ⟨cj0, cj1, cj2, cj3, cj4, cj5, cj6, cj7, cj8, cj9, cj10, cj11⟩ := Fj_5.t12
 have md0 := CellsAt.frozen (Fd_5) 0
 have cd0 := Fd_5.at 0
 have md1 := CellsAt.frozen (Fd_5) 1
 have cd1 := Fd_5.at 1
 go_wp2_with fail
 clear cj0 cj1 cj2 cj3 cj4 cj5 cj6 cj7 cj8 cj9 cj10 cj11 md0 cd0 md1 cd1
 refine (HU.out _).mono ?_
 rintro e w6 ⟨rfl, g6⟩
 have ⟨Fj_6, lj_6⟩ := CellsAt.gl ((Fj_5.ot).ot) g6
 have ⟨Fr_6, lr_6⟩ := CellsAt.gl ((Fr_5.ot).ot) g6
 have ⟨Fp_6, lp_6⟩ := CellsAt.gl ((Fp_5.ot).ot) g6
 have ⟨Fd_6, ld_6⟩ := CellsAt.gl (CellsAt.set2 (Fd_5) _ _) g6
 have z6 := ((z5.sc _).sc _).trans g6
 clear g6
 obtain ⟨cj0, cj1, cj2, cj3, cj4, cj5, cj6, cj7, cj8, cj9, cj10, cj11⟩ := Fj_6.t12
 go_wp2_with fail
 clear cj0 cj1 cj2 cj3 cj4 cj5 cj6 cj7 cj8 cj9 cj10 cj11
 refine (HV.out _).mono ?_
 rintro e w7 ⟨rfl, g7⟩
 have ⟨Fj_7, lj_7⟩ := CellsAt.gl (Fj_6.alloc _) g7
 have ⟨Fr_7, lr_7⟩ := CellsAt.gl (Fr_6.alloc _) g7
 have ⟨Fp_7, lp_7⟩ := CellsAt.gl (Fp_6.alloc _) g7
 have ⟨Fd_7, ld_7⟩ := CellsAt.gl (Fd_6.alloc _) g7
 have ⟨Fs_7, ls_7⟩ := CellsAt.gl (CellsAt.new w6 55 #[.int .i64 U.re, .int .i64 U.im]) g7
 have z7 := (z6.alloc _ _).trans g7
 clear g7
 obtain ⟨cd0, cd1⟩ := Fd_7.t2
 obtain ⟨cp0, cp1⟩ := Fp_7.t2
 obtain ⟨cs0, cs1⟩ := Fs_7.t2
 obtain ⟨ms0, ms1⟩ := Fs_7.f2
 obtain ⟨mp0, mp1⟩ := Fp_7.f2
 go_wp2_with fail
 clear cd0 cd1 cp0 cp1 cs0 cs1 ms0 ms1 mp0 mp1
 refine (HS.out _).mono ?_
 rintro e w8 ⟨rfl, g8⟩
 have ⟨Fr_8, lr_8⟩ := CellsAt.gl ((((Fr_7.ot).ot).ot).ot) g8
 have ⟨Fp_8, lp_8⟩ := CellsAt.gl (CellsAt.set2 ((Fp_7.ot).ot) _ _) g8
 have ⟨Fd_8, ld_8⟩ := CellsAt.gl ((((Fd_7.ot).ot).ot).ot) g8
 have ⟨Fs_8, ls_8⟩ := CellsAt.gl (((CellsAt.set2 (Fs_7) _ _).ot).ot) g8
 have z8 := ((((z7.sc _).sc _).sc _).sc _).trans g8
 clear g8
 have mr0 := CellsAt.frozen (Fr_8) 0
 have cr0 := Fr_8.at 0
 have mr1 := CellsAt.frozen (Fr_8) 1
 have cr1 := Fr_8.at 1
 go_wp2_with fail
 clear mr0 cr0 mr1 cr1
 refine (HF.out _).mono ?_
 rintro e w9 ⟨rfl, g9⟩
 have ⟨Fr_9, lr_9⟩ := Fr_8.gl g9
 have z9 := z8.trans g9
 clear Fr_8 z8 g9
 have mr0 := CellsAt.frozen (Fr_9) 0
 have cr0 := Fr_9.at 0
 have mr1 := CellsAt.frozen (Fr_9) 1
 have cr1 := Fr_9.at 1
 go_wp2_with fail
 clear mr0 cr0 mr1 cr1
 obtain ⟨uf, hqp1⟩ : ∃ zz, zz = ((w9.setCell ⟨w.heap.size + 1, 0, none⟩ (.int .i64 o.re)).setCell ⟨w.heap.size + 1, 1, none⟩ (.int .i64 o.im)) := ⟨_, rfl⟩
 have Yr_p1 : CellsAt uf (w.heap.size + 1) 55 #[.int .i64 o.re, .int .i64 o.im] := by rw [hqp1]; first | exact CellsAt.set2 (Fr_9) _ _ | simpa using CellsAt.set2 (Fr_9) _ _
 have yp1 : Gr w uf := by rw [hqp1]; exact (z9.sc _).sc _
 rw [← hqp1]
 clear hqp1
 obtain ⟨cr0, cr1⟩ := Yr_p1.t2
 refine bodyPost_ret (v := .agg #[.int .i64 o.re, .int .i64 o.im]) ?_ rfl ⟨rfl, yp1⟩
 simp [results, Tryz.results68, go_sem, *]
set_option maxHeartbeats 4000000 in
theorem rJoin_true_2_of (bits mo b1 b2 : Int) (ju jv jy jz ja jc t t3 p d dd U V s o : Gi) (h1 : wrap64 (bits + 1) = b1) (h2 : wrap64 (bits + 2) = b2)
 (HT : CR 96 #[.agg #[.int .i64 (jy).re, .int .i64 (jy).im], .agg #[.int .i64 (ja).re, .int .i64 (ja).im]] (.agg #[.int .i64 (t).re, .int .i64 (t).im])) (HT3 : CR 96 #[.agg #[.int .i64 (jz).re, .int .i64 (jz).im], .agg #[.int .i64 (jc).re, .int .i64 (jc).im]] (.agg #[.int .i64 (t3).re, .int .i64 (t3).im])) (HP : CR 64 #[.agg #[.int .i64 (t).re, .int .i64 (t).im], .agg #[.int .i64 (t3).re, .int .i64 (t3).im]] (.agg #[.int .i64 (p).re, .int .i64 (p).im])) (HL : CR 65 #[.agg #[.int .i64 (t).re, .int .i64 (t).im], .agg #[.int .i64 (t3).re, .int .i64 (t3).im]] (.agg #[.int .i64 (d).re, .int .i64 (d).im]))
 (HN : CR 97 #[.agg #[.int .i64 (d).re, .int .i64 (d).im], .int .i64 1] (.agg #[.int .i64 (dd).re, .int .i64 (dd).im])) (HU : CR 98 #[.agg #[.int .i64 (ju).re, .int .i64 (ju).im], .int .i64 b1] (.agg #[.int .i64 (U).re, .int .i64 (U).im])) (HV : CR 98 #[.agg #[.int .i64 (jv).re, .int .i64 (jv).im], .int .i64 b1] (.agg #[.int .i64 (V).re, .int .i64 (V).im]))
 (HS : CR 65 #[.agg #[.int .i64 (U).re, .int .i64 (U).im], .agg #[.int .i64 (p).re, .int .i64 (p).im]] (.agg #[.int .i64 (s).re, .int .i64 (s).im])) (HF : CR 63 #[.agg #[.int .i64 (s).re, .int .i64 (s).im], .int .i64 b2, .int .i64 mo] (.agg #[.int .i64 (o).re, .int .i64 (o).im])) (w : World) :
 CW 68 #[.agg #[.int .i64 ju.re, .int .i64 ju.im, .int .i64 jv.re, .int .i64 jv.im, .int .i64 jy.re, .int .i64 jy.im, .int .i64 jz.re, .int .i64 jz.im, .int .i64 ja.re, .int .i64 ja.im, .int .i64 jc.re, .int .i64 jc.im], .int .i64 2, .int .i64 bits, .int .i64 mo, .bool true] w (.agg #[.int .i64 (o).re, .int .i64 (o).im]) :=by
 delta CW
 go_enter Tryz.func68, Tryz.ntmps68
 go_wp2_with fail
 obtain ⟨u0, hU⟩ : ∃ uu, uu = ((w.alloc (.cells #[.int .i64 ju.re, .int .i64 ju.im, .int .i64 jv.re, .int .i64 jv.im, .int .i64 jy.re, .int .i64 jy.im, .int .i64 jz.re, .int .i64 jz.im, .int .i64 ja.re, .int .i64 ja.im, .int .i64 jc.re, .int .i64 jc.im] 103)).alloc (.cells #[.int .i64 0, .int .i64 0] 55)) := ⟨_, rfl⟩
 have ⟨gu, R0, R1⟩ := lay2 hU
 rw [← hU]
 clear hU
 have lj := R0.lt
 have lr := R1.lt
 refine (HT.out _).mono ?_
 rintro e w1 ⟨rfl, g1⟩
 have ⟨Fj_1, lj_1⟩ := R0.gl g1
 have ⟨Fr_1, lr_1⟩ := R1.gl g1
 have z1 := gu.trans g1
 clear R0 R1 gu g1
 obtain ⟨cj0, cj1, cj2, cj3, cj4, cj5, cj6, cj7, cj8, cj9, cj10, cj11⟩ := Fj_1.t12
 go_wp2_with fail
 clear cj0 cj1 cj2 cj3 cj4 cj5 cj6 cj7 cj8 cj9 cj10 cj11
 refine (HT3.out _).mono ?_
 rintro e w2 ⟨rfl, g2⟩
 have ⟨Fj_2, lj_2⟩ := CellsAt.gl (Fj_1.alloc _) g2
 have ⟨Fr_2, lr_2⟩ := CellsAt.gl (Fr_1.alloc _) g2
 have ⟨Ft_2, lt_2⟩ := CellsAt.gl (CellsAt.new w1 55 #[.int .i64 t.re, .int .i64 t.im]) g2
 have z2 := (z1.alloc _ _).trans g2
 clear g2
 obtain ⟨ct0, ct1⟩ := Ft_2.t2
 go_wp2_with fail
 clear ct0 ct1
 refine (HP.out _).mono ?_
 rintro e w3 ⟨rfl, g3⟩
 have ⟨Fj_3, lj_3⟩ := CellsAt.gl (Fj_2.alloc _) g3
 have ⟨Fr_3, lr_3⟩ := CellsAt.gl (Fr_2.alloc _) g3
 have ⟨Ft_3, lt_3⟩ := CellsAt.gl (Ft_2.alloc _) g3
 have ⟨Ft3_3, lt3_3⟩ := CellsAt.gl (CellsAt.new w2 55 #[.int .i64 t3.re, .int .i64 t3.im]) g3
 have z3 := (z2.alloc _ _).trans g3
 clear g3
 obtain ⟨ct0, ct1⟩ := Ft_3.t2
 obtain ⟨ct30, ct31⟩ := Ft3_3.t2
 go_wp2_with fail
 clear ct0 ct1 ct30 ct31
 refine (HL.out _).mono ?_
 rintro e w4 ⟨rfl, g4⟩
 have ⟨Fj_4, lj_4⟩ := CellsAt.gl (Fj_3.alloc _) g4
 have ⟨Fr_4, lr_4⟩ := CellsAt.gl (Fr_3.alloc _) g4
 have ⟨Ft_4, lt_4⟩ := CellsAt.gl (Ft_3.alloc _) g4
 have ⟨Ft3_4, lt3_4⟩ := CellsAt.gl (Ft3_3.alloc _) g4
 have ⟨Fp_4, lp_4⟩ := CellsAt.gl (CellsAt.new w3 55 #[.int .i64 p.re, .int .i64 p.im]) g4
 have z4 := (z3.alloc _ _).trans g4
 clear g4
 go_wp2_with fail
 refine (HN.out _).mono ?_
 rintro e w5 ⟨rfl, g5⟩
 have ⟨Fj_5, lj_5⟩ := CellsAt.gl (Fj_4.alloc _) g5
 have ⟨Fr_5, lr_5⟩ := CellsAt.gl (Fr_4.alloc _) g5
 have ⟨Fp_5, lp_5⟩ := CellsAt.gl (Fp_4.alloc _) g5
 have ⟨Fd_5, ld_5⟩ := CellsAt.gl (CellsAt.new w4 55 #[.int .i64 d.re, .int .i64 d.im]) g5
 have z5 := (z4.alloc _ _).trans g5
 clear g5
 obtain ⟨cj0, cj1, cj2, cj3, cj4, cj5, cj6, cj7, cj8, cj9, cj10, cj11⟩ := Fj_5.t12
 have md0 := CellsAt.frozen (Fd_5) 0
 have cd0 := Fd_5.at 0
 have md1 := CellsAt.frozen (Fd_5) 1
 have cd1 := Fd_5.at 1
 go_wp2_with fail
 clear cj0 cj1 cj2 cj3 cj4 cj5 cj6 cj7 cj8 cj9 cj10 cj11 md0 cd0 md1 cd1
 refine (HU.out _).mono ?_
 rintro e w6 ⟨rfl, g6⟩
 have ⟨Fj_6, lj_6⟩ := CellsAt.gl ((Fj_5.ot).ot) g6
 have ⟨Fr_6, lr_6⟩ := CellsAt.gl ((Fr_5.ot).ot) g6
 have ⟨Fp_6, lp_6⟩ := CellsAt.gl ((Fp_5.ot).ot) g6
 have ⟨Fd_6, ld_6⟩ := CellsAt.gl (CellsAt.set2 (Fd_5) _ _) g6
 have z6 := ((z5.sc _).sc _).trans g6
 clear g6
 obtain ⟨cd0, cd1⟩ := Fd_6.t2
 obtain ⟨cp0, cp1⟩ := Fp_6.t2
 have mr0 := CellsAt.frozen (Fr_6) 0
 have cr0 := Fr_6.at 0
 have mr1 := CellsAt.frozen (Fr_6) 1
 have cr1 := Fr_6.at 1
 go_wp2_with fail
 clear cd0 cd1 cp0 cp1 mr0 cr0 mr1 cr1
 refine (HS.out _).mono ?_
 rintro e w7 ⟨rfl, g7⟩
 have ⟨Fr_7, lr_7⟩ := CellsAt.gl (Fr_6.alloc _) g7
 have ⟨Fp_7, lp_7⟩ := CellsAt.gl (Fp_6.alloc _) g7
 have ⟨Fd_7, ld_7⟩ := CellsAt.gl (Fd_6.alloc _) g7
 have ⟨Fs_7, ls_7⟩ := CellsAt.gl (CellsAt.new w6 55 #[.int .i64 U.re, .int .i64 U.im]) g7
 have z7 := (z6.alloc _ _).trans g7
 clear g7
 have mr0 := CellsAt.frozen (Fr_7) 0
 have cr0 := Fr_7.at 0
 have mr1 := CellsAt.frozen (Fr_7) 1
 have cr1 := Fr_7.at 1
 go_wp2_with fail
 clear mr0 cr0 mr1 cr1
 refine (HF.out _).mono ?_
 rintro e w8 ⟨rfl, g8⟩
 have ⟨Fr_8, lr_8⟩ := Fr_7.gl g8
 have z8 := z7.trans g8
 clear Fr_7 z7 g8
 have mr0 := CellsAt.frozen (Fr_8) 0
 have cr0 := Fr_8.at 0
 have mr1 := CellsAt.frozen (Fr_8) 1
 have cr1 := Fr_8.at 1
 go_wp2_with fail
 clear mr0 cr0 mr1 cr1
 obtain ⟨uf, hqp1⟩ : ∃ zz, zz = ((w8.setCell ⟨w.heap.size + 1, 0, none⟩ (.int .i64 o.re)).setCell ⟨w.heap.size + 1, 1, none⟩ (.int .i64 o.im)) := ⟨_, rfl⟩
 have Yr_p1 : CellsAt uf (w.heap.size + 1) 55 #[.int .i64 o.re, .int .i64 o.im] := by rw [hqp1]; first | exact CellsAt.set2 (Fr_8) _ _ | simpa using CellsAt.set2 (Fr_8) _ _
 have yp1 : Gr w uf := by rw [hqp1]; exact (z8.sc _).sc _
 rw [← hqp1]
 clear hqp1
 obtain ⟨cr0, cr1⟩ := Yr_p1.t2
 refine bodyPost_ret (v := .agg #[.int .i64 o.re, .int .i64 o.im]) ?_ rfl ⟨rfl, yp1⟩
 simp [results, Tryz.results68, go_sem, *]
set_option maxHeartbeats 4000000 in
theorem rJoin_true_3_of (bits mo b1 b2 : Int) (ju jv jy jz ja jc t t3 p d dd U V s o : Gi) (h1 : wrap64 (bits + 1) = b1) (h2 : wrap64 (bits + 2) = b2)
 (HT : CR 96 #[.agg #[.int .i64 (jy).re, .int .i64 (jy).im], .agg #[.int .i64 (ja).re, .int .i64 (ja).im]] (.agg #[.int .i64 (t).re, .int .i64 (t).im])) (HT3 : CR 96 #[.agg #[.int .i64 (jz).re, .int .i64 (jz).im], .agg #[.int .i64 (jc).re, .int .i64 (jc).im]] (.agg #[.int .i64 (t3).re, .int .i64 (t3).im])) (HP : CR 64 #[.agg #[.int .i64 (t).re, .int .i64 (t).im], .agg #[.int .i64 (t3).re, .int .i64 (t3).im]] (.agg #[.int .i64 (p).re, .int .i64 (p).im])) (HL : CR 65 #[.agg #[.int .i64 (t).re, .int .i64 (t).im], .agg #[.int .i64 (t3).re, .int .i64 (t3).im]] (.agg #[.int .i64 (d).re, .int .i64 (d).im]))
 (HN : CR 97 #[.agg #[.int .i64 (d).re, .int .i64 (d).im], .int .i64 1] (.agg #[.int .i64 (dd).re, .int .i64 (dd).im])) (HU : CR 98 #[.agg #[.int .i64 (ju).re, .int .i64 (ju).im], .int .i64 b1] (.agg #[.int .i64 (U).re, .int .i64 (U).im])) (HV : CR 98 #[.agg #[.int .i64 (jv).re, .int .i64 (jv).im], .int .i64 b1] (.agg #[.int .i64 (V).re, .int .i64 (V).im]))
 (HS : CR 65 #[.agg #[.int .i64 (V).re, .int .i64 (V).im], .agg #[.int .i64 (dd).re, .int .i64 (dd).im]] (.agg #[.int .i64 (s).re, .int .i64 (s).im])) (HF : CR 63 #[.agg #[.int .i64 (s).re, .int .i64 (s).im], .int .i64 b2, .int .i64 mo] (.agg #[.int .i64 (o).re, .int .i64 (o).im])) (w : World) :
 CW 68 #[.agg #[.int .i64 ju.re, .int .i64 ju.im, .int .i64 jv.re, .int .i64 jv.im, .int .i64 jy.re, .int .i64 jy.im, .int .i64 jz.re, .int .i64 jz.im, .int .i64 ja.re, .int .i64 ja.im, .int .i64 jc.re, .int .i64 jc.im], .int .i64 3, .int .i64 bits, .int .i64 mo, .bool true] w (.agg #[.int .i64 (o).re, .int .i64 (o).im]) :=by
 delta CW
 go_enter Tryz.func68, Tryz.ntmps68
 go_wp2_with fail
 obtain ⟨u0, hU⟩ : ∃ uu, uu = ((w.alloc (.cells #[.int .i64 ju.re, .int .i64 ju.im, .int .i64 jv.re, .int .i64 jv.im, .int .i64 jy.re, .int .i64 jy.im, .int .i64 jz.re, .int .i64 jz.im, .int .i64 ja.re, .int .i64 ja.im, .int .i64 jc.re, .int .i64 jc.im] 103)).alloc (.cells #[.int .i64 0, .int .i64 0] 55)) := ⟨_, rfl⟩
 have ⟨gu, R0, R1⟩ := lay2 hU
 rw [← hU]
 clear hU
 have lj := R0.lt
 have lr := R1.lt
 refine (HT.out _).mono ?_
 rintro e w1 ⟨rfl, g1⟩
 have ⟨Fj_1, lj_1⟩ := R0.gl g1
 have ⟨Fr_1, lr_1⟩ := R1.gl g1
 have z1 := gu.trans g1
 clear R0 R1 gu g1
 obtain ⟨cj0, cj1, cj2, cj3, cj4, cj5, cj6, cj7, cj8, cj9, cj10, cj11⟩ := Fj_1.t12
 go_wp2_with fail
 clear cj0 cj1 cj2 cj3 cj4 cj5 cj6 cj7 cj8 cj9 cj10 cj11
 refine (HT3.out _).mono ?_
 rintro e w2 ⟨rfl, g2⟩
 have ⟨Fj_2, lj_2⟩ := CellsAt.gl (Fj_1.alloc _) g2
 have ⟨Fr_2, lr_2⟩ := CellsAt.gl (Fr_1.alloc _) g2
 have ⟨Ft_2, lt_2⟩ := CellsAt.gl (CellsAt.new w1 55 #[.int .i64 t.re, .int .i64 t.im]) g2
 have z2 := (z1.alloc _ _).trans g2
 clear g2
 obtain ⟨ct0, ct1⟩ := Ft_2.t2
 go_wp2_with fail
 clear ct0 ct1
 refine (HP.out _).mono ?_
 rintro e w3 ⟨rfl, g3⟩
 have ⟨Fj_3, lj_3⟩ := CellsAt.gl (Fj_2.alloc _) g3
 have ⟨Fr_3, lr_3⟩ := CellsAt.gl (Fr_2.alloc _) g3
 have ⟨Ft_3, lt_3⟩ := CellsAt.gl (Ft_2.alloc _) g3
 have ⟨Ft3_3, lt3_3⟩ := CellsAt.gl (CellsAt.new w2 55 #[.int .i64 t3.re, .int .i64 t3.im]) g3
 have z3 := (z2.alloc _ _).trans g3
 clear g3
 obtain ⟨ct0, ct1⟩ := Ft_3.t2
 obtain ⟨ct30, ct31⟩ := Ft3_3.t2
 go_wp2_with fail
 clear ct0 ct1 ct30 ct31
 refine (HL.out _).mono ?_
 rintro e w4 ⟨rfl, g4⟩
 have ⟨Fj_4, lj_4⟩ := CellsAt.gl (Fj_3.alloc _) g4
 have ⟨Fr_4, lr_4⟩ := CellsAt.gl (Fr_3.alloc _) g4
 have ⟨Ft_4, lt_4⟩ := CellsAt.gl (Ft_3.alloc _) g4
 have ⟨Ft3_4, lt3_4⟩ := CellsAt.gl (Ft3_3.alloc _) g4
 have ⟨Fp_4, lp_4⟩ := CellsAt.gl (CellsAt.new w3 55 #[.int .i64 p.re, .int .i64 p.im]) g4
 have z4 := (z3.alloc _ _).trans g4
 clear g4
 go_wp2_with fail
 refine (HN.out _).mono ?_
 rintro e w5 ⟨rfl, g5⟩
 have ⟨Fj_5, lj_5⟩ := CellsAt.gl (Fj_4.alloc _) g5
 have ⟨Fr_5, lr_5⟩ := CellsAt.gl (Fr_4.alloc _) g5
 have ⟨Fp_5, lp_5⟩ := CellsAt.gl (Fp_4.alloc _) g5
 have ⟨Fd_5, ld_5⟩ := CellsAt.gl (CellsAt.new w4 55 #[.int .i64 d.re, .int .i64 d.im]) g5
 have z5 := (z4.alloc _ _).trans g5
 clear g5
 obtain ⟨cj0, cj1, cj2, cj3, cj4, cj5, cj6, cj7, cj8, cj9, cj10, cj11⟩ := Fj_5.t12
 have md0 := CellsAt.frozen (Fd_5) 0
 have cd0 := Fd_5.at 0
 have md1 := CellsAt.frozen (Fd_5) 1
 have cd1 := Fd_5.at 1
 go_wp2_with fail
 clear cj0 cj1 cj2 cj3 cj4 cj5 cj6 cj7 cj8 cj9 cj10 cj11 md0 cd0 md1 cd1
 refine (HU.out _).mono ?_
 rintro e w6 ⟨rfl, g6⟩
 have ⟨Fj_6, lj_6⟩ := CellsAt.gl ((Fj_5.ot).ot) g6
 have ⟨Fr_6, lr_6⟩ := CellsAt.gl ((Fr_5.ot).ot) g6
 have ⟨Fp_6, lp_6⟩ := CellsAt.gl ((Fp_5.ot).ot) g6
 have ⟨Fd_6, ld_6⟩ := CellsAt.gl (CellsAt.set2 (Fd_5) _ _) g6
 have z6 := ((z5.sc _).sc _).trans g6
 clear g6
 obtain ⟨cj0, cj1, cj2, cj3, cj4, cj5, cj6, cj7, cj8, cj9, cj10, cj11⟩ := Fj_6.t12
 go_wp2_with fail
 clear cj0 cj1 cj2 cj3 cj4 cj5 cj6 cj7 cj8 cj9 cj10 cj11
 refine (HV.out _).mono ?_
 rintro e w7 ⟨rfl, g7⟩
 have ⟨Fj_7, lj_7⟩ := CellsAt.gl (Fj_6.alloc _) g7
 have ⟨Fr_7, lr_7⟩ := CellsAt.gl (Fr_6.alloc _) g7
 have ⟨Fp_7, lp_7⟩ := CellsAt.gl (Fp_6.alloc _) g7
 have ⟨Fd_7, ld_7⟩ := CellsAt.gl (Fd_6.alloc _) g7
 have ⟨Fs_7, ls_7⟩ := CellsAt.gl (CellsAt.new w6 55 #[.int .i64 U.re, .int .i64 U.im]) g7
 have z7 := (z6.alloc _ _).trans g7
 clear g7
 obtain ⟨cd0, cd1⟩ := Fd_7.t2
 obtain ⟨cp0, cp1⟩ := Fp_7.t2
 obtain ⟨cs0, cs1⟩ := Fs_7.t2
 obtain ⟨ms0, ms1⟩ := Fs_7.f2
 obtain ⟨mp0, mp1⟩ := Fp_7.f2
 go_wp2_with fail
 clear cd0 cd1 cp0 cp1 cs0 cs1 ms0 ms1 mp0 mp1
 refine (HS.out _).mono ?_
 rintro e w8 ⟨rfl, g8⟩
 have ⟨Fr_8, lr_8⟩ := CellsAt.gl ((((Fr_7.ot).ot).ot).ot) g8
 have ⟨Fp_8, lp_8⟩ := CellsAt.gl (CellsAt.set2 ((Fp_7.ot).ot) _ _) g8
 have ⟨Fd_8, ld_8⟩ := CellsAt.gl ((((Fd_7.ot).ot).ot).ot) g8
 have ⟨Fs_8, ls_8⟩ := CellsAt.gl (((CellsAt.set2 (Fs_7) _ _).ot).ot) g8
 have z8 := ((((z7.sc _).sc _).sc _).sc _).trans g8
 clear g8
 have mr0 := CellsAt.frozen (Fr_8) 0
 have cr0 := Fr_8.at 0
 have mr1 := CellsAt.frozen (Fr_8) 1
 have cr1 := Fr_8.at 1
 go_wp2_with fail
 clear mr0 cr0 mr1 cr1
 refine (HF.out _).mono ?_
 rintro e w9 ⟨rfl, g9⟩
 have ⟨Fr_9, lr_9⟩ := Fr_8.gl g9
 have z9 := z8.trans g9
 clear Fr_8 z8 g9
 have mr0 := CellsAt.frozen (Fr_9) 0
 have cr0 := Fr_9.at 0
 have mr1 := CellsAt.frozen (Fr_9) 1
 have cr1 := Fr_9.at 1
 go_wp2_with fail
 clear mr0 cr0 mr1 cr1
 obtain ⟨uf, hqp1⟩ : ∃ zz, zz = ((w9.setCell ⟨w.heap.size + 1, 0, none⟩ (.int .i64 o.re)).setCell ⟨w.heap.size + 1, 1, none⟩ (.int .i64 o.im)) := ⟨_, rfl⟩
 have Yr_p1 : CellsAt uf (w.heap.size + 1) 55 #[.int .i64 o.re, .int .i64 o.im] := by rw [hqp1]; first | exact CellsAt.set2 (Fr_9) _ _ | simpa using CellsAt.set2 (Fr_9) _ _
 have yp1 : Gr w uf := by rw [hqp1]; exact (z9.sc _).sc _
 rw [← hqp1]
 clear hqp1
 obtain ⟨cr0, cr1⟩ := Yr_p1.t2
 refine bodyPost_ret (v := .agg #[.int .i64 o.re, .int .i64 o.im]) ?_ rfl ⟨rfl, yp1⟩
 simp [results, Tryz.results68, go_sem, *]
set_option maxHeartbeats 4000000 in
theorem rJoin_false_0_of (bits mo b1 b2 : Int) (ju jv jy jz ja jc t t3 p d dd U V s o : Gi) (h1 : wrap64 (bits + 1) = b1) (h2 : wrap64 (bits + 2) = b2)
 (HT : CR 96 #[.agg #[.int .i64 (jy).re, .int .i64 (jy).im], .agg #[.int .i64 (ja).re, .int .i64 (ja).im]] (.agg #[.int .i64 (t).re, .int .i64 (t).im])) (HT3 : CR 96 #[.agg #[.int .i64 (jz).re, .int .i64 (jz).im], .agg #[.int .i64 (jc).re, .int .i64 (jc).im]] (.agg #[.int .i64 (t3).re, .int .i64 (t3).im])) (HP : CR 64 #[.agg #[.int .i64 (t).re, .int .i64 (t).im], .agg #[.int .i64 (t3).re, .int .i64 (t3).im]] (.agg #[.int .i64 (p).re, .int .i64 (p).im])) (HL : CR 65 #[.agg #[.int .i64 (t).re, .int .i64 (t).im], .agg #[.int .i64 (t3).re, .int .i64 (t3).im]] (.agg #[.int .i64 (d).re, .int .i64 (d).im]))
 (HN : CR 97 #[.agg #[.int .i64 (d).re, .int .i64 (d).im], .int .i64 (-1)] (.agg #[.int .i64 (dd).re, .int .i64 (dd).im])) (HU : CR 98 #[.agg #[.int .i64 (ju).re, .int .i64 (ju).im], .int .i64 b1] (.agg #[.int .i64 (U).re, .int .i64 (U).im])) (HV : CR 98 #[.agg #[.int .i64 (jv).re, .int .i64 (jv).im], .int .i64 b1] (.agg #[.int .i64 (V).re, .int .i64 (V).im]))
 (HS : CR 64 #[.agg #[.int .i64 (U).re, .int .i64 (U).im], .agg #[.int .i64 (p).re, .int .i64 (p).im]] (.agg #[.int .i64 (s).re, .int .i64 (s).im])) (HF : CR 63 #[.agg #[.int .i64 (s).re, .int .i64 (s).im], .int .i64 b2, .int .i64 mo] (.agg #[.int .i64 (o).re, .int .i64 (o).im])) (w : World) :
 CW 68 #[.agg #[.int .i64 ju.re, .int .i64 ju.im, .int .i64 jv.re, .int .i64 jv.im, .int .i64 jy.re, .int .i64 jy.im, .int .i64 jz.re, .int .i64 jz.im, .int .i64 ja.re, .int .i64 ja.im, .int .i64 jc.re, .int .i64 jc.im], .int .i64 0, .int .i64 bits, .int .i64 mo, .bool false] w (.agg #[.int .i64 (o).re, .int .i64 (o).im]) :=by
 delta CW
 go_enter Tryz.func68, Tryz.ntmps68
 go_wp2_with fail
 obtain ⟨u0, hU⟩ : ∃ uu, uu = ((w.alloc (.cells #[.int .i64 ju.re, .int .i64 ju.im, .int .i64 jv.re, .int .i64 jv.im, .int .i64 jy.re, .int .i64 jy.im, .int .i64 jz.re, .int .i64 jz.im, .int .i64 ja.re, .int .i64 ja.im, .int .i64 jc.re, .int .i64 jc.im] 103)).alloc (.cells #[.int .i64 0, .int .i64 0] 55)) := ⟨_, rfl⟩
 have ⟨gu, R0, R1⟩ := lay2 hU
 rw [← hU]
 clear hU
 have lj := R0.lt
 have lr := R1.lt
 refine (HT.out _).mono ?_
 rintro e w1 ⟨rfl, g1⟩
 have ⟨Fj_1, lj_1⟩ := R0.gl g1
 have ⟨Fr_1, lr_1⟩ := R1.gl g1
 have z1 := gu.trans g1
 clear R0 R1 gu g1
 obtain ⟨cj0, cj1, cj2, cj3, cj4, cj5, cj6, cj7, cj8, cj9, cj10, cj11⟩ := Fj_1.t12
 go_wp2_with fail
 clear cj0 cj1 cj2 cj3 cj4 cj5 cj6 cj7 cj8 cj9 cj10 cj11
 refine (HT3.out _).mono ?_
 rintro e w2 ⟨rfl, g2⟩
 have ⟨Fj_2, lj_2⟩ := CellsAt.gl (Fj_1.alloc _) g2
 have ⟨Fr_2, lr_2⟩ := CellsAt.gl (Fr_1.alloc _) g2
 have ⟨Ft_2, lt_2⟩ := CellsAt.gl (CellsAt.new w1 55 #[.int .i64 t.re, .int .i64 t.im]) g2
 have z2 := (z1.alloc _ _).trans g2
 clear g2
 obtain ⟨ct0, ct1⟩ := Ft_2.t2
 go_wp2_with fail
 clear ct0 ct1
 refine (HP.out _).mono ?_
 rintro e w3 ⟨rfl, g3⟩
 have ⟨Fj_3, lj_3⟩ := CellsAt.gl (Fj_2.alloc _) g3
 have ⟨Fr_3, lr_3⟩ := CellsAt.gl (Fr_2.alloc _) g3
 have ⟨Ft_3, lt_3⟩ := CellsAt.gl (Ft_2.alloc _) g3
 have ⟨Ft3_3, lt3_3⟩ := CellsAt.gl (CellsAt.new w2 55 #[.int .i64 t3.re, .int .i64 t3.im]) g3
 have z3 := (z2.alloc _ _).trans g3
 clear g3
 obtain ⟨ct0, ct1⟩ := Ft_3.t2
 obtain ⟨ct30, ct31⟩ := Ft3_3.t2
 go_wp2_with fail
 clear ct0 ct1 ct30 ct31
 refine (HL.out _).mono ?_
 rintro e w4 ⟨rfl, g4⟩
 have ⟨Fj_4, lj_4⟩ := CellsAt.gl (Fj_3.alloc _) g4
 have ⟨Fr_4, lr_4⟩ := CellsAt.gl (Fr_3.alloc _) g4
 have ⟨Ft_4, lt_4⟩ := CellsAt.gl (Ft_3.alloc _) g4
 have ⟨Ft3_4, lt3_4⟩ := CellsAt.gl (Ft3_3.alloc _) g4
 have ⟨Fp_4, lp_4⟩ := CellsAt.gl (CellsAt.new w3 55 #[.int .i64 p.re, .int .i64 p.im]) g4
 have z4 := (z3.alloc _ _).trans g4
 clear g4
 go_wp2_with fail
 refine (HN.out _).mono ?_
 rintro e w5 ⟨rfl, g5⟩
 have ⟨Fj_5, lj_5⟩ := CellsAt.gl (Fj_4.alloc _) g5
 have ⟨Fr_5, lr_5⟩ := CellsAt.gl (Fr_4.alloc _) g5
 have ⟨Fp_5, lp_5⟩ := CellsAt.gl (Fp_4.alloc _) g5
 have ⟨Fd_5, ld_5⟩ := CellsAt.gl (CellsAt.new w4 55 #[.int .i64 d.re, .int .i64 d.im]) g5
 have z5 := (z4.alloc _ _).trans g5
 clear g5
 obtain ⟨cj0, cj1, cj2, cj3, cj4, cj5, cj6, cj7, cj8, cj9, cj10, cj11⟩ := Fj_5.t12
 have md0 := CellsAt.frozen (Fd_5) 0
 have cd0 := Fd_5.at 0
 have md1 := CellsAt.frozen (Fd_5) 1
 have cd1 := Fd_5.at 1
 go_wp2_with fail
 clear cj0 cj1 cj2 cj3 cj4 cj5 cj6 cj7 cj8 cj9 cj10 cj11 md0 cd0 md1 cd1
 refine (HU.out _).mono ?_
 rintro e w6 ⟨rfl, g6⟩
 have ⟨Fj_6, lj_6⟩ := CellsAt.gl ((Fj_5.ot).ot) g6
 have ⟨Fr_6, lr_6⟩ := CellsAt.gl ((Fr_5.ot).ot) g6
 have ⟨Fp_6, lp_6⟩ := CellsAt.gl ((Fp_5.ot).ot) g6
 have ⟨Fd_6, ld_6⟩ := CellsAt.gl (CellsAt.set2 (Fd_5) _ _) g6
 have z6 := ((z5.sc _).sc _).trans g6
 clear g6
 obtain ⟨cd0, cd1⟩ := Fd_6.t2
 obtain ⟨cp0, cp1⟩ := Fp_6.t2
 have mr0 := CellsAt.frozen (Fr_6) 0
 have cr0 := Fr_6.at 0
 have mr1 := CellsAt.frozen (Fr_6) 1
 have cr1 := Fr_6.at 1
 go_wp2_with fail
 clear cd0 cd1 cp0 cp1 mr0 cr0 mr1 cr1
 refine (HS.out _).mono ?_
 rintro e w7 ⟨rfl, g7⟩
 have ⟨Fr_7, lr_7⟩ := CellsAt.gl (Fr_6.alloc _) g7
 have ⟨Fp_7, lp_7⟩ := CellsAt.gl (Fp_6.alloc _) g7
 have ⟨Fd_7, ld_7⟩ := CellsAt.gl (Fd_6.alloc _) g7
 have ⟨Fs_7, ls_7⟩ := CellsAt.gl (CellsAt.new w6 55 #[.int .i64 U.re, .int .i64 U.im]) g7
 have z7 := (z6.alloc _ _).trans g7
 clear g7
 have mr0 := CellsAt.frozen (Fr_7) 0
 have cr0 := Fr_7.at 0
 have mr1 := CellsAt.frozen (Fr_7) 1
 have cr1 := Fr_7.at 1
 go_wp2_with fail
 clear mr0 cr0 mr1 cr1
 refine (HF.out _).mono ?_
 rintro e w8 ⟨rfl, g8⟩
 have ⟨Fr_8, lr_8⟩ := Fr_7.gl g8
 have z8 := z7.trans g8
 clear Fr_7 z7 g8
 have mr0 := CellsAt.frozen (Fr_8) 0
 have cr0 := Fr_8.at 0
 have mr1 := CellsAt.frozen (Fr_8) 1
 have cr1 := Fr_8.at 1
 go_wp2_with fail
 clear mr0 cr0 mr1 cr1
 obtain ⟨uf, hqp1⟩ : ∃ zz, zz = ((w8.setCell ⟨w.heap.size + 1, 0, none⟩ (.int .i64 o.re)).setCell ⟨w.heap.size + 1, 1, none⟩ (.int .i64 o.im)) := ⟨_, rfl⟩
 have Yr_p1 : CellsAt uf (w.heap.size + 1) 55 #[.int .i64 o.re, .int .i64 o.im] := by rw [hqp1]; first | exact CellsAt.set2 (Fr_8) _ _ | simpa using CellsAt.set2 (Fr_8) _ _
 have yp1 : Gr w uf := by rw [hqp1]; exact (z8.sc _).sc _
 rw [← hqp1]
 clear hqp1
 obtain ⟨cr0, cr1⟩ := Yr_p1.t2
 refine bodyPost_ret (v := .agg #[.int .i64 o.re, .int .i64 o.im]) ?_ rfl ⟨rfl, yp1⟩
 simp [results, Tryz.results68, go_sem, *]
set_option maxHeartbeats 4000000 in
theorem rJoin_false_1_of (bits mo b1 b2 : Int) (ju jv jy jz ja jc t t3 p d dd U V s o : Gi) (h1 : wrap64 (bits + 1) = b1) (h2 : wrap64 (bits + 2) = b2)
 (HT : CR 96 #[.agg #[.int .i64 (jy).re, .int .i64 (jy).im], .agg #[.int .i64 (ja).re, .int .i64 (ja).im]] (.agg #[.int .i64 (t).re, .int .i64 (t).im])) (HT3 : CR 96 #[.agg #[.int .i64 (jz).re, .int .i64 (jz).im], .agg #[.int .i64 (jc).re, .int .i64 (jc).im]] (.agg #[.int .i64 (t3).re, .int .i64 (t3).im])) (HP : CR 64 #[.agg #[.int .i64 (t).re, .int .i64 (t).im], .agg #[.int .i64 (t3).re, .int .i64 (t3).im]] (.agg #[.int .i64 (p).re, .int .i64 (p).im])) (HL : CR 65 #[.agg #[.int .i64 (t).re, .int .i64 (t).im], .agg #[.int .i64 (t3).re, .int .i64 (t3).im]] (.agg #[.int .i64 (d).re, .int .i64 (d).im]))
 (HN : CR 97 #[.agg #[.int .i64 (d).re, .int .i64 (d).im], .int .i64 (-1)] (.agg #[.int .i64 (dd).re, .int .i64 (dd).im])) (HU : CR 98 #[.agg #[.int .i64 (ju).re, .int .i64 (ju).im], .int .i64 b1] (.agg #[.int .i64 (U).re, .int .i64 (U).im])) (HV : CR 98 #[.agg #[.int .i64 (jv).re, .int .i64 (jv).im], .int .i64 b1] (.agg #[.int .i64 (V).re, .int .i64 (V).im]))
 (HS : CR 64 #[.agg #[.int .i64 (V).re, .int .i64 (V).im], .agg #[.int .i64 (dd).re, .int .i64 (dd).im]] (.agg #[.int .i64 (s).re, .int .i64 (s).im])) (HF : CR 63 #[.agg #[.int .i64 (s).re, .int .i64 (s).im], .int .i64 b2, .int .i64 mo] (.agg #[.int .i64 (o).re, .int .i64 (o).im])) (w : World) :
 CW 68 #[.agg #[.int .i64 ju.re, .int .i64 ju.im, .int .i64 jv.re, .int .i64 jv.im, .int .i64 jy.re, .int .i64 jy.im, .int .i64 jz.re, .int .i64 jz.im, .int .i64 ja.re, .int .i64 ja.im, .int .i64 jc.re, .int .i64 jc.im], .int .i64 1, .int .i64 bits, .int .i64 mo, .bool false] w (.agg #[.int .i64 (o).re, .int .i64 (o).im]) :=by
 delta CW
 go_enter Tryz.func68, Tryz.ntmps68
 go_wp2_with fail
 obtain ⟨u0, hU⟩ : ∃ uu, uu = ((w.alloc (.cells #[.int .i64 ju.re, .int .i64 ju.im, .int .i64 jv.re, .int .i64 jv.im, .int .i64 jy.re, .int .i64 jy.im, .int .i64 jz.re, .int .i64 jz.im, .int .i64 ja.re, .int .i64 ja.im, .int .i64 jc.re, .int .i64 jc.im] 103)).alloc (.cells #[.int .i64 0, .int .i64 0] 55)) := ⟨_, rfl⟩
 have ⟨gu, R0, R1⟩ := lay2 hU
 rw [← hU]
 clear hU
 have lj := R0.lt
 have lr := R1.lt
 refine (HT.out _).mono ?_
 rintro e w1 ⟨rfl, g1⟩
 have ⟨Fj_1, lj_1⟩ := R0.gl g1
 have ⟨Fr_1, lr_1⟩ := R1.gl g1
 have z1 := gu.trans g1
 clear R0 R1 gu g1
 obtain ⟨cj0, cj1, cj2, cj3, cj4, cj5, cj6, cj7, cj8, cj9, cj10, cj11⟩ := Fj_1.t12
 go_wp2_with fail
 clear cj0 cj1 cj2 cj3 cj4 cj5 cj6 cj7 cj8 cj9 cj10 cj11
 refine (HT3.out _).mono ?_
 rintro e w2 ⟨rfl, g2⟩
 have ⟨Fj_2, lj_2⟩ := CellsAt.gl (Fj_1.alloc _) g2
 have ⟨Fr_2, lr_2⟩ := CellsAt.gl (Fr_1.alloc _) g2
 have ⟨Ft_2, lt_2⟩ := CellsAt.gl (CellsAt.new w1 55 #[.int .i64 t.re, .int .i64 t.im]) g2
 have z2 := (z1.alloc _ _).trans g2
 clear g2
 obtain ⟨ct0, ct1⟩ := Ft_2.t2
 go_wp2_with fail
 clear ct0 ct1
 refine (HP.out _).mono ?_
 rintro e w3 ⟨rfl, g3⟩
 have ⟨Fj_3, lj_3⟩ := CellsAt.gl (Fj_2.alloc _) g3
 have ⟨Fr_3, lr_3⟩ := CellsAt.gl (Fr_2.alloc _) g3
 have ⟨Ft_3, lt_3⟩ := CellsAt.gl (Ft_2.alloc _) g3
 have ⟨Ft3_3, lt3_3⟩ := CellsAt.gl (CellsAt.new w2 55 #[.int .i64 t3.re, .int .i64 t3.im]) g3
 have z3 := (z2.alloc _ _).trans g3
 clear g3
 obtain ⟨ct0, ct1⟩ := Ft_3.t2
 obtain ⟨ct30, ct31⟩ := Ft3_3.t2
 go_wp2_with fail
 clear ct0 ct1 ct30 ct31
 refine (HL.out _).mono ?_
 rintro e w4 ⟨rfl, g4⟩
 have ⟨Fj_4, lj_4⟩ := CellsAt.gl (Fj_3.alloc _) g4
 have ⟨Fr_4, lr_4⟩ := CellsAt.gl (Fr_3.alloc _) g4
 have ⟨Ft_4, lt_4⟩ := CellsAt.gl (Ft_3.alloc _) g4
 have ⟨Ft3_4, lt3_4⟩ := CellsAt.gl (Ft3_3.alloc _) g4
 have ⟨Fp_4, lp_4⟩ := CellsAt.gl (CellsAt.new w3 55 #[.int .i64 p.re, .int .i64 p.im]) g4
 have z4 := (z3.alloc _ _).trans g4
 clear g4
 go_wp2_with fail
 refine (HN.out _).mono ?_
 rintro e w5 ⟨rfl, g5⟩
 have ⟨Fj_5, lj_5⟩ := CellsAt.gl (Fj_4.alloc _) g5
 have ⟨Fr_5, lr_5⟩ := CellsAt.gl (Fr_4.alloc _) g5
 have ⟨Fp_5, lp_5⟩ := CellsAt.gl (Fp_4.alloc _) g5
 have ⟨Fd_5, ld_5⟩ := CellsAt.gl (CellsAt.new w4 55 #[.int .i64 d.re, .int .i64 d.im]) g5
 have z5 := (z4.alloc _ _).trans g5
 clear g5
 obtain ⟨cj0, cj1, cj2, cj3, cj4, cj5, cj6, cj7, cj8, cj9, cj10, cj11⟩ := Fj_5.t12
 have md0 := CellsAt.frozen (Fd_5) 0
 have cd0 := Fd_5.at 0
 have md1 := CellsAt.frozen (Fd_5) 1
 have cd1 := Fd_5.at 1
 go_wp2_with fail
 clear cj0 cj1 cj2 cj3 cj4 cj5 cj6 cj7 cj8 cj9 cj10 cj11 md0 cd0 md1 cd1
 refine (HU.out _).mono ?_
 rintro e w6 ⟨rfl, g6⟩
 have ⟨Fj_6, lj_6⟩ := CellsAt.gl ((Fj_5.ot).ot) g6
 have ⟨Fr_6, lr_6⟩ := CellsAt.gl ((Fr_5.ot).ot) g6
 have ⟨Fp_6, lp_6⟩ := CellsAt.gl ((Fp_5.ot).ot) g6
 have ⟨Fd_6, ld_6⟩ := CellsAt.gl (CellsAt.set2 (Fd_5) _ _) g6
 have z6 := ((z5.sc _).sc _).trans g6
 clear g6
 obtain ⟨cj0, cj1, cj2, cj3, cj4, cj5, cj6, cj7, cj8, cj9, cj10, cj11⟩ := Fj_6.t12
 go_wp2_with fail
 clear cj0 cj1 cj2 cj3 cj4 cj5 cj6 cj7 cj8 cj9 cj10 cj11
 refine (HV.out _).mono ?_
 rintro e w7 ⟨rfl, g7⟩
 have ⟨Fj_7, lj_7⟩ := CellsAt.gl (Fj_6.alloc _) g7
 have ⟨Fr_7, lr_7⟩ := CellsAt.gl (Fr_6.alloc _) g7
 have ⟨Fp_7, lp_7⟩ := CellsAt.gl (Fp_6.alloc _) g7
 have ⟨Fd_7, ld_7⟩ := CellsAt.gl (Fd_6.alloc _) g7
 have ⟨Fs_7, ls_7⟩ := CellsAt.gl (CellsAt.new w6 55 #[.int .i64 U.re, .int .i64 U.im]) g7
 have z7 := (z6.alloc _ _).trans g7
 clear g7
 obtain ⟨cd0, cd1⟩ := Fd_7.t2
 obtain ⟨cp0, cp1⟩ := Fp_7.t2
 obtain ⟨cs0, cs1⟩ := Fs_7.t2
 obtain ⟨ms0, ms1⟩ := Fs_7.f2
 obtain ⟨mp0, mp1⟩ := Fp_7.f2
 go_wp2_with fail
 clear cd0 cd1 cp0 cp1 cs0 cs1 ms0 ms1 mp0 mp1
 refine (HS.out _).mono ?_
 rintro e w8 ⟨rfl, g8⟩
 have ⟨Fr_8, lr_8⟩ := CellsAt.gl ((((Fr_7.ot).ot).ot).ot) g8
 have ⟨Fp_8, lp_8⟩ := CellsAt.gl (CellsAt.set2 ((Fp_7.ot).ot) _ _) g8
 have ⟨Fd_8, ld_8⟩ := CellsAt.gl ((((Fd_7.ot).ot).ot).ot) g8
 have ⟨Fs_8, ls_8⟩ := CellsAt.gl (((CellsAt.set2 (Fs_7) _ _).ot).ot) g8
 have z8 := ((((z7.sc _).sc _).sc _).sc _).trans g8
 clear g8
 have mr0 := CellsAt.frozen (Fr_8) 0
 have cr0 := Fr_8.at 0
 have mr1 := CellsAt.frozen (Fr_8) 1
 have cr1 := Fr_8.at 1
 go_wp2_with fail
 clear mr0 cr0 mr1 cr1
 refine (HF.out _).mono ?_
 rintro e w9 ⟨rfl, g9⟩
 have ⟨Fr_9, lr_9⟩ := Fr_8.gl g9
 have z9 := z8.trans g9
 clear Fr_8 z8 g9
 have mr0 := CellsAt.frozen (Fr_9) 0
 have cr0 := Fr_9.at 0
 have mr1 := CellsAt.frozen (Fr_9) 1
 have cr1 := Fr_9.at 1
 go_wp2_with fail
 clear mr0 cr0 mr1 cr1
 obtain ⟨uf, hqp1⟩ : ∃ zz, zz = ((w9.setCell ⟨w.heap.size + 1, 0, none⟩ (.int .i64 o.re)).setCell ⟨w.heap.size + 1, 1, none⟩ (.int .i64 o.im)) := ⟨_, rfl⟩
 have Yr_p1 : CellsAt uf (w.heap.size + 1) 55 #[.int .i64 o.re, .int .i64 o.im] := by rw [hqp1]; first | exact CellsAt.set2 (Fr_9) _ _ | simpa using CellsAt.set2 (Fr_9) _ _
 have yp1 : Gr w uf := by rw [hqp1]; exact (z9.sc _).sc _
 rw [← hqp1]
 clear hqp1
 obtain ⟨cr0, cr1⟩ := Yr_p1.t2
 refine bodyPost_ret (v := .agg #[.int .i64 o.re, .int .i64 o.im]) ?_ rfl ⟨rfl, yp1⟩
 simp [results, Tryz.results68, go_sem, *]
set_option maxHeartbeats 4000000 in
theorem rJoin_false_2_of (bits mo b1 b2 : Int) (ju jv jy jz ja jc t t3 p d dd U V s o : Gi) (h1 : wrap64 (bits + 1) = b1) (h2 : wrap64 (bits + 2) = b2)
 (HT : CR 96 #[.agg #[.int .i64 (jy).re, .int .i64 (jy).im], .agg #[.int .i64 (ja).re, .int .i64 (ja).im]] (.agg #[.int .i64 (t).re, .int .i64 (t).im])) (HT3 : CR 96 #[.agg #[.int .i64 (jz).re, .int .i64 (jz).im], .agg #[.int .i64 (jc).re, .int .i64 (jc).im]] (.agg #[.int .i64 (t3).re, .int .i64 (t3).im])) (HP : CR 64 #[.agg #[.int .i64 (t).re, .int .i64 (t).im], .agg #[.int .i64 (t3).re, .int .i64 (t3).im]] (.agg #[.int .i64 (p).re, .int .i64 (p).im])) (HL : CR 65 #[.agg #[.int .i64 (t).re, .int .i64 (t).im], .agg #[.int .i64 (t3).re, .int .i64 (t3).im]] (.agg #[.int .i64 (d).re, .int .i64 (d).im]))
 (HN : CR 97 #[.agg #[.int .i64 (d).re, .int .i64 (d).im], .int .i64 (-1)] (.agg #[.int .i64 (dd).re, .int .i64 (dd).im])) (HU : CR 98 #[.agg #[.int .i64 (ju).re, .int .i64 (ju).im], .int .i64 b1] (.agg #[.int .i64 (U).re, .int .i64 (U).im])) (HV : CR 98 #[.agg #[.int .i64 (jv).re, .int .i64 (jv).im], .int .i64 b1] (.agg #[.int .i64 (V).re, .int .i64 (V).im]))
 (HS : CR 65 #[.agg #[.int .i64 (U).re, .int .i64 (U).im], .agg #[.int .i64 (p).re, .int .i64 (p).im]] (.agg #[.int .i64 (s).re, .int .i64 (s).im])) (HF : CR 63 #[.agg #[.int .i64 (s).re, .int .i64 (s).im], .int .i64 b2, .int .i64 mo] (.agg #[.int .i64 (o).re, .int .i64 (o).im])) (w : World) :
 CW 68 #[.agg #[.int .i64 ju.re, .int .i64 ju.im, .int .i64 jv.re, .int .i64 jv.im, .int .i64 jy.re, .int .i64 jy.im, .int .i64 jz.re, .int .i64 jz.im, .int .i64 ja.re, .int .i64 ja.im, .int .i64 jc.re, .int .i64 jc.im], .int .i64 2, .int .i64 bits, .int .i64 mo, .bool false] w (.agg #[.int .i64 (o).re, .int .i64 (o).im]) :=by
 delta CW
 go_enter Tryz.func68, Tryz.ntmps68
 go_wp2_with fail
 obtain ⟨u0, hU⟩ : ∃ uu, uu = ((w.alloc (.cells #[.int .i64 ju.re, .int .i64 ju.im, .int .i64 jv.re, .int .i64 jv.im, .int .i64 jy.re, .int .i64 jy.im, .int .i64 jz.re, .int .i64 jz.im, .int .i64 ja.re, .int .i64 ja.im, .int .i64 jc.re, .int .i64 jc.im] 103)).alloc (.cells #[.int .i64 0, .int .i64 0] 55)) := ⟨_, rfl⟩
 have ⟨gu, R0, R1⟩ := lay2 hU
 rw [← hU]
 clear hU
 have lj := R0.lt
 have lr := R1.lt
 refine (HT.out _).mono ?_
 rintro e w1 ⟨rfl, g1⟩
 have ⟨Fj_1, lj_1⟩ := R0.gl g1
 have ⟨Fr_1, lr_1⟩ := R1.gl g1
 have z1 := gu.trans g1
 clear R0 R1 gu g1
 obtain ⟨cj0, cj1, cj2, cj3, cj4, cj5, cj6, cj7, cj8, cj9, cj10, cj11⟩ := Fj_1.t12
 go_wp2_with fail
 clear cj0 cj1 cj2 cj3 cj4 cj5 cj6 cj7 cj8 cj9 cj10 cj11
 refine (HT3.out _).mono ?_
 rintro e w2 ⟨rfl, g2⟩
 have ⟨Fj_2, lj_2⟩ := CellsAt.gl (Fj_1.alloc _) g2
 have ⟨Fr_2, lr_2⟩ := CellsAt.gl (Fr_1.alloc _) g2
 have ⟨Ft_2, lt_2⟩ := CellsAt.gl (CellsAt.new w1 55 #[.int .i64 t.re, .int .i64 t.im]) g2
 have z2 := (z1.alloc _ _).trans g2
 clear g2
 obtain ⟨ct0, ct1⟩ := Ft_2.t2
 go_wp2_with fail
 clear ct0 ct1
 refine (HP.out _).mono ?_
 rintro e w3 ⟨rfl, g3⟩
 have ⟨Fj_3, lj_3⟩ := CellsAt.gl (Fj_2.alloc _) g3
 have ⟨Fr_3, lr_3⟩ := CellsAt.gl (Fr_2.alloc _) g3
 have ⟨Ft_3, lt_3⟩ := CellsAt.gl (Ft_2.alloc _) g3
 have ⟨Ft3_3, lt3_3⟩ := CellsAt.gl (CellsAt.new w2 55 #[.int .i64 t3.re, .int .i64 t3.im]) g3
 have z3 := (z2.alloc _ _).trans g3
 clear g3
 obtain ⟨ct0, ct1⟩ := Ft_3.t2
 obtain ⟨ct30, ct31⟩ := Ft3_3.t2
 go_wp2_with fail
 clear ct0 ct1 ct30 ct31
 refine (HL.out _).mono ?_
 rintro e w4 ⟨rfl, g4⟩
 have ⟨Fj_4, lj_4⟩ := CellsAt.gl (Fj_3.alloc _) g4
 have ⟨Fr_4, lr_4⟩ := CellsAt.gl (Fr_3.alloc _) g4
 have ⟨Ft_4, lt_4⟩ := CellsAt.gl (Ft_3.alloc _) g4
 have ⟨Ft3_4, lt3_4⟩ := CellsAt.gl (Ft3_3.alloc _) g4
 have ⟨Fp_4, lp_4⟩ := CellsAt.gl (CellsAt.new w3 55 #[.int .i64 p.re, .int .i64 p.im]) g4
 have z4 := (z3.alloc _ _).trans g4
 clear g4
 go_wp2_with fail
 refine (HN.out _).mono ?_
 rintro e w5 ⟨rfl, g5⟩
 have ⟨Fj_5, lj_5⟩ := CellsAt.gl (Fj_4.alloc _) g5
 have ⟨Fr_5, lr_5⟩ := CellsAt.gl (Fr_4.alloc _) g5
 have ⟨Fp_5, lp_5⟩ := CellsAt.gl (Fp_4.alloc _) g5
 have ⟨Fd_5, ld_5⟩ := CellsAt.gl (CellsAt.new w4 55 #[.int .i64 d.re, .int .i64 d.im]) g5
 have z5 := (z4.alloc _ _).trans g5
 clear g5
 obtain ⟨cj0, cj1, cj2, cj3, cj4, cj5, cj6, cj7, cj8, cj9, cj10, cj11⟩ := Fj_5.t12
 have md0 := CellsAt.frozen (Fd_5) 0
 have cd0 := Fd_5.at 0
 have md1 := CellsAt.frozen (Fd_5) 1
 have cd1 := Fd_5.at 1
 go_wp2_with fail
 clear cj0 cj1 cj2 cj3 cj4 cj5 cj6 cj7 cj8 cj9 cj10 cj11 md0 cd0 md1 cd1
 refine (HU.out _).mono ?_
 rintro e w6 ⟨rfl, g6⟩
 have ⟨Fj_6, lj_6⟩ := CellsAt.gl ((Fj_5.ot).ot) g6
 have ⟨Fr_6, lr_6⟩ := CellsAt.gl ((Fr_5.ot).ot) g6
 have ⟨Fp_6, lp_6⟩ := CellsAt.gl ((Fp_5.ot).ot) g6
 have ⟨Fd_6, ld_6⟩ := CellsAt.gl (CellsAt.set2 (Fd_5) _ _) g6
 have z6 := ((z5.sc _).sc _).trans g6
 clear g6
 obtain ⟨cd0, cd1⟩ := Fd_6.t2
 obtain ⟨cp0, cp1⟩ := Fp_6.t2
 have mr0 := CellsAt.frozen (Fr_6) 0
 have cr0 := Fr_6.at 0
 have mr1 := CellsAt.frozen (Fr_6) 1
 have cr1 := Fr_6.at 1
 go_wp2_with fail
 clear cd0 cd1 cp0 cp1 mr0 cr0 mr1 cr1
 refine (HS.out _).mono ?_
 rintro e w7 ⟨rfl, g7⟩
 have ⟨Fr_7, lr_7⟩ := CellsAt.gl (Fr_6.alloc _) g7
 have ⟨Fp_7, lp_7⟩ := CellsAt.gl (Fp_6.alloc _) g7
 have ⟨Fd_7, ld_7⟩ := CellsAt.gl (Fd_6.alloc _) g7
 have ⟨Fs_7, ls_7⟩ := CellsAt.gl (CellsAt.new w6 55 #[.int .i64 U.re, .int .i64 U.im]) g7
 have z7 := (z6.alloc _ _).trans g7
 clear g7
 have mr0 := CellsAt.frozen (Fr_7) 0
 have cr0 := Fr_7.at 0
 have mr1 := CellsAt.frozen (Fr_7) 1
 have cr1 := Fr_7.at 1
 go_wp2_with fail
 clear mr0 cr0 mr1 cr1
 refine (HF.out _).mono ?_
 rintro e w8 ⟨rfl, g8⟩
 have ⟨Fr_8, lr_8⟩ := Fr_7.gl g8
 have z8 := z7.trans g8
 clear Fr_7 z7 g8
 have mr0 := CellsAt.frozen (Fr_8) 0
 have cr0 := Fr_8.at 0
 have mr1 := CellsAt.frozen (Fr_8) 1
 have cr1 := Fr_8.at 1
 go_wp2_with fail
 clear mr0 cr0 mr1 cr1
 obtain ⟨uf, hqp1⟩ : ∃ zz, zz = ((w8.setCell ⟨w.heap.size + 1, 0, none⟩ (.int .i64 o.re)).setCell ⟨w.heap.size + 1, 1, none⟩ (.int .i64 o.im)) := ⟨_, rfl⟩
 have Yr_p1 : CellsAt uf (w.heap.size + 1) 55 #[.int .i64 o.re, .int .i64 o.im] := by rw [hqp1]; first | exact CellsAt.set2 (Fr_8) _ _ | simpa using CellsAt.set2 (Fr_8) _ _
 have yp1 : Gr w uf := by rw [hqp1]; exact (z8.sc _).sc _
 rw [← hqp1]
 clear hqp1
 obtain ⟨cr0, cr1⟩ := Yr_p1.t2
 refine bodyPost_ret (v := .agg #[.int .i64 o.re, .int .i64 o.im]) ?_ rfl ⟨rfl, yp1⟩
 simp [results, Tryz.results68, go_sem, *]
set_option maxHeartbeats 4000000 in
theorem rJoin_false_3_of (bits mo b1 b2 : Int) (ju jv jy jz ja jc t t3 p d dd U V s o : Gi) (h1 : wrap64 (bits + 1) = b1) (h2 : wrap64 (bits + 2) = b2)
 (HT : CR 96 #[.agg #[.int .i64 (jy).re, .int .i64 (jy).im], .agg #[.int .i64 (ja).re, .int .i64 (ja).im]] (.agg #[.int .i64 (t).re, .int .i64 (t).im])) (HT3 : CR 96 #[.agg #[.int .i64 (jz).re, .int .i64 (jz).im], .agg #[.int .i64 (jc).re, .int .i64 (jc).im]] (.agg #[.int .i64 (t3).re, .int .i64 (t3).im])) (HP : CR 64 #[.agg #[.int .i64 (t).re, .int .i64 (t).im], .agg #[.int .i64 (t3).re, .int .i64 (t3).im]] (.agg #[.int .i64 (p).re, .int .i64 (p).im])) (HL : CR 65 #[.agg #[.int .i64 (t).re, .int .i64 (t).im], .agg #[.int .i64 (t3).re, .int .i64 (t3).im]] (.agg #[.int .i64 (d).re, .int .i64 (d).im]))
 (HN : CR 97 #[.agg #[.int .i64 (d).re, .int .i64 (d).im], .int .i64 (-1)] (.agg #[.int .i64 (dd).re, .int .i64 (dd).im])) (HU : CR 98 #[.agg #[.int .i64 (ju).re, .int .i64 (ju).im], .int .i64 b1] (.agg #[.int .i64 (U).re, .int .i64 (U).im])) (HV : CR 98 #[.agg #[.int .i64 (jv).re, .int .i64 (jv).im], .int .i64 b1] (.agg #[.int .i64 (V).re, .int .i64 (V).im]))
 (HS : CR 65 #[.agg #[.int .i64 (V).re, .int .i64 (V).im], .agg #[.int .i64 (dd).re, .int .i64 (dd).im]] (.agg #[.int .i64 (s).re, .int .i64 (s).im])) (HF : CR 63 #[.agg #[.int .i64 (s).re, .int .i64 (s).im], .int .i64 b2, .int .i64 mo] (.agg #[.int .i64 (o).re, .int .i64 (o).im])) (w : World) :
 CW 68 #[.agg #[.int .i64 ju.re, .int .i64 ju.im, .int .i64 jv.re, .int .i64 jv.im, .int .i64 jy.re, .int .i64 jy.im, .int .i64 jz.re, .int .i64 jz.im, .int .i64 ja.re, .int .i64 ja.im, .int .i64 jc.re, .int .i64 jc.im], .int .i64 3, .int .i64 bits, .int .i64 mo, .bool false] w (.agg #[.int .i64 (o).re, .int .i64 (o).im]) :=by
 delta CW
 go_enter Tryz.func68, Tryz.ntmps68
 go_wp2_with fail
 obtain ⟨u0, hU⟩ : ∃ uu, uu = ((w.alloc (.cells #[.int .i64 ju.re, .int .i64 ju.im, .int .i64 jv.re, .int .i64 jv.im, .int .i64 jy.re, .int .i64 jy.im, .int .i64 jz.re, .int .i64 jz.im, .int .i64 ja.re, .int .i64 ja.im, .int .i64 jc.re, .int .i64 jc.im] 103)).alloc (.cells #[.int .i64 0, .int .i64 0] 55)) := ⟨_, rfl⟩
 have ⟨gu, R0, R1⟩ := lay2 hU
 rw [← hU]
 clear hU
 have lj := R0.lt
 have lr := R1.lt
 refine (HT.out _).mono ?_
 rintro e w1 ⟨rfl, g1⟩
 have ⟨Fj_1, lj_1⟩ := R0.gl g1
 have ⟨Fr_1, lr_1⟩ := R1.gl g1
 have z1 := gu.trans g1
 clear R0 R1 gu g1
 obtain ⟨cj0, cj1, cj2, cj3, cj4, cj5, cj6, cj7, cj8, cj9, cj10, cj11⟩ := Fj_1.t12
 go_wp2_with fail
 clear cj0 cj1 cj2 cj3 cj4 cj5 cj6 cj7 cj8 cj9 cj10 cj11
 refine (HT3.out _).mono ?_
 rintro e w2 ⟨rfl, g2⟩
 have ⟨Fj_2, lj_2⟩ := CellsAt.gl (Fj_1.alloc _) g2
 have ⟨Fr_2, lr_2⟩ := CellsAt.gl (Fr_1.alloc _) g2
 have ⟨Ft_2, lt_2⟩ := CellsAt.gl (CellsAt.new w1 55 #[.int .i64 t.re, .int .i64 t.im]) g2
 have z2 := (z1.alloc _ _).trans g2
 clear g2
 obtain ⟨ct0, ct1⟩ := Ft_2.t2
 go_wp2_with fail
 clear ct0 ct1
 refine (HP.out _).mono ?_
 rintro e w3 ⟨rfl, g3⟩
 have ⟨Fj_3, lj_3⟩ := CellsAt.gl (Fj_2.alloc _) g3
 have ⟨Fr_3, lr_3⟩ := CellsAt.gl (Fr_2.alloc _) g3
 have ⟨Ft_3, lt_3⟩ := CellsAt.gl (Ft_2.alloc _) g3
 have ⟨Ft3_3, lt3_3⟩ := CellsAt.gl (CellsAt.new w2 55 #[.int .i64 t3.re, .int .i64 t3.im]) g3
 have z3 := (z2.alloc _ _).trans g3
 clear g3
 obtain ⟨ct0, ct1⟩ := Ft_3.t2
 obtain ⟨ct30, ct31⟩ := Ft3_3.t2
 go_wp2_with fail
 clear ct0 ct1 ct30 ct31
 refine (HL.out _).mono ?_
 rintro e w4 ⟨rfl, g4⟩
 have ⟨Fj_4, lj_4⟩ := CellsAt.gl (Fj_3.alloc _) g4
 have ⟨Fr_4, lr_4⟩ := CellsAt.gl (Fr_3.alloc _) g4
 have ⟨Ft_4, lt_4⟩ := CellsAt.gl (Ft_3.alloc _) g4
 have ⟨Ft3_4, lt3_4⟩ := CellsAt.gl (Ft3_3.alloc _) g4
 have ⟨Fp_4, lp_4⟩ := CellsAt.gl (CellsAt.new w3 55 #[.int .i64 p.re, .int .i64 p.im]) g4
 have z4 := (z3.alloc _ _).trans g4
 clear g4
 go_wp2_with fail
 refine (HN.out _).mono ?_
 rintro e w5 ⟨rfl, g5⟩
 have ⟨Fj_5, lj_5⟩ := CellsAt.gl (Fj_4.alloc _) g5
 have ⟨Fr_5, lr_5⟩ := CellsAt.gl (Fr_4.alloc _) g5
 have ⟨Fp_5, lp_5⟩ := CellsAt.gl (Fp_4.alloc _) g5
 have ⟨Fd_5, ld_5⟩ := CellsAt.gl (CellsAt.new w4 55 #[.int .i64 d.re, .int .i64 d.im]) g5
 have z5 := (z4.alloc _ _).trans g5
 clear g5
 obtain ⟨cj0, cj1, cj2, cj3, cj4, cj5, cj6, cj7, cj8, cj9, cj10, cj11⟩ := Fj_5.t12
 have md0 := CellsAt.frozen (Fd_5) 0
 have cd0 := Fd_5.at 0
 have md1 := CellsAt.frozen (Fd_5) 1
 have cd1 := Fd_5.at 1
 go_wp2_with fail
 clear cj0 cj1 cj2 cj3 cj4 cj5 cj6 cj7 cj8 cj9 cj10 cj11 md0 cd0 md1 cd1
 refine (HU.out _).mono ?_
 rintro e w6 ⟨rfl, g6⟩
 have ⟨Fj_6, lj_6⟩ := CellsAt.gl ((Fj_5.ot).ot) g6
 have ⟨Fr_6, lr_6⟩ := CellsAt.gl ((Fr_5.ot).ot) g6
 have ⟨Fp_6, lp_6⟩ := CellsAt.gl ((Fp_5.ot).ot) g6
 have ⟨Fd_6, ld_6⟩ := CellsAt.gl (CellsAt.set2 (Fd_5) _ _) g6
 have z6 := ((z5.sc _).sc _).trans g6
 clear g6
 obtain ⟨cj0, cj1, cj2, cj3, cj4, cj5, cj6, cj7, cj8, cj9, cj10, cj11⟩ := Fj_6.t12
 go_wp2_with fail
 clear cj0 cj1 cj2 cj3 cj4 cj5 cj6 cj7 cj8 cj9 cj10 cj11
 refine (HV.out _).mono ?_
 rintro e w7 ⟨rfl, g7⟩
 have ⟨Fj_7, lj_7⟩ := CellsAt.gl (Fj_6.alloc _) g7
 have ⟨Fr_7, lr_7⟩ := CellsAt.gl (Fr_6.alloc _) g7
 have ⟨Fp_7, lp_7⟩ := CellsAt.gl (Fp_6.alloc _) g7
 have ⟨Fd_7, ld_7⟩ := CellsAt.gl (Fd_6.alloc _) g7
 have ⟨Fs_7, ls_7⟩ := CellsAt.gl (CellsAt.new w6 55 #[.int .i64 U.re, .int .i64 U.im]) g7
 have z7 := (z6.alloc _ _).trans g7
 clear g7
 obtain ⟨cd0, cd1⟩ := Fd_7.t2
 obtain ⟨cp0, cp1⟩ := Fp_7.t2
 obtain ⟨cs0, cs1⟩ := Fs_7.t2
 obtain ⟨ms0, ms1⟩ := Fs_7.f2
 obtain ⟨mp0, mp1⟩ := Fp_7.f2
 go_wp2_with fail
 clear cd0 cd1 cp0 cp1 cs0 cs1 ms0 ms1 mp0 mp1
 refine (HS.out _).mono ?_
 rintro e w8 ⟨rfl, g8⟩
 have ⟨Fr_8, lr_8⟩ := CellsAt.gl ((((Fr_7.ot).ot).ot).ot) g8
 have ⟨Fp_8, lp_8⟩ := CellsAt.gl (CellsAt.set2 ((Fp_7.ot).ot) _ _) g8
 have ⟨Fd_8, ld_8⟩ := CellsAt.gl ((((Fd_7.ot).ot).ot).ot) g8
 have ⟨Fs_8, ls_8⟩ := CellsAt.gl (((CellsAt.set2 (Fs_7) _ _).ot).ot) g8
 have z8 := ((((z7.sc _).sc _).sc _).sc _).trans g8
 clear g8
 have mr0 := CellsAt.frozen (Fr_8) 0
 have cr0 := Fr_8.at 0
 have mr1 := CellsAt.frozen (Fr_8) 1
 have cr1 := Fr_8.at 1
 go_wp2_with fail
 clear mr0 cr0 mr1 cr1
 refine (HF.out _).mono ?_
 rintro e w9 ⟨rfl, g9⟩
 have ⟨Fr_9, lr_9⟩ := Fr_8.gl g9
 have z9 := z8.trans g9
 clear Fr_8 z8 g9
 have mr0 := CellsAt.frozen (Fr_9) 0
 have cr0 := Fr_9.at 0
 have mr1 := CellsAt.frozen (Fr_9) 1
 have cr1 := Fr_9.at 1
 go_wp2_with fail
 clear mr0 cr0 mr1 cr1
 obtain ⟨uf, hqp1⟩ : ∃ zz, zz = ((w9.setCell ⟨w.heap.size + 1, 0, none⟩ (.int .i64 o.re)).setCell ⟨w.heap.size + 1, 1, none⟩ (.int .i64 o.im)) := ⟨_, rfl⟩
 have Yr_p1 : CellsAt uf (w.heap.size + 1) 55 #[.int .i64 o.re, .int .i64 o.im] := by rw [hqp1]; first | exact CellsAt.set2 (Fr_9) _ _ | simpa using CellsAt.set2 (Fr_9) _ _
 have yp1 : Gr w uf := by rw [hqp1]; exact (z9.sc _).sc _
 rw [← hqp1]
 clear hqp1
 obtain ⟨cr0, cr1⟩ := Yr_p1.t2
 refine bodyPost_ret (v := .agg #[.int .i64 o.re, .int .i64 o.im]) ?_ rfl ⟨rfl, yp1⟩
 simp [results, Tryz.results68, go_sem, *]
theorem rJoin12_c (bits : Nat) (mo : Int) (inv : Bool) (q : Nat) (hq : q < 4) (ju jv jy jz ja jc : Gi) (hb : bits ≤ 29) (m0 : 0 ≤ mo) (m1 : mo ≤ 2) (hu : Bd 2147483648 ju) (hv : Bd 2147483648 jv) (hy : Bd 2147483648 jy) (hz : Bd 2147483648 jz) (ha : Bd (2 ^ bits) ja) (hc : Bd (2 ^ bits) jc) (w : World) :
 CW 68 #[.agg #[.int .i64 ju.re, .int .i64 ju.im, .int .i64 jv.re, .int .i64 jv.im, .int .i64 jy.re, .int .i64 jy.im, .int .i64 jz.re, .int .i64 jz.im, .int .i64 ja.re, .int .i64 ja.im, .int .i64 jc.re, .int .i64 jc.im], .int .i64 (q : Int), .int .i64 bits, .int .i64 mo, .bool inv] w (.agg #[.int .i64 (joinG bits mo inv q ju jv jy jz ja jc).re, .int .i64 (joinG bits mo inv q ju jv jy jz ja jc).im]) :=by
 delta CW
 have hp := pow29 bits hb
 have hP : (2 : Int) ^ (bits + 1) = 2 * 2 ^ bits := by rw [Int.pow_succ]; omega
 have t1 := Bd.mul hy ha
 have t3 := Bd.mul hz hc
 have lt : 2 * (2147483648 * (2 : Int) ^ bits) ≤ 2305843009213693952 := by omega
 have t1' := t1.mono lt
 have t3' := t3.mono lt
 have hU := (Bd.scale hu (bits + 1)).mono (show 2147483648 * (2 : Int) ^ (bits + 1) ≤ 2305843009213693952 by omega)
 have hV := (Bd.scale hv (bits + 1)).mono (show 2147483648 * (2 : Int) ^ (bits + 1) ≤ 2305843009213693952 by omega)
 have l1 := t1'.le
 have l3 := t3'.le
 have lU := hU.le
 have lV := hV.le
 have lp : Bd 4611686018427387904 (gadd (gmul jy ja) (gmul jz jc)) := (t1'.add t3').mono (by omega)
 have hd : Bd 4611686018427387904 (gsub (gmul jy ja) (gmul jz jc)) := Bd.mk (by unfold gsub; simp only; omega)
 have hdt := (hd.turn (turns1 inv 1))
 have ld := hd.le
 have ldt := hdt.le
 have lpp := lp.le
 have E1 := Lib.hid (show wrap64 ((bits : Int) + 1) = ((bits + 1 : Nat) : Int) by rw [IntWalk.wrap64_in _ ⟨by omega, by omega⟩]; omega)
 have E2 := Lib.hid (show wrap64 ((bits : Int) + 2) = ((bits + 2 : Nat) : Int) by rw [IntWalk.wrap64_in _ ⟨by omega, by omega⟩]; omega)
 have HT := Lib.hid (rtimes_gi jy ja hy (ha.mono (show (2 : Int) ^ bits ≤ 1073741824 by omega)))
 have HT3 := Lib.hid (rtimes_gi jz jc hz (hc.mono (show (2 : Int) ^ bits ≤ 1073741824 by omega)))
 have HP := Lib.hid (rsum_gi (gmul jy ja) (gmul jz jc) (by omega) (by omega))
 have HL := Lib.hid (rless_gi (gmul jy ja) (gmul jz jc) (by omega) (by omega))
 have HN := Lib.hid (rturn12_gi (gsub (gmul jy ja) (gmul jz jc)) (turns1 inv 1) (by omega))
 have HU := Lib.hid (scale12_c ju (bits + 1) (by omega) hu)
 have HV := Lib.hid (scale12_c jv (bits + 1) (by omega) hv)
 have sh : ∀ x : Gi, Bd 9000000000000000000 x → ∀ W, Calls Tryz.prog 63 #[.agg #[.int .i64 (x).re, .int .i64 (x).im], .int .i64 ((bits + 2 : Nat) : Int), .int .i64 mo] W fun e w' => e = .returned (.agg #[.int .i64 (grnd (bits + 2) mo x).re, .int .i64 (grnd (bits + 2) mo x).im]) ∧ Gr W w' := fun x hx W => by
  have := hx.le
  exact rshift03_gi x (bits + 2) mo (by omega) (by omega) m0 m1 W
 have hsub : ∀ a b : Gi, Bd 2305843009213693952 a → Bd 4611686018427387904 b → Bd 9000000000000000000 (gsub a b) := fun a b ha hb => by
  have h1 := ha.le
  have h2 := hb.le
  exact Bd.mk (by unfold gsub; simp only; omega)
 have hc4 : q = 0 ∨ q = 1 ∨ q = 2 ∨ q = 3 := by omega
 cases inv
 ·rcases hc4 with rfl | rfl | rfl | rfl
  ·exact rJoin_false_0_of bits mo _ _ ju jv jy jz ja jc _ _ _ _ _ _ _ _ _ E1.out E2.out HT HT3 HP HL HN HU HV (Lib.hid (rsum_gi _ _ (by omega) (by omega))) (Lib.hid (sh _ ((hU.add lp).mono (by omega)))) w
  ·exact rJoin_false_1_of bits mo _ _ ju jv jy jz ja jc _ _ _ _ _ _ _ _ _ E1.out E2.out HT HT3 HP HL HN HU HV (Lib.hid (rsum_gi _ _ (by omega) (by omega))) (Lib.hid (sh _ ((hV.add hdt).mono (by omega)))) w
  ·exact rJoin_false_2_of bits mo _ _ ju jv jy jz ja jc _ _ _ _ _ _ _ _ _ E1.out E2.out HT HT3 HP HL HN HU HV (Lib.hid (rless_gi _ _ (by omega) (by omega))) (Lib.hid (sh _ (hsub _ _ hU lp))) w
  ·exact rJoin_false_3_of bits mo _ _ ju jv jy jz ja jc _ _ _ _ _ _ _ _ _ E1.out E2.out HT HT3 HP HL HN HU HV (Lib.hid (rless_gi _ _ (by omega) (by omega))) (Lib.hid (sh _ (hsub _ _ hV hdt))) w
 ·rcases hc4 with rfl | rfl | rfl | rfl
  ·exact rJoin_true_0_of bits mo _ _ ju jv jy jz ja jc _ _ _ _ _ _ _ _ _ E1.out E2.out HT HT3 HP HL HN HU HV (Lib.hid (rsum_gi _ _ (by omega) (by omega))) (Lib.hid (sh _ ((hU.add lp).mono (by omega)))) w
  ·exact rJoin_true_1_of bits mo _ _ ju jv jy jz ja jc _ _ _ _ _ _ _ _ _ E1.out E2.out HT HT3 HP HL HN HU HV (Lib.hid (rsum_gi _ _ (by omega) (by omega))) (Lib.hid (sh _ ((hV.add hdt).mono (by omega)))) w
  ·exact rJoin_true_2_of bits mo _ _ ju jv jy jz ja jc _ _ _ _ _ _ _ _ _ E1.out E2.out HT HT3 HP HL HN HU HV (Lib.hid (rless_gi _ _ (by omega) (by omega))) (Lib.hid (sh _ (hsub _ _ hU lp))) w
  ·exact rJoin_true_3_of bits mo _ _ ju jv jy jz ja jc _ _ _ _ _ _ _ _ _ E1.out E2.out HT HT3 HP HL HN HU HV (Lib.hid (rless_gi _ _ (by omega) (by omega))) (Lib.hid (sh _ (hsub _ _ hV hdt))) w
end
end Go.Proofs.YtablflakcaimmaaGreat
