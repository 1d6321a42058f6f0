import Derived.Test.YtdignnmpfkgkoaaGreatRealBinsS26
import Derived.Test.YtdignnmpfkgkoaaGreatRealBinsS30
namespace Go.Proofs.YtdignnmpfkgkoaaGreat
set_option maxHeartbeats 16000000
section
open Go.ChangeShapes Go.WideShapes Go.ChangeAt Go.RowKit
set_option linter.unusedVariables false
set_option linter.unusedSimpArgs false
set_option maxRecDepth 100000
set_option maxHeartbeats 16000000
theorem rturn12_gi (a : Gi) (q : Int) (h : a.re.natAbs ≤ 4611686018427387904 ∧ a.im.natAbs ≤ 4611686018427387904) (w : World) :
 CW 80 #[.agg #[a.re, a.im], q] w (.agg #[(a.turn q).re, (a.turn q).im]) :=by
 delta CW
 have h0 : wrap64 (-a.re) = -a.re := IntWalk.wrap64_in _ (by omega)
 have h1 : wrap64 (-a.im) = -a.im := IntWalk.wrap64_in _ (by omega)
 have ht := tmod4 q
 unfold Gi.turn
 rcases q4g q with hm | hm | hm | hm <;> rw [hm] at ht <;> simp only [hm]
 ·exact rturn_0 a.re a.im q _ _ _ h0 h1 rfl (by omega) w
 ·exact rturn_1 a.re a.im q _ _ _ h0 h1 rfl (by omega) w
 ·exact rturn_2 a.re a.im q _ _ _ h0 h1 rfl (by omega) w
 ·exact rturn_3 a.re a.im q _ _ _ h0 h1 rfl (by omega) w
theorem rless_gi (a b : Gi) (h0 : -9223372036854775808 ≤ a.re - b.re ∧ a.re - b.re ≤ 9223372036854775807) (h1 : -9223372036854775808 ≤ a.im - b.im ∧ a.im - b.im ≤ 9223372036854775807) (w : World) :
 Calls Tryz.prog 81 #[.agg #[a.re, a.im], .agg #[b.re, b.im]] w fun e w' => e = .returned (.agg #[(gsub a b).re, (gsub a b).im]) ∧ Gr w w' :=
 rless_c a.re a.im b.re b.im _ _ (IntWalk.wrap64_in _ h0) (IntWalk.wrap64_in _ h1) w
theorem scale12_c (a : Gi) (bits : Nat) (hb : bits ≤ 30) (ha : Bd 2147483648 a) (w : World) :
 CW 83 #[.agg #[a.re, a.im], bits] w (.agg #[(gscale bits a).re, (gscale bits a).im]) :=by
 delta CW
 have h1 : (2 : Nat) ^ bits ≤ 2 ^ 30 := Nat.pow_le_pow_right (by decide) hb
 have hc : ((2 ^ bits : Nat) : Int) = 2 ^ bits := by rw [Int.natCast_pow]; rfl
 have hp := pow_pos2 bits
 have h2 : (2 : Int) ^ bits ≤ 1073741824 := by omega
 have l := (Bd.scale ha bits).le
 have l0 : wrap64 (a.re * 2 ^ bits) = (gscale bits a).re := IntWalk.wrap64_in _ (by unfold gscale at l; simp only at l; omega)
 have l1 : wrap64 (a.im * 2 ^ bits) = (gscale bits a).im := IntWalk.wrap64_in _ (by unfold gscale at l; simp only at l; omega)
 have HP := kh (pow08_c' bits (2 ^ bits) rfl (by omega))
 generalize gscale bits a = r at *
 generalize (2 : Int) ^ bits = P at *
 clear h1 hc hp h2 l hb ha
 go_in
 go_wp2_with (go_at_call 38; refine (HP.out _).mono ?_; rintro e wz ⟨rfl, rfl⟩)
 refine bodyPost_ret (v := .agg #[r.re, r.im]) ?_ rfl ⟨rfl, ?_⟩
 ·simp [results, Tryz.results83, go_sem]
 ·exact by repeat (first | exact Gr.refl _ | assumption | apply Gr.drew | apply Gr.alloc | (refine Gr.setCell ?_ (by first | (simp; done) | (simp; omega)) _))
theorem rJoin_true_0_ofA : (∀ (bits mo b1 b2 : Int) (ju jv jy jz ja jc t t3 p d dd U V s o : Gi) (h1 : wrap64 (bits + 1) = b1) (h2 : wrap64 (bits + 2) = b2) (HT : CR 84 #[.agg #[jy.re, jy.im], .agg #[ja.re, ja.im]] (.agg #[t.re, t.im])) (HT3 : CR 84 #[.agg #[jz.re, jz.im], .agg #[jc.re, jc.im]] (.agg #[t3.re, t3.im])) (HP : CR 82 #[.agg #[t.re, t.im], .agg #[t3.re, t3.im]] (.agg #[p.re, p.im])) (HL : CR 81 #[.agg #[t.re, t.im], .agg #[t3.re, t3.im]] (.agg #[d.re, d.im])) (HN : CR 80 #[.agg #[d.re, d.im], .int .i64 1] (.agg #[dd.re, dd.im])) (HU : CR 83 #[.agg #[ju.re, ju.im], b1] (.agg #[U.re, U.im])) (HV : CR 83 #[.agg #[jv.re, jv.im], b1] (.agg #[V.re, V.im])) (HS : CR 82 #[.agg #[U.re, U.im], .agg #[p.re, p.im]] (.agg #[s.re, s.im])) (HF : CR 85 #[.agg #[s.re, s.im], b2, mo] (.agg #[o.re, o.im])) (w : World), CW 93 #[.agg #[ju.re, ju.im, jv.re, jv.im, jy.re, jy.im, jz.re, jz.im, ja.re, ja.im, jc.re, jc.im], .int .i64 0, bits, mo, true] w (.agg #[o.re, o.im])) ∧ (∀ (bits mo b1 b2 : Int) (ju jv jy jz ja jc t t3 p d dd U V s o : Gi) (h1 : wrap64 (bits + 1) = b1) (h2 : wrap64 (bits + 2) = b2) (HT : CR 84 #[.agg #[jy.re, jy.im], .agg #[ja.re, ja.im]] (.agg #[t.re, t.im])) (HT3 : CR 84 #[.agg #[jz.re, jz.im], .agg #[jc.re, jc.im]] (.agg #[t3.re, t3.im])) (HP : CR 82 #[.agg #[t.re, t.im], .agg #[t3.re, t3.im]] (.agg #[p.re, p.im])) (HL : CR 81 #[.agg #[t.re, t.im], .agg #[t3.re, t3.im]] (.agg #[d.re, d.im])) (HN : CR 80 #[.agg #[d.re, d.im], .int .i64 1] (.agg #[dd.re, dd.im])) (HU : CR 83 #[.agg #[ju.re, ju.im], b1] (.agg #[U.re, U.im])) (HV : CR 83 #[.agg #[jv.re, jv.im], b1] (.agg #[V.re, V.im])) (HS : CR 81 #[.agg #[U.re, U.im], .agg #[p.re, p.im]] (.agg #[s.re, s.im])) (HF : CR 85 #[.agg #[s.re, s.im], b2, mo] (.agg #[o.re, o.im])) (w : World), CW 93 #[.agg #[ju.re, ju.im, jv.re, jv.im, jy.re, jy.im, jz.re, jz.im, ja.re, ja.im, jc.re, jc.im], .int .i64 2, bits, mo, true] w (.agg #[o.re, o.im])) ∧ (∀ (bits mo b1 b2 : Int) (ju jv jy jz ja jc t t3 p d dd U V s o : Gi) (h1 : wrap64 (bits + 1) = b1) (h2 : wrap64 (bits + 2) = b2) (HT : CR 84 #[.agg #[jy.re, jy.im], .agg #[ja.re, ja.im]] (.agg #[t.re, t.im])) (HT3 : CR 84 #[.agg #[jz.re, jz.im], .agg #[jc.re, jc.im]] (.agg #[t3.re, t3.im])) (HP : CR 82 #[.agg #[t.re, t.im], .agg #[t3.re, t3.im]] (.agg #[p.re, p.im])) (HL : CR 81 #[.agg #[t.re, t.im], .agg #[t3.re, t3.im]] (.agg #[d.re, d.im])) (HN : CR 80 #[.agg #[d.re, d.im], .int .i64 (-1)] (.agg #[dd.re, dd.im])) (HU : CR 83 #[.agg #[ju.re, ju.im], b1] (.agg #[U.re, U.im])) (HV : CR 83 #[.agg #[jv.re, jv.im], b1] (.agg #[V.re, V.im])) (HS : CR 82 #[.agg #[U.re, U.im], .agg #[p.re, p.im]] (.agg #[s.re, s.im])) (HF : CR 85 #[.agg #[s.re, s.im], b2, mo] (.agg #[o.re, o.im])) (w : World), CW 93 #[.agg #[ju.re, ju.im, jv.re, jv.im, jy.re, jy.im, jz.re, jz.im, ja.re, ja.im, jc.re, jc.im], .int .i64 0, bits, mo, false] w (.agg #[o.re, o.im])) ∧ (∀ (bits mo b1 b2 : Int) (ju jv jy jz ja jc t t3 p d dd U V s o : Gi) (h1 : wrap64 (bits + 1) = b1) (h2 : wrap64 (bits + 2) = b2) (HT : CR 84 #[.agg #[jy.re, jy.im], .agg #[ja.re, ja.im]] (.agg #[t.re, t.im])) (HT3 : CR 84 #[.agg #[jz.re, jz.im], .agg #[jc.re, jc.im]] (.agg #[t3.re, t3.im])) (HP : CR 82 #[.agg #[t.re, t.im], .agg #[t3.re, t3.im]] (.agg #[p.re, p.im])) (HL : CR 81 #[.agg #[t.re, t.im], .agg #[t3.re, t3.im]] (.agg #[d.re, d.im])) (HN : CR 80 #[.agg #[d.re, d.im], .int .i64 (-1)] (.agg #[dd.re, dd.im])) (HU : CR 83 #[.agg #[ju.re, ju.im], b1] (.agg #[U.re, U.im])) (HV : CR 83 #[.agg #[jv.re, jv.im], b1] (.agg #[V.re, V.im])) (HS : CR 81 #[.agg #[U.re, U.im], .agg #[p.re, p.im]] (.agg #[s.re, s.im])) (HF : CR 85 #[.agg #[s.re, s.im], b2, mo] (.agg #[o.re, o.im])) (w : World), CW 93 #[.agg #[ju.re, ju.im, jv.re, jv.im, jy.re, jy.im, jz.re, jz.im, ja.re, ja.im, jc.re, jc.im], .int .i64 2, bits, mo, false] w (.agg #[o.re, o.im])) := by
 refine ⟨@fun bits mo b1 b2 ju jv jy jz ja jc t t3 p d dd U V s o h1 h2 HT HT3 HP HL HN HU HV HS HF w => ?_, @fun bits mo b1 b2 ju jv jy jz ja jc t t3 p d dd U V s o h1 h2 HT HT3 HP HL HN HU HV HS HF w => ?_, @fun bits mo b1 b2 ju jv jy jz ja jc t t3 p d dd U V s o h1 h2 HT HT3 HP HL HN HU HV HS HF w => ?_, @fun bits mo b1 b2 ju jv jy jz ja jc t t3 p d dd U V s o h1 h2 HT HT3 HP HL HN HU HV HS HF w => ?_⟩
 all_goals
  delta CW;go_in;go_wp2_with fail;refine lc2 fun u0 gu R0 R1 => ?_
  have lj := R0.lt;have lr := R1.lt;refine (HT.out _).mono ?_;rintro e w1 ⟨rfl, g1⟩;have ⟨Fj_1, lj_1⟩ := R0.gl g1;have ⟨Fr_1, lr_1⟩ := R1.gl g1;have z1 := gu.trans g1;clear R0 R1 gu g1;obtain ⟨cj0, cj1, cj2, cj3, cj4, cj5, cj6, cj7, cj8, cj9, cj10, cj11⟩ := Fj_1.t12;go_wp2_with fail;clear cj0 cj1 cj2 cj3 cj4 cj5 cj6 cj7 cj8 cj9 cj10 cj11;refine (HT3.out _).mono ?_;rintro e w2 ⟨rfl, g2⟩;have ⟨Fj_2, lj_2⟩ := CellsAt.gl (Fj_1.alloc _) g2;have ⟨Fr_2, lr_2⟩ := CellsAt.gl (Fr_1.alloc _) g2;have ⟨Ft_2, lt_2⟩ := CellsAt.gl (CellsAt.new w1 50 #[t.re, t.im]) g2;have z2 := (z1.alloc _ _).trans g2;clear g2;obtain ⟨ct0, ct1⟩ := Ft_2.t2;go_wp2_with fail;clear ct0 ct1;refine (HP.out _).mono ?_;rintro e w3 ⟨rfl, g3⟩;have ⟨Fj_3, lj_3⟩ := CellsAt.gl (Fj_2.alloc _) g3;have ⟨Fr_3, lr_3⟩ := CellsAt.gl (Fr_2.alloc _) g3;have ⟨Ft_3, lt_3⟩ := CellsAt.gl (Ft_2.alloc _) g3;have ⟨Ft3_3, lt3_3⟩ := CellsAt.gl (CellsAt.new w2 50 #[t3.re, t3.im]) g3;have z3 := (z2.alloc _ _).trans g3;clear g3;obtain ⟨ct0, ct1⟩ := Ft_3.t2;obtain ⟨ct30, ct31⟩ := Ft3_3.t2;go_wp2_with fail;clear ct0 ct1 ct30 ct31;refine (HL.out _).mono ?_;rintro e w4 ⟨rfl, g4⟩;have ⟨Fj_4, lj_4⟩ := CellsAt.gl (Fj_3.alloc _) g4;have ⟨Fr_4, lr_4⟩ := CellsAt.gl (Fr_3.alloc _) g4;have ⟨Ft_4, lt_4⟩ := CellsAt.gl (Ft_3.alloc _) g4;have ⟨Ft3_4, lt3_4⟩ := CellsAt.gl (Ft3_3.alloc _) g4;have ⟨Fp_4, lp_4⟩ := CellsAt.gl (CellsAt.new w3 50 #[p.re, p.im]) g4;have z4 := (z3.alloc _ _).trans g4;clear g4;go_wp2_with fail;refine (HN.out _).mono ?_;rintro e w5 ⟨rfl, g5⟩
  have ⟨Fj_5, lj_5⟩ := CellsAt.gl (Fj_4.alloc _) g5;have ⟨Fr_5, lr_5⟩ := CellsAt.gl (Fr_4.alloc _) g5;have ⟨Fp_5, lp_5⟩ := CellsAt.gl (Fp_4.alloc _) g5;have ⟨Fd_5, ld_5⟩ := CellsAt.gl (CellsAt.new w4 50 #[d.re, d.im]) g5;have z5 := (z4.alloc _ _).trans g5;clear g5;obtain ⟨cj0, cj1, cj2, cj3, cj4, cj5, cj6, cj7, cj8, cj9, cj10, cj11⟩ := Fj_5.t12;obtain ⟨md0, md1⟩ := Fd_5.f2;obtain ⟨cd0, cd1⟩ := Fd_5.t2;go_wp2_with fail;clear cj0 cj1 cj2 cj3 cj4 cj5 cj6 cj7 cj8 cj9 cj10 cj11 md0 cd0 md1 cd1;refine (HU.out _).mono ?_;rintro e w6 ⟨rfl, g6⟩;have ⟨Fj_6, lj_6⟩ := CellsAt.gl ((Fj_5.ot).ot) g6;have ⟨Fr_6, lr_6⟩ := CellsAt.gl ((Fr_5.ot).ot) g6;have ⟨Fp_6, lp_6⟩ := CellsAt.gl ((Fp_5.ot).ot) g6;have ⟨Fd_6, ld_6⟩ := CellsAt.gl (CellsAt.set2 (Fd_5) _ _) g6;have z6 := ((z5.sc _).sc _).trans g6;clear g6;obtain ⟨cd0, cd1⟩ := Fd_6.t2;obtain ⟨cp0, cp1⟩ := Fp_6.t2;obtain ⟨mr0, mr1⟩ := Fr_6.f2;obtain ⟨cr0, cr1⟩ := Fr_6.t2;go_wp2_with fail;clear cd0 cd1 cp0 cp1 mr0 cr0 mr1 cr1;refine (HS.out _).mono ?_;rintro e w7 ⟨rfl, g7⟩;have ⟨Fr_7, lr_7⟩ := CellsAt.gl (Fr_6.alloc _) g7;have ⟨Fp_7, lp_7⟩ := CellsAt.gl (Fp_6.alloc _) g7;have ⟨Fd_7, ld_7⟩ := CellsAt.gl (Fd_6.alloc _) g7;have ⟨Fs_7, ls_7⟩ := CellsAt.gl (CellsAt.new w6 50 #[U.re, U.im]) g7;have z7 := (z6.alloc _ _).trans g7;clear g7;obtain ⟨mr0, mr1⟩ := Fr_7.f2;obtain ⟨cr0, cr1⟩ := Fr_7.t2;go_wp2_with fail;clear mr0 cr0 mr1 cr1;refine (HF.out _).mono ?_;rintro e w8 ⟨rfl, g8⟩;have ⟨Fr_8, lr_8⟩ := Fr_7.gl g8;have z8 := z7.trans g8;clear Fr_7 z7 g8;obtain ⟨mr0, mr1⟩ := Fr_8.f2
  obtain ⟨cr0, cr1⟩ := Fr_8.t2;go_wp2_with fail;clear mr0 cr0 mr1 cr1
  obtain ⟨uf, hqp1⟩ : ∃ zz, zz = ((w8.setCell ⟨w.heap.size + 1, 0, none⟩ (.int .i64 o.re)).setCell ⟨w.heap.size + 1, 1, none⟩ (.int .i64 o.im)) := ⟨_, rfl⟩
  have Yr_p1 : CellsAt uf (w.heap.size + 1) 50 #[o.re, o.im] := by rw [hqp1]; first | exact CellsAt.set2 (Fr_8) _ _ | simpa using CellsAt.set2 (Fr_8) _ _
  have yp1 : Gr w uf := by rw [hqp1]; exact (z8.sc _).sc _
  rw [← hqp1];clear hqp1;obtain ⟨cr0, cr1⟩ := Yr_p1.t2;refine bodyPost_ret (v := .agg #[o.re, o.im]) ?_ rfl ⟨rfl, yp1⟩
  simp [results, Tryz.results93, go_sem, *]
theorem rJoin_true_1_ofA : (∀ (bits mo b1 b2 : Int) (ju jv jy jz ja jc t t3 p d dd U V s o : Gi) (h1 : wrap64 (bits + 1) = b1) (h2 : wrap64 (bits + 2) = b2) (HT : CR 84 #[.agg #[jy.re, jy.im], .agg #[ja.re, ja.im]] (.agg #[t.re, t.im])) (HT3 : CR 84 #[.agg #[jz.re, jz.im], .agg #[jc.re, jc.im]] (.agg #[t3.re, t3.im])) (HP : CR 82 #[.agg #[t.re, t.im], .agg #[t3.re, t3.im]] (.agg #[p.re, p.im])) (HL : CR 81 #[.agg #[t.re, t.im], .agg #[t3.re, t3.im]] (.agg #[d.re, d.im])) (HN : CR 80 #[.agg #[d.re, d.im], .int .i64 1] (.agg #[dd.re, dd.im])) (HU : CR 83 #[.agg #[ju.re, ju.im], b1] (.agg #[U.re, U.im])) (HV : CR 83 #[.agg #[jv.re, jv.im], b1] (.agg #[V.re, V.im])) (HS : CR 82 #[.agg #[V.re, V.im], .agg #[dd.re, dd.im]] (.agg #[s.re, s.im])) (HF : CR 85 #[.agg #[s.re, s.im], b2, mo] (.agg #[o.re, o.im])) (w : World), CW 93 #[.agg #[ju.re, ju.im, jv.re, jv.im, jy.re, jy.im, jz.re, jz.im, ja.re, ja.im, jc.re, jc.im], .int .i64 1, bits, mo, true] w (.agg #[o.re, o.im])) ∧ (∀ (bits mo b1 b2 : Int) (ju jv jy jz ja jc t t3 p d dd U V s o : Gi) (h1 : wrap64 (bits + 1) = b1) (h2 : wrap64 (bits + 2) = b2) (HT : CR 84 #[.agg #[jy.re, jy.im], .agg #[ja.re, ja.im]] (.agg #[t.re, t.im])) (HT3 : CR 84 #[.agg #[jz.re, jz.im], .agg #[jc.re, jc.im]] (.agg #[t3.re, t3.im])) (HP : CR 82 #[.agg #[t.re, t.im], .agg #[t3.re, t3.im]] (.agg #[p.re, p.im])) (HL : CR 81 #[.agg #[t.re, t.im], .agg #[t3.re, t3.im]] (.agg #[d.re, d.im])) (HN : CR 80 #[.agg #[d.re, d.im], .int .i64 1] (.agg #[dd.re, dd.im])) (HU : CR 83 #[.agg #[ju.re, ju.im], b1] (.agg #[U.re, U.im])) (HV : CR 83 #[.agg #[jv.re, jv.im], b1] (.agg #[V.re, V.im])) (HS : CR 81 #[.agg #[V.re, V.im], .agg #[dd.re, dd.im]] (.agg #[s.re, s.im])) (HF : CR 85 #[.agg #[s.re, s.im], b2, mo] (.agg #[o.re, o.im])) (w : World), CW 93 #[.agg #[ju.re, ju.im, jv.re, jv.im, jy.re, jy.im, jz.re, jz.im, ja.re, ja.im, jc.re, jc.im], .int .i64 3, bits, mo, true] w (.agg #[o.re, o.im])) ∧ (∀ (bits mo b1 b2 : Int) (ju jv jy jz ja jc t t3 p d dd U V s o : Gi) (h1 : wrap64 (bits + 1) = b1) (h2 : wrap64 (bits + 2) = b2) (HT : CR 84 #[.agg #[jy.re, jy.im], .agg #[ja.re, ja.im]] (.agg #[t.re, t.im])) (HT3 : CR 84 #[.agg #[jz.re, jz.im], .agg #[jc.re, jc.im]] (.agg #[t3.re, t3.im])) (HP : CR 82 #[.agg #[t.re, t.im], .agg #[t3.re, t3.im]] (.agg #[p.re, p.im])) (HL : CR 81 #[.agg #[t.re, t.im], .agg #[t3.re, t3.im]] (.agg #[d.re, d.im])) (HN : CR 80 #[.agg #[d.re, d.im], .int .i64 (-1)] (.agg #[dd.re, dd.im])) (HU : CR 83 #[.agg #[ju.re, ju.im], b1] (.agg #[U.re, U.im])) (HV : CR 83 #[.agg #[jv.re, jv.im], b1] (.agg #[V.re, V.im])) (HS : CR 82 #[.agg #[V.re, V.im], .agg #[dd.re, dd.im]] (.agg #[s.re, s.im])) (HF : CR 85 #[.agg #[s.re, s.im], b2, mo] (.agg #[o.re, o.im])) (w : World), CW 93 #[.agg #[ju.re, ju.im, jv.re, jv.im, jy.re, jy.im, jz.re, jz.im, ja.re, ja.im, jc.re, jc.im], .int .i64 1, bits, mo, false] w (.agg #[o.re, o.im])) ∧ (∀ (bits mo b1 b2 : Int) (ju jv jy jz ja jc t t3 p d dd U V s o : Gi) (h1 : wrap64 (bits + 1) = b1) (h2 : wrap64 (bits + 2) = b2) (HT : CR 84 #[.agg #[jy.re, jy.im], .agg #[ja.re, ja.im]] (.agg #[t.re, t.im])) (HT3 : CR 84 #[.agg #[jz.re, jz.im], .agg #[jc.re, jc.im]] (.agg #[t3.re, t3.im])) (HP : CR 82 #[.agg #[t.re, t.im], .agg #[t3.re, t3.im]] (.agg #[p.re, p.im])) (HL : CR 81 #[.agg #[t.re, t.im], .agg #[t3.re, t3.im]] (.agg #[d.re, d.im])) (HN : CR 80 #[.agg #[d.re, d.im], .int .i64 (-1)] (.agg #[dd.re, dd.im])) (HU : CR 83 #[.agg #[ju.re, ju.im], b1] (.agg #[U.re, U.im])) (HV : CR 83 #[.agg #[jv.re, jv.im], b1] (.agg #[V.re, V.im])) (HS : CR 81 #[.agg #[V.re, V.im], .agg #[dd.re, dd.im]] (.agg #[s.re, s.im])) (HF : CR 85 #[.agg #[s.re, s.im], b2, mo] (.agg #[o.re, o.im])) (w : World), CW 93 #[.agg #[ju.re, ju.im, jv.re, jv.im, jy.re, jy.im, jz.re, jz.im, ja.re, ja.im, jc.re, jc.im], .int .i64 3, bits, mo, false] w (.agg #[o.re, o.im])) := by
 refine ⟨@fun bits mo b1 b2 ju jv jy jz ja jc t t3 p d dd U V s o h1 h2 HT HT3 HP HL HN HU HV HS HF w => ?_, @fun bits mo b1 b2 ju jv jy jz ja jc t t3 p d dd U V s o h1 h2 HT HT3 HP HL HN HU HV HS HF w => ?_, @fun bits mo b1 b2 ju jv jy jz ja jc t t3 p d dd U V s o h1 h2 HT HT3 HP HL HN HU HV HS HF w => ?_, @fun bits mo b1 b2 ju jv jy jz ja jc t t3 p d dd U V s o h1 h2 HT HT3 HP HL HN HU HV HS HF w => ?_⟩
 all_goals
  delta CW;go_in;go_wp2_with fail;refine lc2 fun u0 gu R0 R1 => ?_
  have lj := R0.lt;have lr := R1.lt;refine (HT.out _).mono ?_;rintro e w1 ⟨rfl, g1⟩;have ⟨Fj_1, lj_1⟩ := R0.gl g1;have ⟨Fr_1, lr_1⟩ := R1.gl g1;have z1 := gu.trans g1;clear R0 R1 gu g1;obtain ⟨cj0, cj1, cj2, cj3, cj4, cj5, cj6, cj7, cj8, cj9, cj10, cj11⟩ := Fj_1.t12;go_wp2_with fail;clear cj0 cj1 cj2 cj3 cj4 cj5 cj6 cj7 cj8 cj9 cj10 cj11;refine (HT3.out _).mono ?_;rintro e w2 ⟨rfl, g2⟩;have ⟨Fj_2, lj_2⟩ := CellsAt.gl (Fj_1.alloc _) g2;have ⟨Fr_2, lr_2⟩ := CellsAt.gl (Fr_1.alloc _) g2;have ⟨Ft_2, lt_2⟩ := CellsAt.gl (CellsAt.new w1 50 #[t.re, t.im]) g2;have z2 := (z1.alloc _ _).trans g2;clear g2;obtain ⟨ct0, ct1⟩ := Ft_2.t2;go_wp2_with fail;clear ct0 ct1;refine (HP.out _).mono ?_;rintro e w3 ⟨rfl, g3⟩;have ⟨Fj_3, lj_3⟩ := CellsAt.gl (Fj_2.alloc _) g3;have ⟨Fr_3, lr_3⟩ := CellsAt.gl (Fr_2.alloc _) g3;have ⟨Ft_3, lt_3⟩ := CellsAt.gl (Ft_2.alloc _) g3;have ⟨Ft3_3, lt3_3⟩ := CellsAt.gl (CellsAt.new w2 50 #[t3.re, t3.im]) g3;have z3 := (z2.alloc _ _).trans g3;clear g3;obtain ⟨ct0, ct1⟩ := Ft_3.t2;obtain ⟨ct30, ct31⟩ := Ft3_3.t2;go_wp2_with fail;clear ct0 ct1 ct30 ct31;refine (HL.out _).mono ?_;rintro e w4 ⟨rfl, g4⟩;have ⟨Fj_4, lj_4⟩ := CellsAt.gl (Fj_3.alloc _) g4;have ⟨Fr_4, lr_4⟩ := CellsAt.gl (Fr_3.alloc _) g4;have ⟨Ft_4, lt_4⟩ := CellsAt.gl (Ft_3.alloc _) g4;have ⟨Ft3_4, lt3_4⟩ := CellsAt.gl (Ft3_3.alloc _) g4;have ⟨Fp_4, lp_4⟩ := CellsAt.gl (CellsAt.new w3 50 #[p.re, p.im]) g4;have z4 := (z3.alloc _ _).trans g4;clear g4;go_wp2_with fail;refine (HN.out _).mono ?_;rintro e w5 ⟨rfl, g5⟩
  have ⟨Fj_5, lj_5⟩ := CellsAt.gl (Fj_4.alloc _) g5;have ⟨Fr_5, lr_5⟩ := CellsAt.gl (Fr_4.alloc _) g5;have ⟨Fp_5, lp_5⟩ := CellsAt.gl (Fp_4.alloc _) g5;have ⟨Fd_5, ld_5⟩ := CellsAt.gl (CellsAt.new w4 50 #[d.re, d.im]) g5;have z5 := (z4.alloc _ _).trans g5;clear g5;obtain ⟨cj0, cj1, cj2, cj3, cj4, cj5, cj6, cj7, cj8, cj9, cj10, cj11⟩ := Fj_5.t12;obtain ⟨md0, md1⟩ := Fd_5.f2;obtain ⟨cd0, cd1⟩ := Fd_5.t2;go_wp2_with fail;clear cj0 cj1 cj2 cj3 cj4 cj5 cj6 cj7 cj8 cj9 cj10 cj11 md0 cd0 md1 cd1;refine (HU.out _).mono ?_;rintro e w6 ⟨rfl, g6⟩;have ⟨Fj_6, lj_6⟩ := CellsAt.gl ((Fj_5.ot).ot) g6;have ⟨Fr_6, lr_6⟩ := CellsAt.gl ((Fr_5.ot).ot) g6;have ⟨Fp_6, lp_6⟩ := CellsAt.gl ((Fp_5.ot).ot) g6;have ⟨Fd_6, ld_6⟩ := CellsAt.gl (CellsAt.set2 (Fd_5) _ _) g6;have z6 := ((z5.sc _).sc _).trans g6;clear g6;obtain ⟨cj0, cj1, cj2, cj3, cj4, cj5, cj6, cj7, cj8, cj9, cj10, cj11⟩ := Fj_6.t12;go_wp2_with fail;clear cj0 cj1 cj2 cj3 cj4 cj5 cj6 cj7 cj8 cj9 cj10 cj11;refine (HV.out _).mono ?_;rintro e w7 ⟨rfl, g7⟩;have ⟨Fj_7, lj_7⟩ := CellsAt.gl (Fj_6.alloc _) g7;have ⟨Fr_7, lr_7⟩ := CellsAt.gl (Fr_6.alloc _) g7;have ⟨Fp_7, lp_7⟩ := CellsAt.gl (Fp_6.alloc _) g7;have ⟨Fd_7, ld_7⟩ := CellsAt.gl (Fd_6.alloc _) g7;have ⟨Fs_7, ls_7⟩ := CellsAt.gl (CellsAt.new w6 50 #[U.re, U.im]) g7;have z7 := (z6.alloc _ _).trans g7;clear g7;obtain ⟨cd0, cd1⟩ := Fd_7.t2;obtain ⟨cp0, cp1⟩ := Fp_7.t2;obtain ⟨cs0, cs1⟩ := Fs_7.t2;obtain ⟨ms0, ms1⟩ := Fs_7.f2;obtain ⟨mp0, mp1⟩ := Fp_7.f2;go_wp2_with fail;clear cd0 cd1 cp0 cp1 cs0 cs1 ms0 ms1 mp0 mp1
  refine (HS.out _).mono ?_;rintro e w8 ⟨rfl, g8⟩;have ⟨Fr_8, lr_8⟩ := CellsAt.gl ((((Fr_7.ot).ot).ot).ot) g8;have ⟨Fp_8, lp_8⟩ := CellsAt.gl (CellsAt.set2 ((Fp_7.ot).ot) _ _) g8;have ⟨Fd_8, ld_8⟩ := CellsAt.gl ((((Fd_7.ot).ot).ot).ot) g8;have ⟨Fs_8, ls_8⟩ := CellsAt.gl (((CellsAt.set2 (Fs_7) _ _).ot).ot) g8;have z8 := ((((z7.sc _).sc _).sc _).sc _).trans g8;clear g8;obtain ⟨mr0, mr1⟩ := Fr_8.f2;obtain ⟨cr0, cr1⟩ := Fr_8.t2;go_wp2_with fail;clear mr0 cr0 mr1 cr1;refine (HF.out _).mono ?_;rintro e w9 ⟨rfl, g9⟩;have ⟨Fr_9, lr_9⟩ := Fr_8.gl g9;have z9 := z8.trans g9;clear Fr_8 z8 g9;obtain ⟨mr0, mr1⟩ := Fr_9.f2;obtain ⟨cr0, cr1⟩ := Fr_9.t2;go_wp2_with fail;clear mr0 cr0 mr1 cr1
  obtain ⟨uf, hqp1⟩ : ∃ zz, zz = ((w9.setCell ⟨w.heap.size + 1, 0, none⟩ (.int .i64 o.re)).setCell ⟨w.heap.size + 1, 1, none⟩ (.int .i64 o.im)) := ⟨_, rfl⟩
  have Yr_p1 : CellsAt uf (w.heap.size + 1) 50 #[o.re, o.im] := by rw [hqp1]; first | exact CellsAt.set2 (Fr_9) _ _ | simpa using CellsAt.set2 (Fr_9) _ _
  have yp1 : Gr w uf := by rw [hqp1]; exact (z9.sc _).sc _
  rw [← hqp1];clear hqp1;obtain ⟨cr0, cr1⟩ := Yr_p1.t2;refine bodyPost_ret (v := .agg #[o.re, o.im]) ?_ rfl ⟨rfl, yp1⟩
  simp [results, Tryz.results93, go_sem, *]
theorem rJoin12_c (bits : Nat) (mo : Int) (inv : Bool) (q : Nat) (hq : q < 4) (ju jv jy jz ja jc : Gi) (hb : bits ≤ 29) (m0 : 0 ≤ mo) (m1 : mo ≤ 2) (hu : Bd 2147483648 ju) (hv : Bd 2147483648 jv) (hy : Bd 2147483648 jy) (hz : Bd 2147483648 jz) (ha : Bd (2 ^ bits) ja) (hc : Bd (2 ^ bits) jc) (w : World) :
 CW 93 #[.agg #[ju.re, ju.im, jv.re, jv.im, jy.re, jy.im, jz.re, jz.im, ja.re, ja.im, jc.re, jc.im], (q : Int), bits, mo, inv] w (.agg #[(joinG bits mo inv q ju jv jy jz ja jc).re, (joinG bits mo inv q ju jv jy jz ja jc).im]) :=by
 delta CW
 have hp := pow29 bits hb
 have hP : (2 : Int) ^ (bits + 1) = 2 * 2 ^ bits := by rw [Int.pow_succ]; omega
 have t1 := Bd.mul hy ha
 have t3 := Bd.mul hz hc
 have lt : 2 * (2147483648 * (2 : Int) ^ bits) ≤ 2305843009213693952 := by omega
 have t1' := t1.mono lt
 have t3' := t3.mono lt
 have hU := (Bd.scale hu (bits + 1)).mono (show 2147483648 * (2 : Int) ^ (bits + 1) ≤ 2305843009213693952 by omega)
 have hV := (Bd.scale hv (bits + 1)).mono (show 2147483648 * (2 : Int) ^ (bits + 1) ≤ 2305843009213693952 by omega)
 have l1 := t1'.le
 have l3 := t3'.le
 have lU := hU.le
 have lV := hV.le
 have lp : Bd 4611686018427387904 (gadd (gmul jy ja) (gmul jz jc)) := (t1'.add t3').mono (by omega)
 have hd : Bd 4611686018427387904 (gsub (gmul jy ja) (gmul jz jc)) := Bd.mk (by unfold gsub; simp only; omega)
 have hdt := (hd.turn (turns1 inv 1))
 have ld := hd.le
 have ldt := hdt.le
 have lpp := lp.le
 have E1 := kh (show wrap64 ((bits : Int) + 1) = ((bits + 1 : Nat) : Int) by rw [IntWalk.wrap64_in _ ⟨by omega, by omega⟩]; omega)
 have E2 := kh (show wrap64 ((bits : Int) + 2) = ((bits + 2 : Nat) : Int) by rw [IntWalk.wrap64_in _ ⟨by omega, by omega⟩]; omega)
 have HT := kh (rtimes_gi jy ja hy (ha.mono (show (2 : Int) ^ bits ≤ 1073741824 by omega)))
 have HT3 := kh (rtimes_gi jz jc hz (hc.mono (show (2 : Int) ^ bits ≤ 1073741824 by omega)))
 have HP := kh (rsum_gi (gmul jy ja) (gmul jz jc) (by omega) (by omega))
 have HL := kh (rless_gi (gmul jy ja) (gmul jz jc) (by omega) (by omega))
 have HN := kh (rturn12_gi (gsub (gmul jy ja) (gmul jz jc)) (turns1 inv 1) (by omega))
 have HU := kh (scale12_c ju (bits + 1) (by omega) hu)
 have HV := kh (scale12_c jv (bits + 1) (by omega) hv)
 have sh : ∀ x : Gi, Bd 9000000000000000000 x → ∀ W, Calls Tryz.prog 85 #[.agg #[x.re, x.im], .int .i64 ((bits + 2 : Nat) : Int), mo] W fun e w' => e = .returned (.agg #[(grnd (bits + 2) mo x).re, (grnd (bits + 2) mo x).im]) ∧ Gr W w' := fun x hx W => by
  have := hx.le
  exact rshift03_gi x (bits + 2) mo (by omega) (by omega) m0 m1 W
 have hsub : ∀ a b : Gi, Bd 2305843009213693952 a → Bd 4611686018427387904 b → Bd 9000000000000000000 (gsub a b) := fun a b ha hb => by
  have h1 := ha.le;have h2 := hb.le
  exact Bd.mk (by unfold gsub; simp only; omega)
 have hc4 : q = 0 ∨ q = 1 ∨ q = 2 ∨ q = 3 := by omega
 cases inv
 ·rcases hc4 with rfl | rfl | rfl | rfl
  ·exact rJoin_true_0_ofA.2.2.1 bits mo _ _ ju jv jy jz ja jc _ _ _ _ _ _ _ _ _ E1.out E2.out HT HT3 HP HL HN HU HV (kh (rsum_gi _ _ (by omega) (by omega))) (kh (sh _ ((hU.add lp).mono (by omega)))) w
  ·exact rJoin_true_1_ofA.2.2.1 bits mo _ _ ju jv jy jz ja jc _ _ _ _ _ _ _ _ _ E1.out E2.out HT HT3 HP HL HN HU HV (kh (rsum_gi _ _ (by omega) (by omega))) (kh (sh _ ((hV.add hdt).mono (by omega)))) w
  ·exact rJoin_true_0_ofA.2.2.2 bits mo _ _ ju jv jy jz ja jc _ _ _ _ _ _ _ _ _ E1.out E2.out HT HT3 HP HL HN HU HV (kh (rless_gi _ _ (by omega) (by omega))) (kh (sh _ (hsub _ _ hU lp))) w
  ·exact rJoin_true_1_ofA.2.2.2 bits mo _ _ ju jv jy jz ja jc _ _ _ _ _ _ _ _ _ E1.out E2.out HT HT3 HP HL HN HU HV (kh (rless_gi _ _ (by omega) (by omega))) (kh (sh _ (hsub _ _ hV hdt))) w
 ·rcases hc4 with rfl | rfl | rfl | rfl
  ·exact rJoin_true_0_ofA.1 bits mo _ _ ju jv jy jz ja jc _ _ _ _ _ _ _ _ _ E1.out E2.out HT HT3 HP HL HN HU HV (kh (rsum_gi _ _ (by omega) (by omega))) (kh (sh _ ((hU.add lp).mono (by omega)))) w
  ·exact rJoin_true_1_ofA.1 bits mo _ _ ju jv jy jz ja jc _ _ _ _ _ _ _ _ _ E1.out E2.out HT HT3 HP HL HN HU HV (kh (rsum_gi _ _ (by omega) (by omega))) (kh (sh _ ((hV.add hdt).mono (by omega)))) w
  ·exact rJoin_true_0_ofA.2.1 bits mo _ _ ju jv jy jz ja jc _ _ _ _ _ _ _ _ _ E1.out E2.out HT HT3 HP HL HN HU HV (kh (rless_gi _ _ (by omega) (by omega))) (kh (sh _ (hsub _ _ hU lp))) w
  ·exact rJoin_true_1_ofA.2.1 bits mo _ _ ju jv jy jz ja jc _ _ _ _ _ _ _ _ _ E1.out E2.out HT HT3 HP HL HN HU HV (kh (rless_gi _ _ (by omega) (by omega))) (kh (sh _ (hsub _ _ hV hdt))) w
theorem sL_zero (bits : Nat) (mo : Int) (inv : Bool) (ws xs : List Gi) (h : xs.length = 1) : sL bits mo inv ws 0 xs = xs := by
 have := list_getD xs
 rw [h] at this
 unfold sL
 exact this.symm
theorem sL_one (bits : Nat) (mo : Int) (inv : Bool) (ws xs : List Gi) : sL bits mo inv ws 1 xs = [grnd 1 mo (gadd (xs.getD 0 ⟨0, 0⟩) (xs.getD 1 ⟨0, 0⟩)), grnd 1 mo (gsub (xs.getD 0 ⟨0, 0⟩) (xs.getD 1 ⟨0, 0⟩))] := by
 unfold sL
 rfl
theorem pick_len (xs : List Gi) (F S m : Nat) : ((List.range m).map (pick xs F S)).length = m := by simp
theorem Len.bd31 {R : Int} {bits : Nat} {a : Gi} (hb : bits ≤ 29) (h0 : 0 ≤ R) (h : R ≤ 3 * 2 ^ bits) (k : Len R a) : Bd 2147483648 a := by
 have := pow29 bits hb
 exact (k.bd h0).mono (by omega)
theorem len_units (k L n : Nat) (hL : k + 2 ≤ L) (hn : n = 2 ^ L) : n = 4 * 2 ^ k * 2 ^ (L - (k + 2)) ∧ n / 2 ^ (k + 2) = 2 ^ (L - (k + 2)) := by
 have e : 2 ^ (k + 2) = 4 * 2 ^ k := by rw [Nat.pow_succ, Nat.pow_succ]; omega
 have h : n = 2 ^ (k + 2) * 2 ^ (L - (k + 2)) := by rw [hn, ← Nat.pow_add]; congr 1; omega
 exact ⟨by rw [h, e], by rw [h]; exact Nat.mul_div_cancel_left _ (Nat.two_pow_pos _)⟩
theorem sTransform_c (bits : Nat) (mo : Int) (inv : Bool) (ws : List Gi) (L n : Nat) (hL : L ≤ 6) (hn : n = 2 ^ L) (lw : ws.length = n) (hb : bits ≤ 29) (m0 : 0 ≤ mo) (m1 : mo ≤ 2)
 (hW : ∀ k, Len (2 ^ bits + 2) (rootOf ws inv k)) (hWb : ∀ k, k < n → Bd (2 ^ bits) (ws.getD k ⟨0, 0⟩)) (R : Int) (hR : 0 ≤ R) (hRB : R + 30 ≤ 3 * 2 ^ bits) (pw : Option Addr) (cw : Nat) :
 ∀ (l : Nat), l ≤ L → ∀ (xs : List Gi) (px : Option Addr) (cx : Nat) (w : World), xs.length = 2 ^ l → (∀ j, j < 2 ^ l → Len R (xs.getD j ⟨0, 0⟩)) → CxsAt w (.slice px (2 ^ l : Nat) cx) xs → CxsAt w (.slice pw n cw) ws →
  Calls Tryz.prog 153 #[.agg #[bits, mo, inv], .slice px (2 ^ l : Nat) cx, .slice pw n cw] w fun e w' => ∃ v, e = .returned v ∧ CxsAt w' v (sL bits mo inv ws l xs) ∧ Gr w w'
 | 0, _, xs, px, cx, w, hl, hx, vx, vw => by
   rw [sL_zero _ _ _ _ _ hl]
   exact sTrans_0 bits mo inv pw px n cw cx xs w vx
 | 1, _, xs, px, cx, w, hl, hx, vx, vw => by
   rw [sL_one];obtain ⟨b, o, cap, hv, _, hbl, hc⟩ := vx.at (by intro e; rw [e] at hl; simp at hl);rw [hl] at hv
   cases hv
   have k0 := CxsAt.getD (n := 0) (cap := 0) hc 0 (by omega);have k1 := CxsAt.getD (n := 0) (cap := 0) hc 1 (by omega);have b0 := Len.bd31 hb hR (by omega) (hx 0 (by omega));have b1 := Len.bd31 hb hR (by omega) (hx 1 (by omega))
   exact sTrans_1 bits mo inv pw b o n cw cx _ _ _ _ (kh (sHalved_c bits mo inv _ _ m0 m1 b0 b1)) w hbl (by simpa using k0.1) (by simpa using k0.2) (by simpa using k1.1) (by simpa using k1.2)
 | k + 2, hk, xs, px, cx, w, hl, hx, vx, vw => by
   have ih1 := sTransform_c bits mo inv ws L n hL hn lw hb m0 m1 hW hWb R hR hRB pw cw (k + 1) (by omega);have ih2 := sTransform_c bits mo inv ws L n hL hn lw hb m0 m1 hW hWb R hR hRB pw cw k (by omega);obtain ⟨hu, hdu⟩ := len_units k L n hk hn
   have hp6 : 2 ^ (k + 2) ≤ 64 := Nat.pow_le_pow_right (n := 2) (by omega) (show k + 2 ≤ 6 by omega)
   have hn6 : n ≤ 64 := by rw [hn]; exact Nat.pow_le_pow_right (n := 2) (by omega) hL
   have hp0 := Nat.two_pow_pos k;have hu0 := Nat.two_pow_pos (L - (k + 2))
   have e1 : 2 ^ (k + 1) = 2 * 2 ^ k := by rw [Nat.pow_succ]; omega
   have e2 : 2 ^ (k + 2) = 4 * 2 ^ k := by rw [Nat.pow_succ, Nat.pow_succ]; omega
   obtain ⟨b, o, cap, hv, _, hbl, hc⟩ := vx.at (by intro e; rw [e] at hl; simp at hl; omega);rw [hl] at hv
   cases hv
   have hxe : ∀ j, j < 2 ^ (k + 1) → Len R (xs.getD (0 + 2 * j) ⟨0, 0⟩) := fun j hj => hx _ (by omega)
   have hxf : ∀ j, j < 2 ^ k → Len R (xs.getD (1 + 4 * j) ⟨0, 0⟩) := fun j hj => hx _ (by omega)
   have hxg : ∀ j, j < 2 ^ k → Len R (xs.getD (3 + 4 * j) ⟨0, 0⟩) := fun j hj => hx _ (by omega)
   have hm : mo = 0 ∨ mo = 1 ∨ mo = 2 := by omega
   have bE : ∀ j, j < 2 ^ (k + 1) → Bd 2147483648 ((sL bits mo inv ws (k + 1) ((List.range (2 ^ (k + 1))).map (pick xs 0 2))).getD j ⟨0, 0⟩) := fun j hj => by
    rw [sL_pick _ _ _ _ _ _ _ _ _ hj]
    exact Len.bd31 hb (by omega) (by omega) (spl_len bits mo inv _ _ hm hW (k + 1) R _ hR (by omega) hxe j hj)
   have bF : ∀ F j, j < 2 ^ k → (∀ j, j < 2 ^ k → Len R (xs.getD (F + 4 * j) ⟨0, 0⟩)) → Bd 2147483648 ((sL bits mo inv ws k ((List.range (2 ^ k)).map (pick xs F 4))).getD j ⟨0, 0⟩) := fun F j hj hh => by
    rw [sL_pick _ _ _ _ _ _ _ _ _ hj]
    exact Len.bd31 hb (by omega) (by omega) (spl_len bits mo inv _ _ hm hW k R _ hR (by omega) hh j hj)
   have hju : ∀ j, j < 2 ^ k → j * 2 ^ (L - (k + 2)) < n ∧ 3 * j * 2 ^ (L - (k + 2)) < n := by
    intro j hj
    have k1 : (j + 1) * 2 ^ (L - (k + 2)) ≤ 2 ^ k * 2 ^ (L - (k + 2)) := Nat.mul_le_mul_right _ hj
    rw [Nat.succ_mul] at k1;rw [Nat.mul_assoc] at hu;rw [Nat.mul_assoc]
    omega
   have rootB : ∀ i, i < n → Bd (2 ^ bits) (rootOf ws inv i) := by
    intro i hi
    have := hWb i hi
    unfold rootOf
    cases inv
    ·exact this
    ·have h := this.le
     exact Bd.mk (by simp only [if_true]; unfold Gi.conj; simp only; omega)
   have rootC : ∀ i, i < n → ∀ W, Calls Tryz.prog 198 #[.agg #[bits, mo, inv], .agg #[.int .i64 (ws.getD i ⟨0, 0⟩).re, .int .i64 (ws.getD i ⟨0, 0⟩).im]] W fun e w' => e = .returned (.agg #[.int .i64 (rootOf ws inv i).re, .int .i64 (rootOf ws inv i).im]) ∧ Gr W w' := by
    intro i hi W
    have h := (hWb i hi).le;have hp := pow29 bits hb
    exact sAsked_c bits mo (ws.getD i ⟨0, 0⟩) inv (by omega) W
   have := sTrans_2 bits mo inv pw b o n cw cx (2 ^ (k + 2)) (2 ^ k) (2 ^ (k + 1)) xs ws _ _ _ (sL bits mo inv ws (k + 2) xs) hl e2 e1 hp0 hp6
    (sL_len bits mo inv ws (k + 1) ((List.range (2 ^ (k + 1))).map (pick xs 0 2))) (sL_len bits mo inv ws k ((List.range (2 ^ k)).map (pick xs 1 4))) (sL_len bits mo inv ws k ((List.range (2 ^ k)).map (pick xs 3 4)))
    (kh fun px cx W h1 h2 => ih1 _ px cx W (pick_len _ _ _ _) (fun j hj => by rw [getD_map _ _ _ hj]; exact hxe j hj) h1 h2)
    (kh fun px cx W h1 h2 => ih2 _ px cx W (pick_len _ _ _ _) (fun j hj => by rw [getD_map _ _ _ hj]; exact hxf j hj) h1 h2)
    (kh fun px cx W h1 h2 => ih2 _ px cx W (pick_len _ _ _ _) (fun j hj => by rw [getD_map _ _ _ hj]; exact hxg j hj) h1 h2)
    (kh fun pe ce pf cf pg cg W h1 h2 h3 h4 => by
     rw [sL_two, lw, hdu];refine (fun (key : ∀ m2, m2 = 2 * 2 ^ k → CxsAt W (.slice pe m2 ce) (sL bits mo inv ws (k + 1) ((List.range (2 ^ (k + 1))).map (pick xs 0 2))) → Calls Tryz.prog 181 #[.agg #[bits, mo, inv], .slice pe m2 ce, .slice pf (2 ^ k : Nat) cf, .slice pg (2 ^ k : Nat) cg, .slice pw n cw] W _) => key _ e1 h1) ?_
     intro m2 hm2 h1
     subst hm2
     exact sJoinAll_of bits mo inv pe pf pg pw ce cf cg cw _ _ _ ws (2 ^ k) (2 ^ (L - (k + 2))) n
      (fun j q => joinG bits mo inv q ((sL bits mo inv ws (k + 1) ((List.range (2 ^ (k + 1))).map (pick xs 0 2))).getD j ⟨0, 0⟩) ((sL bits mo inv ws (k + 1) ((List.range (2 ^ (k + 1))).map (pick xs 0 2))).getD (2 ^ k + j) ⟨0, 0⟩)
       ((sL bits mo inv ws k ((List.range (2 ^ k)).map (pick xs 1 4))).getD j ⟨0, 0⟩) ((sL bits mo inv ws k ((List.range (2 ^ k)).map (pick xs 3 4))).getD j ⟨0, 0⟩) (rootOf ws inv (j * 2 ^ (L - (k + 2)))) (rootOf ws inv (3 * j * 2 ^ (L - (k + 2)))))
      (fun j => rootOf ws inv (j * 2 ^ (L - (k + 2)))) (fun j => rootOf ws inv (3 * j * 2 ^ (L - (k + 2)))) hp0 hu0 hu hn6 ((sL_len _ _ _ _ _ _).trans e1) (sL_len _ _ _ _ _ _) (sL_len _ _ _ _ _ _) lw
      (kh fun j hj W => rootC _ (hju j hj).1 W) (kh fun j hj W => rootC _ (hju j hj).2 W)
      (kh fun j hj W => sJoined_c bits mo inv _ _ _ _ _ _ hb m0 m1 (bE j (by omega)) (bE (2 ^ k + j) (by omega)) (bF 1 j hj hxf) (bF 3 j hj hxg) (rootB _ (hju j hj).1) (rootB _ (hju j hj).2) W)
      W h1 h2 h3 h4)
    w hbl (fun j hj => CxsAt.getD (n := 0) (cap := 0) hc j (by omega)) vw
   exact this
end
section
set_option linter.unusedVariables false
set_option maxRecDepth 100000
set_option maxHeartbeats 16000000
theorem root_len (n k : Int) (hn : IsLen n) (s : Nat) (h0 : 26 ≤ s) (h1 : s ≤ 44) : Len (2 ^ (56 - s) + 2) (rootG n k s) := by
 have hp := (root_prod n k (-k) hn s h0 h1 _ rfl).1
 rw [root_back n k hn s (by omega) (by omega), show k + -k = 0 by omega, root_zero n hn s (by omega) (by omega)] at hp
 have hq := pow_pos2 (56 - s)
 unfold Len
 generalize rootG n k s = g at *
 obtain ⟨x, y⟩ := g
 unfold Gi.less Gi.mul Gi.conj Gi.up at hp
 simp only at hp ⊢
 generalize (2 : Int) ^ (56 - s) = B at *
 have e : x * x - y * -y - B * B = x * x + y * y - B * B := by grind
 rw [e] at hp
 have e2 : (B + 2) * (B + 2) = B * B + 4 * B + 4 := by grind
 omega
theorem roots_len (n : Int) (hn : IsLen n) (bits : Nat) (h0 : 12 ≤ bits) (h1 : bits ≤ 30) (inv : Bool) (k : Nat) : Len (2 ^ bits + 2) (rootOf (rootsL n (56 - bits)) inv k) := by
 have hp := pow_pos2 bits
 have key : Len (2 ^ bits + 2) ((rootsL n (56 - bits)).getD k ⟨0, 0⟩) := by
  by_cases h : k < n.toNat
  ·unfold rootsL
   rw [List.getD_eq_getElem?_getD, List.getElem?_map, List.getElem?_range h]
   have := root_len n k hn (56 - bits) (by omega) (by omega)
   rw [show 56 - (56 - bits) = bits by omega] at this
   exact this
  ·rw [List.getD_eq_getElem?_getD, List.getElem?_eq_none (by rw [rootsL_len]; omega)]
   exact Len.zero _
 unfold rootOf
 cases inv
 ·exact key
 ·exact key.conj
theorem roots_in (n : Int) (hn : IsLen n) (bits : Nat) (h0 : 1 ≤ bits) (h1 : bits ≤ 40) (k : Nat) (hk : k < n.toNat) : Bd (2 ^ bits) ((rootsL n (56 - bits)).getD k ⟨0, 0⟩) := by
 unfold rootsL
 rw [List.getD_eq_getElem?_getD, List.getElem?_map, List.getElem?_range hk]
 have := root_bd n k hn (56 - bits) (by omega) (by omega)
 rw [show 56 - (56 - bits) = bits by omega] at this
 have e : ((2 ^ bits : Nat) : Int) = 2 ^ bits := by simp
 refine Bd.mk ?_
 simp only [Option.map_some, Option.getD_some]
 generalize (2 : Int) ^ bits = P at *
 generalize 2 ^ bits = p at *
 omega
end
end Go.Proofs.YtdignnmpfkgkoaaGreat
