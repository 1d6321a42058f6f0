/- What reference 12's Join and Joins answer. -/
import Derived.Test.YtmhcbphkkcmecaaSplitMath
import Derived.Test.YtmhcbphkkcmecaaGiCalls
import Derived.Test.YtmhcbphkkcmecaaRef10
import Derived.Test.YtmhcbphkkcmecaaRow
import Derived.Test.YtmhcbphkkcmecaaGrow
import Derived.Test.YtmhcbphkkcmecaaFourCode4
namespace Go.Proofs.Ytmhcbphkkcmecaa
open Go.ChangeShapes Go.WideShapes Go.ChangeAt Go.RowKit
set_option linter.unusedVariables false
set_option linter.unusedSimpArgs false
set_option maxRecDepth 100000

theorem rturn12_gi (a : Gi) (q : Int) (h : a.re.natAbs ≤ 4611686018427387904 ∧ a.im.natAbs ≤ 4611686018427387904) (w : World) :
    Calls Try.prog 35 #[.agg #[.int .i64 (a).re, .int .i64 (a).im], .int .i64 q] w fun e w' => e = .returned (.agg #[.int .i64 (a.turn q).re, .int .i64 (a.turn q).im]) ∧ Gr w w' := by
  have h0 : wrap64 (-a.re) = -a.re := IntWalk.wrap64_in _ (by omega)
  have h1 : wrap64 (-a.im) = -a.im := IntWalk.wrap64_in _ (by omega)
  have ht := tmod4 q
  unfold Gi.turn
  rcases q4g q with hm | hm | hm | hm <;> rw [hm] at ht <;> simp only [hm]
  · exact rturn_0 a.re a.im q _ _ _ h0 h1 rfl (by omega) w
  · exact rturn_1 a.re a.im q _ _ _ h0 h1 rfl (by omega) w
  · exact rturn_2 a.re a.im q _ _ _ h0 h1 rfl (by omega) w
  · exact rturn_3 a.re a.im q _ _ _ h0 h1 rfl (by omega) w
theorem rless_gi (a b : Gi) (h0 : -9223372036854775808 ≤ a.re - b.re ∧ a.re - b.re ≤ 9223372036854775807) (h1 : -9223372036854775808 ≤ a.im - b.im ∧ a.im - b.im ≤ 9223372036854775807) (w : World) :
    Calls Try.prog 51 #[.agg #[.int .i64 (a).re, .int .i64 (a).im], .agg #[.int .i64 (b).re, .int .i64 (b).im]] w fun e w' => e = .returned (.agg #[.int .i64 (gsub a b).re, .int .i64 (gsub a b).im]) ∧ Gr w w' :=
  rless_c a.re a.im b.re b.im _ _ (IntWalk.wrap64_in _ h0) (IntWalk.wrap64_in _ h1) w
theorem scale12_c (a : Gi) (bits : Nat) (hb : bits ≤ 30) (ha : Bd 2147483648 a) (w : World) :
    Calls Try.prog 32 #[.agg #[.int .i64 (a).re, .int .i64 (a).im], .int .i64 bits] w fun e w' => e = .returned (.agg #[.int .i64 (gscale bits a).re, .int .i64 (gscale bits a).im]) ∧ Gr w w' := by
  have h1 : (2 : Nat) ^ bits ≤ 2 ^ 30 := Nat.pow_le_pow_right (by decide) hb
  have hc : ((2 ^ bits : Nat) : Int) = 2 ^ bits := by rw [Int.natCast_pow]; rfl
  have hp := pow_pos2 bits
  have h2 : (2 : Int) ^ bits ≤ 1073741824 := by omega
  have l := (Bd.scale ha bits).le
  have l0 : wrap64 (a.re * 2 ^ bits) = (gscale bits a).re := IntWalk.wrap64_in _ (by unfold gscale at l; simp only at l; omega)
  have l1 : wrap64 (a.im * 2 ^ bits) = (gscale bits a).im := IntWalk.wrap64_in _ (by unfold gscale at l; simp only at l; omega)
  have HP := Lib.hid (pow08_c' bits (2 ^ bits) rfl (by omega))
  generalize gscale bits a = r at *
  generalize (2 : Int) ^ bits = P at *
  clear h1 hc hp h2 l hb ha
  go_enter Try.func32, Try.ntmps32
  go_wp2_with (go_at_call 14; refine (HP.out _).mono ?_; rintro e wz ⟨rfl, rfl⟩)
  refine bodyPost_ret (v := .agg #[.int .i64 r.re, .int .i64 r.im]) ?_ rfl ⟨rfl, ?_⟩
  · simp [results, Try.results32, go_sem]
  · exact by repeat (first | exact Gr.refl _ | assumption | apply Gr.drew | apply Gr.alloc | (refine Gr.setCell ?_ (by first | (simp; done) | (simp; omega)) _))


set_option maxHeartbeats 4000000 in
theorem rJoin_true_0_of (bits mo b1 b2 : Int) (ju jv jy jz ja jc t t3 p d dd U V s o : Gi) (h1 : wrap64 (bits + 1) = b1) (h2 : wrap64 (bits + 2) = b2)
    (HT : Hid (∀ W, Calls Try.prog 33 #[.agg #[.int .i64 (jy).re, .int .i64 (jy).im], .agg #[.int .i64 (ja).re, .int .i64 (ja).im]] W fun e w' => e = .returned (.agg #[.int .i64 (t).re, .int .i64 (t).im]) ∧ Gr W w')) (HT3 : Hid (∀ W, Calls Try.prog 33 #[.agg #[.int .i64 (jz).re, .int .i64 (jz).im], .agg #[.int .i64 (jc).re, .int .i64 (jc).im]] W fun e w' => e = .returned (.agg #[.int .i64 (t3).re, .int .i64 (t3).im]) ∧ Gr W w')) (HP : Hid (∀ W, Calls Try.prog 34 #[.agg #[.int .i64 (t).re, .int .i64 (t).im], .agg #[.int .i64 (t3).re, .int .i64 (t3).im]] W fun e w' => e = .returned (.agg #[.int .i64 (p).re, .int .i64 (p).im]) ∧ Gr W w')) (HL : Hid (∀ W, Calls Try.prog 51 #[.agg #[.int .i64 (t).re, .int .i64 (t).im], .agg #[.int .i64 (t3).re, .int .i64 (t3).im]] W fun e w' => e = .returned (.agg #[.int .i64 (d).re, .int .i64 (d).im]) ∧ Gr W w'))
    (HN : Hid (∀ W, Calls Try.prog 35 #[.agg #[.int .i64 (d).re, .int .i64 (d).im], .int .i64 1] W fun e w' => e = .returned (.agg #[.int .i64 (dd).re, .int .i64 (dd).im]) ∧ Gr W w')) (HU : Hid (∀ W, Calls Try.prog 32 #[.agg #[.int .i64 (ju).re, .int .i64 (ju).im], .int .i64 b1] W fun e w' => e = .returned (.agg #[.int .i64 (U).re, .int .i64 (U).im]) ∧ Gr W w')) (HV : Hid (∀ W, Calls Try.prog 32 #[.agg #[.int .i64 (jv).re, .int .i64 (jv).im], .int .i64 b1] W fun e w' => e = .returned (.agg #[.int .i64 (V).re, .int .i64 (V).im]) ∧ Gr W w'))
    (HS : Hid (∀ W, Calls Try.prog 34 #[.agg #[.int .i64 (U).re, .int .i64 (U).im], .agg #[.int .i64 (p).re, .int .i64 (p).im]] W fun e w' => e = .returned (.agg #[.int .i64 (s).re, .int .i64 (s).im]) ∧ Gr W w')) (HF : Hid (∀ W, Calls Try.prog 36 #[.agg #[.int .i64 (s).re, .int .i64 (s).im], .int .i64 b2, .int .i64 mo] W fun e w' => e = .returned (.agg #[.int .i64 (o).re, .int .i64 (o).im]) ∧ Gr W w')) (w : World) :
    Calls Try.prog 26 #[.agg #[.int .i64 ju.re, .int .i64 ju.im, .int .i64 jv.re, .int .i64 jv.im, .int .i64 jy.re, .int .i64 jy.im, .int .i64 jz.re, .int .i64 jz.im, .int .i64 ja.re, .int .i64 ja.im, .int .i64 jc.re, .int .i64 jc.im], .int .i64 0, .int .i64 bits, .int .i64 mo, .bool true] w fun e w' => e = .returned (.agg #[.int .i64 (o).re, .int .i64 (o).im]) ∧ Gr w w' := by
  go_enter Try.func26, Try.ntmps26
  go_wp2_with fail
  obtain ⟨u0, hU⟩ : ∃ uu, uu = ((w.alloc (.cells #[.int .i64 ju.re, .int .i64 ju.im, .int .i64 jv.re, .int .i64 jv.im, .int .i64 jy.re, .int .i64 jy.im, .int .i64 jz.re, .int .i64 jz.im, .int .i64 ja.re, .int .i64 ja.im, .int .i64 jc.re, .int .i64 jc.im] 47)).alloc (.cells #[.int .i64 0, .int .i64 0] 23)) := ⟨_, rfl⟩
  have gu : Gr w u0 := by rw [hU]; exact ((Gr.refl w).alloc _ _).alloc _ _
  have R0 : CellsAt u0 (w.heap.size) 47 #[.int .i64 ju.re, .int .i64 ju.im, .int .i64 jv.re, .int .i64 jv.im, .int .i64 jy.re, .int .i64 jy.im, .int .i64 jz.re, .int .i64 jz.im, .int .i64 ja.re, .int .i64 ja.im, .int .i64 jc.re, .int .i64 jc.im] := by
    rw [hU]
    have := ((CellsAt.new w 47 #[.int .i64 ju.re, .int .i64 ju.im, .int .i64 jv.re, .int .i64 jv.im, .int .i64 jy.re, .int .i64 jy.im, .int .i64 jz.re, .int .i64 jz.im, .int .i64 ja.re, .int .i64 ja.im, .int .i64 jc.re, .int .i64 jc.im]).alloc (.cells #[.int .i64 0, .int .i64 0] 23))
    simpa only [World.size_alloc] using this
  have R1 : CellsAt u0 (w.heap.size + 1) 23 #[.int .i64 0, .int .i64 0] := by
    rw [hU]
    have := (CellsAt.new (w.alloc (.cells #[.int .i64 ju.re, .int .i64 ju.im, .int .i64 jv.re, .int .i64 jv.im, .int .i64 jy.re, .int .i64 jy.im, .int .i64 jz.re, .int .i64 jz.im, .int .i64 ja.re, .int .i64 ja.im, .int .i64 jc.re, .int .i64 jc.im] 47)) 23 #[.int .i64 0, .int .i64 0])
    simpa only [World.size_alloc] using this
  rw [← hU]
  clear hU
  have lj := R0.lt
  have lr := R1.lt
  refine (HT.out _).mono ?_
  rintro e w1 ⟨rfl, g1⟩
  have Fj_1 := CellsAt.gr (R0) g1
  have lj_1 := CellsAt.lt (Fj_1)
  have Fr_1 := CellsAt.gr (R1) g1
  have lr_1 := CellsAt.lt (Fr_1)
  have z1 := (gu).trans g1
  clear R0 R1 gu g1
  have cj0 := CellsAt.cell (Fj_1) 0
  have cj1 := CellsAt.cell (Fj_1) 1
  have cj2 := CellsAt.cell (Fj_1) 2
  have cj3 := CellsAt.cell (Fj_1) 3
  have cj4 := CellsAt.cell (Fj_1) 4
  have cj5 := CellsAt.cell (Fj_1) 5
  have cj6 := CellsAt.cell (Fj_1) 6
  have cj7 := CellsAt.cell (Fj_1) 7
  have cj8 := CellsAt.cell (Fj_1) 8
  have cj9 := CellsAt.cell (Fj_1) 9
  have cj10 := CellsAt.cell (Fj_1) 10
  have cj11 := CellsAt.cell (Fj_1) 11
  simp only [List.getElem?_toArray, List.getElem?_cons_zero, List.getElem?_cons_succ] at cj0 cj1 cj2 cj3 cj4 cj5 cj6 cj7 cj8 cj9 cj10 cj11
  go_wp2_with fail
  clear cj0 cj1 cj2 cj3 cj4 cj5 cj6 cj7 cj8 cj9 cj10 cj11
  refine (HT3.out _).mono ?_
  rintro e w2 ⟨rfl, g2⟩
  have Fj_2 := CellsAt.gr ((Fj_1).alloc _) g2
  have lj_2 := CellsAt.lt (Fj_2)
  have Fr_2 := CellsAt.gr ((Fr_1).alloc _) g2
  have lr_2 := CellsAt.lt (Fr_2)
  have Ft_2 := CellsAt.gr (CellsAt.new w1 23 #[.int .i64 t.re, .int .i64 t.im]) g2
  have lt_2 := CellsAt.lt (Ft_2)
  have z2 := ((z1).alloc _ _).trans g2
  clear g2
  have ct0 := CellsAt.cell (Ft_2) 0
  have ct1 := CellsAt.cell (Ft_2) 1
  simp only [List.getElem?_toArray, List.getElem?_cons_zero, List.getElem?_cons_succ] at ct0 ct1
  go_wp2_with fail
  clear ct0 ct1
  refine (HP.out _).mono ?_
  rintro e w3 ⟨rfl, g3⟩
  have Fj_3 := CellsAt.gr ((Fj_2).alloc _) g3
  have lj_3 := CellsAt.lt (Fj_3)
  have Fr_3 := CellsAt.gr ((Fr_2).alloc _) g3
  have lr_3 := CellsAt.lt (Fr_3)
  have Ft_3 := CellsAt.gr ((Ft_2).alloc _) g3
  have lt_3 := CellsAt.lt (Ft_3)
  have Ft3_3 := CellsAt.gr (CellsAt.new w2 23 #[.int .i64 t3.re, .int .i64 t3.im]) g3
  have lt3_3 := CellsAt.lt (Ft3_3)
  have z3 := ((z2).alloc _ _).trans g3
  clear g3
  have ct0 := CellsAt.cell (Ft_3) 0
  have ct1 := CellsAt.cell (Ft_3) 1
  have ct30 := CellsAt.cell (Ft3_3) 0
  have ct31 := CellsAt.cell (Ft3_3) 1
  simp only [List.getElem?_toArray, List.getElem?_cons_zero, List.getElem?_cons_succ] at ct0 ct1 ct30 ct31
  go_wp2_with fail
  clear ct0 ct1 ct30 ct31
  refine (HL.out _).mono ?_
  rintro e w4 ⟨rfl, g4⟩
  have Fj_4 := CellsAt.gr ((Fj_3).alloc _) g4
  have lj_4 := CellsAt.lt (Fj_4)
  have Fr_4 := CellsAt.gr ((Fr_3).alloc _) g4
  have lr_4 := CellsAt.lt (Fr_4)
  have Ft_4 := CellsAt.gr ((Ft_3).alloc _) g4
  have lt_4 := CellsAt.lt (Ft_4)
  have Ft3_4 := CellsAt.gr ((Ft3_3).alloc _) g4
  have lt3_4 := CellsAt.lt (Ft3_4)
  have Fp_4 := CellsAt.gr (CellsAt.new w3 23 #[.int .i64 p.re, .int .i64 p.im]) g4
  have lp_4 := CellsAt.lt (Fp_4)
  have z4 := ((z3).alloc _ _).trans g4
  clear g4
  go_wp2_with fail
  refine (HN.out _).mono ?_
  rintro e w5 ⟨rfl, g5⟩
  have Fj_5 := CellsAt.gr ((Fj_4).alloc _) g5
  have lj_5 := CellsAt.lt (Fj_5)
  have Fr_5 := CellsAt.gr ((Fr_4).alloc _) g5
  have lr_5 := CellsAt.lt (Fr_5)
  have Fp_5 := CellsAt.gr ((Fp_4).alloc _) g5
  have lp_5 := CellsAt.lt (Fp_5)
  have Fd_5 := CellsAt.gr (CellsAt.new w4 23 #[.int .i64 d.re, .int .i64 d.im]) g5
  have ld_5 := CellsAt.lt (Fd_5)
  have z5 := ((z4).alloc _ _).trans g5
  clear g5
  have cj0 := CellsAt.cell (Fj_5) 0
  have cj1 := CellsAt.cell (Fj_5) 1
  have cj2 := CellsAt.cell (Fj_5) 2
  have cj3 := CellsAt.cell (Fj_5) 3
  have cj4 := CellsAt.cell (Fj_5) 4
  have cj5 := CellsAt.cell (Fj_5) 5
  have cj6 := CellsAt.cell (Fj_5) 6
  have cj7 := CellsAt.cell (Fj_5) 7
  have cj8 := CellsAt.cell (Fj_5) 8
  have cj9 := CellsAt.cell (Fj_5) 9
  have cj10 := CellsAt.cell (Fj_5) 10
  have cj11 := CellsAt.cell (Fj_5) 11
  simp only [List.getElem?_toArray, List.getElem?_cons_zero, List.getElem?_cons_succ] at cj0 cj1 cj2 cj3 cj4 cj5 cj6 cj7 cj8 cj9 cj10 cj11
  have md0 := CellsAt.frozen (Fd_5) 0
  have cd0 := CellsAt.cell (Fd_5) 0
  simp only [List.getElem?_toArray, List.getElem?_cons_zero, List.getElem?_cons_succ] at cd0
  have md1 := CellsAt.frozen (Fd_5) 1
  have cd1 := CellsAt.cell (Fd_5) 1
  simp only [List.getElem?_toArray, List.getElem?_cons_zero, List.getElem?_cons_succ] at cd1
  go_wp2_with fail
  clear cj0 cj1 cj2 cj3 cj4 cj5 cj6 cj7 cj8 cj9 cj10 cj11 md0 cd0 md1 cd1
  refine (HU.out _).mono ?_
  rintro e w6 ⟨rfl, g6⟩
  have Fj_6 := CellsAt.gr (((Fj_5).other (by omega) _ _).other (by omega) _ _) g6
  have lj_6 := CellsAt.lt (Fj_6)
  have Fr_6 := CellsAt.gr (((Fr_5).other (by omega) _ _).other (by omega) _ _) g6
  have lr_6 := CellsAt.lt (Fr_6)
  have Fp_6 := CellsAt.gr (((Fp_5).other (by omega) _ _).other (by omega) _ _) g6
  have lp_6 := CellsAt.lt (Fp_6)
  have Fd_6 := CellsAt.gr (CellsAt.set2 (Fd_5) _ _) g6
  have ld_6 := CellsAt.lt (Fd_6)
  have z6 := (((z5).setCell (by first | omega | (simp only; omega)) _).setCell (by first | omega | (simp only; omega)) _).trans g6
  clear g6
  have cd0 := CellsAt.cell (Fd_6) 0
  have cd1 := CellsAt.cell (Fd_6) 1
  have cp0 := CellsAt.cell (Fp_6) 0
  have cp1 := CellsAt.cell (Fp_6) 1
  simp only [List.getElem?_toArray, List.getElem?_cons_zero, List.getElem?_cons_succ] at cd0 cd1 cp0 cp1
  have mr0 := CellsAt.frozen (Fr_6) 0
  have cr0 := CellsAt.cell (Fr_6) 0
  simp only [List.getElem?_toArray, List.getElem?_cons_zero, List.getElem?_cons_succ] at cr0
  have mr1 := CellsAt.frozen (Fr_6) 1
  have cr1 := CellsAt.cell (Fr_6) 1
  simp only [List.getElem?_toArray, List.getElem?_cons_zero, List.getElem?_cons_succ] at cr1
  go_wp2_with fail
  clear cd0 cd1 cp0 cp1 mr0 cr0 mr1 cr1
  refine (HS.out _).mono ?_
  rintro e w7 ⟨rfl, g7⟩
  have Fr_7 := CellsAt.gr ((Fr_6).alloc _) g7
  have lr_7 := CellsAt.lt (Fr_7)
  have Fp_7 := CellsAt.gr ((Fp_6).alloc _) g7
  have lp_7 := CellsAt.lt (Fp_7)
  have Fd_7 := CellsAt.gr ((Fd_6).alloc _) g7
  have ld_7 := CellsAt.lt (Fd_7)
  have Fs_7 := CellsAt.gr (CellsAt.new w6 23 #[.int .i64 U.re, .int .i64 U.im]) g7
  have ls_7 := CellsAt.lt (Fs_7)
  have z7 := ((z6).alloc _ _).trans g7
  clear g7
  have mr0 := CellsAt.frozen (Fr_7) 0
  have cr0 := CellsAt.cell (Fr_7) 0
  simp only [List.getElem?_toArray, List.getElem?_cons_zero, List.getElem?_cons_succ] at cr0
  have mr1 := CellsAt.frozen (Fr_7) 1
  have cr1 := CellsAt.cell (Fr_7) 1
  simp only [List.getElem?_toArray, List.getElem?_cons_zero, List.getElem?_cons_succ] at cr1
  go_wp2_with fail
  clear mr0 cr0 mr1 cr1
  refine (HF.out _).mono ?_
  rintro e w8 ⟨rfl, g8⟩
  have Fr_8 := CellsAt.gr (Fr_7) g8
  have lr_8 := CellsAt.lt (Fr_8)
  have z8 := (z7).trans g8
  clear Fr_7 z7 g8
  have mr0 := CellsAt.frozen (Fr_8) 0
  have cr0 := CellsAt.cell (Fr_8) 0
  simp only [List.getElem?_toArray, List.getElem?_cons_zero, List.getElem?_cons_succ] at cr0
  have mr1 := CellsAt.frozen (Fr_8) 1
  have cr1 := CellsAt.cell (Fr_8) 1
  simp only [List.getElem?_toArray, List.getElem?_cons_zero, List.getElem?_cons_succ] at cr1
  go_wp2_with fail
  clear mr0 cr0 mr1 cr1
  obtain ⟨uf, hqp1⟩ : ∃ zz, zz = ((w8.setCell ⟨w.heap.size + 1, 0, none⟩ (.int .i64 o.re)).setCell ⟨w.heap.size + 1, 1, none⟩ (.int .i64 o.im)) := ⟨_, rfl⟩
  have Yr_p1 : CellsAt uf (w.heap.size + 1) 23 #[.int .i64 o.re, .int .i64 o.im] := by rw [hqp1]; first | exact CellsAt.set2 (Fr_8) _ _ | simpa using CellsAt.set2 (Fr_8) _ _
  have yp1 : Gr w uf := by rw [hqp1]; exact ((z8).setCell (by first | omega | (simp only; omega)) _).setCell (by first | omega | (simp only; omega)) _
  rw [← hqp1]
  clear hqp1
  have cr0 := CellsAt.cell (Yr_p1) 0
  have cr1 := CellsAt.cell (Yr_p1) 1
  simp only [List.getElem?_toArray, List.getElem?_cons_zero, List.getElem?_cons_succ] at cr0 cr1
  refine bodyPost_ret (v := .agg #[.int .i64 o.re, .int .i64 o.im]) ?_ rfl ⟨rfl, yp1⟩
  simp [results, Try.results26, go_sem, *]

set_option maxHeartbeats 4000000 in
theorem rJoin_true_1_of (bits mo b1 b2 : Int) (ju jv jy jz ja jc t t3 p d dd U V s o : Gi) (h1 : wrap64 (bits + 1) = b1) (h2 : wrap64 (bits + 2) = b2)
    (HT : Hid (∀ W, Calls Try.prog 33 #[.agg #[.int .i64 (jy).re, .int .i64 (jy).im], .agg #[.int .i64 (ja).re, .int .i64 (ja).im]] W fun e w' => e = .returned (.agg #[.int .i64 (t).re, .int .i64 (t).im]) ∧ Gr W w')) (HT3 : Hid (∀ W, Calls Try.prog 33 #[.agg #[.int .i64 (jz).re, .int .i64 (jz).im], .agg #[.int .i64 (jc).re, .int .i64 (jc).im]] W fun e w' => e = .returned (.agg #[.int .i64 (t3).re, .int .i64 (t3).im]) ∧ Gr W w')) (HP : Hid (∀ W, Calls Try.prog 34 #[.agg #[.int .i64 (t).re, .int .i64 (t).im], .agg #[.int .i64 (t3).re, .int .i64 (t3).im]] W fun e w' => e = .returned (.agg #[.int .i64 (p).re, .int .i64 (p).im]) ∧ Gr W w')) (HL : Hid (∀ W, Calls Try.prog 51 #[.agg #[.int .i64 (t).re, .int .i64 (t).im], .agg #[.int .i64 (t3).re, .int .i64 (t3).im]] W fun e w' => e = .returned (.agg #[.int .i64 (d).re, .int .i64 (d).im]) ∧ Gr W w'))
    (HN : Hid (∀ W, Calls Try.prog 35 #[.agg #[.int .i64 (d).re, .int .i64 (d).im], .int .i64 1] W fun e w' => e = .returned (.agg #[.int .i64 (dd).re, .int .i64 (dd).im]) ∧ Gr W w')) (HU : Hid (∀ W, Calls Try.prog 32 #[.agg #[.int .i64 (ju).re, .int .i64 (ju).im], .int .i64 b1] W fun e w' => e = .returned (.agg #[.int .i64 (U).re, .int .i64 (U).im]) ∧ Gr W w')) (HV : Hid (∀ W, Calls Try.prog 32 #[.agg #[.int .i64 (jv).re, .int .i64 (jv).im], .int .i64 b1] W fun e w' => e = .returned (.agg #[.int .i64 (V).re, .int .i64 (V).im]) ∧ Gr W w'))
    (HS : Hid (∀ W, Calls Try.prog 34 #[.agg #[.int .i64 (V).re, .int .i64 (V).im], .agg #[.int .i64 (dd).re, .int .i64 (dd).im]] W fun e w' => e = .returned (.agg #[.int .i64 (s).re, .int .i64 (s).im]) ∧ Gr W w')) (HF : Hid (∀ W, Calls Try.prog 36 #[.agg #[.int .i64 (s).re, .int .i64 (s).im], .int .i64 b2, .int .i64 mo] W fun e w' => e = .returned (.agg #[.int .i64 (o).re, .int .i64 (o).im]) ∧ Gr W w')) (w : World) :
    Calls Try.prog 26 #[.agg #[.int .i64 ju.re, .int .i64 ju.im, .int .i64 jv.re, .int .i64 jv.im, .int .i64 jy.re, .int .i64 jy.im, .int .i64 jz.re, .int .i64 jz.im, .int .i64 ja.re, .int .i64 ja.im, .int .i64 jc.re, .int .i64 jc.im], .int .i64 1, .int .i64 bits, .int .i64 mo, .bool true] w fun e w' => e = .returned (.agg #[.int .i64 (o).re, .int .i64 (o).im]) ∧ Gr w w' := by
  go_enter Try.func26, Try.ntmps26
  go_wp2_with fail
  obtain ⟨u0, hU⟩ : ∃ uu, uu = ((w.alloc (.cells #[.int .i64 ju.re, .int .i64 ju.im, .int .i64 jv.re, .int .i64 jv.im, .int .i64 jy.re, .int .i64 jy.im, .int .i64 jz.re, .int .i64 jz.im, .int .i64 ja.re, .int .i64 ja.im, .int .i64 jc.re, .int .i64 jc.im] 47)).alloc (.cells #[.int .i64 0, .int .i64 0] 23)) := ⟨_, rfl⟩
  have gu : Gr w u0 := by rw [hU]; exact ((Gr.refl w).alloc _ _).alloc _ _
  have R0 : CellsAt u0 (w.heap.size) 47 #[.int .i64 ju.re, .int .i64 ju.im, .int .i64 jv.re, .int .i64 jv.im, .int .i64 jy.re, .int .i64 jy.im, .int .i64 jz.re, .int .i64 jz.im, .int .i64 ja.re, .int .i64 ja.im, .int .i64 jc.re, .int .i64 jc.im] := by
    rw [hU]
    have := ((CellsAt.new w 47 #[.int .i64 ju.re, .int .i64 ju.im, .int .i64 jv.re, .int .i64 jv.im, .int .i64 jy.re, .int .i64 jy.im, .int .i64 jz.re, .int .i64 jz.im, .int .i64 ja.re, .int .i64 ja.im, .int .i64 jc.re, .int .i64 jc.im]).alloc (.cells #[.int .i64 0, .int .i64 0] 23))
    simpa only [World.size_alloc] using this
  have R1 : CellsAt u0 (w.heap.size + 1) 23 #[.int .i64 0, .int .i64 0] := by
    rw [hU]
    have := (CellsAt.new (w.alloc (.cells #[.int .i64 ju.re, .int .i64 ju.im, .int .i64 jv.re, .int .i64 jv.im, .int .i64 jy.re, .int .i64 jy.im, .int .i64 jz.re, .int .i64 jz.im, .int .i64 ja.re, .int .i64 ja.im, .int .i64 jc.re, .int .i64 jc.im] 47)) 23 #[.int .i64 0, .int .i64 0])
    simpa only [World.size_alloc] using this
  rw [← hU]
  clear hU
  have lj := R0.lt
  have lr := R1.lt
  refine (HT.out _).mono ?_
  rintro e w1 ⟨rfl, g1⟩
  have Fj_1 := CellsAt.gr (R0) g1
  have lj_1 := CellsAt.lt (Fj_1)
  have Fr_1 := CellsAt.gr (R1) g1
  have lr_1 := CellsAt.lt (Fr_1)
  have z1 := (gu).trans g1
  clear R0 R1 gu g1
  have cj0 := CellsAt.cell (Fj_1) 0
  have cj1 := CellsAt.cell (Fj_1) 1
  have cj2 := CellsAt.cell (Fj_1) 2
  have cj3 := CellsAt.cell (Fj_1) 3
  have cj4 := CellsAt.cell (Fj_1) 4
  have cj5 := CellsAt.cell (Fj_1) 5
  have cj6 := CellsAt.cell (Fj_1) 6
  have cj7 := CellsAt.cell (Fj_1) 7
  have cj8 := CellsAt.cell (Fj_1) 8
  have cj9 := CellsAt.cell (Fj_1) 9
  have cj10 := CellsAt.cell (Fj_1) 10
  have cj11 := CellsAt.cell (Fj_1) 11
  simp only [List.getElem?_toArray, List.getElem?_cons_zero, List.getElem?_cons_succ] at cj0 cj1 cj2 cj3 cj4 cj5 cj6 cj7 cj8 cj9 cj10 cj11
  go_wp2_with fail
  clear cj0 cj1 cj2 cj3 cj4 cj5 cj6 cj7 cj8 cj9 cj10 cj11
  refine (HT3.out _).mono ?_
  rintro e w2 ⟨rfl, g2⟩
  have Fj_2 := CellsAt.gr ((Fj_1).alloc _) g2
  have lj_2 := CellsAt.lt (Fj_2)
  have Fr_2 := CellsAt.gr ((Fr_1).alloc _) g2
  have lr_2 := CellsAt.lt (Fr_2)
  have Ft_2 := CellsAt.gr (CellsAt.new w1 23 #[.int .i64 t.re, .int .i64 t.im]) g2
  have lt_2 := CellsAt.lt (Ft_2)
  have z2 := ((z1).alloc _ _).trans g2
  clear g2
  have ct0 := CellsAt.cell (Ft_2) 0
  have ct1 := CellsAt.cell (Ft_2) 1
  simp only [List.getElem?_toArray, List.getElem?_cons_zero, List.getElem?_cons_succ] at ct0 ct1
  go_wp2_with fail
  clear ct0 ct1
  refine (HP.out _).mono ?_
  rintro e w3 ⟨rfl, g3⟩
  have Fj_3 := CellsAt.gr ((Fj_2).alloc _) g3
  have lj_3 := CellsAt.lt (Fj_3)
  have Fr_3 := CellsAt.gr ((Fr_2).alloc _) g3
  have lr_3 := CellsAt.lt (Fr_3)
  have Ft_3 := CellsAt.gr ((Ft_2).alloc _) g3
  have lt_3 := CellsAt.lt (Ft_3)
  have Ft3_3 := CellsAt.gr (CellsAt.new w2 23 #[.int .i64 t3.re, .int .i64 t3.im]) g3
  have lt3_3 := CellsAt.lt (Ft3_3)
  have z3 := ((z2).alloc _ _).trans g3
  clear g3
  have ct0 := CellsAt.cell (Ft_3) 0
  have ct1 := CellsAt.cell (Ft_3) 1
  have ct30 := CellsAt.cell (Ft3_3) 0
  have ct31 := CellsAt.cell (Ft3_3) 1
  simp only [List.getElem?_toArray, List.getElem?_cons_zero, List.getElem?_cons_succ] at ct0 ct1 ct30 ct31
  go_wp2_with fail
  clear ct0 ct1 ct30 ct31
  refine (HL.out _).mono ?_
  rintro e w4 ⟨rfl, g4⟩
  have Fj_4 := CellsAt.gr ((Fj_3).alloc _) g4
  have lj_4 := CellsAt.lt (Fj_4)
  have Fr_4 := CellsAt.gr ((Fr_3).alloc _) g4
  have lr_4 := CellsAt.lt (Fr_4)
  have Ft_4 := CellsAt.gr ((Ft_3).alloc _) g4
  have lt_4 := CellsAt.lt (Ft_4)
  have Ft3_4 := CellsAt.gr ((Ft3_3).alloc _) g4
  have lt3_4 := CellsAt.lt (Ft3_4)
  have Fp_4 := CellsAt.gr (CellsAt.new w3 23 #[.int .i64 p.re, .int .i64 p.im]) g4
  have lp_4 := CellsAt.lt (Fp_4)
  have z4 := ((z3).alloc _ _).trans g4
  clear g4
  go_wp2_with fail
  refine (HN.out _).mono ?_
  rintro e w5 ⟨rfl, g5⟩
  have Fj_5 := CellsAt.gr ((Fj_4).alloc _) g5
  have lj_5 := CellsAt.lt (Fj_5)
  have Fr_5 := CellsAt.gr ((Fr_4).alloc _) g5
  have lr_5 := CellsAt.lt (Fr_5)
  have Fp_5 := CellsAt.gr ((Fp_4).alloc _) g5
  have lp_5 := CellsAt.lt (Fp_5)
  have Fd_5 := CellsAt.gr (CellsAt.new w4 23 #[.int .i64 d.re, .int .i64 d.im]) g5
  have ld_5 := CellsAt.lt (Fd_5)
  have z5 := ((z4).alloc _ _).trans g5
  clear g5
  have cj0 := CellsAt.cell (Fj_5) 0
  have cj1 := CellsAt.cell (Fj_5) 1
  have cj2 := CellsAt.cell (Fj_5) 2
  have cj3 := CellsAt.cell (Fj_5) 3
  have cj4 := CellsAt.cell (Fj_5) 4
  have cj5 := CellsAt.cell (Fj_5) 5
  have cj6 := CellsAt.cell (Fj_5) 6
  have cj7 := CellsAt.cell (Fj_5) 7
  have cj8 := CellsAt.cell (Fj_5) 8
  have cj9 := CellsAt.cell (Fj_5) 9
  have cj10 := CellsAt.cell (Fj_5) 10
  have cj11 := CellsAt.cell (Fj_5) 11
  simp only [List.getElem?_toArray, List.getElem?_cons_zero, List.getElem?_cons_succ] at cj0 cj1 cj2 cj3 cj4 cj5 cj6 cj7 cj8 cj9 cj10 cj11
  have md0 := CellsAt.frozen (Fd_5) 0
  have cd0 := CellsAt.cell (Fd_5) 0
  simp only [List.getElem?_toArray, List.getElem?_cons_zero, List.getElem?_cons_succ] at cd0
  have md1 := CellsAt.frozen (Fd_5) 1
  have cd1 := CellsAt.cell (Fd_5) 1
  simp only [List.getElem?_toArray, List.getElem?_cons_zero, List.getElem?_cons_succ] at cd1
  go_wp2_with fail
  clear cj0 cj1 cj2 cj3 cj4 cj5 cj6 cj7 cj8 cj9 cj10 cj11 md0 cd0 md1 cd1
  refine (HU.out _).mono ?_
  rintro e w6 ⟨rfl, g6⟩
  have Fj_6 := CellsAt.gr (((Fj_5).other (by omega) _ _).other (by omega) _ _) g6
  have lj_6 := CellsAt.lt (Fj_6)
  have Fr_6 := CellsAt.gr (((Fr_5).other (by omega) _ _).other (by omega) _ _) g6
  have lr_6 := CellsAt.lt (Fr_6)
  have Fp_6 := CellsAt.gr (((Fp_5).other (by omega) _ _).other (by omega) _ _) g6
  have lp_6 := CellsAt.lt (Fp_6)
  have Fd_6 := CellsAt.gr (CellsAt.set2 (Fd_5) _ _) g6
  have ld_6 := CellsAt.lt (Fd_6)
  have z6 := (((z5).setCell (by first | omega | (simp only; omega)) _).setCell (by first | omega | (simp only; omega)) _).trans g6
  clear g6
  have cj0 := CellsAt.cell (Fj_6) 0
  have cj1 := CellsAt.cell (Fj_6) 1
  have cj2 := CellsAt.cell (Fj_6) 2
  have cj3 := CellsAt.cell (Fj_6) 3
  have cj4 := CellsAt.cell (Fj_6) 4
  have cj5 := CellsAt.cell (Fj_6) 5
  have cj6 := CellsAt.cell (Fj_6) 6
  have cj7 := CellsAt.cell (Fj_6) 7
  have cj8 := CellsAt.cell (Fj_6) 8
  have cj9 := CellsAt.cell (Fj_6) 9
  have cj10 := CellsAt.cell (Fj_6) 10
  have cj11 := CellsAt.cell (Fj_6) 11
  simp only [List.getElem?_toArray, List.getElem?_cons_zero, List.getElem?_cons_succ] at cj0 cj1 cj2 cj3 cj4 cj5 cj6 cj7 cj8 cj9 cj10 cj11
  go_wp2_with fail
  clear cj0 cj1 cj2 cj3 cj4 cj5 cj6 cj7 cj8 cj9 cj10 cj11
  refine (HV.out _).mono ?_
  rintro e w7 ⟨rfl, g7⟩
  have Fj_7 := CellsAt.gr ((Fj_6).alloc _) g7
  have lj_7 := CellsAt.lt (Fj_7)
  have Fr_7 := CellsAt.gr ((Fr_6).alloc _) g7
  have lr_7 := CellsAt.lt (Fr_7)
  have Fp_7 := CellsAt.gr ((Fp_6).alloc _) g7
  have lp_7 := CellsAt.lt (Fp_7)
  have Fd_7 := CellsAt.gr ((Fd_6).alloc _) g7
  have ld_7 := CellsAt.lt (Fd_7)
  have Fs_7 := CellsAt.gr (CellsAt.new w6 23 #[.int .i64 U.re, .int .i64 U.im]) g7
  have ls_7 := CellsAt.lt (Fs_7)
  have z7 := ((z6).alloc _ _).trans g7
  clear g7
  have cd0 := CellsAt.cell (Fd_7) 0
  have cd1 := CellsAt.cell (Fd_7) 1
  have cp0 := CellsAt.cell (Fp_7) 0
  have cp1 := CellsAt.cell (Fp_7) 1
  have cs0 := CellsAt.cell (Fs_7) 0
  have cs1 := CellsAt.cell (Fs_7) 1
  simp only [List.getElem?_toArray, List.getElem?_cons_zero, List.getElem?_cons_succ] at cd0 cd1 cp0 cp1 cs0 cs1
  have ms0 := CellsAt.frozen (Fs_7) 0
  have ms1 := CellsAt.frozen (Fs_7) 1
  have mp0 := CellsAt.frozen (Fp_7) 0
  have mp1 := CellsAt.frozen (Fp_7) 1
  go_wp2_with fail
  clear cd0 cd1 cp0 cp1 cs0 cs1 ms0 ms1 mp0 mp1
  refine (HS.out _).mono ?_
  rintro e w8 ⟨rfl, g8⟩
  have Fr_8 := CellsAt.gr (((((Fr_7).other (by omega) _ _).other (by omega) _ _).other (by omega) _ _).other (by omega) _ _) g8
  have lr_8 := CellsAt.lt (Fr_8)
  have Fp_8 := CellsAt.gr (CellsAt.set2 (((Fp_7).other (by omega) _ _).other (by omega) _ _) _ _) g8
  have lp_8 := CellsAt.lt (Fp_8)
  have Fd_8 := CellsAt.gr (((((Fd_7).other (by omega) _ _).other (by omega) _ _).other (by omega) _ _).other (by omega) _ _) g8
  have ld_8 := CellsAt.lt (Fd_8)
  have Fs_8 := CellsAt.gr (((CellsAt.set2 (Fs_7) _ _).other (by omega) _ _).other (by omega) _ _) g8
  have ls_8 := CellsAt.lt (Fs_8)
  have z8 := (((((z7).setCell (by first | omega | (simp only; omega)) _).setCell (by first | omega | (simp only; omega)) _).setCell (by first | omega | (simp only; omega)) _).setCell (by first | omega | (simp only; omega)) _).trans g8
  clear g8
  have mr0 := CellsAt.frozen (Fr_8) 0
  have cr0 := CellsAt.cell (Fr_8) 0
  simp only [List.getElem?_toArray, List.getElem?_cons_zero, List.getElem?_cons_succ] at cr0
  have mr1 := CellsAt.frozen (Fr_8) 1
  have cr1 := CellsAt.cell (Fr_8) 1
  simp only [List.getElem?_toArray, List.getElem?_cons_zero, List.getElem?_cons_succ] at cr1
  go_wp2_with fail
  clear mr0 cr0 mr1 cr1
  refine (HF.out _).mono ?_
  rintro e w9 ⟨rfl, g9⟩
  have Fr_9 := CellsAt.gr (Fr_8) g9
  have lr_9 := CellsAt.lt (Fr_9)
  have z9 := (z8).trans g9
  clear Fr_8 z8 g9
  have mr0 := CellsAt.frozen (Fr_9) 0
  have cr0 := CellsAt.cell (Fr_9) 0
  simp only [List.getElem?_toArray, List.getElem?_cons_zero, List.getElem?_cons_succ] at cr0
  have mr1 := CellsAt.frozen (Fr_9) 1
  have cr1 := CellsAt.cell (Fr_9) 1
  simp only [List.getElem?_toArray, List.getElem?_cons_zero, List.getElem?_cons_succ] at cr1
  go_wp2_with fail
  clear mr0 cr0 mr1 cr1
  obtain ⟨uf, hqp1⟩ : ∃ zz, zz = ((w9.setCell ⟨w.heap.size + 1, 0, none⟩ (.int .i64 o.re)).setCell ⟨w.heap.size + 1, 1, none⟩ (.int .i64 o.im)) := ⟨_, rfl⟩
  have Yr_p1 : CellsAt uf (w.heap.size + 1) 23 #[.int .i64 o.re, .int .i64 o.im] := by rw [hqp1]; first | exact CellsAt.set2 (Fr_9) _ _ | simpa using CellsAt.set2 (Fr_9) _ _
  have yp1 : Gr w uf := by rw [hqp1]; exact ((z9).setCell (by first | omega | (simp only; omega)) _).setCell (by first | omega | (simp only; omega)) _
  rw [← hqp1]
  clear hqp1
  have cr0 := CellsAt.cell (Yr_p1) 0
  have cr1 := CellsAt.cell (Yr_p1) 1
  simp only [List.getElem?_toArray, List.getElem?_cons_zero, List.getElem?_cons_succ] at cr0 cr1
  refine bodyPost_ret (v := .agg #[.int .i64 o.re, .int .i64 o.im]) ?_ rfl ⟨rfl, yp1⟩
  simp [results, Try.results26, go_sem, *]

set_option maxHeartbeats 4000000 in
theorem rJoin_true_2_of (bits mo b1 b2 : Int) (ju jv jy jz ja jc t t3 p d dd U V s o : Gi) (h1 : wrap64 (bits + 1) = b1) (h2 : wrap64 (bits + 2) = b2)
    (HT : Hid (∀ W, Calls Try.prog 33 #[.agg #[.int .i64 (jy).re, .int .i64 (jy).im], .agg #[.int .i64 (ja).re, .int .i64 (ja).im]] W fun e w' => e = .returned (.agg #[.int .i64 (t).re, .int .i64 (t).im]) ∧ Gr W w')) (HT3 : Hid (∀ W, Calls Try.prog 33 #[.agg #[.int .i64 (jz).re, .int .i64 (jz).im], .agg #[.int .i64 (jc).re, .int .i64 (jc).im]] W fun e w' => e = .returned (.agg #[.int .i64 (t3).re, .int .i64 (t3).im]) ∧ Gr W w')) (HP : Hid (∀ W, Calls Try.prog 34 #[.agg #[.int .i64 (t).re, .int .i64 (t).im], .agg #[.int .i64 (t3).re, .int .i64 (t3).im]] W fun e w' => e = .returned (.agg #[.int .i64 (p).re, .int .i64 (p).im]) ∧ Gr W w')) (HL : Hid (∀ W, Calls Try.prog 51 #[.agg #[.int .i64 (t).re, .int .i64 (t).im], .agg #[.int .i64 (t3).re, .int .i64 (t3).im]] W fun e w' => e = .returned (.agg #[.int .i64 (d).re, .int .i64 (d).im]) ∧ Gr W w'))
    (HN : Hid (∀ W, Calls Try.prog 35 #[.agg #[.int .i64 (d).re, .int .i64 (d).im], .int .i64 1] W fun e w' => e = .returned (.agg #[.int .i64 (dd).re, .int .i64 (dd).im]) ∧ Gr W w')) (HU : Hid (∀ W, Calls Try.prog 32 #[.agg #[.int .i64 (ju).re, .int .i64 (ju).im], .int .i64 b1] W fun e w' => e = .returned (.agg #[.int .i64 (U).re, .int .i64 (U).im]) ∧ Gr W w')) (HV : Hid (∀ W, Calls Try.prog 32 #[.agg #[.int .i64 (jv).re, .int .i64 (jv).im], .int .i64 b1] W fun e w' => e = .returned (.agg #[.int .i64 (V).re, .int .i64 (V).im]) ∧ Gr W w'))
    (HS : Hid (∀ W, Calls Try.prog 51 #[.agg #[.int .i64 (U).re, .int .i64 (U).im], .agg #[.int .i64 (p).re, .int .i64 (p).im]] W fun e w' => e = .returned (.agg #[.int .i64 (s).re, .int .i64 (s).im]) ∧ Gr W w')) (HF : Hid (∀ W, Calls Try.prog 36 #[.agg #[.int .i64 (s).re, .int .i64 (s).im], .int .i64 b2, .int .i64 mo] W fun e w' => e = .returned (.agg #[.int .i64 (o).re, .int .i64 (o).im]) ∧ Gr W w')) (w : World) :
    Calls Try.prog 26 #[.agg #[.int .i64 ju.re, .int .i64 ju.im, .int .i64 jv.re, .int .i64 jv.im, .int .i64 jy.re, .int .i64 jy.im, .int .i64 jz.re, .int .i64 jz.im, .int .i64 ja.re, .int .i64 ja.im, .int .i64 jc.re, .int .i64 jc.im], .int .i64 2, .int .i64 bits, .int .i64 mo, .bool true] w fun e w' => e = .returned (.agg #[.int .i64 (o).re, .int .i64 (o).im]) ∧ Gr w w' := by
  go_enter Try.func26, Try.ntmps26
  go_wp2_with fail
  obtain ⟨u0, hU⟩ : ∃ uu, uu = ((w.alloc (.cells #[.int .i64 ju.re, .int .i64 ju.im, .int .i64 jv.re, .int .i64 jv.im, .int .i64 jy.re, .int .i64 jy.im, .int .i64 jz.re, .int .i64 jz.im, .int .i64 ja.re, .int .i64 ja.im, .int .i64 jc.re, .int .i64 jc.im] 47)).alloc (.cells #[.int .i64 0, .int .i64 0] 23)) := ⟨_, rfl⟩
  have gu : Gr w u0 := by rw [hU]; exact ((Gr.refl w).alloc _ _).alloc _ _
  have R0 : CellsAt u0 (w.heap.size) 47 #[.int .i64 ju.re, .int .i64 ju.im, .int .i64 jv.re, .int .i64 jv.im, .int .i64 jy.re, .int .i64 jy.im, .int .i64 jz.re, .int .i64 jz.im, .int .i64 ja.re, .int .i64 ja.im, .int .i64 jc.re, .int .i64 jc.im] := by
    rw [hU]
    have := ((CellsAt.new w 47 #[.int .i64 ju.re, .int .i64 ju.im, .int .i64 jv.re, .int .i64 jv.im, .int .i64 jy.re, .int .i64 jy.im, .int .i64 jz.re, .int .i64 jz.im, .int .i64 ja.re, .int .i64 ja.im, .int .i64 jc.re, .int .i64 jc.im]).alloc (.cells #[.int .i64 0, .int .i64 0] 23))
    simpa only [World.size_alloc] using this
  have R1 : CellsAt u0 (w.heap.size + 1) 23 #[.int .i64 0, .int .i64 0] := by
    rw [hU]
    have := (CellsAt.new (w.alloc (.cells #[.int .i64 ju.re, .int .i64 ju.im, .int .i64 jv.re, .int .i64 jv.im, .int .i64 jy.re, .int .i64 jy.im, .int .i64 jz.re, .int .i64 jz.im, .int .i64 ja.re, .int .i64 ja.im, .int .i64 jc.re, .int .i64 jc.im] 47)) 23 #[.int .i64 0, .int .i64 0])
    simpa only [World.size_alloc] using this
  rw [← hU]
  clear hU
  have lj := R0.lt
  have lr := R1.lt
  refine (HT.out _).mono ?_
  rintro e w1 ⟨rfl, g1⟩
  have Fj_1 := CellsAt.gr (R0) g1
  have lj_1 := CellsAt.lt (Fj_1)
  have Fr_1 := CellsAt.gr (R1) g1
  have lr_1 := CellsAt.lt (Fr_1)
  have z1 := (gu).trans g1
  clear R0 R1 gu g1
  have cj0 := CellsAt.cell (Fj_1) 0
  have cj1 := CellsAt.cell (Fj_1) 1
  have cj2 := CellsAt.cell (Fj_1) 2
  have cj3 := CellsAt.cell (Fj_1) 3
  have cj4 := CellsAt.cell (Fj_1) 4
  have cj5 := CellsAt.cell (Fj_1) 5
  have cj6 := CellsAt.cell (Fj_1) 6
  have cj7 := CellsAt.cell (Fj_1) 7
  have cj8 := CellsAt.cell (Fj_1) 8
  have cj9 := CellsAt.cell (Fj_1) 9
  have cj10 := CellsAt.cell (Fj_1) 10
  have cj11 := CellsAt.cell (Fj_1) 11
  simp only [List.getElem?_toArray, List.getElem?_cons_zero, List.getElem?_cons_succ] at cj0 cj1 cj2 cj3 cj4 cj5 cj6 cj7 cj8 cj9 cj10 cj11
  go_wp2_with fail
  clear cj0 cj1 cj2 cj3 cj4 cj5 cj6 cj7 cj8 cj9 cj10 cj11
  refine (HT3.out _).mono ?_
  rintro e w2 ⟨rfl, g2⟩
  have Fj_2 := CellsAt.gr ((Fj_1).alloc _) g2
  have lj_2 := CellsAt.lt (Fj_2)
  have Fr_2 := CellsAt.gr ((Fr_1).alloc _) g2
  have lr_2 := CellsAt.lt (Fr_2)
  have Ft_2 := CellsAt.gr (CellsAt.new w1 23 #[.int .i64 t.re, .int .i64 t.im]) g2
  have lt_2 := CellsAt.lt (Ft_2)
  have z2 := ((z1).alloc _ _).trans g2
  clear g2
  have ct0 := CellsAt.cell (Ft_2) 0
  have ct1 := CellsAt.cell (Ft_2) 1
  simp only [List.getElem?_toArray, List.getElem?_cons_zero, List.getElem?_cons_succ] at ct0 ct1
  go_wp2_with fail
  clear ct0 ct1
  refine (HP.out _).mono ?_
  rintro e w3 ⟨rfl, g3⟩
  have Fj_3 := CellsAt.gr ((Fj_2).alloc _) g3
  have lj_3 := CellsAt.lt (Fj_3)
  have Fr_3 := CellsAt.gr ((Fr_2).alloc _) g3
  have lr_3 := CellsAt.lt (Fr_3)
  have Ft_3 := CellsAt.gr ((Ft_2).alloc _) g3
  have lt_3 := CellsAt.lt (Ft_3)
  have Ft3_3 := CellsAt.gr (CellsAt.new w2 23 #[.int .i64 t3.re, .int .i64 t3.im]) g3
  have lt3_3 := CellsAt.lt (Ft3_3)
  have z3 := ((z2).alloc _ _).trans g3
  clear g3
  have ct0 := CellsAt.cell (Ft_3) 0
  have ct1 := CellsAt.cell (Ft_3) 1
  have ct30 := CellsAt.cell (Ft3_3) 0
  have ct31 := CellsAt.cell (Ft3_3) 1
  simp only [List.getElem?_toArray, List.getElem?_cons_zero, List.getElem?_cons_succ] at ct0 ct1 ct30 ct31
  go_wp2_with fail
  clear ct0 ct1 ct30 ct31
  refine (HL.out _).mono ?_
  rintro e w4 ⟨rfl, g4⟩
  have Fj_4 := CellsAt.gr ((Fj_3).alloc _) g4
  have lj_4 := CellsAt.lt (Fj_4)
  have Fr_4 := CellsAt.gr ((Fr_3).alloc _) g4
  have lr_4 := CellsAt.lt (Fr_4)
  have Ft_4 := CellsAt.gr ((Ft_3).alloc _) g4
  have lt_4 := CellsAt.lt (Ft_4)
  have Ft3_4 := CellsAt.gr ((Ft3_3).alloc _) g4
  have lt3_4 := CellsAt.lt (Ft3_4)
  have Fp_4 := CellsAt.gr (CellsAt.new w3 23 #[.int .i64 p.re, .int .i64 p.im]) g4
  have lp_4 := CellsAt.lt (Fp_4)
  have z4 := ((z3).alloc _ _).trans g4
  clear g4
  go_wp2_with fail
  refine (HN.out _).mono ?_
  rintro e w5 ⟨rfl, g5⟩
  have Fj_5 := CellsAt.gr ((Fj_4).alloc _) g5
  have lj_5 := CellsAt.lt (Fj_5)
  have Fr_5 := CellsAt.gr ((Fr_4).alloc _) g5
  have lr_5 := CellsAt.lt (Fr_5)
  have Fp_5 := CellsAt.gr ((Fp_4).alloc _) g5
  have lp_5 := CellsAt.lt (Fp_5)
  have Fd_5 := CellsAt.gr (CellsAt.new w4 23 #[.int .i64 d.re, .int .i64 d.im]) g5
  have ld_5 := CellsAt.lt (Fd_5)
  have z5 := ((z4).alloc _ _).trans g5
  clear g5
  have cj0 := CellsAt.cell (Fj_5) 0
  have cj1 := CellsAt.cell (Fj_5) 1
  have cj2 := CellsAt.cell (Fj_5) 2
  have cj3 := CellsAt.cell (Fj_5) 3
  have cj4 := CellsAt.cell (Fj_5) 4
  have cj5 := CellsAt.cell (Fj_5) 5
  have cj6 := CellsAt.cell (Fj_5) 6
  have cj7 := CellsAt.cell (Fj_5) 7
  have cj8 := CellsAt.cell (Fj_5) 8
  have cj9 := CellsAt.cell (Fj_5) 9
  have cj10 := CellsAt.cell (Fj_5) 10
  have cj11 := CellsAt.cell (Fj_5) 11
  simp only [List.getElem?_toArray, List.getElem?_cons_zero, List.getElem?_cons_succ] at cj0 cj1 cj2 cj3 cj4 cj5 cj6 cj7 cj8 cj9 cj10 cj11
  have md0 := CellsAt.frozen (Fd_5) 0
  have cd0 := CellsAt.cell (Fd_5) 0
  simp only [List.getElem?_toArray, List.getElem?_cons_zero, List.getElem?_cons_succ] at cd0
  have md1 := CellsAt.frozen (Fd_5) 1
  have cd1 := CellsAt.cell (Fd_5) 1
  simp only [List.getElem?_toArray, List.getElem?_cons_zero, List.getElem?_cons_succ] at cd1
  go_wp2_with fail
  clear cj0 cj1 cj2 cj3 cj4 cj5 cj6 cj7 cj8 cj9 cj10 cj11 md0 cd0 md1 cd1
  refine (HU.out _).mono ?_
  rintro e w6 ⟨rfl, g6⟩
  have Fj_6 := CellsAt.gr (((Fj_5).other (by omega) _ _).other (by omega) _ _) g6
  have lj_6 := CellsAt.lt (Fj_6)
  have Fr_6 := CellsAt.gr (((Fr_5).other (by omega) _ _).other (by omega) _ _) g6
  have lr_6 := CellsAt.lt (Fr_6)
  have Fp_6 := CellsAt.gr (((Fp_5).other (by omega) _ _).other (by omega) _ _) g6
  have lp_6 := CellsAt.lt (Fp_6)
  have Fd_6 := CellsAt.gr (CellsAt.set2 (Fd_5) _ _) g6
  have ld_6 := CellsAt.lt (Fd_6)
  have z6 := (((z5).setCell (by first | omega | (simp only; omega)) _).setCell (by first | omega | (simp only; omega)) _).trans g6
  clear g6
  have cd0 := CellsAt.cell (Fd_6) 0
  have cd1 := CellsAt.cell (Fd_6) 1
  have cp0 := CellsAt.cell (Fp_6) 0
  have cp1 := CellsAt.cell (Fp_6) 1
  simp only [List.getElem?_toArray, List.getElem?_cons_zero, List.getElem?_cons_succ] at cd0 cd1 cp0 cp1
  have mr0 := CellsAt.frozen (Fr_6) 0
  have cr0 := CellsAt.cell (Fr_6) 0
  simp only [List.getElem?_toArray, List.getElem?_cons_zero, List.getElem?_cons_succ] at cr0
  have mr1 := CellsAt.frozen (Fr_6) 1
  have cr1 := CellsAt.cell (Fr_6) 1
  simp only [List.getElem?_toArray, List.getElem?_cons_zero, List.getElem?_cons_succ] at cr1
  go_wp2_with fail
  clear cd0 cd1 cp0 cp1 mr0 cr0 mr1 cr1
  refine (HS.out _).mono ?_
  rintro e w7 ⟨rfl, g7⟩
  have Fr_7 := CellsAt.gr ((Fr_6).alloc _) g7
  have lr_7 := CellsAt.lt (Fr_7)
  have Fp_7 := CellsAt.gr ((Fp_6).alloc _) g7
  have lp_7 := CellsAt.lt (Fp_7)
  have Fd_7 := CellsAt.gr ((Fd_6).alloc _) g7
  have ld_7 := CellsAt.lt (Fd_7)
  have Fs_7 := CellsAt.gr (CellsAt.new w6 23 #[.int .i64 U.re, .int .i64 U.im]) g7
  have ls_7 := CellsAt.lt (Fs_7)
  have z7 := ((z6).alloc _ _).trans g7
  clear g7
  have mr0 := CellsAt.frozen (Fr_7) 0
  have cr0 := CellsAt.cell (Fr_7) 0
  simp only [List.getElem?_toArray, List.getElem?_cons_zero, List.getElem?_cons_succ] at cr0
  have mr1 := CellsAt.frozen (Fr_7) 1
  have cr1 := CellsAt.cell (Fr_7) 1
  simp only [List.getElem?_toArray, List.getElem?_cons_zero, List.getElem?_cons_succ] at cr1
  go_wp2_with fail
  clear mr0 cr0 mr1 cr1
  refine (HF.out _).mono ?_
  rintro e w8 ⟨rfl, g8⟩
  have Fr_8 := CellsAt.gr (Fr_7) g8
  have lr_8 := CellsAt.lt (Fr_8)
  have z8 := (z7).trans g8
  clear Fr_7 z7 g8
  have mr0 := CellsAt.frozen (Fr_8) 0
  have cr0 := CellsAt.cell (Fr_8) 0
  simp only [List.getElem?_toArray, List.getElem?_cons_zero, List.getElem?_cons_succ] at cr0
  have mr1 := CellsAt.frozen (Fr_8) 1
  have cr1 := CellsAt.cell (Fr_8) 1
  simp only [List.getElem?_toArray, List.getElem?_cons_zero, List.getElem?_cons_succ] at cr1
  go_wp2_with fail
  clear mr0 cr0 mr1 cr1
  obtain ⟨uf, hqp1⟩ : ∃ zz, zz = ((w8.setCell ⟨w.heap.size + 1, 0, none⟩ (.int .i64 o.re)).setCell ⟨w.heap.size + 1, 1, none⟩ (.int .i64 o.im)) := ⟨_, rfl⟩
  have Yr_p1 : CellsAt uf (w.heap.size + 1) 23 #[.int .i64 o.re, .int .i64 o.im] := by rw [hqp1]; first | exact CellsAt.set2 (Fr_8) _ _ | simpa using CellsAt.set2 (Fr_8) _ _
  have yp1 : Gr w uf := by rw [hqp1]; exact ((z8).setCell (by first | omega | (simp only; omega)) _).setCell (by first | omega | (simp only; omega)) _
  rw [← hqp1]
  clear hqp1
  have cr0 := CellsAt.cell (Yr_p1) 0
  have cr1 := CellsAt.cell (Yr_p1) 1
  simp only [List.getElem?_toArray, List.getElem?_cons_zero, List.getElem?_cons_succ] at cr0 cr1
  refine bodyPost_ret (v := .agg #[.int .i64 o.re, .int .i64 o.im]) ?_ rfl ⟨rfl, yp1⟩
  simp [results, Try.results26, go_sem, *]

set_option maxHeartbeats 4000000 in
theorem rJoin_true_3_of (bits mo b1 b2 : Int) (ju jv jy jz ja jc t t3 p d dd U V s o : Gi) (h1 : wrap64 (bits + 1) = b1) (h2 : wrap64 (bits + 2) = b2)
    (HT : Hid (∀ W, Calls Try.prog 33 #[.agg #[.int .i64 (jy).re, .int .i64 (jy).im], .agg #[.int .i64 (ja).re, .int .i64 (ja).im]] W fun e w' => e = .returned (.agg #[.int .i64 (t).re, .int .i64 (t).im]) ∧ Gr W w')) (HT3 : Hid (∀ W, Calls Try.prog 33 #[.agg #[.int .i64 (jz).re, .int .i64 (jz).im], .agg #[.int .i64 (jc).re, .int .i64 (jc).im]] W fun e w' => e = .returned (.agg #[.int .i64 (t3).re, .int .i64 (t3).im]) ∧ Gr W w')) (HP : Hid (∀ W, Calls Try.prog 34 #[.agg #[.int .i64 (t).re, .int .i64 (t).im], .agg #[.int .i64 (t3).re, .int .i64 (t3).im]] W fun e w' => e = .returned (.agg #[.int .i64 (p).re, .int .i64 (p).im]) ∧ Gr W w')) (HL : Hid (∀ W, Calls Try.prog 51 #[.agg #[.int .i64 (t).re, .int .i64 (t).im], .agg #[.int .i64 (t3).re, .int .i64 (t3).im]] W fun e w' => e = .returned (.agg #[.int .i64 (d).re, .int .i64 (d).im]) ∧ Gr W w'))
    (HN : Hid (∀ W, Calls Try.prog 35 #[.agg #[.int .i64 (d).re, .int .i64 (d).im], .int .i64 1] W fun e w' => e = .returned (.agg #[.int .i64 (dd).re, .int .i64 (dd).im]) ∧ Gr W w')) (HU : Hid (∀ W, Calls Try.prog 32 #[.agg #[.int .i64 (ju).re, .int .i64 (ju).im], .int .i64 b1] W fun e w' => e = .returned (.agg #[.int .i64 (U).re, .int .i64 (U).im]) ∧ Gr W w')) (HV : Hid (∀ W, Calls Try.prog 32 #[.agg #[.int .i64 (jv).re, .int .i64 (jv).im], .int .i64 b1] W fun e w' => e = .returned (.agg #[.int .i64 (V).re, .int .i64 (V).im]) ∧ Gr W w'))
    (HS : Hid (∀ W, Calls Try.prog 51 #[.agg #[.int .i64 (V).re, .int .i64 (V).im], .agg #[.int .i64 (dd).re, .int .i64 (dd).im]] W fun e w' => e = .returned (.agg #[.int .i64 (s).re, .int .i64 (s).im]) ∧ Gr W w')) (HF : Hid (∀ W, Calls Try.prog 36 #[.agg #[.int .i64 (s).re, .int .i64 (s).im], .int .i64 b2, .int .i64 mo] W fun e w' => e = .returned (.agg #[.int .i64 (o).re, .int .i64 (o).im]) ∧ Gr W w')) (w : World) :
    Calls Try.prog 26 #[.agg #[.int .i64 ju.re, .int .i64 ju.im, .int .i64 jv.re, .int .i64 jv.im, .int .i64 jy.re, .int .i64 jy.im, .int .i64 jz.re, .int .i64 jz.im, .int .i64 ja.re, .int .i64 ja.im, .int .i64 jc.re, .int .i64 jc.im], .int .i64 3, .int .i64 bits, .int .i64 mo, .bool true] w fun e w' => e = .returned (.agg #[.int .i64 (o).re, .int .i64 (o).im]) ∧ Gr w w' := by
  go_enter Try.func26, Try.ntmps26
  go_wp2_with fail
  obtain ⟨u0, hU⟩ : ∃ uu, uu = ((w.alloc (.cells #[.int .i64 ju.re, .int .i64 ju.im, .int .i64 jv.re, .int .i64 jv.im, .int .i64 jy.re, .int .i64 jy.im, .int .i64 jz.re, .int .i64 jz.im, .int .i64 ja.re, .int .i64 ja.im, .int .i64 jc.re, .int .i64 jc.im] 47)).alloc (.cells #[.int .i64 0, .int .i64 0] 23)) := ⟨_, rfl⟩
  have gu : Gr w u0 := by rw [hU]; exact ((Gr.refl w).alloc _ _).alloc _ _
  have R0 : CellsAt u0 (w.heap.size) 47 #[.int .i64 ju.re, .int .i64 ju.im, .int .i64 jv.re, .int .i64 jv.im, .int .i64 jy.re, .int .i64 jy.im, .int .i64 jz.re, .int .i64 jz.im, .int .i64 ja.re, .int .i64 ja.im, .int .i64 jc.re, .int .i64 jc.im] := by
    rw [hU]
    have := ((CellsAt.new w 47 #[.int .i64 ju.re, .int .i64 ju.im, .int .i64 jv.re, .int .i64 jv.im, .int .i64 jy.re, .int .i64 jy.im, .int .i64 jz.re, .int .i64 jz.im, .int .i64 ja.re, .int .i64 ja.im, .int .i64 jc.re, .int .i64 jc.im]).alloc (.cells #[.int .i64 0, .int .i64 0] 23))
    simpa only [World.size_alloc] using this
  have R1 : CellsAt u0 (w.heap.size + 1) 23 #[.int .i64 0, .int .i64 0] := by
    rw [hU]
    have := (CellsAt.new (w.alloc (.cells #[.int .i64 ju.re, .int .i64 ju.im, .int .i64 jv.re, .int .i64 jv.im, .int .i64 jy.re, .int .i64 jy.im, .int .i64 jz.re, .int .i64 jz.im, .int .i64 ja.re, .int .i64 ja.im, .int .i64 jc.re, .int .i64 jc.im] 47)) 23 #[.int .i64 0, .int .i64 0])
    simpa only [World.size_alloc] using this
  rw [← hU]
  clear hU
  have lj := R0.lt
  have lr := R1.lt
  refine (HT.out _).mono ?_
  rintro e w1 ⟨rfl, g1⟩
  have Fj_1 := CellsAt.gr (R0) g1
  have lj_1 := CellsAt.lt (Fj_1)
  have Fr_1 := CellsAt.gr (R1) g1
  have lr_1 := CellsAt.lt (Fr_1)
  have z1 := (gu).trans g1
  clear R0 R1 gu g1
  have cj0 := CellsAt.cell (Fj_1) 0
  have cj1 := CellsAt.cell (Fj_1) 1
  have cj2 := CellsAt.cell (Fj_1) 2
  have cj3 := CellsAt.cell (Fj_1) 3
  have cj4 := CellsAt.cell (Fj_1) 4
  have cj5 := CellsAt.cell (Fj_1) 5
  have cj6 := CellsAt.cell (Fj_1) 6
  have cj7 := CellsAt.cell (Fj_1) 7
  have cj8 := CellsAt.cell (Fj_1) 8
  have cj9 := CellsAt.cell (Fj_1) 9
  have cj10 := CellsAt.cell (Fj_1) 10
  have cj11 := CellsAt.cell (Fj_1) 11
  simp only [List.getElem?_toArray, List.getElem?_cons_zero, List.getElem?_cons_succ] at cj0 cj1 cj2 cj3 cj4 cj5 cj6 cj7 cj8 cj9 cj10 cj11
  go_wp2_with fail
  clear cj0 cj1 cj2 cj3 cj4 cj5 cj6 cj7 cj8 cj9 cj10 cj11
  refine (HT3.out _).mono ?_
  rintro e w2 ⟨rfl, g2⟩
  have Fj_2 := CellsAt.gr ((Fj_1).alloc _) g2
  have lj_2 := CellsAt.lt (Fj_2)
  have Fr_2 := CellsAt.gr ((Fr_1).alloc _) g2
  have lr_2 := CellsAt.lt (Fr_2)
  have Ft_2 := CellsAt.gr (CellsAt.new w1 23 #[.int .i64 t.re, .int .i64 t.im]) g2
  have lt_2 := CellsAt.lt (Ft_2)
  have z2 := ((z1).alloc _ _).trans g2
  clear g2
  have ct0 := CellsAt.cell (Ft_2) 0
  have ct1 := CellsAt.cell (Ft_2) 1
  simp only [List.getElem?_toArray, List.getElem?_cons_zero, List.getElem?_cons_succ] at ct0 ct1
  go_wp2_with fail
  clear ct0 ct1
  refine (HP.out _).mono ?_
  rintro e w3 ⟨rfl, g3⟩
  have Fj_3 := CellsAt.gr ((Fj_2).alloc _) g3
  have lj_3 := CellsAt.lt (Fj_3)
  have Fr_3 := CellsAt.gr ((Fr_2).alloc _) g3
  have lr_3 := CellsAt.lt (Fr_3)
  have Ft_3 := CellsAt.gr ((Ft_2).alloc _) g3
  have lt_3 := CellsAt.lt (Ft_3)
  have Ft3_3 := CellsAt.gr (CellsAt.new w2 23 #[.int .i64 t3.re, .int .i64 t3.im]) g3
  have lt3_3 := CellsAt.lt (Ft3_3)
  have z3 := ((z2).alloc _ _).trans g3
  clear g3
  have ct0 := CellsAt.cell (Ft_3) 0
  have ct1 := CellsAt.cell (Ft_3) 1
  have ct30 := CellsAt.cell (Ft3_3) 0
  have ct31 := CellsAt.cell (Ft3_3) 1
  simp only [List.getElem?_toArray, List.getElem?_cons_zero, List.getElem?_cons_succ] at ct0 ct1 ct30 ct31
  go_wp2_with fail
  clear ct0 ct1 ct30 ct31
  refine (HL.out _).mono ?_
  rintro e w4 ⟨rfl, g4⟩
  have Fj_4 := CellsAt.gr ((Fj_3).alloc _) g4
  have lj_4 := CellsAt.lt (Fj_4)
  have Fr_4 := CellsAt.gr ((Fr_3).alloc _) g4
  have lr_4 := CellsAt.lt (Fr_4)
  have Ft_4 := CellsAt.gr ((Ft_3).alloc _) g4
  have lt_4 := CellsAt.lt (Ft_4)
  have Ft3_4 := CellsAt.gr ((Ft3_3).alloc _) g4
  have lt3_4 := CellsAt.lt (Ft3_4)
  have Fp_4 := CellsAt.gr (CellsAt.new w3 23 #[.int .i64 p.re, .int .i64 p.im]) g4
  have lp_4 := CellsAt.lt (Fp_4)
  have z4 := ((z3).alloc _ _).trans g4
  clear g4
  go_wp2_with fail
  refine (HN.out _).mono ?_
  rintro e w5 ⟨rfl, g5⟩
  have Fj_5 := CellsAt.gr ((Fj_4).alloc _) g5
  have lj_5 := CellsAt.lt (Fj_5)
  have Fr_5 := CellsAt.gr ((Fr_4).alloc _) g5
  have lr_5 := CellsAt.lt (Fr_5)
  have Fp_5 := CellsAt.gr ((Fp_4).alloc _) g5
  have lp_5 := CellsAt.lt (Fp_5)
  have Fd_5 := CellsAt.gr (CellsAt.new w4 23 #[.int .i64 d.re, .int .i64 d.im]) g5
  have ld_5 := CellsAt.lt (Fd_5)
  have z5 := ((z4).alloc _ _).trans g5
  clear g5
  have cj0 := CellsAt.cell (Fj_5) 0
  have cj1 := CellsAt.cell (Fj_5) 1
  have cj2 := CellsAt.cell (Fj_5) 2
  have cj3 := CellsAt.cell (Fj_5) 3
  have cj4 := CellsAt.cell (Fj_5) 4
  have cj5 := CellsAt.cell (Fj_5) 5
  have cj6 := CellsAt.cell (Fj_5) 6
  have cj7 := CellsAt.cell (Fj_5) 7
  have cj8 := CellsAt.cell (Fj_5) 8
  have cj9 := CellsAt.cell (Fj_5) 9
  have cj10 := CellsAt.cell (Fj_5) 10
  have cj11 := CellsAt.cell (Fj_5) 11
  simp only [List.getElem?_toArray, List.getElem?_cons_zero, List.getElem?_cons_succ] at cj0 cj1 cj2 cj3 cj4 cj5 cj6 cj7 cj8 cj9 cj10 cj11
  have md0 := CellsAt.frozen (Fd_5) 0
  have cd0 := CellsAt.cell (Fd_5) 0
  simp only [List.getElem?_toArray, List.getElem?_cons_zero, List.getElem?_cons_succ] at cd0
  have md1 := CellsAt.frozen (Fd_5) 1
  have cd1 := CellsAt.cell (Fd_5) 1
  simp only [List.getElem?_toArray, List.getElem?_cons_zero, List.getElem?_cons_succ] at cd1
  go_wp2_with fail
  clear cj0 cj1 cj2 cj3 cj4 cj5 cj6 cj7 cj8 cj9 cj10 cj11 md0 cd0 md1 cd1
  refine (HU.out _).mono ?_
  rintro e w6 ⟨rfl, g6⟩
  have Fj_6 := CellsAt.gr (((Fj_5).other (by omega) _ _).other (by omega) _ _) g6
  have lj_6 := CellsAt.lt (Fj_6)
  have Fr_6 := CellsAt.gr (((Fr_5).other (by omega) _ _).other (by omega) _ _) g6
  have lr_6 := CellsAt.lt (Fr_6)
  have Fp_6 := CellsAt.gr (((Fp_5).other (by omega) _ _).other (by omega) _ _) g6
  have lp_6 := CellsAt.lt (Fp_6)
  have Fd_6 := CellsAt.gr (CellsAt.set2 (Fd_5) _ _) g6
  have ld_6 := CellsAt.lt (Fd_6)
  have z6 := (((z5).setCell (by first | omega | (simp only; omega)) _).setCell (by first | omega | (simp only; omega)) _).trans g6
  clear g6
  have cj0 := CellsAt.cell (Fj_6) 0
  have cj1 := CellsAt.cell (Fj_6) 1
  have cj2 := CellsAt.cell (Fj_6) 2
  have cj3 := CellsAt.cell (Fj_6) 3
  have cj4 := CellsAt.cell (Fj_6) 4
  have cj5 := CellsAt.cell (Fj_6) 5
  have cj6 := CellsAt.cell (Fj_6) 6
  have cj7 := CellsAt.cell (Fj_6) 7
  have cj8 := CellsAt.cell (Fj_6) 8
  have cj9 := CellsAt.cell (Fj_6) 9
  have cj10 := CellsAt.cell (Fj_6) 10
  have cj11 := CellsAt.cell (Fj_6) 11
  simp only [List.getElem?_toArray, List.getElem?_cons_zero, List.getElem?_cons_succ] at cj0 cj1 cj2 cj3 cj4 cj5 cj6 cj7 cj8 cj9 cj10 cj11
  go_wp2_with fail
  clear cj0 cj1 cj2 cj3 cj4 cj5 cj6 cj7 cj8 cj9 cj10 cj11
  refine (HV.out _).mono ?_
  rintro e w7 ⟨rfl, g7⟩
  have Fj_7 := CellsAt.gr ((Fj_6).alloc _) g7
  have lj_7 := CellsAt.lt (Fj_7)
  have Fr_7 := CellsAt.gr ((Fr_6).alloc _) g7
  have lr_7 := CellsAt.lt (Fr_7)
  have Fp_7 := CellsAt.gr ((Fp_6).alloc _) g7
  have lp_7 := CellsAt.lt (Fp_7)
  have Fd_7 := CellsAt.gr ((Fd_6).alloc _) g7
  have ld_7 := CellsAt.lt (Fd_7)
  have Fs_7 := CellsAt.gr (CellsAt.new w6 23 #[.int .i64 U.re, .int .i64 U.im]) g7
  have ls_7 := CellsAt.lt (Fs_7)
  have z7 := ((z6).alloc _ _).trans g7
  clear g7
  have cd0 := CellsAt.cell (Fd_7) 0
  have cd1 := CellsAt.cell (Fd_7) 1
  have cp0 := CellsAt.cell (Fp_7) 0
  have cp1 := CellsAt.cell (Fp_7) 1
  have cs0 := CellsAt.cell (Fs_7) 0
  have cs1 := CellsAt.cell (Fs_7) 1
  simp only [List.getElem?_toArray, List.getElem?_cons_zero, List.getElem?_cons_succ] at cd0 cd1 cp0 cp1 cs0 cs1
  have ms0 := CellsAt.frozen (Fs_7) 0
  have ms1 := CellsAt.frozen (Fs_7) 1
  have mp0 := CellsAt.frozen (Fp_7) 0
  have mp1 := CellsAt.frozen (Fp_7) 1
  go_wp2_with fail
  clear cd0 cd1 cp0 cp1 cs0 cs1 ms0 ms1 mp0 mp1
  refine (HS.out _).mono ?_
  rintro e w8 ⟨rfl, g8⟩
  have Fr_8 := CellsAt.gr (((((Fr_7).other (by omega) _ _).other (by omega) _ _).other (by omega) _ _).other (by omega) _ _) g8
  have lr_8 := CellsAt.lt (Fr_8)
  have Fp_8 := CellsAt.gr (CellsAt.set2 (((Fp_7).other (by omega) _ _).other (by omega) _ _) _ _) g8
  have lp_8 := CellsAt.lt (Fp_8)
  have Fd_8 := CellsAt.gr (((((Fd_7).other (by omega) _ _).other (by omega) _ _).other (by omega) _ _).other (by omega) _ _) g8
  have ld_8 := CellsAt.lt (Fd_8)
  have Fs_8 := CellsAt.gr (((CellsAt.set2 (Fs_7) _ _).other (by omega) _ _).other (by omega) _ _) g8
  have ls_8 := CellsAt.lt (Fs_8)
  have z8 := (((((z7).setCell (by first | omega | (simp only; omega)) _).setCell (by first | omega | (simp only; omega)) _).setCell (by first | omega | (simp only; omega)) _).setCell (by first | omega | (simp only; omega)) _).trans g8
  clear g8
  have mr0 := CellsAt.frozen (Fr_8) 0
  have cr0 := CellsAt.cell (Fr_8) 0
  simp only [List.getElem?_toArray, List.getElem?_cons_zero, List.getElem?_cons_succ] at cr0
  have mr1 := CellsAt.frozen (Fr_8) 1
  have cr1 := CellsAt.cell (Fr_8) 1
  simp only [List.getElem?_toArray, List.getElem?_cons_zero, List.getElem?_cons_succ] at cr1
  go_wp2_with fail
  clear mr0 cr0 mr1 cr1
  refine (HF.out _).mono ?_
  rintro e w9 ⟨rfl, g9⟩
  have Fr_9 := CellsAt.gr (Fr_8) g9
  have lr_9 := CellsAt.lt (Fr_9)
  have z9 := (z8).trans g9
  clear Fr_8 z8 g9
  have mr0 := CellsAt.frozen (Fr_9) 0
  have cr0 := CellsAt.cell (Fr_9) 0
  simp only [List.getElem?_toArray, List.getElem?_cons_zero, List.getElem?_cons_succ] at cr0
  have mr1 := CellsAt.frozen (Fr_9) 1
  have cr1 := CellsAt.cell (Fr_9) 1
  simp only [List.getElem?_toArray, List.getElem?_cons_zero, List.getElem?_cons_succ] at cr1
  go_wp2_with fail
  clear mr0 cr0 mr1 cr1
  obtain ⟨uf, hqp1⟩ : ∃ zz, zz = ((w9.setCell ⟨w.heap.size + 1, 0, none⟩ (.int .i64 o.re)).setCell ⟨w.heap.size + 1, 1, none⟩ (.int .i64 o.im)) := ⟨_, rfl⟩
  have Yr_p1 : CellsAt uf (w.heap.size + 1) 23 #[.int .i64 o.re, .int .i64 o.im] := by rw [hqp1]; first | exact CellsAt.set2 (Fr_9) _ _ | simpa using CellsAt.set2 (Fr_9) _ _
  have yp1 : Gr w uf := by rw [hqp1]; exact ((z9).setCell (by first | omega | (simp only; omega)) _).setCell (by first | omega | (simp only; omega)) _
  rw [← hqp1]
  clear hqp1
  have cr0 := CellsAt.cell (Yr_p1) 0
  have cr1 := CellsAt.cell (Yr_p1) 1
  simp only [List.getElem?_toArray, List.getElem?_cons_zero, List.getElem?_cons_succ] at cr0 cr1
  refine bodyPost_ret (v := .agg #[.int .i64 o.re, .int .i64 o.im]) ?_ rfl ⟨rfl, yp1⟩
  simp [results, Try.results26, go_sem, *]

set_option maxHeartbeats 4000000 in
theorem rJoin_false_0_of (bits mo b1 b2 : Int) (ju jv jy jz ja jc t t3 p d dd U V s o : Gi) (h1 : wrap64 (bits + 1) = b1) (h2 : wrap64 (bits + 2) = b2)
    (HT : Hid (∀ W, Calls Try.prog 33 #[.agg #[.int .i64 (jy).re, .int .i64 (jy).im], .agg #[.int .i64 (ja).re, .int .i64 (ja).im]] W fun e w' => e = .returned (.agg #[.int .i64 (t).re, .int .i64 (t).im]) ∧ Gr W w')) (HT3 : Hid (∀ W, Calls Try.prog 33 #[.agg #[.int .i64 (jz).re, .int .i64 (jz).im], .agg #[.int .i64 (jc).re, .int .i64 (jc).im]] W fun e w' => e = .returned (.agg #[.int .i64 (t3).re, .int .i64 (t3).im]) ∧ Gr W w')) (HP : Hid (∀ W, Calls Try.prog 34 #[.agg #[.int .i64 (t).re, .int .i64 (t).im], .agg #[.int .i64 (t3).re, .int .i64 (t3).im]] W fun e w' => e = .returned (.agg #[.int .i64 (p).re, .int .i64 (p).im]) ∧ Gr W w')) (HL : Hid (∀ W, Calls Try.prog 51 #[.agg #[.int .i64 (t).re, .int .i64 (t).im], .agg #[.int .i64 (t3).re, .int .i64 (t3).im]] W fun e w' => e = .returned (.agg #[.int .i64 (d).re, .int .i64 (d).im]) ∧ Gr W w'))
    (HN : Hid (∀ W, Calls Try.prog 35 #[.agg #[.int .i64 (d).re, .int .i64 (d).im], .int .i64 (-1)] W fun e w' => e = .returned (.agg #[.int .i64 (dd).re, .int .i64 (dd).im]) ∧ Gr W w')) (HU : Hid (∀ W, Calls Try.prog 32 #[.agg #[.int .i64 (ju).re, .int .i64 (ju).im], .int .i64 b1] W fun e w' => e = .returned (.agg #[.int .i64 (U).re, .int .i64 (U).im]) ∧ Gr W w')) (HV : Hid (∀ W, Calls Try.prog 32 #[.agg #[.int .i64 (jv).re, .int .i64 (jv).im], .int .i64 b1] W fun e w' => e = .returned (.agg #[.int .i64 (V).re, .int .i64 (V).im]) ∧ Gr W w'))
    (HS : Hid (∀ W, Calls Try.prog 34 #[.agg #[.int .i64 (U).re, .int .i64 (U).im], .agg #[.int .i64 (p).re, .int .i64 (p).im]] W fun e w' => e = .returned (.agg #[.int .i64 (s).re, .int .i64 (s).im]) ∧ Gr W w')) (HF : Hid (∀ W, Calls Try.prog 36 #[.agg #[.int .i64 (s).re, .int .i64 (s).im], .int .i64 b2, .int .i64 mo] W fun e w' => e = .returned (.agg #[.int .i64 (o).re, .int .i64 (o).im]) ∧ Gr W w')) (w : World) :
    Calls Try.prog 26 #[.agg #[.int .i64 ju.re, .int .i64 ju.im, .int .i64 jv.re, .int .i64 jv.im, .int .i64 jy.re, .int .i64 jy.im, .int .i64 jz.re, .int .i64 jz.im, .int .i64 ja.re, .int .i64 ja.im, .int .i64 jc.re, .int .i64 jc.im], .int .i64 0, .int .i64 bits, .int .i64 mo, .bool false] w fun e w' => e = .returned (.agg #[.int .i64 (o).re, .int .i64 (o).im]) ∧ Gr w w' := by
  go_enter Try.func26, Try.ntmps26
  go_wp2_with fail
  obtain ⟨u0, hU⟩ : ∃ uu, uu = ((w.alloc (.cells #[.int .i64 ju.re, .int .i64 ju.im, .int .i64 jv.re, .int .i64 jv.im, .int .i64 jy.re, .int .i64 jy.im, .int .i64 jz.re, .int .i64 jz.im, .int .i64 ja.re, .int .i64 ja.im, .int .i64 jc.re, .int .i64 jc.im] 47)).alloc (.cells #[.int .i64 0, .int .i64 0] 23)) := ⟨_, rfl⟩
  have gu : Gr w u0 := by rw [hU]; exact ((Gr.refl w).alloc _ _).alloc _ _
  have R0 : CellsAt u0 (w.heap.size) 47 #[.int .i64 ju.re, .int .i64 ju.im, .int .i64 jv.re, .int .i64 jv.im, .int .i64 jy.re, .int .i64 jy.im, .int .i64 jz.re, .int .i64 jz.im, .int .i64 ja.re, .int .i64 ja.im, .int .i64 jc.re, .int .i64 jc.im] := by
    rw [hU]
    have := ((CellsAt.new w 47 #[.int .i64 ju.re, .int .i64 ju.im, .int .i64 jv.re, .int .i64 jv.im, .int .i64 jy.re, .int .i64 jy.im, .int .i64 jz.re, .int .i64 jz.im, .int .i64 ja.re, .int .i64 ja.im, .int .i64 jc.re, .int .i64 jc.im]).alloc (.cells #[.int .i64 0, .int .i64 0] 23))
    simpa only [World.size_alloc] using this
  have R1 : CellsAt u0 (w.heap.size + 1) 23 #[.int .i64 0, .int .i64 0] := by
    rw [hU]
    have := (CellsAt.new (w.alloc (.cells #[.int .i64 ju.re, .int .i64 ju.im, .int .i64 jv.re, .int .i64 jv.im, .int .i64 jy.re, .int .i64 jy.im, .int .i64 jz.re, .int .i64 jz.im, .int .i64 ja.re, .int .i64 ja.im, .int .i64 jc.re, .int .i64 jc.im] 47)) 23 #[.int .i64 0, .int .i64 0])
    simpa only [World.size_alloc] using this
  rw [← hU]
  clear hU
  have lj := R0.lt
  have lr := R1.lt
  refine (HT.out _).mono ?_
  rintro e w1 ⟨rfl, g1⟩
  have Fj_1 := CellsAt.gr (R0) g1
  have lj_1 := CellsAt.lt (Fj_1)
  have Fr_1 := CellsAt.gr (R1) g1
  have lr_1 := CellsAt.lt (Fr_1)
  have z1 := (gu).trans g1
  clear R0 R1 gu g1
  have cj0 := CellsAt.cell (Fj_1) 0
  have cj1 := CellsAt.cell (Fj_1) 1
  have cj2 := CellsAt.cell (Fj_1) 2
  have cj3 := CellsAt.cell (Fj_1) 3
  have cj4 := CellsAt.cell (Fj_1) 4
  have cj5 := CellsAt.cell (Fj_1) 5
  have cj6 := CellsAt.cell (Fj_1) 6
  have cj7 := CellsAt.cell (Fj_1) 7
  have cj8 := CellsAt.cell (Fj_1) 8
  have cj9 := CellsAt.cell (Fj_1) 9
  have cj10 := CellsAt.cell (Fj_1) 10
  have cj11 := CellsAt.cell (Fj_1) 11
  simp only [List.getElem?_toArray, List.getElem?_cons_zero, List.getElem?_cons_succ] at cj0 cj1 cj2 cj3 cj4 cj5 cj6 cj7 cj8 cj9 cj10 cj11
  go_wp2_with fail
  clear cj0 cj1 cj2 cj3 cj4 cj5 cj6 cj7 cj8 cj9 cj10 cj11
  refine (HT3.out _).mono ?_
  rintro e w2 ⟨rfl, g2⟩
  have Fj_2 := CellsAt.gr ((Fj_1).alloc _) g2
  have lj_2 := CellsAt.lt (Fj_2)
  have Fr_2 := CellsAt.gr ((Fr_1).alloc _) g2
  have lr_2 := CellsAt.lt (Fr_2)
  have Ft_2 := CellsAt.gr (CellsAt.new w1 23 #[.int .i64 t.re, .int .i64 t.im]) g2
  have lt_2 := CellsAt.lt (Ft_2)
  have z2 := ((z1).alloc _ _).trans g2
  clear g2
  have ct0 := CellsAt.cell (Ft_2) 0
  have ct1 := CellsAt.cell (Ft_2) 1
  simp only [List.getElem?_toArray, List.getElem?_cons_zero, List.getElem?_cons_succ] at ct0 ct1
  go_wp2_with fail
  clear ct0 ct1
  refine (HP.out _).mono ?_
  rintro e w3 ⟨rfl, g3⟩
  have Fj_3 := CellsAt.gr ((Fj_2).alloc _) g3
  have lj_3 := CellsAt.lt (Fj_3)
  have Fr_3 := CellsAt.gr ((Fr_2).alloc _) g3
  have lr_3 := CellsAt.lt (Fr_3)
  have Ft_3 := CellsAt.gr ((Ft_2).alloc _) g3
  have lt_3 := CellsAt.lt (Ft_3)
  have Ft3_3 := CellsAt.gr (CellsAt.new w2 23 #[.int .i64 t3.re, .int .i64 t3.im]) g3
  have lt3_3 := CellsAt.lt (Ft3_3)
  have z3 := ((z2).alloc _ _).trans g3
  clear g3
  have ct0 := CellsAt.cell (Ft_3) 0
  have ct1 := CellsAt.cell (Ft_3) 1
  have ct30 := CellsAt.cell (Ft3_3) 0
  have ct31 := CellsAt.cell (Ft3_3) 1
  simp only [List.getElem?_toArray, List.getElem?_cons_zero, List.getElem?_cons_succ] at ct0 ct1 ct30 ct31
  go_wp2_with fail
  clear ct0 ct1 ct30 ct31
  refine (HL.out _).mono ?_
  rintro e w4 ⟨rfl, g4⟩
  have Fj_4 := CellsAt.gr ((Fj_3).alloc _) g4
  have lj_4 := CellsAt.lt (Fj_4)
  have Fr_4 := CellsAt.gr ((Fr_3).alloc _) g4
  have lr_4 := CellsAt.lt (Fr_4)
  have Ft_4 := CellsAt.gr ((Ft_3).alloc _) g4
  have lt_4 := CellsAt.lt (Ft_4)
  have Ft3_4 := CellsAt.gr ((Ft3_3).alloc _) g4
  have lt3_4 := CellsAt.lt (Ft3_4)
  have Fp_4 := CellsAt.gr (CellsAt.new w3 23 #[.int .i64 p.re, .int .i64 p.im]) g4
  have lp_4 := CellsAt.lt (Fp_4)
  have z4 := ((z3).alloc _ _).trans g4
  clear g4
  go_wp2_with fail
  refine (HN.out _).mono ?_
  rintro e w5 ⟨rfl, g5⟩
  have Fj_5 := CellsAt.gr ((Fj_4).alloc _) g5
  have lj_5 := CellsAt.lt (Fj_5)
  have Fr_5 := CellsAt.gr ((Fr_4).alloc _) g5
  have lr_5 := CellsAt.lt (Fr_5)
  have Fp_5 := CellsAt.gr ((Fp_4).alloc _) g5
  have lp_5 := CellsAt.lt (Fp_5)
  have Fd_5 := CellsAt.gr (CellsAt.new w4 23 #[.int .i64 d.re, .int .i64 d.im]) g5
  have ld_5 := CellsAt.lt (Fd_5)
  have z5 := ((z4).alloc _ _).trans g5
  clear g5
  have cj0 := CellsAt.cell (Fj_5) 0
  have cj1 := CellsAt.cell (Fj_5) 1
  have cj2 := CellsAt.cell (Fj_5) 2
  have cj3 := CellsAt.cell (Fj_5) 3
  have cj4 := CellsAt.cell (Fj_5) 4
  have cj5 := CellsAt.cell (Fj_5) 5
  have cj6 := CellsAt.cell (Fj_5) 6
  have cj7 := CellsAt.cell (Fj_5) 7
  have cj8 := CellsAt.cell (Fj_5) 8
  have cj9 := CellsAt.cell (Fj_5) 9
  have cj10 := CellsAt.cell (Fj_5) 10
  have cj11 := CellsAt.cell (Fj_5) 11
  simp only [List.getElem?_toArray, List.getElem?_cons_zero, List.getElem?_cons_succ] at cj0 cj1 cj2 cj3 cj4 cj5 cj6 cj7 cj8 cj9 cj10 cj11
  have md0 := CellsAt.frozen (Fd_5) 0
  have cd0 := CellsAt.cell (Fd_5) 0
  simp only [List.getElem?_toArray, List.getElem?_cons_zero, List.getElem?_cons_succ] at cd0
  have md1 := CellsAt.frozen (Fd_5) 1
  have cd1 := CellsAt.cell (Fd_5) 1
  simp only [List.getElem?_toArray, List.getElem?_cons_zero, List.getElem?_cons_succ] at cd1
  go_wp2_with fail
  clear cj0 cj1 cj2 cj3 cj4 cj5 cj6 cj7 cj8 cj9 cj10 cj11 md0 cd0 md1 cd1
  refine (HU.out _).mono ?_
  rintro e w6 ⟨rfl, g6⟩
  have Fj_6 := CellsAt.gr (((Fj_5).other (by omega) _ _).other (by omega) _ _) g6
  have lj_6 := CellsAt.lt (Fj_6)
  have Fr_6 := CellsAt.gr (((Fr_5).other (by omega) _ _).other (by omega) _ _) g6
  have lr_6 := CellsAt.lt (Fr_6)
  have Fp_6 := CellsAt.gr (((Fp_5).other (by omega) _ _).other (by omega) _ _) g6
  have lp_6 := CellsAt.lt (Fp_6)
  have Fd_6 := CellsAt.gr (CellsAt.set2 (Fd_5) _ _) g6
  have ld_6 := CellsAt.lt (Fd_6)
  have z6 := (((z5).setCell (by first | omega | (simp only; omega)) _).setCell (by first | omega | (simp only; omega)) _).trans g6
  clear g6
  have cd0 := CellsAt.cell (Fd_6) 0
  have cd1 := CellsAt.cell (Fd_6) 1
  have cp0 := CellsAt.cell (Fp_6) 0
  have cp1 := CellsAt.cell (Fp_6) 1
  simp only [List.getElem?_toArray, List.getElem?_cons_zero, List.getElem?_cons_succ] at cd0 cd1 cp0 cp1
  have mr0 := CellsAt.frozen (Fr_6) 0
  have cr0 := CellsAt.cell (Fr_6) 0
  simp only [List.getElem?_toArray, List.getElem?_cons_zero, List.getElem?_cons_succ] at cr0
  have mr1 := CellsAt.frozen (Fr_6) 1
  have cr1 := CellsAt.cell (Fr_6) 1
  simp only [List.getElem?_toArray, List.getElem?_cons_zero, List.getElem?_cons_succ] at cr1
  go_wp2_with fail
  clear cd0 cd1 cp0 cp1 mr0 cr0 mr1 cr1
  refine (HS.out _).mono ?_
  rintro e w7 ⟨rfl, g7⟩
  have Fr_7 := CellsAt.gr ((Fr_6).alloc _) g7
  have lr_7 := CellsAt.lt (Fr_7)
  have Fp_7 := CellsAt.gr ((Fp_6).alloc _) g7
  have lp_7 := CellsAt.lt (Fp_7)
  have Fd_7 := CellsAt.gr ((Fd_6).alloc _) g7
  have ld_7 := CellsAt.lt (Fd_7)
  have Fs_7 := CellsAt.gr (CellsAt.new w6 23 #[.int .i64 U.re, .int .i64 U.im]) g7
  have ls_7 := CellsAt.lt (Fs_7)
  have z7 := ((z6).alloc _ _).trans g7
  clear g7
  have mr0 := CellsAt.frozen (Fr_7) 0
  have cr0 := CellsAt.cell (Fr_7) 0
  simp only [List.getElem?_toArray, List.getElem?_cons_zero, List.getElem?_cons_succ] at cr0
  have mr1 := CellsAt.frozen (Fr_7) 1
  have cr1 := CellsAt.cell (Fr_7) 1
  simp only [List.getElem?_toArray, List.getElem?_cons_zero, List.getElem?_cons_succ] at cr1
  go_wp2_with fail
  clear mr0 cr0 mr1 cr1
  refine (HF.out _).mono ?_
  rintro e w8 ⟨rfl, g8⟩
  have Fr_8 := CellsAt.gr (Fr_7) g8
  have lr_8 := CellsAt.lt (Fr_8)
  have z8 := (z7).trans g8
  clear Fr_7 z7 g8
  have mr0 := CellsAt.frozen (Fr_8) 0
  have cr0 := CellsAt.cell (Fr_8) 0
  simp only [List.getElem?_toArray, List.getElem?_cons_zero, List.getElem?_cons_succ] at cr0
  have mr1 := CellsAt.frozen (Fr_8) 1
  have cr1 := CellsAt.cell (Fr_8) 1
  simp only [List.getElem?_toArray, List.getElem?_cons_zero, List.getElem?_cons_succ] at cr1
  go_wp2_with fail
  clear mr0 cr0 mr1 cr1
  obtain ⟨uf, hqp1⟩ : ∃ zz, zz = ((w8.setCell ⟨w.heap.size + 1, 0, none⟩ (.int .i64 o.re)).setCell ⟨w.heap.size + 1, 1, none⟩ (.int .i64 o.im)) := ⟨_, rfl⟩
  have Yr_p1 : CellsAt uf (w.heap.size + 1) 23 #[.int .i64 o.re, .int .i64 o.im] := by rw [hqp1]; first | exact CellsAt.set2 (Fr_8) _ _ | simpa using CellsAt.set2 (Fr_8) _ _
  have yp1 : Gr w uf := by rw [hqp1]; exact ((z8).setCell (by first | omega | (simp only; omega)) _).setCell (by first | omega | (simp only; omega)) _
  rw [← hqp1]
  clear hqp1
  have cr0 := CellsAt.cell (Yr_p1) 0
  have cr1 := CellsAt.cell (Yr_p1) 1
  simp only [List.getElem?_toArray, List.getElem?_cons_zero, List.getElem?_cons_succ] at cr0 cr1
  refine bodyPost_ret (v := .agg #[.int .i64 o.re, .int .i64 o.im]) ?_ rfl ⟨rfl, yp1⟩
  simp [results, Try.results26, go_sem, *]

set_option maxHeartbeats 4000000 in
theorem rJoin_false_1_of (bits mo b1 b2 : Int) (ju jv jy jz ja jc t t3 p d dd U V s o : Gi) (h1 : wrap64 (bits + 1) = b1) (h2 : wrap64 (bits + 2) = b2)
    (HT : Hid (∀ W, Calls Try.prog 33 #[.agg #[.int .i64 (jy).re, .int .i64 (jy).im], .agg #[.int .i64 (ja).re, .int .i64 (ja).im]] W fun e w' => e = .returned (.agg #[.int .i64 (t).re, .int .i64 (t).im]) ∧ Gr W w')) (HT3 : Hid (∀ W, Calls Try.prog 33 #[.agg #[.int .i64 (jz).re, .int .i64 (jz).im], .agg #[.int .i64 (jc).re, .int .i64 (jc).im]] W fun e w' => e = .returned (.agg #[.int .i64 (t3).re, .int .i64 (t3).im]) ∧ Gr W w')) (HP : Hid (∀ W, Calls Try.prog 34 #[.agg #[.int .i64 (t).re, .int .i64 (t).im], .agg #[.int .i64 (t3).re, .int .i64 (t3).im]] W fun e w' => e = .returned (.agg #[.int .i64 (p).re, .int .i64 (p).im]) ∧ Gr W w')) (HL : Hid (∀ W, Calls Try.prog 51 #[.agg #[.int .i64 (t).re, .int .i64 (t).im], .agg #[.int .i64 (t3).re, .int .i64 (t3).im]] W fun e w' => e = .returned (.agg #[.int .i64 (d).re, .int .i64 (d).im]) ∧ Gr W w'))
    (HN : Hid (∀ W, Calls Try.prog 35 #[.agg #[.int .i64 (d).re, .int .i64 (d).im], .int .i64 (-1)] W fun e w' => e = .returned (.agg #[.int .i64 (dd).re, .int .i64 (dd).im]) ∧ Gr W w')) (HU : Hid (∀ W, Calls Try.prog 32 #[.agg #[.int .i64 (ju).re, .int .i64 (ju).im], .int .i64 b1] W fun e w' => e = .returned (.agg #[.int .i64 (U).re, .int .i64 (U).im]) ∧ Gr W w')) (HV : Hid (∀ W, Calls Try.prog 32 #[.agg #[.int .i64 (jv).re, .int .i64 (jv).im], .int .i64 b1] W fun e w' => e = .returned (.agg #[.int .i64 (V).re, .int .i64 (V).im]) ∧ Gr W w'))
    (HS : Hid (∀ W, Calls Try.prog 34 #[.agg #[.int .i64 (V).re, .int .i64 (V).im], .agg #[.int .i64 (dd).re, .int .i64 (dd).im]] W fun e w' => e = .returned (.agg #[.int .i64 (s).re, .int .i64 (s).im]) ∧ Gr W w')) (HF : Hid (∀ W, Calls Try.prog 36 #[.agg #[.int .i64 (s).re, .int .i64 (s).im], .int .i64 b2, .int .i64 mo] W fun e w' => e = .returned (.agg #[.int .i64 (o).re, .int .i64 (o).im]) ∧ Gr W w')) (w : World) :
    Calls Try.prog 26 #[.agg #[.int .i64 ju.re, .int .i64 ju.im, .int .i64 jv.re, .int .i64 jv.im, .int .i64 jy.re, .int .i64 jy.im, .int .i64 jz.re, .int .i64 jz.im, .int .i64 ja.re, .int .i64 ja.im, .int .i64 jc.re, .int .i64 jc.im], .int .i64 1, .int .i64 bits, .int .i64 mo, .bool false] w fun e w' => e = .returned (.agg #[.int .i64 (o).re, .int .i64 (o).im]) ∧ Gr w w' := by
  go_enter Try.func26, Try.ntmps26
  go_wp2_with fail
  obtain ⟨u0, hU⟩ : ∃ uu, uu = ((w.alloc (.cells #[.int .i64 ju.re, .int .i64 ju.im, .int .i64 jv.re, .int .i64 jv.im, .int .i64 jy.re, .int .i64 jy.im, .int .i64 jz.re, .int .i64 jz.im, .int .i64 ja.re, .int .i64 ja.im, .int .i64 jc.re, .int .i64 jc.im] 47)).alloc (.cells #[.int .i64 0, .int .i64 0] 23)) := ⟨_, rfl⟩
  have gu : Gr w u0 := by rw [hU]; exact ((Gr.refl w).alloc _ _).alloc _ _
  have R0 : CellsAt u0 (w.heap.size) 47 #[.int .i64 ju.re, .int .i64 ju.im, .int .i64 jv.re, .int .i64 jv.im, .int .i64 jy.re, .int .i64 jy.im, .int .i64 jz.re, .int .i64 jz.im, .int .i64 ja.re, .int .i64 ja.im, .int .i64 jc.re, .int .i64 jc.im] := by
    rw [hU]
    have := ((CellsAt.new w 47 #[.int .i64 ju.re, .int .i64 ju.im, .int .i64 jv.re, .int .i64 jv.im, .int .i64 jy.re, .int .i64 jy.im, .int .i64 jz.re, .int .i64 jz.im, .int .i64 ja.re, .int .i64 ja.im, .int .i64 jc.re, .int .i64 jc.im]).alloc (.cells #[.int .i64 0, .int .i64 0] 23))
    simpa only [World.size_alloc] using this
  have R1 : CellsAt u0 (w.heap.size + 1) 23 #[.int .i64 0, .int .i64 0] := by
    rw [hU]
    have := (CellsAt.new (w.alloc (.cells #[.int .i64 ju.re, .int .i64 ju.im, .int .i64 jv.re, .int .i64 jv.im, .int .i64 jy.re, .int .i64 jy.im, .int .i64 jz.re, .int .i64 jz.im, .int .i64 ja.re, .int .i64 ja.im, .int .i64 jc.re, .int .i64 jc.im] 47)) 23 #[.int .i64 0, .int .i64 0])
    simpa only [World.size_alloc] using this
  rw [← hU]
  clear hU
  have lj := R0.lt
  have lr := R1.lt
  refine (HT.out _).mono ?_
  rintro e w1 ⟨rfl, g1⟩
  have Fj_1 := CellsAt.gr (R0) g1
  have lj_1 := CellsAt.lt (Fj_1)
  have Fr_1 := CellsAt.gr (R1) g1
  have lr_1 := CellsAt.lt (Fr_1)
  have z1 := (gu).trans g1
  clear R0 R1 gu g1
  have cj0 := CellsAt.cell (Fj_1) 0
  have cj1 := CellsAt.cell (Fj_1) 1
  have cj2 := CellsAt.cell (Fj_1) 2
  have cj3 := CellsAt.cell (Fj_1) 3
  have cj4 := CellsAt.cell (Fj_1) 4
  have cj5 := CellsAt.cell (Fj_1) 5
  have cj6 := CellsAt.cell (Fj_1) 6
  have cj7 := CellsAt.cell (Fj_1) 7
  have cj8 := CellsAt.cell (Fj_1) 8
  have cj9 := CellsAt.cell (Fj_1) 9
  have cj10 := CellsAt.cell (Fj_1) 10
  have cj11 := CellsAt.cell (Fj_1) 11
  simp only [List.getElem?_toArray, List.getElem?_cons_zero, List.getElem?_cons_succ] at cj0 cj1 cj2 cj3 cj4 cj5 cj6 cj7 cj8 cj9 cj10 cj11
  go_wp2_with fail
  clear cj0 cj1 cj2 cj3 cj4 cj5 cj6 cj7 cj8 cj9 cj10 cj11
  refine (HT3.out _).mono ?_
  rintro e w2 ⟨rfl, g2⟩
  have Fj_2 := CellsAt.gr ((Fj_1).alloc _) g2
  have lj_2 := CellsAt.lt (Fj_2)
  have Fr_2 := CellsAt.gr ((Fr_1).alloc _) g2
  have lr_2 := CellsAt.lt (Fr_2)
  have Ft_2 := CellsAt.gr (CellsAt.new w1 23 #[.int .i64 t.re, .int .i64 t.im]) g2
  have lt_2 := CellsAt.lt (Ft_2)
  have z2 := ((z1).alloc _ _).trans g2
  clear g2
  have ct0 := CellsAt.cell (Ft_2) 0
  have ct1 := CellsAt.cell (Ft_2) 1
  simp only [List.getElem?_toArray, List.getElem?_cons_zero, List.getElem?_cons_succ] at ct0 ct1
  go_wp2_with fail
  clear ct0 ct1
  refine (HP.out _).mono ?_
  rintro e w3 ⟨rfl, g3⟩
  have Fj_3 := CellsAt.gr ((Fj_2).alloc _) g3
  have lj_3 := CellsAt.lt (Fj_3)
  have Fr_3 := CellsAt.gr ((Fr_2).alloc _) g3
  have lr_3 := CellsAt.lt (Fr_3)
  have Ft_3 := CellsAt.gr ((Ft_2).alloc _) g3
  have lt_3 := CellsAt.lt (Ft_3)
  have Ft3_3 := CellsAt.gr (CellsAt.new w2 23 #[.int .i64 t3.re, .int .i64 t3.im]) g3
  have lt3_3 := CellsAt.lt (Ft3_3)
  have z3 := ((z2).alloc _ _).trans g3
  clear g3
  have ct0 := CellsAt.cell (Ft_3) 0
  have ct1 := CellsAt.cell (Ft_3) 1
  have ct30 := CellsAt.cell (Ft3_3) 0
  have ct31 := CellsAt.cell (Ft3_3) 1
  simp only [List.getElem?_toArray, List.getElem?_cons_zero, List.getElem?_cons_succ] at ct0 ct1 ct30 ct31
  go_wp2_with fail
  clear ct0 ct1 ct30 ct31
  refine (HL.out _).mono ?_
  rintro e w4 ⟨rfl, g4⟩
  have Fj_4 := CellsAt.gr ((Fj_3).alloc _) g4
  have lj_4 := CellsAt.lt (Fj_4)
  have Fr_4 := CellsAt.gr ((Fr_3).alloc _) g4
  have lr_4 := CellsAt.lt (Fr_4)
  have Ft_4 := CellsAt.gr ((Ft_3).alloc _) g4
  have lt_4 := CellsAt.lt (Ft_4)
  have Ft3_4 := CellsAt.gr ((Ft3_3).alloc _) g4
  have lt3_4 := CellsAt.lt (Ft3_4)
  have Fp_4 := CellsAt.gr (CellsAt.new w3 23 #[.int .i64 p.re, .int .i64 p.im]) g4
  have lp_4 := CellsAt.lt (Fp_4)
  have z4 := ((z3).alloc _ _).trans g4
  clear g4
  go_wp2_with fail
  refine (HN.out _).mono ?_
  rintro e w5 ⟨rfl, g5⟩
  have Fj_5 := CellsAt.gr ((Fj_4).alloc _) g5
  have lj_5 := CellsAt.lt (Fj_5)
  have Fr_5 := CellsAt.gr ((Fr_4).alloc _) g5
  have lr_5 := CellsAt.lt (Fr_5)
  have Fp_5 := CellsAt.gr ((Fp_4).alloc _) g5
  have lp_5 := CellsAt.lt (Fp_5)
  have Fd_5 := CellsAt.gr (CellsAt.new w4 23 #[.int .i64 d.re, .int .i64 d.im]) g5
  have ld_5 := CellsAt.lt (Fd_5)
  have z5 := ((z4).alloc _ _).trans g5
  clear g5
  have cj0 := CellsAt.cell (Fj_5) 0
  have cj1 := CellsAt.cell (Fj_5) 1
  have cj2 := CellsAt.cell (Fj_5) 2
  have cj3 := CellsAt.cell (Fj_5) 3
  have cj4 := CellsAt.cell (Fj_5) 4
  have cj5 := CellsAt.cell (Fj_5) 5
  have cj6 := CellsAt.cell (Fj_5) 6
  have cj7 := CellsAt.cell (Fj_5) 7
  have cj8 := CellsAt.cell (Fj_5) 8
  have cj9 := CellsAt.cell (Fj_5) 9
  have cj10 := CellsAt.cell (Fj_5) 10
  have cj11 := CellsAt.cell (Fj_5) 11
  simp only [List.getElem?_toArray, List.getElem?_cons_zero, List.getElem?_cons_succ] at cj0 cj1 cj2 cj3 cj4 cj5 cj6 cj7 cj8 cj9 cj10 cj11
  have md0 := CellsAt.frozen (Fd_5) 0
  have cd0 := CellsAt.cell (Fd_5) 0
  simp only [List.getElem?_toArray, List.getElem?_cons_zero, List.getElem?_cons_succ] at cd0
  have md1 := CellsAt.frozen (Fd_5) 1
  have cd1 := CellsAt.cell (Fd_5) 1
  simp only [List.getElem?_toArray, List.getElem?_cons_zero, List.getElem?_cons_succ] at cd1
  go_wp2_with fail
  clear cj0 cj1 cj2 cj3 cj4 cj5 cj6 cj7 cj8 cj9 cj10 cj11 md0 cd0 md1 cd1
  refine (HU.out _).mono ?_
  rintro e w6 ⟨rfl, g6⟩
  have Fj_6 := CellsAt.gr (((Fj_5).other (by omega) _ _).other (by omega) _ _) g6
  have lj_6 := CellsAt.lt (Fj_6)
  have Fr_6 := CellsAt.gr (((Fr_5).other (by omega) _ _).other (by omega) _ _) g6
  have lr_6 := CellsAt.lt (Fr_6)
  have Fp_6 := CellsAt.gr (((Fp_5).other (by omega) _ _).other (by omega) _ _) g6
  have lp_6 := CellsAt.lt (Fp_6)
  have Fd_6 := CellsAt.gr (CellsAt.set2 (Fd_5) _ _) g6
  have ld_6 := CellsAt.lt (Fd_6)
  have z6 := (((z5).setCell (by first | omega | (simp only; omega)) _).setCell (by first | omega | (simp only; omega)) _).trans g6
  clear g6
  have cj0 := CellsAt.cell (Fj_6) 0
  have cj1 := CellsAt.cell (Fj_6) 1
  have cj2 := CellsAt.cell (Fj_6) 2
  have cj3 := CellsAt.cell (Fj_6) 3
  have cj4 := CellsAt.cell (Fj_6) 4
  have cj5 := CellsAt.cell (Fj_6) 5
  have cj6 := CellsAt.cell (Fj_6) 6
  have cj7 := CellsAt.cell (Fj_6) 7
  have cj8 := CellsAt.cell (Fj_6) 8
  have cj9 := CellsAt.cell (Fj_6) 9
  have cj10 := CellsAt.cell (Fj_6) 10
  have cj11 := CellsAt.cell (Fj_6) 11
  simp only [List.getElem?_toArray, List.getElem?_cons_zero, List.getElem?_cons_succ] at cj0 cj1 cj2 cj3 cj4 cj5 cj6 cj7 cj8 cj9 cj10 cj11
  go_wp2_with fail
  clear cj0 cj1 cj2 cj3 cj4 cj5 cj6 cj7 cj8 cj9 cj10 cj11
  refine (HV.out _).mono ?_
  rintro e w7 ⟨rfl, g7⟩
  have Fj_7 := CellsAt.gr ((Fj_6).alloc _) g7
  have lj_7 := CellsAt.lt (Fj_7)
  have Fr_7 := CellsAt.gr ((Fr_6).alloc _) g7
  have lr_7 := CellsAt.lt (Fr_7)
  have Fp_7 := CellsAt.gr ((Fp_6).alloc _) g7
  have lp_7 := CellsAt.lt (Fp_7)
  have Fd_7 := CellsAt.gr ((Fd_6).alloc _) g7
  have ld_7 := CellsAt.lt (Fd_7)
  have Fs_7 := CellsAt.gr (CellsAt.new w6 23 #[.int .i64 U.re, .int .i64 U.im]) g7
  have ls_7 := CellsAt.lt (Fs_7)
  have z7 := ((z6).alloc _ _).trans g7
  clear g7
  have cd0 := CellsAt.cell (Fd_7) 0
  have cd1 := CellsAt.cell (Fd_7) 1
  have cp0 := CellsAt.cell (Fp_7) 0
  have cp1 := CellsAt.cell (Fp_7) 1
  have cs0 := CellsAt.cell (Fs_7) 0
  have cs1 := CellsAt.cell (Fs_7) 1
  simp only [List.getElem?_toArray, List.getElem?_cons_zero, List.getElem?_cons_succ] at cd0 cd1 cp0 cp1 cs0 cs1
  have ms0 := CellsAt.frozen (Fs_7) 0
  have ms1 := CellsAt.frozen (Fs_7) 1
  have mp0 := CellsAt.frozen (Fp_7) 0
  have mp1 := CellsAt.frozen (Fp_7) 1
  go_wp2_with fail
  clear cd0 cd1 cp0 cp1 cs0 cs1 ms0 ms1 mp0 mp1
  refine (HS.out _).mono ?_
  rintro e w8 ⟨rfl, g8⟩
  have Fr_8 := CellsAt.gr (((((Fr_7).other (by omega) _ _).other (by omega) _ _).other (by omega) _ _).other (by omega) _ _) g8
  have lr_8 := CellsAt.lt (Fr_8)
  have Fp_8 := CellsAt.gr (CellsAt.set2 (((Fp_7).other (by omega) _ _).other (by omega) _ _) _ _) g8
  have lp_8 := CellsAt.lt (Fp_8)
  have Fd_8 := CellsAt.gr (((((Fd_7).other (by omega) _ _).other (by omega) _ _).other (by omega) _ _).other (by omega) _ _) g8
  have ld_8 := CellsAt.lt (Fd_8)
  have Fs_8 := CellsAt.gr (((CellsAt.set2 (Fs_7) _ _).other (by omega) _ _).other (by omega) _ _) g8
  have ls_8 := CellsAt.lt (Fs_8)
  have z8 := (((((z7).setCell (by first | omega | (simp only; omega)) _).setCell (by first | omega | (simp only; omega)) _).setCell (by first | omega | (simp only; omega)) _).setCell (by first | omega | (simp only; omega)) _).trans g8
  clear g8
  have mr0 := CellsAt.frozen (Fr_8) 0
  have cr0 := CellsAt.cell (Fr_8) 0
  simp only [List.getElem?_toArray, List.getElem?_cons_zero, List.getElem?_cons_succ] at cr0
  have mr1 := CellsAt.frozen (Fr_8) 1
  have cr1 := CellsAt.cell (Fr_8) 1
  simp only [List.getElem?_toArray, List.getElem?_cons_zero, List.getElem?_cons_succ] at cr1
  go_wp2_with fail
  clear mr0 cr0 mr1 cr1
  refine (HF.out _).mono ?_
  rintro e w9 ⟨rfl, g9⟩
  have Fr_9 := CellsAt.gr (Fr_8) g9
  have lr_9 := CellsAt.lt (Fr_9)
  have z9 := (z8).trans g9
  clear Fr_8 z8 g9
  have mr0 := CellsAt.frozen (Fr_9) 0
  have cr0 := CellsAt.cell (Fr_9) 0
  simp only [List.getElem?_toArray, List.getElem?_cons_zero, List.getElem?_cons_succ] at cr0
  have mr1 := CellsAt.frozen (Fr_9) 1
  have cr1 := CellsAt.cell (Fr_9) 1
  simp only [List.getElem?_toArray, List.getElem?_cons_zero, List.getElem?_cons_succ] at cr1
  go_wp2_with fail
  clear mr0 cr0 mr1 cr1
  obtain ⟨uf, hqp1⟩ : ∃ zz, zz = ((w9.setCell ⟨w.heap.size + 1, 0, none⟩ (.int .i64 o.re)).setCell ⟨w.heap.size + 1, 1, none⟩ (.int .i64 o.im)) := ⟨_, rfl⟩
  have Yr_p1 : CellsAt uf (w.heap.size + 1) 23 #[.int .i64 o.re, .int .i64 o.im] := by rw [hqp1]; first | exact CellsAt.set2 (Fr_9) _ _ | simpa using CellsAt.set2 (Fr_9) _ _
  have yp1 : Gr w uf := by rw [hqp1]; exact ((z9).setCell (by first | omega | (simp only; omega)) _).setCell (by first | omega | (simp only; omega)) _
  rw [← hqp1]
  clear hqp1
  have cr0 := CellsAt.cell (Yr_p1) 0
  have cr1 := CellsAt.cell (Yr_p1) 1
  simp only [List.getElem?_toArray, List.getElem?_cons_zero, List.getElem?_cons_succ] at cr0 cr1
  refine bodyPost_ret (v := .agg #[.int .i64 o.re, .int .i64 o.im]) ?_ rfl ⟨rfl, yp1⟩
  simp [results, Try.results26, go_sem, *]

set_option maxHeartbeats 4000000 in
theorem rJoin_false_2_of (bits mo b1 b2 : Int) (ju jv jy jz ja jc t t3 p d dd U V s o : Gi) (h1 : wrap64 (bits + 1) = b1) (h2 : wrap64 (bits + 2) = b2)
    (HT : Hid (∀ W, Calls Try.prog 33 #[.agg #[.int .i64 (jy).re, .int .i64 (jy).im], .agg #[.int .i64 (ja).re, .int .i64 (ja).im]] W fun e w' => e = .returned (.agg #[.int .i64 (t).re, .int .i64 (t).im]) ∧ Gr W w')) (HT3 : Hid (∀ W, Calls Try.prog 33 #[.agg #[.int .i64 (jz).re, .int .i64 (jz).im], .agg #[.int .i64 (jc).re, .int .i64 (jc).im]] W fun e w' => e = .returned (.agg #[.int .i64 (t3).re, .int .i64 (t3).im]) ∧ Gr W w')) (HP : Hid (∀ W, Calls Try.prog 34 #[.agg #[.int .i64 (t).re, .int .i64 (t).im], .agg #[.int .i64 (t3).re, .int .i64 (t3).im]] W fun e w' => e = .returned (.agg #[.int .i64 (p).re, .int .i64 (p).im]) ∧ Gr W w')) (HL : Hid (∀ W, Calls Try.prog 51 #[.agg #[.int .i64 (t).re, .int .i64 (t).im], .agg #[.int .i64 (t3).re, .int .i64 (t3).im]] W fun e w' => e = .returned (.agg #[.int .i64 (d).re, .int .i64 (d).im]) ∧ Gr W w'))
    (HN : Hid (∀ W, Calls Try.prog 35 #[.agg #[.int .i64 (d).re, .int .i64 (d).im], .int .i64 (-1)] W fun e w' => e = .returned (.agg #[.int .i64 (dd).re, .int .i64 (dd).im]) ∧ Gr W w')) (HU : Hid (∀ W, Calls Try.prog 32 #[.agg #[.int .i64 (ju).re, .int .i64 (ju).im], .int .i64 b1] W fun e w' => e = .returned (.agg #[.int .i64 (U).re, .int .i64 (U).im]) ∧ Gr W w')) (HV : Hid (∀ W, Calls Try.prog 32 #[.agg #[.int .i64 (jv).re, .int .i64 (jv).im], .int .i64 b1] W fun e w' => e = .returned (.agg #[.int .i64 (V).re, .int .i64 (V).im]) ∧ Gr W w'))
    (HS : Hid (∀ W, Calls Try.prog 51 #[.agg #[.int .i64 (U).re, .int .i64 (U).im], .agg #[.int .i64 (p).re, .int .i64 (p).im]] W fun e w' => e = .returned (.agg #[.int .i64 (s).re, .int .i64 (s).im]) ∧ Gr W w')) (HF : Hid (∀ W, Calls Try.prog 36 #[.agg #[.int .i64 (s).re, .int .i64 (s).im], .int .i64 b2, .int .i64 mo] W fun e w' => e = .returned (.agg #[.int .i64 (o).re, .int .i64 (o).im]) ∧ Gr W w')) (w : World) :
    Calls Try.prog 26 #[.agg #[.int .i64 ju.re, .int .i64 ju.im, .int .i64 jv.re, .int .i64 jv.im, .int .i64 jy.re, .int .i64 jy.im, .int .i64 jz.re, .int .i64 jz.im, .int .i64 ja.re, .int .i64 ja.im, .int .i64 jc.re, .int .i64 jc.im], .int .i64 2, .int .i64 bits, .int .i64 mo, .bool false] w fun e w' => e = .returned (.agg #[.int .i64 (o).re, .int .i64 (o).im]) ∧ Gr w w' := by
  go_enter Try.func26, Try.ntmps26
  go_wp2_with fail
  obtain ⟨u0, hU⟩ : ∃ uu, uu = ((w.alloc (.cells #[.int .i64 ju.re, .int .i64 ju.im, .int .i64 jv.re, .int .i64 jv.im, .int .i64 jy.re, .int .i64 jy.im, .int .i64 jz.re, .int .i64 jz.im, .int .i64 ja.re, .int .i64 ja.im, .int .i64 jc.re, .int .i64 jc.im] 47)).alloc (.cells #[.int .i64 0, .int .i64 0] 23)) := ⟨_, rfl⟩
  have gu : Gr w u0 := by rw [hU]; exact ((Gr.refl w).alloc _ _).alloc _ _
  have R0 : CellsAt u0 (w.heap.size) 47 #[.int .i64 ju.re, .int .i64 ju.im, .int .i64 jv.re, .int .i64 jv.im, .int .i64 jy.re, .int .i64 jy.im, .int .i64 jz.re, .int .i64 jz.im, .int .i64 ja.re, .int .i64 ja.im, .int .i64 jc.re, .int .i64 jc.im] := by
    rw [hU]
    have := ((CellsAt.new w 47 #[.int .i64 ju.re, .int .i64 ju.im, .int .i64 jv.re, .int .i64 jv.im, .int .i64 jy.re, .int .i64 jy.im, .int .i64 jz.re, .int .i64 jz.im, .int .i64 ja.re, .int .i64 ja.im, .int .i64 jc.re, .int .i64 jc.im]).alloc (.cells #[.int .i64 0, .int .i64 0] 23))
    simpa only [World.size_alloc] using this
  have R1 : CellsAt u0 (w.heap.size + 1) 23 #[.int .i64 0, .int .i64 0] := by
    rw [hU]
    have := (CellsAt.new (w.alloc (.cells #[.int .i64 ju.re, .int .i64 ju.im, .int .i64 jv.re, .int .i64 jv.im, .int .i64 jy.re, .int .i64 jy.im, .int .i64 jz.re, .int .i64 jz.im, .int .i64 ja.re, .int .i64 ja.im, .int .i64 jc.re, .int .i64 jc.im] 47)) 23 #[.int .i64 0, .int .i64 0])
    simpa only [World.size_alloc] using this
  rw [← hU]
  clear hU
  have lj := R0.lt
  have lr := R1.lt
  refine (HT.out _).mono ?_
  rintro e w1 ⟨rfl, g1⟩
  have Fj_1 := CellsAt.gr (R0) g1
  have lj_1 := CellsAt.lt (Fj_1)
  have Fr_1 := CellsAt.gr (R1) g1
  have lr_1 := CellsAt.lt (Fr_1)
  have z1 := (gu).trans g1
  clear R0 R1 gu g1
  have cj0 := CellsAt.cell (Fj_1) 0
  have cj1 := CellsAt.cell (Fj_1) 1
  have cj2 := CellsAt.cell (Fj_1) 2
  have cj3 := CellsAt.cell (Fj_1) 3
  have cj4 := CellsAt.cell (Fj_1) 4
  have cj5 := CellsAt.cell (Fj_1) 5
  have cj6 := CellsAt.cell (Fj_1) 6
  have cj7 := CellsAt.cell (Fj_1) 7
  have cj8 := CellsAt.cell (Fj_1) 8
  have cj9 := CellsAt.cell (Fj_1) 9
  have cj10 := CellsAt.cell (Fj_1) 10
  have cj11 := CellsAt.cell (Fj_1) 11
  simp only [List.getElem?_toArray, List.getElem?_cons_zero, List.getElem?_cons_succ] at cj0 cj1 cj2 cj3 cj4 cj5 cj6 cj7 cj8 cj9 cj10 cj11
  go_wp2_with fail
  clear cj0 cj1 cj2 cj3 cj4 cj5 cj6 cj7 cj8 cj9 cj10 cj11
  refine (HT3.out _).mono ?_
  rintro e w2 ⟨rfl, g2⟩
  have Fj_2 := CellsAt.gr ((Fj_1).alloc _) g2
  have lj_2 := CellsAt.lt (Fj_2)
  have Fr_2 := CellsAt.gr ((Fr_1).alloc _) g2
  have lr_2 := CellsAt.lt (Fr_2)
  have Ft_2 := CellsAt.gr (CellsAt.new w1 23 #[.int .i64 t.re, .int .i64 t.im]) g2
  have lt_2 := CellsAt.lt (Ft_2)
  have z2 := ((z1).alloc _ _).trans g2
  clear g2
  have ct0 := CellsAt.cell (Ft_2) 0
  have ct1 := CellsAt.cell (Ft_2) 1
  simp only [List.getElem?_toArray, List.getElem?_cons_zero, List.getElem?_cons_succ] at ct0 ct1
  go_wp2_with fail
  clear ct0 ct1
  refine (HP.out _).mono ?_
  rintro e w3 ⟨rfl, g3⟩
  have Fj_3 := CellsAt.gr ((Fj_2).alloc _) g3
  have lj_3 := CellsAt.lt (Fj_3)
  have Fr_3 := CellsAt.gr ((Fr_2).alloc _) g3
  have lr_3 := CellsAt.lt (Fr_3)
  have Ft_3 := CellsAt.gr ((Ft_2).alloc _) g3
  have lt_3 := CellsAt.lt (Ft_3)
  have Ft3_3 := CellsAt.gr (CellsAt.new w2 23 #[.int .i64 t3.re, .int .i64 t3.im]) g3
  have lt3_3 := CellsAt.lt (Ft3_3)
  have z3 := ((z2).alloc _ _).trans g3
  clear g3
  have ct0 := CellsAt.cell (Ft_3) 0
  have ct1 := CellsAt.cell (Ft_3) 1
  have ct30 := CellsAt.cell (Ft3_3) 0
  have ct31 := CellsAt.cell (Ft3_3) 1
  simp only [List.getElem?_toArray, List.getElem?_cons_zero, List.getElem?_cons_succ] at ct0 ct1 ct30 ct31
  go_wp2_with fail
  clear ct0 ct1 ct30 ct31
  refine (HL.out _).mono ?_
  rintro e w4 ⟨rfl, g4⟩
  have Fj_4 := CellsAt.gr ((Fj_3).alloc _) g4
  have lj_4 := CellsAt.lt (Fj_4)
  have Fr_4 := CellsAt.gr ((Fr_3).alloc _) g4
  have lr_4 := CellsAt.lt (Fr_4)
  have Ft_4 := CellsAt.gr ((Ft_3).alloc _) g4
  have lt_4 := CellsAt.lt (Ft_4)
  have Ft3_4 := CellsAt.gr ((Ft3_3).alloc _) g4
  have lt3_4 := CellsAt.lt (Ft3_4)
  have Fp_4 := CellsAt.gr (CellsAt.new w3 23 #[.int .i64 p.re, .int .i64 p.im]) g4
  have lp_4 := CellsAt.lt (Fp_4)
  have z4 := ((z3).alloc _ _).trans g4
  clear g4
  go_wp2_with fail
  refine (HN.out _).mono ?_
  rintro e w5 ⟨rfl, g5⟩
  have Fj_5 := CellsAt.gr ((Fj_4).alloc _) g5
  have lj_5 := CellsAt.lt (Fj_5)
  have Fr_5 := CellsAt.gr ((Fr_4).alloc _) g5
  have lr_5 := CellsAt.lt (Fr_5)
  have Fp_5 := CellsAt.gr ((Fp_4).alloc _) g5
  have lp_5 := CellsAt.lt (Fp_5)
  have Fd_5 := CellsAt.gr (CellsAt.new w4 23 #[.int .i64 d.re, .int .i64 d.im]) g5
  have ld_5 := CellsAt.lt (Fd_5)
  have z5 := ((z4).alloc _ _).trans g5
  clear g5
  have cj0 := CellsAt.cell (Fj_5) 0
  have cj1 := CellsAt.cell (Fj_5) 1
  have cj2 := CellsAt.cell (Fj_5) 2
  have cj3 := CellsAt.cell (Fj_5) 3
  have cj4 := CellsAt.cell (Fj_5) 4
  have cj5 := CellsAt.cell (Fj_5) 5
  have cj6 := CellsAt.cell (Fj_5) 6
  have cj7 := CellsAt.cell (Fj_5) 7
  have cj8 := CellsAt.cell (Fj_5) 8
  have cj9 := CellsAt.cell (Fj_5) 9
  have cj10 := CellsAt.cell (Fj_5) 10
  have cj11 := CellsAt.cell (Fj_5) 11
  simp only [List.getElem?_toArray, List.getElem?_cons_zero, List.getElem?_cons_succ] at cj0 cj1 cj2 cj3 cj4 cj5 cj6 cj7 cj8 cj9 cj10 cj11
  have md0 := CellsAt.frozen (Fd_5) 0
  have cd0 := CellsAt.cell (Fd_5) 0
  simp only [List.getElem?_toArray, List.getElem?_cons_zero, List.getElem?_cons_succ] at cd0
  have md1 := CellsAt.frozen (Fd_5) 1
  have cd1 := CellsAt.cell (Fd_5) 1
  simp only [List.getElem?_toArray, List.getElem?_cons_zero, List.getElem?_cons_succ] at cd1
  go_wp2_with fail
  clear cj0 cj1 cj2 cj3 cj4 cj5 cj6 cj7 cj8 cj9 cj10 cj11 md0 cd0 md1 cd1
  refine (HU.out _).mono ?_
  rintro e w6 ⟨rfl, g6⟩
  have Fj_6 := CellsAt.gr (((Fj_5).other (by omega) _ _).other (by omega) _ _) g6
  have lj_6 := CellsAt.lt (Fj_6)
  have Fr_6 := CellsAt.gr (((Fr_5).other (by omega) _ _).other (by omega) _ _) g6
  have lr_6 := CellsAt.lt (Fr_6)
  have Fp_6 := CellsAt.gr (((Fp_5).other (by omega) _ _).other (by omega) _ _) g6
  have lp_6 := CellsAt.lt (Fp_6)
  have Fd_6 := CellsAt.gr (CellsAt.set2 (Fd_5) _ _) g6
  have ld_6 := CellsAt.lt (Fd_6)
  have z6 := (((z5).setCell (by first | omega | (simp only; omega)) _).setCell (by first | omega | (simp only; omega)) _).trans g6
  clear g6
  have cd0 := CellsAt.cell (Fd_6) 0
  have cd1 := CellsAt.cell (Fd_6) 1
  have cp0 := CellsAt.cell (Fp_6) 0
  have cp1 := CellsAt.cell (Fp_6) 1
  simp only [List.getElem?_toArray, List.getElem?_cons_zero, List.getElem?_cons_succ] at cd0 cd1 cp0 cp1
  have mr0 := CellsAt.frozen (Fr_6) 0
  have cr0 := CellsAt.cell (Fr_6) 0
  simp only [List.getElem?_toArray, List.getElem?_cons_zero, List.getElem?_cons_succ] at cr0
  have mr1 := CellsAt.frozen (Fr_6) 1
  have cr1 := CellsAt.cell (Fr_6) 1
  simp only [List.getElem?_toArray, List.getElem?_cons_zero, List.getElem?_cons_succ] at cr1
  go_wp2_with fail
  clear cd0 cd1 cp0 cp1 mr0 cr0 mr1 cr1
  refine (HS.out _).mono ?_
  rintro e w7 ⟨rfl, g7⟩
  have Fr_7 := CellsAt.gr ((Fr_6).alloc _) g7
  have lr_7 := CellsAt.lt (Fr_7)
  have Fp_7 := CellsAt.gr ((Fp_6).alloc _) g7
  have lp_7 := CellsAt.lt (Fp_7)
  have Fd_7 := CellsAt.gr ((Fd_6).alloc _) g7
  have ld_7 := CellsAt.lt (Fd_7)
  have Fs_7 := CellsAt.gr (CellsAt.new w6 23 #[.int .i64 U.re, .int .i64 U.im]) g7
  have ls_7 := CellsAt.lt (Fs_7)
  have z7 := ((z6).alloc _ _).trans g7
  clear g7
  have mr0 := CellsAt.frozen (Fr_7) 0
  have cr0 := CellsAt.cell (Fr_7) 0
  simp only [List.getElem?_toArray, List.getElem?_cons_zero, List.getElem?_cons_succ] at cr0
  have mr1 := CellsAt.frozen (Fr_7) 1
  have cr1 := CellsAt.cell (Fr_7) 1
  simp only [List.getElem?_toArray, List.getElem?_cons_zero, List.getElem?_cons_succ] at cr1
  go_wp2_with fail
  clear mr0 cr0 mr1 cr1
  refine (HF.out _).mono ?_
  rintro e w8 ⟨rfl, g8⟩
  have Fr_8 := CellsAt.gr (Fr_7) g8
  have lr_8 := CellsAt.lt (Fr_8)
  have z8 := (z7).trans g8
  clear Fr_7 z7 g8
  have mr0 := CellsAt.frozen (Fr_8) 0
  have cr0 := CellsAt.cell (Fr_8) 0
  simp only [List.getElem?_toArray, List.getElem?_cons_zero, List.getElem?_cons_succ] at cr0
  have mr1 := CellsAt.frozen (Fr_8) 1
  have cr1 := CellsAt.cell (Fr_8) 1
  simp only [List.getElem?_toArray, List.getElem?_cons_zero, List.getElem?_cons_succ] at cr1
  go_wp2_with fail
  clear mr0 cr0 mr1 cr1
  obtain ⟨uf, hqp1⟩ : ∃ zz, zz = ((w8.setCell ⟨w.heap.size + 1, 0, none⟩ (.int .i64 o.re)).setCell ⟨w.heap.size + 1, 1, none⟩ (.int .i64 o.im)) := ⟨_, rfl⟩
  have Yr_p1 : CellsAt uf (w.heap.size + 1) 23 #[.int .i64 o.re, .int .i64 o.im] := by rw [hqp1]; first | exact CellsAt.set2 (Fr_8) _ _ | simpa using CellsAt.set2 (Fr_8) _ _
  have yp1 : Gr w uf := by rw [hqp1]; exact ((z8).setCell (by first | omega | (simp only; omega)) _).setCell (by first | omega | (simp only; omega)) _
  rw [← hqp1]
  clear hqp1
  have cr0 := CellsAt.cell (Yr_p1) 0
  have cr1 := CellsAt.cell (Yr_p1) 1
  simp only [List.getElem?_toArray, List.getElem?_cons_zero, List.getElem?_cons_succ] at cr0 cr1
  refine bodyPost_ret (v := .agg #[.int .i64 o.re, .int .i64 o.im]) ?_ rfl ⟨rfl, yp1⟩
  simp [results, Try.results26, go_sem, *]

set_option maxHeartbeats 4000000 in
theorem rJoin_false_3_of (bits mo b1 b2 : Int) (ju jv jy jz ja jc t t3 p d dd U V s o : Gi) (h1 : wrap64 (bits + 1) = b1) (h2 : wrap64 (bits + 2) = b2)
    (HT : Hid (∀ W, Calls Try.prog 33 #[.agg #[.int .i64 (jy).re, .int .i64 (jy).im], .agg #[.int .i64 (ja).re, .int .i64 (ja).im]] W fun e w' => e = .returned (.agg #[.int .i64 (t).re, .int .i64 (t).im]) ∧ Gr W w')) (HT3 : Hid (∀ W, Calls Try.prog 33 #[.agg #[.int .i64 (jz).re, .int .i64 (jz).im], .agg #[.int .i64 (jc).re, .int .i64 (jc).im]] W fun e w' => e = .returned (.agg #[.int .i64 (t3).re, .int .i64 (t3).im]) ∧ Gr W w')) (HP : Hid (∀ W, Calls Try.prog 34 #[.agg #[.int .i64 (t).re, .int .i64 (t).im], .agg #[.int .i64 (t3).re, .int .i64 (t3).im]] W fun e w' => e = .returned (.agg #[.int .i64 (p).re, .int .i64 (p).im]) ∧ Gr W w')) (HL : Hid (∀ W, Calls Try.prog 51 #[.agg #[.int .i64 (t).re, .int .i64 (t).im], .agg #[.int .i64 (t3).re, .int .i64 (t3).im]] W fun e w' => e = .returned (.agg #[.int .i64 (d).re, .int .i64 (d).im]) ∧ Gr W w'))
    (HN : Hid (∀ W, Calls Try.prog 35 #[.agg #[.int .i64 (d).re, .int .i64 (d).im], .int .i64 (-1)] W fun e w' => e = .returned (.agg #[.int .i64 (dd).re, .int .i64 (dd).im]) ∧ Gr W w')) (HU : Hid (∀ W, Calls Try.prog 32 #[.agg #[.int .i64 (ju).re, .int .i64 (ju).im], .int .i64 b1] W fun e w' => e = .returned (.agg #[.int .i64 (U).re, .int .i64 (U).im]) ∧ Gr W w')) (HV : Hid (∀ W, Calls Try.prog 32 #[.agg #[.int .i64 (jv).re, .int .i64 (jv).im], .int .i64 b1] W fun e w' => e = .returned (.agg #[.int .i64 (V).re, .int .i64 (V).im]) ∧ Gr W w'))
    (HS : Hid (∀ W, Calls Try.prog 51 #[.agg #[.int .i64 (V).re, .int .i64 (V).im], .agg #[.int .i64 (dd).re, .int .i64 (dd).im]] W fun e w' => e = .returned (.agg #[.int .i64 (s).re, .int .i64 (s).im]) ∧ Gr W w')) (HF : Hid (∀ W, Calls Try.prog 36 #[.agg #[.int .i64 (s).re, .int .i64 (s).im], .int .i64 b2, .int .i64 mo] W fun e w' => e = .returned (.agg #[.int .i64 (o).re, .int .i64 (o).im]) ∧ Gr W w')) (w : World) :
    Calls Try.prog 26 #[.agg #[.int .i64 ju.re, .int .i64 ju.im, .int .i64 jv.re, .int .i64 jv.im, .int .i64 jy.re, .int .i64 jy.im, .int .i64 jz.re, .int .i64 jz.im, .int .i64 ja.re, .int .i64 ja.im, .int .i64 jc.re, .int .i64 jc.im], .int .i64 3, .int .i64 bits, .int .i64 mo, .bool false] w fun e w' => e = .returned (.agg #[.int .i64 (o).re, .int .i64 (o).im]) ∧ Gr w w' := by
  go_enter Try.func26, Try.ntmps26
  go_wp2_with fail
  obtain ⟨u0, hU⟩ : ∃ uu, uu = ((w.alloc (.cells #[.int .i64 ju.re, .int .i64 ju.im, .int .i64 jv.re, .int .i64 jv.im, .int .i64 jy.re, .int .i64 jy.im, .int .i64 jz.re, .int .i64 jz.im, .int .i64 ja.re, .int .i64 ja.im, .int .i64 jc.re, .int .i64 jc.im] 47)).alloc (.cells #[.int .i64 0, .int .i64 0] 23)) := ⟨_, rfl⟩
  have gu : Gr w u0 := by rw [hU]; exact ((Gr.refl w).alloc _ _).alloc _ _
  have R0 : CellsAt u0 (w.heap.size) 47 #[.int .i64 ju.re, .int .i64 ju.im, .int .i64 jv.re, .int .i64 jv.im, .int .i64 jy.re, .int .i64 jy.im, .int .i64 jz.re, .int .i64 jz.im, .int .i64 ja.re, .int .i64 ja.im, .int .i64 jc.re, .int .i64 jc.im] := by
    rw [hU]
    have := ((CellsAt.new w 47 #[.int .i64 ju.re, .int .i64 ju.im, .int .i64 jv.re, .int .i64 jv.im, .int .i64 jy.re, .int .i64 jy.im, .int .i64 jz.re, .int .i64 jz.im, .int .i64 ja.re, .int .i64 ja.im, .int .i64 jc.re, .int .i64 jc.im]).alloc (.cells #[.int .i64 0, .int .i64 0] 23))
    simpa only [World.size_alloc] using this
  have R1 : CellsAt u0 (w.heap.size + 1) 23 #[.int .i64 0, .int .i64 0] := by
    rw [hU]
    have := (CellsAt.new (w.alloc (.cells #[.int .i64 ju.re, .int .i64 ju.im, .int .i64 jv.re, .int .i64 jv.im, .int .i64 jy.re, .int .i64 jy.im, .int .i64 jz.re, .int .i64 jz.im, .int .i64 ja.re, .int .i64 ja.im, .int .i64 jc.re, .int .i64 jc.im] 47)) 23 #[.int .i64 0, .int .i64 0])
    simpa only [World.size_alloc] using this
  rw [← hU]
  clear hU
  have lj := R0.lt
  have lr := R1.lt
  refine (HT.out _).mono ?_
  rintro e w1 ⟨rfl, g1⟩
  have Fj_1 := CellsAt.gr (R0) g1
  have lj_1 := CellsAt.lt (Fj_1)
  have Fr_1 := CellsAt.gr (R1) g1
  have lr_1 := CellsAt.lt (Fr_1)
  have z1 := (gu).trans g1
  clear R0 R1 gu g1
  have cj0 := CellsAt.cell (Fj_1) 0
  have cj1 := CellsAt.cell (Fj_1) 1
  have cj2 := CellsAt.cell (Fj_1) 2
  have cj3 := CellsAt.cell (Fj_1) 3
  have cj4 := CellsAt.cell (Fj_1) 4
  have cj5 := CellsAt.cell (Fj_1) 5
  have cj6 := CellsAt.cell (Fj_1) 6
  have cj7 := CellsAt.cell (Fj_1) 7
  have cj8 := CellsAt.cell (Fj_1) 8
  have cj9 := CellsAt.cell (Fj_1) 9
  have cj10 := CellsAt.cell (Fj_1) 10
  have cj11 := CellsAt.cell (Fj_1) 11
  simp only [List.getElem?_toArray, List.getElem?_cons_zero, List.getElem?_cons_succ] at cj0 cj1 cj2 cj3 cj4 cj5 cj6 cj7 cj8 cj9 cj10 cj11
  go_wp2_with fail
  clear cj0 cj1 cj2 cj3 cj4 cj5 cj6 cj7 cj8 cj9 cj10 cj11
  refine (HT3.out _).mono ?_
  rintro e w2 ⟨rfl, g2⟩
  have Fj_2 := CellsAt.gr ((Fj_1).alloc _) g2
  have lj_2 := CellsAt.lt (Fj_2)
  have Fr_2 := CellsAt.gr ((Fr_1).alloc _) g2
  have lr_2 := CellsAt.lt (Fr_2)
  have Ft_2 := CellsAt.gr (CellsAt.new w1 23 #[.int .i64 t.re, .int .i64 t.im]) g2
  have lt_2 := CellsAt.lt (Ft_2)
  have z2 := ((z1).alloc _ _).trans g2
  clear g2
  have ct0 := CellsAt.cell (Ft_2) 0
  have ct1 := CellsAt.cell (Ft_2) 1
  simp only [List.getElem?_toArray, List.getElem?_cons_zero, List.getElem?_cons_succ] at ct0 ct1
  go_wp2_with fail
  clear ct0 ct1
  refine (HP.out _).mono ?_
  rintro e w3 ⟨rfl, g3⟩
  have Fj_3 := CellsAt.gr ((Fj_2).alloc _) g3
  have lj_3 := CellsAt.lt (Fj_3)
  have Fr_3 := CellsAt.gr ((Fr_2).alloc _) g3
  have lr_3 := CellsAt.lt (Fr_3)
  have Ft_3 := CellsAt.gr ((Ft_2).alloc _) g3
  have lt_3 := CellsAt.lt (Ft_3)
  have Ft3_3 := CellsAt.gr (CellsAt.new w2 23 #[.int .i64 t3.re, .int .i64 t3.im]) g3
  have lt3_3 := CellsAt.lt (Ft3_3)
  have z3 := ((z2).alloc _ _).trans g3
  clear g3
  have ct0 := CellsAt.cell (Ft_3) 0
  have ct1 := CellsAt.cell (Ft_3) 1
  have ct30 := CellsAt.cell (Ft3_3) 0
  have ct31 := CellsAt.cell (Ft3_3) 1
  simp only [List.getElem?_toArray, List.getElem?_cons_zero, List.getElem?_cons_succ] at ct0 ct1 ct30 ct31
  go_wp2_with fail
  clear ct0 ct1 ct30 ct31
  refine (HL.out _).mono ?_
  rintro e w4 ⟨rfl, g4⟩
  have Fj_4 := CellsAt.gr ((Fj_3).alloc _) g4
  have lj_4 := CellsAt.lt (Fj_4)
  have Fr_4 := CellsAt.gr ((Fr_3).alloc _) g4
  have lr_4 := CellsAt.lt (Fr_4)
  have Ft_4 := CellsAt.gr ((Ft_3).alloc _) g4
  have lt_4 := CellsAt.lt (Ft_4)
  have Ft3_4 := CellsAt.gr ((Ft3_3).alloc _) g4
  have lt3_4 := CellsAt.lt (Ft3_4)
  have Fp_4 := CellsAt.gr (CellsAt.new w3 23 #[.int .i64 p.re, .int .i64 p.im]) g4
  have lp_4 := CellsAt.lt (Fp_4)
  have z4 := ((z3).alloc _ _).trans g4
  clear g4
  go_wp2_with fail
  refine (HN.out _).mono ?_
  rintro e w5 ⟨rfl, g5⟩
  have Fj_5 := CellsAt.gr ((Fj_4).alloc _) g5
  have lj_5 := CellsAt.lt (Fj_5)
  have Fr_5 := CellsAt.gr ((Fr_4).alloc _) g5
  have lr_5 := CellsAt.lt (Fr_5)
  have Fp_5 := CellsAt.gr ((Fp_4).alloc _) g5
  have lp_5 := CellsAt.lt (Fp_5)
  have Fd_5 := CellsAt.gr (CellsAt.new w4 23 #[.int .i64 d.re, .int .i64 d.im]) g5
  have ld_5 := CellsAt.lt (Fd_5)
  have z5 := ((z4).alloc _ _).trans g5
  clear g5
  have cj0 := CellsAt.cell (Fj_5) 0
  have cj1 := CellsAt.cell (Fj_5) 1
  have cj2 := CellsAt.cell (Fj_5) 2
  have cj3 := CellsAt.cell (Fj_5) 3
  have cj4 := CellsAt.cell (Fj_5) 4
  have cj5 := CellsAt.cell (Fj_5) 5
  have cj6 := CellsAt.cell (Fj_5) 6
  have cj7 := CellsAt.cell (Fj_5) 7
  have cj8 := CellsAt.cell (Fj_5) 8
  have cj9 := CellsAt.cell (Fj_5) 9
  have cj10 := CellsAt.cell (Fj_5) 10
  have cj11 := CellsAt.cell (Fj_5) 11
  simp only [List.getElem?_toArray, List.getElem?_cons_zero, List.getElem?_cons_succ] at cj0 cj1 cj2 cj3 cj4 cj5 cj6 cj7 cj8 cj9 cj10 cj11
  have md0 := CellsAt.frozen (Fd_5) 0
  have cd0 := CellsAt.cell (Fd_5) 0
  simp only [List.getElem?_toArray, List.getElem?_cons_zero, List.getElem?_cons_succ] at cd0
  have md1 := CellsAt.frozen (Fd_5) 1
  have cd1 := CellsAt.cell (Fd_5) 1
  simp only [List.getElem?_toArray, List.getElem?_cons_zero, List.getElem?_cons_succ] at cd1
  go_wp2_with fail
  clear cj0 cj1 cj2 cj3 cj4 cj5 cj6 cj7 cj8 cj9 cj10 cj11 md0 cd0 md1 cd1
  refine (HU.out _).mono ?_
  rintro e w6 ⟨rfl, g6⟩
  have Fj_6 := CellsAt.gr (((Fj_5).other (by omega) _ _).other (by omega) _ _) g6
  have lj_6 := CellsAt.lt (Fj_6)
  have Fr_6 := CellsAt.gr (((Fr_5).other (by omega) _ _).other (by omega) _ _) g6
  have lr_6 := CellsAt.lt (Fr_6)
  have Fp_6 := CellsAt.gr (((Fp_5).other (by omega) _ _).other (by omega) _ _) g6
  have lp_6 := CellsAt.lt (Fp_6)
  have Fd_6 := CellsAt.gr (CellsAt.set2 (Fd_5) _ _) g6
  have ld_6 := CellsAt.lt (Fd_6)
  have z6 := (((z5).setCell (by first | omega | (simp only; omega)) _).setCell (by first | omega | (simp only; omega)) _).trans g6
  clear g6
  have cj0 := CellsAt.cell (Fj_6) 0
  have cj1 := CellsAt.cell (Fj_6) 1
  have cj2 := CellsAt.cell (Fj_6) 2
  have cj3 := CellsAt.cell (Fj_6) 3
  have cj4 := CellsAt.cell (Fj_6) 4
  have cj5 := CellsAt.cell (Fj_6) 5
  have cj6 := CellsAt.cell (Fj_6) 6
  have cj7 := CellsAt.cell (Fj_6) 7
  have cj8 := CellsAt.cell (Fj_6) 8
  have cj9 := CellsAt.cell (Fj_6) 9
  have cj10 := CellsAt.cell (Fj_6) 10
  have cj11 := CellsAt.cell (Fj_6) 11
  simp only [List.getElem?_toArray, List.getElem?_cons_zero, List.getElem?_cons_succ] at cj0 cj1 cj2 cj3 cj4 cj5 cj6 cj7 cj8 cj9 cj10 cj11
  go_wp2_with fail
  clear cj0 cj1 cj2 cj3 cj4 cj5 cj6 cj7 cj8 cj9 cj10 cj11
  refine (HV.out _).mono ?_
  rintro e w7 ⟨rfl, g7⟩
  have Fj_7 := CellsAt.gr ((Fj_6).alloc _) g7
  have lj_7 := CellsAt.lt (Fj_7)
  have Fr_7 := CellsAt.gr ((Fr_6).alloc _) g7
  have lr_7 := CellsAt.lt (Fr_7)
  have Fp_7 := CellsAt.gr ((Fp_6).alloc _) g7
  have lp_7 := CellsAt.lt (Fp_7)
  have Fd_7 := CellsAt.gr ((Fd_6).alloc _) g7
  have ld_7 := CellsAt.lt (Fd_7)
  have Fs_7 := CellsAt.gr (CellsAt.new w6 23 #[.int .i64 U.re, .int .i64 U.im]) g7
  have ls_7 := CellsAt.lt (Fs_7)
  have z7 := ((z6).alloc _ _).trans g7
  clear g7
  have cd0 := CellsAt.cell (Fd_7) 0
  have cd1 := CellsAt.cell (Fd_7) 1
  have cp0 := CellsAt.cell (Fp_7) 0
  have cp1 := CellsAt.cell (Fp_7) 1
  have cs0 := CellsAt.cell (Fs_7) 0
  have cs1 := CellsAt.cell (Fs_7) 1
  simp only [List.getElem?_toArray, List.getElem?_cons_zero, List.getElem?_cons_succ] at cd0 cd1 cp0 cp1 cs0 cs1
  have ms0 := CellsAt.frozen (Fs_7) 0
  have ms1 := CellsAt.frozen (Fs_7) 1
  have mp0 := CellsAt.frozen (Fp_7) 0
  have mp1 := CellsAt.frozen (Fp_7) 1
  go_wp2_with fail
  clear cd0 cd1 cp0 cp1 cs0 cs1 ms0 ms1 mp0 mp1
  refine (HS.out _).mono ?_
  rintro e w8 ⟨rfl, g8⟩
  have Fr_8 := CellsAt.gr (((((Fr_7).other (by omega) _ _).other (by omega) _ _).other (by omega) _ _).other (by omega) _ _) g8
  have lr_8 := CellsAt.lt (Fr_8)
  have Fp_8 := CellsAt.gr (CellsAt.set2 (((Fp_7).other (by omega) _ _).other (by omega) _ _) _ _) g8
  have lp_8 := CellsAt.lt (Fp_8)
  have Fd_8 := CellsAt.gr (((((Fd_7).other (by omega) _ _).other (by omega) _ _).other (by omega) _ _).other (by omega) _ _) g8
  have ld_8 := CellsAt.lt (Fd_8)
  have Fs_8 := CellsAt.gr (((CellsAt.set2 (Fs_7) _ _).other (by omega) _ _).other (by omega) _ _) g8
  have ls_8 := CellsAt.lt (Fs_8)
  have z8 := (((((z7).setCell (by first | omega | (simp only; omega)) _).setCell (by first | omega | (simp only; omega)) _).setCell (by first | omega | (simp only; omega)) _).setCell (by first | omega | (simp only; omega)) _).trans g8
  clear g8
  have mr0 := CellsAt.frozen (Fr_8) 0
  have cr0 := CellsAt.cell (Fr_8) 0
  simp only [List.getElem?_toArray, List.getElem?_cons_zero, List.getElem?_cons_succ] at cr0
  have mr1 := CellsAt.frozen (Fr_8) 1
  have cr1 := CellsAt.cell (Fr_8) 1
  simp only [List.getElem?_toArray, List.getElem?_cons_zero, List.getElem?_cons_succ] at cr1
  go_wp2_with fail
  clear mr0 cr0 mr1 cr1
  refine (HF.out _).mono ?_
  rintro e w9 ⟨rfl, g9⟩
  have Fr_9 := CellsAt.gr (Fr_8) g9
  have lr_9 := CellsAt.lt (Fr_9)
  have z9 := (z8).trans g9
  clear Fr_8 z8 g9
  have mr0 := CellsAt.frozen (Fr_9) 0
  have cr0 := CellsAt.cell (Fr_9) 0
  simp only [List.getElem?_toArray, List.getElem?_cons_zero, List.getElem?_cons_succ] at cr0
  have mr1 := CellsAt.frozen (Fr_9) 1
  have cr1 := CellsAt.cell (Fr_9) 1
  simp only [List.getElem?_toArray, List.getElem?_cons_zero, List.getElem?_cons_succ] at cr1
  go_wp2_with fail
  clear mr0 cr0 mr1 cr1
  obtain ⟨uf, hqp1⟩ : ∃ zz, zz = ((w9.setCell ⟨w.heap.size + 1, 0, none⟩ (.int .i64 o.re)).setCell ⟨w.heap.size + 1, 1, none⟩ (.int .i64 o.im)) := ⟨_, rfl⟩
  have Yr_p1 : CellsAt uf (w.heap.size + 1) 23 #[.int .i64 o.re, .int .i64 o.im] := by rw [hqp1]; first | exact CellsAt.set2 (Fr_9) _ _ | simpa using CellsAt.set2 (Fr_9) _ _
  have yp1 : Gr w uf := by rw [hqp1]; exact ((z9).setCell (by first | omega | (simp only; omega)) _).setCell (by first | omega | (simp only; omega)) _
  rw [← hqp1]
  clear hqp1
  have cr0 := CellsAt.cell (Yr_p1) 0
  have cr1 := CellsAt.cell (Yr_p1) 1
  simp only [List.getElem?_toArray, List.getElem?_cons_zero, List.getElem?_cons_succ] at cr0 cr1
  refine bodyPost_ret (v := .agg #[.int .i64 o.re, .int .i64 o.im]) ?_ rfl ⟨rfl, yp1⟩
  simp [results, Try.results26, go_sem, *]

/-- Number q of four that are joined. -/
theorem rJoin12_c (bits : Nat) (mo : Int) (inv : Bool) (q : Nat) (hq : q < 4) (ju jv jy jz ja jc : Gi) (hb : bits ≤ 29) (m0 : 0 ≤ mo) (m1 : mo ≤ 2) (hu : Bd 2147483648 ju) (hv : Bd 2147483648 jv) (hy : Bd 2147483648 jy) (hz : Bd 2147483648 jz) (ha : Bd (2 ^ bits) ja) (hc : Bd (2 ^ bits) jc) (w : World) :
    Calls Try.prog 26 #[.agg #[.int .i64 ju.re, .int .i64 ju.im, .int .i64 jv.re, .int .i64 jv.im, .int .i64 jy.re, .int .i64 jy.im, .int .i64 jz.re, .int .i64 jz.im, .int .i64 ja.re, .int .i64 ja.im, .int .i64 jc.re, .int .i64 jc.im], .int .i64 (q : Int), .int .i64 bits, .int .i64 mo, .bool inv] w fun e w' => e = .returned (.agg #[.int .i64 (joinG bits mo inv q ju jv jy jz ja jc).re, .int .i64 (joinG bits mo inv q ju jv jy jz ja jc).im]) ∧ Gr w w' := by
  have hp := pow29 bits hb
  have hP : (2 : Int) ^ (bits + 1) = 2 * 2 ^ bits := by rw [Int.pow_succ]; omega
  have t1 := Bd.mul hy ha
  have t3 := Bd.mul hz hc
  have lt : 2 * (2147483648 * (2 : Int) ^ bits) ≤ 2305843009213693952 := by omega
  have t1' := t1.mono lt
  have t3' := t3.mono lt
  have hU := (Bd.scale hu (bits + 1)).mono (show 2147483648 * (2 : Int) ^ (bits + 1) ≤ 2305843009213693952 by omega)
  have hV := (Bd.scale hv (bits + 1)).mono (show 2147483648 * (2 : Int) ^ (bits + 1) ≤ 2305843009213693952 by omega)
  have l1 := t1'.le
  have l3 := t3'.le
  have lU := hU.le
  have lV := hV.le
  have lp : Bd 4611686018427387904 (gadd (gmul jy ja) (gmul jz jc)) := (t1'.add t3').mono (by omega)
  have hd : Bd 4611686018427387904 (gsub (gmul jy ja) (gmul jz jc)) := Bd.mk (by unfold gsub; simp only; omega)
  have hdt := (hd.turn (turns1 inv 1))
  have ld := hd.le
  have ldt := hdt.le
  have lpp := lp.le
  have E1 := Lib.hid (show wrap64 ((bits : Int) + 1) = ((bits + 1 : Nat) : Int) by rw [IntWalk.wrap64_in _ ⟨by omega, by omega⟩]; omega)
  have E2 := Lib.hid (show wrap64 ((bits : Int) + 2) = ((bits + 2 : Nat) : Int) by rw [IntWalk.wrap64_in _ ⟨by omega, by omega⟩]; omega)
  have HT := Lib.hid (rtimes_gi jy ja hy (ha.mono (show (2 : Int) ^ bits ≤ 1073741824 by omega)))
  have HT3 := Lib.hid (rtimes_gi jz jc hz (hc.mono (show (2 : Int) ^ bits ≤ 1073741824 by omega)))
  have HP := Lib.hid (rsum_gi (gmul jy ja) (gmul jz jc) (by omega) (by omega))
  have HL := Lib.hid (rless_gi (gmul jy ja) (gmul jz jc) (by omega) (by omega))
  have HN := Lib.hid (rturn12_gi (gsub (gmul jy ja) (gmul jz jc)) (turns1 inv 1) (by omega))
  have HU := Lib.hid (scale12_c ju (bits + 1) (by omega) hu)
  have HV := Lib.hid (scale12_c jv (bits + 1) (by omega) hv)
  have sh : ∀ x : Gi, Bd 9000000000000000000 x → ∀ W, Calls Try.prog 36 #[.agg #[.int .i64 (x).re, .int .i64 (x).im], .int .i64 ((bits + 2 : Nat) : Int), .int .i64 mo] W fun e w' => e = .returned (.agg #[.int .i64 (grnd (bits + 2) mo x).re, .int .i64 (grnd (bits + 2) mo x).im]) ∧ Gr W w' := fun x hx W => by
    have := hx.le
    exact rshift03_gi x (bits + 2) mo (by omega) (by omega) m0 m1 W
  have hsub : ∀ a b : Gi, Bd 2305843009213693952 a → Bd 4611686018427387904 b → Bd 9000000000000000000 (gsub a b) := fun a b ha hb => by
    have h1 := ha.le
    have h2 := hb.le
    exact Bd.mk (by unfold gsub; simp only; omega)
  have hc4 : q = 0 ∨ q = 1 ∨ q = 2 ∨ q = 3 := by omega
  cases inv
  · rcases hc4 with rfl | rfl | rfl | rfl
    · exact rJoin_false_0_of bits mo _ _ ju jv jy jz ja jc _ _ _ _ _ _ _ _ _ E1.out E2.out HT HT3 HP HL HN HU HV (Lib.hid (rsum_gi _ _ (by omega) (by omega))) (Lib.hid (sh _ ((hU.add lp).mono (by omega)))) w
    · exact rJoin_false_1_of bits mo _ _ ju jv jy jz ja jc _ _ _ _ _ _ _ _ _ E1.out E2.out HT HT3 HP HL HN HU HV (Lib.hid (rsum_gi _ _ (by omega) (by omega))) (Lib.hid (sh _ ((hV.add hdt).mono (by omega)))) w
    · exact rJoin_false_2_of bits mo _ _ ju jv jy jz ja jc _ _ _ _ _ _ _ _ _ E1.out E2.out HT HT3 HP HL HN HU HV (Lib.hid (rless_gi _ _ (by omega) (by omega))) (Lib.hid (sh _ (hsub _ _ hU lp))) w
    · exact rJoin_false_3_of bits mo _ _ ju jv jy jz ja jc _ _ _ _ _ _ _ _ _ E1.out E2.out HT HT3 HP HL HN HU HV (Lib.hid (rless_gi _ _ (by omega) (by omega))) (Lib.hid (sh _ (hsub _ _ hV hdt))) w
  · rcases hc4 with rfl | rfl | rfl | rfl
    · exact rJoin_true_0_of bits mo _ _ ju jv jy jz ja jc _ _ _ _ _ _ _ _ _ E1.out E2.out HT HT3 HP HL HN HU HV (Lib.hid (rsum_gi _ _ (by omega) (by omega))) (Lib.hid (sh _ ((hU.add lp).mono (by omega)))) w
    · exact rJoin_true_1_of bits mo _ _ ju jv jy jz ja jc _ _ _ _ _ _ _ _ _ E1.out E2.out HT HT3 HP HL HN HU HV (Lib.hid (rsum_gi _ _ (by omega) (by omega))) (Lib.hid (sh _ ((hV.add hdt).mono (by omega)))) w
    · exact rJoin_true_2_of bits mo _ _ ju jv jy jz ja jc _ _ _ _ _ _ _ _ _ E1.out E2.out HT HT3 HP HL HN HU HV (Lib.hid (rless_gi _ _ (by omega) (by omega))) (Lib.hid (sh _ (hsub _ _ hU lp))) w
    · exact rJoin_true_3_of bits mo _ _ ju jv jy jz ja jc _ _ _ _ _ _ _ _ _ E1.out E2.out HT HT3 HP HL HN HU HV (Lib.hid (rless_gi _ _ (by omega) (by omega))) (Lib.hid (sh _ (hsub _ _ hV hdt))) w


set_option maxHeartbeats 2000000 in
theorem rJoins_no_0 (b P : Int) (ju jv jy jz ja jc : Gi) (HP31 : Hid (∀ W, Calls Try.prog 14 #[.int .i64 31] W fun e w' => e = .returned (.int .i64 2147483648) ∧ Gr W w')) (Hu : Hid (∀ W, Calls Try.prog 13 #[.agg #[.int .i64 (ju).re, .int .i64 (ju).im], .int .i64 2147483648] W fun e w' => e = .returned (.bool false) ∧ Gr W w')) (w : World) :
    Calls Try.prog 25 #[.agg #[.int .i64 ju.re, .int .i64 ju.im, .int .i64 jv.re, .int .i64 jv.im, .int .i64 jy.re, .int .i64 jy.im, .int .i64 jz.re, .int .i64 jz.im, .int .i64 ja.re, .int .i64 ja.im, .int .i64 jc.re, .int .i64 jc.im], .int .i64 b] w fun e w' => e = .returned (.bool false) ∧ Gr w w' := by
  go_enter Try.func25, Try.ntmps25
  go_wp2_with fail
  obtain ⟨u0, hU⟩ : ∃ uu, uu = (w.alloc (.cells #[.int .i64 ju.re, .int .i64 ju.im, .int .i64 jv.re, .int .i64 jv.im, .int .i64 jy.re, .int .i64 jy.im, .int .i64 jz.re, .int .i64 jz.im, .int .i64 ja.re, .int .i64 ja.im, .int .i64 jc.re, .int .i64 jc.im] 47)) := ⟨_, rfl⟩
  have gu : Gr w u0 := by rw [hU]; exact (Gr.refl w).alloc _ _
  have R0 : CellsAt u0 (w.heap.size) 47 #[.int .i64 ju.re, .int .i64 ju.im, .int .i64 jv.re, .int .i64 jv.im, .int .i64 jy.re, .int .i64 jy.im, .int .i64 jz.re, .int .i64 jz.im, .int .i64 ja.re, .int .i64 ja.im, .int .i64 jc.re, .int .i64 jc.im] := by
    rw [hU]
    have := (CellsAt.new w 47 #[.int .i64 ju.re, .int .i64 ju.im, .int .i64 jv.re, .int .i64 jv.im, .int .i64 jy.re, .int .i64 jy.im, .int .i64 jz.re, .int .i64 jz.im, .int .i64 ja.re, .int .i64 ja.im, .int .i64 jc.re, .int .i64 jc.im])
    simpa only [World.size_alloc] using this
  rw [← hU]
  clear hU
  have lj := R0.lt
  refine (HP31.out _).mono ?_
  rintro e w1 ⟨rfl, g1⟩
  have Fj_1 := CellsAt.gr (R0) g1
  have lj_1 := CellsAt.lt (Fj_1)
  have z1 := (gu).trans g1
  clear R0 gu g1
  have cj0 := CellsAt.cell (Fj_1) 0
  have cj1 := CellsAt.cell (Fj_1) 1
  have cj2 := CellsAt.cell (Fj_1) 2
  have cj3 := CellsAt.cell (Fj_1) 3
  have cj4 := CellsAt.cell (Fj_1) 4
  have cj5 := CellsAt.cell (Fj_1) 5
  have cj6 := CellsAt.cell (Fj_1) 6
  have cj7 := CellsAt.cell (Fj_1) 7
  have cj8 := CellsAt.cell (Fj_1) 8
  have cj9 := CellsAt.cell (Fj_1) 9
  have cj10 := CellsAt.cell (Fj_1) 10
  have cj11 := CellsAt.cell (Fj_1) 11
  simp only [List.getElem?_toArray, List.getElem?_cons_zero, List.getElem?_cons_succ] at cj0 cj1 cj2 cj3 cj4 cj5 cj6 cj7 cj8 cj9 cj10 cj11
  go_wp2_with fail
  clear cj0 cj1 cj2 cj3 cj4 cj5 cj6 cj7 cj8 cj9 cj10 cj11
  refine (Hu.out _).mono ?_
  rintro e w2 ⟨rfl, g2⟩
  have Fj_2 := CellsAt.gr (Fj_1) g2
  have lj_2 := CellsAt.lt (Fj_2)
  have z2 := (z1).trans g2
  clear Fj_1 z1 g2
  go_wp2_with fail
  go_ret
  exact ⟨rfl, z2⟩

set_option maxHeartbeats 2000000 in
theorem rJoins_no_1 (b P : Int) (ju jv jy jz ja jc : Gi) (HP31 : Hid (∀ W, Calls Try.prog 14 #[.int .i64 31] W fun e w' => e = .returned (.int .i64 2147483648) ∧ Gr W w')) (Hu : Hid (∀ W, Calls Try.prog 13 #[.agg #[.int .i64 (ju).re, .int .i64 (ju).im], .int .i64 2147483648] W fun e w' => e = .returned (.bool true) ∧ Gr W w')) (Hv : Hid (∀ W, Calls Try.prog 13 #[.agg #[.int .i64 (jv).re, .int .i64 (jv).im], .int .i64 2147483648] W fun e w' => e = .returned (.bool false) ∧ Gr W w')) (w : World) :
    Calls Try.prog 25 #[.agg #[.int .i64 ju.re, .int .i64 ju.im, .int .i64 jv.re, .int .i64 jv.im, .int .i64 jy.re, .int .i64 jy.im, .int .i64 jz.re, .int .i64 jz.im, .int .i64 ja.re, .int .i64 ja.im, .int .i64 jc.re, .int .i64 jc.im], .int .i64 b] w fun e w' => e = .returned (.bool false) ∧ Gr w w' := by
  go_enter Try.func25, Try.ntmps25
  go_wp2_with fail
  obtain ⟨u0, hU⟩ : ∃ uu, uu = (w.alloc (.cells #[.int .i64 ju.re, .int .i64 ju.im, .int .i64 jv.re, .int .i64 jv.im, .int .i64 jy.re, .int .i64 jy.im, .int .i64 jz.re, .int .i64 jz.im, .int .i64 ja.re, .int .i64 ja.im, .int .i64 jc.re, .int .i64 jc.im] 47)) := ⟨_, rfl⟩
  have gu : Gr w u0 := by rw [hU]; exact (Gr.refl w).alloc _ _
  have R0 : CellsAt u0 (w.heap.size) 47 #[.int .i64 ju.re, .int .i64 ju.im, .int .i64 jv.re, .int .i64 jv.im, .int .i64 jy.re, .int .i64 jy.im, .int .i64 jz.re, .int .i64 jz.im, .int .i64 ja.re, .int .i64 ja.im, .int .i64 jc.re, .int .i64 jc.im] := by
    rw [hU]
    have := (CellsAt.new w 47 #[.int .i64 ju.re, .int .i64 ju.im, .int .i64 jv.re, .int .i64 jv.im, .int .i64 jy.re, .int .i64 jy.im, .int .i64 jz.re, .int .i64 jz.im, .int .i64 ja.re, .int .i64 ja.im, .int .i64 jc.re, .int .i64 jc.im])
    simpa only [World.size_alloc] using this
  rw [← hU]
  clear hU
  have lj := R0.lt
  refine (HP31.out _).mono ?_
  rintro e w1 ⟨rfl, g1⟩
  have Fj_1 := CellsAt.gr (R0) g1
  have lj_1 := CellsAt.lt (Fj_1)
  have z1 := (gu).trans g1
  clear R0 gu g1
  have cj0 := CellsAt.cell (Fj_1) 0
  have cj1 := CellsAt.cell (Fj_1) 1
  have cj2 := CellsAt.cell (Fj_1) 2
  have cj3 := CellsAt.cell (Fj_1) 3
  have cj4 := CellsAt.cell (Fj_1) 4
  have cj5 := CellsAt.cell (Fj_1) 5
  have cj6 := CellsAt.cell (Fj_1) 6
  have cj7 := CellsAt.cell (Fj_1) 7
  have cj8 := CellsAt.cell (Fj_1) 8
  have cj9 := CellsAt.cell (Fj_1) 9
  have cj10 := CellsAt.cell (Fj_1) 10
  have cj11 := CellsAt.cell (Fj_1) 11
  simp only [List.getElem?_toArray, List.getElem?_cons_zero, List.getElem?_cons_succ] at cj0 cj1 cj2 cj3 cj4 cj5 cj6 cj7 cj8 cj9 cj10 cj11
  go_wp2_with fail
  clear cj0 cj1 cj2 cj3 cj4 cj5 cj6 cj7 cj8 cj9 cj10 cj11
  refine (Hu.out _).mono ?_
  rintro e w2 ⟨rfl, g2⟩
  have Fj_2 := CellsAt.gr (Fj_1) g2
  have lj_2 := CellsAt.lt (Fj_2)
  have z2 := (z1).trans g2
  clear Fj_1 z1 g2
  have cj0 := CellsAt.cell (Fj_2) 0
  have cj1 := CellsAt.cell (Fj_2) 1
  have cj2 := CellsAt.cell (Fj_2) 2
  have cj3 := CellsAt.cell (Fj_2) 3
  have cj4 := CellsAt.cell (Fj_2) 4
  have cj5 := CellsAt.cell (Fj_2) 5
  have cj6 := CellsAt.cell (Fj_2) 6
  have cj7 := CellsAt.cell (Fj_2) 7
  have cj8 := CellsAt.cell (Fj_2) 8
  have cj9 := CellsAt.cell (Fj_2) 9
  have cj10 := CellsAt.cell (Fj_2) 10
  have cj11 := CellsAt.cell (Fj_2) 11
  simp only [List.getElem?_toArray, List.getElem?_cons_zero, List.getElem?_cons_succ] at cj0 cj1 cj2 cj3 cj4 cj5 cj6 cj7 cj8 cj9 cj10 cj11
  go_wp2_with fail
  clear cj0 cj1 cj2 cj3 cj4 cj5 cj6 cj7 cj8 cj9 cj10 cj11
  refine (Hv.out _).mono ?_
  rintro e w3 ⟨rfl, g3⟩
  have Fj_3 := CellsAt.gr (Fj_2) g3
  have lj_3 := CellsAt.lt (Fj_3)
  have z3 := (z2).trans g3
  clear Fj_2 z2 g3
  go_wp2_with fail
  go_ret
  exact ⟨rfl, z3⟩

set_option maxHeartbeats 2000000 in
theorem rJoins_no_2 (b P : Int) (ju jv jy jz ja jc : Gi) (HP31 : Hid (∀ W, Calls Try.prog 14 #[.int .i64 31] W fun e w' => e = .returned (.int .i64 2147483648) ∧ Gr W w')) (Hu : Hid (∀ W, Calls Try.prog 13 #[.agg #[.int .i64 (ju).re, .int .i64 (ju).im], .int .i64 2147483648] W fun e w' => e = .returned (.bool true) ∧ Gr W w')) (Hv : Hid (∀ W, Calls Try.prog 13 #[.agg #[.int .i64 (jv).re, .int .i64 (jv).im], .int .i64 2147483648] W fun e w' => e = .returned (.bool true) ∧ Gr W w')) (Hy : Hid (∀ W, Calls Try.prog 13 #[.agg #[.int .i64 (jy).re, .int .i64 (jy).im], .int .i64 2147483648] W fun e w' => e = .returned (.bool false) ∧ Gr W w')) (w : World) :
    Calls Try.prog 25 #[.agg #[.int .i64 ju.re, .int .i64 ju.im, .int .i64 jv.re, .int .i64 jv.im, .int .i64 jy.re, .int .i64 jy.im, .int .i64 jz.re, .int .i64 jz.im, .int .i64 ja.re, .int .i64 ja.im, .int .i64 jc.re, .int .i64 jc.im], .int .i64 b] w fun e w' => e = .returned (.bool false) ∧ Gr w w' := by
  go_enter Try.func25, Try.ntmps25
  go_wp2_with fail
  obtain ⟨u0, hU⟩ : ∃ uu, uu = (w.alloc (.cells #[.int .i64 ju.re, .int .i64 ju.im, .int .i64 jv.re, .int .i64 jv.im, .int .i64 jy.re, .int .i64 jy.im, .int .i64 jz.re, .int .i64 jz.im, .int .i64 ja.re, .int .i64 ja.im, .int .i64 jc.re, .int .i64 jc.im] 47)) := ⟨_, rfl⟩
  have gu : Gr w u0 := by rw [hU]; exact (Gr.refl w).alloc _ _
  have R0 : CellsAt u0 (w.heap.size) 47 #[.int .i64 ju.re, .int .i64 ju.im, .int .i64 jv.re, .int .i64 jv.im, .int .i64 jy.re, .int .i64 jy.im, .int .i64 jz.re, .int .i64 jz.im, .int .i64 ja.re, .int .i64 ja.im, .int .i64 jc.re, .int .i64 jc.im] := by
    rw [hU]
    have := (CellsAt.new w 47 #[.int .i64 ju.re, .int .i64 ju.im, .int .i64 jv.re, .int .i64 jv.im, .int .i64 jy.re, .int .i64 jy.im, .int .i64 jz.re, .int .i64 jz.im, .int .i64 ja.re, .int .i64 ja.im, .int .i64 jc.re, .int .i64 jc.im])
    simpa only [World.size_alloc] using this
  rw [← hU]
  clear hU
  have lj := R0.lt
  refine (HP31.out _).mono ?_
  rintro e w1 ⟨rfl, g1⟩
  have Fj_1 := CellsAt.gr (R0) g1
  have lj_1 := CellsAt.lt (Fj_1)
  have z1 := (gu).trans g1
  clear R0 gu g1
  have cj0 := CellsAt.cell (Fj_1) 0
  have cj1 := CellsAt.cell (Fj_1) 1
  have cj2 := CellsAt.cell (Fj_1) 2
  have cj3 := CellsAt.cell (Fj_1) 3
  have cj4 := CellsAt.cell (Fj_1) 4
  have cj5 := CellsAt.cell (Fj_1) 5
  have cj6 := CellsAt.cell (Fj_1) 6
  have cj7 := CellsAt.cell (Fj_1) 7
  have cj8 := CellsAt.cell (Fj_1) 8
  have cj9 := CellsAt.cell (Fj_1) 9
  have cj10 := CellsAt.cell (Fj_1) 10
  have cj11 := CellsAt.cell (Fj_1) 11
  simp only [List.getElem?_toArray, List.getElem?_cons_zero, List.getElem?_cons_succ] at cj0 cj1 cj2 cj3 cj4 cj5 cj6 cj7 cj8 cj9 cj10 cj11
  go_wp2_with fail
  clear cj0 cj1 cj2 cj3 cj4 cj5 cj6 cj7 cj8 cj9 cj10 cj11
  refine (Hu.out _).mono ?_
  rintro e w2 ⟨rfl, g2⟩
  have Fj_2 := CellsAt.gr (Fj_1) g2
  have lj_2 := CellsAt.lt (Fj_2)
  have z2 := (z1).trans g2
  clear Fj_1 z1 g2
  have cj0 := CellsAt.cell (Fj_2) 0
  have cj1 := CellsAt.cell (Fj_2) 1
  have cj2 := CellsAt.cell (Fj_2) 2
  have cj3 := CellsAt.cell (Fj_2) 3
  have cj4 := CellsAt.cell (Fj_2) 4
  have cj5 := CellsAt.cell (Fj_2) 5
  have cj6 := CellsAt.cell (Fj_2) 6
  have cj7 := CellsAt.cell (Fj_2) 7
  have cj8 := CellsAt.cell (Fj_2) 8
  have cj9 := CellsAt.cell (Fj_2) 9
  have cj10 := CellsAt.cell (Fj_2) 10
  have cj11 := CellsAt.cell (Fj_2) 11
  simp only [List.getElem?_toArray, List.getElem?_cons_zero, List.getElem?_cons_succ] at cj0 cj1 cj2 cj3 cj4 cj5 cj6 cj7 cj8 cj9 cj10 cj11
  go_wp2_with fail
  clear cj0 cj1 cj2 cj3 cj4 cj5 cj6 cj7 cj8 cj9 cj10 cj11
  refine (Hv.out _).mono ?_
  rintro e w3 ⟨rfl, g3⟩
  have Fj_3 := CellsAt.gr (Fj_2) g3
  have lj_3 := CellsAt.lt (Fj_3)
  have z3 := (z2).trans g3
  clear Fj_2 z2 g3
  have cj0 := CellsAt.cell (Fj_3) 0
  have cj1 := CellsAt.cell (Fj_3) 1
  have cj2 := CellsAt.cell (Fj_3) 2
  have cj3 := CellsAt.cell (Fj_3) 3
  have cj4 := CellsAt.cell (Fj_3) 4
  have cj5 := CellsAt.cell (Fj_3) 5
  have cj6 := CellsAt.cell (Fj_3) 6
  have cj7 := CellsAt.cell (Fj_3) 7
  have cj8 := CellsAt.cell (Fj_3) 8
  have cj9 := CellsAt.cell (Fj_3) 9
  have cj10 := CellsAt.cell (Fj_3) 10
  have cj11 := CellsAt.cell (Fj_3) 11
  simp only [List.getElem?_toArray, List.getElem?_cons_zero, List.getElem?_cons_succ] at cj0 cj1 cj2 cj3 cj4 cj5 cj6 cj7 cj8 cj9 cj10 cj11
  go_wp2_with fail
  clear cj0 cj1 cj2 cj3 cj4 cj5 cj6 cj7 cj8 cj9 cj10 cj11
  refine (Hy.out _).mono ?_
  rintro e w4 ⟨rfl, g4⟩
  have Fj_4 := CellsAt.gr (Fj_3) g4
  have lj_4 := CellsAt.lt (Fj_4)
  have z4 := (z3).trans g4
  clear Fj_3 z3 g4
  go_wp2_with fail
  go_ret
  exact ⟨rfl, z4⟩

set_option maxHeartbeats 2000000 in
theorem rJoins_no_3 (b P : Int) (ju jv jy jz ja jc : Gi) (HP31 : Hid (∀ W, Calls Try.prog 14 #[.int .i64 31] W fun e w' => e = .returned (.int .i64 2147483648) ∧ Gr W w')) (Hu : Hid (∀ W, Calls Try.prog 13 #[.agg #[.int .i64 (ju).re, .int .i64 (ju).im], .int .i64 2147483648] W fun e w' => e = .returned (.bool true) ∧ Gr W w')) (Hv : Hid (∀ W, Calls Try.prog 13 #[.agg #[.int .i64 (jv).re, .int .i64 (jv).im], .int .i64 2147483648] W fun e w' => e = .returned (.bool true) ∧ Gr W w')) (Hy : Hid (∀ W, Calls Try.prog 13 #[.agg #[.int .i64 (jy).re, .int .i64 (jy).im], .int .i64 2147483648] W fun e w' => e = .returned (.bool true) ∧ Gr W w')) (Hz : Hid (∀ W, Calls Try.prog 13 #[.agg #[.int .i64 (jz).re, .int .i64 (jz).im], .int .i64 2147483648] W fun e w' => e = .returned (.bool false) ∧ Gr W w')) (w : World) :
    Calls Try.prog 25 #[.agg #[.int .i64 ju.re, .int .i64 ju.im, .int .i64 jv.re, .int .i64 jv.im, .int .i64 jy.re, .int .i64 jy.im, .int .i64 jz.re, .int .i64 jz.im, .int .i64 ja.re, .int .i64 ja.im, .int .i64 jc.re, .int .i64 jc.im], .int .i64 b] w fun e w' => e = .returned (.bool false) ∧ Gr w w' := by
  go_enter Try.func25, Try.ntmps25
  go_wp2_with fail
  obtain ⟨u0, hU⟩ : ∃ uu, uu = (w.alloc (.cells #[.int .i64 ju.re, .int .i64 ju.im, .int .i64 jv.re, .int .i64 jv.im, .int .i64 jy.re, .int .i64 jy.im, .int .i64 jz.re, .int .i64 jz.im, .int .i64 ja.re, .int .i64 ja.im, .int .i64 jc.re, .int .i64 jc.im] 47)) := ⟨_, rfl⟩
  have gu : Gr w u0 := by rw [hU]; exact (Gr.refl w).alloc _ _
  have R0 : CellsAt u0 (w.heap.size) 47 #[.int .i64 ju.re, .int .i64 ju.im, .int .i64 jv.re, .int .i64 jv.im, .int .i64 jy.re, .int .i64 jy.im, .int .i64 jz.re, .int .i64 jz.im, .int .i64 ja.re, .int .i64 ja.im, .int .i64 jc.re, .int .i64 jc.im] := by
    rw [hU]
    have := (CellsAt.new w 47 #[.int .i64 ju.re, .int .i64 ju.im, .int .i64 jv.re, .int .i64 jv.im, .int .i64 jy.re, .int .i64 jy.im, .int .i64 jz.re, .int .i64 jz.im, .int .i64 ja.re, .int .i64 ja.im, .int .i64 jc.re, .int .i64 jc.im])
    simpa only [World.size_alloc] using this
  rw [← hU]
  clear hU
  have lj := R0.lt
  refine (HP31.out _).mono ?_
  rintro e w1 ⟨rfl, g1⟩
  have Fj_1 := CellsAt.gr (R0) g1
  have lj_1 := CellsAt.lt (Fj_1)
  have z1 := (gu).trans g1
  clear R0 gu g1
  have cj0 := CellsAt.cell (Fj_1) 0
  have cj1 := CellsAt.cell (Fj_1) 1
  have cj2 := CellsAt.cell (Fj_1) 2
  have cj3 := CellsAt.cell (Fj_1) 3
  have cj4 := CellsAt.cell (Fj_1) 4
  have cj5 := CellsAt.cell (Fj_1) 5
  have cj6 := CellsAt.cell (Fj_1) 6
  have cj7 := CellsAt.cell (Fj_1) 7
  have cj8 := CellsAt.cell (Fj_1) 8
  have cj9 := CellsAt.cell (Fj_1) 9
  have cj10 := CellsAt.cell (Fj_1) 10
  have cj11 := CellsAt.cell (Fj_1) 11
  simp only [List.getElem?_toArray, List.getElem?_cons_zero, List.getElem?_cons_succ] at cj0 cj1 cj2 cj3 cj4 cj5 cj6 cj7 cj8 cj9 cj10 cj11
  go_wp2_with fail
  clear cj0 cj1 cj2 cj3 cj4 cj5 cj6 cj7 cj8 cj9 cj10 cj11
  refine (Hu.out _).mono ?_
  rintro e w2 ⟨rfl, g2⟩
  have Fj_2 := CellsAt.gr (Fj_1) g2
  have lj_2 := CellsAt.lt (Fj_2)
  have z2 := (z1).trans g2
  clear Fj_1 z1 g2
  have cj0 := CellsAt.cell (Fj_2) 0
  have cj1 := CellsAt.cell (Fj_2) 1
  have cj2 := CellsAt.cell (Fj_2) 2
  have cj3 := CellsAt.cell (Fj_2) 3
  have cj4 := CellsAt.cell (Fj_2) 4
  have cj5 := CellsAt.cell (Fj_2) 5
  have cj6 := CellsAt.cell (Fj_2) 6
  have cj7 := CellsAt.cell (Fj_2) 7
  have cj8 := CellsAt.cell (Fj_2) 8
  have cj9 := CellsAt.cell (Fj_2) 9
  have cj10 := CellsAt.cell (Fj_2) 10
  have cj11 := CellsAt.cell (Fj_2) 11
  simp only [List.getElem?_toArray, List.getElem?_cons_zero, List.getElem?_cons_succ] at cj0 cj1 cj2 cj3 cj4 cj5 cj6 cj7 cj8 cj9 cj10 cj11
  go_wp2_with fail
  clear cj0 cj1 cj2 cj3 cj4 cj5 cj6 cj7 cj8 cj9 cj10 cj11
  refine (Hv.out _).mono ?_
  rintro e w3 ⟨rfl, g3⟩
  have Fj_3 := CellsAt.gr (Fj_2) g3
  have lj_3 := CellsAt.lt (Fj_3)
  have z3 := (z2).trans g3
  clear Fj_2 z2 g3
  have cj0 := CellsAt.cell (Fj_3) 0
  have cj1 := CellsAt.cell (Fj_3) 1
  have cj2 := CellsAt.cell (Fj_3) 2
  have cj3 := CellsAt.cell (Fj_3) 3
  have cj4 := CellsAt.cell (Fj_3) 4
  have cj5 := CellsAt.cell (Fj_3) 5
  have cj6 := CellsAt.cell (Fj_3) 6
  have cj7 := CellsAt.cell (Fj_3) 7
  have cj8 := CellsAt.cell (Fj_3) 8
  have cj9 := CellsAt.cell (Fj_3) 9
  have cj10 := CellsAt.cell (Fj_3) 10
  have cj11 := CellsAt.cell (Fj_3) 11
  simp only [List.getElem?_toArray, List.getElem?_cons_zero, List.getElem?_cons_succ] at cj0 cj1 cj2 cj3 cj4 cj5 cj6 cj7 cj8 cj9 cj10 cj11
  go_wp2_with fail
  clear cj0 cj1 cj2 cj3 cj4 cj5 cj6 cj7 cj8 cj9 cj10 cj11
  refine (Hy.out _).mono ?_
  rintro e w4 ⟨rfl, g4⟩
  have Fj_4 := CellsAt.gr (Fj_3) g4
  have lj_4 := CellsAt.lt (Fj_4)
  have z4 := (z3).trans g4
  clear Fj_3 z3 g4
  have cj0 := CellsAt.cell (Fj_4) 0
  have cj1 := CellsAt.cell (Fj_4) 1
  have cj2 := CellsAt.cell (Fj_4) 2
  have cj3 := CellsAt.cell (Fj_4) 3
  have cj4 := CellsAt.cell (Fj_4) 4
  have cj5 := CellsAt.cell (Fj_4) 5
  have cj6 := CellsAt.cell (Fj_4) 6
  have cj7 := CellsAt.cell (Fj_4) 7
  have cj8 := CellsAt.cell (Fj_4) 8
  have cj9 := CellsAt.cell (Fj_4) 9
  have cj10 := CellsAt.cell (Fj_4) 10
  have cj11 := CellsAt.cell (Fj_4) 11
  simp only [List.getElem?_toArray, List.getElem?_cons_zero, List.getElem?_cons_succ] at cj0 cj1 cj2 cj3 cj4 cj5 cj6 cj7 cj8 cj9 cj10 cj11
  go_wp2_with fail
  clear cj0 cj1 cj2 cj3 cj4 cj5 cj6 cj7 cj8 cj9 cj10 cj11
  refine (Hz.out _).mono ?_
  rintro e w5 ⟨rfl, g5⟩
  have Fj_5 := CellsAt.gr (Fj_4) g5
  have lj_5 := CellsAt.lt (Fj_5)
  have z5 := (z4).trans g5
  clear Fj_4 z4 g5
  go_wp2_with fail
  go_ret
  exact ⟨rfl, z5⟩

set_option maxHeartbeats 2000000 in
theorem rJoins_last_false (b P : Int) (ju jv jy jz ja jc : Gi) (HP31 : Hid (∀ W, Calls Try.prog 14 #[.int .i64 31] W fun e w' => e = .returned (.int .i64 2147483648) ∧ Gr W w')) (HPB : Hid (∀ W, Calls Try.prog 14 #[.int .i64 b] W fun e w' => e = .returned (.int .i64 P) ∧ Gr W w')) (Hu : Hid (∀ W, Calls Try.prog 13 #[.agg #[.int .i64 (ju).re, .int .i64 (ju).im], .int .i64 2147483648] W fun e w' => e = .returned (.bool true) ∧ Gr W w')) (Hv : Hid (∀ W, Calls Try.prog 13 #[.agg #[.int .i64 (jv).re, .int .i64 (jv).im], .int .i64 2147483648] W fun e w' => e = .returned (.bool true) ∧ Gr W w')) (Hy : Hid (∀ W, Calls Try.prog 13 #[.agg #[.int .i64 (jy).re, .int .i64 (jy).im], .int .i64 2147483648] W fun e w' => e = .returned (.bool true) ∧ Gr W w')) (Hz : Hid (∀ W, Calls Try.prog 13 #[.agg #[.int .i64 (jz).re, .int .i64 (jz).im], .int .i64 2147483648] W fun e w' => e = .returned (.bool true) ∧ Gr W w')) (Ha : Hid (∀ W, Calls Try.prog 13 #[.agg #[.int .i64 (ja).re, .int .i64 (ja).im], .int .i64 P] W fun e w' => e = .returned (.bool false) ∧ Gr W w'))  (w : World) :
    Calls Try.prog 25 #[.agg #[.int .i64 ju.re, .int .i64 ju.im, .int .i64 jv.re, .int .i64 jv.im, .int .i64 jy.re, .int .i64 jy.im, .int .i64 jz.re, .int .i64 jz.im, .int .i64 ja.re, .int .i64 ja.im, .int .i64 jc.re, .int .i64 jc.im], .int .i64 b] w fun e w' => e = .returned (.bool false) ∧ Gr w w' := by
  go_enter Try.func25, Try.ntmps25
  go_wp2_with fail
  obtain ⟨u0, hU⟩ : ∃ uu, uu = (w.alloc (.cells #[.int .i64 ju.re, .int .i64 ju.im, .int .i64 jv.re, .int .i64 jv.im, .int .i64 jy.re, .int .i64 jy.im, .int .i64 jz.re, .int .i64 jz.im, .int .i64 ja.re, .int .i64 ja.im, .int .i64 jc.re, .int .i64 jc.im] 47)) := ⟨_, rfl⟩
  have gu : Gr w u0 := by rw [hU]; exact (Gr.refl w).alloc _ _
  have R0 : CellsAt u0 (w.heap.size) 47 #[.int .i64 ju.re, .int .i64 ju.im, .int .i64 jv.re, .int .i64 jv.im, .int .i64 jy.re, .int .i64 jy.im, .int .i64 jz.re, .int .i64 jz.im, .int .i64 ja.re, .int .i64 ja.im, .int .i64 jc.re, .int .i64 jc.im] := by
    rw [hU]
    have := (CellsAt.new w 47 #[.int .i64 ju.re, .int .i64 ju.im, .int .i64 jv.re, .int .i64 jv.im, .int .i64 jy.re, .int .i64 jy.im, .int .i64 jz.re, .int .i64 jz.im, .int .i64 ja.re, .int .i64 ja.im, .int .i64 jc.re, .int .i64 jc.im])
    simpa only [World.size_alloc] using this
  rw [← hU]
  clear hU
  have lj := R0.lt
  refine (HP31.out _).mono ?_
  rintro e w1 ⟨rfl, g1⟩
  have Fj_1 := CellsAt.gr (R0) g1
  have lj_1 := CellsAt.lt (Fj_1)
  have z1 := (gu).trans g1
  clear R0 gu g1
  have cj0 := CellsAt.cell (Fj_1) 0
  have cj1 := CellsAt.cell (Fj_1) 1
  have cj2 := CellsAt.cell (Fj_1) 2
  have cj3 := CellsAt.cell (Fj_1) 3
  have cj4 := CellsAt.cell (Fj_1) 4
  have cj5 := CellsAt.cell (Fj_1) 5
  have cj6 := CellsAt.cell (Fj_1) 6
  have cj7 := CellsAt.cell (Fj_1) 7
  have cj8 := CellsAt.cell (Fj_1) 8
  have cj9 := CellsAt.cell (Fj_1) 9
  have cj10 := CellsAt.cell (Fj_1) 10
  have cj11 := CellsAt.cell (Fj_1) 11
  simp only [List.getElem?_toArray, List.getElem?_cons_zero, List.getElem?_cons_succ] at cj0 cj1 cj2 cj3 cj4 cj5 cj6 cj7 cj8 cj9 cj10 cj11
  go_wp2_with fail
  clear cj0 cj1 cj2 cj3 cj4 cj5 cj6 cj7 cj8 cj9 cj10 cj11
  refine (Hu.out _).mono ?_
  rintro e w2 ⟨rfl, g2⟩
  have Fj_2 := CellsAt.gr (Fj_1) g2
  have lj_2 := CellsAt.lt (Fj_2)
  have z2 := (z1).trans g2
  clear Fj_1 z1 g2
  have cj0 := CellsAt.cell (Fj_2) 0
  have cj1 := CellsAt.cell (Fj_2) 1
  have cj2 := CellsAt.cell (Fj_2) 2
  have cj3 := CellsAt.cell (Fj_2) 3
  have cj4 := CellsAt.cell (Fj_2) 4
  have cj5 := CellsAt.cell (Fj_2) 5
  have cj6 := CellsAt.cell (Fj_2) 6
  have cj7 := CellsAt.cell (Fj_2) 7
  have cj8 := CellsAt.cell (Fj_2) 8
  have cj9 := CellsAt.cell (Fj_2) 9
  have cj10 := CellsAt.cell (Fj_2) 10
  have cj11 := CellsAt.cell (Fj_2) 11
  simp only [List.getElem?_toArray, List.getElem?_cons_zero, List.getElem?_cons_succ] at cj0 cj1 cj2 cj3 cj4 cj5 cj6 cj7 cj8 cj9 cj10 cj11
  go_wp2_with fail
  clear cj0 cj1 cj2 cj3 cj4 cj5 cj6 cj7 cj8 cj9 cj10 cj11
  refine (Hv.out _).mono ?_
  rintro e w3 ⟨rfl, g3⟩
  have Fj_3 := CellsAt.gr (Fj_2) g3
  have lj_3 := CellsAt.lt (Fj_3)
  have z3 := (z2).trans g3
  clear Fj_2 z2 g3
  have cj0 := CellsAt.cell (Fj_3) 0
  have cj1 := CellsAt.cell (Fj_3) 1
  have cj2 := CellsAt.cell (Fj_3) 2
  have cj3 := CellsAt.cell (Fj_3) 3
  have cj4 := CellsAt.cell (Fj_3) 4
  have cj5 := CellsAt.cell (Fj_3) 5
  have cj6 := CellsAt.cell (Fj_3) 6
  have cj7 := CellsAt.cell (Fj_3) 7
  have cj8 := CellsAt.cell (Fj_3) 8
  have cj9 := CellsAt.cell (Fj_3) 9
  have cj10 := CellsAt.cell (Fj_3) 10
  have cj11 := CellsAt.cell (Fj_3) 11
  simp only [List.getElem?_toArray, List.getElem?_cons_zero, List.getElem?_cons_succ] at cj0 cj1 cj2 cj3 cj4 cj5 cj6 cj7 cj8 cj9 cj10 cj11
  go_wp2_with fail
  clear cj0 cj1 cj2 cj3 cj4 cj5 cj6 cj7 cj8 cj9 cj10 cj11
  refine (Hy.out _).mono ?_
  rintro e w4 ⟨rfl, g4⟩
  have Fj_4 := CellsAt.gr (Fj_3) g4
  have lj_4 := CellsAt.lt (Fj_4)
  have z4 := (z3).trans g4
  clear Fj_3 z3 g4
  have cj0 := CellsAt.cell (Fj_4) 0
  have cj1 := CellsAt.cell (Fj_4) 1
  have cj2 := CellsAt.cell (Fj_4) 2
  have cj3 := CellsAt.cell (Fj_4) 3
  have cj4 := CellsAt.cell (Fj_4) 4
  have cj5 := CellsAt.cell (Fj_4) 5
  have cj6 := CellsAt.cell (Fj_4) 6
  have cj7 := CellsAt.cell (Fj_4) 7
  have cj8 := CellsAt.cell (Fj_4) 8
  have cj9 := CellsAt.cell (Fj_4) 9
  have cj10 := CellsAt.cell (Fj_4) 10
  have cj11 := CellsAt.cell (Fj_4) 11
  simp only [List.getElem?_toArray, List.getElem?_cons_zero, List.getElem?_cons_succ] at cj0 cj1 cj2 cj3 cj4 cj5 cj6 cj7 cj8 cj9 cj10 cj11
  go_wp2_with fail
  clear cj0 cj1 cj2 cj3 cj4 cj5 cj6 cj7 cj8 cj9 cj10 cj11
  refine (Hz.out _).mono ?_
  rintro e w5 ⟨rfl, g5⟩
  have Fj_5 := CellsAt.gr (Fj_4) g5
  have lj_5 := CellsAt.lt (Fj_5)
  have z5 := (z4).trans g5
  clear Fj_4 z4 g5
  have cj0 := CellsAt.cell (Fj_5) 0
  have cj1 := CellsAt.cell (Fj_5) 1
  have cj2 := CellsAt.cell (Fj_5) 2
  have cj3 := CellsAt.cell (Fj_5) 3
  have cj4 := CellsAt.cell (Fj_5) 4
  have cj5 := CellsAt.cell (Fj_5) 5
  have cj6 := CellsAt.cell (Fj_5) 6
  have cj7 := CellsAt.cell (Fj_5) 7
  have cj8 := CellsAt.cell (Fj_5) 8
  have cj9 := CellsAt.cell (Fj_5) 9
  have cj10 := CellsAt.cell (Fj_5) 10
  have cj11 := CellsAt.cell (Fj_5) 11
  simp only [List.getElem?_toArray, List.getElem?_cons_zero, List.getElem?_cons_succ] at cj0 cj1 cj2 cj3 cj4 cj5 cj6 cj7 cj8 cj9 cj10 cj11
  go_wp2_with fail
  clear cj0 cj1 cj2 cj3 cj4 cj5 cj6 cj7 cj8 cj9 cj10 cj11
  obtain ⟨v5, hqp1⟩ : ∃ zz, zz = w5 := ⟨_, rfl⟩
  have Yj_p1 : CellsAt v5 (w.heap.size) 47 #[.int .i64 ju.re, .int .i64 ju.im, .int .i64 jv.re, .int .i64 jv.im, .int .i64 jy.re, .int .i64 jy.im, .int .i64 jz.re, .int .i64 jz.im, .int .i64 ja.re, .int .i64 ja.im, .int .i64 jc.re, .int .i64 jc.im] := by rw [hqp1]; first | exact Fj_5 | simpa using Fj_5
  have yp1 : Gr w v5 := by rw [hqp1]; exact z5
  rw [← hqp1]
  clear hqp1
  have KS : ∀ W, Gr v5 W → (W.cell? ⟨w.heap.size, 0, none⟩ = some (.int .i64 ju.re) ∧ W.cell? ⟨w.heap.size, 1, none⟩ = some (.int .i64 ju.im) ∧ W.cell? ⟨w.heap.size, 2, none⟩ = some (.int .i64 jv.re) ∧ W.cell? ⟨w.heap.size, 3, none⟩ = some (.int .i64 jv.im) ∧ W.cell? ⟨w.heap.size, 4, none⟩ = some (.int .i64 jy.re) ∧ W.cell? ⟨w.heap.size, 5, none⟩ = some (.int .i64 jy.im) ∧ W.cell? ⟨w.heap.size, 6, none⟩ = some (.int .i64 jz.re) ∧ W.cell? ⟨w.heap.size, 7, none⟩ = some (.int .i64 jz.im) ∧ W.cell? ⟨w.heap.size, 8, none⟩ = some (.int .i64 ja.re) ∧ W.cell? ⟨w.heap.size, 9, none⟩ = some (.int .i64 ja.im) ∧ W.cell? ⟨w.heap.size, 10, none⟩ = some (.int .i64 jc.re) ∧ W.cell? ⟨w.heap.size, 11, none⟩ = some (.int .i64 jc.im)) := fun W hG => ⟨(CellsAt.gr Yj_p1 hG).cell 0, (CellsAt.gr Yj_p1 hG).cell 1, (CellsAt.gr Yj_p1 hG).cell 2, (CellsAt.gr Yj_p1 hG).cell 3, (CellsAt.gr Yj_p1 hG).cell 4, (CellsAt.gr Yj_p1 hG).cell 5, (CellsAt.gr Yj_p1 hG).cell 6, (CellsAt.gr Yj_p1 hG).cell 7, (CellsAt.gr Yj_p1 hG).cell 8, (CellsAt.gr Yj_p1 hG).cell 9, (CellsAt.gr Yj_p1 hG).cell 10, (CellsAt.gr Yj_p1 hG).cell 11⟩
  have hclG := gr_closed v5
  try simp only [List.append_eq, List.cons_append, List.nil_append]
  refine wp_region_grow (S := Gr v5) rfl (Gr.drew (Gr.refl _)) ?_
  refine wpG_take (i := 0) (v := ?_) hclG rfl (by kernel_rfl) (by kernel_rfl) (by kernel_rfl) (fun _ _ _ h => h) (by rfl) ?_ ?_
  rotate_left
  · (intro w' hSw; go_simp; try with_reducible rfl)
  try simp only [Act.put, List.setIfInBounds_toArray, List.set_cons_zero, List.set_cons_succ, List.getElem_toArray, List.getElem_cons_zero, List.getElem_cons_succ]
  refine wpG_take (i := 1) (v := ?_) hclG rfl (by kernel_rfl) (by kernel_rfl) (by kernel_rfl) (fun _ _ _ h => h) (by rfl) ?_ ?_
  rotate_left
  · (intro w' hSw; have hk := KS w' hSw; go_split_ands; go_simp; try with_reducible rfl)
  try simp only [Act.put, List.setIfInBounds_toArray, List.set_cons_zero, List.set_cons_succ, List.getElem_toArray, List.getElem_cons_zero, List.getElem_cons_succ]
  refine wpG_take (i := 2) (v := ?_) hclG rfl (by kernel_rfl) (by kernel_rfl) (by kernel_rfl) (fun _ _ _ h => h) (by rfl) ?_ ?_
  rotate_left
  · (intro w' hSw; go_simp; try with_reducible rfl)
  try simp only [Act.put, List.setIfInBounds_toArray, List.set_cons_zero, List.set_cons_succ, List.getElem_toArray, List.getElem_cons_zero, List.getElem_cons_succ]
  refine wpG_call (i := 3) hclG rfl (by kernel_rfl) (by kernel_rfl) (by kernel_rfl) (fun _ _ _ h => h) (fun W hS => HPB.out W) (by rfl) ?_ ?_
  · (intro w' hSw; go_simp; try with_reducible rfl)
  try simp only [Act.put, List.setIfInBounds_toArray, List.set_cons_zero, List.set_cons_succ, List.getElem_toArray, List.getElem_cons_zero, List.getElem_cons_succ]
  refine wpG_call (i := 4) hclG rfl (by kernel_rfl) (by kernel_rfl) (by kernel_rfl) (fun _ _ _ h => h) (fun W hS => Ha.out W) (by rfl) ?_ ?_
  · (intro w' hSw; go_simp; try with_reducible rfl)
  try simp only [Act.put, List.setIfInBounds_toArray, List.set_cons_zero, List.set_cons_succ, List.getElem_toArray, List.getElem_cons_zero, List.getElem_cons_succ]
  refine wpG_take (i := 5) (v := ?_) hclG rfl (by kernel_rfl) (by kernel_rfl) (by kernel_rfl) (fun _ _ _ h => h) (by rfl) ?_ ?_
  rotate_left
  · (intro w' hSw; go_simp; try with_reducible rfl)
  try simp only [Act.put, List.setIfInBounds_toArray, List.set_cons_zero, List.set_cons_succ, List.getElem_toArray, List.getElem_cons_zero, List.getElem_cons_succ]
  refine wpG_skip (i := 6) hclG rfl (by kernel_rfl) (by kernel_rfl) (by kernel_rfl) (fun _ _ _ h => h) (by rfl) ?_
  try simp only [Act.put, List.setIfInBounds_toArray, List.set_cons_zero, List.set_cons_succ, List.getElem_toArray, List.getElem_cons_zero, List.getElem_cons_succ]
  refine wpG_skip (i := 7) hclG rfl (by kernel_rfl) (by kernel_rfl) (by kernel_rfl) (fun _ _ _ h => h) (by rfl) ?_
  try simp only [Act.put, List.setIfInBounds_toArray, List.set_cons_zero, List.set_cons_succ, List.getElem_toArray, List.getElem_cons_zero, List.getElem_cons_succ]
  refine wpG_skip (i := 8) hclG rfl (by kernel_rfl) (by kernel_rfl) (by kernel_rfl) (fun _ _ _ h => h) (by rfl) ?_
  try simp only [Act.put, List.setIfInBounds_toArray, List.set_cons_zero, List.set_cons_succ, List.getElem_toArray, List.getElem_cons_zero, List.getElem_cons_succ]
  refine wpG_skip (i := 9) hclG rfl (by kernel_rfl) (by kernel_rfl) (by kernel_rfl) (fun _ _ _ h => h) (by rfl) ?_
  try simp only [Act.put, List.setIfInBounds_toArray, List.set_cons_zero, List.set_cons_succ, List.getElem_toArray, List.getElem_cons_zero, List.getElem_cons_succ]
  refine wpG_skip (i := 10) hclG rfl (by kernel_rfl) (by kernel_rfl) (by kernel_rfl) (fun _ _ _ h => h) (by rfl) ?_
  try simp only [Act.put, List.setIfInBounds_toArray, List.set_cons_zero, List.set_cons_succ, List.getElem_toArray, List.getElem_cons_zero, List.getElem_cons_succ]
  refine wpG_take (i := 11) (v := ?_) hclG rfl (by kernel_rfl) (by kernel_rfl) (by kernel_rfl) (fun _ _ _ h => h) (by rfl) ?_ ?_
  rotate_left
  · (intro w' hSw; go_simp; try with_reducible rfl)
  try simp only [Act.put, List.setIfInBounds_toArray, List.set_cons_zero, List.set_cons_succ, List.getElem_toArray, List.getElem_cons_zero, List.getElem_cons_succ]
  refine wpG_take (i := 12) (v := ?_) hclG rfl (by kernel_rfl) (by kernel_rfl) (by kernel_rfl) (fun _ _ _ h => h) (by rfl) ?_ ?_
  rotate_left
  · (intro w' hSw; go_simp; try with_reducible rfl)
  try simp only [Act.put, List.setIfInBounds_toArray, List.set_cons_zero, List.set_cons_succ, List.getElem_toArray, List.getElem_cons_zero, List.getElem_cons_succ]
  refine wpG_done (by kernel_rfl) (fun w6 g6 => ?_) _
  replace g6 := (Gr.drew (Gr.refl v5)).trans g6
  have Fj_6 := CellsAt.gr (Yj_p1) g6
  have lj_6 := CellsAt.lt (Fj_6)
  have z6 := (yp1).trans g6
  clear Yj_p1 yp1 g6
  clear hclG KS
  go_wp2_with fail
  go_ret
  exact ⟨rfl, z6⟩

set_option maxHeartbeats 2000000 in
theorem rJoins_last_true (b P : Int) (ju jv jy jz ja jc : Gi) (HP31 : Hid (∀ W, Calls Try.prog 14 #[.int .i64 31] W fun e w' => e = .returned (.int .i64 2147483648) ∧ Gr W w')) (HPB : Hid (∀ W, Calls Try.prog 14 #[.int .i64 b] W fun e w' => e = .returned (.int .i64 P) ∧ Gr W w')) (Hu : Hid (∀ W, Calls Try.prog 13 #[.agg #[.int .i64 (ju).re, .int .i64 (ju).im], .int .i64 2147483648] W fun e w' => e = .returned (.bool true) ∧ Gr W w')) (Hv : Hid (∀ W, Calls Try.prog 13 #[.agg #[.int .i64 (jv).re, .int .i64 (jv).im], .int .i64 2147483648] W fun e w' => e = .returned (.bool true) ∧ Gr W w')) (Hy : Hid (∀ W, Calls Try.prog 13 #[.agg #[.int .i64 (jy).re, .int .i64 (jy).im], .int .i64 2147483648] W fun e w' => e = .returned (.bool true) ∧ Gr W w')) (Hz : Hid (∀ W, Calls Try.prog 13 #[.agg #[.int .i64 (jz).re, .int .i64 (jz).im], .int .i64 2147483648] W fun e w' => e = .returned (.bool true) ∧ Gr W w')) (Ha : Hid (∀ W, Calls Try.prog 13 #[.agg #[.int .i64 (ja).re, .int .i64 (ja).im], .int .i64 P] W fun e w' => e = .returned (.bool true) ∧ Gr W w')) (z : Bool) (Hc : Hid (∀ W, Calls Try.prog 13 #[.agg #[.int .i64 (jc).re, .int .i64 (jc).im], .int .i64 P] W fun e w' => e = .returned (.bool z) ∧ Gr W w')) (w : World) :
    Calls Try.prog 25 #[.agg #[.int .i64 ju.re, .int .i64 ju.im, .int .i64 jv.re, .int .i64 jv.im, .int .i64 jy.re, .int .i64 jy.im, .int .i64 jz.re, .int .i64 jz.im, .int .i64 ja.re, .int .i64 ja.im, .int .i64 jc.re, .int .i64 jc.im], .int .i64 b] w fun e w' => e = .returned (.bool z) ∧ Gr w w' := by
  go_enter Try.func25, Try.ntmps25
  go_wp2_with fail
  obtain ⟨u0, hU⟩ : ∃ uu, uu = (w.alloc (.cells #[.int .i64 ju.re, .int .i64 ju.im, .int .i64 jv.re, .int .i64 jv.im, .int .i64 jy.re, .int .i64 jy.im, .int .i64 jz.re, .int .i64 jz.im, .int .i64 ja.re, .int .i64 ja.im, .int .i64 jc.re, .int .i64 jc.im] 47)) := ⟨_, rfl⟩
  have gu : Gr w u0 := by rw [hU]; exact (Gr.refl w).alloc _ _
  have R0 : CellsAt u0 (w.heap.size) 47 #[.int .i64 ju.re, .int .i64 ju.im, .int .i64 jv.re, .int .i64 jv.im, .int .i64 jy.re, .int .i64 jy.im, .int .i64 jz.re, .int .i64 jz.im, .int .i64 ja.re, .int .i64 ja.im, .int .i64 jc.re, .int .i64 jc.im] := by
    rw [hU]
    have := (CellsAt.new w 47 #[.int .i64 ju.re, .int .i64 ju.im, .int .i64 jv.re, .int .i64 jv.im, .int .i64 jy.re, .int .i64 jy.im, .int .i64 jz.re, .int .i64 jz.im, .int .i64 ja.re, .int .i64 ja.im, .int .i64 jc.re, .int .i64 jc.im])
    simpa only [World.size_alloc] using this
  rw [← hU]
  clear hU
  have lj := R0.lt
  refine (HP31.out _).mono ?_
  rintro e w1 ⟨rfl, g1⟩
  have Fj_1 := CellsAt.gr (R0) g1
  have lj_1 := CellsAt.lt (Fj_1)
  have z1 := (gu).trans g1
  clear R0 gu g1
  have cj0 := CellsAt.cell (Fj_1) 0
  have cj1 := CellsAt.cell (Fj_1) 1
  have cj2 := CellsAt.cell (Fj_1) 2
  have cj3 := CellsAt.cell (Fj_1) 3
  have cj4 := CellsAt.cell (Fj_1) 4
  have cj5 := CellsAt.cell (Fj_1) 5
  have cj6 := CellsAt.cell (Fj_1) 6
  have cj7 := CellsAt.cell (Fj_1) 7
  have cj8 := CellsAt.cell (Fj_1) 8
  have cj9 := CellsAt.cell (Fj_1) 9
  have cj10 := CellsAt.cell (Fj_1) 10
  have cj11 := CellsAt.cell (Fj_1) 11
  simp only [List.getElem?_toArray, List.getElem?_cons_zero, List.getElem?_cons_succ] at cj0 cj1 cj2 cj3 cj4 cj5 cj6 cj7 cj8 cj9 cj10 cj11
  go_wp2_with fail
  clear cj0 cj1 cj2 cj3 cj4 cj5 cj6 cj7 cj8 cj9 cj10 cj11
  refine (Hu.out _).mono ?_
  rintro e w2 ⟨rfl, g2⟩
  have Fj_2 := CellsAt.gr (Fj_1) g2
  have lj_2 := CellsAt.lt (Fj_2)
  have z2 := (z1).trans g2
  clear Fj_1 z1 g2
  have cj0 := CellsAt.cell (Fj_2) 0
  have cj1 := CellsAt.cell (Fj_2) 1
  have cj2 := CellsAt.cell (Fj_2) 2
  have cj3 := CellsAt.cell (Fj_2) 3
  have cj4 := CellsAt.cell (Fj_2) 4
  have cj5 := CellsAt.cell (Fj_2) 5
  have cj6 := CellsAt.cell (Fj_2) 6
  have cj7 := CellsAt.cell (Fj_2) 7
  have cj8 := CellsAt.cell (Fj_2) 8
  have cj9 := CellsAt.cell (Fj_2) 9
  have cj10 := CellsAt.cell (Fj_2) 10
  have cj11 := CellsAt.cell (Fj_2) 11
  simp only [List.getElem?_toArray, List.getElem?_cons_zero, List.getElem?_cons_succ] at cj0 cj1 cj2 cj3 cj4 cj5 cj6 cj7 cj8 cj9 cj10 cj11
  go_wp2_with fail
  clear cj0 cj1 cj2 cj3 cj4 cj5 cj6 cj7 cj8 cj9 cj10 cj11
  refine (Hv.out _).mono ?_
  rintro e w3 ⟨rfl, g3⟩
  have Fj_3 := CellsAt.gr (Fj_2) g3
  have lj_3 := CellsAt.lt (Fj_3)
  have z3 := (z2).trans g3
  clear Fj_2 z2 g3
  have cj0 := CellsAt.cell (Fj_3) 0
  have cj1 := CellsAt.cell (Fj_3) 1
  have cj2 := CellsAt.cell (Fj_3) 2
  have cj3 := CellsAt.cell (Fj_3) 3
  have cj4 := CellsAt.cell (Fj_3) 4
  have cj5 := CellsAt.cell (Fj_3) 5
  have cj6 := CellsAt.cell (Fj_3) 6
  have cj7 := CellsAt.cell (Fj_3) 7
  have cj8 := CellsAt.cell (Fj_3) 8
  have cj9 := CellsAt.cell (Fj_3) 9
  have cj10 := CellsAt.cell (Fj_3) 10
  have cj11 := CellsAt.cell (Fj_3) 11
  simp only [List.getElem?_toArray, List.getElem?_cons_zero, List.getElem?_cons_succ] at cj0 cj1 cj2 cj3 cj4 cj5 cj6 cj7 cj8 cj9 cj10 cj11
  go_wp2_with fail
  clear cj0 cj1 cj2 cj3 cj4 cj5 cj6 cj7 cj8 cj9 cj10 cj11
  refine (Hy.out _).mono ?_
  rintro e w4 ⟨rfl, g4⟩
  have Fj_4 := CellsAt.gr (Fj_3) g4
  have lj_4 := CellsAt.lt (Fj_4)
  have z4 := (z3).trans g4
  clear Fj_3 z3 g4
  have cj0 := CellsAt.cell (Fj_4) 0
  have cj1 := CellsAt.cell (Fj_4) 1
  have cj2 := CellsAt.cell (Fj_4) 2
  have cj3 := CellsAt.cell (Fj_4) 3
  have cj4 := CellsAt.cell (Fj_4) 4
  have cj5 := CellsAt.cell (Fj_4) 5
  have cj6 := CellsAt.cell (Fj_4) 6
  have cj7 := CellsAt.cell (Fj_4) 7
  have cj8 := CellsAt.cell (Fj_4) 8
  have cj9 := CellsAt.cell (Fj_4) 9
  have cj10 := CellsAt.cell (Fj_4) 10
  have cj11 := CellsAt.cell (Fj_4) 11
  simp only [List.getElem?_toArray, List.getElem?_cons_zero, List.getElem?_cons_succ] at cj0 cj1 cj2 cj3 cj4 cj5 cj6 cj7 cj8 cj9 cj10 cj11
  go_wp2_with fail
  clear cj0 cj1 cj2 cj3 cj4 cj5 cj6 cj7 cj8 cj9 cj10 cj11
  refine (Hz.out _).mono ?_
  rintro e w5 ⟨rfl, g5⟩
  have Fj_5 := CellsAt.gr (Fj_4) g5
  have lj_5 := CellsAt.lt (Fj_5)
  have z5 := (z4).trans g5
  clear Fj_4 z4 g5
  have cj0 := CellsAt.cell (Fj_5) 0
  have cj1 := CellsAt.cell (Fj_5) 1
  have cj2 := CellsAt.cell (Fj_5) 2
  have cj3 := CellsAt.cell (Fj_5) 3
  have cj4 := CellsAt.cell (Fj_5) 4
  have cj5 := CellsAt.cell (Fj_5) 5
  have cj6 := CellsAt.cell (Fj_5) 6
  have cj7 := CellsAt.cell (Fj_5) 7
  have cj8 := CellsAt.cell (Fj_5) 8
  have cj9 := CellsAt.cell (Fj_5) 9
  have cj10 := CellsAt.cell (Fj_5) 10
  have cj11 := CellsAt.cell (Fj_5) 11
  simp only [List.getElem?_toArray, List.getElem?_cons_zero, List.getElem?_cons_succ] at cj0 cj1 cj2 cj3 cj4 cj5 cj6 cj7 cj8 cj9 cj10 cj11
  go_wp2_with fail
  clear cj0 cj1 cj2 cj3 cj4 cj5 cj6 cj7 cj8 cj9 cj10 cj11
  obtain ⟨v5, hqp1⟩ : ∃ zz, zz = w5 := ⟨_, rfl⟩
  have Yj_p1 : CellsAt v5 (w.heap.size) 47 #[.int .i64 ju.re, .int .i64 ju.im, .int .i64 jv.re, .int .i64 jv.im, .int .i64 jy.re, .int .i64 jy.im, .int .i64 jz.re, .int .i64 jz.im, .int .i64 ja.re, .int .i64 ja.im, .int .i64 jc.re, .int .i64 jc.im] := by rw [hqp1]; first | exact Fj_5 | simpa using Fj_5
  have yp1 : Gr w v5 := by rw [hqp1]; exact z5
  rw [← hqp1]
  clear hqp1
  have KS : ∀ W, Gr v5 W → (W.cell? ⟨w.heap.size, 0, none⟩ = some (.int .i64 ju.re) ∧ W.cell? ⟨w.heap.size, 1, none⟩ = some (.int .i64 ju.im) ∧ W.cell? ⟨w.heap.size, 2, none⟩ = some (.int .i64 jv.re) ∧ W.cell? ⟨w.heap.size, 3, none⟩ = some (.int .i64 jv.im) ∧ W.cell? ⟨w.heap.size, 4, none⟩ = some (.int .i64 jy.re) ∧ W.cell? ⟨w.heap.size, 5, none⟩ = some (.int .i64 jy.im) ∧ W.cell? ⟨w.heap.size, 6, none⟩ = some (.int .i64 jz.re) ∧ W.cell? ⟨w.heap.size, 7, none⟩ = some (.int .i64 jz.im) ∧ W.cell? ⟨w.heap.size, 8, none⟩ = some (.int .i64 ja.re) ∧ W.cell? ⟨w.heap.size, 9, none⟩ = some (.int .i64 ja.im) ∧ W.cell? ⟨w.heap.size, 10, none⟩ = some (.int .i64 jc.re) ∧ W.cell? ⟨w.heap.size, 11, none⟩ = some (.int .i64 jc.im)) := fun W hG => ⟨(CellsAt.gr Yj_p1 hG).cell 0, (CellsAt.gr Yj_p1 hG).cell 1, (CellsAt.gr Yj_p1 hG).cell 2, (CellsAt.gr Yj_p1 hG).cell 3, (CellsAt.gr Yj_p1 hG).cell 4, (CellsAt.gr Yj_p1 hG).cell 5, (CellsAt.gr Yj_p1 hG).cell 6, (CellsAt.gr Yj_p1 hG).cell 7, (CellsAt.gr Yj_p1 hG).cell 8, (CellsAt.gr Yj_p1 hG).cell 9, (CellsAt.gr Yj_p1 hG).cell 10, (CellsAt.gr Yj_p1 hG).cell 11⟩
  have hclG := gr_closed v5
  try simp only [List.append_eq, List.cons_append, List.nil_append]
  refine wp_region_grow (S := Gr v5) rfl (Gr.drew (Gr.refl _)) ?_
  refine wpG_take (i := 0) (v := ?_) hclG rfl (by kernel_rfl) (by kernel_rfl) (by kernel_rfl) (fun _ _ _ h => h) (by rfl) ?_ ?_
  rotate_left
  · (intro w' hSw; go_simp; try with_reducible rfl)
  try simp only [Act.put, List.setIfInBounds_toArray, List.set_cons_zero, List.set_cons_succ, List.getElem_toArray, List.getElem_cons_zero, List.getElem_cons_succ]
  refine wpG_take (i := 1) (v := ?_) hclG rfl (by kernel_rfl) (by kernel_rfl) (by kernel_rfl) (fun _ _ _ h => h) (by rfl) ?_ ?_
  rotate_left
  · (intro w' hSw; have hk := KS w' hSw; go_split_ands; go_simp; try with_reducible rfl)
  try simp only [Act.put, List.setIfInBounds_toArray, List.set_cons_zero, List.set_cons_succ, List.getElem_toArray, List.getElem_cons_zero, List.getElem_cons_succ]
  refine wpG_take (i := 2) (v := ?_) hclG rfl (by kernel_rfl) (by kernel_rfl) (by kernel_rfl) (fun _ _ _ h => h) (by rfl) ?_ ?_
  rotate_left
  · (intro w' hSw; go_simp; try with_reducible rfl)
  try simp only [Act.put, List.setIfInBounds_toArray, List.set_cons_zero, List.set_cons_succ, List.getElem_toArray, List.getElem_cons_zero, List.getElem_cons_succ]
  refine wpG_call (i := 3) hclG rfl (by kernel_rfl) (by kernel_rfl) (by kernel_rfl) (fun _ _ _ h => h) (fun W hS => HPB.out W) (by rfl) ?_ ?_
  · (intro w' hSw; go_simp; try with_reducible rfl)
  try simp only [Act.put, List.setIfInBounds_toArray, List.set_cons_zero, List.set_cons_succ, List.getElem_toArray, List.getElem_cons_zero, List.getElem_cons_succ]
  refine wpG_call (i := 4) hclG rfl (by kernel_rfl) (by kernel_rfl) (by kernel_rfl) (fun _ _ _ h => h) (fun W hS => Ha.out W) (by rfl) ?_ ?_
  · (intro w' hSw; go_simp; try with_reducible rfl)
  try simp only [Act.put, List.setIfInBounds_toArray, List.set_cons_zero, List.set_cons_succ, List.getElem_toArray, List.getElem_cons_zero, List.getElem_cons_succ]
  refine wpG_take (i := 5) (v := ?_) hclG rfl (by kernel_rfl) (by kernel_rfl) (by kernel_rfl) (fun _ _ _ h => h) (by rfl) ?_ ?_
  rotate_left
  · (intro w' hSw; go_simp; try with_reducible rfl)
  try simp only [Act.put, List.setIfInBounds_toArray, List.set_cons_zero, List.set_cons_succ, List.getElem_toArray, List.getElem_cons_zero, List.getElem_cons_succ]
  refine wpG_take (i := 6) (v := ?_) hclG rfl (by kernel_rfl) (by kernel_rfl) (by kernel_rfl) (fun _ _ _ h => h) (by rfl) ?_ ?_
  rotate_left
  · (intro w' hSw; go_simp; try with_reducible rfl)
  try simp only [Act.put, List.setIfInBounds_toArray, List.set_cons_zero, List.set_cons_succ, List.getElem_toArray, List.getElem_cons_zero, List.getElem_cons_succ]
  refine wpG_take (i := 7) (v := ?_) hclG rfl (by kernel_rfl) (by kernel_rfl) (by kernel_rfl) (fun _ _ _ h => h) (by rfl) ?_ ?_
  rotate_left
  · (intro w' hSw; have hk := KS w' hSw; go_split_ands; go_simp; try with_reducible rfl)
  try simp only [Act.put, List.setIfInBounds_toArray, List.set_cons_zero, List.set_cons_succ, List.getElem_toArray, List.getElem_cons_zero, List.getElem_cons_succ]
  refine wpG_take (i := 8) (v := ?_) hclG rfl (by kernel_rfl) (by kernel_rfl) (by kernel_rfl) (fun _ _ _ h => h) (by rfl) ?_ ?_
  rotate_left
  · (intro w' hSw; go_simp; try with_reducible rfl)
  try simp only [Act.put, List.setIfInBounds_toArray, List.set_cons_zero, List.set_cons_succ, List.getElem_toArray, List.getElem_cons_zero, List.getElem_cons_succ]
  refine wpG_call (i := 9) hclG rfl (by kernel_rfl) (by kernel_rfl) (by kernel_rfl) (fun _ _ _ h => h) (fun W hS => HPB.out W) (by rfl) ?_ ?_
  · (intro w' hSw; go_simp; try with_reducible rfl)
  try simp only [Act.put, List.setIfInBounds_toArray, List.set_cons_zero, List.set_cons_succ, List.getElem_toArray, List.getElem_cons_zero, List.getElem_cons_succ]
  refine wpG_call (i := 10) hclG rfl (by kernel_rfl) (by kernel_rfl) (by kernel_rfl) (fun _ _ _ h => h) (fun W hS => Hc.out W) (by rfl) ?_ ?_
  · (intro w' hSw; go_simp; try with_reducible rfl)
  try simp only [Act.put, List.setIfInBounds_toArray, List.set_cons_zero, List.set_cons_succ, List.getElem_toArray, List.getElem_cons_zero, List.getElem_cons_succ]
  refine wpG_take (i := 11) (v := ?_) hclG rfl (by kernel_rfl) (by kernel_rfl) (by kernel_rfl) (fun _ _ _ h => h) (by rfl) ?_ ?_
  rotate_left
  · (intro w' hSw; go_simp; try with_reducible rfl)
  try simp only [Act.put, List.setIfInBounds_toArray, List.set_cons_zero, List.set_cons_succ, List.getElem_toArray, List.getElem_cons_zero, List.getElem_cons_succ]
  refine wpG_take (i := 12) (v := ?_) hclG rfl (by kernel_rfl) (by kernel_rfl) (by kernel_rfl) (fun _ _ _ h => h) (by rfl) ?_ ?_
  rotate_left
  · (intro w' hSw; go_simp; try with_reducible rfl)
  try simp only [Act.put, List.setIfInBounds_toArray, List.set_cons_zero, List.set_cons_succ, List.getElem_toArray, List.getElem_cons_zero, List.getElem_cons_succ]
  refine wpG_done (by kernel_rfl) (fun w6 g6 => ?_) _
  replace g6 := (Gr.drew (Gr.refl v5)).trans g6
  have Fj_6 := CellsAt.gr (Yj_p1) g6
  have lj_6 := CellsAt.lt (Fj_6)
  have z6 := (yp1).trans g6
  clear Yj_p1 yp1 g6
  clear hclG KS
  go_wp2_with fail
  go_ret
  exact ⟨rfl, z6⟩

theorem rJoins12_c (bits : Nat) (ju jv jy jz ja jc : Gi) (hb : bits ≤ 29) (z : Bool) (hz : z = (allIn 2147483648 [ju, jv, jy, jz] && allIn (2 ^ bits) [ja, jc])) (w : World) :
    Calls Try.prog 25 #[.agg #[.int .i64 ju.re, .int .i64 ju.im, .int .i64 jv.re, .int .i64 jv.im, .int .i64 jy.re, .int .i64 jy.im, .int .i64 jz.re, .int .i64 jz.im, .int .i64 ja.re, .int .i64 ja.im, .int .i64 jc.re, .int .i64 jc.im], .int .i64 bits] w fun e w' => e = .returned (.bool z) ∧ Gr w w' := by
  have hp := pow29 bits hb
  have HP31 := Lib.hid fun W => calls_gr (pow08_c' 31 2147483648 (by decide) (by omega) W)
  have HPB := Lib.hid fun W => calls_gr (pow08_c' bits (2 ^ bits) rfl (by omega) W)
  have H : ∀ g : Gi, ∀ bb : Bool, (inB 2147483648 g.re && inB 2147483648 g.im) = bb → Hid (∀ W, Calls Try.prog 13 #[.agg #[.int .i64 (g).re, .int .i64 (g).im], .int .i64 2147483648] W fun e w' => e = .returned (.bool bb) ∧ Gr W w') := fun g bb h => Lib.hid fun W => by rw [← h]; exact rwithin_c g.re g.im 2147483648 (by omega) (by omega) W
  have HB : ∀ g : Gi, ∀ bb : Bool, (inB (2 ^ bits) g.re && inB (2 ^ bits) g.im) = bb → Hid (∀ W, Calls Try.prog 13 #[.agg #[.int .i64 (g).re, .int .i64 (g).im], .int .i64 (2 ^ bits)] W fun e w' => e = .returned (.bool bb) ∧ Gr W w') := fun g bb h => Lib.hid fun W => by rw [← h]; exact rwithin_c g.re g.im (2 ^ bits) (by omega) (by omega) W
  unfold allIn at hz
  simp only [List.all_cons, List.all_nil, Bool.and_true] at hz
  cases hu : (inB 2147483648 ju.re && inB 2147483648 ju.im)
  · rw [hu] at hz
    obtain rfl : z = false := by simpa using hz
    exact rJoins_no_0 bits (2 ^ bits) ju jv jy jz ja jc HP31 (H ju _ hu) w
  · cases hv : (inB 2147483648 jv.re && inB 2147483648 jv.im)
    · rw [hu, hv] at hz
      obtain rfl : z = false := by simpa using hz
      exact rJoins_no_1 bits (2 ^ bits) ju jv jy jz ja jc HP31 (H ju _ hu) (H jv _ hv) w
    · cases hy : (inB 2147483648 jy.re && inB 2147483648 jy.im)
      · rw [hu, hv, hy] at hz
        obtain rfl : z = false := by simpa using hz
        exact rJoins_no_2 bits (2 ^ bits) ju jv jy jz ja jc HP31 (H ju _ hu) (H jv _ hv) (H jy _ hy) w
      · cases hzz : (inB 2147483648 jz.re && inB 2147483648 jz.im)
        · rw [hu, hv, hy, hzz] at hz
          obtain rfl : z = false := by simpa using hz
          exact rJoins_no_3 bits (2 ^ bits) ju jv jy jz ja jc HP31 (H ju _ hu) (H jv _ hv) (H jy _ hy) (H jz _ hzz) w
        · cases ha : (inB (2 ^ bits) ja.re && inB (2 ^ bits) ja.im)
          · rw [hu, hv, hy, hzz, ha] at hz
            obtain rfl : z = false := by simpa using hz
            exact rJoins_last_false bits (2 ^ bits) ju jv jy jz ja jc HP31 HPB (H ju _ hu) (H jv _ hv) (H jy _ hy) (H jz _ hzz) (HB ja _ ha) w
          · rw [hu, hv, hy, hzz, ha] at hz
            obtain rfl : z = (inB (2 ^ bits) jc.re && inB (2 ^ bits) jc.im) := by simpa using hz
            exact rJoins_last_true bits (2 ^ bits) ju jv jy jz ja jc HP31 HPB (H ju _ hu) (H jv _ hv) (H jy _ hy) (H jz _ hzz) (HB ja _ ha) _ (HB jc _ rfl) w


end Go.Proofs.Ytmhcbphkkcmecaa
