/- What reference 12's Join and Joins answer. -/
import Derived.Test.YtmhcbphkkcmecaaGreatSplitMath
import Derived.Test.YtmhcbphkkcmecaaGreatGiCalls
import Derived.Test.YtmhcbphkkcmecaaGreatRef10
import Derived.Test.YtmhcbphkkcmecaaGreatRow
import Derived.Test.YtmhcbphkkcmecaaGreatGrow
import Derived.Test.YtmhcbphkkcmecaaGreatFourCode4
namespace Go.Proofs.YtmhcbphkkcmecaaGreat
open Go.ChangeShapes Go.WideShapes Go.ChangeAt Go.RowKit
set_option linter.unusedVariables false
set_option linter.unusedSimpArgs false
set_option maxRecDepth 100000

theorem rturn12_gi (a : Gi) (q : Int) (h : a.re.natAbs ≤ 4611686018427387904 ∧ a.im.natAbs ≤ 4611686018427387904) (w : World) :
    Calls Tryz.prog 40 #[.agg #[.int .i64 (a).re, .int .i64 (a).im], .int .i64 q] w fun e w' => e = .returned (.agg #[.int .i64 (a.turn q).re, .int .i64 (a.turn q).im]) ∧ Gr w w' := by
  have h0 : wrap64 (-a.re) = -a.re := IntWalk.wrap64_in _ (by omega)
  have h1 : wrap64 (-a.im) = -a.im := IntWalk.wrap64_in _ (by omega)
  have ht := tmod4 q
  unfold Gi.turn
  rcases q4g q with hm | hm | hm | hm <;> rw [hm] at ht <;> simp only [hm]
  · exact rturn_0 a.re a.im q _ _ _ h0 h1 rfl (by omega) w
  · exact rturn_1 a.re a.im q _ _ _ h0 h1 rfl (by omega) w
  · exact rturn_2 a.re a.im q _ _ _ h0 h1 rfl (by omega) w
  · exact rturn_3 a.re a.im q _ _ _ h0 h1 rfl (by omega) w
theorem rless_gi (a b : Gi) (h0 : -9223372036854775808 ≤ a.re - b.re ∧ a.re - b.re ≤ 9223372036854775807) (h1 : -9223372036854775808 ≤ a.im - b.im ∧ a.im - b.im ≤ 9223372036854775807) (w : World) :
    Calls Tryz.prog 24 #[.agg #[.int .i64 (a).re, .int .i64 (a).im], .agg #[.int .i64 (b).re, .int .i64 (b).im]] w fun e w' => e = .returned (.agg #[.int .i64 (gsub a b).re, .int .i64 (gsub a b).im]) ∧ Gr w w' :=
  rless_c a.re a.im b.re b.im _ _ (IntWalk.wrap64_in _ h0) (IntWalk.wrap64_in _ h1) w
theorem scale12_c (a : Gi) (bits : Nat) (hb : bits ≤ 30) (ha : Bd 2147483648 a) (w : World) :
    Calls Tryz.prog 41 #[.agg #[.int .i64 (a).re, .int .i64 (a).im], .int .i64 bits] w fun e w' => e = .returned (.agg #[.int .i64 (gscale bits a).re, .int .i64 (gscale bits a).im]) ∧ Gr w w' := by
  have h1 : (2 : Nat) ^ bits ≤ 2 ^ 30 := Nat.pow_le_pow_right (by decide) hb
  have hc : ((2 ^ bits : Nat) : Int) = 2 ^ bits := by rw [Int.natCast_pow]; rfl
  have hp := pow_pos2 bits
  have h2 : (2 : Int) ^ bits ≤ 1073741824 := by omega
  have l := (Bd.scale ha bits).le
  have l0 : wrap64 (a.re * 2 ^ bits) = (gscale bits a).re := IntWalk.wrap64_in _ (by unfold gscale at l; simp only at l; omega)
  have l1 : wrap64 (a.im * 2 ^ bits) = (gscale bits a).im := IntWalk.wrap64_in _ (by unfold gscale at l; simp only at l; omega)
  have HP := Lib.hid (pow08_c' bits (2 ^ bits) rfl (by omega))
  generalize gscale bits a = r at *
  generalize (2 : Int) ^ bits = P at *
  clear h1 hc hp h2 l hb ha
  go_enter Tryz.func41, Tryz.ntmps41
  go_wp2_with (go_at_call 19; refine (HP.out _).mono ?_; rintro e wz ⟨rfl, rfl⟩)
  refine bodyPost_ret (v := .agg #[.int .i64 r.re, .int .i64 r.im]) ?_ rfl ⟨rfl, ?_⟩
  · simp [results, Tryz.results41, go_sem]
  · exact by repeat (first | exact Gr.refl _ | assumption | apply Gr.drew | apply Gr.alloc | (refine Gr.setCell ?_ (by first | (simp; done) | (simp; omega)) _))


set_option maxHeartbeats 4000000 in
theorem rJoin_true_0_of (bits mo b1 b2 : Int) (ju jv jy jz ja jc t t3 p d dd U V s o : Gi) (h1 : wrap64 (bits + 1) = b1) (h2 : wrap64 (bits + 2) = b2)
    (HT : Hid (∀ W, Calls Tryz.prog 39 #[.agg #[.int .i64 (jy).re, .int .i64 (jy).im], .agg #[.int .i64 (ja).re, .int .i64 (ja).im]] W fun e w' => e = .returned (.agg #[.int .i64 (t).re, .int .i64 (t).im]) ∧ Gr W w')) (HT3 : Hid (∀ W, Calls Tryz.prog 39 #[.agg #[.int .i64 (jz).re, .int .i64 (jz).im], .agg #[.int .i64 (jc).re, .int .i64 (jc).im]] W fun e w' => e = .returned (.agg #[.int .i64 (t3).re, .int .i64 (t3).im]) ∧ Gr W w')) (HP : Hid (∀ W, Calls Tryz.prog 23 #[.agg #[.int .i64 (t).re, .int .i64 (t).im], .agg #[.int .i64 (t3).re, .int .i64 (t3).im]] W fun e w' => e = .returned (.agg #[.int .i64 (p).re, .int .i64 (p).im]) ∧ Gr W w')) (HL : Hid (∀ W, Calls Tryz.prog 24 #[.agg #[.int .i64 (t).re, .int .i64 (t).im], .agg #[.int .i64 (t3).re, .int .i64 (t3).im]] W fun e w' => e = .returned (.agg #[.int .i64 (d).re, .int .i64 (d).im]) ∧ Gr W w'))
    (HN : Hid (∀ W, Calls Tryz.prog 40 #[.agg #[.int .i64 (d).re, .int .i64 (d).im], .int .i64 1] W fun e w' => e = .returned (.agg #[.int .i64 (dd).re, .int .i64 (dd).im]) ∧ Gr W w')) (HU : Hid (∀ W, Calls Tryz.prog 41 #[.agg #[.int .i64 (ju).re, .int .i64 (ju).im], .int .i64 b1] W fun e w' => e = .returned (.agg #[.int .i64 (U).re, .int .i64 (U).im]) ∧ Gr W w')) (HV : Hid (∀ W, Calls Tryz.prog 41 #[.agg #[.int .i64 (jv).re, .int .i64 (jv).im], .int .i64 b1] W fun e w' => e = .returned (.agg #[.int .i64 (V).re, .int .i64 (V).im]) ∧ Gr W w'))
    (HS : Hid (∀ W, Calls Tryz.prog 23 #[.agg #[.int .i64 (U).re, .int .i64 (U).im], .agg #[.int .i64 (p).re, .int .i64 (p).im]] W fun e w' => e = .returned (.agg #[.int .i64 (s).re, .int .i64 (s).im]) ∧ Gr W w')) (HF : Hid (∀ W, Calls Tryz.prog 22 #[.agg #[.int .i64 (s).re, .int .i64 (s).im], .int .i64 b2, .int .i64 mo] W fun e w' => e = .returned (.agg #[.int .i64 (o).re, .int .i64 (o).im]) ∧ Gr W w')) (w : World) :
    Calls Tryz.prog 27 #[.agg #[.int .i64 ju.re, .int .i64 ju.im, .int .i64 jv.re, .int .i64 jv.im, .int .i64 jy.re, .int .i64 jy.im, .int .i64 jz.re, .int .i64 jz.im, .int .i64 ja.re, .int .i64 ja.im, .int .i64 jc.re, .int .i64 jc.im], .int .i64 0, .int .i64 bits, .int .i64 mo, .bool true] w fun e w' => e = .returned (.agg #[.int .i64 (o).re, .int .i64 (o).im]) ∧ Gr w w' := by
  go_enter Tryz.func27, Tryz.ntmps27
  go_wp2_with fail
  obtain ⟨u0, hU⟩ : ∃ uu, uu = ((w.alloc (.cells #[.int .i64 ju.re, .int .i64 ju.im, .int .i64 jv.re, .int .i64 jv.im, .int .i64 jy.re, .int .i64 jy.im, .int .i64 jz.re, .int .i64 jz.im, .int .i64 ja.re, .int .i64 ja.im, .int .i64 jc.re, .int .i64 jc.im] 48)).alloc (.cells #[.int .i64 0, .int .i64 0] 42)) := ⟨_, rfl⟩
  have gu : Gr w u0 := by rw [hU]; exact ((Gr.refl w).alloc _ _).alloc _ _
  have R0 : CellsAt u0 (w.heap.size) 48 #[.int .i64 ju.re, .int .i64 ju.im, .int .i64 jv.re, .int .i64 jv.im, .int .i64 jy.re, .int .i64 jy.im, .int .i64 jz.re, .int .i64 jz.im, .int .i64 ja.re, .int .i64 ja.im, .int .i64 jc.re, .int .i64 jc.im] := by
    rw [hU]
    have := ((CellsAt.new w 48 #[.int .i64 ju.re, .int .i64 ju.im, .int .i64 jv.re, .int .i64 jv.im, .int .i64 jy.re, .int .i64 jy.im, .int .i64 jz.re, .int .i64 jz.im, .int .i64 ja.re, .int .i64 ja.im, .int .i64 jc.re, .int .i64 jc.im]).alloc (.cells #[.int .i64 0, .int .i64 0] 42))
    simpa only [World.size_alloc] using this
  have R1 : CellsAt u0 (w.heap.size + 1) 42 #[.int .i64 0, .int .i64 0] := by
    rw [hU]
    have := (CellsAt.new (w.alloc (.cells #[.int .i64 ju.re, .int .i64 ju.im, .int .i64 jv.re, .int .i64 jv.im, .int .i64 jy.re, .int .i64 jy.im, .int .i64 jz.re, .int .i64 jz.im, .int .i64 ja.re, .int .i64 ja.im, .int .i64 jc.re, .int .i64 jc.im] 48)) 42 #[.int .i64 0, .int .i64 0])
    simpa only [World.size_alloc] using this
  rw [← hU]
  clear hU
  have lj := R0.lt
  have lr := R1.lt
  refine (HT.out _).mono ?_
  rintro e w1 ⟨rfl, g1⟩
  have Fj_1 := CellsAt.gr (R0) g1
  have lj_1 := CellsAt.lt (Fj_1)
  have Fr_1 := CellsAt.gr (R1) g1
  have lr_1 := CellsAt.lt (Fr_1)
  have z1 := (gu).trans g1
  clear R0 R1 gu g1
  have cj0 := CellsAt.cell (Fj_1) 0
  have cj1 := CellsAt.cell (Fj_1) 1
  have cj2 := CellsAt.cell (Fj_1) 2
  have cj3 := CellsAt.cell (Fj_1) 3
  have cj4 := CellsAt.cell (Fj_1) 4
  have cj5 := CellsAt.cell (Fj_1) 5
  have cj6 := CellsAt.cell (Fj_1) 6
  have cj7 := CellsAt.cell (Fj_1) 7
  have cj8 := CellsAt.cell (Fj_1) 8
  have cj9 := CellsAt.cell (Fj_1) 9
  have cj10 := CellsAt.cell (Fj_1) 10
  have cj11 := CellsAt.cell (Fj_1) 11
  simp only [List.getElem?_toArray, List.getElem?_cons_zero, List.getElem?_cons_succ] at cj0 cj1 cj2 cj3 cj4 cj5 cj6 cj7 cj8 cj9 cj10 cj11
  go_wp2_with fail
  clear cj0 cj1 cj2 cj3 cj4 cj5 cj6 cj7 cj8 cj9 cj10 cj11
  have Yj_p1 : CellsAt (w1.alloc (.cells #[.int .i64 t.re, .int .i64 t.im] 42)) (w.heap.size) 48 #[.int .i64 ju.re, .int .i64 ju.im, .int .i64 jv.re, .int .i64 jv.im, .int .i64 jy.re, .int .i64 jy.im, .int .i64 jz.re, .int .i64 jz.im, .int .i64 ja.re, .int .i64 ja.im, .int .i64 jc.re, .int .i64 jc.im] := by first | exact CellsAt.alloc (Fj_1) (.cells #[.int .i64 t.re, .int .i64 t.im] 42) | simpa using CellsAt.alloc (Fj_1) (.cells #[.int .i64 t.re, .int .i64 t.im] 42)
  have Yr_p1 : CellsAt (w1.alloc (.cells #[.int .i64 t.re, .int .i64 t.im] 42)) (w.heap.size + 1) 42 #[.int .i64 0, .int .i64 0] := by first | exact CellsAt.alloc (Fr_1) (.cells #[.int .i64 t.re, .int .i64 t.im] 42) | simpa using CellsAt.alloc (Fr_1) (.cells #[.int .i64 t.re, .int .i64 t.im] 42)
  have Yt_p1 : CellsAt (w1.alloc (.cells #[.int .i64 t.re, .int .i64 t.im] 42)) (w1.heap.size) 42 #[.int .i64 t.re, .int .i64 t.im] := by first | exact CellsAt.new w1 42 #[.int .i64 t.re, .int .i64 t.im] | simpa using CellsAt.new w1 42 #[.int .i64 t.re, .int .i64 t.im]
  have yp1 := Gr.alloc (z1) #[.int .i64 t.re, .int .i64 t.im] 42
  refine (HT3.out _).mono ?_
  rintro e w2 ⟨rfl, g2⟩
  have Fj_2 := CellsAt.gr (Yj_p1) g2
  have lj_2 := CellsAt.lt (Fj_2)
  have Fr_2 := CellsAt.gr (Yr_p1) g2
  have lr_2 := CellsAt.lt (Fr_2)
  have Ft_2 := CellsAt.gr (Yt_p1) g2
  have lt_2 := CellsAt.lt (Ft_2)
  have z2 := (yp1).trans g2
  clear Yj_p1 Yr_p1 Yt_p1 yp1 g2
  have ct0 := CellsAt.cell (Ft_2) 0
  have ct1 := CellsAt.cell (Ft_2) 1
  simp only [List.getElem?_toArray, List.getElem?_cons_zero, List.getElem?_cons_succ] at ct0 ct1
  go_wp2_with fail
  clear ct0 ct1
  have Yj_p2 : CellsAt (w2.alloc (.cells #[.int .i64 t3.re, .int .i64 t3.im] 42)) (w.heap.size) 48 #[.int .i64 ju.re, .int .i64 ju.im, .int .i64 jv.re, .int .i64 jv.im, .int .i64 jy.re, .int .i64 jy.im, .int .i64 jz.re, .int .i64 jz.im, .int .i64 ja.re, .int .i64 ja.im, .int .i64 jc.re, .int .i64 jc.im] := by first | exact CellsAt.alloc (Fj_2) (.cells #[.int .i64 t3.re, .int .i64 t3.im] 42) | simpa using CellsAt.alloc (Fj_2) (.cells #[.int .i64 t3.re, .int .i64 t3.im] 42)
  have Yr_p2 : CellsAt (w2.alloc (.cells #[.int .i64 t3.re, .int .i64 t3.im] 42)) (w.heap.size + 1) 42 #[.int .i64 0, .int .i64 0] := by first | exact CellsAt.alloc (Fr_2) (.cells #[.int .i64 t3.re, .int .i64 t3.im] 42) | simpa using CellsAt.alloc (Fr_2) (.cells #[.int .i64 t3.re, .int .i64 t3.im] 42)
  have Yt_p2 : CellsAt (w2.alloc (.cells #[.int .i64 t3.re, .int .i64 t3.im] 42)) (w1.heap.size) 42 #[.int .i64 t.re, .int .i64 t.im] := by first | exact CellsAt.alloc (Ft_2) (.cells #[.int .i64 t3.re, .int .i64 t3.im] 42) | simpa using CellsAt.alloc (Ft_2) (.cells #[.int .i64 t3.re, .int .i64 t3.im] 42)
  have Yt3_p2 : CellsAt (w2.alloc (.cells #[.int .i64 t3.re, .int .i64 t3.im] 42)) (w2.heap.size) 42 #[.int .i64 t3.re, .int .i64 t3.im] := by first | exact CellsAt.new w2 42 #[.int .i64 t3.re, .int .i64 t3.im] | simpa using CellsAt.new w2 42 #[.int .i64 t3.re, .int .i64 t3.im]
  have yp2 := Gr.alloc (z2) #[.int .i64 t3.re, .int .i64 t3.im] 42
  refine (HP.out _).mono ?_
  rintro e w3 ⟨rfl, g3⟩
  have Fj_3 := CellsAt.gr (Yj_p2) g3
  have lj_3 := CellsAt.lt (Fj_3)
  have Fr_3 := CellsAt.gr (Yr_p2) g3
  have lr_3 := CellsAt.lt (Fr_3)
  have Ft_3 := CellsAt.gr (Yt_p2) g3
  have lt_3 := CellsAt.lt (Ft_3)
  have Ft3_3 := CellsAt.gr (Yt3_p2) g3
  have lt3_3 := CellsAt.lt (Ft3_3)
  have z3 := (yp2).trans g3
  clear Yj_p2 Yr_p2 Yt_p2 Yt3_p2 yp2 g3
  have ct0 := CellsAt.cell (Ft_3) 0
  have ct1 := CellsAt.cell (Ft_3) 1
  have ct30 := CellsAt.cell (Ft3_3) 0
  have ct31 := CellsAt.cell (Ft3_3) 1
  simp only [List.getElem?_toArray, List.getElem?_cons_zero, List.getElem?_cons_succ] at ct0 ct1 ct30 ct31
  go_wp2_with fail
  clear ct0 ct1 ct30 ct31
  have Yj_p3 : CellsAt (w3.alloc (.cells #[.int .i64 p.re, .int .i64 p.im] 42)) (w.heap.size) 48 #[.int .i64 ju.re, .int .i64 ju.im, .int .i64 jv.re, .int .i64 jv.im, .int .i64 jy.re, .int .i64 jy.im, .int .i64 jz.re, .int .i64 jz.im, .int .i64 ja.re, .int .i64 ja.im, .int .i64 jc.re, .int .i64 jc.im] := by first | exact CellsAt.alloc (Fj_3) (.cells #[.int .i64 p.re, .int .i64 p.im] 42) | simpa using CellsAt.alloc (Fj_3) (.cells #[.int .i64 p.re, .int .i64 p.im] 42)
  have Yr_p3 : CellsAt (w3.alloc (.cells #[.int .i64 p.re, .int .i64 p.im] 42)) (w.heap.size + 1) 42 #[.int .i64 0, .int .i64 0] := by first | exact CellsAt.alloc (Fr_3) (.cells #[.int .i64 p.re, .int .i64 p.im] 42) | simpa using CellsAt.alloc (Fr_3) (.cells #[.int .i64 p.re, .int .i64 p.im] 42)
  have Yt_p3 : CellsAt (w3.alloc (.cells #[.int .i64 p.re, .int .i64 p.im] 42)) (w1.heap.size) 42 #[.int .i64 t.re, .int .i64 t.im] := by first | exact CellsAt.alloc (Ft_3) (.cells #[.int .i64 p.re, .int .i64 p.im] 42) | simpa using CellsAt.alloc (Ft_3) (.cells #[.int .i64 p.re, .int .i64 p.im] 42)
  have Yt3_p3 : CellsAt (w3.alloc (.cells #[.int .i64 p.re, .int .i64 p.im] 42)) (w2.heap.size) 42 #[.int .i64 t3.re, .int .i64 t3.im] := by first | exact CellsAt.alloc (Ft3_3) (.cells #[.int .i64 p.re, .int .i64 p.im] 42) | simpa using CellsAt.alloc (Ft3_3) (.cells #[.int .i64 p.re, .int .i64 p.im] 42)
  have Yp_p3 : CellsAt (w3.alloc (.cells #[.int .i64 p.re, .int .i64 p.im] 42)) (w3.heap.size) 42 #[.int .i64 p.re, .int .i64 p.im] := by first | exact CellsAt.new w3 42 #[.int .i64 p.re, .int .i64 p.im] | simpa using CellsAt.new w3 42 #[.int .i64 p.re, .int .i64 p.im]
  have yp3 := Gr.alloc (z3) #[.int .i64 p.re, .int .i64 p.im] 42
  refine (HL.out _).mono ?_
  rintro e w4 ⟨rfl, g4⟩
  have Fj_4 := CellsAt.gr (Yj_p3) g4
  have lj_4 := CellsAt.lt (Fj_4)
  have Fr_4 := CellsAt.gr (Yr_p3) g4
  have lr_4 := CellsAt.lt (Fr_4)
  have Ft_4 := CellsAt.gr (Yt_p3) g4
  have lt_4 := CellsAt.lt (Ft_4)
  have Ft3_4 := CellsAt.gr (Yt3_p3) g4
  have lt3_4 := CellsAt.lt (Ft3_4)
  have Fp_4 := CellsAt.gr (Yp_p3) g4
  have lp_4 := CellsAt.lt (Fp_4)
  have z4 := (yp3).trans g4
  clear Yj_p3 Yr_p3 Yt_p3 Yt3_p3 Yp_p3 yp3 g4
  go_wp2_with fail
  have Yj_p4 : CellsAt (w4.alloc (.cells #[.int .i64 d.re, .int .i64 d.im] 42)) (w.heap.size) 48 #[.int .i64 ju.re, .int .i64 ju.im, .int .i64 jv.re, .int .i64 jv.im, .int .i64 jy.re, .int .i64 jy.im, .int .i64 jz.re, .int .i64 jz.im, .int .i64 ja.re, .int .i64 ja.im, .int .i64 jc.re, .int .i64 jc.im] := by first | exact CellsAt.alloc (Fj_4) (.cells #[.int .i64 d.re, .int .i64 d.im] 42) | simpa using CellsAt.alloc (Fj_4) (.cells #[.int .i64 d.re, .int .i64 d.im] 42)
  have Yr_p4 : CellsAt (w4.alloc (.cells #[.int .i64 d.re, .int .i64 d.im] 42)) (w.heap.size + 1) 42 #[.int .i64 0, .int .i64 0] := by first | exact CellsAt.alloc (Fr_4) (.cells #[.int .i64 d.re, .int .i64 d.im] 42) | simpa using CellsAt.alloc (Fr_4) (.cells #[.int .i64 d.re, .int .i64 d.im] 42)
  have Yt_p4 : CellsAt (w4.alloc (.cells #[.int .i64 d.re, .int .i64 d.im] 42)) (w1.heap.size) 42 #[.int .i64 t.re, .int .i64 t.im] := by first | exact CellsAt.alloc (Ft_4) (.cells #[.int .i64 d.re, .int .i64 d.im] 42) | simpa using CellsAt.alloc (Ft_4) (.cells #[.int .i64 d.re, .int .i64 d.im] 42)
  have Yt3_p4 : CellsAt (w4.alloc (.cells #[.int .i64 d.re, .int .i64 d.im] 42)) (w2.heap.size) 42 #[.int .i64 t3.re, .int .i64 t3.im] := by first | exact CellsAt.alloc (Ft3_4) (.cells #[.int .i64 d.re, .int .i64 d.im] 42) | simpa using CellsAt.alloc (Ft3_4) (.cells #[.int .i64 d.re, .int .i64 d.im] 42)
  have Yp_p4 : CellsAt (w4.alloc (.cells #[.int .i64 d.re, .int .i64 d.im] 42)) (w3.heap.size) 42 #[.int .i64 p.re, .int .i64 p.im] := by first | exact CellsAt.alloc (Fp_4) (.cells #[.int .i64 d.re, .int .i64 d.im] 42) | simpa using CellsAt.alloc (Fp_4) (.cells #[.int .i64 d.re, .int .i64 d.im] 42)
  have Yd_p4 : CellsAt (w4.alloc (.cells #[.int .i64 d.re, .int .i64 d.im] 42)) (w4.heap.size) 42 #[.int .i64 d.re, .int .i64 d.im] := by first | exact CellsAt.new w4 42 #[.int .i64 d.re, .int .i64 d.im] | simpa using CellsAt.new w4 42 #[.int .i64 d.re, .int .i64 d.im]
  have yp4 := Gr.alloc (z4) #[.int .i64 d.re, .int .i64 d.im] 42
  refine (HN.out _).mono ?_
  rintro e w5 ⟨rfl, g5⟩
  have Fj_5 := CellsAt.gr (Yj_p4) g5
  have lj_5 := CellsAt.lt (Fj_5)
  have Fr_5 := CellsAt.gr (Yr_p4) g5
  have lr_5 := CellsAt.lt (Fr_5)
  have Ft_5 := CellsAt.gr (Yt_p4) g5
  have lt_5 := CellsAt.lt (Ft_5)
  have Ft3_5 := CellsAt.gr (Yt3_p4) g5
  have lt3_5 := CellsAt.lt (Ft3_5)
  have Fp_5 := CellsAt.gr (Yp_p4) g5
  have lp_5 := CellsAt.lt (Fp_5)
  have Fd_5 := CellsAt.gr (Yd_p4) g5
  have ld_5 := CellsAt.lt (Fd_5)
  have z5 := (yp4).trans g5
  clear Yj_p4 Yr_p4 Yt_p4 Yt3_p4 Yp_p4 Yd_p4 yp4 g5
  have cj0 := CellsAt.cell (Fj_5) 0
  have cj1 := CellsAt.cell (Fj_5) 1
  have cj2 := CellsAt.cell (Fj_5) 2
  have cj3 := CellsAt.cell (Fj_5) 3
  have cj4 := CellsAt.cell (Fj_5) 4
  have cj5 := CellsAt.cell (Fj_5) 5
  have cj6 := CellsAt.cell (Fj_5) 6
  have cj7 := CellsAt.cell (Fj_5) 7
  have cj8 := CellsAt.cell (Fj_5) 8
  have cj9 := CellsAt.cell (Fj_5) 9
  have cj10 := CellsAt.cell (Fj_5) 10
  have cj11 := CellsAt.cell (Fj_5) 11
  simp only [List.getElem?_toArray, List.getElem?_cons_zero, List.getElem?_cons_succ] at cj0 cj1 cj2 cj3 cj4 cj5 cj6 cj7 cj8 cj9 cj10 cj11
  have md0 := CellsAt.frozen (Fd_5) 0
  have cd0 := CellsAt.cell (Fd_5) 0
  simp only [List.getElem?_toArray, List.getElem?_cons_zero, List.getElem?_cons_succ] at cd0
  have md1 := CellsAt.frozen (Fd_5) 1
  have cd1 := CellsAt.cell (Fd_5) 1
  simp only [List.getElem?_toArray, List.getElem?_cons_zero, List.getElem?_cons_succ] at cd1
  go_wp2_with fail
  clear cj0 cj1 cj2 cj3 cj4 cj5 cj6 cj7 cj8 cj9 cj10 cj11 md0 cd0 md1 cd1
  have Yj_p5 : CellsAt ((w5.setCell ⟨w4.heap.size, 0, none⟩ (.int .i64 dd.re)).setCell ⟨w4.heap.size, 1, none⟩ (.int .i64 dd.im)) (w.heap.size) 48 #[.int .i64 ju.re, .int .i64 ju.im, .int .i64 jv.re, .int .i64 jv.im, .int .i64 jy.re, .int .i64 jy.im, .int .i64 jz.re, .int .i64 jz.im, .int .i64 ja.re, .int .i64 ja.im, .int .i64 jc.re, .int .i64 jc.im] := by first | exact CellsAt.other (CellsAt.other (Fj_5) (by omega) 0 (.int .i64 dd.re)) (by omega) 1 (.int .i64 dd.im) | simpa using CellsAt.other (CellsAt.other (Fj_5) (by omega) 0 (.int .i64 dd.re)) (by omega) 1 (.int .i64 dd.im)
  have Yr_p5 : CellsAt ((w5.setCell ⟨w4.heap.size, 0, none⟩ (.int .i64 dd.re)).setCell ⟨w4.heap.size, 1, none⟩ (.int .i64 dd.im)) (w.heap.size + 1) 42 #[.int .i64 0, .int .i64 0] := by first | exact CellsAt.other (CellsAt.other (Fr_5) (by omega) 0 (.int .i64 dd.re)) (by omega) 1 (.int .i64 dd.im) | simpa using CellsAt.other (CellsAt.other (Fr_5) (by omega) 0 (.int .i64 dd.re)) (by omega) 1 (.int .i64 dd.im)
  have Yt_p5 : CellsAt ((w5.setCell ⟨w4.heap.size, 0, none⟩ (.int .i64 dd.re)).setCell ⟨w4.heap.size, 1, none⟩ (.int .i64 dd.im)) (w1.heap.size) 42 #[.int .i64 t.re, .int .i64 t.im] := by first | exact CellsAt.other (CellsAt.other (Ft_5) (by omega) 0 (.int .i64 dd.re)) (by omega) 1 (.int .i64 dd.im) | simpa using CellsAt.other (CellsAt.other (Ft_5) (by omega) 0 (.int .i64 dd.re)) (by omega) 1 (.int .i64 dd.im)
  have Yt3_p5 : CellsAt ((w5.setCell ⟨w4.heap.size, 0, none⟩ (.int .i64 dd.re)).setCell ⟨w4.heap.size, 1, none⟩ (.int .i64 dd.im)) (w2.heap.size) 42 #[.int .i64 t3.re, .int .i64 t3.im] := by first | exact CellsAt.other (CellsAt.other (Ft3_5) (by omega) 0 (.int .i64 dd.re)) (by omega) 1 (.int .i64 dd.im) | simpa using CellsAt.other (CellsAt.other (Ft3_5) (by omega) 0 (.int .i64 dd.re)) (by omega) 1 (.int .i64 dd.im)
  have Yp_p5 : CellsAt ((w5.setCell ⟨w4.heap.size, 0, none⟩ (.int .i64 dd.re)).setCell ⟨w4.heap.size, 1, none⟩ (.int .i64 dd.im)) (w3.heap.size) 42 #[.int .i64 p.re, .int .i64 p.im] := by first | exact CellsAt.other (CellsAt.other (Fp_5) (by omega) 0 (.int .i64 dd.re)) (by omega) 1 (.int .i64 dd.im) | simpa using CellsAt.other (CellsAt.other (Fp_5) (by omega) 0 (.int .i64 dd.re)) (by omega) 1 (.int .i64 dd.im)
  have Yd_p5 : CellsAt ((w5.setCell ⟨w4.heap.size, 0, none⟩ (.int .i64 dd.re)).setCell ⟨w4.heap.size, 1, none⟩ (.int .i64 dd.im)) (w4.heap.size) 42 #[.int .i64 dd.re, .int .i64 dd.im] := by first | exact CellsAt.set (CellsAt.set (Fd_5) 0 (.int .i64 dd.re)) 1 (.int .i64 dd.im) | simpa using CellsAt.set (CellsAt.set (Fd_5) 0 (.int .i64 dd.re)) 1 (.int .i64 dd.im)
  have yp5 := Gr.setCell (Gr.setCell (z5) (a := ⟨w4.heap.size, 0, none⟩) (by first | omega | (simp only; omega)) (.int .i64 dd.re)) (a := ⟨w4.heap.size, 1, none⟩) (by first | omega | (simp only; omega)) (.int .i64 dd.im)
  refine (HU.out _).mono ?_
  rintro e w6 ⟨rfl, g6⟩
  have Fj_6 := CellsAt.gr (Yj_p5) g6
  have lj_6 := CellsAt.lt (Fj_6)
  have Fr_6 := CellsAt.gr (Yr_p5) g6
  have lr_6 := CellsAt.lt (Fr_6)
  have Ft_6 := CellsAt.gr (Yt_p5) g6
  have lt_6 := CellsAt.lt (Ft_6)
  have Ft3_6 := CellsAt.gr (Yt3_p5) g6
  have lt3_6 := CellsAt.lt (Ft3_6)
  have Fp_6 := CellsAt.gr (Yp_p5) g6
  have lp_6 := CellsAt.lt (Fp_6)
  have Fd_6 := CellsAt.gr (Yd_p5) g6
  have ld_6 := CellsAt.lt (Fd_6)
  have z6 := (yp5).trans g6
  clear Yj_p5 Yr_p5 Yt_p5 Yt3_p5 Yp_p5 Yd_p5 yp5 g6
  have cd0 := CellsAt.cell (Fd_6) 0
  have cd1 := CellsAt.cell (Fd_6) 1
  have cp0 := CellsAt.cell (Fp_6) 0
  have cp1 := CellsAt.cell (Fp_6) 1
  simp only [List.getElem?_toArray, List.getElem?_cons_zero, List.getElem?_cons_succ] at cd0 cd1 cp0 cp1
  have mr0 := CellsAt.frozen (Fr_6) 0
  have cr0 := CellsAt.cell (Fr_6) 0
  simp only [List.getElem?_toArray, List.getElem?_cons_zero, List.getElem?_cons_succ] at cr0
  have mr1 := CellsAt.frozen (Fr_6) 1
  have cr1 := CellsAt.cell (Fr_6) 1
  simp only [List.getElem?_toArray, List.getElem?_cons_zero, List.getElem?_cons_succ] at cr1
  go_wp2_with fail
  clear cd0 cd1 cp0 cp1 mr0 cr0 mr1 cr1
  have Yj_p6 : CellsAt (w6.alloc (.cells #[.int .i64 U.re, .int .i64 U.im] 42)) (w.heap.size) 48 #[.int .i64 ju.re, .int .i64 ju.im, .int .i64 jv.re, .int .i64 jv.im, .int .i64 jy.re, .int .i64 jy.im, .int .i64 jz.re, .int .i64 jz.im, .int .i64 ja.re, .int .i64 ja.im, .int .i64 jc.re, .int .i64 jc.im] := by first | exact CellsAt.alloc (Fj_6) (.cells #[.int .i64 U.re, .int .i64 U.im] 42) | simpa using CellsAt.alloc (Fj_6) (.cells #[.int .i64 U.re, .int .i64 U.im] 42)
  have Yr_p6 : CellsAt (w6.alloc (.cells #[.int .i64 U.re, .int .i64 U.im] 42)) (w.heap.size + 1) 42 #[.int .i64 0, .int .i64 0] := by first | exact CellsAt.alloc (Fr_6) (.cells #[.int .i64 U.re, .int .i64 U.im] 42) | simpa using CellsAt.alloc (Fr_6) (.cells #[.int .i64 U.re, .int .i64 U.im] 42)
  have Yt_p6 : CellsAt (w6.alloc (.cells #[.int .i64 U.re, .int .i64 U.im] 42)) (w1.heap.size) 42 #[.int .i64 t.re, .int .i64 t.im] := by first | exact CellsAt.alloc (Ft_6) (.cells #[.int .i64 U.re, .int .i64 U.im] 42) | simpa using CellsAt.alloc (Ft_6) (.cells #[.int .i64 U.re, .int .i64 U.im] 42)
  have Yt3_p6 : CellsAt (w6.alloc (.cells #[.int .i64 U.re, .int .i64 U.im] 42)) (w2.heap.size) 42 #[.int .i64 t3.re, .int .i64 t3.im] := by first | exact CellsAt.alloc (Ft3_6) (.cells #[.int .i64 U.re, .int .i64 U.im] 42) | simpa using CellsAt.alloc (Ft3_6) (.cells #[.int .i64 U.re, .int .i64 U.im] 42)
  have Yp_p6 : CellsAt (w6.alloc (.cells #[.int .i64 U.re, .int .i64 U.im] 42)) (w3.heap.size) 42 #[.int .i64 p.re, .int .i64 p.im] := by first | exact CellsAt.alloc (Fp_6) (.cells #[.int .i64 U.re, .int .i64 U.im] 42) | simpa using CellsAt.alloc (Fp_6) (.cells #[.int .i64 U.re, .int .i64 U.im] 42)
  have Yd_p6 : CellsAt (w6.alloc (.cells #[.int .i64 U.re, .int .i64 U.im] 42)) (w4.heap.size) 42 #[.int .i64 dd.re, .int .i64 dd.im] := by first | exact CellsAt.alloc (Fd_6) (.cells #[.int .i64 U.re, .int .i64 U.im] 42) | simpa using CellsAt.alloc (Fd_6) (.cells #[.int .i64 U.re, .int .i64 U.im] 42)
  have Ys_p6 : CellsAt (w6.alloc (.cells #[.int .i64 U.re, .int .i64 U.im] 42)) (w6.heap.size) 42 #[.int .i64 U.re, .int .i64 U.im] := by first | exact CellsAt.new w6 42 #[.int .i64 U.re, .int .i64 U.im] | simpa using CellsAt.new w6 42 #[.int .i64 U.re, .int .i64 U.im]
  have yp6 := Gr.alloc (z6) #[.int .i64 U.re, .int .i64 U.im] 42
  refine (HS.out _).mono ?_
  rintro e w7 ⟨rfl, g7⟩
  have Fj_7 := CellsAt.gr (Yj_p6) g7
  have lj_7 := CellsAt.lt (Fj_7)
  have Fr_7 := CellsAt.gr (Yr_p6) g7
  have lr_7 := CellsAt.lt (Fr_7)
  have Ft_7 := CellsAt.gr (Yt_p6) g7
  have lt_7 := CellsAt.lt (Ft_7)
  have Ft3_7 := CellsAt.gr (Yt3_p6) g7
  have lt3_7 := CellsAt.lt (Ft3_7)
  have Fp_7 := CellsAt.gr (Yp_p6) g7
  have lp_7 := CellsAt.lt (Fp_7)
  have Fd_7 := CellsAt.gr (Yd_p6) g7
  have ld_7 := CellsAt.lt (Fd_7)
  have Fs_7 := CellsAt.gr (Ys_p6) g7
  have ls_7 := CellsAt.lt (Fs_7)
  have z7 := (yp6).trans g7
  clear Yj_p6 Yr_p6 Yt_p6 Yt3_p6 Yp_p6 Yd_p6 Ys_p6 yp6 g7
  have mr0 := CellsAt.frozen (Fr_7) 0
  have cr0 := CellsAt.cell (Fr_7) 0
  simp only [List.getElem?_toArray, List.getElem?_cons_zero, List.getElem?_cons_succ] at cr0
  have mr1 := CellsAt.frozen (Fr_7) 1
  have cr1 := CellsAt.cell (Fr_7) 1
  simp only [List.getElem?_toArray, List.getElem?_cons_zero, List.getElem?_cons_succ] at cr1
  go_wp2_with fail
  clear mr0 cr0 mr1 cr1
  refine (HF.out _).mono ?_
  rintro e w8 ⟨rfl, g8⟩
  have Fj_8 := CellsAt.gr (Fj_7) g8
  have lj_8 := CellsAt.lt (Fj_8)
  have Fr_8 := CellsAt.gr (Fr_7) g8
  have lr_8 := CellsAt.lt (Fr_8)
  have Ft_8 := CellsAt.gr (Ft_7) g8
  have lt_8 := CellsAt.lt (Ft_8)
  have Ft3_8 := CellsAt.gr (Ft3_7) g8
  have lt3_8 := CellsAt.lt (Ft3_8)
  have Fp_8 := CellsAt.gr (Fp_7) g8
  have lp_8 := CellsAt.lt (Fp_8)
  have Fd_8 := CellsAt.gr (Fd_7) g8
  have ld_8 := CellsAt.lt (Fd_8)
  have Fs_8 := CellsAt.gr (Fs_7) g8
  have ls_8 := CellsAt.lt (Fs_8)
  have z8 := (z7).trans g8
  clear Fj_7 Fr_7 Ft_7 Ft3_7 Fp_7 Fd_7 Fs_7 z7 g8
  have mr0 := CellsAt.frozen (Fr_8) 0
  have cr0 := CellsAt.cell (Fr_8) 0
  simp only [List.getElem?_toArray, List.getElem?_cons_zero, List.getElem?_cons_succ] at cr0
  have mr1 := CellsAt.frozen (Fr_8) 1
  have cr1 := CellsAt.cell (Fr_8) 1
  simp only [List.getElem?_toArray, List.getElem?_cons_zero, List.getElem?_cons_succ] at cr1
  go_wp2_with fail
  clear mr0 cr0 mr1 cr1
  have Yj_p7 : CellsAt ((w8.setCell ⟨w.heap.size + 1, 0, none⟩ (.int .i64 o.re)).setCell ⟨w.heap.size + 1, 1, none⟩ (.int .i64 o.im)) (w.heap.size) 48 #[.int .i64 ju.re, .int .i64 ju.im, .int .i64 jv.re, .int .i64 jv.im, .int .i64 jy.re, .int .i64 jy.im, .int .i64 jz.re, .int .i64 jz.im, .int .i64 ja.re, .int .i64 ja.im, .int .i64 jc.re, .int .i64 jc.im] := by first | exact CellsAt.other (CellsAt.other (Fj_8) (by omega) 0 (.int .i64 o.re)) (by omega) 1 (.int .i64 o.im) | simpa using CellsAt.other (CellsAt.other (Fj_8) (by omega) 0 (.int .i64 o.re)) (by omega) 1 (.int .i64 o.im)
  have Yr_p7 : CellsAt ((w8.setCell ⟨w.heap.size + 1, 0, none⟩ (.int .i64 o.re)).setCell ⟨w.heap.size + 1, 1, none⟩ (.int .i64 o.im)) (w.heap.size + 1) 42 #[.int .i64 o.re, .int .i64 o.im] := by first | exact CellsAt.set (CellsAt.set (Fr_8) 0 (.int .i64 o.re)) 1 (.int .i64 o.im) | simpa using CellsAt.set (CellsAt.set (Fr_8) 0 (.int .i64 o.re)) 1 (.int .i64 o.im)
  have Yt_p7 : CellsAt ((w8.setCell ⟨w.heap.size + 1, 0, none⟩ (.int .i64 o.re)).setCell ⟨w.heap.size + 1, 1, none⟩ (.int .i64 o.im)) (w1.heap.size) 42 #[.int .i64 t.re, .int .i64 t.im] := by first | exact CellsAt.other (CellsAt.other (Ft_8) (by omega) 0 (.int .i64 o.re)) (by omega) 1 (.int .i64 o.im) | simpa using CellsAt.other (CellsAt.other (Ft_8) (by omega) 0 (.int .i64 o.re)) (by omega) 1 (.int .i64 o.im)
  have Yt3_p7 : CellsAt ((w8.setCell ⟨w.heap.size + 1, 0, none⟩ (.int .i64 o.re)).setCell ⟨w.heap.size + 1, 1, none⟩ (.int .i64 o.im)) (w2.heap.size) 42 #[.int .i64 t3.re, .int .i64 t3.im] := by first | exact CellsAt.other (CellsAt.other (Ft3_8) (by omega) 0 (.int .i64 o.re)) (by omega) 1 (.int .i64 o.im) | simpa using CellsAt.other (CellsAt.other (Ft3_8) (by omega) 0 (.int .i64 o.re)) (by omega) 1 (.int .i64 o.im)
  have Yp_p7 : CellsAt ((w8.setCell ⟨w.heap.size + 1, 0, none⟩ (.int .i64 o.re)).setCell ⟨w.heap.size + 1, 1, none⟩ (.int .i64 o.im)) (w3.heap.size) 42 #[.int .i64 p.re, .int .i64 p.im] := by first | exact CellsAt.other (CellsAt.other (Fp_8) (by omega) 0 (.int .i64 o.re)) (by omega) 1 (.int .i64 o.im) | simpa using CellsAt.other (CellsAt.other (Fp_8) (by omega) 0 (.int .i64 o.re)) (by omega) 1 (.int .i64 o.im)
  have Yd_p7 : CellsAt ((w8.setCell ⟨w.heap.size + 1, 0, none⟩ (.int .i64 o.re)).setCell ⟨w.heap.size + 1, 1, none⟩ (.int .i64 o.im)) (w4.heap.size) 42 #[.int .i64 dd.re, .int .i64 dd.im] := by first | exact CellsAt.other (CellsAt.other (Fd_8) (by omega) 0 (.int .i64 o.re)) (by omega) 1 (.int .i64 o.im) | simpa using CellsAt.other (CellsAt.other (Fd_8) (by omega) 0 (.int .i64 o.re)) (by omega) 1 (.int .i64 o.im)
  have Ys_p7 : CellsAt ((w8.setCell ⟨w.heap.size + 1, 0, none⟩ (.int .i64 o.re)).setCell ⟨w.heap.size + 1, 1, none⟩ (.int .i64 o.im)) (w6.heap.size) 42 #[.int .i64 U.re, .int .i64 U.im] := by first | exact CellsAt.other (CellsAt.other (Fs_8) (by omega) 0 (.int .i64 o.re)) (by omega) 1 (.int .i64 o.im) | simpa using CellsAt.other (CellsAt.other (Fs_8) (by omega) 0 (.int .i64 o.re)) (by omega) 1 (.int .i64 o.im)
  have yp7 := Gr.setCell (Gr.setCell (z8) (a := ⟨w.heap.size + 1, 0, none⟩) (by first | omega | (simp only; omega)) (.int .i64 o.re)) (a := ⟨w.heap.size + 1, 1, none⟩) (by first | omega | (simp only; omega)) (.int .i64 o.im)
  generalize ((w8.setCell ⟨w.heap.size + 1, 0, none⟩ (.int .i64 o.re)).setCell ⟨w.heap.size + 1, 1, none⟩ (.int .i64 o.im)) = uf at *
  have cr0 := CellsAt.cell (Yr_p7) 0
  have cr1 := CellsAt.cell (Yr_p7) 1
  simp only [List.getElem?_toArray, List.getElem?_cons_zero, List.getElem?_cons_succ] at cr0 cr1
  refine bodyPost_ret (v := .agg #[.int .i64 o.re, .int .i64 o.im]) ?_ rfl ⟨rfl, yp7⟩
  simp [results, Tryz.results27, go_sem, *]

set_option maxHeartbeats 4000000 in
theorem rJoin_true_1_of (bits mo b1 b2 : Int) (ju jv jy jz ja jc t t3 p d dd U V s o : Gi) (h1 : wrap64 (bits + 1) = b1) (h2 : wrap64 (bits + 2) = b2)
    (HT : Hid (∀ W, Calls Tryz.prog 39 #[.agg #[.int .i64 (jy).re, .int .i64 (jy).im], .agg #[.int .i64 (ja).re, .int .i64 (ja).im]] W fun e w' => e = .returned (.agg #[.int .i64 (t).re, .int .i64 (t).im]) ∧ Gr W w')) (HT3 : Hid (∀ W, Calls Tryz.prog 39 #[.agg #[.int .i64 (jz).re, .int .i64 (jz).im], .agg #[.int .i64 (jc).re, .int .i64 (jc).im]] W fun e w' => e = .returned (.agg #[.int .i64 (t3).re, .int .i64 (t3).im]) ∧ Gr W w')) (HP : Hid (∀ W, Calls Tryz.prog 23 #[.agg #[.int .i64 (t).re, .int .i64 (t).im], .agg #[.int .i64 (t3).re, .int .i64 (t3).im]] W fun e w' => e = .returned (.agg #[.int .i64 (p).re, .int .i64 (p).im]) ∧ Gr W w')) (HL : Hid (∀ W, Calls Tryz.prog 24 #[.agg #[.int .i64 (t).re, .int .i64 (t).im], .agg #[.int .i64 (t3).re, .int .i64 (t3).im]] W fun e w' => e = .returned (.agg #[.int .i64 (d).re, .int .i64 (d).im]) ∧ Gr W w'))
    (HN : Hid (∀ W, Calls Tryz.prog 40 #[.agg #[.int .i64 (d).re, .int .i64 (d).im], .int .i64 1] W fun e w' => e = .returned (.agg #[.int .i64 (dd).re, .int .i64 (dd).im]) ∧ Gr W w')) (HU : Hid (∀ W, Calls Tryz.prog 41 #[.agg #[.int .i64 (ju).re, .int .i64 (ju).im], .int .i64 b1] W fun e w' => e = .returned (.agg #[.int .i64 (U).re, .int .i64 (U).im]) ∧ Gr W w')) (HV : Hid (∀ W, Calls Tryz.prog 41 #[.agg #[.int .i64 (jv).re, .int .i64 (jv).im], .int .i64 b1] W fun e w' => e = .returned (.agg #[.int .i64 (V).re, .int .i64 (V).im]) ∧ Gr W w'))
    (HS : Hid (∀ W, Calls Tryz.prog 23 #[.agg #[.int .i64 (V).re, .int .i64 (V).im], .agg #[.int .i64 (dd).re, .int .i64 (dd).im]] W fun e w' => e = .returned (.agg #[.int .i64 (s).re, .int .i64 (s).im]) ∧ Gr W w')) (HF : Hid (∀ W, Calls Tryz.prog 22 #[.agg #[.int .i64 (s).re, .int .i64 (s).im], .int .i64 b2, .int .i64 mo] W fun e w' => e = .returned (.agg #[.int .i64 (o).re, .int .i64 (o).im]) ∧ Gr W w')) (w : World) :
    Calls Tryz.prog 27 #[.agg #[.int .i64 ju.re, .int .i64 ju.im, .int .i64 jv.re, .int .i64 jv.im, .int .i64 jy.re, .int .i64 jy.im, .int .i64 jz.re, .int .i64 jz.im, .int .i64 ja.re, .int .i64 ja.im, .int .i64 jc.re, .int .i64 jc.im], .int .i64 1, .int .i64 bits, .int .i64 mo, .bool true] w fun e w' => e = .returned (.agg #[.int .i64 (o).re, .int .i64 (o).im]) ∧ Gr w w' := by
  go_enter Tryz.func27, Tryz.ntmps27
  go_wp2_with fail
  obtain ⟨u0, hU⟩ : ∃ uu, uu = ((w.alloc (.cells #[.int .i64 ju.re, .int .i64 ju.im, .int .i64 jv.re, .int .i64 jv.im, .int .i64 jy.re, .int .i64 jy.im, .int .i64 jz.re, .int .i64 jz.im, .int .i64 ja.re, .int .i64 ja.im, .int .i64 jc.re, .int .i64 jc.im] 48)).alloc (.cells #[.int .i64 0, .int .i64 0] 42)) := ⟨_, rfl⟩
  have gu : Gr w u0 := by rw [hU]; exact ((Gr.refl w).alloc _ _).alloc _ _
  have R0 : CellsAt u0 (w.heap.size) 48 #[.int .i64 ju.re, .int .i64 ju.im, .int .i64 jv.re, .int .i64 jv.im, .int .i64 jy.re, .int .i64 jy.im, .int .i64 jz.re, .int .i64 jz.im, .int .i64 ja.re, .int .i64 ja.im, .int .i64 jc.re, .int .i64 jc.im] := by
    rw [hU]
    have := ((CellsAt.new w 48 #[.int .i64 ju.re, .int .i64 ju.im, .int .i64 jv.re, .int .i64 jv.im, .int .i64 jy.re, .int .i64 jy.im, .int .i64 jz.re, .int .i64 jz.im, .int .i64 ja.re, .int .i64 ja.im, .int .i64 jc.re, .int .i64 jc.im]).alloc (.cells #[.int .i64 0, .int .i64 0] 42))
    simpa only [World.size_alloc] using this
  have R1 : CellsAt u0 (w.heap.size + 1) 42 #[.int .i64 0, .int .i64 0] := by
    rw [hU]
    have := (CellsAt.new (w.alloc (.cells #[.int .i64 ju.re, .int .i64 ju.im, .int .i64 jv.re, .int .i64 jv.im, .int .i64 jy.re, .int .i64 jy.im, .int .i64 jz.re, .int .i64 jz.im, .int .i64 ja.re, .int .i64 ja.im, .int .i64 jc.re, .int .i64 jc.im] 48)) 42 #[.int .i64 0, .int .i64 0])
    simpa only [World.size_alloc] using this
  rw [← hU]
  clear hU
  have lj := R0.lt
  have lr := R1.lt
  refine (HT.out _).mono ?_
  rintro e w1 ⟨rfl, g1⟩
  have Fj_1 := CellsAt.gr (R0) g1
  have lj_1 := CellsAt.lt (Fj_1)
  have Fr_1 := CellsAt.gr (R1) g1
  have lr_1 := CellsAt.lt (Fr_1)
  have z1 := (gu).trans g1
  clear R0 R1 gu g1
  have cj0 := CellsAt.cell (Fj_1) 0
  have cj1 := CellsAt.cell (Fj_1) 1
  have cj2 := CellsAt.cell (Fj_1) 2
  have cj3 := CellsAt.cell (Fj_1) 3
  have cj4 := CellsAt.cell (Fj_1) 4
  have cj5 := CellsAt.cell (Fj_1) 5
  have cj6 := CellsAt.cell (Fj_1) 6
  have cj7 := CellsAt.cell (Fj_1) 7
  have cj8 := CellsAt.cell (Fj_1) 8
  have cj9 := CellsAt.cell (Fj_1) 9
  have cj10 := CellsAt.cell (Fj_1) 10
  have cj11 := CellsAt.cell (Fj_1) 11
  simp only [List.getElem?_toArray, List.getElem?_cons_zero, List.getElem?_cons_succ] at cj0 cj1 cj2 cj3 cj4 cj5 cj6 cj7 cj8 cj9 cj10 cj11
  go_wp2_with fail
  clear cj0 cj1 cj2 cj3 cj4 cj5 cj6 cj7 cj8 cj9 cj10 cj11
  have Yj_p1 : CellsAt (w1.alloc (.cells #[.int .i64 t.re, .int .i64 t.im] 42)) (w.heap.size) 48 #[.int .i64 ju.re, .int .i64 ju.im, .int .i64 jv.re, .int .i64 jv.im, .int .i64 jy.re, .int .i64 jy.im, .int .i64 jz.re, .int .i64 jz.im, .int .i64 ja.re, .int .i64 ja.im, .int .i64 jc.re, .int .i64 jc.im] := by first | exact CellsAt.alloc (Fj_1) (.cells #[.int .i64 t.re, .int .i64 t.im] 42) | simpa using CellsAt.alloc (Fj_1) (.cells #[.int .i64 t.re, .int .i64 t.im] 42)
  have Yr_p1 : CellsAt (w1.alloc (.cells #[.int .i64 t.re, .int .i64 t.im] 42)) (w.heap.size + 1) 42 #[.int .i64 0, .int .i64 0] := by first | exact CellsAt.alloc (Fr_1) (.cells #[.int .i64 t.re, .int .i64 t.im] 42) | simpa using CellsAt.alloc (Fr_1) (.cells #[.int .i64 t.re, .int .i64 t.im] 42)
  have Yt_p1 : CellsAt (w1.alloc (.cells #[.int .i64 t.re, .int .i64 t.im] 42)) (w1.heap.size) 42 #[.int .i64 t.re, .int .i64 t.im] := by first | exact CellsAt.new w1 42 #[.int .i64 t.re, .int .i64 t.im] | simpa using CellsAt.new w1 42 #[.int .i64 t.re, .int .i64 t.im]
  have yp1 := Gr.alloc (z1) #[.int .i64 t.re, .int .i64 t.im] 42
  refine (HT3.out _).mono ?_
  rintro e w2 ⟨rfl, g2⟩
  have Fj_2 := CellsAt.gr (Yj_p1) g2
  have lj_2 := CellsAt.lt (Fj_2)
  have Fr_2 := CellsAt.gr (Yr_p1) g2
  have lr_2 := CellsAt.lt (Fr_2)
  have Ft_2 := CellsAt.gr (Yt_p1) g2
  have lt_2 := CellsAt.lt (Ft_2)
  have z2 := (yp1).trans g2
  clear Yj_p1 Yr_p1 Yt_p1 yp1 g2
  have ct0 := CellsAt.cell (Ft_2) 0
  have ct1 := CellsAt.cell (Ft_2) 1
  simp only [List.getElem?_toArray, List.getElem?_cons_zero, List.getElem?_cons_succ] at ct0 ct1
  go_wp2_with fail
  clear ct0 ct1
  have Yj_p2 : CellsAt (w2.alloc (.cells #[.int .i64 t3.re, .int .i64 t3.im] 42)) (w.heap.size) 48 #[.int .i64 ju.re, .int .i64 ju.im, .int .i64 jv.re, .int .i64 jv.im, .int .i64 jy.re, .int .i64 jy.im, .int .i64 jz.re, .int .i64 jz.im, .int .i64 ja.re, .int .i64 ja.im, .int .i64 jc.re, .int .i64 jc.im] := by first | exact CellsAt.alloc (Fj_2) (.cells #[.int .i64 t3.re, .int .i64 t3.im] 42) | simpa using CellsAt.alloc (Fj_2) (.cells #[.int .i64 t3.re, .int .i64 t3.im] 42)
  have Yr_p2 : CellsAt (w2.alloc (.cells #[.int .i64 t3.re, .int .i64 t3.im] 42)) (w.heap.size + 1) 42 #[.int .i64 0, .int .i64 0] := by first | exact CellsAt.alloc (Fr_2) (.cells #[.int .i64 t3.re, .int .i64 t3.im] 42) | simpa using CellsAt.alloc (Fr_2) (.cells #[.int .i64 t3.re, .int .i64 t3.im] 42)
  have Yt_p2 : CellsAt (w2.alloc (.cells #[.int .i64 t3.re, .int .i64 t3.im] 42)) (w1.heap.size) 42 #[.int .i64 t.re, .int .i64 t.im] := by first | exact CellsAt.alloc (Ft_2) (.cells #[.int .i64 t3.re, .int .i64 t3.im] 42) | simpa using CellsAt.alloc (Ft_2) (.cells #[.int .i64 t3.re, .int .i64 t3.im] 42)
  have Yt3_p2 : CellsAt (w2.alloc (.cells #[.int .i64 t3.re, .int .i64 t3.im] 42)) (w2.heap.size) 42 #[.int .i64 t3.re, .int .i64 t3.im] := by first | exact CellsAt.new w2 42 #[.int .i64 t3.re, .int .i64 t3.im] | simpa using CellsAt.new w2 42 #[.int .i64 t3.re, .int .i64 t3.im]
  have yp2 := Gr.alloc (z2) #[.int .i64 t3.re, .int .i64 t3.im] 42
  refine (HP.out _).mono ?_
  rintro e w3 ⟨rfl, g3⟩
  have Fj_3 := CellsAt.gr (Yj_p2) g3
  have lj_3 := CellsAt.lt (Fj_3)
  have Fr_3 := CellsAt.gr (Yr_p2) g3
  have lr_3 := CellsAt.lt (Fr_3)
  have Ft_3 := CellsAt.gr (Yt_p2) g3
  have lt_3 := CellsAt.lt (Ft_3)
  have Ft3_3 := CellsAt.gr (Yt3_p2) g3
  have lt3_3 := CellsAt.lt (Ft3_3)
  have z3 := (yp2).trans g3
  clear Yj_p2 Yr_p2 Yt_p2 Yt3_p2 yp2 g3
  have ct0 := CellsAt.cell (Ft_3) 0
  have ct1 := CellsAt.cell (Ft_3) 1
  have ct30 := CellsAt.cell (Ft3_3) 0
  have ct31 := CellsAt.cell (Ft3_3) 1
  simp only [List.getElem?_toArray, List.getElem?_cons_zero, List.getElem?_cons_succ] at ct0 ct1 ct30 ct31
  go_wp2_with fail
  clear ct0 ct1 ct30 ct31
  have Yj_p3 : CellsAt (w3.alloc (.cells #[.int .i64 p.re, .int .i64 p.im] 42)) (w.heap.size) 48 #[.int .i64 ju.re, .int .i64 ju.im, .int .i64 jv.re, .int .i64 jv.im, .int .i64 jy.re, .int .i64 jy.im, .int .i64 jz.re, .int .i64 jz.im, .int .i64 ja.re, .int .i64 ja.im, .int .i64 jc.re, .int .i64 jc.im] := by first | exact CellsAt.alloc (Fj_3) (.cells #[.int .i64 p.re, .int .i64 p.im] 42) | simpa using CellsAt.alloc (Fj_3) (.cells #[.int .i64 p.re, .int .i64 p.im] 42)
  have Yr_p3 : CellsAt (w3.alloc (.cells #[.int .i64 p.re, .int .i64 p.im] 42)) (w.heap.size + 1) 42 #[.int .i64 0, .int .i64 0] := by first | exact CellsAt.alloc (Fr_3) (.cells #[.int .i64 p.re, .int .i64 p.im] 42) | simpa using CellsAt.alloc (Fr_3) (.cells #[.int .i64 p.re, .int .i64 p.im] 42)
  have Yt_p3 : CellsAt (w3.alloc (.cells #[.int .i64 p.re, .int .i64 p.im] 42)) (w1.heap.size) 42 #[.int .i64 t.re, .int .i64 t.im] := by first | exact CellsAt.alloc (Ft_3) (.cells #[.int .i64 p.re, .int .i64 p.im] 42) | simpa using CellsAt.alloc (Ft_3) (.cells #[.int .i64 p.re, .int .i64 p.im] 42)
  have Yt3_p3 : CellsAt (w3.alloc (.cells #[.int .i64 p.re, .int .i64 p.im] 42)) (w2.heap.size) 42 #[.int .i64 t3.re, .int .i64 t3.im] := by first | exact CellsAt.alloc (Ft3_3) (.cells #[.int .i64 p.re, .int .i64 p.im] 42) | simpa using CellsAt.alloc (Ft3_3) (.cells #[.int .i64 p.re, .int .i64 p.im] 42)
  have Yp_p3 : CellsAt (w3.alloc (.cells #[.int .i64 p.re, .int .i64 p.im] 42)) (w3.heap.size) 42 #[.int .i64 p.re, .int .i64 p.im] := by first | exact CellsAt.new w3 42 #[.int .i64 p.re, .int .i64 p.im] | simpa using CellsAt.new w3 42 #[.int .i64 p.re, .int .i64 p.im]
  have yp3 := Gr.alloc (z3) #[.int .i64 p.re, .int .i64 p.im] 42
  refine (HL.out _).mono ?_
  rintro e w4 ⟨rfl, g4⟩
  have Fj_4 := CellsAt.gr (Yj_p3) g4
  have lj_4 := CellsAt.lt (Fj_4)
  have Fr_4 := CellsAt.gr (Yr_p3) g4
  have lr_4 := CellsAt.lt (Fr_4)
  have Ft_4 := CellsAt.gr (Yt_p3) g4
  have lt_4 := CellsAt.lt (Ft_4)
  have Ft3_4 := CellsAt.gr (Yt3_p3) g4
  have lt3_4 := CellsAt.lt (Ft3_4)
  have Fp_4 := CellsAt.gr (Yp_p3) g4
  have lp_4 := CellsAt.lt (Fp_4)
  have z4 := (yp3).trans g4
  clear Yj_p3 Yr_p3 Yt_p3 Yt3_p3 Yp_p3 yp3 g4
  go_wp2_with fail
  have Yj_p4 : CellsAt (w4.alloc (.cells #[.int .i64 d.re, .int .i64 d.im] 42)) (w.heap.size) 48 #[.int .i64 ju.re, .int .i64 ju.im, .int .i64 jv.re, .int .i64 jv.im, .int .i64 jy.re, .int .i64 jy.im, .int .i64 jz.re, .int .i64 jz.im, .int .i64 ja.re, .int .i64 ja.im, .int .i64 jc.re, .int .i64 jc.im] := by first | exact CellsAt.alloc (Fj_4) (.cells #[.int .i64 d.re, .int .i64 d.im] 42) | simpa using CellsAt.alloc (Fj_4) (.cells #[.int .i64 d.re, .int .i64 d.im] 42)
  have Yr_p4 : CellsAt (w4.alloc (.cells #[.int .i64 d.re, .int .i64 d.im] 42)) (w.heap.size + 1) 42 #[.int .i64 0, .int .i64 0] := by first | exact CellsAt.alloc (Fr_4) (.cells #[.int .i64 d.re, .int .i64 d.im] 42) | simpa using CellsAt.alloc (Fr_4) (.cells #[.int .i64 d.re, .int .i64 d.im] 42)
  have Yt_p4 : CellsAt (w4.alloc (.cells #[.int .i64 d.re, .int .i64 d.im] 42)) (w1.heap.size) 42 #[.int .i64 t.re, .int .i64 t.im] := by first | exact CellsAt.alloc (Ft_4) (.cells #[.int .i64 d.re, .int .i64 d.im] 42) | simpa using CellsAt.alloc (Ft_4) (.cells #[.int .i64 d.re, .int .i64 d.im] 42)
  have Yt3_p4 : CellsAt (w4.alloc (.cells #[.int .i64 d.re, .int .i64 d.im] 42)) (w2.heap.size) 42 #[.int .i64 t3.re, .int .i64 t3.im] := by first | exact CellsAt.alloc (Ft3_4) (.cells #[.int .i64 d.re, .int .i64 d.im] 42) | simpa using CellsAt.alloc (Ft3_4) (.cells #[.int .i64 d.re, .int .i64 d.im] 42)
  have Yp_p4 : CellsAt (w4.alloc (.cells #[.int .i64 d.re, .int .i64 d.im] 42)) (w3.heap.size) 42 #[.int .i64 p.re, .int .i64 p.im] := by first | exact CellsAt.alloc (Fp_4) (.cells #[.int .i64 d.re, .int .i64 d.im] 42) | simpa using CellsAt.alloc (Fp_4) (.cells #[.int .i64 d.re, .int .i64 d.im] 42)
  have Yd_p4 : CellsAt (w4.alloc (.cells #[.int .i64 d.re, .int .i64 d.im] 42)) (w4.heap.size) 42 #[.int .i64 d.re, .int .i64 d.im] := by first | exact CellsAt.new w4 42 #[.int .i64 d.re, .int .i64 d.im] | simpa using CellsAt.new w4 42 #[.int .i64 d.re, .int .i64 d.im]
  have yp4 := Gr.alloc (z4) #[.int .i64 d.re, .int .i64 d.im] 42
  refine (HN.out _).mono ?_
  rintro e w5 ⟨rfl, g5⟩
  have Fj_5 := CellsAt.gr (Yj_p4) g5
  have lj_5 := CellsAt.lt (Fj_5)
  have Fr_5 := CellsAt.gr (Yr_p4) g5
  have lr_5 := CellsAt.lt (Fr_5)
  have Ft_5 := CellsAt.gr (Yt_p4) g5
  have lt_5 := CellsAt.lt (Ft_5)
  have Ft3_5 := CellsAt.gr (Yt3_p4) g5
  have lt3_5 := CellsAt.lt (Ft3_5)
  have Fp_5 := CellsAt.gr (Yp_p4) g5
  have lp_5 := CellsAt.lt (Fp_5)
  have Fd_5 := CellsAt.gr (Yd_p4) g5
  have ld_5 := CellsAt.lt (Fd_5)
  have z5 := (yp4).trans g5
  clear Yj_p4 Yr_p4 Yt_p4 Yt3_p4 Yp_p4 Yd_p4 yp4 g5
  have cj0 := CellsAt.cell (Fj_5) 0
  have cj1 := CellsAt.cell (Fj_5) 1
  have cj2 := CellsAt.cell (Fj_5) 2
  have cj3 := CellsAt.cell (Fj_5) 3
  have cj4 := CellsAt.cell (Fj_5) 4
  have cj5 := CellsAt.cell (Fj_5) 5
  have cj6 := CellsAt.cell (Fj_5) 6
  have cj7 := CellsAt.cell (Fj_5) 7
  have cj8 := CellsAt.cell (Fj_5) 8
  have cj9 := CellsAt.cell (Fj_5) 9
  have cj10 := CellsAt.cell (Fj_5) 10
  have cj11 := CellsAt.cell (Fj_5) 11
  simp only [List.getElem?_toArray, List.getElem?_cons_zero, List.getElem?_cons_succ] at cj0 cj1 cj2 cj3 cj4 cj5 cj6 cj7 cj8 cj9 cj10 cj11
  have md0 := CellsAt.frozen (Fd_5) 0
  have cd0 := CellsAt.cell (Fd_5) 0
  simp only [List.getElem?_toArray, List.getElem?_cons_zero, List.getElem?_cons_succ] at cd0
  have md1 := CellsAt.frozen (Fd_5) 1
  have cd1 := CellsAt.cell (Fd_5) 1
  simp only [List.getElem?_toArray, List.getElem?_cons_zero, List.getElem?_cons_succ] at cd1
  go_wp2_with fail
  clear cj0 cj1 cj2 cj3 cj4 cj5 cj6 cj7 cj8 cj9 cj10 cj11 md0 cd0 md1 cd1
  have Yj_p5 : CellsAt ((w5.setCell ⟨w4.heap.size, 0, none⟩ (.int .i64 dd.re)).setCell ⟨w4.heap.size, 1, none⟩ (.int .i64 dd.im)) (w.heap.size) 48 #[.int .i64 ju.re, .int .i64 ju.im, .int .i64 jv.re, .int .i64 jv.im, .int .i64 jy.re, .int .i64 jy.im, .int .i64 jz.re, .int .i64 jz.im, .int .i64 ja.re, .int .i64 ja.im, .int .i64 jc.re, .int .i64 jc.im] := by first | exact CellsAt.other (CellsAt.other (Fj_5) (by omega) 0 (.int .i64 dd.re)) (by omega) 1 (.int .i64 dd.im) | simpa using CellsAt.other (CellsAt.other (Fj_5) (by omega) 0 (.int .i64 dd.re)) (by omega) 1 (.int .i64 dd.im)
  have Yr_p5 : CellsAt ((w5.setCell ⟨w4.heap.size, 0, none⟩ (.int .i64 dd.re)).setCell ⟨w4.heap.size, 1, none⟩ (.int .i64 dd.im)) (w.heap.size + 1) 42 #[.int .i64 0, .int .i64 0] := by first | exact CellsAt.other (CellsAt.other (Fr_5) (by omega) 0 (.int .i64 dd.re)) (by omega) 1 (.int .i64 dd.im) | simpa using CellsAt.other (CellsAt.other (Fr_5) (by omega) 0 (.int .i64 dd.re)) (by omega) 1 (.int .i64 dd.im)
  have Yt_p5 : CellsAt ((w5.setCell ⟨w4.heap.size, 0, none⟩ (.int .i64 dd.re)).setCell ⟨w4.heap.size, 1, none⟩ (.int .i64 dd.im)) (w1.heap.size) 42 #[.int .i64 t.re, .int .i64 t.im] := by first | exact CellsAt.other (CellsAt.other (Ft_5) (by omega) 0 (.int .i64 dd.re)) (by omega) 1 (.int .i64 dd.im) | simpa using CellsAt.other (CellsAt.other (Ft_5) (by omega) 0 (.int .i64 dd.re)) (by omega) 1 (.int .i64 dd.im)
  have Yt3_p5 : CellsAt ((w5.setCell ⟨w4.heap.size, 0, none⟩ (.int .i64 dd.re)).setCell ⟨w4.heap.size, 1, none⟩ (.int .i64 dd.im)) (w2.heap.size) 42 #[.int .i64 t3.re, .int .i64 t3.im] := by first | exact CellsAt.other (CellsAt.other (Ft3_5) (by omega) 0 (.int .i64 dd.re)) (by omega) 1 (.int .i64 dd.im) | simpa using CellsAt.other (CellsAt.other (Ft3_5) (by omega) 0 (.int .i64 dd.re)) (by omega) 1 (.int .i64 dd.im)
  have Yp_p5 : CellsAt ((w5.setCell ⟨w4.heap.size, 0, none⟩ (.int .i64 dd.re)).setCell ⟨w4.heap.size, 1, none⟩ (.int .i64 dd.im)) (w3.heap.size) 42 #[.int .i64 p.re, .int .i64 p.im] := by first | exact CellsAt.other (CellsAt.other (Fp_5) (by omega) 0 (.int .i64 dd.re)) (by omega) 1 (.int .i64 dd.im) | simpa using CellsAt.other (CellsAt.other (Fp_5) (by omega) 0 (.int .i64 dd.re)) (by omega) 1 (.int .i64 dd.im)
  have Yd_p5 : CellsAt ((w5.setCell ⟨w4.heap.size, 0, none⟩ (.int .i64 dd.re)).setCell ⟨w4.heap.size, 1, none⟩ (.int .i64 dd.im)) (w4.heap.size) 42 #[.int .i64 dd.re, .int .i64 dd.im] := by first | exact CellsAt.set (CellsAt.set (Fd_5) 0 (.int .i64 dd.re)) 1 (.int .i64 dd.im) | simpa using CellsAt.set (CellsAt.set (Fd_5) 0 (.int .i64 dd.re)) 1 (.int .i64 dd.im)
  have yp5 := Gr.setCell (Gr.setCell (z5) (a := ⟨w4.heap.size, 0, none⟩) (by first | omega | (simp only; omega)) (.int .i64 dd.re)) (a := ⟨w4.heap.size, 1, none⟩) (by first | omega | (simp only; omega)) (.int .i64 dd.im)
  refine (HU.out _).mono ?_
  rintro e w6 ⟨rfl, g6⟩
  have Fj_6 := CellsAt.gr (Yj_p5) g6
  have lj_6 := CellsAt.lt (Fj_6)
  have Fr_6 := CellsAt.gr (Yr_p5) g6
  have lr_6 := CellsAt.lt (Fr_6)
  have Ft_6 := CellsAt.gr (Yt_p5) g6
  have lt_6 := CellsAt.lt (Ft_6)
  have Ft3_6 := CellsAt.gr (Yt3_p5) g6
  have lt3_6 := CellsAt.lt (Ft3_6)
  have Fp_6 := CellsAt.gr (Yp_p5) g6
  have lp_6 := CellsAt.lt (Fp_6)
  have Fd_6 := CellsAt.gr (Yd_p5) g6
  have ld_6 := CellsAt.lt (Fd_6)
  have z6 := (yp5).trans g6
  clear Yj_p5 Yr_p5 Yt_p5 Yt3_p5 Yp_p5 Yd_p5 yp5 g6
  have cj0 := CellsAt.cell (Fj_6) 0
  have cj1 := CellsAt.cell (Fj_6) 1
  have cj2 := CellsAt.cell (Fj_6) 2
  have cj3 := CellsAt.cell (Fj_6) 3
  have cj4 := CellsAt.cell (Fj_6) 4
  have cj5 := CellsAt.cell (Fj_6) 5
  have cj6 := CellsAt.cell (Fj_6) 6
  have cj7 := CellsAt.cell (Fj_6) 7
  have cj8 := CellsAt.cell (Fj_6) 8
  have cj9 := CellsAt.cell (Fj_6) 9
  have cj10 := CellsAt.cell (Fj_6) 10
  have cj11 := CellsAt.cell (Fj_6) 11
  simp only [List.getElem?_toArray, List.getElem?_cons_zero, List.getElem?_cons_succ] at cj0 cj1 cj2 cj3 cj4 cj5 cj6 cj7 cj8 cj9 cj10 cj11
  go_wp2_with fail
  clear cj0 cj1 cj2 cj3 cj4 cj5 cj6 cj7 cj8 cj9 cj10 cj11
  have Yj_p6 : CellsAt (w6.alloc (.cells #[.int .i64 U.re, .int .i64 U.im] 42)) (w.heap.size) 48 #[.int .i64 ju.re, .int .i64 ju.im, .int .i64 jv.re, .int .i64 jv.im, .int .i64 jy.re, .int .i64 jy.im, .int .i64 jz.re, .int .i64 jz.im, .int .i64 ja.re, .int .i64 ja.im, .int .i64 jc.re, .int .i64 jc.im] := by first | exact CellsAt.alloc (Fj_6) (.cells #[.int .i64 U.re, .int .i64 U.im] 42) | simpa using CellsAt.alloc (Fj_6) (.cells #[.int .i64 U.re, .int .i64 U.im] 42)
  have Yr_p6 : CellsAt (w6.alloc (.cells #[.int .i64 U.re, .int .i64 U.im] 42)) (w.heap.size + 1) 42 #[.int .i64 0, .int .i64 0] := by first | exact CellsAt.alloc (Fr_6) (.cells #[.int .i64 U.re, .int .i64 U.im] 42) | simpa using CellsAt.alloc (Fr_6) (.cells #[.int .i64 U.re, .int .i64 U.im] 42)
  have Yt_p6 : CellsAt (w6.alloc (.cells #[.int .i64 U.re, .int .i64 U.im] 42)) (w1.heap.size) 42 #[.int .i64 t.re, .int .i64 t.im] := by first | exact CellsAt.alloc (Ft_6) (.cells #[.int .i64 U.re, .int .i64 U.im] 42) | simpa using CellsAt.alloc (Ft_6) (.cells #[.int .i64 U.re, .int .i64 U.im] 42)
  have Yt3_p6 : CellsAt (w6.alloc (.cells #[.int .i64 U.re, .int .i64 U.im] 42)) (w2.heap.size) 42 #[.int .i64 t3.re, .int .i64 t3.im] := by first | exact CellsAt.alloc (Ft3_6) (.cells #[.int .i64 U.re, .int .i64 U.im] 42) | simpa using CellsAt.alloc (Ft3_6) (.cells #[.int .i64 U.re, .int .i64 U.im] 42)
  have Yp_p6 : CellsAt (w6.alloc (.cells #[.int .i64 U.re, .int .i64 U.im] 42)) (w3.heap.size) 42 #[.int .i64 p.re, .int .i64 p.im] := by first | exact CellsAt.alloc (Fp_6) (.cells #[.int .i64 U.re, .int .i64 U.im] 42) | simpa using CellsAt.alloc (Fp_6) (.cells #[.int .i64 U.re, .int .i64 U.im] 42)
  have Yd_p6 : CellsAt (w6.alloc (.cells #[.int .i64 U.re, .int .i64 U.im] 42)) (w4.heap.size) 42 #[.int .i64 dd.re, .int .i64 dd.im] := by first | exact CellsAt.alloc (Fd_6) (.cells #[.int .i64 U.re, .int .i64 U.im] 42) | simpa using CellsAt.alloc (Fd_6) (.cells #[.int .i64 U.re, .int .i64 U.im] 42)
  have Ys_p6 : CellsAt (w6.alloc (.cells #[.int .i64 U.re, .int .i64 U.im] 42)) (w6.heap.size) 42 #[.int .i64 U.re, .int .i64 U.im] := by first | exact CellsAt.new w6 42 #[.int .i64 U.re, .int .i64 U.im] | simpa using CellsAt.new w6 42 #[.int .i64 U.re, .int .i64 U.im]
  have yp6 := Gr.alloc (z6) #[.int .i64 U.re, .int .i64 U.im] 42
  refine (HV.out _).mono ?_
  rintro e w7 ⟨rfl, g7⟩
  have Fj_7 := CellsAt.gr (Yj_p6) g7
  have lj_7 := CellsAt.lt (Fj_7)
  have Fr_7 := CellsAt.gr (Yr_p6) g7
  have lr_7 := CellsAt.lt (Fr_7)
  have Ft_7 := CellsAt.gr (Yt_p6) g7
  have lt_7 := CellsAt.lt (Ft_7)
  have Ft3_7 := CellsAt.gr (Yt3_p6) g7
  have lt3_7 := CellsAt.lt (Ft3_7)
  have Fp_7 := CellsAt.gr (Yp_p6) g7
  have lp_7 := CellsAt.lt (Fp_7)
  have Fd_7 := CellsAt.gr (Yd_p6) g7
  have ld_7 := CellsAt.lt (Fd_7)
  have Fs_7 := CellsAt.gr (Ys_p6) g7
  have ls_7 := CellsAt.lt (Fs_7)
  have z7 := (yp6).trans g7
  clear Yj_p6 Yr_p6 Yt_p6 Yt3_p6 Yp_p6 Yd_p6 Ys_p6 yp6 g7
  have cd0 := CellsAt.cell (Fd_7) 0
  have cd1 := CellsAt.cell (Fd_7) 1
  have cp0 := CellsAt.cell (Fp_7) 0
  have cp1 := CellsAt.cell (Fp_7) 1
  have cs0 := CellsAt.cell (Fs_7) 0
  have cs1 := CellsAt.cell (Fs_7) 1
  simp only [List.getElem?_toArray, List.getElem?_cons_zero, List.getElem?_cons_succ] at cd0 cd1 cp0 cp1 cs0 cs1
  have ms0 := CellsAt.frozen (Fs_7) 0
  have ms1 := CellsAt.frozen (Fs_7) 1
  have mp0 := CellsAt.frozen (Fp_7) 0
  have mp1 := CellsAt.frozen (Fp_7) 1
  go_wp2_with fail
  clear cd0 cd1 cp0 cp1 cs0 cs1 ms0 ms1 mp0 mp1
  have Yj_p7 : CellsAt ((((w7.setCell ⟨w6.heap.size, 0, none⟩ (.int .i64 V.re)).setCell ⟨w6.heap.size, 1, none⟩ (.int .i64 V.im)).setCell ⟨w3.heap.size, 0, none⟩ (.int .i64 dd.re)).setCell ⟨w3.heap.size, 1, none⟩ (.int .i64 dd.im)) (w.heap.size) 48 #[.int .i64 ju.re, .int .i64 ju.im, .int .i64 jv.re, .int .i64 jv.im, .int .i64 jy.re, .int .i64 jy.im, .int .i64 jz.re, .int .i64 jz.im, .int .i64 ja.re, .int .i64 ja.im, .int .i64 jc.re, .int .i64 jc.im] := by first | exact CellsAt.other (CellsAt.other (CellsAt.other (CellsAt.other (Fj_7) (by omega) 0 (.int .i64 V.re)) (by omega) 1 (.int .i64 V.im)) (by omega) 0 (.int .i64 dd.re)) (by omega) 1 (.int .i64 dd.im) | simpa using CellsAt.other (CellsAt.other (CellsAt.other (CellsAt.other (Fj_7) (by omega) 0 (.int .i64 V.re)) (by omega) 1 (.int .i64 V.im)) (by omega) 0 (.int .i64 dd.re)) (by omega) 1 (.int .i64 dd.im)
  have Yr_p7 : CellsAt ((((w7.setCell ⟨w6.heap.size, 0, none⟩ (.int .i64 V.re)).setCell ⟨w6.heap.size, 1, none⟩ (.int .i64 V.im)).setCell ⟨w3.heap.size, 0, none⟩ (.int .i64 dd.re)).setCell ⟨w3.heap.size, 1, none⟩ (.int .i64 dd.im)) (w.heap.size + 1) 42 #[.int .i64 0, .int .i64 0] := by first | exact CellsAt.other (CellsAt.other (CellsAt.other (CellsAt.other (Fr_7) (by omega) 0 (.int .i64 V.re)) (by omega) 1 (.int .i64 V.im)) (by omega) 0 (.int .i64 dd.re)) (by omega) 1 (.int .i64 dd.im) | simpa using CellsAt.other (CellsAt.other (CellsAt.other (CellsAt.other (Fr_7) (by omega) 0 (.int .i64 V.re)) (by omega) 1 (.int .i64 V.im)) (by omega) 0 (.int .i64 dd.re)) (by omega) 1 (.int .i64 dd.im)
  have Yt_p7 : CellsAt ((((w7.setCell ⟨w6.heap.size, 0, none⟩ (.int .i64 V.re)).setCell ⟨w6.heap.size, 1, none⟩ (.int .i64 V.im)).setCell ⟨w3.heap.size, 0, none⟩ (.int .i64 dd.re)).setCell ⟨w3.heap.size, 1, none⟩ (.int .i64 dd.im)) (w1.heap.size) 42 #[.int .i64 t.re, .int .i64 t.im] := by first | exact CellsAt.other (CellsAt.other (CellsAt.other (CellsAt.other (Ft_7) (by omega) 0 (.int .i64 V.re)) (by omega) 1 (.int .i64 V.im)) (by omega) 0 (.int .i64 dd.re)) (by omega) 1 (.int .i64 dd.im) | simpa using CellsAt.other (CellsAt.other (CellsAt.other (CellsAt.other (Ft_7) (by omega) 0 (.int .i64 V.re)) (by omega) 1 (.int .i64 V.im)) (by omega) 0 (.int .i64 dd.re)) (by omega) 1 (.int .i64 dd.im)
  have Yt3_p7 : CellsAt ((((w7.setCell ⟨w6.heap.size, 0, none⟩ (.int .i64 V.re)).setCell ⟨w6.heap.size, 1, none⟩ (.int .i64 V.im)).setCell ⟨w3.heap.size, 0, none⟩ (.int .i64 dd.re)).setCell ⟨w3.heap.size, 1, none⟩ (.int .i64 dd.im)) (w2.heap.size) 42 #[.int .i64 t3.re, .int .i64 t3.im] := by first | exact CellsAt.other (CellsAt.other (CellsAt.other (CellsAt.other (Ft3_7) (by omega) 0 (.int .i64 V.re)) (by omega) 1 (.int .i64 V.im)) (by omega) 0 (.int .i64 dd.re)) (by omega) 1 (.int .i64 dd.im) | simpa using CellsAt.other (CellsAt.other (CellsAt.other (CellsAt.other (Ft3_7) (by omega) 0 (.int .i64 V.re)) (by omega) 1 (.int .i64 V.im)) (by omega) 0 (.int .i64 dd.re)) (by omega) 1 (.int .i64 dd.im)
  have Yp_p7 : CellsAt ((((w7.setCell ⟨w6.heap.size, 0, none⟩ (.int .i64 V.re)).setCell ⟨w6.heap.size, 1, none⟩ (.int .i64 V.im)).setCell ⟨w3.heap.size, 0, none⟩ (.int .i64 dd.re)).setCell ⟨w3.heap.size, 1, none⟩ (.int .i64 dd.im)) (w3.heap.size) 42 #[.int .i64 dd.re, .int .i64 dd.im] := by first | exact CellsAt.set (CellsAt.set (CellsAt.other (CellsAt.other (Fp_7) (by omega) 0 (.int .i64 V.re)) (by omega) 1 (.int .i64 V.im)) 0 (.int .i64 dd.re)) 1 (.int .i64 dd.im) | simpa using CellsAt.set (CellsAt.set (CellsAt.other (CellsAt.other (Fp_7) (by omega) 0 (.int .i64 V.re)) (by omega) 1 (.int .i64 V.im)) 0 (.int .i64 dd.re)) 1 (.int .i64 dd.im)
  have Yd_p7 : CellsAt ((((w7.setCell ⟨w6.heap.size, 0, none⟩ (.int .i64 V.re)).setCell ⟨w6.heap.size, 1, none⟩ (.int .i64 V.im)).setCell ⟨w3.heap.size, 0, none⟩ (.int .i64 dd.re)).setCell ⟨w3.heap.size, 1, none⟩ (.int .i64 dd.im)) (w4.heap.size) 42 #[.int .i64 dd.re, .int .i64 dd.im] := by first | exact CellsAt.other (CellsAt.other (CellsAt.other (CellsAt.other (Fd_7) (by omega) 0 (.int .i64 V.re)) (by omega) 1 (.int .i64 V.im)) (by omega) 0 (.int .i64 dd.re)) (by omega) 1 (.int .i64 dd.im) | simpa using CellsAt.other (CellsAt.other (CellsAt.other (CellsAt.other (Fd_7) (by omega) 0 (.int .i64 V.re)) (by omega) 1 (.int .i64 V.im)) (by omega) 0 (.int .i64 dd.re)) (by omega) 1 (.int .i64 dd.im)
  have Ys_p7 : CellsAt ((((w7.setCell ⟨w6.heap.size, 0, none⟩ (.int .i64 V.re)).setCell ⟨w6.heap.size, 1, none⟩ (.int .i64 V.im)).setCell ⟨w3.heap.size, 0, none⟩ (.int .i64 dd.re)).setCell ⟨w3.heap.size, 1, none⟩ (.int .i64 dd.im)) (w6.heap.size) 42 #[.int .i64 V.re, .int .i64 V.im] := by first | exact CellsAt.other (CellsAt.other (CellsAt.set (CellsAt.set (Fs_7) 0 (.int .i64 V.re)) 1 (.int .i64 V.im)) (by omega) 0 (.int .i64 dd.re)) (by omega) 1 (.int .i64 dd.im) | simpa using CellsAt.other (CellsAt.other (CellsAt.set (CellsAt.set (Fs_7) 0 (.int .i64 V.re)) 1 (.int .i64 V.im)) (by omega) 0 (.int .i64 dd.re)) (by omega) 1 (.int .i64 dd.im)
  have yp7 := Gr.setCell (Gr.setCell (Gr.setCell (Gr.setCell (z7) (a := ⟨w6.heap.size, 0, none⟩) (by first | omega | (simp only; omega)) (.int .i64 V.re)) (a := ⟨w6.heap.size, 1, none⟩) (by first | omega | (simp only; omega)) (.int .i64 V.im)) (a := ⟨w3.heap.size, 0, none⟩) (by first | omega | (simp only; omega)) (.int .i64 dd.re)) (a := ⟨w3.heap.size, 1, none⟩) (by first | omega | (simp only; omega)) (.int .i64 dd.im)
  refine (HS.out _).mono ?_
  rintro e w8 ⟨rfl, g8⟩
  have Fj_8 := CellsAt.gr (Yj_p7) g8
  have lj_8 := CellsAt.lt (Fj_8)
  have Fr_8 := CellsAt.gr (Yr_p7) g8
  have lr_8 := CellsAt.lt (Fr_8)
  have Ft_8 := CellsAt.gr (Yt_p7) g8
  have lt_8 := CellsAt.lt (Ft_8)
  have Ft3_8 := CellsAt.gr (Yt3_p7) g8
  have lt3_8 := CellsAt.lt (Ft3_8)
  have Fp_8 := CellsAt.gr (Yp_p7) g8
  have lp_8 := CellsAt.lt (Fp_8)
  have Fd_8 := CellsAt.gr (Yd_p7) g8
  have ld_8 := CellsAt.lt (Fd_8)
  have Fs_8 := CellsAt.gr (Ys_p7) g8
  have ls_8 := CellsAt.lt (Fs_8)
  have z8 := (yp7).trans g8
  clear Yj_p7 Yr_p7 Yt_p7 Yt3_p7 Yp_p7 Yd_p7 Ys_p7 yp7 g8
  have mr0 := CellsAt.frozen (Fr_8) 0
  have cr0 := CellsAt.cell (Fr_8) 0
  simp only [List.getElem?_toArray, List.getElem?_cons_zero, List.getElem?_cons_succ] at cr0
  have mr1 := CellsAt.frozen (Fr_8) 1
  have cr1 := CellsAt.cell (Fr_8) 1
  simp only [List.getElem?_toArray, List.getElem?_cons_zero, List.getElem?_cons_succ] at cr1
  go_wp2_with fail
  clear mr0 cr0 mr1 cr1
  refine (HF.out _).mono ?_
  rintro e w9 ⟨rfl, g9⟩
  have Fj_9 := CellsAt.gr (Fj_8) g9
  have lj_9 := CellsAt.lt (Fj_9)
  have Fr_9 := CellsAt.gr (Fr_8) g9
  have lr_9 := CellsAt.lt (Fr_9)
  have Ft_9 := CellsAt.gr (Ft_8) g9
  have lt_9 := CellsAt.lt (Ft_9)
  have Ft3_9 := CellsAt.gr (Ft3_8) g9
  have lt3_9 := CellsAt.lt (Ft3_9)
  have Fp_9 := CellsAt.gr (Fp_8) g9
  have lp_9 := CellsAt.lt (Fp_9)
  have Fd_9 := CellsAt.gr (Fd_8) g9
  have ld_9 := CellsAt.lt (Fd_9)
  have Fs_9 := CellsAt.gr (Fs_8) g9
  have ls_9 := CellsAt.lt (Fs_9)
  have z9 := (z8).trans g9
  clear Fj_8 Fr_8 Ft_8 Ft3_8 Fp_8 Fd_8 Fs_8 z8 g9
  have mr0 := CellsAt.frozen (Fr_9) 0
  have cr0 := CellsAt.cell (Fr_9) 0
  simp only [List.getElem?_toArray, List.getElem?_cons_zero, List.getElem?_cons_succ] at cr0
  have mr1 := CellsAt.frozen (Fr_9) 1
  have cr1 := CellsAt.cell (Fr_9) 1
  simp only [List.getElem?_toArray, List.getElem?_cons_zero, List.getElem?_cons_succ] at cr1
  go_wp2_with fail
  clear mr0 cr0 mr1 cr1
  have Yj_p8 : CellsAt ((w9.setCell ⟨w.heap.size + 1, 0, none⟩ (.int .i64 o.re)).setCell ⟨w.heap.size + 1, 1, none⟩ (.int .i64 o.im)) (w.heap.size) 48 #[.int .i64 ju.re, .int .i64 ju.im, .int .i64 jv.re, .int .i64 jv.im, .int .i64 jy.re, .int .i64 jy.im, .int .i64 jz.re, .int .i64 jz.im, .int .i64 ja.re, .int .i64 ja.im, .int .i64 jc.re, .int .i64 jc.im] := by first | exact CellsAt.other (CellsAt.other (Fj_9) (by omega) 0 (.int .i64 o.re)) (by omega) 1 (.int .i64 o.im) | simpa using CellsAt.other (CellsAt.other (Fj_9) (by omega) 0 (.int .i64 o.re)) (by omega) 1 (.int .i64 o.im)
  have Yr_p8 : CellsAt ((w9.setCell ⟨w.heap.size + 1, 0, none⟩ (.int .i64 o.re)).setCell ⟨w.heap.size + 1, 1, none⟩ (.int .i64 o.im)) (w.heap.size + 1) 42 #[.int .i64 o.re, .int .i64 o.im] := by first | exact CellsAt.set (CellsAt.set (Fr_9) 0 (.int .i64 o.re)) 1 (.int .i64 o.im) | simpa using CellsAt.set (CellsAt.set (Fr_9) 0 (.int .i64 o.re)) 1 (.int .i64 o.im)
  have Yt_p8 : CellsAt ((w9.setCell ⟨w.heap.size + 1, 0, none⟩ (.int .i64 o.re)).setCell ⟨w.heap.size + 1, 1, none⟩ (.int .i64 o.im)) (w1.heap.size) 42 #[.int .i64 t.re, .int .i64 t.im] := by first | exact CellsAt.other (CellsAt.other (Ft_9) (by omega) 0 (.int .i64 o.re)) (by omega) 1 (.int .i64 o.im) | simpa using CellsAt.other (CellsAt.other (Ft_9) (by omega) 0 (.int .i64 o.re)) (by omega) 1 (.int .i64 o.im)
  have Yt3_p8 : CellsAt ((w9.setCell ⟨w.heap.size + 1, 0, none⟩ (.int .i64 o.re)).setCell ⟨w.heap.size + 1, 1, none⟩ (.int .i64 o.im)) (w2.heap.size) 42 #[.int .i64 t3.re, .int .i64 t3.im] := by first | exact CellsAt.other (CellsAt.other (Ft3_9) (by omega) 0 (.int .i64 o.re)) (by omega) 1 (.int .i64 o.im) | simpa using CellsAt.other (CellsAt.other (Ft3_9) (by omega) 0 (.int .i64 o.re)) (by omega) 1 (.int .i64 o.im)
  have Yp_p8 : CellsAt ((w9.setCell ⟨w.heap.size + 1, 0, none⟩ (.int .i64 o.re)).setCell ⟨w.heap.size + 1, 1, none⟩ (.int .i64 o.im)) (w3.heap.size) 42 #[.int .i64 dd.re, .int .i64 dd.im] := by first | exact CellsAt.other (CellsAt.other (Fp_9) (by omega) 0 (.int .i64 o.re)) (by omega) 1 (.int .i64 o.im) | simpa using CellsAt.other (CellsAt.other (Fp_9) (by omega) 0 (.int .i64 o.re)) (by omega) 1 (.int .i64 o.im)
  have Yd_p8 : CellsAt ((w9.setCell ⟨w.heap.size + 1, 0, none⟩ (.int .i64 o.re)).setCell ⟨w.heap.size + 1, 1, none⟩ (.int .i64 o.im)) (w4.heap.size) 42 #[.int .i64 dd.re, .int .i64 dd.im] := by first | exact CellsAt.other (CellsAt.other (Fd_9) (by omega) 0 (.int .i64 o.re)) (by omega) 1 (.int .i64 o.im) | simpa using CellsAt.other (CellsAt.other (Fd_9) (by omega) 0 (.int .i64 o.re)) (by omega) 1 (.int .i64 o.im)
  have Ys_p8 : CellsAt ((w9.setCell ⟨w.heap.size + 1, 0, none⟩ (.int .i64 o.re)).setCell ⟨w.heap.size + 1, 1, none⟩ (.int .i64 o.im)) (w6.heap.size) 42 #[.int .i64 V.re, .int .i64 V.im] := by first | exact CellsAt.other (CellsAt.other (Fs_9) (by omega) 0 (.int .i64 o.re)) (by omega) 1 (.int .i64 o.im) | simpa using CellsAt.other (CellsAt.other (Fs_9) (by omega) 0 (.int .i64 o.re)) (by omega) 1 (.int .i64 o.im)
  have yp8 := Gr.setCell (Gr.setCell (z9) (a := ⟨w.heap.size + 1, 0, none⟩) (by first | omega | (simp only; omega)) (.int .i64 o.re)) (a := ⟨w.heap.size + 1, 1, none⟩) (by first | omega | (simp only; omega)) (.int .i64 o.im)
  generalize ((w9.setCell ⟨w.heap.size + 1, 0, none⟩ (.int .i64 o.re)).setCell ⟨w.heap.size + 1, 1, none⟩ (.int .i64 o.im)) = uf at *
  have cr0 := CellsAt.cell (Yr_p8) 0
  have cr1 := CellsAt.cell (Yr_p8) 1
  simp only [List.getElem?_toArray, List.getElem?_cons_zero, List.getElem?_cons_succ] at cr0 cr1
  refine bodyPost_ret (v := .agg #[.int .i64 o.re, .int .i64 o.im]) ?_ rfl ⟨rfl, yp8⟩
  simp [results, Tryz.results27, go_sem, *]

set_option maxHeartbeats 4000000 in
theorem rJoin_true_2_of (bits mo b1 b2 : Int) (ju jv jy jz ja jc t t3 p d dd U V s o : Gi) (h1 : wrap64 (bits + 1) = b1) (h2 : wrap64 (bits + 2) = b2)
    (HT : Hid (∀ W, Calls Tryz.prog 39 #[.agg #[.int .i64 (jy).re, .int .i64 (jy).im], .agg #[.int .i64 (ja).re, .int .i64 (ja).im]] W fun e w' => e = .returned (.agg #[.int .i64 (t).re, .int .i64 (t).im]) ∧ Gr W w')) (HT3 : Hid (∀ W, Calls Tryz.prog 39 #[.agg #[.int .i64 (jz).re, .int .i64 (jz).im], .agg #[.int .i64 (jc).re, .int .i64 (jc).im]] W fun e w' => e = .returned (.agg #[.int .i64 (t3).re, .int .i64 (t3).im]) ∧ Gr W w')) (HP : Hid (∀ W, Calls Tryz.prog 23 #[.agg #[.int .i64 (t).re, .int .i64 (t).im], .agg #[.int .i64 (t3).re, .int .i64 (t3).im]] W fun e w' => e = .returned (.agg #[.int .i64 (p).re, .int .i64 (p).im]) ∧ Gr W w')) (HL : Hid (∀ W, Calls Tryz.prog 24 #[.agg #[.int .i64 (t).re, .int .i64 (t).im], .agg #[.int .i64 (t3).re, .int .i64 (t3).im]] W fun e w' => e = .returned (.agg #[.int .i64 (d).re, .int .i64 (d).im]) ∧ Gr W w'))
    (HN : Hid (∀ W, Calls Tryz.prog 40 #[.agg #[.int .i64 (d).re, .int .i64 (d).im], .int .i64 1] W fun e w' => e = .returned (.agg #[.int .i64 (dd).re, .int .i64 (dd).im]) ∧ Gr W w')) (HU : Hid (∀ W, Calls Tryz.prog 41 #[.agg #[.int .i64 (ju).re, .int .i64 (ju).im], .int .i64 b1] W fun e w' => e = .returned (.agg #[.int .i64 (U).re, .int .i64 (U).im]) ∧ Gr W w')) (HV : Hid (∀ W, Calls Tryz.prog 41 #[.agg #[.int .i64 (jv).re, .int .i64 (jv).im], .int .i64 b1] W fun e w' => e = .returned (.agg #[.int .i64 (V).re, .int .i64 (V).im]) ∧ Gr W w'))
    (HS : Hid (∀ W, Calls Tryz.prog 24 #[.agg #[.int .i64 (U).re, .int .i64 (U).im], .agg #[.int .i64 (p).re, .int .i64 (p).im]] W fun e w' => e = .returned (.agg #[.int .i64 (s).re, .int .i64 (s).im]) ∧ Gr W w')) (HF : Hid (∀ W, Calls Tryz.prog 22 #[.agg #[.int .i64 (s).re, .int .i64 (s).im], .int .i64 b2, .int .i64 mo] W fun e w' => e = .returned (.agg #[.int .i64 (o).re, .int .i64 (o).im]) ∧ Gr W w')) (w : World) :
    Calls Tryz.prog 27 #[.agg #[.int .i64 ju.re, .int .i64 ju.im, .int .i64 jv.re, .int .i64 jv.im, .int .i64 jy.re, .int .i64 jy.im, .int .i64 jz.re, .int .i64 jz.im, .int .i64 ja.re, .int .i64 ja.im, .int .i64 jc.re, .int .i64 jc.im], .int .i64 2, .int .i64 bits, .int .i64 mo, .bool true] w fun e w' => e = .returned (.agg #[.int .i64 (o).re, .int .i64 (o).im]) ∧ Gr w w' := by
  go_enter Tryz.func27, Tryz.ntmps27
  go_wp2_with fail
  obtain ⟨u0, hU⟩ : ∃ uu, uu = ((w.alloc (.cells #[.int .i64 ju.re, .int .i64 ju.im, .int .i64 jv.re, .int .i64 jv.im, .int .i64 jy.re, .int .i64 jy.im, .int .i64 jz.re, .int .i64 jz.im, .int .i64 ja.re, .int .i64 ja.im, .int .i64 jc.re, .int .i64 jc.im] 48)).alloc (.cells #[.int .i64 0, .int .i64 0] 42)) := ⟨_, rfl⟩
  have gu : Gr w u0 := by rw [hU]; exact ((Gr.refl w).alloc _ _).alloc _ _
  have R0 : CellsAt u0 (w.heap.size) 48 #[.int .i64 ju.re, .int .i64 ju.im, .int .i64 jv.re, .int .i64 jv.im, .int .i64 jy.re, .int .i64 jy.im, .int .i64 jz.re, .int .i64 jz.im, .int .i64 ja.re, .int .i64 ja.im, .int .i64 jc.re, .int .i64 jc.im] := by
    rw [hU]
    have := ((CellsAt.new w 48 #[.int .i64 ju.re, .int .i64 ju.im, .int .i64 jv.re, .int .i64 jv.im, .int .i64 jy.re, .int .i64 jy.im, .int .i64 jz.re, .int .i64 jz.im, .int .i64 ja.re, .int .i64 ja.im, .int .i64 jc.re, .int .i64 jc.im]).alloc (.cells #[.int .i64 0, .int .i64 0] 42))
    simpa only [World.size_alloc] using this
  have R1 : CellsAt u0 (w.heap.size + 1) 42 #[.int .i64 0, .int .i64 0] := by
    rw [hU]
    have := (CellsAt.new (w.alloc (.cells #[.int .i64 ju.re, .int .i64 ju.im, .int .i64 jv.re, .int .i64 jv.im, .int .i64 jy.re, .int .i64 jy.im, .int .i64 jz.re, .int .i64 jz.im, .int .i64 ja.re, .int .i64 ja.im, .int .i64 jc.re, .int .i64 jc.im] 48)) 42 #[.int .i64 0, .int .i64 0])
    simpa only [World.size_alloc] using this
  rw [← hU]
  clear hU
  have lj := R0.lt
  have lr := R1.lt
  refine (HT.out _).mono ?_
  rintro e w1 ⟨rfl, g1⟩
  have Fj_1 := CellsAt.gr (R0) g1
  have lj_1 := CellsAt.lt (Fj_1)
  have Fr_1 := CellsAt.gr (R1) g1
  have lr_1 := CellsAt.lt (Fr_1)
  have z1 := (gu).trans g1
  clear R0 R1 gu g1
  have cj0 := CellsAt.cell (Fj_1) 0
  have cj1 := CellsAt.cell (Fj_1) 1
  have cj2 := CellsAt.cell (Fj_1) 2
  have cj3 := CellsAt.cell (Fj_1) 3
  have cj4 := CellsAt.cell (Fj_1) 4
  have cj5 := CellsAt.cell (Fj_1) 5
  have cj6 := CellsAt.cell (Fj_1) 6
  have cj7 := CellsAt.cell (Fj_1) 7
  have cj8 := CellsAt.cell (Fj_1) 8
  have cj9 := CellsAt.cell (Fj_1) 9
  have cj10 := CellsAt.cell (Fj_1) 10
  have cj11 := CellsAt.cell (Fj_1) 11
  simp only [List.getElem?_toArray, List.getElem?_cons_zero, List.getElem?_cons_succ] at cj0 cj1 cj2 cj3 cj4 cj5 cj6 cj7 cj8 cj9 cj10 cj11
  go_wp2_with fail
  clear cj0 cj1 cj2 cj3 cj4 cj5 cj6 cj7 cj8 cj9 cj10 cj11
  have Yj_p1 : CellsAt (w1.alloc (.cells #[.int .i64 t.re, .int .i64 t.im] 42)) (w.heap.size) 48 #[.int .i64 ju.re, .int .i64 ju.im, .int .i64 jv.re, .int .i64 jv.im, .int .i64 jy.re, .int .i64 jy.im, .int .i64 jz.re, .int .i64 jz.im, .int .i64 ja.re, .int .i64 ja.im, .int .i64 jc.re, .int .i64 jc.im] := by first | exact CellsAt.alloc (Fj_1) (.cells #[.int .i64 t.re, .int .i64 t.im] 42) | simpa using CellsAt.alloc (Fj_1) (.cells #[.int .i64 t.re, .int .i64 t.im] 42)
  have Yr_p1 : CellsAt (w1.alloc (.cells #[.int .i64 t.re, .int .i64 t.im] 42)) (w.heap.size + 1) 42 #[.int .i64 0, .int .i64 0] := by first | exact CellsAt.alloc (Fr_1) (.cells #[.int .i64 t.re, .int .i64 t.im] 42) | simpa using CellsAt.alloc (Fr_1) (.cells #[.int .i64 t.re, .int .i64 t.im] 42)
  have Yt_p1 : CellsAt (w1.alloc (.cells #[.int .i64 t.re, .int .i64 t.im] 42)) (w1.heap.size) 42 #[.int .i64 t.re, .int .i64 t.im] := by first | exact CellsAt.new w1 42 #[.int .i64 t.re, .int .i64 t.im] | simpa using CellsAt.new w1 42 #[.int .i64 t.re, .int .i64 t.im]
  have yp1 := Gr.alloc (z1) #[.int .i64 t.re, .int .i64 t.im] 42
  refine (HT3.out _).mono ?_
  rintro e w2 ⟨rfl, g2⟩
  have Fj_2 := CellsAt.gr (Yj_p1) g2
  have lj_2 := CellsAt.lt (Fj_2)
  have Fr_2 := CellsAt.gr (Yr_p1) g2
  have lr_2 := CellsAt.lt (Fr_2)
  have Ft_2 := CellsAt.gr (Yt_p1) g2
  have lt_2 := CellsAt.lt (Ft_2)
  have z2 := (yp1).trans g2
  clear Yj_p1 Yr_p1 Yt_p1 yp1 g2
  have ct0 := CellsAt.cell (Ft_2) 0
  have ct1 := CellsAt.cell (Ft_2) 1
  simp only [List.getElem?_toArray, List.getElem?_cons_zero, List.getElem?_cons_succ] at ct0 ct1
  go_wp2_with fail
  clear ct0 ct1
  have Yj_p2 : CellsAt (w2.alloc (.cells #[.int .i64 t3.re, .int .i64 t3.im] 42)) (w.heap.size) 48 #[.int .i64 ju.re, .int .i64 ju.im, .int .i64 jv.re, .int .i64 jv.im, .int .i64 jy.re, .int .i64 jy.im, .int .i64 jz.re, .int .i64 jz.im, .int .i64 ja.re, .int .i64 ja.im, .int .i64 jc.re, .int .i64 jc.im] := by first | exact CellsAt.alloc (Fj_2) (.cells #[.int .i64 t3.re, .int .i64 t3.im] 42) | simpa using CellsAt.alloc (Fj_2) (.cells #[.int .i64 t3.re, .int .i64 t3.im] 42)
  have Yr_p2 : CellsAt (w2.alloc (.cells #[.int .i64 t3.re, .int .i64 t3.im] 42)) (w.heap.size + 1) 42 #[.int .i64 0, .int .i64 0] := by first | exact CellsAt.alloc (Fr_2) (.cells #[.int .i64 t3.re, .int .i64 t3.im] 42) | simpa using CellsAt.alloc (Fr_2) (.cells #[.int .i64 t3.re, .int .i64 t3.im] 42)
  have Yt_p2 : CellsAt (w2.alloc (.cells #[.int .i64 t3.re, .int .i64 t3.im] 42)) (w1.heap.size) 42 #[.int .i64 t.re, .int .i64 t.im] := by first | exact CellsAt.alloc (Ft_2) (.cells #[.int .i64 t3.re, .int .i64 t3.im] 42) | simpa using CellsAt.alloc (Ft_2) (.cells #[.int .i64 t3.re, .int .i64 t3.im] 42)
  have Yt3_p2 : CellsAt (w2.alloc (.cells #[.int .i64 t3.re, .int .i64 t3.im] 42)) (w2.heap.size) 42 #[.int .i64 t3.re, .int .i64 t3.im] := by first | exact CellsAt.new w2 42 #[.int .i64 t3.re, .int .i64 t3.im] | simpa using CellsAt.new w2 42 #[.int .i64 t3.re, .int .i64 t3.im]
  have yp2 := Gr.alloc (z2) #[.int .i64 t3.re, .int .i64 t3.im] 42
  refine (HP.out _).mono ?_
  rintro e w3 ⟨rfl, g3⟩
  have Fj_3 := CellsAt.gr (Yj_p2) g3
  have lj_3 := CellsAt.lt (Fj_3)
  have Fr_3 := CellsAt.gr (Yr_p2) g3
  have lr_3 := CellsAt.lt (Fr_3)
  have Ft_3 := CellsAt.gr (Yt_p2) g3
  have lt_3 := CellsAt.lt (Ft_3)
  have Ft3_3 := CellsAt.gr (Yt3_p2) g3
  have lt3_3 := CellsAt.lt (Ft3_3)
  have z3 := (yp2).trans g3
  clear Yj_p2 Yr_p2 Yt_p2 Yt3_p2 yp2 g3
  have ct0 := CellsAt.cell (Ft_3) 0
  have ct1 := CellsAt.cell (Ft_3) 1
  have ct30 := CellsAt.cell (Ft3_3) 0
  have ct31 := CellsAt.cell (Ft3_3) 1
  simp only [List.getElem?_toArray, List.getElem?_cons_zero, List.getElem?_cons_succ] at ct0 ct1 ct30 ct31
  go_wp2_with fail
  clear ct0 ct1 ct30 ct31
  have Yj_p3 : CellsAt (w3.alloc (.cells #[.int .i64 p.re, .int .i64 p.im] 42)) (w.heap.size) 48 #[.int .i64 ju.re, .int .i64 ju.im, .int .i64 jv.re, .int .i64 jv.im, .int .i64 jy.re, .int .i64 jy.im, .int .i64 jz.re, .int .i64 jz.im, .int .i64 ja.re, .int .i64 ja.im, .int .i64 jc.re, .int .i64 jc.im] := by first | exact CellsAt.alloc (Fj_3) (.cells #[.int .i64 p.re, .int .i64 p.im] 42) | simpa using CellsAt.alloc (Fj_3) (.cells #[.int .i64 p.re, .int .i64 p.im] 42)
  have Yr_p3 : CellsAt (w3.alloc (.cells #[.int .i64 p.re, .int .i64 p.im] 42)) (w.heap.size + 1) 42 #[.int .i64 0, .int .i64 0] := by first | exact CellsAt.alloc (Fr_3) (.cells #[.int .i64 p.re, .int .i64 p.im] 42) | simpa using CellsAt.alloc (Fr_3) (.cells #[.int .i64 p.re, .int .i64 p.im] 42)
  have Yt_p3 : CellsAt (w3.alloc (.cells #[.int .i64 p.re, .int .i64 p.im] 42)) (w1.heap.size) 42 #[.int .i64 t.re, .int .i64 t.im] := by first | exact CellsAt.alloc (Ft_3) (.cells #[.int .i64 p.re, .int .i64 p.im] 42) | simpa using CellsAt.alloc (Ft_3) (.cells #[.int .i64 p.re, .int .i64 p.im] 42)
  have Yt3_p3 : CellsAt (w3.alloc (.cells #[.int .i64 p.re, .int .i64 p.im] 42)) (w2.heap.size) 42 #[.int .i64 t3.re, .int .i64 t3.im] := by first | exact CellsAt.alloc (Ft3_3) (.cells #[.int .i64 p.re, .int .i64 p.im] 42) | simpa using CellsAt.alloc (Ft3_3) (.cells #[.int .i64 p.re, .int .i64 p.im] 42)
  have Yp_p3 : CellsAt (w3.alloc (.cells #[.int .i64 p.re, .int .i64 p.im] 42)) (w3.heap.size) 42 #[.int .i64 p.re, .int .i64 p.im] := by first | exact CellsAt.new w3 42 #[.int .i64 p.re, .int .i64 p.im] | simpa using CellsAt.new w3 42 #[.int .i64 p.re, .int .i64 p.im]
  have yp3 := Gr.alloc (z3) #[.int .i64 p.re, .int .i64 p.im] 42
  refine (HL.out _).mono ?_
  rintro e w4 ⟨rfl, g4⟩
  have Fj_4 := CellsAt.gr (Yj_p3) g4
  have lj_4 := CellsAt.lt (Fj_4)
  have Fr_4 := CellsAt.gr (Yr_p3) g4
  have lr_4 := CellsAt.lt (Fr_4)
  have Ft_4 := CellsAt.gr (Yt_p3) g4
  have lt_4 := CellsAt.lt (Ft_4)
  have Ft3_4 := CellsAt.gr (Yt3_p3) g4
  have lt3_4 := CellsAt.lt (Ft3_4)
  have Fp_4 := CellsAt.gr (Yp_p3) g4
  have lp_4 := CellsAt.lt (Fp_4)
  have z4 := (yp3).trans g4
  clear Yj_p3 Yr_p3 Yt_p3 Yt3_p3 Yp_p3 yp3 g4
  go_wp2_with fail
  have Yj_p4 : CellsAt (w4.alloc (.cells #[.int .i64 d.re, .int .i64 d.im] 42)) (w.heap.size) 48 #[.int .i64 ju.re, .int .i64 ju.im, .int .i64 jv.re, .int .i64 jv.im, .int .i64 jy.re, .int .i64 jy.im, .int .i64 jz.re, .int .i64 jz.im, .int .i64 ja.re, .int .i64 ja.im, .int .i64 jc.re, .int .i64 jc.im] := by first | exact CellsAt.alloc (Fj_4) (.cells #[.int .i64 d.re, .int .i64 d.im] 42) | simpa using CellsAt.alloc (Fj_4) (.cells #[.int .i64 d.re, .int .i64 d.im] 42)
  have Yr_p4 : CellsAt (w4.alloc (.cells #[.int .i64 d.re, .int .i64 d.im] 42)) (w.heap.size + 1) 42 #[.int .i64 0, .int .i64 0] := by first | exact CellsAt.alloc (Fr_4) (.cells #[.int .i64 d.re, .int .i64 d.im] 42) | simpa using CellsAt.alloc (Fr_4) (.cells #[.int .i64 d.re, .int .i64 d.im] 42)
  have Yt_p4 : CellsAt (w4.alloc (.cells #[.int .i64 d.re, .int .i64 d.im] 42)) (w1.heap.size) 42 #[.int .i64 t.re, .int .i64 t.im] := by first | exact CellsAt.alloc (Ft_4) (.cells #[.int .i64 d.re, .int .i64 d.im] 42) | simpa using CellsAt.alloc (Ft_4) (.cells #[.int .i64 d.re, .int .i64 d.im] 42)
  have Yt3_p4 : CellsAt (w4.alloc (.cells #[.int .i64 d.re, .int .i64 d.im] 42)) (w2.heap.size) 42 #[.int .i64 t3.re, .int .i64 t3.im] := by first | exact CellsAt.alloc (Ft3_4) (.cells #[.int .i64 d.re, .int .i64 d.im] 42) | simpa using CellsAt.alloc (Ft3_4) (.cells #[.int .i64 d.re, .int .i64 d.im] 42)
  have Yp_p4 : CellsAt (w4.alloc (.cells #[.int .i64 d.re, .int .i64 d.im] 42)) (w3.heap.size) 42 #[.int .i64 p.re, .int .i64 p.im] := by first | exact CellsAt.alloc (Fp_4) (.cells #[.int .i64 d.re, .int .i64 d.im] 42) | simpa using CellsAt.alloc (Fp_4) (.cells #[.int .i64 d.re, .int .i64 d.im] 42)
  have Yd_p4 : CellsAt (w4.alloc (.cells #[.int .i64 d.re, .int .i64 d.im] 42)) (w4.heap.size) 42 #[.int .i64 d.re, .int .i64 d.im] := by first | exact CellsAt.new w4 42 #[.int .i64 d.re, .int .i64 d.im] | simpa using CellsAt.new w4 42 #[.int .i64 d.re, .int .i64 d.im]
  have yp4 := Gr.alloc (z4) #[.int .i64 d.re, .int .i64 d.im] 42
  refine (HN.out _).mono ?_
  rintro e w5 ⟨rfl, g5⟩
  have Fj_5 := CellsAt.gr (Yj_p4) g5
  have lj_5 := CellsAt.lt (Fj_5)
  have Fr_5 := CellsAt.gr (Yr_p4) g5
  have lr_5 := CellsAt.lt (Fr_5)
  have Ft_5 := CellsAt.gr (Yt_p4) g5
  have lt_5 := CellsAt.lt (Ft_5)
  have Ft3_5 := CellsAt.gr (Yt3_p4) g5
  have lt3_5 := CellsAt.lt (Ft3_5)
  have Fp_5 := CellsAt.gr (Yp_p4) g5
  have lp_5 := CellsAt.lt (Fp_5)
  have Fd_5 := CellsAt.gr (Yd_p4) g5
  have ld_5 := CellsAt.lt (Fd_5)
  have z5 := (yp4).trans g5
  clear Yj_p4 Yr_p4 Yt_p4 Yt3_p4 Yp_p4 Yd_p4 yp4 g5
  have cj0 := CellsAt.cell (Fj_5) 0
  have cj1 := CellsAt.cell (Fj_5) 1
  have cj2 := CellsAt.cell (Fj_5) 2
  have cj3 := CellsAt.cell (Fj_5) 3
  have cj4 := CellsAt.cell (Fj_5) 4
  have cj5 := CellsAt.cell (Fj_5) 5
  have cj6 := CellsAt.cell (Fj_5) 6
  have cj7 := CellsAt.cell (Fj_5) 7
  have cj8 := CellsAt.cell (Fj_5) 8
  have cj9 := CellsAt.cell (Fj_5) 9
  have cj10 := CellsAt.cell (Fj_5) 10
  have cj11 := CellsAt.cell (Fj_5) 11
  simp only [List.getElem?_toArray, List.getElem?_cons_zero, List.getElem?_cons_succ] at cj0 cj1 cj2 cj3 cj4 cj5 cj6 cj7 cj8 cj9 cj10 cj11
  have md0 := CellsAt.frozen (Fd_5) 0
  have cd0 := CellsAt.cell (Fd_5) 0
  simp only [List.getElem?_toArray, List.getElem?_cons_zero, List.getElem?_cons_succ] at cd0
  have md1 := CellsAt.frozen (Fd_5) 1
  have cd1 := CellsAt.cell (Fd_5) 1
  simp only [List.getElem?_toArray, List.getElem?_cons_zero, List.getElem?_cons_succ] at cd1
  go_wp2_with fail
  clear cj0 cj1 cj2 cj3 cj4 cj5 cj6 cj7 cj8 cj9 cj10 cj11 md0 cd0 md1 cd1
  have Yj_p5 : CellsAt ((w5.setCell ⟨w4.heap.size, 0, none⟩ (.int .i64 dd.re)).setCell ⟨w4.heap.size, 1, none⟩ (.int .i64 dd.im)) (w.heap.size) 48 #[.int .i64 ju.re, .int .i64 ju.im, .int .i64 jv.re, .int .i64 jv.im, .int .i64 jy.re, .int .i64 jy.im, .int .i64 jz.re, .int .i64 jz.im, .int .i64 ja.re, .int .i64 ja.im, .int .i64 jc.re, .int .i64 jc.im] := by first | exact CellsAt.other (CellsAt.other (Fj_5) (by omega) 0 (.int .i64 dd.re)) (by omega) 1 (.int .i64 dd.im) | simpa using CellsAt.other (CellsAt.other (Fj_5) (by omega) 0 (.int .i64 dd.re)) (by omega) 1 (.int .i64 dd.im)
  have Yr_p5 : CellsAt ((w5.setCell ⟨w4.heap.size, 0, none⟩ (.int .i64 dd.re)).setCell ⟨w4.heap.size, 1, none⟩ (.int .i64 dd.im)) (w.heap.size + 1) 42 #[.int .i64 0, .int .i64 0] := by first | exact CellsAt.other (CellsAt.other (Fr_5) (by omega) 0 (.int .i64 dd.re)) (by omega) 1 (.int .i64 dd.im) | simpa using CellsAt.other (CellsAt.other (Fr_5) (by omega) 0 (.int .i64 dd.re)) (by omega) 1 (.int .i64 dd.im)
  have Yt_p5 : CellsAt ((w5.setCell ⟨w4.heap.size, 0, none⟩ (.int .i64 dd.re)).setCell ⟨w4.heap.size, 1, none⟩ (.int .i64 dd.im)) (w1.heap.size) 42 #[.int .i64 t.re, .int .i64 t.im] := by first | exact CellsAt.other (CellsAt.other (Ft_5) (by omega) 0 (.int .i64 dd.re)) (by omega) 1 (.int .i64 dd.im) | simpa using CellsAt.other (CellsAt.other (Ft_5) (by omega) 0 (.int .i64 dd.re)) (by omega) 1 (.int .i64 dd.im)
  have Yt3_p5 : CellsAt ((w5.setCell ⟨w4.heap.size, 0, none⟩ (.int .i64 dd.re)).setCell ⟨w4.heap.size, 1, none⟩ (.int .i64 dd.im)) (w2.heap.size) 42 #[.int .i64 t3.re, .int .i64 t3.im] := by first | exact CellsAt.other (CellsAt.other (Ft3_5) (by omega) 0 (.int .i64 dd.re)) (by omega) 1 (.int .i64 dd.im) | simpa using CellsAt.other (CellsAt.other (Ft3_5) (by omega) 0 (.int .i64 dd.re)) (by omega) 1 (.int .i64 dd.im)
  have Yp_p5 : CellsAt ((w5.setCell ⟨w4.heap.size, 0, none⟩ (.int .i64 dd.re)).setCell ⟨w4.heap.size, 1, none⟩ (.int .i64 dd.im)) (w3.heap.size) 42 #[.int .i64 p.re, .int .i64 p.im] := by first | exact CellsAt.other (CellsAt.other (Fp_5) (by omega) 0 (.int .i64 dd.re)) (by omega) 1 (.int .i64 dd.im) | simpa using CellsAt.other (CellsAt.other (Fp_5) (by omega) 0 (.int .i64 dd.re)) (by omega) 1 (.int .i64 dd.im)
  have Yd_p5 : CellsAt ((w5.setCell ⟨w4.heap.size, 0, none⟩ (.int .i64 dd.re)).setCell ⟨w4.heap.size, 1, none⟩ (.int .i64 dd.im)) (w4.heap.size) 42 #[.int .i64 dd.re, .int .i64 dd.im] := by first | exact CellsAt.set (CellsAt.set (Fd_5) 0 (.int .i64 dd.re)) 1 (.int .i64 dd.im) | simpa using CellsAt.set (CellsAt.set (Fd_5) 0 (.int .i64 dd.re)) 1 (.int .i64 dd.im)
  have yp5 := Gr.setCell (Gr.setCell (z5) (a := ⟨w4.heap.size, 0, none⟩) (by first | omega | (simp only; omega)) (.int .i64 dd.re)) (a := ⟨w4.heap.size, 1, none⟩) (by first | omega | (simp only; omega)) (.int .i64 dd.im)
  refine (HU.out _).mono ?_
  rintro e w6 ⟨rfl, g6⟩
  have Fj_6 := CellsAt.gr (Yj_p5) g6
  have lj_6 := CellsAt.lt (Fj_6)
  have Fr_6 := CellsAt.gr (Yr_p5) g6
  have lr_6 := CellsAt.lt (Fr_6)
  have Ft_6 := CellsAt.gr (Yt_p5) g6
  have lt_6 := CellsAt.lt (Ft_6)
  have Ft3_6 := CellsAt.gr (Yt3_p5) g6
  have lt3_6 := CellsAt.lt (Ft3_6)
  have Fp_6 := CellsAt.gr (Yp_p5) g6
  have lp_6 := CellsAt.lt (Fp_6)
  have Fd_6 := CellsAt.gr (Yd_p5) g6
  have ld_6 := CellsAt.lt (Fd_6)
  have z6 := (yp5).trans g6
  clear Yj_p5 Yr_p5 Yt_p5 Yt3_p5 Yp_p5 Yd_p5 yp5 g6
  have cd0 := CellsAt.cell (Fd_6) 0
  have cd1 := CellsAt.cell (Fd_6) 1
  have cp0 := CellsAt.cell (Fp_6) 0
  have cp1 := CellsAt.cell (Fp_6) 1
  simp only [List.getElem?_toArray, List.getElem?_cons_zero, List.getElem?_cons_succ] at cd0 cd1 cp0 cp1
  have mr0 := CellsAt.frozen (Fr_6) 0
  have cr0 := CellsAt.cell (Fr_6) 0
  simp only [List.getElem?_toArray, List.getElem?_cons_zero, List.getElem?_cons_succ] at cr0
  have mr1 := CellsAt.frozen (Fr_6) 1
  have cr1 := CellsAt.cell (Fr_6) 1
  simp only [List.getElem?_toArray, List.getElem?_cons_zero, List.getElem?_cons_succ] at cr1
  go_wp2_with fail
  clear cd0 cd1 cp0 cp1 mr0 cr0 mr1 cr1
  have Yj_p6 : CellsAt (w6.alloc (.cells #[.int .i64 U.re, .int .i64 U.im] 42)) (w.heap.size) 48 #[.int .i64 ju.re, .int .i64 ju.im, .int .i64 jv.re, .int .i64 jv.im, .int .i64 jy.re, .int .i64 jy.im, .int .i64 jz.re, .int .i64 jz.im, .int .i64 ja.re, .int .i64 ja.im, .int .i64 jc.re, .int .i64 jc.im] := by first | exact CellsAt.alloc (Fj_6) (.cells #[.int .i64 U.re, .int .i64 U.im] 42) | simpa using CellsAt.alloc (Fj_6) (.cells #[.int .i64 U.re, .int .i64 U.im] 42)
  have Yr_p6 : CellsAt (w6.alloc (.cells #[.int .i64 U.re, .int .i64 U.im] 42)) (w.heap.size + 1) 42 #[.int .i64 0, .int .i64 0] := by first | exact CellsAt.alloc (Fr_6) (.cells #[.int .i64 U.re, .int .i64 U.im] 42) | simpa using CellsAt.alloc (Fr_6) (.cells #[.int .i64 U.re, .int .i64 U.im] 42)
  have Yt_p6 : CellsAt (w6.alloc (.cells #[.int .i64 U.re, .int .i64 U.im] 42)) (w1.heap.size) 42 #[.int .i64 t.re, .int .i64 t.im] := by first | exact CellsAt.alloc (Ft_6) (.cells #[.int .i64 U.re, .int .i64 U.im] 42) | simpa using CellsAt.alloc (Ft_6) (.cells #[.int .i64 U.re, .int .i64 U.im] 42)
  have Yt3_p6 : CellsAt (w6.alloc (.cells #[.int .i64 U.re, .int .i64 U.im] 42)) (w2.heap.size) 42 #[.int .i64 t3.re, .int .i64 t3.im] := by first | exact CellsAt.alloc (Ft3_6) (.cells #[.int .i64 U.re, .int .i64 U.im] 42) | simpa using CellsAt.alloc (Ft3_6) (.cells #[.int .i64 U.re, .int .i64 U.im] 42)
  have Yp_p6 : CellsAt (w6.alloc (.cells #[.int .i64 U.re, .int .i64 U.im] 42)) (w3.heap.size) 42 #[.int .i64 p.re, .int .i64 p.im] := by first | exact CellsAt.alloc (Fp_6) (.cells #[.int .i64 U.re, .int .i64 U.im] 42) | simpa using CellsAt.alloc (Fp_6) (.cells #[.int .i64 U.re, .int .i64 U.im] 42)
  have Yd_p6 : CellsAt (w6.alloc (.cells #[.int .i64 U.re, .int .i64 U.im] 42)) (w4.heap.size) 42 #[.int .i64 dd.re, .int .i64 dd.im] := by first | exact CellsAt.alloc (Fd_6) (.cells #[.int .i64 U.re, .int .i64 U.im] 42) | simpa using CellsAt.alloc (Fd_6) (.cells #[.int .i64 U.re, .int .i64 U.im] 42)
  have Ys_p6 : CellsAt (w6.alloc (.cells #[.int .i64 U.re, .int .i64 U.im] 42)) (w6.heap.size) 42 #[.int .i64 U.re, .int .i64 U.im] := by first | exact CellsAt.new w6 42 #[.int .i64 U.re, .int .i64 U.im] | simpa using CellsAt.new w6 42 #[.int .i64 U.re, .int .i64 U.im]
  have yp6 := Gr.alloc (z6) #[.int .i64 U.re, .int .i64 U.im] 42
  refine (HS.out _).mono ?_
  rintro e w7 ⟨rfl, g7⟩
  have Fj_7 := CellsAt.gr (Yj_p6) g7
  have lj_7 := CellsAt.lt (Fj_7)
  have Fr_7 := CellsAt.gr (Yr_p6) g7
  have lr_7 := CellsAt.lt (Fr_7)
  have Ft_7 := CellsAt.gr (Yt_p6) g7
  have lt_7 := CellsAt.lt (Ft_7)
  have Ft3_7 := CellsAt.gr (Yt3_p6) g7
  have lt3_7 := CellsAt.lt (Ft3_7)
  have Fp_7 := CellsAt.gr (Yp_p6) g7
  have lp_7 := CellsAt.lt (Fp_7)
  have Fd_7 := CellsAt.gr (Yd_p6) g7
  have ld_7 := CellsAt.lt (Fd_7)
  have Fs_7 := CellsAt.gr (Ys_p6) g7
  have ls_7 := CellsAt.lt (Fs_7)
  have z7 := (yp6).trans g7
  clear Yj_p6 Yr_p6 Yt_p6 Yt3_p6 Yp_p6 Yd_p6 Ys_p6 yp6 g7
  have mr0 := CellsAt.frozen (Fr_7) 0
  have cr0 := CellsAt.cell (Fr_7) 0
  simp only [List.getElem?_toArray, List.getElem?_cons_zero, List.getElem?_cons_succ] at cr0
  have mr1 := CellsAt.frozen (Fr_7) 1
  have cr1 := CellsAt.cell (Fr_7) 1
  simp only [List.getElem?_toArray, List.getElem?_cons_zero, List.getElem?_cons_succ] at cr1
  go_wp2_with fail
  clear mr0 cr0 mr1 cr1
  refine (HF.out _).mono ?_
  rintro e w8 ⟨rfl, g8⟩
  have Fj_8 := CellsAt.gr (Fj_7) g8
  have lj_8 := CellsAt.lt (Fj_8)
  have Fr_8 := CellsAt.gr (Fr_7) g8
  have lr_8 := CellsAt.lt (Fr_8)
  have Ft_8 := CellsAt.gr (Ft_7) g8
  have lt_8 := CellsAt.lt (Ft_8)
  have Ft3_8 := CellsAt.gr (Ft3_7) g8
  have lt3_8 := CellsAt.lt (Ft3_8)
  have Fp_8 := CellsAt.gr (Fp_7) g8
  have lp_8 := CellsAt.lt (Fp_8)
  have Fd_8 := CellsAt.gr (Fd_7) g8
  have ld_8 := CellsAt.lt (Fd_8)
  have Fs_8 := CellsAt.gr (Fs_7) g8
  have ls_8 := CellsAt.lt (Fs_8)
  have z8 := (z7).trans g8
  clear Fj_7 Fr_7 Ft_7 Ft3_7 Fp_7 Fd_7 Fs_7 z7 g8
  have mr0 := CellsAt.frozen (Fr_8) 0
  have cr0 := CellsAt.cell (Fr_8) 0
  simp only [List.getElem?_toArray, List.getElem?_cons_zero, List.getElem?_cons_succ] at cr0
  have mr1 := CellsAt.frozen (Fr_8) 1
  have cr1 := CellsAt.cell (Fr_8) 1
  simp only [List.getElem?_toArray, List.getElem?_cons_zero, List.getElem?_cons_succ] at cr1
  go_wp2_with fail
  clear mr0 cr0 mr1 cr1
  have Yj_p7 : CellsAt ((w8.setCell ⟨w.heap.size + 1, 0, none⟩ (.int .i64 o.re)).setCell ⟨w.heap.size + 1, 1, none⟩ (.int .i64 o.im)) (w.heap.size) 48 #[.int .i64 ju.re, .int .i64 ju.im, .int .i64 jv.re, .int .i64 jv.im, .int .i64 jy.re, .int .i64 jy.im, .int .i64 jz.re, .int .i64 jz.im, .int .i64 ja.re, .int .i64 ja.im, .int .i64 jc.re, .int .i64 jc.im] := by first | exact CellsAt.other (CellsAt.other (Fj_8) (by omega) 0 (.int .i64 o.re)) (by omega) 1 (.int .i64 o.im) | simpa using CellsAt.other (CellsAt.other (Fj_8) (by omega) 0 (.int .i64 o.re)) (by omega) 1 (.int .i64 o.im)
  have Yr_p7 : CellsAt ((w8.setCell ⟨w.heap.size + 1, 0, none⟩ (.int .i64 o.re)).setCell ⟨w.heap.size + 1, 1, none⟩ (.int .i64 o.im)) (w.heap.size + 1) 42 #[.int .i64 o.re, .int .i64 o.im] := by first | exact CellsAt.set (CellsAt.set (Fr_8) 0 (.int .i64 o.re)) 1 (.int .i64 o.im) | simpa using CellsAt.set (CellsAt.set (Fr_8) 0 (.int .i64 o.re)) 1 (.int .i64 o.im)
  have Yt_p7 : CellsAt ((w8.setCell ⟨w.heap.size + 1, 0, none⟩ (.int .i64 o.re)).setCell ⟨w.heap.size + 1, 1, none⟩ (.int .i64 o.im)) (w1.heap.size) 42 #[.int .i64 t.re, .int .i64 t.im] := by first | exact CellsAt.other (CellsAt.other (Ft_8) (by omega) 0 (.int .i64 o.re)) (by omega) 1 (.int .i64 o.im) | simpa using CellsAt.other (CellsAt.other (Ft_8) (by omega) 0 (.int .i64 o.re)) (by omega) 1 (.int .i64 o.im)
  have Yt3_p7 : CellsAt ((w8.setCell ⟨w.heap.size + 1, 0, none⟩ (.int .i64 o.re)).setCell ⟨w.heap.size + 1, 1, none⟩ (.int .i64 o.im)) (w2.heap.size) 42 #[.int .i64 t3.re, .int .i64 t3.im] := by first | exact CellsAt.other (CellsAt.other (Ft3_8) (by omega) 0 (.int .i64 o.re)) (by omega) 1 (.int .i64 o.im) | simpa using CellsAt.other (CellsAt.other (Ft3_8) (by omega) 0 (.int .i64 o.re)) (by omega) 1 (.int .i64 o.im)
  have Yp_p7 : CellsAt ((w8.setCell ⟨w.heap.size + 1, 0, none⟩ (.int .i64 o.re)).setCell ⟨w.heap.size + 1, 1, none⟩ (.int .i64 o.im)) (w3.heap.size) 42 #[.int .i64 p.re, .int .i64 p.im] := by first | exact CellsAt.other (CellsAt.other (Fp_8) (by omega) 0 (.int .i64 o.re)) (by omega) 1 (.int .i64 o.im) | simpa using CellsAt.other (CellsAt.other (Fp_8) (by omega) 0 (.int .i64 o.re)) (by omega) 1 (.int .i64 o.im)
  have Yd_p7 : CellsAt ((w8.setCell ⟨w.heap.size + 1, 0, none⟩ (.int .i64 o.re)).setCell ⟨w.heap.size + 1, 1, none⟩ (.int .i64 o.im)) (w4.heap.size) 42 #[.int .i64 dd.re, .int .i64 dd.im] := by first | exact CellsAt.other (CellsAt.other (Fd_8) (by omega) 0 (.int .i64 o.re)) (by omega) 1 (.int .i64 o.im) | simpa using CellsAt.other (CellsAt.other (Fd_8) (by omega) 0 (.int .i64 o.re)) (by omega) 1 (.int .i64 o.im)
  have Ys_p7 : CellsAt ((w8.setCell ⟨w.heap.size + 1, 0, none⟩ (.int .i64 o.re)).setCell ⟨w.heap.size + 1, 1, none⟩ (.int .i64 o.im)) (w6.heap.size) 42 #[.int .i64 U.re, .int .i64 U.im] := by first | exact CellsAt.other (CellsAt.other (Fs_8) (by omega) 0 (.int .i64 o.re)) (by omega) 1 (.int .i64 o.im) | simpa using CellsAt.other (CellsAt.other (Fs_8) (by omega) 0 (.int .i64 o.re)) (by omega) 1 (.int .i64 o.im)
  have yp7 := Gr.setCell (Gr.setCell (z8) (a := ⟨w.heap.size + 1, 0, none⟩) (by first | omega | (simp only; omega)) (.int .i64 o.re)) (a := ⟨w.heap.size + 1, 1, none⟩) (by first | omega | (simp only; omega)) (.int .i64 o.im)
  generalize ((w8.setCell ⟨w.heap.size + 1, 0, none⟩ (.int .i64 o.re)).setCell ⟨w.heap.size + 1, 1, none⟩ (.int .i64 o.im)) = uf at *
  have cr0 := CellsAt.cell (Yr_p7) 0
  have cr1 := CellsAt.cell (Yr_p7) 1
  simp only [List.getElem?_toArray, List.getElem?_cons_zero, List.getElem?_cons_succ] at cr0 cr1
  refine bodyPost_ret (v := .agg #[.int .i64 o.re, .int .i64 o.im]) ?_ rfl ⟨rfl, yp7⟩
  simp [results, Tryz.results27, go_sem, *]

set_option maxHeartbeats 4000000 in
theorem rJoin_true_3_of (bits mo b1 b2 : Int) (ju jv jy jz ja jc t t3 p d dd U V s o : Gi) (h1 : wrap64 (bits + 1) = b1) (h2 : wrap64 (bits + 2) = b2)
    (HT : Hid (∀ W, Calls Tryz.prog 39 #[.agg #[.int .i64 (jy).re, .int .i64 (jy).im], .agg #[.int .i64 (ja).re, .int .i64 (ja).im]] W fun e w' => e = .returned (.agg #[.int .i64 (t).re, .int .i64 (t).im]) ∧ Gr W w')) (HT3 : Hid (∀ W, Calls Tryz.prog 39 #[.agg #[.int .i64 (jz).re, .int .i64 (jz).im], .agg #[.int .i64 (jc).re, .int .i64 (jc).im]] W fun e w' => e = .returned (.agg #[.int .i64 (t3).re, .int .i64 (t3).im]) ∧ Gr W w')) (HP : Hid (∀ W, Calls Tryz.prog 23 #[.agg #[.int .i64 (t).re, .int .i64 (t).im], .agg #[.int .i64 (t3).re, .int .i64 (t3).im]] W fun e w' => e = .returned (.agg #[.int .i64 (p).re, .int .i64 (p).im]) ∧ Gr W w')) (HL : Hid (∀ W, Calls Tryz.prog 24 #[.agg #[.int .i64 (t).re, .int .i64 (t).im], .agg #[.int .i64 (t3).re, .int .i64 (t3).im]] W fun e w' => e = .returned (.agg #[.int .i64 (d).re, .int .i64 (d).im]) ∧ Gr W w'))
    (HN : Hid (∀ W, Calls Tryz.prog 40 #[.agg #[.int .i64 (d).re, .int .i64 (d).im], .int .i64 1] W fun e w' => e = .returned (.agg #[.int .i64 (dd).re, .int .i64 (dd).im]) ∧ Gr W w')) (HU : Hid (∀ W, Calls Tryz.prog 41 #[.agg #[.int .i64 (ju).re, .int .i64 (ju).im], .int .i64 b1] W fun e w' => e = .returned (.agg #[.int .i64 (U).re, .int .i64 (U).im]) ∧ Gr W w')) (HV : Hid (∀ W, Calls Tryz.prog 41 #[.agg #[.int .i64 (jv).re, .int .i64 (jv).im], .int .i64 b1] W fun e w' => e = .returned (.agg #[.int .i64 (V).re, .int .i64 (V).im]) ∧ Gr W w'))
    (HS : Hid (∀ W, Calls Tryz.prog 24 #[.agg #[.int .i64 (V).re, .int .i64 (V).im], .agg #[.int .i64 (dd).re, .int .i64 (dd).im]] W fun e w' => e = .returned (.agg #[.int .i64 (s).re, .int .i64 (s).im]) ∧ Gr W w')) (HF : Hid (∀ W, Calls Tryz.prog 22 #[.agg #[.int .i64 (s).re, .int .i64 (s).im], .int .i64 b2, .int .i64 mo] W fun e w' => e = .returned (.agg #[.int .i64 (o).re, .int .i64 (o).im]) ∧ Gr W w')) (w : World) :
    Calls Tryz.prog 27 #[.agg #[.int .i64 ju.re, .int .i64 ju.im, .int .i64 jv.re, .int .i64 jv.im, .int .i64 jy.re, .int .i64 jy.im, .int .i64 jz.re, .int .i64 jz.im, .int .i64 ja.re, .int .i64 ja.im, .int .i64 jc.re, .int .i64 jc.im], .int .i64 3, .int .i64 bits, .int .i64 mo, .bool true] w fun e w' => e = .returned (.agg #[.int .i64 (o).re, .int .i64 (o).im]) ∧ Gr w w' := by
  go_enter Tryz.func27, Tryz.ntmps27
  go_wp2_with fail
  obtain ⟨u0, hU⟩ : ∃ uu, uu = ((w.alloc (.cells #[.int .i64 ju.re, .int .i64 ju.im, .int .i64 jv.re, .int .i64 jv.im, .int .i64 jy.re, .int .i64 jy.im, .int .i64 jz.re, .int .i64 jz.im, .int .i64 ja.re, .int .i64 ja.im, .int .i64 jc.re, .int .i64 jc.im] 48)).alloc (.cells #[.int .i64 0, .int .i64 0] 42)) := ⟨_, rfl⟩
  have gu : Gr w u0 := by rw [hU]; exact ((Gr.refl w).alloc _ _).alloc _ _
  have R0 : CellsAt u0 (w.heap.size) 48 #[.int .i64 ju.re, .int .i64 ju.im, .int .i64 jv.re, .int .i64 jv.im, .int .i64 jy.re, .int .i64 jy.im, .int .i64 jz.re, .int .i64 jz.im, .int .i64 ja.re, .int .i64 ja.im, .int .i64 jc.re, .int .i64 jc.im] := by
    rw [hU]
    have := ((CellsAt.new w 48 #[.int .i64 ju.re, .int .i64 ju.im, .int .i64 jv.re, .int .i64 jv.im, .int .i64 jy.re, .int .i64 jy.im, .int .i64 jz.re, .int .i64 jz.im, .int .i64 ja.re, .int .i64 ja.im, .int .i64 jc.re, .int .i64 jc.im]).alloc (.cells #[.int .i64 0, .int .i64 0] 42))
    simpa only [World.size_alloc] using this
  have R1 : CellsAt u0 (w.heap.size + 1) 42 #[.int .i64 0, .int .i64 0] := by
    rw [hU]
    have := (CellsAt.new (w.alloc (.cells #[.int .i64 ju.re, .int .i64 ju.im, .int .i64 jv.re, .int .i64 jv.im, .int .i64 jy.re, .int .i64 jy.im, .int .i64 jz.re, .int .i64 jz.im, .int .i64 ja.re, .int .i64 ja.im, .int .i64 jc.re, .int .i64 jc.im] 48)) 42 #[.int .i64 0, .int .i64 0])
    simpa only [World.size_alloc] using this
  rw [← hU]
  clear hU
  have lj := R0.lt
  have lr := R1.lt
  refine (HT.out _).mono ?_
  rintro e w1 ⟨rfl, g1⟩
  have Fj_1 := CellsAt.gr (R0) g1
  have lj_1 := CellsAt.lt (Fj_1)
  have Fr_1 := CellsAt.gr (R1) g1
  have lr_1 := CellsAt.lt (Fr_1)
  have z1 := (gu).trans g1
  clear R0 R1 gu g1
  have cj0 := CellsAt.cell (Fj_1) 0
  have cj1 := CellsAt.cell (Fj_1) 1
  have cj2 := CellsAt.cell (Fj_1) 2
  have cj3 := CellsAt.cell (Fj_1) 3
  have cj4 := CellsAt.cell (Fj_1) 4
  have cj5 := CellsAt.cell (Fj_1) 5
  have cj6 := CellsAt.cell (Fj_1) 6
  have cj7 := CellsAt.cell (Fj_1) 7
  have cj8 := CellsAt.cell (Fj_1) 8
  have cj9 := CellsAt.cell (Fj_1) 9
  have cj10 := CellsAt.cell (Fj_1) 10
  have cj11 := CellsAt.cell (Fj_1) 11
  simp only [List.getElem?_toArray, List.getElem?_cons_zero, List.getElem?_cons_succ] at cj0 cj1 cj2 cj3 cj4 cj5 cj6 cj7 cj8 cj9 cj10 cj11
  go_wp2_with fail
  clear cj0 cj1 cj2 cj3 cj4 cj5 cj6 cj7 cj8 cj9 cj10 cj11
  have Yj_p1 : CellsAt (w1.alloc (.cells #[.int .i64 t.re, .int .i64 t.im] 42)) (w.heap.size) 48 #[.int .i64 ju.re, .int .i64 ju.im, .int .i64 jv.re, .int .i64 jv.im, .int .i64 jy.re, .int .i64 jy.im, .int .i64 jz.re, .int .i64 jz.im, .int .i64 ja.re, .int .i64 ja.im, .int .i64 jc.re, .int .i64 jc.im] := by first | exact CellsAt.alloc (Fj_1) (.cells #[.int .i64 t.re, .int .i64 t.im] 42) | simpa using CellsAt.alloc (Fj_1) (.cells #[.int .i64 t.re, .int .i64 t.im] 42)
  have Yr_p1 : CellsAt (w1.alloc (.cells #[.int .i64 t.re, .int .i64 t.im] 42)) (w.heap.size + 1) 42 #[.int .i64 0, .int .i64 0] := by first | exact CellsAt.alloc (Fr_1) (.cells #[.int .i64 t.re, .int .i64 t.im] 42) | simpa using CellsAt.alloc (Fr_1) (.cells #[.int .i64 t.re, .int .i64 t.im] 42)
  have Yt_p1 : CellsAt (w1.alloc (.cells #[.int .i64 t.re, .int .i64 t.im] 42)) (w1.heap.size) 42 #[.int .i64 t.re, .int .i64 t.im] := by first | exact CellsAt.new w1 42 #[.int .i64 t.re, .int .i64 t.im] | simpa using CellsAt.new w1 42 #[.int .i64 t.re, .int .i64 t.im]
  have yp1 := Gr.alloc (z1) #[.int .i64 t.re, .int .i64 t.im] 42
  refine (HT3.out _).mono ?_
  rintro e w2 ⟨rfl, g2⟩
  have Fj_2 := CellsAt.gr (Yj_p1) g2
  have lj_2 := CellsAt.lt (Fj_2)
  have Fr_2 := CellsAt.gr (Yr_p1) g2
  have lr_2 := CellsAt.lt (Fr_2)
  have Ft_2 := CellsAt.gr (Yt_p1) g2
  have lt_2 := CellsAt.lt (Ft_2)
  have z2 := (yp1).trans g2
  clear Yj_p1 Yr_p1 Yt_p1 yp1 g2
  have ct0 := CellsAt.cell (Ft_2) 0
  have ct1 := CellsAt.cell (Ft_2) 1
  simp only [List.getElem?_toArray, List.getElem?_cons_zero, List.getElem?_cons_succ] at ct0 ct1
  go_wp2_with fail
  clear ct0 ct1
  have Yj_p2 : CellsAt (w2.alloc (.cells #[.int .i64 t3.re, .int .i64 t3.im] 42)) (w.heap.size) 48 #[.int .i64 ju.re, .int .i64 ju.im, .int .i64 jv.re, .int .i64 jv.im, .int .i64 jy.re, .int .i64 jy.im, .int .i64 jz.re, .int .i64 jz.im, .int .i64 ja.re, .int .i64 ja.im, .int .i64 jc.re, .int .i64 jc.im] := by first | exact CellsAt.alloc (Fj_2) (.cells #[.int .i64 t3.re, .int .i64 t3.im] 42) | simpa using CellsAt.alloc (Fj_2) (.cells #[.int .i64 t3.re, .int .i64 t3.im] 42)
  have Yr_p2 : CellsAt (w2.alloc (.cells #[.int .i64 t3.re, .int .i64 t3.im] 42)) (w.heap.size + 1) 42 #[.int .i64 0, .int .i64 0] := by first | exact CellsAt.alloc (Fr_2) (.cells #[.int .i64 t3.re, .int .i64 t3.im] 42) | simpa using CellsAt.alloc (Fr_2) (.cells #[.int .i64 t3.re, .int .i64 t3.im] 42)
  have Yt_p2 : CellsAt (w2.alloc (.cells #[.int .i64 t3.re, .int .i64 t3.im] 42)) (w1.heap.size) 42 #[.int .i64 t.re, .int .i64 t.im] := by first | exact CellsAt.alloc (Ft_2) (.cells #[.int .i64 t3.re, .int .i64 t3.im] 42) | simpa using CellsAt.alloc (Ft_2) (.cells #[.int .i64 t3.re, .int .i64 t3.im] 42)
  have Yt3_p2 : CellsAt (w2.alloc (.cells #[.int .i64 t3.re, .int .i64 t3.im] 42)) (w2.heap.size) 42 #[.int .i64 t3.re, .int .i64 t3.im] := by first | exact CellsAt.new w2 42 #[.int .i64 t3.re, .int .i64 t3.im] | simpa using CellsAt.new w2 42 #[.int .i64 t3.re, .int .i64 t3.im]
  have yp2 := Gr.alloc (z2) #[.int .i64 t3.re, .int .i64 t3.im] 42
  refine (HP.out _).mono ?_
  rintro e w3 ⟨rfl, g3⟩
  have Fj_3 := CellsAt.gr (Yj_p2) g3
  have lj_3 := CellsAt.lt (Fj_3)
  have Fr_3 := CellsAt.gr (Yr_p2) g3
  have lr_3 := CellsAt.lt (Fr_3)
  have Ft_3 := CellsAt.gr (Yt_p2) g3
  have lt_3 := CellsAt.lt (Ft_3)
  have Ft3_3 := CellsAt.gr (Yt3_p2) g3
  have lt3_3 := CellsAt.lt (Ft3_3)
  have z3 := (yp2).trans g3
  clear Yj_p2 Yr_p2 Yt_p2 Yt3_p2 yp2 g3
  have ct0 := CellsAt.cell (Ft_3) 0
  have ct1 := CellsAt.cell (Ft_3) 1
  have ct30 := CellsAt.cell (Ft3_3) 0
  have ct31 := CellsAt.cell (Ft3_3) 1
  simp only [List.getElem?_toArray, List.getElem?_cons_zero, List.getElem?_cons_succ] at ct0 ct1 ct30 ct31
  go_wp2_with fail
  clear ct0 ct1 ct30 ct31
  have Yj_p3 : CellsAt (w3.alloc (.cells #[.int .i64 p.re, .int .i64 p.im] 42)) (w.heap.size) 48 #[.int .i64 ju.re, .int .i64 ju.im, .int .i64 jv.re, .int .i64 jv.im, .int .i64 jy.re, .int .i64 jy.im, .int .i64 jz.re, .int .i64 jz.im, .int .i64 ja.re, .int .i64 ja.im, .int .i64 jc.re, .int .i64 jc.im] := by first | exact CellsAt.alloc (Fj_3) (.cells #[.int .i64 p.re, .int .i64 p.im] 42) | simpa using CellsAt.alloc (Fj_3) (.cells #[.int .i64 p.re, .int .i64 p.im] 42)
  have Yr_p3 : CellsAt (w3.alloc (.cells #[.int .i64 p.re, .int .i64 p.im] 42)) (w.heap.size + 1) 42 #[.int .i64 0, .int .i64 0] := by first | exact CellsAt.alloc (Fr_3) (.cells #[.int .i64 p.re, .int .i64 p.im] 42) | simpa using CellsAt.alloc (Fr_3) (.cells #[.int .i64 p.re, .int .i64 p.im] 42)
  have Yt_p3 : CellsAt (w3.alloc (.cells #[.int .i64 p.re, .int .i64 p.im] 42)) (w1.heap.size) 42 #[.int .i64 t.re, .int .i64 t.im] := by first | exact CellsAt.alloc (Ft_3) (.cells #[.int .i64 p.re, .int .i64 p.im] 42) | simpa using CellsAt.alloc (Ft_3) (.cells #[.int .i64 p.re, .int .i64 p.im] 42)
  have Yt3_p3 : CellsAt (w3.alloc (.cells #[.int .i64 p.re, .int .i64 p.im] 42)) (w2.heap.size) 42 #[.int .i64 t3.re, .int .i64 t3.im] := by first | exact CellsAt.alloc (Ft3_3) (.cells #[.int .i64 p.re, .int .i64 p.im] 42) | simpa using CellsAt.alloc (Ft3_3) (.cells #[.int .i64 p.re, .int .i64 p.im] 42)
  have Yp_p3 : CellsAt (w3.alloc (.cells #[.int .i64 p.re, .int .i64 p.im] 42)) (w3.heap.size) 42 #[.int .i64 p.re, .int .i64 p.im] := by first | exact CellsAt.new w3 42 #[.int .i64 p.re, .int .i64 p.im] | simpa using CellsAt.new w3 42 #[.int .i64 p.re, .int .i64 p.im]
  have yp3 := Gr.alloc (z3) #[.int .i64 p.re, .int .i64 p.im] 42
  refine (HL.out _).mono ?_
  rintro e w4 ⟨rfl, g4⟩
  have Fj_4 := CellsAt.gr (Yj_p3) g4
  have lj_4 := CellsAt.lt (Fj_4)
  have Fr_4 := CellsAt.gr (Yr_p3) g4
  have lr_4 := CellsAt.lt (Fr_4)
  have Ft_4 := CellsAt.gr (Yt_p3) g4
  have lt_4 := CellsAt.lt (Ft_4)
  have Ft3_4 := CellsAt.gr (Yt3_p3) g4
  have lt3_4 := CellsAt.lt (Ft3_4)
  have Fp_4 := CellsAt.gr (Yp_p3) g4
  have lp_4 := CellsAt.lt (Fp_4)
  have z4 := (yp3).trans g4
  clear Yj_p3 Yr_p3 Yt_p3 Yt3_p3 Yp_p3 yp3 g4
  go_wp2_with fail
  have Yj_p4 : CellsAt (w4.alloc (.cells #[.int .i64 d.re, .int .i64 d.im] 42)) (w.heap.size) 48 #[.int .i64 ju.re, .int .i64 ju.im, .int .i64 jv.re, .int .i64 jv.im, .int .i64 jy.re, .int .i64 jy.im, .int .i64 jz.re, .int .i64 jz.im, .int .i64 ja.re, .int .i64 ja.im, .int .i64 jc.re, .int .i64 jc.im] := by first | exact CellsAt.alloc (Fj_4) (.cells #[.int .i64 d.re, .int .i64 d.im] 42) | simpa using CellsAt.alloc (Fj_4) (.cells #[.int .i64 d.re, .int .i64 d.im] 42)
  have Yr_p4 : CellsAt (w4.alloc (.cells #[.int .i64 d.re, .int .i64 d.im] 42)) (w.heap.size + 1) 42 #[.int .i64 0, .int .i64 0] := by first | exact CellsAt.alloc (Fr_4) (.cells #[.int .i64 d.re, .int .i64 d.im] 42) | simpa using CellsAt.alloc (Fr_4) (.cells #[.int .i64 d.re, .int .i64 d.im] 42)
  have Yt_p4 : CellsAt (w4.alloc (.cells #[.int .i64 d.re, .int .i64 d.im] 42)) (w1.heap.size) 42 #[.int .i64 t.re, .int .i64 t.im] := by first | exact CellsAt.alloc (Ft_4) (.cells #[.int .i64 d.re, .int .i64 d.im] 42) | simpa using CellsAt.alloc (Ft_4) (.cells #[.int .i64 d.re, .int .i64 d.im] 42)
  have Yt3_p4 : CellsAt (w4.alloc (.cells #[.int .i64 d.re, .int .i64 d.im] 42)) (w2.heap.size) 42 #[.int .i64 t3.re, .int .i64 t3.im] := by first | exact CellsAt.alloc (Ft3_4) (.cells #[.int .i64 d.re, .int .i64 d.im] 42) | simpa using CellsAt.alloc (Ft3_4) (.cells #[.int .i64 d.re, .int .i64 d.im] 42)
  have Yp_p4 : CellsAt (w4.alloc (.cells #[.int .i64 d.re, .int .i64 d.im] 42)) (w3.heap.size) 42 #[.int .i64 p.re, .int .i64 p.im] := by first | exact CellsAt.alloc (Fp_4) (.cells #[.int .i64 d.re, .int .i64 d.im] 42) | simpa using CellsAt.alloc (Fp_4) (.cells #[.int .i64 d.re, .int .i64 d.im] 42)
  have Yd_p4 : CellsAt (w4.alloc (.cells #[.int .i64 d.re, .int .i64 d.im] 42)) (w4.heap.size) 42 #[.int .i64 d.re, .int .i64 d.im] := by first | exact CellsAt.new w4 42 #[.int .i64 d.re, .int .i64 d.im] | simpa using CellsAt.new w4 42 #[.int .i64 d.re, .int .i64 d.im]
  have yp4 := Gr.alloc (z4) #[.int .i64 d.re, .int .i64 d.im] 42
  refine (HN.out _).mono ?_
  rintro e w5 ⟨rfl, g5⟩
  have Fj_5 := CellsAt.gr (Yj_p4) g5
  have lj_5 := CellsAt.lt (Fj_5)
  have Fr_5 := CellsAt.gr (Yr_p4) g5
  have lr_5 := CellsAt.lt (Fr_5)
  have Ft_5 := CellsAt.gr (Yt_p4) g5
  have lt_5 := CellsAt.lt (Ft_5)
  have Ft3_5 := CellsAt.gr (Yt3_p4) g5
  have lt3_5 := CellsAt.lt (Ft3_5)
  have Fp_5 := CellsAt.gr (Yp_p4) g5
  have lp_5 := CellsAt.lt (Fp_5)
  have Fd_5 := CellsAt.gr (Yd_p4) g5
  have ld_5 := CellsAt.lt (Fd_5)
  have z5 := (yp4).trans g5
  clear Yj_p4 Yr_p4 Yt_p4 Yt3_p4 Yp_p4 Yd_p4 yp4 g5
  have cj0 := CellsAt.cell (Fj_5) 0
  have cj1 := CellsAt.cell (Fj_5) 1
  have cj2 := CellsAt.cell (Fj_5) 2
  have cj3 := CellsAt.cell (Fj_5) 3
  have cj4 := CellsAt.cell (Fj_5) 4
  have cj5 := CellsAt.cell (Fj_5) 5
  have cj6 := CellsAt.cell (Fj_5) 6
  have cj7 := CellsAt.cell (Fj_5) 7
  have cj8 := CellsAt.cell (Fj_5) 8
  have cj9 := CellsAt.cell (Fj_5) 9
  have cj10 := CellsAt.cell (Fj_5) 10
  have cj11 := CellsAt.cell (Fj_5) 11
  simp only [List.getElem?_toArray, List.getElem?_cons_zero, List.getElem?_cons_succ] at cj0 cj1 cj2 cj3 cj4 cj5 cj6 cj7 cj8 cj9 cj10 cj11
  have md0 := CellsAt.frozen (Fd_5) 0
  have cd0 := CellsAt.cell (Fd_5) 0
  simp only [List.getElem?_toArray, List.getElem?_cons_zero, List.getElem?_cons_succ] at cd0
  have md1 := CellsAt.frozen (Fd_5) 1
  have cd1 := CellsAt.cell (Fd_5) 1
  simp only [List.getElem?_toArray, List.getElem?_cons_zero, List.getElem?_cons_succ] at cd1
  go_wp2_with fail
  clear cj0 cj1 cj2 cj3 cj4 cj5 cj6 cj7 cj8 cj9 cj10 cj11 md0 cd0 md1 cd1
  have Yj_p5 : CellsAt ((w5.setCell ⟨w4.heap.size, 0, none⟩ (.int .i64 dd.re)).setCell ⟨w4.heap.size, 1, none⟩ (.int .i64 dd.im)) (w.heap.size) 48 #[.int .i64 ju.re, .int .i64 ju.im, .int .i64 jv.re, .int .i64 jv.im, .int .i64 jy.re, .int .i64 jy.im, .int .i64 jz.re, .int .i64 jz.im, .int .i64 ja.re, .int .i64 ja.im, .int .i64 jc.re, .int .i64 jc.im] := by first | exact CellsAt.other (CellsAt.other (Fj_5) (by omega) 0 (.int .i64 dd.re)) (by omega) 1 (.int .i64 dd.im) | simpa using CellsAt.other (CellsAt.other (Fj_5) (by omega) 0 (.int .i64 dd.re)) (by omega) 1 (.int .i64 dd.im)
  have Yr_p5 : CellsAt ((w5.setCell ⟨w4.heap.size, 0, none⟩ (.int .i64 dd.re)).setCell ⟨w4.heap.size, 1, none⟩ (.int .i64 dd.im)) (w.heap.size + 1) 42 #[.int .i64 0, .int .i64 0] := by first | exact CellsAt.other (CellsAt.other (Fr_5) (by omega) 0 (.int .i64 dd.re)) (by omega) 1 (.int .i64 dd.im) | simpa using CellsAt.other (CellsAt.other (Fr_5) (by omega) 0 (.int .i64 dd.re)) (by omega) 1 (.int .i64 dd.im)
  have Yt_p5 : CellsAt ((w5.setCell ⟨w4.heap.size, 0, none⟩ (.int .i64 dd.re)).setCell ⟨w4.heap.size, 1, none⟩ (.int .i64 dd.im)) (w1.heap.size) 42 #[.int .i64 t.re, .int .i64 t.im] := by first | exact CellsAt.other (CellsAt.other (Ft_5) (by omega) 0 (.int .i64 dd.re)) (by omega) 1 (.int .i64 dd.im) | simpa using CellsAt.other (CellsAt.other (Ft_5) (by omega) 0 (.int .i64 dd.re)) (by omega) 1 (.int .i64 dd.im)
  have Yt3_p5 : CellsAt ((w5.setCell ⟨w4.heap.size, 0, none⟩ (.int .i64 dd.re)).setCell ⟨w4.heap.size, 1, none⟩ (.int .i64 dd.im)) (w2.heap.size) 42 #[.int .i64 t3.re, .int .i64 t3.im] := by first | exact CellsAt.other (CellsAt.other (Ft3_5) (by omega) 0 (.int .i64 dd.re)) (by omega) 1 (.int .i64 dd.im) | simpa using CellsAt.other (CellsAt.other (Ft3_5) (by omega) 0 (.int .i64 dd.re)) (by omega) 1 (.int .i64 dd.im)
  have Yp_p5 : CellsAt ((w5.setCell ⟨w4.heap.size, 0, none⟩ (.int .i64 dd.re)).setCell ⟨w4.heap.size, 1, none⟩ (.int .i64 dd.im)) (w3.heap.size) 42 #[.int .i64 p.re, .int .i64 p.im] := by first | exact CellsAt.other (CellsAt.other (Fp_5) (by omega) 0 (.int .i64 dd.re)) (by omega) 1 (.int .i64 dd.im) | simpa using CellsAt.other (CellsAt.other (Fp_5) (by omega) 0 (.int .i64 dd.re)) (by omega) 1 (.int .i64 dd.im)
  have Yd_p5 : CellsAt ((w5.setCell ⟨w4.heap.size, 0, none⟩ (.int .i64 dd.re)).setCell ⟨w4.heap.size, 1, none⟩ (.int .i64 dd.im)) (w4.heap.size) 42 #[.int .i64 dd.re, .int .i64 dd.im] := by first | exact CellsAt.set (CellsAt.set (Fd_5) 0 (.int .i64 dd.re)) 1 (.int .i64 dd.im) | simpa using CellsAt.set (CellsAt.set (Fd_5) 0 (.int .i64 dd.re)) 1 (.int .i64 dd.im)
  have yp5 := Gr.setCell (Gr.setCell (z5) (a := ⟨w4.heap.size, 0, none⟩) (by first | omega | (simp only; omega)) (.int .i64 dd.re)) (a := ⟨w4.heap.size, 1, none⟩) (by first | omega | (simp only; omega)) (.int .i64 dd.im)
  refine (HU.out _).mono ?_
  rintro e w6 ⟨rfl, g6⟩
  have Fj_6 := CellsAt.gr (Yj_p5) g6
  have lj_6 := CellsAt.lt (Fj_6)
  have Fr_6 := CellsAt.gr (Yr_p5) g6
  have lr_6 := CellsAt.lt (Fr_6)
  have Ft_6 := CellsAt.gr (Yt_p5) g6
  have lt_6 := CellsAt.lt (Ft_6)
  have Ft3_6 := CellsAt.gr (Yt3_p5) g6
  have lt3_6 := CellsAt.lt (Ft3_6)
  have Fp_6 := CellsAt.gr (Yp_p5) g6
  have lp_6 := CellsAt.lt (Fp_6)
  have Fd_6 := CellsAt.gr (Yd_p5) g6
  have ld_6 := CellsAt.lt (Fd_6)
  have z6 := (yp5).trans g6
  clear Yj_p5 Yr_p5 Yt_p5 Yt3_p5 Yp_p5 Yd_p5 yp5 g6
  have cj0 := CellsAt.cell (Fj_6) 0
  have cj1 := CellsAt.cell (Fj_6) 1
  have cj2 := CellsAt.cell (Fj_6) 2
  have cj3 := CellsAt.cell (Fj_6) 3
  have cj4 := CellsAt.cell (Fj_6) 4
  have cj5 := CellsAt.cell (Fj_6) 5
  have cj6 := CellsAt.cell (Fj_6) 6
  have cj7 := CellsAt.cell (Fj_6) 7
  have cj8 := CellsAt.cell (Fj_6) 8
  have cj9 := CellsAt.cell (Fj_6) 9
  have cj10 := CellsAt.cell (Fj_6) 10
  have cj11 := CellsAt.cell (Fj_6) 11
  simp only [List.getElem?_toArray, List.getElem?_cons_zero, List.getElem?_cons_succ] at cj0 cj1 cj2 cj3 cj4 cj5 cj6 cj7 cj8 cj9 cj10 cj11
  go_wp2_with fail
  clear cj0 cj1 cj2 cj3 cj4 cj5 cj6 cj7 cj8 cj9 cj10 cj11
  have Yj_p6 : CellsAt (w6.alloc (.cells #[.int .i64 U.re, .int .i64 U.im] 42)) (w.heap.size) 48 #[.int .i64 ju.re, .int .i64 ju.im, .int .i64 jv.re, .int .i64 jv.im, .int .i64 jy.re, .int .i64 jy.im, .int .i64 jz.re, .int .i64 jz.im, .int .i64 ja.re, .int .i64 ja.im, .int .i64 jc.re, .int .i64 jc.im] := by first | exact CellsAt.alloc (Fj_6) (.cells #[.int .i64 U.re, .int .i64 U.im] 42) | simpa using CellsAt.alloc (Fj_6) (.cells #[.int .i64 U.re, .int .i64 U.im] 42)
  have Yr_p6 : CellsAt (w6.alloc (.cells #[.int .i64 U.re, .int .i64 U.im] 42)) (w.heap.size + 1) 42 #[.int .i64 0, .int .i64 0] := by first | exact CellsAt.alloc (Fr_6) (.cells #[.int .i64 U.re, .int .i64 U.im] 42) | simpa using CellsAt.alloc (Fr_6) (.cells #[.int .i64 U.re, .int .i64 U.im] 42)
  have Yt_p6 : CellsAt (w6.alloc (.cells #[.int .i64 U.re, .int .i64 U.im] 42)) (w1.heap.size) 42 #[.int .i64 t.re, .int .i64 t.im] := by first | exact CellsAt.alloc (Ft_6) (.cells #[.int .i64 U.re, .int .i64 U.im] 42) | simpa using CellsAt.alloc (Ft_6) (.cells #[.int .i64 U.re, .int .i64 U.im] 42)
  have Yt3_p6 : CellsAt (w6.alloc (.cells #[.int .i64 U.re, .int .i64 U.im] 42)) (w2.heap.size) 42 #[.int .i64 t3.re, .int .i64 t3.im] := by first | exact CellsAt.alloc (Ft3_6) (.cells #[.int .i64 U.re, .int .i64 U.im] 42) | simpa using CellsAt.alloc (Ft3_6) (.cells #[.int .i64 U.re, .int .i64 U.im] 42)
  have Yp_p6 : CellsAt (w6.alloc (.cells #[.int .i64 U.re, .int .i64 U.im] 42)) (w3.heap.size) 42 #[.int .i64 p.re, .int .i64 p.im] := by first | exact CellsAt.alloc (Fp_6) (.cells #[.int .i64 U.re, .int .i64 U.im] 42) | simpa using CellsAt.alloc (Fp_6) (.cells #[.int .i64 U.re, .int .i64 U.im] 42)
  have Yd_p6 : CellsAt (w6.alloc (.cells #[.int .i64 U.re, .int .i64 U.im] 42)) (w4.heap.size) 42 #[.int .i64 dd.re, .int .i64 dd.im] := by first | exact CellsAt.alloc (Fd_6) (.cells #[.int .i64 U.re, .int .i64 U.im] 42) | simpa using CellsAt.alloc (Fd_6) (.cells #[.int .i64 U.re, .int .i64 U.im] 42)
  have Ys_p6 : CellsAt (w6.alloc (.cells #[.int .i64 U.re, .int .i64 U.im] 42)) (w6.heap.size) 42 #[.int .i64 U.re, .int .i64 U.im] := by first | exact CellsAt.new w6 42 #[.int .i64 U.re, .int .i64 U.im] | simpa using CellsAt.new w6 42 #[.int .i64 U.re, .int .i64 U.im]
  have yp6 := Gr.alloc (z6) #[.int .i64 U.re, .int .i64 U.im] 42
  refine (HV.out _).mono ?_
  rintro e w7 ⟨rfl, g7⟩
  have Fj_7 := CellsAt.gr (Yj_p6) g7
  have lj_7 := CellsAt.lt (Fj_7)
  have Fr_7 := CellsAt.gr (Yr_p6) g7
  have lr_7 := CellsAt.lt (Fr_7)
  have Ft_7 := CellsAt.gr (Yt_p6) g7
  have lt_7 := CellsAt.lt (Ft_7)
  have Ft3_7 := CellsAt.gr (Yt3_p6) g7
  have lt3_7 := CellsAt.lt (Ft3_7)
  have Fp_7 := CellsAt.gr (Yp_p6) g7
  have lp_7 := CellsAt.lt (Fp_7)
  have Fd_7 := CellsAt.gr (Yd_p6) g7
  have ld_7 := CellsAt.lt (Fd_7)
  have Fs_7 := CellsAt.gr (Ys_p6) g7
  have ls_7 := CellsAt.lt (Fs_7)
  have z7 := (yp6).trans g7
  clear Yj_p6 Yr_p6 Yt_p6 Yt3_p6 Yp_p6 Yd_p6 Ys_p6 yp6 g7
  have cd0 := CellsAt.cell (Fd_7) 0
  have cd1 := CellsAt.cell (Fd_7) 1
  have cp0 := CellsAt.cell (Fp_7) 0
  have cp1 := CellsAt.cell (Fp_7) 1
  have cs0 := CellsAt.cell (Fs_7) 0
  have cs1 := CellsAt.cell (Fs_7) 1
  simp only [List.getElem?_toArray, List.getElem?_cons_zero, List.getElem?_cons_succ] at cd0 cd1 cp0 cp1 cs0 cs1
  have ms0 := CellsAt.frozen (Fs_7) 0
  have ms1 := CellsAt.frozen (Fs_7) 1
  have mp0 := CellsAt.frozen (Fp_7) 0
  have mp1 := CellsAt.frozen (Fp_7) 1
  go_wp2_with fail
  clear cd0 cd1 cp0 cp1 cs0 cs1 ms0 ms1 mp0 mp1
  have Yj_p7 : CellsAt ((((w7.setCell ⟨w6.heap.size, 0, none⟩ (.int .i64 V.re)).setCell ⟨w6.heap.size, 1, none⟩ (.int .i64 V.im)).setCell ⟨w3.heap.size, 0, none⟩ (.int .i64 dd.re)).setCell ⟨w3.heap.size, 1, none⟩ (.int .i64 dd.im)) (w.heap.size) 48 #[.int .i64 ju.re, .int .i64 ju.im, .int .i64 jv.re, .int .i64 jv.im, .int .i64 jy.re, .int .i64 jy.im, .int .i64 jz.re, .int .i64 jz.im, .int .i64 ja.re, .int .i64 ja.im, .int .i64 jc.re, .int .i64 jc.im] := by first | exact CellsAt.other (CellsAt.other (CellsAt.other (CellsAt.other (Fj_7) (by omega) 0 (.int .i64 V.re)) (by omega) 1 (.int .i64 V.im)) (by omega) 0 (.int .i64 dd.re)) (by omega) 1 (.int .i64 dd.im) | simpa using CellsAt.other (CellsAt.other (CellsAt.other (CellsAt.other (Fj_7) (by omega) 0 (.int .i64 V.re)) (by omega) 1 (.int .i64 V.im)) (by omega) 0 (.int .i64 dd.re)) (by omega) 1 (.int .i64 dd.im)
  have Yr_p7 : CellsAt ((((w7.setCell ⟨w6.heap.size, 0, none⟩ (.int .i64 V.re)).setCell ⟨w6.heap.size, 1, none⟩ (.int .i64 V.im)).setCell ⟨w3.heap.size, 0, none⟩ (.int .i64 dd.re)).setCell ⟨w3.heap.size, 1, none⟩ (.int .i64 dd.im)) (w.heap.size + 1) 42 #[.int .i64 0, .int .i64 0] := by first | exact CellsAt.other (CellsAt.other (CellsAt.other (CellsAt.other (Fr_7) (by omega) 0 (.int .i64 V.re)) (by omega) 1 (.int .i64 V.im)) (by omega) 0 (.int .i64 dd.re)) (by omega) 1 (.int .i64 dd.im) | simpa using CellsAt.other (CellsAt.other (CellsAt.other (CellsAt.other (Fr_7) (by omega) 0 (.int .i64 V.re)) (by omega) 1 (.int .i64 V.im)) (by omega) 0 (.int .i64 dd.re)) (by omega) 1 (.int .i64 dd.im)
  have Yt_p7 : CellsAt ((((w7.setCell ⟨w6.heap.size, 0, none⟩ (.int .i64 V.re)).setCell ⟨w6.heap.size, 1, none⟩ (.int .i64 V.im)).setCell ⟨w3.heap.size, 0, none⟩ (.int .i64 dd.re)).setCell ⟨w3.heap.size, 1, none⟩ (.int .i64 dd.im)) (w1.heap.size) 42 #[.int .i64 t.re, .int .i64 t.im] := by first | exact CellsAt.other (CellsAt.other (CellsAt.other (CellsAt.other (Ft_7) (by omega) 0 (.int .i64 V.re)) (by omega) 1 (.int .i64 V.im)) (by omega) 0 (.int .i64 dd.re)) (by omega) 1 (.int .i64 dd.im) | simpa using CellsAt.other (CellsAt.other (CellsAt.other (CellsAt.other (Ft_7) (by omega) 0 (.int .i64 V.re)) (by omega) 1 (.int .i64 V.im)) (by omega) 0 (.int .i64 dd.re)) (by omega) 1 (.int .i64 dd.im)
  have Yt3_p7 : CellsAt ((((w7.setCell ⟨w6.heap.size, 0, none⟩ (.int .i64 V.re)).setCell ⟨w6.heap.size, 1, none⟩ (.int .i64 V.im)).setCell ⟨w3.heap.size, 0, none⟩ (.int .i64 dd.re)).setCell ⟨w3.heap.size, 1, none⟩ (.int .i64 dd.im)) (w2.heap.size) 42 #[.int .i64 t3.re, .int .i64 t3.im] := by first | exact CellsAt.other (CellsAt.other (CellsAt.other (CellsAt.other (Ft3_7) (by omega) 0 (.int .i64 V.re)) (by omega) 1 (.int .i64 V.im)) (by omega) 0 (.int .i64 dd.re)) (by omega) 1 (.int .i64 dd.im) | simpa using CellsAt.other (CellsAt.other (CellsAt.other (CellsAt.other (Ft3_7) (by omega) 0 (.int .i64 V.re)) (by omega) 1 (.int .i64 V.im)) (by omega) 0 (.int .i64 dd.re)) (by omega) 1 (.int .i64 dd.im)
  have Yp_p7 : CellsAt ((((w7.setCell ⟨w6.heap.size, 0, none⟩ (.int .i64 V.re)).setCell ⟨w6.heap.size, 1, none⟩ (.int .i64 V.im)).setCell ⟨w3.heap.size, 0, none⟩ (.int .i64 dd.re)).setCell ⟨w3.heap.size, 1, none⟩ (.int .i64 dd.im)) (w3.heap.size) 42 #[.int .i64 dd.re, .int .i64 dd.im] := by first | exact CellsAt.set (CellsAt.set (CellsAt.other (CellsAt.other (Fp_7) (by omega) 0 (.int .i64 V.re)) (by omega) 1 (.int .i64 V.im)) 0 (.int .i64 dd.re)) 1 (.int .i64 dd.im) | simpa using CellsAt.set (CellsAt.set (CellsAt.other (CellsAt.other (Fp_7) (by omega) 0 (.int .i64 V.re)) (by omega) 1 (.int .i64 V.im)) 0 (.int .i64 dd.re)) 1 (.int .i64 dd.im)
  have Yd_p7 : CellsAt ((((w7.setCell ⟨w6.heap.size, 0, none⟩ (.int .i64 V.re)).setCell ⟨w6.heap.size, 1, none⟩ (.int .i64 V.im)).setCell ⟨w3.heap.size, 0, none⟩ (.int .i64 dd.re)).setCell ⟨w3.heap.size, 1, none⟩ (.int .i64 dd.im)) (w4.heap.size) 42 #[.int .i64 dd.re, .int .i64 dd.im] := by first | exact CellsAt.other (CellsAt.other (CellsAt.other (CellsAt.other (Fd_7) (by omega) 0 (.int .i64 V.re)) (by omega) 1 (.int .i64 V.im)) (by omega) 0 (.int .i64 dd.re)) (by omega) 1 (.int .i64 dd.im) | simpa using CellsAt.other (CellsAt.other (CellsAt.other (CellsAt.other (Fd_7) (by omega) 0 (.int .i64 V.re)) (by omega) 1 (.int .i64 V.im)) (by omega) 0 (.int .i64 dd.re)) (by omega) 1 (.int .i64 dd.im)
  have Ys_p7 : CellsAt ((((w7.setCell ⟨w6.heap.size, 0, none⟩ (.int .i64 V.re)).setCell ⟨w6.heap.size, 1, none⟩ (.int .i64 V.im)).setCell ⟨w3.heap.size, 0, none⟩ (.int .i64 dd.re)).setCell ⟨w3.heap.size, 1, none⟩ (.int .i64 dd.im)) (w6.heap.size) 42 #[.int .i64 V.re, .int .i64 V.im] := by first | exact CellsAt.other (CellsAt.other (CellsAt.set (CellsAt.set (Fs_7) 0 (.int .i64 V.re)) 1 (.int .i64 V.im)) (by omega) 0 (.int .i64 dd.re)) (by omega) 1 (.int .i64 dd.im) | simpa using CellsAt.other (CellsAt.other (CellsAt.set (CellsAt.set (Fs_7) 0 (.int .i64 V.re)) 1 (.int .i64 V.im)) (by omega) 0 (.int .i64 dd.re)) (by omega) 1 (.int .i64 dd.im)
  have yp7 := Gr.setCell (Gr.setCell (Gr.setCell (Gr.setCell (z7) (a := ⟨w6.heap.size, 0, none⟩) (by first | omega | (simp only; omega)) (.int .i64 V.re)) (a := ⟨w6.heap.size, 1, none⟩) (by first | omega | (simp only; omega)) (.int .i64 V.im)) (a := ⟨w3.heap.size, 0, none⟩) (by first | omega | (simp only; omega)) (.int .i64 dd.re)) (a := ⟨w3.heap.size, 1, none⟩) (by first | omega | (simp only; omega)) (.int .i64 dd.im)
  refine (HS.out _).mono ?_
  rintro e w8 ⟨rfl, g8⟩
  have Fj_8 := CellsAt.gr (Yj_p7) g8
  have lj_8 := CellsAt.lt (Fj_8)
  have Fr_8 := CellsAt.gr (Yr_p7) g8
  have lr_8 := CellsAt.lt (Fr_8)
  have Ft_8 := CellsAt.gr (Yt_p7) g8
  have lt_8 := CellsAt.lt (Ft_8)
  have Ft3_8 := CellsAt.gr (Yt3_p7) g8
  have lt3_8 := CellsAt.lt (Ft3_8)
  have Fp_8 := CellsAt.gr (Yp_p7) g8
  have lp_8 := CellsAt.lt (Fp_8)
  have Fd_8 := CellsAt.gr (Yd_p7) g8
  have ld_8 := CellsAt.lt (Fd_8)
  have Fs_8 := CellsAt.gr (Ys_p7) g8
  have ls_8 := CellsAt.lt (Fs_8)
  have z8 := (yp7).trans g8
  clear Yj_p7 Yr_p7 Yt_p7 Yt3_p7 Yp_p7 Yd_p7 Ys_p7 yp7 g8
  have mr0 := CellsAt.frozen (Fr_8) 0
  have cr0 := CellsAt.cell (Fr_8) 0
  simp only [List.getElem?_toArray, List.getElem?_cons_zero, List.getElem?_cons_succ] at cr0
  have mr1 := CellsAt.frozen (Fr_8) 1
  have cr1 := CellsAt.cell (Fr_8) 1
  simp only [List.getElem?_toArray, List.getElem?_cons_zero, List.getElem?_cons_succ] at cr1
  go_wp2_with fail
  clear mr0 cr0 mr1 cr1
  refine (HF.out _).mono ?_
  rintro e w9 ⟨rfl, g9⟩
  have Fj_9 := CellsAt.gr (Fj_8) g9
  have lj_9 := CellsAt.lt (Fj_9)
  have Fr_9 := CellsAt.gr (Fr_8) g9
  have lr_9 := CellsAt.lt (Fr_9)
  have Ft_9 := CellsAt.gr (Ft_8) g9
  have lt_9 := CellsAt.lt (Ft_9)
  have Ft3_9 := CellsAt.gr (Ft3_8) g9
  have lt3_9 := CellsAt.lt (Ft3_9)
  have Fp_9 := CellsAt.gr (Fp_8) g9
  have lp_9 := CellsAt.lt (Fp_9)
  have Fd_9 := CellsAt.gr (Fd_8) g9
  have ld_9 := CellsAt.lt (Fd_9)
  have Fs_9 := CellsAt.gr (Fs_8) g9
  have ls_9 := CellsAt.lt (Fs_9)
  have z9 := (z8).trans g9
  clear Fj_8 Fr_8 Ft_8 Ft3_8 Fp_8 Fd_8 Fs_8 z8 g9
  have mr0 := CellsAt.frozen (Fr_9) 0
  have cr0 := CellsAt.cell (Fr_9) 0
  simp only [List.getElem?_toArray, List.getElem?_cons_zero, List.getElem?_cons_succ] at cr0
  have mr1 := CellsAt.frozen (Fr_9) 1
  have cr1 := CellsAt.cell (Fr_9) 1
  simp only [List.getElem?_toArray, List.getElem?_cons_zero, List.getElem?_cons_succ] at cr1
  go_wp2_with fail
  clear mr0 cr0 mr1 cr1
  have Yj_p8 : CellsAt ((w9.setCell ⟨w.heap.size + 1, 0, none⟩ (.int .i64 o.re)).setCell ⟨w.heap.size + 1, 1, none⟩ (.int .i64 o.im)) (w.heap.size) 48 #[.int .i64 ju.re, .int .i64 ju.im, .int .i64 jv.re, .int .i64 jv.im, .int .i64 jy.re, .int .i64 jy.im, .int .i64 jz.re, .int .i64 jz.im, .int .i64 ja.re, .int .i64 ja.im, .int .i64 jc.re, .int .i64 jc.im] := by first | exact CellsAt.other (CellsAt.other (Fj_9) (by omega) 0 (.int .i64 o.re)) (by omega) 1 (.int .i64 o.im) | simpa using CellsAt.other (CellsAt.other (Fj_9) (by omega) 0 (.int .i64 o.re)) (by omega) 1 (.int .i64 o.im)
  have Yr_p8 : CellsAt ((w9.setCell ⟨w.heap.size + 1, 0, none⟩ (.int .i64 o.re)).setCell ⟨w.heap.size + 1, 1, none⟩ (.int .i64 o.im)) (w.heap.size + 1) 42 #[.int .i64 o.re, .int .i64 o.im] := by first | exact CellsAt.set (CellsAt.set (Fr_9) 0 (.int .i64 o.re)) 1 (.int .i64 o.im) | simpa using CellsAt.set (CellsAt.set (Fr_9) 0 (.int .i64 o.re)) 1 (.int .i64 o.im)
  have Yt_p8 : CellsAt ((w9.setCell ⟨w.heap.size + 1, 0, none⟩ (.int .i64 o.re)).setCell ⟨w.heap.size + 1, 1, none⟩ (.int .i64 o.im)) (w1.heap.size) 42 #[.int .i64 t.re, .int .i64 t.im] := by first | exact CellsAt.other (CellsAt.other (Ft_9) (by omega) 0 (.int .i64 o.re)) (by omega) 1 (.int .i64 o.im) | simpa using CellsAt.other (CellsAt.other (Ft_9) (by omega) 0 (.int .i64 o.re)) (by omega) 1 (.int .i64 o.im)
  have Yt3_p8 : CellsAt ((w9.setCell ⟨w.heap.size + 1, 0, none⟩ (.int .i64 o.re)).setCell ⟨w.heap.size + 1, 1, none⟩ (.int .i64 o.im)) (w2.heap.size) 42 #[.int .i64 t3.re, .int .i64 t3.im] := by first | exact CellsAt.other (CellsAt.other (Ft3_9) (by omega) 0 (.int .i64 o.re)) (by omega) 1 (.int .i64 o.im) | simpa using CellsAt.other (CellsAt.other (Ft3_9) (by omega) 0 (.int .i64 o.re)) (by omega) 1 (.int .i64 o.im)
  have Yp_p8 : CellsAt ((w9.setCell ⟨w.heap.size + 1, 0, none⟩ (.int .i64 o.re)).setCell ⟨w.heap.size + 1, 1, none⟩ (.int .i64 o.im)) (w3.heap.size) 42 #[.int .i64 dd.re, .int .i64 dd.im] := by first | exact CellsAt.other (CellsAt.other (Fp_9) (by omega) 0 (.int .i64 o.re)) (by omega) 1 (.int .i64 o.im) | simpa using CellsAt.other (CellsAt.other (Fp_9) (by omega) 0 (.int .i64 o.re)) (by omega) 1 (.int .i64 o.im)
  have Yd_p8 : CellsAt ((w9.setCell ⟨w.heap.size + 1, 0, none⟩ (.int .i64 o.re)).setCell ⟨w.heap.size + 1, 1, none⟩ (.int .i64 o.im)) (w4.heap.size) 42 #[.int .i64 dd.re, .int .i64 dd.im] := by first | exact CellsAt.other (CellsAt.other (Fd_9) (by omega) 0 (.int .i64 o.re)) (by omega) 1 (.int .i64 o.im) | simpa using CellsAt.other (CellsAt.other (Fd_9) (by omega) 0 (.int .i64 o.re)) (by omega) 1 (.int .i64 o.im)
  have Ys_p8 : CellsAt ((w9.setCell ⟨w.heap.size + 1, 0, none⟩ (.int .i64 o.re)).setCell ⟨w.heap.size + 1, 1, none⟩ (.int .i64 o.im)) (w6.heap.size) 42 #[.int .i64 V.re, .int .i64 V.im] := by first | exact CellsAt.other (CellsAt.other (Fs_9) (by omega) 0 (.int .i64 o.re)) (by omega) 1 (.int .i64 o.im) | simpa using CellsAt.other (CellsAt.other (Fs_9) (by omega) 0 (.int .i64 o.re)) (by omega) 1 (.int .i64 o.im)
  have yp8 := Gr.setCell (Gr.setCell (z9) (a := ⟨w.heap.size + 1, 0, none⟩) (by first | omega | (simp only; omega)) (.int .i64 o.re)) (a := ⟨w.heap.size + 1, 1, none⟩) (by first | omega | (simp only; omega)) (.int .i64 o.im)
  generalize ((w9.setCell ⟨w.heap.size + 1, 0, none⟩ (.int .i64 o.re)).setCell ⟨w.heap.size + 1, 1, none⟩ (.int .i64 o.im)) = uf at *
  have cr0 := CellsAt.cell (Yr_p8) 0
  have cr1 := CellsAt.cell (Yr_p8) 1
  simp only [List.getElem?_toArray, List.getElem?_cons_zero, List.getElem?_cons_succ] at cr0 cr1
  refine bodyPost_ret (v := .agg #[.int .i64 o.re, .int .i64 o.im]) ?_ rfl ⟨rfl, yp8⟩
  simp [results, Tryz.results27, go_sem, *]

set_option maxHeartbeats 4000000 in
theorem rJoin_false_0_of (bits mo b1 b2 : Int) (ju jv jy jz ja jc t t3 p d dd U V s o : Gi) (h1 : wrap64 (bits + 1) = b1) (h2 : wrap64 (bits + 2) = b2)
    (HT : Hid (∀ W, Calls Tryz.prog 39 #[.agg #[.int .i64 (jy).re, .int .i64 (jy).im], .agg #[.int .i64 (ja).re, .int .i64 (ja).im]] W fun e w' => e = .returned (.agg #[.int .i64 (t).re, .int .i64 (t).im]) ∧ Gr W w')) (HT3 : Hid (∀ W, Calls Tryz.prog 39 #[.agg #[.int .i64 (jz).re, .int .i64 (jz).im], .agg #[.int .i64 (jc).re, .int .i64 (jc).im]] W fun e w' => e = .returned (.agg #[.int .i64 (t3).re, .int .i64 (t3).im]) ∧ Gr W w')) (HP : Hid (∀ W, Calls Tryz.prog 23 #[.agg #[.int .i64 (t).re, .int .i64 (t).im], .agg #[.int .i64 (t3).re, .int .i64 (t3).im]] W fun e w' => e = .returned (.agg #[.int .i64 (p).re, .int .i64 (p).im]) ∧ Gr W w')) (HL : Hid (∀ W, Calls Tryz.prog 24 #[.agg #[.int .i64 (t).re, .int .i64 (t).im], .agg #[.int .i64 (t3).re, .int .i64 (t3).im]] W fun e w' => e = .returned (.agg #[.int .i64 (d).re, .int .i64 (d).im]) ∧ Gr W w'))
    (HN : Hid (∀ W, Calls Tryz.prog 40 #[.agg #[.int .i64 (d).re, .int .i64 (d).im], .int .i64 (-1)] W fun e w' => e = .returned (.agg #[.int .i64 (dd).re, .int .i64 (dd).im]) ∧ Gr W w')) (HU : Hid (∀ W, Calls Tryz.prog 41 #[.agg #[.int .i64 (ju).re, .int .i64 (ju).im], .int .i64 b1] W fun e w' => e = .returned (.agg #[.int .i64 (U).re, .int .i64 (U).im]) ∧ Gr W w')) (HV : Hid (∀ W, Calls Tryz.prog 41 #[.agg #[.int .i64 (jv).re, .int .i64 (jv).im], .int .i64 b1] W fun e w' => e = .returned (.agg #[.int .i64 (V).re, .int .i64 (V).im]) ∧ Gr W w'))
    (HS : Hid (∀ W, Calls Tryz.prog 23 #[.agg #[.int .i64 (U).re, .int .i64 (U).im], .agg #[.int .i64 (p).re, .int .i64 (p).im]] W fun e w' => e = .returned (.agg #[.int .i64 (s).re, .int .i64 (s).im]) ∧ Gr W w')) (HF : Hid (∀ W, Calls Tryz.prog 22 #[.agg #[.int .i64 (s).re, .int .i64 (s).im], .int .i64 b2, .int .i64 mo] W fun e w' => e = .returned (.agg #[.int .i64 (o).re, .int .i64 (o).im]) ∧ Gr W w')) (w : World) :
    Calls Tryz.prog 27 #[.agg #[.int .i64 ju.re, .int .i64 ju.im, .int .i64 jv.re, .int .i64 jv.im, .int .i64 jy.re, .int .i64 jy.im, .int .i64 jz.re, .int .i64 jz.im, .int .i64 ja.re, .int .i64 ja.im, .int .i64 jc.re, .int .i64 jc.im], .int .i64 0, .int .i64 bits, .int .i64 mo, .bool false] w fun e w' => e = .returned (.agg #[.int .i64 (o).re, .int .i64 (o).im]) ∧ Gr w w' := by
  go_enter Tryz.func27, Tryz.ntmps27
  go_wp2_with fail
  obtain ⟨u0, hU⟩ : ∃ uu, uu = ((w.alloc (.cells #[.int .i64 ju.re, .int .i64 ju.im, .int .i64 jv.re, .int .i64 jv.im, .int .i64 jy.re, .int .i64 jy.im, .int .i64 jz.re, .int .i64 jz.im, .int .i64 ja.re, .int .i64 ja.im, .int .i64 jc.re, .int .i64 jc.im] 48)).alloc (.cells #[.int .i64 0, .int .i64 0] 42)) := ⟨_, rfl⟩
  have gu : Gr w u0 := by rw [hU]; exact ((Gr.refl w).alloc _ _).alloc _ _
  have R0 : CellsAt u0 (w.heap.size) 48 #[.int .i64 ju.re, .int .i64 ju.im, .int .i64 jv.re, .int .i64 jv.im, .int .i64 jy.re, .int .i64 jy.im, .int .i64 jz.re, .int .i64 jz.im, .int .i64 ja.re, .int .i64 ja.im, .int .i64 jc.re, .int .i64 jc.im] := by
    rw [hU]
    have := ((CellsAt.new w 48 #[.int .i64 ju.re, .int .i64 ju.im, .int .i64 jv.re, .int .i64 jv.im, .int .i64 jy.re, .int .i64 jy.im, .int .i64 jz.re, .int .i64 jz.im, .int .i64 ja.re, .int .i64 ja.im, .int .i64 jc.re, .int .i64 jc.im]).alloc (.cells #[.int .i64 0, .int .i64 0] 42))
    simpa only [World.size_alloc] using this
  have R1 : CellsAt u0 (w.heap.size + 1) 42 #[.int .i64 0, .int .i64 0] := by
    rw [hU]
    have := (CellsAt.new (w.alloc (.cells #[.int .i64 ju.re, .int .i64 ju.im, .int .i64 jv.re, .int .i64 jv.im, .int .i64 jy.re, .int .i64 jy.im, .int .i64 jz.re, .int .i64 jz.im, .int .i64 ja.re, .int .i64 ja.im, .int .i64 jc.re, .int .i64 jc.im] 48)) 42 #[.int .i64 0, .int .i64 0])
    simpa only [World.size_alloc] using this
  rw [← hU]
  clear hU
  have lj := R0.lt
  have lr := R1.lt
  refine (HT.out _).mono ?_
  rintro e w1 ⟨rfl, g1⟩
  have Fj_1 := CellsAt.gr (R0) g1
  have lj_1 := CellsAt.lt (Fj_1)
  have Fr_1 := CellsAt.gr (R1) g1
  have lr_1 := CellsAt.lt (Fr_1)
  have z1 := (gu).trans g1
  clear R0 R1 gu g1
  have cj0 := CellsAt.cell (Fj_1) 0
  have cj1 := CellsAt.cell (Fj_1) 1
  have cj2 := CellsAt.cell (Fj_1) 2
  have cj3 := CellsAt.cell (Fj_1) 3
  have cj4 := CellsAt.cell (Fj_1) 4
  have cj5 := CellsAt.cell (Fj_1) 5
  have cj6 := CellsAt.cell (Fj_1) 6
  have cj7 := CellsAt.cell (Fj_1) 7
  have cj8 := CellsAt.cell (Fj_1) 8
  have cj9 := CellsAt.cell (Fj_1) 9
  have cj10 := CellsAt.cell (Fj_1) 10
  have cj11 := CellsAt.cell (Fj_1) 11
  simp only [List.getElem?_toArray, List.getElem?_cons_zero, List.getElem?_cons_succ] at cj0 cj1 cj2 cj3 cj4 cj5 cj6 cj7 cj8 cj9 cj10 cj11
  go_wp2_with fail
  clear cj0 cj1 cj2 cj3 cj4 cj5 cj6 cj7 cj8 cj9 cj10 cj11
  have Yj_p1 : CellsAt (w1.alloc (.cells #[.int .i64 t.re, .int .i64 t.im] 42)) (w.heap.size) 48 #[.int .i64 ju.re, .int .i64 ju.im, .int .i64 jv.re, .int .i64 jv.im, .int .i64 jy.re, .int .i64 jy.im, .int .i64 jz.re, .int .i64 jz.im, .int .i64 ja.re, .int .i64 ja.im, .int .i64 jc.re, .int .i64 jc.im] := by first | exact CellsAt.alloc (Fj_1) (.cells #[.int .i64 t.re, .int .i64 t.im] 42) | simpa using CellsAt.alloc (Fj_1) (.cells #[.int .i64 t.re, .int .i64 t.im] 42)
  have Yr_p1 : CellsAt (w1.alloc (.cells #[.int .i64 t.re, .int .i64 t.im] 42)) (w.heap.size + 1) 42 #[.int .i64 0, .int .i64 0] := by first | exact CellsAt.alloc (Fr_1) (.cells #[.int .i64 t.re, .int .i64 t.im] 42) | simpa using CellsAt.alloc (Fr_1) (.cells #[.int .i64 t.re, .int .i64 t.im] 42)
  have Yt_p1 : CellsAt (w1.alloc (.cells #[.int .i64 t.re, .int .i64 t.im] 42)) (w1.heap.size) 42 #[.int .i64 t.re, .int .i64 t.im] := by first | exact CellsAt.new w1 42 #[.int .i64 t.re, .int .i64 t.im] | simpa using CellsAt.new w1 42 #[.int .i64 t.re, .int .i64 t.im]
  have yp1 := Gr.alloc (z1) #[.int .i64 t.re, .int .i64 t.im] 42
  refine (HT3.out _).mono ?_
  rintro e w2 ⟨rfl, g2⟩
  have Fj_2 := CellsAt.gr (Yj_p1) g2
  have lj_2 := CellsAt.lt (Fj_2)
  have Fr_2 := CellsAt.gr (Yr_p1) g2
  have lr_2 := CellsAt.lt (Fr_2)
  have Ft_2 := CellsAt.gr (Yt_p1) g2
  have lt_2 := CellsAt.lt (Ft_2)
  have z2 := (yp1).trans g2
  clear Yj_p1 Yr_p1 Yt_p1 yp1 g2
  have ct0 := CellsAt.cell (Ft_2) 0
  have ct1 := CellsAt.cell (Ft_2) 1
  simp only [List.getElem?_toArray, List.getElem?_cons_zero, List.getElem?_cons_succ] at ct0 ct1
  go_wp2_with fail
  clear ct0 ct1
  have Yj_p2 : CellsAt (w2.alloc (.cells #[.int .i64 t3.re, .int .i64 t3.im] 42)) (w.heap.size) 48 #[.int .i64 ju.re, .int .i64 ju.im, .int .i64 jv.re, .int .i64 jv.im, .int .i64 jy.re, .int .i64 jy.im, .int .i64 jz.re, .int .i64 jz.im, .int .i64 ja.re, .int .i64 ja.im, .int .i64 jc.re, .int .i64 jc.im] := by first | exact CellsAt.alloc (Fj_2) (.cells #[.int .i64 t3.re, .int .i64 t3.im] 42) | simpa using CellsAt.alloc (Fj_2) (.cells #[.int .i64 t3.re, .int .i64 t3.im] 42)
  have Yr_p2 : CellsAt (w2.alloc (.cells #[.int .i64 t3.re, .int .i64 t3.im] 42)) (w.heap.size + 1) 42 #[.int .i64 0, .int .i64 0] := by first | exact CellsAt.alloc (Fr_2) (.cells #[.int .i64 t3.re, .int .i64 t3.im] 42) | simpa using CellsAt.alloc (Fr_2) (.cells #[.int .i64 t3.re, .int .i64 t3.im] 42)
  have Yt_p2 : CellsAt (w2.alloc (.cells #[.int .i64 t3.re, .int .i64 t3.im] 42)) (w1.heap.size) 42 #[.int .i64 t.re, .int .i64 t.im] := by first | exact CellsAt.alloc (Ft_2) (.cells #[.int .i64 t3.re, .int .i64 t3.im] 42) | simpa using CellsAt.alloc (Ft_2) (.cells #[.int .i64 t3.re, .int .i64 t3.im] 42)
  have Yt3_p2 : CellsAt (w2.alloc (.cells #[.int .i64 t3.re, .int .i64 t3.im] 42)) (w2.heap.size) 42 #[.int .i64 t3.re, .int .i64 t3.im] := by first | exact CellsAt.new w2 42 #[.int .i64 t3.re, .int .i64 t3.im] | simpa using CellsAt.new w2 42 #[.int .i64 t3.re, .int .i64 t3.im]
  have yp2 := Gr.alloc (z2) #[.int .i64 t3.re, .int .i64 t3.im] 42
  refine (HP.out _).mono ?_
  rintro e w3 ⟨rfl, g3⟩
  have Fj_3 := CellsAt.gr (Yj_p2) g3
  have lj_3 := CellsAt.lt (Fj_3)
  have Fr_3 := CellsAt.gr (Yr_p2) g3
  have lr_3 := CellsAt.lt (Fr_3)
  have Ft_3 := CellsAt.gr (Yt_p2) g3
  have lt_3 := CellsAt.lt (Ft_3)
  have Ft3_3 := CellsAt.gr (Yt3_p2) g3
  have lt3_3 := CellsAt.lt (Ft3_3)
  have z3 := (yp2).trans g3
  clear Yj_p2 Yr_p2 Yt_p2 Yt3_p2 yp2 g3
  have ct0 := CellsAt.cell (Ft_3) 0
  have ct1 := CellsAt.cell (Ft_3) 1
  have ct30 := CellsAt.cell (Ft3_3) 0
  have ct31 := CellsAt.cell (Ft3_3) 1
  simp only [List.getElem?_toArray, List.getElem?_cons_zero, List.getElem?_cons_succ] at ct0 ct1 ct30 ct31
  go_wp2_with fail
  clear ct0 ct1 ct30 ct31
  have Yj_p3 : CellsAt (w3.alloc (.cells #[.int .i64 p.re, .int .i64 p.im] 42)) (w.heap.size) 48 #[.int .i64 ju.re, .int .i64 ju.im, .int .i64 jv.re, .int .i64 jv.im, .int .i64 jy.re, .int .i64 jy.im, .int .i64 jz.re, .int .i64 jz.im, .int .i64 ja.re, .int .i64 ja.im, .int .i64 jc.re, .int .i64 jc.im] := by first | exact CellsAt.alloc (Fj_3) (.cells #[.int .i64 p.re, .int .i64 p.im] 42) | simpa using CellsAt.alloc (Fj_3) (.cells #[.int .i64 p.re, .int .i64 p.im] 42)
  have Yr_p3 : CellsAt (w3.alloc (.cells #[.int .i64 p.re, .int .i64 p.im] 42)) (w.heap.size + 1) 42 #[.int .i64 0, .int .i64 0] := by first | exact CellsAt.alloc (Fr_3) (.cells #[.int .i64 p.re, .int .i64 p.im] 42) | simpa using CellsAt.alloc (Fr_3) (.cells #[.int .i64 p.re, .int .i64 p.im] 42)
  have Yt_p3 : CellsAt (w3.alloc (.cells #[.int .i64 p.re, .int .i64 p.im] 42)) (w1.heap.size) 42 #[.int .i64 t.re, .int .i64 t.im] := by first | exact CellsAt.alloc (Ft_3) (.cells #[.int .i64 p.re, .int .i64 p.im] 42) | simpa using CellsAt.alloc (Ft_3) (.cells #[.int .i64 p.re, .int .i64 p.im] 42)
  have Yt3_p3 : CellsAt (w3.alloc (.cells #[.int .i64 p.re, .int .i64 p.im] 42)) (w2.heap.size) 42 #[.int .i64 t3.re, .int .i64 t3.im] := by first | exact CellsAt.alloc (Ft3_3) (.cells #[.int .i64 p.re, .int .i64 p.im] 42) | simpa using CellsAt.alloc (Ft3_3) (.cells #[.int .i64 p.re, .int .i64 p.im] 42)
  have Yp_p3 : CellsAt (w3.alloc (.cells #[.int .i64 p.re, .int .i64 p.im] 42)) (w3.heap.size) 42 #[.int .i64 p.re, .int .i64 p.im] := by first | exact CellsAt.new w3 42 #[.int .i64 p.re, .int .i64 p.im] | simpa using CellsAt.new w3 42 #[.int .i64 p.re, .int .i64 p.im]
  have yp3 := Gr.alloc (z3) #[.int .i64 p.re, .int .i64 p.im] 42
  refine (HL.out _).mono ?_
  rintro e w4 ⟨rfl, g4⟩
  have Fj_4 := CellsAt.gr (Yj_p3) g4
  have lj_4 := CellsAt.lt (Fj_4)
  have Fr_4 := CellsAt.gr (Yr_p3) g4
  have lr_4 := CellsAt.lt (Fr_4)
  have Ft_4 := CellsAt.gr (Yt_p3) g4
  have lt_4 := CellsAt.lt (Ft_4)
  have Ft3_4 := CellsAt.gr (Yt3_p3) g4
  have lt3_4 := CellsAt.lt (Ft3_4)
  have Fp_4 := CellsAt.gr (Yp_p3) g4
  have lp_4 := CellsAt.lt (Fp_4)
  have z4 := (yp3).trans g4
  clear Yj_p3 Yr_p3 Yt_p3 Yt3_p3 Yp_p3 yp3 g4
  go_wp2_with fail
  have Yj_p4 : CellsAt (w4.alloc (.cells #[.int .i64 d.re, .int .i64 d.im] 42)) (w.heap.size) 48 #[.int .i64 ju.re, .int .i64 ju.im, .int .i64 jv.re, .int .i64 jv.im, .int .i64 jy.re, .int .i64 jy.im, .int .i64 jz.re, .int .i64 jz.im, .int .i64 ja.re, .int .i64 ja.im, .int .i64 jc.re, .int .i64 jc.im] := by first | exact CellsAt.alloc (Fj_4) (.cells #[.int .i64 d.re, .int .i64 d.im] 42) | simpa using CellsAt.alloc (Fj_4) (.cells #[.int .i64 d.re, .int .i64 d.im] 42)
  have Yr_p4 : CellsAt (w4.alloc (.cells #[.int .i64 d.re, .int .i64 d.im] 42)) (w.heap.size + 1) 42 #[.int .i64 0, .int .i64 0] := by first | exact CellsAt.alloc (Fr_4) (.cells #[.int .i64 d.re, .int .i64 d.im] 42) | simpa using CellsAt.alloc (Fr_4) (.cells #[.int .i64 d.re, .int .i64 d.im] 42)
  have Yt_p4 : CellsAt (w4.alloc (.cells #[.int .i64 d.re, .int .i64 d.im] 42)) (w1.heap.size) 42 #[.int .i64 t.re, .int .i64 t.im] := by first | exact CellsAt.alloc (Ft_4) (.cells #[.int .i64 d.re, .int .i64 d.im] 42) | simpa using CellsAt.alloc (Ft_4) (.cells #[.int .i64 d.re, .int .i64 d.im] 42)
  have Yt3_p4 : CellsAt (w4.alloc (.cells #[.int .i64 d.re, .int .i64 d.im] 42)) (w2.heap.size) 42 #[.int .i64 t3.re, .int .i64 t3.im] := by first | exact CellsAt.alloc (Ft3_4) (.cells #[.int .i64 d.re, .int .i64 d.im] 42) | simpa using CellsAt.alloc (Ft3_4) (.cells #[.int .i64 d.re, .int .i64 d.im] 42)
  have Yp_p4 : CellsAt (w4.alloc (.cells #[.int .i64 d.re, .int .i64 d.im] 42)) (w3.heap.size) 42 #[.int .i64 p.re, .int .i64 p.im] := by first | exact CellsAt.alloc (Fp_4) (.cells #[.int .i64 d.re, .int .i64 d.im] 42) | simpa using CellsAt.alloc (Fp_4) (.cells #[.int .i64 d.re, .int .i64 d.im] 42)
  have Yd_p4 : CellsAt (w4.alloc (.cells #[.int .i64 d.re, .int .i64 d.im] 42)) (w4.heap.size) 42 #[.int .i64 d.re, .int .i64 d.im] := by first | exact CellsAt.new w4 42 #[.int .i64 d.re, .int .i64 d.im] | simpa using CellsAt.new w4 42 #[.int .i64 d.re, .int .i64 d.im]
  have yp4 := Gr.alloc (z4) #[.int .i64 d.re, .int .i64 d.im] 42
  refine (HN.out _).mono ?_
  rintro e w5 ⟨rfl, g5⟩
  have Fj_5 := CellsAt.gr (Yj_p4) g5
  have lj_5 := CellsAt.lt (Fj_5)
  have Fr_5 := CellsAt.gr (Yr_p4) g5
  have lr_5 := CellsAt.lt (Fr_5)
  have Ft_5 := CellsAt.gr (Yt_p4) g5
  have lt_5 := CellsAt.lt (Ft_5)
  have Ft3_5 := CellsAt.gr (Yt3_p4) g5
  have lt3_5 := CellsAt.lt (Ft3_5)
  have Fp_5 := CellsAt.gr (Yp_p4) g5
  have lp_5 := CellsAt.lt (Fp_5)
  have Fd_5 := CellsAt.gr (Yd_p4) g5
  have ld_5 := CellsAt.lt (Fd_5)
  have z5 := (yp4).trans g5
  clear Yj_p4 Yr_p4 Yt_p4 Yt3_p4 Yp_p4 Yd_p4 yp4 g5
  have cj0 := CellsAt.cell (Fj_5) 0
  have cj1 := CellsAt.cell (Fj_5) 1
  have cj2 := CellsAt.cell (Fj_5) 2
  have cj3 := CellsAt.cell (Fj_5) 3
  have cj4 := CellsAt.cell (Fj_5) 4
  have cj5 := CellsAt.cell (Fj_5) 5
  have cj6 := CellsAt.cell (Fj_5) 6
  have cj7 := CellsAt.cell (Fj_5) 7
  have cj8 := CellsAt.cell (Fj_5) 8
  have cj9 := CellsAt.cell (Fj_5) 9
  have cj10 := CellsAt.cell (Fj_5) 10
  have cj11 := CellsAt.cell (Fj_5) 11
  simp only [List.getElem?_toArray, List.getElem?_cons_zero, List.getElem?_cons_succ] at cj0 cj1 cj2 cj3 cj4 cj5 cj6 cj7 cj8 cj9 cj10 cj11
  have md0 := CellsAt.frozen (Fd_5) 0
  have cd0 := CellsAt.cell (Fd_5) 0
  simp only [List.getElem?_toArray, List.getElem?_cons_zero, List.getElem?_cons_succ] at cd0
  have md1 := CellsAt.frozen (Fd_5) 1
  have cd1 := CellsAt.cell (Fd_5) 1
  simp only [List.getElem?_toArray, List.getElem?_cons_zero, List.getElem?_cons_succ] at cd1
  go_wp2_with fail
  clear cj0 cj1 cj2 cj3 cj4 cj5 cj6 cj7 cj8 cj9 cj10 cj11 md0 cd0 md1 cd1
  have Yj_p5 : CellsAt ((w5.setCell ⟨w4.heap.size, 0, none⟩ (.int .i64 dd.re)).setCell ⟨w4.heap.size, 1, none⟩ (.int .i64 dd.im)) (w.heap.size) 48 #[.int .i64 ju.re, .int .i64 ju.im, .int .i64 jv.re, .int .i64 jv.im, .int .i64 jy.re, .int .i64 jy.im, .int .i64 jz.re, .int .i64 jz.im, .int .i64 ja.re, .int .i64 ja.im, .int .i64 jc.re, .int .i64 jc.im] := by first | exact CellsAt.other (CellsAt.other (Fj_5) (by omega) 0 (.int .i64 dd.re)) (by omega) 1 (.int .i64 dd.im) | simpa using CellsAt.other (CellsAt.other (Fj_5) (by omega) 0 (.int .i64 dd.re)) (by omega) 1 (.int .i64 dd.im)
  have Yr_p5 : CellsAt ((w5.setCell ⟨w4.heap.size, 0, none⟩ (.int .i64 dd.re)).setCell ⟨w4.heap.size, 1, none⟩ (.int .i64 dd.im)) (w.heap.size + 1) 42 #[.int .i64 0, .int .i64 0] := by first | exact CellsAt.other (CellsAt.other (Fr_5) (by omega) 0 (.int .i64 dd.re)) (by omega) 1 (.int .i64 dd.im) | simpa using CellsAt.other (CellsAt.other (Fr_5) (by omega) 0 (.int .i64 dd.re)) (by omega) 1 (.int .i64 dd.im)
  have Yt_p5 : CellsAt ((w5.setCell ⟨w4.heap.size, 0, none⟩ (.int .i64 dd.re)).setCell ⟨w4.heap.size, 1, none⟩ (.int .i64 dd.im)) (w1.heap.size) 42 #[.int .i64 t.re, .int .i64 t.im] := by first | exact CellsAt.other (CellsAt.other (Ft_5) (by omega) 0 (.int .i64 dd.re)) (by omega) 1 (.int .i64 dd.im) | simpa using CellsAt.other (CellsAt.other (Ft_5) (by omega) 0 (.int .i64 dd.re)) (by omega) 1 (.int .i64 dd.im)
  have Yt3_p5 : CellsAt ((w5.setCell ⟨w4.heap.size, 0, none⟩ (.int .i64 dd.re)).setCell ⟨w4.heap.size, 1, none⟩ (.int .i64 dd.im)) (w2.heap.size) 42 #[.int .i64 t3.re, .int .i64 t3.im] := by first | exact CellsAt.other (CellsAt.other (Ft3_5) (by omega) 0 (.int .i64 dd.re)) (by omega) 1 (.int .i64 dd.im) | simpa using CellsAt.other (CellsAt.other (Ft3_5) (by omega) 0 (.int .i64 dd.re)) (by omega) 1 (.int .i64 dd.im)
  have Yp_p5 : CellsAt ((w5.setCell ⟨w4.heap.size, 0, none⟩ (.int .i64 dd.re)).setCell ⟨w4.heap.size, 1, none⟩ (.int .i64 dd.im)) (w3.heap.size) 42 #[.int .i64 p.re, .int .i64 p.im] := by first | exact CellsAt.other (CellsAt.other (Fp_5) (by omega) 0 (.int .i64 dd.re)) (by omega) 1 (.int .i64 dd.im) | simpa using CellsAt.other (CellsAt.other (Fp_5) (by omega) 0 (.int .i64 dd.re)) (by omega) 1 (.int .i64 dd.im)
  have Yd_p5 : CellsAt ((w5.setCell ⟨w4.heap.size, 0, none⟩ (.int .i64 dd.re)).setCell ⟨w4.heap.size, 1, none⟩ (.int .i64 dd.im)) (w4.heap.size) 42 #[.int .i64 dd.re, .int .i64 dd.im] := by first | exact CellsAt.set (CellsAt.set (Fd_5) 0 (.int .i64 dd.re)) 1 (.int .i64 dd.im) | simpa using CellsAt.set (CellsAt.set (Fd_5) 0 (.int .i64 dd.re)) 1 (.int .i64 dd.im)
  have yp5 := Gr.setCell (Gr.setCell (z5) (a := ⟨w4.heap.size, 0, none⟩) (by first | omega | (simp only; omega)) (.int .i64 dd.re)) (a := ⟨w4.heap.size, 1, none⟩) (by first | omega | (simp only; omega)) (.int .i64 dd.im)
  refine (HU.out _).mono ?_
  rintro e w6 ⟨rfl, g6⟩
  have Fj_6 := CellsAt.gr (Yj_p5) g6
  have lj_6 := CellsAt.lt (Fj_6)
  have Fr_6 := CellsAt.gr (Yr_p5) g6
  have lr_6 := CellsAt.lt (Fr_6)
  have Ft_6 := CellsAt.gr (Yt_p5) g6
  have lt_6 := CellsAt.lt (Ft_6)
  have Ft3_6 := CellsAt.gr (Yt3_p5) g6
  have lt3_6 := CellsAt.lt (Ft3_6)
  have Fp_6 := CellsAt.gr (Yp_p5) g6
  have lp_6 := CellsAt.lt (Fp_6)
  have Fd_6 := CellsAt.gr (Yd_p5) g6
  have ld_6 := CellsAt.lt (Fd_6)
  have z6 := (yp5).trans g6
  clear Yj_p5 Yr_p5 Yt_p5 Yt3_p5 Yp_p5 Yd_p5 yp5 g6
  have cd0 := CellsAt.cell (Fd_6) 0
  have cd1 := CellsAt.cell (Fd_6) 1
  have cp0 := CellsAt.cell (Fp_6) 0
  have cp1 := CellsAt.cell (Fp_6) 1
  simp only [List.getElem?_toArray, List.getElem?_cons_zero, List.getElem?_cons_succ] at cd0 cd1 cp0 cp1
  have mr0 := CellsAt.frozen (Fr_6) 0
  have cr0 := CellsAt.cell (Fr_6) 0
  simp only [List.getElem?_toArray, List.getElem?_cons_zero, List.getElem?_cons_succ] at cr0
  have mr1 := CellsAt.frozen (Fr_6) 1
  have cr1 := CellsAt.cell (Fr_6) 1
  simp only [List.getElem?_toArray, List.getElem?_cons_zero, List.getElem?_cons_succ] at cr1
  go_wp2_with fail
  clear cd0 cd1 cp0 cp1 mr0 cr0 mr1 cr1
  have Yj_p6 : CellsAt (w6.alloc (.cells #[.int .i64 U.re, .int .i64 U.im] 42)) (w.heap.size) 48 #[.int .i64 ju.re, .int .i64 ju.im, .int .i64 jv.re, .int .i64 jv.im, .int .i64 jy.re, .int .i64 jy.im, .int .i64 jz.re, .int .i64 jz.im, .int .i64 ja.re, .int .i64 ja.im, .int .i64 jc.re, .int .i64 jc.im] := by first | exact CellsAt.alloc (Fj_6) (.cells #[.int .i64 U.re, .int .i64 U.im] 42) | simpa using CellsAt.alloc (Fj_6) (.cells #[.int .i64 U.re, .int .i64 U.im] 42)
  have Yr_p6 : CellsAt (w6.alloc (.cells #[.int .i64 U.re, .int .i64 U.im] 42)) (w.heap.size + 1) 42 #[.int .i64 0, .int .i64 0] := by first | exact CellsAt.alloc (Fr_6) (.cells #[.int .i64 U.re, .int .i64 U.im] 42) | simpa using CellsAt.alloc (Fr_6) (.cells #[.int .i64 U.re, .int .i64 U.im] 42)
  have Yt_p6 : CellsAt (w6.alloc (.cells #[.int .i64 U.re, .int .i64 U.im] 42)) (w1.heap.size) 42 #[.int .i64 t.re, .int .i64 t.im] := by first | exact CellsAt.alloc (Ft_6) (.cells #[.int .i64 U.re, .int .i64 U.im] 42) | simpa using CellsAt.alloc (Ft_6) (.cells #[.int .i64 U.re, .int .i64 U.im] 42)
  have Yt3_p6 : CellsAt (w6.alloc (.cells #[.int .i64 U.re, .int .i64 U.im] 42)) (w2.heap.size) 42 #[.int .i64 t3.re, .int .i64 t3.im] := by first | exact CellsAt.alloc (Ft3_6) (.cells #[.int .i64 U.re, .int .i64 U.im] 42) | simpa using CellsAt.alloc (Ft3_6) (.cells #[.int .i64 U.re, .int .i64 U.im] 42)
  have Yp_p6 : CellsAt (w6.alloc (.cells #[.int .i64 U.re, .int .i64 U.im] 42)) (w3.heap.size) 42 #[.int .i64 p.re, .int .i64 p.im] := by first | exact CellsAt.alloc (Fp_6) (.cells #[.int .i64 U.re, .int .i64 U.im] 42) | simpa using CellsAt.alloc (Fp_6) (.cells #[.int .i64 U.re, .int .i64 U.im] 42)
  have Yd_p6 : CellsAt (w6.alloc (.cells #[.int .i64 U.re, .int .i64 U.im] 42)) (w4.heap.size) 42 #[.int .i64 dd.re, .int .i64 dd.im] := by first | exact CellsAt.alloc (Fd_6) (.cells #[.int .i64 U.re, .int .i64 U.im] 42) | simpa using CellsAt.alloc (Fd_6) (.cells #[.int .i64 U.re, .int .i64 U.im] 42)
  have Ys_p6 : CellsAt (w6.alloc (.cells #[.int .i64 U.re, .int .i64 U.im] 42)) (w6.heap.size) 42 #[.int .i64 U.re, .int .i64 U.im] := by first | exact CellsAt.new w6 42 #[.int .i64 U.re, .int .i64 U.im] | simpa using CellsAt.new w6 42 #[.int .i64 U.re, .int .i64 U.im]
  have yp6 := Gr.alloc (z6) #[.int .i64 U.re, .int .i64 U.im] 42
  refine (HS.out _).mono ?_
  rintro e w7 ⟨rfl, g7⟩
  have Fj_7 := CellsAt.gr (Yj_p6) g7
  have lj_7 := CellsAt.lt (Fj_7)
  have Fr_7 := CellsAt.gr (Yr_p6) g7
  have lr_7 := CellsAt.lt (Fr_7)
  have Ft_7 := CellsAt.gr (Yt_p6) g7
  have lt_7 := CellsAt.lt (Ft_7)
  have Ft3_7 := CellsAt.gr (Yt3_p6) g7
  have lt3_7 := CellsAt.lt (Ft3_7)
  have Fp_7 := CellsAt.gr (Yp_p6) g7
  have lp_7 := CellsAt.lt (Fp_7)
  have Fd_7 := CellsAt.gr (Yd_p6) g7
  have ld_7 := CellsAt.lt (Fd_7)
  have Fs_7 := CellsAt.gr (Ys_p6) g7
  have ls_7 := CellsAt.lt (Fs_7)
  have z7 := (yp6).trans g7
  clear Yj_p6 Yr_p6 Yt_p6 Yt3_p6 Yp_p6 Yd_p6 Ys_p6 yp6 g7
  have mr0 := CellsAt.frozen (Fr_7) 0
  have cr0 := CellsAt.cell (Fr_7) 0
  simp only [List.getElem?_toArray, List.getElem?_cons_zero, List.getElem?_cons_succ] at cr0
  have mr1 := CellsAt.frozen (Fr_7) 1
  have cr1 := CellsAt.cell (Fr_7) 1
  simp only [List.getElem?_toArray, List.getElem?_cons_zero, List.getElem?_cons_succ] at cr1
  go_wp2_with fail
  clear mr0 cr0 mr1 cr1
  refine (HF.out _).mono ?_
  rintro e w8 ⟨rfl, g8⟩
  have Fj_8 := CellsAt.gr (Fj_7) g8
  have lj_8 := CellsAt.lt (Fj_8)
  have Fr_8 := CellsAt.gr (Fr_7) g8
  have lr_8 := CellsAt.lt (Fr_8)
  have Ft_8 := CellsAt.gr (Ft_7) g8
  have lt_8 := CellsAt.lt (Ft_8)
  have Ft3_8 := CellsAt.gr (Ft3_7) g8
  have lt3_8 := CellsAt.lt (Ft3_8)
  have Fp_8 := CellsAt.gr (Fp_7) g8
  have lp_8 := CellsAt.lt (Fp_8)
  have Fd_8 := CellsAt.gr (Fd_7) g8
  have ld_8 := CellsAt.lt (Fd_8)
  have Fs_8 := CellsAt.gr (Fs_7) g8
  have ls_8 := CellsAt.lt (Fs_8)
  have z8 := (z7).trans g8
  clear Fj_7 Fr_7 Ft_7 Ft3_7 Fp_7 Fd_7 Fs_7 z7 g8
  have mr0 := CellsAt.frozen (Fr_8) 0
  have cr0 := CellsAt.cell (Fr_8) 0
  simp only [List.getElem?_toArray, List.getElem?_cons_zero, List.getElem?_cons_succ] at cr0
  have mr1 := CellsAt.frozen (Fr_8) 1
  have cr1 := CellsAt.cell (Fr_8) 1
  simp only [List.getElem?_toArray, List.getElem?_cons_zero, List.getElem?_cons_succ] at cr1
  go_wp2_with fail
  clear mr0 cr0 mr1 cr1
  have Yj_p7 : CellsAt ((w8.setCell ⟨w.heap.size + 1, 0, none⟩ (.int .i64 o.re)).setCell ⟨w.heap.size + 1, 1, none⟩ (.int .i64 o.im)) (w.heap.size) 48 #[.int .i64 ju.re, .int .i64 ju.im, .int .i64 jv.re, .int .i64 jv.im, .int .i64 jy.re, .int .i64 jy.im, .int .i64 jz.re, .int .i64 jz.im, .int .i64 ja.re, .int .i64 ja.im, .int .i64 jc.re, .int .i64 jc.im] := by first | exact CellsAt.other (CellsAt.other (Fj_8) (by omega) 0 (.int .i64 o.re)) (by omega) 1 (.int .i64 o.im) | simpa using CellsAt.other (CellsAt.other (Fj_8) (by omega) 0 (.int .i64 o.re)) (by omega) 1 (.int .i64 o.im)
  have Yr_p7 : CellsAt ((w8.setCell ⟨w.heap.size + 1, 0, none⟩ (.int .i64 o.re)).setCell ⟨w.heap.size + 1, 1, none⟩ (.int .i64 o.im)) (w.heap.size + 1) 42 #[.int .i64 o.re, .int .i64 o.im] := by first | exact CellsAt.set (CellsAt.set (Fr_8) 0 (.int .i64 o.re)) 1 (.int .i64 o.im) | simpa using CellsAt.set (CellsAt.set (Fr_8) 0 (.int .i64 o.re)) 1 (.int .i64 o.im)
  have Yt_p7 : CellsAt ((w8.setCell ⟨w.heap.size + 1, 0, none⟩ (.int .i64 o.re)).setCell ⟨w.heap.size + 1, 1, none⟩ (.int .i64 o.im)) (w1.heap.size) 42 #[.int .i64 t.re, .int .i64 t.im] := by first | exact CellsAt.other (CellsAt.other (Ft_8) (by omega) 0 (.int .i64 o.re)) (by omega) 1 (.int .i64 o.im) | simpa using CellsAt.other (CellsAt.other (Ft_8) (by omega) 0 (.int .i64 o.re)) (by omega) 1 (.int .i64 o.im)
  have Yt3_p7 : CellsAt ((w8.setCell ⟨w.heap.size + 1, 0, none⟩ (.int .i64 o.re)).setCell ⟨w.heap.size + 1, 1, none⟩ (.int .i64 o.im)) (w2.heap.size) 42 #[.int .i64 t3.re, .int .i64 t3.im] := by first | exact CellsAt.other (CellsAt.other (Ft3_8) (by omega) 0 (.int .i64 o.re)) (by omega) 1 (.int .i64 o.im) | simpa using CellsAt.other (CellsAt.other (Ft3_8) (by omega) 0 (.int .i64 o.re)) (by omega) 1 (.int .i64 o.im)
  have Yp_p7 : CellsAt ((w8.setCell ⟨w.heap.size + 1, 0, none⟩ (.int .i64 o.re)).setCell ⟨w.heap.size + 1, 1, none⟩ (.int .i64 o.im)) (w3.heap.size) 42 #[.int .i64 p.re, .int .i64 p.im] := by first | exact CellsAt.other (CellsAt.other (Fp_8) (by omega) 0 (.int .i64 o.re)) (by omega) 1 (.int .i64 o.im) | simpa using CellsAt.other (CellsAt.other (Fp_8) (by omega) 0 (.int .i64 o.re)) (by omega) 1 (.int .i64 o.im)
  have Yd_p7 : CellsAt ((w8.setCell ⟨w.heap.size + 1, 0, none⟩ (.int .i64 o.re)).setCell ⟨w.heap.size + 1, 1, none⟩ (.int .i64 o.im)) (w4.heap.size) 42 #[.int .i64 dd.re, .int .i64 dd.im] := by first | exact CellsAt.other (CellsAt.other (Fd_8) (by omega) 0 (.int .i64 o.re)) (by omega) 1 (.int .i64 o.im) | simpa using CellsAt.other (CellsAt.other (Fd_8) (by omega) 0 (.int .i64 o.re)) (by omega) 1 (.int .i64 o.im)
  have Ys_p7 : CellsAt ((w8.setCell ⟨w.heap.size + 1, 0, none⟩ (.int .i64 o.re)).setCell ⟨w.heap.size + 1, 1, none⟩ (.int .i64 o.im)) (w6.heap.size) 42 #[.int .i64 U.re, .int .i64 U.im] := by first | exact CellsAt.other (CellsAt.other (Fs_8) (by omega) 0 (.int .i64 o.re)) (by omega) 1 (.int .i64 o.im) | simpa using CellsAt.other (CellsAt.other (Fs_8) (by omega) 0 (.int .i64 o.re)) (by omega) 1 (.int .i64 o.im)
  have yp7 := Gr.setCell (Gr.setCell (z8) (a := ⟨w.heap.size + 1, 0, none⟩) (by first | omega | (simp only; omega)) (.int .i64 o.re)) (a := ⟨w.heap.size + 1, 1, none⟩) (by first | omega | (simp only; omega)) (.int .i64 o.im)
  generalize ((w8.setCell ⟨w.heap.size + 1, 0, none⟩ (.int .i64 o.re)).setCell ⟨w.heap.size + 1, 1, none⟩ (.int .i64 o.im)) = uf at *
  have cr0 := CellsAt.cell (Yr_p7) 0
  have cr1 := CellsAt.cell (Yr_p7) 1
  simp only [List.getElem?_toArray, List.getElem?_cons_zero, List.getElem?_cons_succ] at cr0 cr1
  refine bodyPost_ret (v := .agg #[.int .i64 o.re, .int .i64 o.im]) ?_ rfl ⟨rfl, yp7⟩
  simp [results, Tryz.results27, go_sem, *]

set_option maxHeartbeats 4000000 in
theorem rJoin_false_1_of (bits mo b1 b2 : Int) (ju jv jy jz ja jc t t3 p d dd U V s o : Gi) (h1 : wrap64 (bits + 1) = b1) (h2 : wrap64 (bits + 2) = b2)
    (HT : Hid (∀ W, Calls Tryz.prog 39 #[.agg #[.int .i64 (jy).re, .int .i64 (jy).im], .agg #[.int .i64 (ja).re, .int .i64 (ja).im]] W fun e w' => e = .returned (.agg #[.int .i64 (t).re, .int .i64 (t).im]) ∧ Gr W w')) (HT3 : Hid (∀ W, Calls Tryz.prog 39 #[.agg #[.int .i64 (jz).re, .int .i64 (jz).im], .agg #[.int .i64 (jc).re, .int .i64 (jc).im]] W fun e w' => e = .returned (.agg #[.int .i64 (t3).re, .int .i64 (t3).im]) ∧ Gr W w')) (HP : Hid (∀ W, Calls Tryz.prog 23 #[.agg #[.int .i64 (t).re, .int .i64 (t).im], .agg #[.int .i64 (t3).re, .int .i64 (t3).im]] W fun e w' => e = .returned (.agg #[.int .i64 (p).re, .int .i64 (p).im]) ∧ Gr W w')) (HL : Hid (∀ W, Calls Tryz.prog 24 #[.agg #[.int .i64 (t).re, .int .i64 (t).im], .agg #[.int .i64 (t3).re, .int .i64 (t3).im]] W fun e w' => e = .returned (.agg #[.int .i64 (d).re, .int .i64 (d).im]) ∧ Gr W w'))
    (HN : Hid (∀ W, Calls Tryz.prog 40 #[.agg #[.int .i64 (d).re, .int .i64 (d).im], .int .i64 (-1)] W fun e w' => e = .returned (.agg #[.int .i64 (dd).re, .int .i64 (dd).im]) ∧ Gr W w')) (HU : Hid (∀ W, Calls Tryz.prog 41 #[.agg #[.int .i64 (ju).re, .int .i64 (ju).im], .int .i64 b1] W fun e w' => e = .returned (.agg #[.int .i64 (U).re, .int .i64 (U).im]) ∧ Gr W w')) (HV : Hid (∀ W, Calls Tryz.prog 41 #[.agg #[.int .i64 (jv).re, .int .i64 (jv).im], .int .i64 b1] W fun e w' => e = .returned (.agg #[.int .i64 (V).re, .int .i64 (V).im]) ∧ Gr W w'))
    (HS : Hid (∀ W, Calls Tryz.prog 23 #[.agg #[.int .i64 (V).re, .int .i64 (V).im], .agg #[.int .i64 (dd).re, .int .i64 (dd).im]] W fun e w' => e = .returned (.agg #[.int .i64 (s).re, .int .i64 (s).im]) ∧ Gr W w')) (HF : Hid (∀ W, Calls Tryz.prog 22 #[.agg #[.int .i64 (s).re, .int .i64 (s).im], .int .i64 b2, .int .i64 mo] W fun e w' => e = .returned (.agg #[.int .i64 (o).re, .int .i64 (o).im]) ∧ Gr W w')) (w : World) :
    Calls Tryz.prog 27 #[.agg #[.int .i64 ju.re, .int .i64 ju.im, .int .i64 jv.re, .int .i64 jv.im, .int .i64 jy.re, .int .i64 jy.im, .int .i64 jz.re, .int .i64 jz.im, .int .i64 ja.re, .int .i64 ja.im, .int .i64 jc.re, .int .i64 jc.im], .int .i64 1, .int .i64 bits, .int .i64 mo, .bool false] w fun e w' => e = .returned (.agg #[.int .i64 (o).re, .int .i64 (o).im]) ∧ Gr w w' := by
  go_enter Tryz.func27, Tryz.ntmps27
  go_wp2_with fail
  obtain ⟨u0, hU⟩ : ∃ uu, uu = ((w.alloc (.cells #[.int .i64 ju.re, .int .i64 ju.im, .int .i64 jv.re, .int .i64 jv.im, .int .i64 jy.re, .int .i64 jy.im, .int .i64 jz.re, .int .i64 jz.im, .int .i64 ja.re, .int .i64 ja.im, .int .i64 jc.re, .int .i64 jc.im] 48)).alloc (.cells #[.int .i64 0, .int .i64 0] 42)) := ⟨_, rfl⟩
  have gu : Gr w u0 := by rw [hU]; exact ((Gr.refl w).alloc _ _).alloc _ _
  have R0 : CellsAt u0 (w.heap.size) 48 #[.int .i64 ju.re, .int .i64 ju.im, .int .i64 jv.re, .int .i64 jv.im, .int .i64 jy.re, .int .i64 jy.im, .int .i64 jz.re, .int .i64 jz.im, .int .i64 ja.re, .int .i64 ja.im, .int .i64 jc.re, .int .i64 jc.im] := by
    rw [hU]
    have := ((CellsAt.new w 48 #[.int .i64 ju.re, .int .i64 ju.im, .int .i64 jv.re, .int .i64 jv.im, .int .i64 jy.re, .int .i64 jy.im, .int .i64 jz.re, .int .i64 jz.im, .int .i64 ja.re, .int .i64 ja.im, .int .i64 jc.re, .int .i64 jc.im]).alloc (.cells #[.int .i64 0, .int .i64 0] 42))
    simpa only [World.size_alloc] using this
  have R1 : CellsAt u0 (w.heap.size + 1) 42 #[.int .i64 0, .int .i64 0] := by
    rw [hU]
    have := (CellsAt.new (w.alloc (.cells #[.int .i64 ju.re, .int .i64 ju.im, .int .i64 jv.re, .int .i64 jv.im, .int .i64 jy.re, .int .i64 jy.im, .int .i64 jz.re, .int .i64 jz.im, .int .i64 ja.re, .int .i64 ja.im, .int .i64 jc.re, .int .i64 jc.im] 48)) 42 #[.int .i64 0, .int .i64 0])
    simpa only [World.size_alloc] using this
  rw [← hU]
  clear hU
  have lj := R0.lt
  have lr := R1.lt
  refine (HT.out _).mono ?_
  rintro e w1 ⟨rfl, g1⟩
  have Fj_1 := CellsAt.gr (R0) g1
  have lj_1 := CellsAt.lt (Fj_1)
  have Fr_1 := CellsAt.gr (R1) g1
  have lr_1 := CellsAt.lt (Fr_1)
  have z1 := (gu).trans g1
  clear R0 R1 gu g1
  have cj0 := CellsAt.cell (Fj_1) 0
  have cj1 := CellsAt.cell (Fj_1) 1
  have cj2 := CellsAt.cell (Fj_1) 2
  have cj3 := CellsAt.cell (Fj_1) 3
  have cj4 := CellsAt.cell (Fj_1) 4
  have cj5 := CellsAt.cell (Fj_1) 5
  have cj6 := CellsAt.cell (Fj_1) 6
  have cj7 := CellsAt.cell (Fj_1) 7
  have cj8 := CellsAt.cell (Fj_1) 8
  have cj9 := CellsAt.cell (Fj_1) 9
  have cj10 := CellsAt.cell (Fj_1) 10
  have cj11 := CellsAt.cell (Fj_1) 11
  simp only [List.getElem?_toArray, List.getElem?_cons_zero, List.getElem?_cons_succ] at cj0 cj1 cj2 cj3 cj4 cj5 cj6 cj7 cj8 cj9 cj10 cj11
  go_wp2_with fail
  clear cj0 cj1 cj2 cj3 cj4 cj5 cj6 cj7 cj8 cj9 cj10 cj11
  have Yj_p1 : CellsAt (w1.alloc (.cells #[.int .i64 t.re, .int .i64 t.im] 42)) (w.heap.size) 48 #[.int .i64 ju.re, .int .i64 ju.im, .int .i64 jv.re, .int .i64 jv.im, .int .i64 jy.re, .int .i64 jy.im, .int .i64 jz.re, .int .i64 jz.im, .int .i64 ja.re, .int .i64 ja.im, .int .i64 jc.re, .int .i64 jc.im] := by first | exact CellsAt.alloc (Fj_1) (.cells #[.int .i64 t.re, .int .i64 t.im] 42) | simpa using CellsAt.alloc (Fj_1) (.cells #[.int .i64 t.re, .int .i64 t.im] 42)
  have Yr_p1 : CellsAt (w1.alloc (.cells #[.int .i64 t.re, .int .i64 t.im] 42)) (w.heap.size + 1) 42 #[.int .i64 0, .int .i64 0] := by first | exact CellsAt.alloc (Fr_1) (.cells #[.int .i64 t.re, .int .i64 t.im] 42) | simpa using CellsAt.alloc (Fr_1) (.cells #[.int .i64 t.re, .int .i64 t.im] 42)
  have Yt_p1 : CellsAt (w1.alloc (.cells #[.int .i64 t.re, .int .i64 t.im] 42)) (w1.heap.size) 42 #[.int .i64 t.re, .int .i64 t.im] := by first | exact CellsAt.new w1 42 #[.int .i64 t.re, .int .i64 t.im] | simpa using CellsAt.new w1 42 #[.int .i64 t.re, .int .i64 t.im]
  have yp1 := Gr.alloc (z1) #[.int .i64 t.re, .int .i64 t.im] 42
  refine (HT3.out _).mono ?_
  rintro e w2 ⟨rfl, g2⟩
  have Fj_2 := CellsAt.gr (Yj_p1) g2
  have lj_2 := CellsAt.lt (Fj_2)
  have Fr_2 := CellsAt.gr (Yr_p1) g2
  have lr_2 := CellsAt.lt (Fr_2)
  have Ft_2 := CellsAt.gr (Yt_p1) g2
  have lt_2 := CellsAt.lt (Ft_2)
  have z2 := (yp1).trans g2
  clear Yj_p1 Yr_p1 Yt_p1 yp1 g2
  have ct0 := CellsAt.cell (Ft_2) 0
  have ct1 := CellsAt.cell (Ft_2) 1
  simp only [List.getElem?_toArray, List.getElem?_cons_zero, List.getElem?_cons_succ] at ct0 ct1
  go_wp2_with fail
  clear ct0 ct1
  have Yj_p2 : CellsAt (w2.alloc (.cells #[.int .i64 t3.re, .int .i64 t3.im] 42)) (w.heap.size) 48 #[.int .i64 ju.re, .int .i64 ju.im, .int .i64 jv.re, .int .i64 jv.im, .int .i64 jy.re, .int .i64 jy.im, .int .i64 jz.re, .int .i64 jz.im, .int .i64 ja.re, .int .i64 ja.im, .int .i64 jc.re, .int .i64 jc.im] := by first | exact CellsAt.alloc (Fj_2) (.cells #[.int .i64 t3.re, .int .i64 t3.im] 42) | simpa using CellsAt.alloc (Fj_2) (.cells #[.int .i64 t3.re, .int .i64 t3.im] 42)
  have Yr_p2 : CellsAt (w2.alloc (.cells #[.int .i64 t3.re, .int .i64 t3.im] 42)) (w.heap.size + 1) 42 #[.int .i64 0, .int .i64 0] := by first | exact CellsAt.alloc (Fr_2) (.cells #[.int .i64 t3.re, .int .i64 t3.im] 42) | simpa using CellsAt.alloc (Fr_2) (.cells #[.int .i64 t3.re, .int .i64 t3.im] 42)
  have Yt_p2 : CellsAt (w2.alloc (.cells #[.int .i64 t3.re, .int .i64 t3.im] 42)) (w1.heap.size) 42 #[.int .i64 t.re, .int .i64 t.im] := by first | exact CellsAt.alloc (Ft_2) (.cells #[.int .i64 t3.re, .int .i64 t3.im] 42) | simpa using CellsAt.alloc (Ft_2) (.cells #[.int .i64 t3.re, .int .i64 t3.im] 42)
  have Yt3_p2 : CellsAt (w2.alloc (.cells #[.int .i64 t3.re, .int .i64 t3.im] 42)) (w2.heap.size) 42 #[.int .i64 t3.re, .int .i64 t3.im] := by first | exact CellsAt.new w2 42 #[.int .i64 t3.re, .int .i64 t3.im] | simpa using CellsAt.new w2 42 #[.int .i64 t3.re, .int .i64 t3.im]
  have yp2 := Gr.alloc (z2) #[.int .i64 t3.re, .int .i64 t3.im] 42
  refine (HP.out _).mono ?_
  rintro e w3 ⟨rfl, g3⟩
  have Fj_3 := CellsAt.gr (Yj_p2) g3
  have lj_3 := CellsAt.lt (Fj_3)
  have Fr_3 := CellsAt.gr (Yr_p2) g3
  have lr_3 := CellsAt.lt (Fr_3)
  have Ft_3 := CellsAt.gr (Yt_p2) g3
  have lt_3 := CellsAt.lt (Ft_3)
  have Ft3_3 := CellsAt.gr (Yt3_p2) g3
  have lt3_3 := CellsAt.lt (Ft3_3)
  have z3 := (yp2).trans g3
  clear Yj_p2 Yr_p2 Yt_p2 Yt3_p2 yp2 g3
  have ct0 := CellsAt.cell (Ft_3) 0
  have ct1 := CellsAt.cell (Ft_3) 1
  have ct30 := CellsAt.cell (Ft3_3) 0
  have ct31 := CellsAt.cell (Ft3_3) 1
  simp only [List.getElem?_toArray, List.getElem?_cons_zero, List.getElem?_cons_succ] at ct0 ct1 ct30 ct31
  go_wp2_with fail
  clear ct0 ct1 ct30 ct31
  have Yj_p3 : CellsAt (w3.alloc (.cells #[.int .i64 p.re, .int .i64 p.im] 42)) (w.heap.size) 48 #[.int .i64 ju.re, .int .i64 ju.im, .int .i64 jv.re, .int .i64 jv.im, .int .i64 jy.re, .int .i64 jy.im, .int .i64 jz.re, .int .i64 jz.im, .int .i64 ja.re, .int .i64 ja.im, .int .i64 jc.re, .int .i64 jc.im] := by first | exact CellsAt.alloc (Fj_3) (.cells #[.int .i64 p.re, .int .i64 p.im] 42) | simpa using CellsAt.alloc (Fj_3) (.cells #[.int .i64 p.re, .int .i64 p.im] 42)
  have Yr_p3 : CellsAt (w3.alloc (.cells #[.int .i64 p.re, .int .i64 p.im] 42)) (w.heap.size + 1) 42 #[.int .i64 0, .int .i64 0] := by first | exact CellsAt.alloc (Fr_3) (.cells #[.int .i64 p.re, .int .i64 p.im] 42) | simpa using CellsAt.alloc (Fr_3) (.cells #[.int .i64 p.re, .int .i64 p.im] 42)
  have Yt_p3 : CellsAt (w3.alloc (.cells #[.int .i64 p.re, .int .i64 p.im] 42)) (w1.heap.size) 42 #[.int .i64 t.re, .int .i64 t.im] := by first | exact CellsAt.alloc (Ft_3) (.cells #[.int .i64 p.re, .int .i64 p.im] 42) | simpa using CellsAt.alloc (Ft_3) (.cells #[.int .i64 p.re, .int .i64 p.im] 42)
  have Yt3_p3 : CellsAt (w3.alloc (.cells #[.int .i64 p.re, .int .i64 p.im] 42)) (w2.heap.size) 42 #[.int .i64 t3.re, .int .i64 t3.im] := by first | exact CellsAt.alloc (Ft3_3) (.cells #[.int .i64 p.re, .int .i64 p.im] 42) | simpa using CellsAt.alloc (Ft3_3) (.cells #[.int .i64 p.re, .int .i64 p.im] 42)
  have Yp_p3 : CellsAt (w3.alloc (.cells #[.int .i64 p.re, .int .i64 p.im] 42)) (w3.heap.size) 42 #[.int .i64 p.re, .int .i64 p.im] := by first | exact CellsAt.new w3 42 #[.int .i64 p.re, .int .i64 p.im] | simpa using CellsAt.new w3 42 #[.int .i64 p.re, .int .i64 p.im]
  have yp3 := Gr.alloc (z3) #[.int .i64 p.re, .int .i64 p.im] 42
  refine (HL.out _).mono ?_
  rintro e w4 ⟨rfl, g4⟩
  have Fj_4 := CellsAt.gr (Yj_p3) g4
  have lj_4 := CellsAt.lt (Fj_4)
  have Fr_4 := CellsAt.gr (Yr_p3) g4
  have lr_4 := CellsAt.lt (Fr_4)
  have Ft_4 := CellsAt.gr (Yt_p3) g4
  have lt_4 := CellsAt.lt (Ft_4)
  have Ft3_4 := CellsAt.gr (Yt3_p3) g4
  have lt3_4 := CellsAt.lt (Ft3_4)
  have Fp_4 := CellsAt.gr (Yp_p3) g4
  have lp_4 := CellsAt.lt (Fp_4)
  have z4 := (yp3).trans g4
  clear Yj_p3 Yr_p3 Yt_p3 Yt3_p3 Yp_p3 yp3 g4
  go_wp2_with fail
  have Yj_p4 : CellsAt (w4.alloc (.cells #[.int .i64 d.re, .int .i64 d.im] 42)) (w.heap.size) 48 #[.int .i64 ju.re, .int .i64 ju.im, .int .i64 jv.re, .int .i64 jv.im, .int .i64 jy.re, .int .i64 jy.im, .int .i64 jz.re, .int .i64 jz.im, .int .i64 ja.re, .int .i64 ja.im, .int .i64 jc.re, .int .i64 jc.im] := by first | exact CellsAt.alloc (Fj_4) (.cells #[.int .i64 d.re, .int .i64 d.im] 42) | simpa using CellsAt.alloc (Fj_4) (.cells #[.int .i64 d.re, .int .i64 d.im] 42)
  have Yr_p4 : CellsAt (w4.alloc (.cells #[.int .i64 d.re, .int .i64 d.im] 42)) (w.heap.size + 1) 42 #[.int .i64 0, .int .i64 0] := by first | exact CellsAt.alloc (Fr_4) (.cells #[.int .i64 d.re, .int .i64 d.im] 42) | simpa using CellsAt.alloc (Fr_4) (.cells #[.int .i64 d.re, .int .i64 d.im] 42)
  have Yt_p4 : CellsAt (w4.alloc (.cells #[.int .i64 d.re, .int .i64 d.im] 42)) (w1.heap.size) 42 #[.int .i64 t.re, .int .i64 t.im] := by first | exact CellsAt.alloc (Ft_4) (.cells #[.int .i64 d.re, .int .i64 d.im] 42) | simpa using CellsAt.alloc (Ft_4) (.cells #[.int .i64 d.re, .int .i64 d.im] 42)
  have Yt3_p4 : CellsAt (w4.alloc (.cells #[.int .i64 d.re, .int .i64 d.im] 42)) (w2.heap.size) 42 #[.int .i64 t3.re, .int .i64 t3.im] := by first | exact CellsAt.alloc (Ft3_4) (.cells #[.int .i64 d.re, .int .i64 d.im] 42) | simpa using CellsAt.alloc (Ft3_4) (.cells #[.int .i64 d.re, .int .i64 d.im] 42)
  have Yp_p4 : CellsAt (w4.alloc (.cells #[.int .i64 d.re, .int .i64 d.im] 42)) (w3.heap.size) 42 #[.int .i64 p.re, .int .i64 p.im] := by first | exact CellsAt.alloc (Fp_4) (.cells #[.int .i64 d.re, .int .i64 d.im] 42) | simpa using CellsAt.alloc (Fp_4) (.cells #[.int .i64 d.re, .int .i64 d.im] 42)
  have Yd_p4 : CellsAt (w4.alloc (.cells #[.int .i64 d.re, .int .i64 d.im] 42)) (w4.heap.size) 42 #[.int .i64 d.re, .int .i64 d.im] := by first | exact CellsAt.new w4 42 #[.int .i64 d.re, .int .i64 d.im] | simpa using CellsAt.new w4 42 #[.int .i64 d.re, .int .i64 d.im]
  have yp4 := Gr.alloc (z4) #[.int .i64 d.re, .int .i64 d.im] 42
  refine (HN.out _).mono ?_
  rintro e w5 ⟨rfl, g5⟩
  have Fj_5 := CellsAt.gr (Yj_p4) g5
  have lj_5 := CellsAt.lt (Fj_5)
  have Fr_5 := CellsAt.gr (Yr_p4) g5
  have lr_5 := CellsAt.lt (Fr_5)
  have Ft_5 := CellsAt.gr (Yt_p4) g5
  have lt_5 := CellsAt.lt (Ft_5)
  have Ft3_5 := CellsAt.gr (Yt3_p4) g5
  have lt3_5 := CellsAt.lt (Ft3_5)
  have Fp_5 := CellsAt.gr (Yp_p4) g5
  have lp_5 := CellsAt.lt (Fp_5)
  have Fd_5 := CellsAt.gr (Yd_p4) g5
  have ld_5 := CellsAt.lt (Fd_5)
  have z5 := (yp4).trans g5
  clear Yj_p4 Yr_p4 Yt_p4 Yt3_p4 Yp_p4 Yd_p4 yp4 g5
  have cj0 := CellsAt.cell (Fj_5) 0
  have cj1 := CellsAt.cell (Fj_5) 1
  have cj2 := CellsAt.cell (Fj_5) 2
  have cj3 := CellsAt.cell (Fj_5) 3
  have cj4 := CellsAt.cell (Fj_5) 4
  have cj5 := CellsAt.cell (Fj_5) 5
  have cj6 := CellsAt.cell (Fj_5) 6
  have cj7 := CellsAt.cell (Fj_5) 7
  have cj8 := CellsAt.cell (Fj_5) 8
  have cj9 := CellsAt.cell (Fj_5) 9
  have cj10 := CellsAt.cell (Fj_5) 10
  have cj11 := CellsAt.cell (Fj_5) 11
  simp only [List.getElem?_toArray, List.getElem?_cons_zero, List.getElem?_cons_succ] at cj0 cj1 cj2 cj3 cj4 cj5 cj6 cj7 cj8 cj9 cj10 cj11
  have md0 := CellsAt.frozen (Fd_5) 0
  have cd0 := CellsAt.cell (Fd_5) 0
  simp only [List.getElem?_toArray, List.getElem?_cons_zero, List.getElem?_cons_succ] at cd0
  have md1 := CellsAt.frozen (Fd_5) 1
  have cd1 := CellsAt.cell (Fd_5) 1
  simp only [List.getElem?_toArray, List.getElem?_cons_zero, List.getElem?_cons_succ] at cd1
  go_wp2_with fail
  clear cj0 cj1 cj2 cj3 cj4 cj5 cj6 cj7 cj8 cj9 cj10 cj11 md0 cd0 md1 cd1
  have Yj_p5 : CellsAt ((w5.setCell ⟨w4.heap.size, 0, none⟩ (.int .i64 dd.re)).setCell ⟨w4.heap.size, 1, none⟩ (.int .i64 dd.im)) (w.heap.size) 48 #[.int .i64 ju.re, .int .i64 ju.im, .int .i64 jv.re, .int .i64 jv.im, .int .i64 jy.re, .int .i64 jy.im, .int .i64 jz.re, .int .i64 jz.im, .int .i64 ja.re, .int .i64 ja.im, .int .i64 jc.re, .int .i64 jc.im] := by first | exact CellsAt.other (CellsAt.other (Fj_5) (by omega) 0 (.int .i64 dd.re)) (by omega) 1 (.int .i64 dd.im) | simpa using CellsAt.other (CellsAt.other (Fj_5) (by omega) 0 (.int .i64 dd.re)) (by omega) 1 (.int .i64 dd.im)
  have Yr_p5 : CellsAt ((w5.setCell ⟨w4.heap.size, 0, none⟩ (.int .i64 dd.re)).setCell ⟨w4.heap.size, 1, none⟩ (.int .i64 dd.im)) (w.heap.size + 1) 42 #[.int .i64 0, .int .i64 0] := by first | exact CellsAt.other (CellsAt.other (Fr_5) (by omega) 0 (.int .i64 dd.re)) (by omega) 1 (.int .i64 dd.im) | simpa using CellsAt.other (CellsAt.other (Fr_5) (by omega) 0 (.int .i64 dd.re)) (by omega) 1 (.int .i64 dd.im)
  have Yt_p5 : CellsAt ((w5.setCell ⟨w4.heap.size, 0, none⟩ (.int .i64 dd.re)).setCell ⟨w4.heap.size, 1, none⟩ (.int .i64 dd.im)) (w1.heap.size) 42 #[.int .i64 t.re, .int .i64 t.im] := by first | exact CellsAt.other (CellsAt.other (Ft_5) (by omega) 0 (.int .i64 dd.re)) (by omega) 1 (.int .i64 dd.im) | simpa using CellsAt.other (CellsAt.other (Ft_5) (by omega) 0 (.int .i64 dd.re)) (by omega) 1 (.int .i64 dd.im)
  have Yt3_p5 : CellsAt ((w5.setCell ⟨w4.heap.size, 0, none⟩ (.int .i64 dd.re)).setCell ⟨w4.heap.size, 1, none⟩ (.int .i64 dd.im)) (w2.heap.size) 42 #[.int .i64 t3.re, .int .i64 t3.im] := by first | exact CellsAt.other (CellsAt.other (Ft3_5) (by omega) 0 (.int .i64 dd.re)) (by omega) 1 (.int .i64 dd.im) | simpa using CellsAt.other (CellsAt.other (Ft3_5) (by omega) 0 (.int .i64 dd.re)) (by omega) 1 (.int .i64 dd.im)
  have Yp_p5 : CellsAt ((w5.setCell ⟨w4.heap.size, 0, none⟩ (.int .i64 dd.re)).setCell ⟨w4.heap.size, 1, none⟩ (.int .i64 dd.im)) (w3.heap.size) 42 #[.int .i64 p.re, .int .i64 p.im] := by first | exact CellsAt.other (CellsAt.other (Fp_5) (by omega) 0 (.int .i64 dd.re)) (by omega) 1 (.int .i64 dd.im) | simpa using CellsAt.other (CellsAt.other (Fp_5) (by omega) 0 (.int .i64 dd.re)) (by omega) 1 (.int .i64 dd.im)
  have Yd_p5 : CellsAt ((w5.setCell ⟨w4.heap.size, 0, none⟩ (.int .i64 dd.re)).setCell ⟨w4.heap.size, 1, none⟩ (.int .i64 dd.im)) (w4.heap.size) 42 #[.int .i64 dd.re, .int .i64 dd.im] := by first | exact CellsAt.set (CellsAt.set (Fd_5) 0 (.int .i64 dd.re)) 1 (.int .i64 dd.im) | simpa using CellsAt.set (CellsAt.set (Fd_5) 0 (.int .i64 dd.re)) 1 (.int .i64 dd.im)
  have yp5 := Gr.setCell (Gr.setCell (z5) (a := ⟨w4.heap.size, 0, none⟩) (by first | omega | (simp only; omega)) (.int .i64 dd.re)) (a := ⟨w4.heap.size, 1, none⟩) (by first | omega | (simp only; omega)) (.int .i64 dd.im)
  refine (HU.out _).mono ?_
  rintro e w6 ⟨rfl, g6⟩
  have Fj_6 := CellsAt.gr (Yj_p5) g6
  have lj_6 := CellsAt.lt (Fj_6)
  have Fr_6 := CellsAt.gr (Yr_p5) g6
  have lr_6 := CellsAt.lt (Fr_6)
  have Ft_6 := CellsAt.gr (Yt_p5) g6
  have lt_6 := CellsAt.lt (Ft_6)
  have Ft3_6 := CellsAt.gr (Yt3_p5) g6
  have lt3_6 := CellsAt.lt (Ft3_6)
  have Fp_6 := CellsAt.gr (Yp_p5) g6
  have lp_6 := CellsAt.lt (Fp_6)
  have Fd_6 := CellsAt.gr (Yd_p5) g6
  have ld_6 := CellsAt.lt (Fd_6)
  have z6 := (yp5).trans g6
  clear Yj_p5 Yr_p5 Yt_p5 Yt3_p5 Yp_p5 Yd_p5 yp5 g6
  have cj0 := CellsAt.cell (Fj_6) 0
  have cj1 := CellsAt.cell (Fj_6) 1
  have cj2 := CellsAt.cell (Fj_6) 2
  have cj3 := CellsAt.cell (Fj_6) 3
  have cj4 := CellsAt.cell (Fj_6) 4
  have cj5 := CellsAt.cell (Fj_6) 5
  have cj6 := CellsAt.cell (Fj_6) 6
  have cj7 := CellsAt.cell (Fj_6) 7
  have cj8 := CellsAt.cell (Fj_6) 8
  have cj9 := CellsAt.cell (Fj_6) 9
  have cj10 := CellsAt.cell (Fj_6) 10
  have cj11 := CellsAt.cell (Fj_6) 11
  simp only [List.getElem?_toArray, List.getElem?_cons_zero, List.getElem?_cons_succ] at cj0 cj1 cj2 cj3 cj4 cj5 cj6 cj7 cj8 cj9 cj10 cj11
  go_wp2_with fail
  clear cj0 cj1 cj2 cj3 cj4 cj5 cj6 cj7 cj8 cj9 cj10 cj11
  have Yj_p6 : CellsAt (w6.alloc (.cells #[.int .i64 U.re, .int .i64 U.im] 42)) (w.heap.size) 48 #[.int .i64 ju.re, .int .i64 ju.im, .int .i64 jv.re, .int .i64 jv.im, .int .i64 jy.re, .int .i64 jy.im, .int .i64 jz.re, .int .i64 jz.im, .int .i64 ja.re, .int .i64 ja.im, .int .i64 jc.re, .int .i64 jc.im] := by first | exact CellsAt.alloc (Fj_6) (.cells #[.int .i64 U.re, .int .i64 U.im] 42) | simpa using CellsAt.alloc (Fj_6) (.cells #[.int .i64 U.re, .int .i64 U.im] 42)
  have Yr_p6 : CellsAt (w6.alloc (.cells #[.int .i64 U.re, .int .i64 U.im] 42)) (w.heap.size + 1) 42 #[.int .i64 0, .int .i64 0] := by first | exact CellsAt.alloc (Fr_6) (.cells #[.int .i64 U.re, .int .i64 U.im] 42) | simpa using CellsAt.alloc (Fr_6) (.cells #[.int .i64 U.re, .int .i64 U.im] 42)
  have Yt_p6 : CellsAt (w6.alloc (.cells #[.int .i64 U.re, .int .i64 U.im] 42)) (w1.heap.size) 42 #[.int .i64 t.re, .int .i64 t.im] := by first | exact CellsAt.alloc (Ft_6) (.cells #[.int .i64 U.re, .int .i64 U.im] 42) | simpa using CellsAt.alloc (Ft_6) (.cells #[.int .i64 U.re, .int .i64 U.im] 42)
  have Yt3_p6 : CellsAt (w6.alloc (.cells #[.int .i64 U.re, .int .i64 U.im] 42)) (w2.heap.size) 42 #[.int .i64 t3.re, .int .i64 t3.im] := by first | exact CellsAt.alloc (Ft3_6) (.cells #[.int .i64 U.re, .int .i64 U.im] 42) | simpa using CellsAt.alloc (Ft3_6) (.cells #[.int .i64 U.re, .int .i64 U.im] 42)
  have Yp_p6 : CellsAt (w6.alloc (.cells #[.int .i64 U.re, .int .i64 U.im] 42)) (w3.heap.size) 42 #[.int .i64 p.re, .int .i64 p.im] := by first | exact CellsAt.alloc (Fp_6) (.cells #[.int .i64 U.re, .int .i64 U.im] 42) | simpa using CellsAt.alloc (Fp_6) (.cells #[.int .i64 U.re, .int .i64 U.im] 42)
  have Yd_p6 : CellsAt (w6.alloc (.cells #[.int .i64 U.re, .int .i64 U.im] 42)) (w4.heap.size) 42 #[.int .i64 dd.re, .int .i64 dd.im] := by first | exact CellsAt.alloc (Fd_6) (.cells #[.int .i64 U.re, .int .i64 U.im] 42) | simpa using CellsAt.alloc (Fd_6) (.cells #[.int .i64 U.re, .int .i64 U.im] 42)
  have Ys_p6 : CellsAt (w6.alloc (.cells #[.int .i64 U.re, .int .i64 U.im] 42)) (w6.heap.size) 42 #[.int .i64 U.re, .int .i64 U.im] := by first | exact CellsAt.new w6 42 #[.int .i64 U.re, .int .i64 U.im] | simpa using CellsAt.new w6 42 #[.int .i64 U.re, .int .i64 U.im]
  have yp6 := Gr.alloc (z6) #[.int .i64 U.re, .int .i64 U.im] 42
  refine (HV.out _).mono ?_
  rintro e w7 ⟨rfl, g7⟩
  have Fj_7 := CellsAt.gr (Yj_p6) g7
  have lj_7 := CellsAt.lt (Fj_7)
  have Fr_7 := CellsAt.gr (Yr_p6) g7
  have lr_7 := CellsAt.lt (Fr_7)
  have Ft_7 := CellsAt.gr (Yt_p6) g7
  have lt_7 := CellsAt.lt (Ft_7)
  have Ft3_7 := CellsAt.gr (Yt3_p6) g7
  have lt3_7 := CellsAt.lt (Ft3_7)
  have Fp_7 := CellsAt.gr (Yp_p6) g7
  have lp_7 := CellsAt.lt (Fp_7)
  have Fd_7 := CellsAt.gr (Yd_p6) g7
  have ld_7 := CellsAt.lt (Fd_7)
  have Fs_7 := CellsAt.gr (Ys_p6) g7
  have ls_7 := CellsAt.lt (Fs_7)
  have z7 := (yp6).trans g7
  clear Yj_p6 Yr_p6 Yt_p6 Yt3_p6 Yp_p6 Yd_p6 Ys_p6 yp6 g7
  have cd0 := CellsAt.cell (Fd_7) 0
  have cd1 := CellsAt.cell (Fd_7) 1
  have cp0 := CellsAt.cell (Fp_7) 0
  have cp1 := CellsAt.cell (Fp_7) 1
  have cs0 := CellsAt.cell (Fs_7) 0
  have cs1 := CellsAt.cell (Fs_7) 1
  simp only [List.getElem?_toArray, List.getElem?_cons_zero, List.getElem?_cons_succ] at cd0 cd1 cp0 cp1 cs0 cs1
  have ms0 := CellsAt.frozen (Fs_7) 0
  have ms1 := CellsAt.frozen (Fs_7) 1
  have mp0 := CellsAt.frozen (Fp_7) 0
  have mp1 := CellsAt.frozen (Fp_7) 1
  go_wp2_with fail
  clear cd0 cd1 cp0 cp1 cs0 cs1 ms0 ms1 mp0 mp1
  have Yj_p7 : CellsAt ((((w7.setCell ⟨w6.heap.size, 0, none⟩ (.int .i64 V.re)).setCell ⟨w6.heap.size, 1, none⟩ (.int .i64 V.im)).setCell ⟨w3.heap.size, 0, none⟩ (.int .i64 dd.re)).setCell ⟨w3.heap.size, 1, none⟩ (.int .i64 dd.im)) (w.heap.size) 48 #[.int .i64 ju.re, .int .i64 ju.im, .int .i64 jv.re, .int .i64 jv.im, .int .i64 jy.re, .int .i64 jy.im, .int .i64 jz.re, .int .i64 jz.im, .int .i64 ja.re, .int .i64 ja.im, .int .i64 jc.re, .int .i64 jc.im] := by first | exact CellsAt.other (CellsAt.other (CellsAt.other (CellsAt.other (Fj_7) (by omega) 0 (.int .i64 V.re)) (by omega) 1 (.int .i64 V.im)) (by omega) 0 (.int .i64 dd.re)) (by omega) 1 (.int .i64 dd.im) | simpa using CellsAt.other (CellsAt.other (CellsAt.other (CellsAt.other (Fj_7) (by omega) 0 (.int .i64 V.re)) (by omega) 1 (.int .i64 V.im)) (by omega) 0 (.int .i64 dd.re)) (by omega) 1 (.int .i64 dd.im)
  have Yr_p7 : CellsAt ((((w7.setCell ⟨w6.heap.size, 0, none⟩ (.int .i64 V.re)).setCell ⟨w6.heap.size, 1, none⟩ (.int .i64 V.im)).setCell ⟨w3.heap.size, 0, none⟩ (.int .i64 dd.re)).setCell ⟨w3.heap.size, 1, none⟩ (.int .i64 dd.im)) (w.heap.size + 1) 42 #[.int .i64 0, .int .i64 0] := by first | exact CellsAt.other (CellsAt.other (CellsAt.other (CellsAt.other (Fr_7) (by omega) 0 (.int .i64 V.re)) (by omega) 1 (.int .i64 V.im)) (by omega) 0 (.int .i64 dd.re)) (by omega) 1 (.int .i64 dd.im) | simpa using CellsAt.other (CellsAt.other (CellsAt.other (CellsAt.other (Fr_7) (by omega) 0 (.int .i64 V.re)) (by omega) 1 (.int .i64 V.im)) (by omega) 0 (.int .i64 dd.re)) (by omega) 1 (.int .i64 dd.im)
  have Yt_p7 : CellsAt ((((w7.setCell ⟨w6.heap.size, 0, none⟩ (.int .i64 V.re)).setCell ⟨w6.heap.size, 1, none⟩ (.int .i64 V.im)).setCell ⟨w3.heap.size, 0, none⟩ (.int .i64 dd.re)).setCell ⟨w3.heap.size, 1, none⟩ (.int .i64 dd.im)) (w1.heap.size) 42 #[.int .i64 t.re, .int .i64 t.im] := by first | exact CellsAt.other (CellsAt.other (CellsAt.other (CellsAt.other (Ft_7) (by omega) 0 (.int .i64 V.re)) (by omega) 1 (.int .i64 V.im)) (by omega) 0 (.int .i64 dd.re)) (by omega) 1 (.int .i64 dd.im) | simpa using CellsAt.other (CellsAt.other (CellsAt.other (CellsAt.other (Ft_7) (by omega) 0 (.int .i64 V.re)) (by omega) 1 (.int .i64 V.im)) (by omega) 0 (.int .i64 dd.re)) (by omega) 1 (.int .i64 dd.im)
  have Yt3_p7 : CellsAt ((((w7.setCell ⟨w6.heap.size, 0, none⟩ (.int .i64 V.re)).setCell ⟨w6.heap.size, 1, none⟩ (.int .i64 V.im)).setCell ⟨w3.heap.size, 0, none⟩ (.int .i64 dd.re)).setCell ⟨w3.heap.size, 1, none⟩ (.int .i64 dd.im)) (w2.heap.size) 42 #[.int .i64 t3.re, .int .i64 t3.im] := by first | exact CellsAt.other (CellsAt.other (CellsAt.other (CellsAt.other (Ft3_7) (by omega) 0 (.int .i64 V.re)) (by omega) 1 (.int .i64 V.im)) (by omega) 0 (.int .i64 dd.re)) (by omega) 1 (.int .i64 dd.im) | simpa using CellsAt.other (CellsAt.other (CellsAt.other (CellsAt.other (Ft3_7) (by omega) 0 (.int .i64 V.re)) (by omega) 1 (.int .i64 V.im)) (by omega) 0 (.int .i64 dd.re)) (by omega) 1 (.int .i64 dd.im)
  have Yp_p7 : CellsAt ((((w7.setCell ⟨w6.heap.size, 0, none⟩ (.int .i64 V.re)).setCell ⟨w6.heap.size, 1, none⟩ (.int .i64 V.im)).setCell ⟨w3.heap.size, 0, none⟩ (.int .i64 dd.re)).setCell ⟨w3.heap.size, 1, none⟩ (.int .i64 dd.im)) (w3.heap.size) 42 #[.int .i64 dd.re, .int .i64 dd.im] := by first | exact CellsAt.set (CellsAt.set (CellsAt.other (CellsAt.other (Fp_7) (by omega) 0 (.int .i64 V.re)) (by omega) 1 (.int .i64 V.im)) 0 (.int .i64 dd.re)) 1 (.int .i64 dd.im) | simpa using CellsAt.set (CellsAt.set (CellsAt.other (CellsAt.other (Fp_7) (by omega) 0 (.int .i64 V.re)) (by omega) 1 (.int .i64 V.im)) 0 (.int .i64 dd.re)) 1 (.int .i64 dd.im)
  have Yd_p7 : CellsAt ((((w7.setCell ⟨w6.heap.size, 0, none⟩ (.int .i64 V.re)).setCell ⟨w6.heap.size, 1, none⟩ (.int .i64 V.im)).setCell ⟨w3.heap.size, 0, none⟩ (.int .i64 dd.re)).setCell ⟨w3.heap.size, 1, none⟩ (.int .i64 dd.im)) (w4.heap.size) 42 #[.int .i64 dd.re, .int .i64 dd.im] := by first | exact CellsAt.other (CellsAt.other (CellsAt.other (CellsAt.other (Fd_7) (by omega) 0 (.int .i64 V.re)) (by omega) 1 (.int .i64 V.im)) (by omega) 0 (.int .i64 dd.re)) (by omega) 1 (.int .i64 dd.im) | simpa using CellsAt.other (CellsAt.other (CellsAt.other (CellsAt.other (Fd_7) (by omega) 0 (.int .i64 V.re)) (by omega) 1 (.int .i64 V.im)) (by omega) 0 (.int .i64 dd.re)) (by omega) 1 (.int .i64 dd.im)
  have Ys_p7 : CellsAt ((((w7.setCell ⟨w6.heap.size, 0, none⟩ (.int .i64 V.re)).setCell ⟨w6.heap.size, 1, none⟩ (.int .i64 V.im)).setCell ⟨w3.heap.size, 0, none⟩ (.int .i64 dd.re)).setCell ⟨w3.heap.size, 1, none⟩ (.int .i64 dd.im)) (w6.heap.size) 42 #[.int .i64 V.re, .int .i64 V.im] := by first | exact CellsAt.other (CellsAt.other (CellsAt.set (CellsAt.set (Fs_7) 0 (.int .i64 V.re)) 1 (.int .i64 V.im)) (by omega) 0 (.int .i64 dd.re)) (by omega) 1 (.int .i64 dd.im) | simpa using CellsAt.other (CellsAt.other (CellsAt.set (CellsAt.set (Fs_7) 0 (.int .i64 V.re)) 1 (.int .i64 V.im)) (by omega) 0 (.int .i64 dd.re)) (by omega) 1 (.int .i64 dd.im)
  have yp7 := Gr.setCell (Gr.setCell (Gr.setCell (Gr.setCell (z7) (a := ⟨w6.heap.size, 0, none⟩) (by first | omega | (simp only; omega)) (.int .i64 V.re)) (a := ⟨w6.heap.size, 1, none⟩) (by first | omega | (simp only; omega)) (.int .i64 V.im)) (a := ⟨w3.heap.size, 0, none⟩) (by first | omega | (simp only; omega)) (.int .i64 dd.re)) (a := ⟨w3.heap.size, 1, none⟩) (by first | omega | (simp only; omega)) (.int .i64 dd.im)
  refine (HS.out _).mono ?_
  rintro e w8 ⟨rfl, g8⟩
  have Fj_8 := CellsAt.gr (Yj_p7) g8
  have lj_8 := CellsAt.lt (Fj_8)
  have Fr_8 := CellsAt.gr (Yr_p7) g8
  have lr_8 := CellsAt.lt (Fr_8)
  have Ft_8 := CellsAt.gr (Yt_p7) g8
  have lt_8 := CellsAt.lt (Ft_8)
  have Ft3_8 := CellsAt.gr (Yt3_p7) g8
  have lt3_8 := CellsAt.lt (Ft3_8)
  have Fp_8 := CellsAt.gr (Yp_p7) g8
  have lp_8 := CellsAt.lt (Fp_8)
  have Fd_8 := CellsAt.gr (Yd_p7) g8
  have ld_8 := CellsAt.lt (Fd_8)
  have Fs_8 := CellsAt.gr (Ys_p7) g8
  have ls_8 := CellsAt.lt (Fs_8)
  have z8 := (yp7).trans g8
  clear Yj_p7 Yr_p7 Yt_p7 Yt3_p7 Yp_p7 Yd_p7 Ys_p7 yp7 g8
  have mr0 := CellsAt.frozen (Fr_8) 0
  have cr0 := CellsAt.cell (Fr_8) 0
  simp only [List.getElem?_toArray, List.getElem?_cons_zero, List.getElem?_cons_succ] at cr0
  have mr1 := CellsAt.frozen (Fr_8) 1
  have cr1 := CellsAt.cell (Fr_8) 1
  simp only [List.getElem?_toArray, List.getElem?_cons_zero, List.getElem?_cons_succ] at cr1
  go_wp2_with fail
  clear mr0 cr0 mr1 cr1
  refine (HF.out _).mono ?_
  rintro e w9 ⟨rfl, g9⟩
  have Fj_9 := CellsAt.gr (Fj_8) g9
  have lj_9 := CellsAt.lt (Fj_9)
  have Fr_9 := CellsAt.gr (Fr_8) g9
  have lr_9 := CellsAt.lt (Fr_9)
  have Ft_9 := CellsAt.gr (Ft_8) g9
  have lt_9 := CellsAt.lt (Ft_9)
  have Ft3_9 := CellsAt.gr (Ft3_8) g9
  have lt3_9 := CellsAt.lt (Ft3_9)
  have Fp_9 := CellsAt.gr (Fp_8) g9
  have lp_9 := CellsAt.lt (Fp_9)
  have Fd_9 := CellsAt.gr (Fd_8) g9
  have ld_9 := CellsAt.lt (Fd_9)
  have Fs_9 := CellsAt.gr (Fs_8) g9
  have ls_9 := CellsAt.lt (Fs_9)
  have z9 := (z8).trans g9
  clear Fj_8 Fr_8 Ft_8 Ft3_8 Fp_8 Fd_8 Fs_8 z8 g9
  have mr0 := CellsAt.frozen (Fr_9) 0
  have cr0 := CellsAt.cell (Fr_9) 0
  simp only [List.getElem?_toArray, List.getElem?_cons_zero, List.getElem?_cons_succ] at cr0
  have mr1 := CellsAt.frozen (Fr_9) 1
  have cr1 := CellsAt.cell (Fr_9) 1
  simp only [List.getElem?_toArray, List.getElem?_cons_zero, List.getElem?_cons_succ] at cr1
  go_wp2_with fail
  clear mr0 cr0 mr1 cr1
  have Yj_p8 : CellsAt ((w9.setCell ⟨w.heap.size + 1, 0, none⟩ (.int .i64 o.re)).setCell ⟨w.heap.size + 1, 1, none⟩ (.int .i64 o.im)) (w.heap.size) 48 #[.int .i64 ju.re, .int .i64 ju.im, .int .i64 jv.re, .int .i64 jv.im, .int .i64 jy.re, .int .i64 jy.im, .int .i64 jz.re, .int .i64 jz.im, .int .i64 ja.re, .int .i64 ja.im, .int .i64 jc.re, .int .i64 jc.im] := by first | exact CellsAt.other (CellsAt.other (Fj_9) (by omega) 0 (.int .i64 o.re)) (by omega) 1 (.int .i64 o.im) | simpa using CellsAt.other (CellsAt.other (Fj_9) (by omega) 0 (.int .i64 o.re)) (by omega) 1 (.int .i64 o.im)
  have Yr_p8 : CellsAt ((w9.setCell ⟨w.heap.size + 1, 0, none⟩ (.int .i64 o.re)).setCell ⟨w.heap.size + 1, 1, none⟩ (.int .i64 o.im)) (w.heap.size + 1) 42 #[.int .i64 o.re, .int .i64 o.im] := by first | exact CellsAt.set (CellsAt.set (Fr_9) 0 (.int .i64 o.re)) 1 (.int .i64 o.im) | simpa using CellsAt.set (CellsAt.set (Fr_9) 0 (.int .i64 o.re)) 1 (.int .i64 o.im)
  have Yt_p8 : CellsAt ((w9.setCell ⟨w.heap.size + 1, 0, none⟩ (.int .i64 o.re)).setCell ⟨w.heap.size + 1, 1, none⟩ (.int .i64 o.im)) (w1.heap.size) 42 #[.int .i64 t.re, .int .i64 t.im] := by first | exact CellsAt.other (CellsAt.other (Ft_9) (by omega) 0 (.int .i64 o.re)) (by omega) 1 (.int .i64 o.im) | simpa using CellsAt.other (CellsAt.other (Ft_9) (by omega) 0 (.int .i64 o.re)) (by omega) 1 (.int .i64 o.im)
  have Yt3_p8 : CellsAt ((w9.setCell ⟨w.heap.size + 1, 0, none⟩ (.int .i64 o.re)).setCell ⟨w.heap.size + 1, 1, none⟩ (.int .i64 o.im)) (w2.heap.size) 42 #[.int .i64 t3.re, .int .i64 t3.im] := by first | exact CellsAt.other (CellsAt.other (Ft3_9) (by omega) 0 (.int .i64 o.re)) (by omega) 1 (.int .i64 o.im) | simpa using CellsAt.other (CellsAt.other (Ft3_9) (by omega) 0 (.int .i64 o.re)) (by omega) 1 (.int .i64 o.im)
  have Yp_p8 : CellsAt ((w9.setCell ⟨w.heap.size + 1, 0, none⟩ (.int .i64 o.re)).setCell ⟨w.heap.size + 1, 1, none⟩ (.int .i64 o.im)) (w3.heap.size) 42 #[.int .i64 dd.re, .int .i64 dd.im] := by first | exact CellsAt.other (CellsAt.other (Fp_9) (by omega) 0 (.int .i64 o.re)) (by omega) 1 (.int .i64 o.im) | simpa using CellsAt.other (CellsAt.other (Fp_9) (by omega) 0 (.int .i64 o.re)) (by omega) 1 (.int .i64 o.im)
  have Yd_p8 : CellsAt ((w9.setCell ⟨w.heap.size + 1, 0, none⟩ (.int .i64 o.re)).setCell ⟨w.heap.size + 1, 1, none⟩ (.int .i64 o.im)) (w4.heap.size) 42 #[.int .i64 dd.re, .int .i64 dd.im] := by first | exact CellsAt.other (CellsAt.other (Fd_9) (by omega) 0 (.int .i64 o.re)) (by omega) 1 (.int .i64 o.im) | simpa using CellsAt.other (CellsAt.other (Fd_9) (by omega) 0 (.int .i64 o.re)) (by omega) 1 (.int .i64 o.im)
  have Ys_p8 : CellsAt ((w9.setCell ⟨w.heap.size + 1, 0, none⟩ (.int .i64 o.re)).setCell ⟨w.heap.size + 1, 1, none⟩ (.int .i64 o.im)) (w6.heap.size) 42 #[.int .i64 V.re, .int .i64 V.im] := by first | exact CellsAt.other (CellsAt.other (Fs_9) (by omega) 0 (.int .i64 o.re)) (by omega) 1 (.int .i64 o.im) | simpa using CellsAt.other (CellsAt.other (Fs_9) (by omega) 0 (.int .i64 o.re)) (by omega) 1 (.int .i64 o.im)
  have yp8 := Gr.setCell (Gr.setCell (z9) (a := ⟨w.heap.size + 1, 0, none⟩) (by first | omega | (simp only; omega)) (.int .i64 o.re)) (a := ⟨w.heap.size + 1, 1, none⟩) (by first | omega | (simp only; omega)) (.int .i64 o.im)
  generalize ((w9.setCell ⟨w.heap.size + 1, 0, none⟩ (.int .i64 o.re)).setCell ⟨w.heap.size + 1, 1, none⟩ (.int .i64 o.im)) = uf at *
  have cr0 := CellsAt.cell (Yr_p8) 0
  have cr1 := CellsAt.cell (Yr_p8) 1
  simp only [List.getElem?_toArray, List.getElem?_cons_zero, List.getElem?_cons_succ] at cr0 cr1
  refine bodyPost_ret (v := .agg #[.int .i64 o.re, .int .i64 o.im]) ?_ rfl ⟨rfl, yp8⟩
  simp [results, Tryz.results27, go_sem, *]

set_option maxHeartbeats 4000000 in
theorem rJoin_false_2_of (bits mo b1 b2 : Int) (ju jv jy jz ja jc t t3 p d dd U V s o : Gi) (h1 : wrap64 (bits + 1) = b1) (h2 : wrap64 (bits + 2) = b2)
    (HT : Hid (∀ W, Calls Tryz.prog 39 #[.agg #[.int .i64 (jy).re, .int .i64 (jy).im], .agg #[.int .i64 (ja).re, .int .i64 (ja).im]] W fun e w' => e = .returned (.agg #[.int .i64 (t).re, .int .i64 (t).im]) ∧ Gr W w')) (HT3 : Hid (∀ W, Calls Tryz.prog 39 #[.agg #[.int .i64 (jz).re, .int .i64 (jz).im], .agg #[.int .i64 (jc).re, .int .i64 (jc).im]] W fun e w' => e = .returned (.agg #[.int .i64 (t3).re, .int .i64 (t3).im]) ∧ Gr W w')) (HP : Hid (∀ W, Calls Tryz.prog 23 #[.agg #[.int .i64 (t).re, .int .i64 (t).im], .agg #[.int .i64 (t3).re, .int .i64 (t3).im]] W fun e w' => e = .returned (.agg #[.int .i64 (p).re, .int .i64 (p).im]) ∧ Gr W w')) (HL : Hid (∀ W, Calls Tryz.prog 24 #[.agg #[.int .i64 (t).re, .int .i64 (t).im], .agg #[.int .i64 (t3).re, .int .i64 (t3).im]] W fun e w' => e = .returned (.agg #[.int .i64 (d).re, .int .i64 (d).im]) ∧ Gr W w'))
    (HN : Hid (∀ W, Calls Tryz.prog 40 #[.agg #[.int .i64 (d).re, .int .i64 (d).im], .int .i64 (-1)] W fun e w' => e = .returned (.agg #[.int .i64 (dd).re, .int .i64 (dd).im]) ∧ Gr W w')) (HU : Hid (∀ W, Calls Tryz.prog 41 #[.agg #[.int .i64 (ju).re, .int .i64 (ju).im], .int .i64 b1] W fun e w' => e = .returned (.agg #[.int .i64 (U).re, .int .i64 (U).im]) ∧ Gr W w')) (HV : Hid (∀ W, Calls Tryz.prog 41 #[.agg #[.int .i64 (jv).re, .int .i64 (jv).im], .int .i64 b1] W fun e w' => e = .returned (.agg #[.int .i64 (V).re, .int .i64 (V).im]) ∧ Gr W w'))
    (HS : Hid (∀ W, Calls Tryz.prog 24 #[.agg #[.int .i64 (U).re, .int .i64 (U).im], .agg #[.int .i64 (p).re, .int .i64 (p).im]] W fun e w' => e = .returned (.agg #[.int .i64 (s).re, .int .i64 (s).im]) ∧ Gr W w')) (HF : Hid (∀ W, Calls Tryz.prog 22 #[.agg #[.int .i64 (s).re, .int .i64 (s).im], .int .i64 b2, .int .i64 mo] W fun e w' => e = .returned (.agg #[.int .i64 (o).re, .int .i64 (o).im]) ∧ Gr W w')) (w : World) :
    Calls Tryz.prog 27 #[.agg #[.int .i64 ju.re, .int .i64 ju.im, .int .i64 jv.re, .int .i64 jv.im, .int .i64 jy.re, .int .i64 jy.im, .int .i64 jz.re, .int .i64 jz.im, .int .i64 ja.re, .int .i64 ja.im, .int .i64 jc.re, .int .i64 jc.im], .int .i64 2, .int .i64 bits, .int .i64 mo, .bool false] w fun e w' => e = .returned (.agg #[.int .i64 (o).re, .int .i64 (o).im]) ∧ Gr w w' := by
  go_enter Tryz.func27, Tryz.ntmps27
  go_wp2_with fail
  obtain ⟨u0, hU⟩ : ∃ uu, uu = ((w.alloc (.cells #[.int .i64 ju.re, .int .i64 ju.im, .int .i64 jv.re, .int .i64 jv.im, .int .i64 jy.re, .int .i64 jy.im, .int .i64 jz.re, .int .i64 jz.im, .int .i64 ja.re, .int .i64 ja.im, .int .i64 jc.re, .int .i64 jc.im] 48)).alloc (.cells #[.int .i64 0, .int .i64 0] 42)) := ⟨_, rfl⟩
  have gu : Gr w u0 := by rw [hU]; exact ((Gr.refl w).alloc _ _).alloc _ _
  have R0 : CellsAt u0 (w.heap.size) 48 #[.int .i64 ju.re, .int .i64 ju.im, .int .i64 jv.re, .int .i64 jv.im, .int .i64 jy.re, .int .i64 jy.im, .int .i64 jz.re, .int .i64 jz.im, .int .i64 ja.re, .int .i64 ja.im, .int .i64 jc.re, .int .i64 jc.im] := by
    rw [hU]
    have := ((CellsAt.new w 48 #[.int .i64 ju.re, .int .i64 ju.im, .int .i64 jv.re, .int .i64 jv.im, .int .i64 jy.re, .int .i64 jy.im, .int .i64 jz.re, .int .i64 jz.im, .int .i64 ja.re, .int .i64 ja.im, .int .i64 jc.re, .int .i64 jc.im]).alloc (.cells #[.int .i64 0, .int .i64 0] 42))
    simpa only [World.size_alloc] using this
  have R1 : CellsAt u0 (w.heap.size + 1) 42 #[.int .i64 0, .int .i64 0] := by
    rw [hU]
    have := (CellsAt.new (w.alloc (.cells #[.int .i64 ju.re, .int .i64 ju.im, .int .i64 jv.re, .int .i64 jv.im, .int .i64 jy.re, .int .i64 jy.im, .int .i64 jz.re, .int .i64 jz.im, .int .i64 ja.re, .int .i64 ja.im, .int .i64 jc.re, .int .i64 jc.im] 48)) 42 #[.int .i64 0, .int .i64 0])
    simpa only [World.size_alloc] using this
  rw [← hU]
  clear hU
  have lj := R0.lt
  have lr := R1.lt
  refine (HT.out _).mono ?_
  rintro e w1 ⟨rfl, g1⟩
  have Fj_1 := CellsAt.gr (R0) g1
  have lj_1 := CellsAt.lt (Fj_1)
  have Fr_1 := CellsAt.gr (R1) g1
  have lr_1 := CellsAt.lt (Fr_1)
  have z1 := (gu).trans g1
  clear R0 R1 gu g1
  have cj0 := CellsAt.cell (Fj_1) 0
  have cj1 := CellsAt.cell (Fj_1) 1
  have cj2 := CellsAt.cell (Fj_1) 2
  have cj3 := CellsAt.cell (Fj_1) 3
  have cj4 := CellsAt.cell (Fj_1) 4
  have cj5 := CellsAt.cell (Fj_1) 5
  have cj6 := CellsAt.cell (Fj_1) 6
  have cj7 := CellsAt.cell (Fj_1) 7
  have cj8 := CellsAt.cell (Fj_1) 8
  have cj9 := CellsAt.cell (Fj_1) 9
  have cj10 := CellsAt.cell (Fj_1) 10
  have cj11 := CellsAt.cell (Fj_1) 11
  simp only [List.getElem?_toArray, List.getElem?_cons_zero, List.getElem?_cons_succ] at cj0 cj1 cj2 cj3 cj4 cj5 cj6 cj7 cj8 cj9 cj10 cj11
  go_wp2_with fail
  clear cj0 cj1 cj2 cj3 cj4 cj5 cj6 cj7 cj8 cj9 cj10 cj11
  have Yj_p1 : CellsAt (w1.alloc (.cells #[.int .i64 t.re, .int .i64 t.im] 42)) (w.heap.size) 48 #[.int .i64 ju.re, .int .i64 ju.im, .int .i64 jv.re, .int .i64 jv.im, .int .i64 jy.re, .int .i64 jy.im, .int .i64 jz.re, .int .i64 jz.im, .int .i64 ja.re, .int .i64 ja.im, .int .i64 jc.re, .int .i64 jc.im] := by first | exact CellsAt.alloc (Fj_1) (.cells #[.int .i64 t.re, .int .i64 t.im] 42) | simpa using CellsAt.alloc (Fj_1) (.cells #[.int .i64 t.re, .int .i64 t.im] 42)
  have Yr_p1 : CellsAt (w1.alloc (.cells #[.int .i64 t.re, .int .i64 t.im] 42)) (w.heap.size + 1) 42 #[.int .i64 0, .int .i64 0] := by first | exact CellsAt.alloc (Fr_1) (.cells #[.int .i64 t.re, .int .i64 t.im] 42) | simpa using CellsAt.alloc (Fr_1) (.cells #[.int .i64 t.re, .int .i64 t.im] 42)
  have Yt_p1 : CellsAt (w1.alloc (.cells #[.int .i64 t.re, .int .i64 t.im] 42)) (w1.heap.size) 42 #[.int .i64 t.re, .int .i64 t.im] := by first | exact CellsAt.new w1 42 #[.int .i64 t.re, .int .i64 t.im] | simpa using CellsAt.new w1 42 #[.int .i64 t.re, .int .i64 t.im]
  have yp1 := Gr.alloc (z1) #[.int .i64 t.re, .int .i64 t.im] 42
  refine (HT3.out _).mono ?_
  rintro e w2 ⟨rfl, g2⟩
  have Fj_2 := CellsAt.gr (Yj_p1) g2
  have lj_2 := CellsAt.lt (Fj_2)
  have Fr_2 := CellsAt.gr (Yr_p1) g2
  have lr_2 := CellsAt.lt (Fr_2)
  have Ft_2 := CellsAt.gr (Yt_p1) g2
  have lt_2 := CellsAt.lt (Ft_2)
  have z2 := (yp1).trans g2
  clear Yj_p1 Yr_p1 Yt_p1 yp1 g2
  have ct0 := CellsAt.cell (Ft_2) 0
  have ct1 := CellsAt.cell (Ft_2) 1
  simp only [List.getElem?_toArray, List.getElem?_cons_zero, List.getElem?_cons_succ] at ct0 ct1
  go_wp2_with fail
  clear ct0 ct1
  have Yj_p2 : CellsAt (w2.alloc (.cells #[.int .i64 t3.re, .int .i64 t3.im] 42)) (w.heap.size) 48 #[.int .i64 ju.re, .int .i64 ju.im, .int .i64 jv.re, .int .i64 jv.im, .int .i64 jy.re, .int .i64 jy.im, .int .i64 jz.re, .int .i64 jz.im, .int .i64 ja.re, .int .i64 ja.im, .int .i64 jc.re, .int .i64 jc.im] := by first | exact CellsAt.alloc (Fj_2) (.cells #[.int .i64 t3.re, .int .i64 t3.im] 42) | simpa using CellsAt.alloc (Fj_2) (.cells #[.int .i64 t3.re, .int .i64 t3.im] 42)
  have Yr_p2 : CellsAt (w2.alloc (.cells #[.int .i64 t3.re, .int .i64 t3.im] 42)) (w.heap.size + 1) 42 #[.int .i64 0, .int .i64 0] := by first | exact CellsAt.alloc (Fr_2) (.cells #[.int .i64 t3.re, .int .i64 t3.im] 42) | simpa using CellsAt.alloc (Fr_2) (.cells #[.int .i64 t3.re, .int .i64 t3.im] 42)
  have Yt_p2 : CellsAt (w2.alloc (.cells #[.int .i64 t3.re, .int .i64 t3.im] 42)) (w1.heap.size) 42 #[.int .i64 t.re, .int .i64 t.im] := by first | exact CellsAt.alloc (Ft_2) (.cells #[.int .i64 t3.re, .int .i64 t3.im] 42) | simpa using CellsAt.alloc (Ft_2) (.cells #[.int .i64 t3.re, .int .i64 t3.im] 42)
  have Yt3_p2 : CellsAt (w2.alloc (.cells #[.int .i64 t3.re, .int .i64 t3.im] 42)) (w2.heap.size) 42 #[.int .i64 t3.re, .int .i64 t3.im] := by first | exact CellsAt.new w2 42 #[.int .i64 t3.re, .int .i64 t3.im] | simpa using CellsAt.new w2 42 #[.int .i64 t3.re, .int .i64 t3.im]
  have yp2 := Gr.alloc (z2) #[.int .i64 t3.re, .int .i64 t3.im] 42
  refine (HP.out _).mono ?_
  rintro e w3 ⟨rfl, g3⟩
  have Fj_3 := CellsAt.gr (Yj_p2) g3
  have lj_3 := CellsAt.lt (Fj_3)
  have Fr_3 := CellsAt.gr (Yr_p2) g3
  have lr_3 := CellsAt.lt (Fr_3)
  have Ft_3 := CellsAt.gr (Yt_p2) g3
  have lt_3 := CellsAt.lt (Ft_3)
  have Ft3_3 := CellsAt.gr (Yt3_p2) g3
  have lt3_3 := CellsAt.lt (Ft3_3)
  have z3 := (yp2).trans g3
  clear Yj_p2 Yr_p2 Yt_p2 Yt3_p2 yp2 g3
  have ct0 := CellsAt.cell (Ft_3) 0
  have ct1 := CellsAt.cell (Ft_3) 1
  have ct30 := CellsAt.cell (Ft3_3) 0
  have ct31 := CellsAt.cell (Ft3_3) 1
  simp only [List.getElem?_toArray, List.getElem?_cons_zero, List.getElem?_cons_succ] at ct0 ct1 ct30 ct31
  go_wp2_with fail
  clear ct0 ct1 ct30 ct31
  have Yj_p3 : CellsAt (w3.alloc (.cells #[.int .i64 p.re, .int .i64 p.im] 42)) (w.heap.size) 48 #[.int .i64 ju.re, .int .i64 ju.im, .int .i64 jv.re, .int .i64 jv.im, .int .i64 jy.re, .int .i64 jy.im, .int .i64 jz.re, .int .i64 jz.im, .int .i64 ja.re, .int .i64 ja.im, .int .i64 jc.re, .int .i64 jc.im] := by first | exact CellsAt.alloc (Fj_3) (.cells #[.int .i64 p.re, .int .i64 p.im] 42) | simpa using CellsAt.alloc (Fj_3) (.cells #[.int .i64 p.re, .int .i64 p.im] 42)
  have Yr_p3 : CellsAt (w3.alloc (.cells #[.int .i64 p.re, .int .i64 p.im] 42)) (w.heap.size + 1) 42 #[.int .i64 0, .int .i64 0] := by first | exact CellsAt.alloc (Fr_3) (.cells #[.int .i64 p.re, .int .i64 p.im] 42) | simpa using CellsAt.alloc (Fr_3) (.cells #[.int .i64 p.re, .int .i64 p.im] 42)
  have Yt_p3 : CellsAt (w3.alloc (.cells #[.int .i64 p.re, .int .i64 p.im] 42)) (w1.heap.size) 42 #[.int .i64 t.re, .int .i64 t.im] := by first | exact CellsAt.alloc (Ft_3) (.cells #[.int .i64 p.re, .int .i64 p.im] 42) | simpa using CellsAt.alloc (Ft_3) (.cells #[.int .i64 p.re, .int .i64 p.im] 42)
  have Yt3_p3 : CellsAt (w3.alloc (.cells #[.int .i64 p.re, .int .i64 p.im] 42)) (w2.heap.size) 42 #[.int .i64 t3.re, .int .i64 t3.im] := by first | exact CellsAt.alloc (Ft3_3) (.cells #[.int .i64 p.re, .int .i64 p.im] 42) | simpa using CellsAt.alloc (Ft3_3) (.cells #[.int .i64 p.re, .int .i64 p.im] 42)
  have Yp_p3 : CellsAt (w3.alloc (.cells #[.int .i64 p.re, .int .i64 p.im] 42)) (w3.heap.size) 42 #[.int .i64 p.re, .int .i64 p.im] := by first | exact CellsAt.new w3 42 #[.int .i64 p.re, .int .i64 p.im] | simpa using CellsAt.new w3 42 #[.int .i64 p.re, .int .i64 p.im]
  have yp3 := Gr.alloc (z3) #[.int .i64 p.re, .int .i64 p.im] 42
  refine (HL.out _).mono ?_
  rintro e w4 ⟨rfl, g4⟩
  have Fj_4 := CellsAt.gr (Yj_p3) g4
  have lj_4 := CellsAt.lt (Fj_4)
  have Fr_4 := CellsAt.gr (Yr_p3) g4
  have lr_4 := CellsAt.lt (Fr_4)
  have Ft_4 := CellsAt.gr (Yt_p3) g4
  have lt_4 := CellsAt.lt (Ft_4)
  have Ft3_4 := CellsAt.gr (Yt3_p3) g4
  have lt3_4 := CellsAt.lt (Ft3_4)
  have Fp_4 := CellsAt.gr (Yp_p3) g4
  have lp_4 := CellsAt.lt (Fp_4)
  have z4 := (yp3).trans g4
  clear Yj_p3 Yr_p3 Yt_p3 Yt3_p3 Yp_p3 yp3 g4
  go_wp2_with fail
  have Yj_p4 : CellsAt (w4.alloc (.cells #[.int .i64 d.re, .int .i64 d.im] 42)) (w.heap.size) 48 #[.int .i64 ju.re, .int .i64 ju.im, .int .i64 jv.re, .int .i64 jv.im, .int .i64 jy.re, .int .i64 jy.im, .int .i64 jz.re, .int .i64 jz.im, .int .i64 ja.re, .int .i64 ja.im, .int .i64 jc.re, .int .i64 jc.im] := by first | exact CellsAt.alloc (Fj_4) (.cells #[.int .i64 d.re, .int .i64 d.im] 42) | simpa using CellsAt.alloc (Fj_4) (.cells #[.int .i64 d.re, .int .i64 d.im] 42)
  have Yr_p4 : CellsAt (w4.alloc (.cells #[.int .i64 d.re, .int .i64 d.im] 42)) (w.heap.size + 1) 42 #[.int .i64 0, .int .i64 0] := by first | exact CellsAt.alloc (Fr_4) (.cells #[.int .i64 d.re, .int .i64 d.im] 42) | simpa using CellsAt.alloc (Fr_4) (.cells #[.int .i64 d.re, .int .i64 d.im] 42)
  have Yt_p4 : CellsAt (w4.alloc (.cells #[.int .i64 d.re, .int .i64 d.im] 42)) (w1.heap.size) 42 #[.int .i64 t.re, .int .i64 t.im] := by first | exact CellsAt.alloc (Ft_4) (.cells #[.int .i64 d.re, .int .i64 d.im] 42) | simpa using CellsAt.alloc (Ft_4) (.cells #[.int .i64 d.re, .int .i64 d.im] 42)
  have Yt3_p4 : CellsAt (w4.alloc (.cells #[.int .i64 d.re, .int .i64 d.im] 42)) (w2.heap.size) 42 #[.int .i64 t3.re, .int .i64 t3.im] := by first | exact CellsAt.alloc (Ft3_4) (.cells #[.int .i64 d.re, .int .i64 d.im] 42) | simpa using CellsAt.alloc (Ft3_4) (.cells #[.int .i64 d.re, .int .i64 d.im] 42)
  have Yp_p4 : CellsAt (w4.alloc (.cells #[.int .i64 d.re, .int .i64 d.im] 42)) (w3.heap.size) 42 #[.int .i64 p.re, .int .i64 p.im] := by first | exact CellsAt.alloc (Fp_4) (.cells #[.int .i64 d.re, .int .i64 d.im] 42) | simpa using CellsAt.alloc (Fp_4) (.cells #[.int .i64 d.re, .int .i64 d.im] 42)
  have Yd_p4 : CellsAt (w4.alloc (.cells #[.int .i64 d.re, .int .i64 d.im] 42)) (w4.heap.size) 42 #[.int .i64 d.re, .int .i64 d.im] := by first | exact CellsAt.new w4 42 #[.int .i64 d.re, .int .i64 d.im] | simpa using CellsAt.new w4 42 #[.int .i64 d.re, .int .i64 d.im]
  have yp4 := Gr.alloc (z4) #[.int .i64 d.re, .int .i64 d.im] 42
  refine (HN.out _).mono ?_
  rintro e w5 ⟨rfl, g5⟩
  have Fj_5 := CellsAt.gr (Yj_p4) g5
  have lj_5 := CellsAt.lt (Fj_5)
  have Fr_5 := CellsAt.gr (Yr_p4) g5
  have lr_5 := CellsAt.lt (Fr_5)
  have Ft_5 := CellsAt.gr (Yt_p4) g5
  have lt_5 := CellsAt.lt (Ft_5)
  have Ft3_5 := CellsAt.gr (Yt3_p4) g5
  have lt3_5 := CellsAt.lt (Ft3_5)
  have Fp_5 := CellsAt.gr (Yp_p4) g5
  have lp_5 := CellsAt.lt (Fp_5)
  have Fd_5 := CellsAt.gr (Yd_p4) g5
  have ld_5 := CellsAt.lt (Fd_5)
  have z5 := (yp4).trans g5
  clear Yj_p4 Yr_p4 Yt_p4 Yt3_p4 Yp_p4 Yd_p4 yp4 g5
  have cj0 := CellsAt.cell (Fj_5) 0
  have cj1 := CellsAt.cell (Fj_5) 1
  have cj2 := CellsAt.cell (Fj_5) 2
  have cj3 := CellsAt.cell (Fj_5) 3
  have cj4 := CellsAt.cell (Fj_5) 4
  have cj5 := CellsAt.cell (Fj_5) 5
  have cj6 := CellsAt.cell (Fj_5) 6
  have cj7 := CellsAt.cell (Fj_5) 7
  have cj8 := CellsAt.cell (Fj_5) 8
  have cj9 := CellsAt.cell (Fj_5) 9
  have cj10 := CellsAt.cell (Fj_5) 10
  have cj11 := CellsAt.cell (Fj_5) 11
  simp only [List.getElem?_toArray, List.getElem?_cons_zero, List.getElem?_cons_succ] at cj0 cj1 cj2 cj3 cj4 cj5 cj6 cj7 cj8 cj9 cj10 cj11
  have md0 := CellsAt.frozen (Fd_5) 0
  have cd0 := CellsAt.cell (Fd_5) 0
  simp only [List.getElem?_toArray, List.getElem?_cons_zero, List.getElem?_cons_succ] at cd0
  have md1 := CellsAt.frozen (Fd_5) 1
  have cd1 := CellsAt.cell (Fd_5) 1
  simp only [List.getElem?_toArray, List.getElem?_cons_zero, List.getElem?_cons_succ] at cd1
  go_wp2_with fail
  clear cj0 cj1 cj2 cj3 cj4 cj5 cj6 cj7 cj8 cj9 cj10 cj11 md0 cd0 md1 cd1
  have Yj_p5 : CellsAt ((w5.setCell ⟨w4.heap.size, 0, none⟩ (.int .i64 dd.re)).setCell ⟨w4.heap.size, 1, none⟩ (.int .i64 dd.im)) (w.heap.size) 48 #[.int .i64 ju.re, .int .i64 ju.im, .int .i64 jv.re, .int .i64 jv.im, .int .i64 jy.re, .int .i64 jy.im, .int .i64 jz.re, .int .i64 jz.im, .int .i64 ja.re, .int .i64 ja.im, .int .i64 jc.re, .int .i64 jc.im] := by first | exact CellsAt.other (CellsAt.other (Fj_5) (by omega) 0 (.int .i64 dd.re)) (by omega) 1 (.int .i64 dd.im) | simpa using CellsAt.other (CellsAt.other (Fj_5) (by omega) 0 (.int .i64 dd.re)) (by omega) 1 (.int .i64 dd.im)
  have Yr_p5 : CellsAt ((w5.setCell ⟨w4.heap.size, 0, none⟩ (.int .i64 dd.re)).setCell ⟨w4.heap.size, 1, none⟩ (.int .i64 dd.im)) (w.heap.size + 1) 42 #[.int .i64 0, .int .i64 0] := by first | exact CellsAt.other (CellsAt.other (Fr_5) (by omega) 0 (.int .i64 dd.re)) (by omega) 1 (.int .i64 dd.im) | simpa using CellsAt.other (CellsAt.other (Fr_5) (by omega) 0 (.int .i64 dd.re)) (by omega) 1 (.int .i64 dd.im)
  have Yt_p5 : CellsAt ((w5.setCell ⟨w4.heap.size, 0, none⟩ (.int .i64 dd.re)).setCell ⟨w4.heap.size, 1, none⟩ (.int .i64 dd.im)) (w1.heap.size) 42 #[.int .i64 t.re, .int .i64 t.im] := by first | exact CellsAt.other (CellsAt.other (Ft_5) (by omega) 0 (.int .i64 dd.re)) (by omega) 1 (.int .i64 dd.im) | simpa using CellsAt.other (CellsAt.other (Ft_5) (by omega) 0 (.int .i64 dd.re)) (by omega) 1 (.int .i64 dd.im)
  have Yt3_p5 : CellsAt ((w5.setCell ⟨w4.heap.size, 0, none⟩ (.int .i64 dd.re)).setCell ⟨w4.heap.size, 1, none⟩ (.int .i64 dd.im)) (w2.heap.size) 42 #[.int .i64 t3.re, .int .i64 t3.im] := by first | exact CellsAt.other (CellsAt.other (Ft3_5) (by omega) 0 (.int .i64 dd.re)) (by omega) 1 (.int .i64 dd.im) | simpa using CellsAt.other (CellsAt.other (Ft3_5) (by omega) 0 (.int .i64 dd.re)) (by omega) 1 (.int .i64 dd.im)
  have Yp_p5 : CellsAt ((w5.setCell ⟨w4.heap.size, 0, none⟩ (.int .i64 dd.re)).setCell ⟨w4.heap.size, 1, none⟩ (.int .i64 dd.im)) (w3.heap.size) 42 #[.int .i64 p.re, .int .i64 p.im] := by first | exact CellsAt.other (CellsAt.other (Fp_5) (by omega) 0 (.int .i64 dd.re)) (by omega) 1 (.int .i64 dd.im) | simpa using CellsAt.other (CellsAt.other (Fp_5) (by omega) 0 (.int .i64 dd.re)) (by omega) 1 (.int .i64 dd.im)
  have Yd_p5 : CellsAt ((w5.setCell ⟨w4.heap.size, 0, none⟩ (.int .i64 dd.re)).setCell ⟨w4.heap.size, 1, none⟩ (.int .i64 dd.im)) (w4.heap.size) 42 #[.int .i64 dd.re, .int .i64 dd.im] := by first | exact CellsAt.set (CellsAt.set (Fd_5) 0 (.int .i64 dd.re)) 1 (.int .i64 dd.im) | simpa using CellsAt.set (CellsAt.set (Fd_5) 0 (.int .i64 dd.re)) 1 (.int .i64 dd.im)
  have yp5 := Gr.setCell (Gr.setCell (z5) (a := ⟨w4.heap.size, 0, none⟩) (by first | omega | (simp only; omega)) (.int .i64 dd.re)) (a := ⟨w4.heap.size, 1, none⟩) (by first | omega | (simp only; omega)) (.int .i64 dd.im)
  refine (HU.out _).mono ?_
  rintro e w6 ⟨rfl, g6⟩
  have Fj_6 := CellsAt.gr (Yj_p5) g6
  have lj_6 := CellsAt.lt (Fj_6)
  have Fr_6 := CellsAt.gr (Yr_p5) g6
  have lr_6 := CellsAt.lt (Fr_6)
  have Ft_6 := CellsAt.gr (Yt_p5) g6
  have lt_6 := CellsAt.lt (Ft_6)
  have Ft3_6 := CellsAt.gr (Yt3_p5) g6
  have lt3_6 := CellsAt.lt (Ft3_6)
  have Fp_6 := CellsAt.gr (Yp_p5) g6
  have lp_6 := CellsAt.lt (Fp_6)
  have Fd_6 := CellsAt.gr (Yd_p5) g6
  have ld_6 := CellsAt.lt (Fd_6)
  have z6 := (yp5).trans g6
  clear Yj_p5 Yr_p5 Yt_p5 Yt3_p5 Yp_p5 Yd_p5 yp5 g6
  have cd0 := CellsAt.cell (Fd_6) 0
  have cd1 := CellsAt.cell (Fd_6) 1
  have cp0 := CellsAt.cell (Fp_6) 0
  have cp1 := CellsAt.cell (Fp_6) 1
  simp only [List.getElem?_toArray, List.getElem?_cons_zero, List.getElem?_cons_succ] at cd0 cd1 cp0 cp1
  have mr0 := CellsAt.frozen (Fr_6) 0
  have cr0 := CellsAt.cell (Fr_6) 0
  simp only [List.getElem?_toArray, List.getElem?_cons_zero, List.getElem?_cons_succ] at cr0
  have mr1 := CellsAt.frozen (Fr_6) 1
  have cr1 := CellsAt.cell (Fr_6) 1
  simp only [List.getElem?_toArray, List.getElem?_cons_zero, List.getElem?_cons_succ] at cr1
  go_wp2_with fail
  clear cd0 cd1 cp0 cp1 mr0 cr0 mr1 cr1
  have Yj_p6 : CellsAt (w6.alloc (.cells #[.int .i64 U.re, .int .i64 U.im] 42)) (w.heap.size) 48 #[.int .i64 ju.re, .int .i64 ju.im, .int .i64 jv.re, .int .i64 jv.im, .int .i64 jy.re, .int .i64 jy.im, .int .i64 jz.re, .int .i64 jz.im, .int .i64 ja.re, .int .i64 ja.im, .int .i64 jc.re, .int .i64 jc.im] := by first | exact CellsAt.alloc (Fj_6) (.cells #[.int .i64 U.re, .int .i64 U.im] 42) | simpa using CellsAt.alloc (Fj_6) (.cells #[.int .i64 U.re, .int .i64 U.im] 42)
  have Yr_p6 : CellsAt (w6.alloc (.cells #[.int .i64 U.re, .int .i64 U.im] 42)) (w.heap.size + 1) 42 #[.int .i64 0, .int .i64 0] := by first | exact CellsAt.alloc (Fr_6) (.cells #[.int .i64 U.re, .int .i64 U.im] 42) | simpa using CellsAt.alloc (Fr_6) (.cells #[.int .i64 U.re, .int .i64 U.im] 42)
  have Yt_p6 : CellsAt (w6.alloc (.cells #[.int .i64 U.re, .int .i64 U.im] 42)) (w1.heap.size) 42 #[.int .i64 t.re, .int .i64 t.im] := by first | exact CellsAt.alloc (Ft_6) (.cells #[.int .i64 U.re, .int .i64 U.im] 42) | simpa using CellsAt.alloc (Ft_6) (.cells #[.int .i64 U.re, .int .i64 U.im] 42)
  have Yt3_p6 : CellsAt (w6.alloc (.cells #[.int .i64 U.re, .int .i64 U.im] 42)) (w2.heap.size) 42 #[.int .i64 t3.re, .int .i64 t3.im] := by first | exact CellsAt.alloc (Ft3_6) (.cells #[.int .i64 U.re, .int .i64 U.im] 42) | simpa using CellsAt.alloc (Ft3_6) (.cells #[.int .i64 U.re, .int .i64 U.im] 42)
  have Yp_p6 : CellsAt (w6.alloc (.cells #[.int .i64 U.re, .int .i64 U.im] 42)) (w3.heap.size) 42 #[.int .i64 p.re, .int .i64 p.im] := by first | exact CellsAt.alloc (Fp_6) (.cells #[.int .i64 U.re, .int .i64 U.im] 42) | simpa using CellsAt.alloc (Fp_6) (.cells #[.int .i64 U.re, .int .i64 U.im] 42)
  have Yd_p6 : CellsAt (w6.alloc (.cells #[.int .i64 U.re, .int .i64 U.im] 42)) (w4.heap.size) 42 #[.int .i64 dd.re, .int .i64 dd.im] := by first | exact CellsAt.alloc (Fd_6) (.cells #[.int .i64 U.re, .int .i64 U.im] 42) | simpa using CellsAt.alloc (Fd_6) (.cells #[.int .i64 U.re, .int .i64 U.im] 42)
  have Ys_p6 : CellsAt (w6.alloc (.cells #[.int .i64 U.re, .int .i64 U.im] 42)) (w6.heap.size) 42 #[.int .i64 U.re, .int .i64 U.im] := by first | exact CellsAt.new w6 42 #[.int .i64 U.re, .int .i64 U.im] | simpa using CellsAt.new w6 42 #[.int .i64 U.re, .int .i64 U.im]
  have yp6 := Gr.alloc (z6) #[.int .i64 U.re, .int .i64 U.im] 42
  refine (HS.out _).mono ?_
  rintro e w7 ⟨rfl, g7⟩
  have Fj_7 := CellsAt.gr (Yj_p6) g7
  have lj_7 := CellsAt.lt (Fj_7)
  have Fr_7 := CellsAt.gr (Yr_p6) g7
  have lr_7 := CellsAt.lt (Fr_7)
  have Ft_7 := CellsAt.gr (Yt_p6) g7
  have lt_7 := CellsAt.lt (Ft_7)
  have Ft3_7 := CellsAt.gr (Yt3_p6) g7
  have lt3_7 := CellsAt.lt (Ft3_7)
  have Fp_7 := CellsAt.gr (Yp_p6) g7
  have lp_7 := CellsAt.lt (Fp_7)
  have Fd_7 := CellsAt.gr (Yd_p6) g7
  have ld_7 := CellsAt.lt (Fd_7)
  have Fs_7 := CellsAt.gr (Ys_p6) g7
  have ls_7 := CellsAt.lt (Fs_7)
  have z7 := (yp6).trans g7
  clear Yj_p6 Yr_p6 Yt_p6 Yt3_p6 Yp_p6 Yd_p6 Ys_p6 yp6 g7
  have mr0 := CellsAt.frozen (Fr_7) 0
  have cr0 := CellsAt.cell (Fr_7) 0
  simp only [List.getElem?_toArray, List.getElem?_cons_zero, List.getElem?_cons_succ] at cr0
  have mr1 := CellsAt.frozen (Fr_7) 1
  have cr1 := CellsAt.cell (Fr_7) 1
  simp only [List.getElem?_toArray, List.getElem?_cons_zero, List.getElem?_cons_succ] at cr1
  go_wp2_with fail
  clear mr0 cr0 mr1 cr1
  refine (HF.out _).mono ?_
  rintro e w8 ⟨rfl, g8⟩
  have Fj_8 := CellsAt.gr (Fj_7) g8
  have lj_8 := CellsAt.lt (Fj_8)
  have Fr_8 := CellsAt.gr (Fr_7) g8
  have lr_8 := CellsAt.lt (Fr_8)
  have Ft_8 := CellsAt.gr (Ft_7) g8
  have lt_8 := CellsAt.lt (Ft_8)
  have Ft3_8 := CellsAt.gr (Ft3_7) g8
  have lt3_8 := CellsAt.lt (Ft3_8)
  have Fp_8 := CellsAt.gr (Fp_7) g8
  have lp_8 := CellsAt.lt (Fp_8)
  have Fd_8 := CellsAt.gr (Fd_7) g8
  have ld_8 := CellsAt.lt (Fd_8)
  have Fs_8 := CellsAt.gr (Fs_7) g8
  have ls_8 := CellsAt.lt (Fs_8)
  have z8 := (z7).trans g8
  clear Fj_7 Fr_7 Ft_7 Ft3_7 Fp_7 Fd_7 Fs_7 z7 g8
  have mr0 := CellsAt.frozen (Fr_8) 0
  have cr0 := CellsAt.cell (Fr_8) 0
  simp only [List.getElem?_toArray, List.getElem?_cons_zero, List.getElem?_cons_succ] at cr0
  have mr1 := CellsAt.frozen (Fr_8) 1
  have cr1 := CellsAt.cell (Fr_8) 1
  simp only [List.getElem?_toArray, List.getElem?_cons_zero, List.getElem?_cons_succ] at cr1
  go_wp2_with fail
  clear mr0 cr0 mr1 cr1
  have Yj_p7 : CellsAt ((w8.setCell ⟨w.heap.size + 1, 0, none⟩ (.int .i64 o.re)).setCell ⟨w.heap.size + 1, 1, none⟩ (.int .i64 o.im)) (w.heap.size) 48 #[.int .i64 ju.re, .int .i64 ju.im, .int .i64 jv.re, .int .i64 jv.im, .int .i64 jy.re, .int .i64 jy.im, .int .i64 jz.re, .int .i64 jz.im, .int .i64 ja.re, .int .i64 ja.im, .int .i64 jc.re, .int .i64 jc.im] := by first | exact CellsAt.other (CellsAt.other (Fj_8) (by omega) 0 (.int .i64 o.re)) (by omega) 1 (.int .i64 o.im) | simpa using CellsAt.other (CellsAt.other (Fj_8) (by omega) 0 (.int .i64 o.re)) (by omega) 1 (.int .i64 o.im)
  have Yr_p7 : CellsAt ((w8.setCell ⟨w.heap.size + 1, 0, none⟩ (.int .i64 o.re)).setCell ⟨w.heap.size + 1, 1, none⟩ (.int .i64 o.im)) (w.heap.size + 1) 42 #[.int .i64 o.re, .int .i64 o.im] := by first | exact CellsAt.set (CellsAt.set (Fr_8) 0 (.int .i64 o.re)) 1 (.int .i64 o.im) | simpa using CellsAt.set (CellsAt.set (Fr_8) 0 (.int .i64 o.re)) 1 (.int .i64 o.im)
  have Yt_p7 : CellsAt ((w8.setCell ⟨w.heap.size + 1, 0, none⟩ (.int .i64 o.re)).setCell ⟨w.heap.size + 1, 1, none⟩ (.int .i64 o.im)) (w1.heap.size) 42 #[.int .i64 t.re, .int .i64 t.im] := by first | exact CellsAt.other (CellsAt.other (Ft_8) (by omega) 0 (.int .i64 o.re)) (by omega) 1 (.int .i64 o.im) | simpa using CellsAt.other (CellsAt.other (Ft_8) (by omega) 0 (.int .i64 o.re)) (by omega) 1 (.int .i64 o.im)
  have Yt3_p7 : CellsAt ((w8.setCell ⟨w.heap.size + 1, 0, none⟩ (.int .i64 o.re)).setCell ⟨w.heap.size + 1, 1, none⟩ (.int .i64 o.im)) (w2.heap.size) 42 #[.int .i64 t3.re, .int .i64 t3.im] := by first | exact CellsAt.other (CellsAt.other (Ft3_8) (by omega) 0 (.int .i64 o.re)) (by omega) 1 (.int .i64 o.im) | simpa using CellsAt.other (CellsAt.other (Ft3_8) (by omega) 0 (.int .i64 o.re)) (by omega) 1 (.int .i64 o.im)
  have Yp_p7 : CellsAt ((w8.setCell ⟨w.heap.size + 1, 0, none⟩ (.int .i64 o.re)).setCell ⟨w.heap.size + 1, 1, none⟩ (.int .i64 o.im)) (w3.heap.size) 42 #[.int .i64 p.re, .int .i64 p.im] := by first | exact CellsAt.other (CellsAt.other (Fp_8) (by omega) 0 (.int .i64 o.re)) (by omega) 1 (.int .i64 o.im) | simpa using CellsAt.other (CellsAt.other (Fp_8) (by omega) 0 (.int .i64 o.re)) (by omega) 1 (.int .i64 o.im)
  have Yd_p7 : CellsAt ((w8.setCell ⟨w.heap.size + 1, 0, none⟩ (.int .i64 o.re)).setCell ⟨w.heap.size + 1, 1, none⟩ (.int .i64 o.im)) (w4.heap.size) 42 #[.int .i64 dd.re, .int .i64 dd.im] := by first | exact CellsAt.other (CellsAt.other (Fd_8) (by omega) 0 (.int .i64 o.re)) (by omega) 1 (.int .i64 o.im) | simpa using CellsAt.other (CellsAt.other (Fd_8) (by omega) 0 (.int .i64 o.re)) (by omega) 1 (.int .i64 o.im)
  have Ys_p7 : CellsAt ((w8.setCell ⟨w.heap.size + 1, 0, none⟩ (.int .i64 o.re)).setCell ⟨w.heap.size + 1, 1, none⟩ (.int .i64 o.im)) (w6.heap.size) 42 #[.int .i64 U.re, .int .i64 U.im] := by first | exact CellsAt.other (CellsAt.other (Fs_8) (by omega) 0 (.int .i64 o.re)) (by omega) 1 (.int .i64 o.im) | simpa using CellsAt.other (CellsAt.other (Fs_8) (by omega) 0 (.int .i64 o.re)) (by omega) 1 (.int .i64 o.im)
  have yp7 := Gr.setCell (Gr.setCell (z8) (a := ⟨w.heap.size + 1, 0, none⟩) (by first | omega | (simp only; omega)) (.int .i64 o.re)) (a := ⟨w.heap.size + 1, 1, none⟩) (by first | omega | (simp only; omega)) (.int .i64 o.im)
  generalize ((w8.setCell ⟨w.heap.size + 1, 0, none⟩ (.int .i64 o.re)).setCell ⟨w.heap.size + 1, 1, none⟩ (.int .i64 o.im)) = uf at *
  have cr0 := CellsAt.cell (Yr_p7) 0
  have cr1 := CellsAt.cell (Yr_p7) 1
  simp only [List.getElem?_toArray, List.getElem?_cons_zero, List.getElem?_cons_succ] at cr0 cr1
  refine bodyPost_ret (v := .agg #[.int .i64 o.re, .int .i64 o.im]) ?_ rfl ⟨rfl, yp7⟩
  simp [results, Tryz.results27, go_sem, *]

set_option maxHeartbeats 4000000 in
theorem rJoin_false_3_of (bits mo b1 b2 : Int) (ju jv jy jz ja jc t t3 p d dd U V s o : Gi) (h1 : wrap64 (bits + 1) = b1) (h2 : wrap64 (bits + 2) = b2)
    (HT : Hid (∀ W, Calls Tryz.prog 39 #[.agg #[.int .i64 (jy).re, .int .i64 (jy).im], .agg #[.int .i64 (ja).re, .int .i64 (ja).im]] W fun e w' => e = .returned (.agg #[.int .i64 (t).re, .int .i64 (t).im]) ∧ Gr W w')) (HT3 : Hid (∀ W, Calls Tryz.prog 39 #[.agg #[.int .i64 (jz).re, .int .i64 (jz).im], .agg #[.int .i64 (jc).re, .int .i64 (jc).im]] W fun e w' => e = .returned (.agg #[.int .i64 (t3).re, .int .i64 (t3).im]) ∧ Gr W w')) (HP : Hid (∀ W, Calls Tryz.prog 23 #[.agg #[.int .i64 (t).re, .int .i64 (t).im], .agg #[.int .i64 (t3).re, .int .i64 (t3).im]] W fun e w' => e = .returned (.agg #[.int .i64 (p).re, .int .i64 (p).im]) ∧ Gr W w')) (HL : Hid (∀ W, Calls Tryz.prog 24 #[.agg #[.int .i64 (t).re, .int .i64 (t).im], .agg #[.int .i64 (t3).re, .int .i64 (t3).im]] W fun e w' => e = .returned (.agg #[.int .i64 (d).re, .int .i64 (d).im]) ∧ Gr W w'))
    (HN : Hid (∀ W, Calls Tryz.prog 40 #[.agg #[.int .i64 (d).re, .int .i64 (d).im], .int .i64 (-1)] W fun e w' => e = .returned (.agg #[.int .i64 (dd).re, .int .i64 (dd).im]) ∧ Gr W w')) (HU : Hid (∀ W, Calls Tryz.prog 41 #[.agg #[.int .i64 (ju).re, .int .i64 (ju).im], .int .i64 b1] W fun e w' => e = .returned (.agg #[.int .i64 (U).re, .int .i64 (U).im]) ∧ Gr W w')) (HV : Hid (∀ W, Calls Tryz.prog 41 #[.agg #[.int .i64 (jv).re, .int .i64 (jv).im], .int .i64 b1] W fun e w' => e = .returned (.agg #[.int .i64 (V).re, .int .i64 (V).im]) ∧ Gr W w'))
    (HS : Hid (∀ W, Calls Tryz.prog 24 #[.agg #[.int .i64 (V).re, .int .i64 (V).im], .agg #[.int .i64 (dd).re, .int .i64 (dd).im]] W fun e w' => e = .returned (.agg #[.int .i64 (s).re, .int .i64 (s).im]) ∧ Gr W w')) (HF : Hid (∀ W, Calls Tryz.prog 22 #[.agg #[.int .i64 (s).re, .int .i64 (s).im], .int .i64 b2, .int .i64 mo] W fun e w' => e = .returned (.agg #[.int .i64 (o).re, .int .i64 (o).im]) ∧ Gr W w')) (w : World) :
    Calls Tryz.prog 27 #[.agg #[.int .i64 ju.re, .int .i64 ju.im, .int .i64 jv.re, .int .i64 jv.im, .int .i64 jy.re, .int .i64 jy.im, .int .i64 jz.re, .int .i64 jz.im, .int .i64 ja.re, .int .i64 ja.im, .int .i64 jc.re, .int .i64 jc.im], .int .i64 3, .int .i64 bits, .int .i64 mo, .bool false] w fun e w' => e = .returned (.agg #[.int .i64 (o).re, .int .i64 (o).im]) ∧ Gr w w' := by
  go_enter Tryz.func27, Tryz.ntmps27
  go_wp2_with fail
  obtain ⟨u0, hU⟩ : ∃ uu, uu = ((w.alloc (.cells #[.int .i64 ju.re, .int .i64 ju.im, .int .i64 jv.re, .int .i64 jv.im, .int .i64 jy.re, .int .i64 jy.im, .int .i64 jz.re, .int .i64 jz.im, .int .i64 ja.re, .int .i64 ja.im, .int .i64 jc.re, .int .i64 jc.im] 48)).alloc (.cells #[.int .i64 0, .int .i64 0] 42)) := ⟨_, rfl⟩
  have gu : Gr w u0 := by rw [hU]; exact ((Gr.refl w).alloc _ _).alloc _ _
  have R0 : CellsAt u0 (w.heap.size) 48 #[.int .i64 ju.re, .int .i64 ju.im, .int .i64 jv.re, .int .i64 jv.im, .int .i64 jy.re, .int .i64 jy.im, .int .i64 jz.re, .int .i64 jz.im, .int .i64 ja.re, .int .i64 ja.im, .int .i64 jc.re, .int .i64 jc.im] := by
    rw [hU]
    have := ((CellsAt.new w 48 #[.int .i64 ju.re, .int .i64 ju.im, .int .i64 jv.re, .int .i64 jv.im, .int .i64 jy.re, .int .i64 jy.im, .int .i64 jz.re, .int .i64 jz.im, .int .i64 ja.re, .int .i64 ja.im, .int .i64 jc.re, .int .i64 jc.im]).alloc (.cells #[.int .i64 0, .int .i64 0] 42))
    simpa only [World.size_alloc] using this
  have R1 : CellsAt u0 (w.heap.size + 1) 42 #[.int .i64 0, .int .i64 0] := by
    rw [hU]
    have := (CellsAt.new (w.alloc (.cells #[.int .i64 ju.re, .int .i64 ju.im, .int .i64 jv.re, .int .i64 jv.im, .int .i64 jy.re, .int .i64 jy.im, .int .i64 jz.re, .int .i64 jz.im, .int .i64 ja.re, .int .i64 ja.im, .int .i64 jc.re, .int .i64 jc.im] 48)) 42 #[.int .i64 0, .int .i64 0])
    simpa only [World.size_alloc] using this
  rw [← hU]
  clear hU
  have lj := R0.lt
  have lr := R1.lt
  refine (HT.out _).mono ?_
  rintro e w1 ⟨rfl, g1⟩
  have Fj_1 := CellsAt.gr (R0) g1
  have lj_1 := CellsAt.lt (Fj_1)
  have Fr_1 := CellsAt.gr (R1) g1
  have lr_1 := CellsAt.lt (Fr_1)
  have z1 := (gu).trans g1
  clear R0 R1 gu g1
  have cj0 := CellsAt.cell (Fj_1) 0
  have cj1 := CellsAt.cell (Fj_1) 1
  have cj2 := CellsAt.cell (Fj_1) 2
  have cj3 := CellsAt.cell (Fj_1) 3
  have cj4 := CellsAt.cell (Fj_1) 4
  have cj5 := CellsAt.cell (Fj_1) 5
  have cj6 := CellsAt.cell (Fj_1) 6
  have cj7 := CellsAt.cell (Fj_1) 7
  have cj8 := CellsAt.cell (Fj_1) 8
  have cj9 := CellsAt.cell (Fj_1) 9
  have cj10 := CellsAt.cell (Fj_1) 10
  have cj11 := CellsAt.cell (Fj_1) 11
  simp only [List.getElem?_toArray, List.getElem?_cons_zero, List.getElem?_cons_succ] at cj0 cj1 cj2 cj3 cj4 cj5 cj6 cj7 cj8 cj9 cj10 cj11
  go_wp2_with fail
  clear cj0 cj1 cj2 cj3 cj4 cj5 cj6 cj7 cj8 cj9 cj10 cj11
  have Yj_p1 : CellsAt (w1.alloc (.cells #[.int .i64 t.re, .int .i64 t.im] 42)) (w.heap.size) 48 #[.int .i64 ju.re, .int .i64 ju.im, .int .i64 jv.re, .int .i64 jv.im, .int .i64 jy.re, .int .i64 jy.im, .int .i64 jz.re, .int .i64 jz.im, .int .i64 ja.re, .int .i64 ja.im, .int .i64 jc.re, .int .i64 jc.im] := by first | exact CellsAt.alloc (Fj_1) (.cells #[.int .i64 t.re, .int .i64 t.im] 42) | simpa using CellsAt.alloc (Fj_1) (.cells #[.int .i64 t.re, .int .i64 t.im] 42)
  have Yr_p1 : CellsAt (w1.alloc (.cells #[.int .i64 t.re, .int .i64 t.im] 42)) (w.heap.size + 1) 42 #[.int .i64 0, .int .i64 0] := by first | exact CellsAt.alloc (Fr_1) (.cells #[.int .i64 t.re, .int .i64 t.im] 42) | simpa using CellsAt.alloc (Fr_1) (.cells #[.int .i64 t.re, .int .i64 t.im] 42)
  have Yt_p1 : CellsAt (w1.alloc (.cells #[.int .i64 t.re, .int .i64 t.im] 42)) (w1.heap.size) 42 #[.int .i64 t.re, .int .i64 t.im] := by first | exact CellsAt.new w1 42 #[.int .i64 t.re, .int .i64 t.im] | simpa using CellsAt.new w1 42 #[.int .i64 t.re, .int .i64 t.im]
  have yp1 := Gr.alloc (z1) #[.int .i64 t.re, .int .i64 t.im] 42
  refine (HT3.out _).mono ?_
  rintro e w2 ⟨rfl, g2⟩
  have Fj_2 := CellsAt.gr (Yj_p1) g2
  have lj_2 := CellsAt.lt (Fj_2)
  have Fr_2 := CellsAt.gr (Yr_p1) g2
  have lr_2 := CellsAt.lt (Fr_2)
  have Ft_2 := CellsAt.gr (Yt_p1) g2
  have lt_2 := CellsAt.lt (Ft_2)
  have z2 := (yp1).trans g2
  clear Yj_p1 Yr_p1 Yt_p1 yp1 g2
  have ct0 := CellsAt.cell (Ft_2) 0
  have ct1 := CellsAt.cell (Ft_2) 1
  simp only [List.getElem?_toArray, List.getElem?_cons_zero, List.getElem?_cons_succ] at ct0 ct1
  go_wp2_with fail
  clear ct0 ct1
  have Yj_p2 : CellsAt (w2.alloc (.cells #[.int .i64 t3.re, .int .i64 t3.im] 42)) (w.heap.size) 48 #[.int .i64 ju.re, .int .i64 ju.im, .int .i64 jv.re, .int .i64 jv.im, .int .i64 jy.re, .int .i64 jy.im, .int .i64 jz.re, .int .i64 jz.im, .int .i64 ja.re, .int .i64 ja.im, .int .i64 jc.re, .int .i64 jc.im] := by first | exact CellsAt.alloc (Fj_2) (.cells #[.int .i64 t3.re, .int .i64 t3.im] 42) | simpa using CellsAt.alloc (Fj_2) (.cells #[.int .i64 t3.re, .int .i64 t3.im] 42)
  have Yr_p2 : CellsAt (w2.alloc (.cells #[.int .i64 t3.re, .int .i64 t3.im] 42)) (w.heap.size + 1) 42 #[.int .i64 0, .int .i64 0] := by first | exact CellsAt.alloc (Fr_2) (.cells #[.int .i64 t3.re, .int .i64 t3.im] 42) | simpa using CellsAt.alloc (Fr_2) (.cells #[.int .i64 t3.re, .int .i64 t3.im] 42)
  have Yt_p2 : CellsAt (w2.alloc (.cells #[.int .i64 t3.re, .int .i64 t3.im] 42)) (w1.heap.size) 42 #[.int .i64 t.re, .int .i64 t.im] := by first | exact CellsAt.alloc (Ft_2) (.cells #[.int .i64 t3.re, .int .i64 t3.im] 42) | simpa using CellsAt.alloc (Ft_2) (.cells #[.int .i64 t3.re, .int .i64 t3.im] 42)
  have Yt3_p2 : CellsAt (w2.alloc (.cells #[.int .i64 t3.re, .int .i64 t3.im] 42)) (w2.heap.size) 42 #[.int .i64 t3.re, .int .i64 t3.im] := by first | exact CellsAt.new w2 42 #[.int .i64 t3.re, .int .i64 t3.im] | simpa using CellsAt.new w2 42 #[.int .i64 t3.re, .int .i64 t3.im]
  have yp2 := Gr.alloc (z2) #[.int .i64 t3.re, .int .i64 t3.im] 42
  refine (HP.out _).mono ?_
  rintro e w3 ⟨rfl, g3⟩
  have Fj_3 := CellsAt.gr (Yj_p2) g3
  have lj_3 := CellsAt.lt (Fj_3)
  have Fr_3 := CellsAt.gr (Yr_p2) g3
  have lr_3 := CellsAt.lt (Fr_3)
  have Ft_3 := CellsAt.gr (Yt_p2) g3
  have lt_3 := CellsAt.lt (Ft_3)
  have Ft3_3 := CellsAt.gr (Yt3_p2) g3
  have lt3_3 := CellsAt.lt (Ft3_3)
  have z3 := (yp2).trans g3
  clear Yj_p2 Yr_p2 Yt_p2 Yt3_p2 yp2 g3
  have ct0 := CellsAt.cell (Ft_3) 0
  have ct1 := CellsAt.cell (Ft_3) 1
  have ct30 := CellsAt.cell (Ft3_3) 0
  have ct31 := CellsAt.cell (Ft3_3) 1
  simp only [List.getElem?_toArray, List.getElem?_cons_zero, List.getElem?_cons_succ] at ct0 ct1 ct30 ct31
  go_wp2_with fail
  clear ct0 ct1 ct30 ct31
  have Yj_p3 : CellsAt (w3.alloc (.cells #[.int .i64 p.re, .int .i64 p.im] 42)) (w.heap.size) 48 #[.int .i64 ju.re, .int .i64 ju.im, .int .i64 jv.re, .int .i64 jv.im, .int .i64 jy.re, .int .i64 jy.im, .int .i64 jz.re, .int .i64 jz.im, .int .i64 ja.re, .int .i64 ja.im, .int .i64 jc.re, .int .i64 jc.im] := by first | exact CellsAt.alloc (Fj_3) (.cells #[.int .i64 p.re, .int .i64 p.im] 42) | simpa using CellsAt.alloc (Fj_3) (.cells #[.int .i64 p.re, .int .i64 p.im] 42)
  have Yr_p3 : CellsAt (w3.alloc (.cells #[.int .i64 p.re, .int .i64 p.im] 42)) (w.heap.size + 1) 42 #[.int .i64 0, .int .i64 0] := by first | exact CellsAt.alloc (Fr_3) (.cells #[.int .i64 p.re, .int .i64 p.im] 42) | simpa using CellsAt.alloc (Fr_3) (.cells #[.int .i64 p.re, .int .i64 p.im] 42)
  have Yt_p3 : CellsAt (w3.alloc (.cells #[.int .i64 p.re, .int .i64 p.im] 42)) (w1.heap.size) 42 #[.int .i64 t.re, .int .i64 t.im] := by first | exact CellsAt.alloc (Ft_3) (.cells #[.int .i64 p.re, .int .i64 p.im] 42) | simpa using CellsAt.alloc (Ft_3) (.cells #[.int .i64 p.re, .int .i64 p.im] 42)
  have Yt3_p3 : CellsAt (w3.alloc (.cells #[.int .i64 p.re, .int .i64 p.im] 42)) (w2.heap.size) 42 #[.int .i64 t3.re, .int .i64 t3.im] := by first | exact CellsAt.alloc (Ft3_3) (.cells #[.int .i64 p.re, .int .i64 p.im] 42) | simpa using CellsAt.alloc (Ft3_3) (.cells #[.int .i64 p.re, .int .i64 p.im] 42)
  have Yp_p3 : CellsAt (w3.alloc (.cells #[.int .i64 p.re, .int .i64 p.im] 42)) (w3.heap.size) 42 #[.int .i64 p.re, .int .i64 p.im] := by first | exact CellsAt.new w3 42 #[.int .i64 p.re, .int .i64 p.im] | simpa using CellsAt.new w3 42 #[.int .i64 p.re, .int .i64 p.im]
  have yp3 := Gr.alloc (z3) #[.int .i64 p.re, .int .i64 p.im] 42
  refine (HL.out _).mono ?_
  rintro e w4 ⟨rfl, g4⟩
  have Fj_4 := CellsAt.gr (Yj_p3) g4
  have lj_4 := CellsAt.lt (Fj_4)
  have Fr_4 := CellsAt.gr (Yr_p3) g4
  have lr_4 := CellsAt.lt (Fr_4)
  have Ft_4 := CellsAt.gr (Yt_p3) g4
  have lt_4 := CellsAt.lt (Ft_4)
  have Ft3_4 := CellsAt.gr (Yt3_p3) g4
  have lt3_4 := CellsAt.lt (Ft3_4)
  have Fp_4 := CellsAt.gr (Yp_p3) g4
  have lp_4 := CellsAt.lt (Fp_4)
  have z4 := (yp3).trans g4
  clear Yj_p3 Yr_p3 Yt_p3 Yt3_p3 Yp_p3 yp3 g4
  go_wp2_with fail
  have Yj_p4 : CellsAt (w4.alloc (.cells #[.int .i64 d.re, .int .i64 d.im] 42)) (w.heap.size) 48 #[.int .i64 ju.re, .int .i64 ju.im, .int .i64 jv.re, .int .i64 jv.im, .int .i64 jy.re, .int .i64 jy.im, .int .i64 jz.re, .int .i64 jz.im, .int .i64 ja.re, .int .i64 ja.im, .int .i64 jc.re, .int .i64 jc.im] := by first | exact CellsAt.alloc (Fj_4) (.cells #[.int .i64 d.re, .int .i64 d.im] 42) | simpa using CellsAt.alloc (Fj_4) (.cells #[.int .i64 d.re, .int .i64 d.im] 42)
  have Yr_p4 : CellsAt (w4.alloc (.cells #[.int .i64 d.re, .int .i64 d.im] 42)) (w.heap.size + 1) 42 #[.int .i64 0, .int .i64 0] := by first | exact CellsAt.alloc (Fr_4) (.cells #[.int .i64 d.re, .int .i64 d.im] 42) | simpa using CellsAt.alloc (Fr_4) (.cells #[.int .i64 d.re, .int .i64 d.im] 42)
  have Yt_p4 : CellsAt (w4.alloc (.cells #[.int .i64 d.re, .int .i64 d.im] 42)) (w1.heap.size) 42 #[.int .i64 t.re, .int .i64 t.im] := by first | exact CellsAt.alloc (Ft_4) (.cells #[.int .i64 d.re, .int .i64 d.im] 42) | simpa using CellsAt.alloc (Ft_4) (.cells #[.int .i64 d.re, .int .i64 d.im] 42)
  have Yt3_p4 : CellsAt (w4.alloc (.cells #[.int .i64 d.re, .int .i64 d.im] 42)) (w2.heap.size) 42 #[.int .i64 t3.re, .int .i64 t3.im] := by first | exact CellsAt.alloc (Ft3_4) (.cells #[.int .i64 d.re, .int .i64 d.im] 42) | simpa using CellsAt.alloc (Ft3_4) (.cells #[.int .i64 d.re, .int .i64 d.im] 42)
  have Yp_p4 : CellsAt (w4.alloc (.cells #[.int .i64 d.re, .int .i64 d.im] 42)) (w3.heap.size) 42 #[.int .i64 p.re, .int .i64 p.im] := by first | exact CellsAt.alloc (Fp_4) (.cells #[.int .i64 d.re, .int .i64 d.im] 42) | simpa using CellsAt.alloc (Fp_4) (.cells #[.int .i64 d.re, .int .i64 d.im] 42)
  have Yd_p4 : CellsAt (w4.alloc (.cells #[.int .i64 d.re, .int .i64 d.im] 42)) (w4.heap.size) 42 #[.int .i64 d.re, .int .i64 d.im] := by first | exact CellsAt.new w4 42 #[.int .i64 d.re, .int .i64 d.im] | simpa using CellsAt.new w4 42 #[.int .i64 d.re, .int .i64 d.im]
  have yp4 := Gr.alloc (z4) #[.int .i64 d.re, .int .i64 d.im] 42
  refine (HN.out _).mono ?_
  rintro e w5 ⟨rfl, g5⟩
  have Fj_5 := CellsAt.gr (Yj_p4) g5
  have lj_5 := CellsAt.lt (Fj_5)
  have Fr_5 := CellsAt.gr (Yr_p4) g5
  have lr_5 := CellsAt.lt (Fr_5)
  have Ft_5 := CellsAt.gr (Yt_p4) g5
  have lt_5 := CellsAt.lt (Ft_5)
  have Ft3_5 := CellsAt.gr (Yt3_p4) g5
  have lt3_5 := CellsAt.lt (Ft3_5)
  have Fp_5 := CellsAt.gr (Yp_p4) g5
  have lp_5 := CellsAt.lt (Fp_5)
  have Fd_5 := CellsAt.gr (Yd_p4) g5
  have ld_5 := CellsAt.lt (Fd_5)
  have z5 := (yp4).trans g5
  clear Yj_p4 Yr_p4 Yt_p4 Yt3_p4 Yp_p4 Yd_p4 yp4 g5
  have cj0 := CellsAt.cell (Fj_5) 0
  have cj1 := CellsAt.cell (Fj_5) 1
  have cj2 := CellsAt.cell (Fj_5) 2
  have cj3 := CellsAt.cell (Fj_5) 3
  have cj4 := CellsAt.cell (Fj_5) 4
  have cj5 := CellsAt.cell (Fj_5) 5
  have cj6 := CellsAt.cell (Fj_5) 6
  have cj7 := CellsAt.cell (Fj_5) 7
  have cj8 := CellsAt.cell (Fj_5) 8
  have cj9 := CellsAt.cell (Fj_5) 9
  have cj10 := CellsAt.cell (Fj_5) 10
  have cj11 := CellsAt.cell (Fj_5) 11
  simp only [List.getElem?_toArray, List.getElem?_cons_zero, List.getElem?_cons_succ] at cj0 cj1 cj2 cj3 cj4 cj5 cj6 cj7 cj8 cj9 cj10 cj11
  have md0 := CellsAt.frozen (Fd_5) 0
  have cd0 := CellsAt.cell (Fd_5) 0
  simp only [List.getElem?_toArray, List.getElem?_cons_zero, List.getElem?_cons_succ] at cd0
  have md1 := CellsAt.frozen (Fd_5) 1
  have cd1 := CellsAt.cell (Fd_5) 1
  simp only [List.getElem?_toArray, List.getElem?_cons_zero, List.getElem?_cons_succ] at cd1
  go_wp2_with fail
  clear cj0 cj1 cj2 cj3 cj4 cj5 cj6 cj7 cj8 cj9 cj10 cj11 md0 cd0 md1 cd1
  have Yj_p5 : CellsAt ((w5.setCell ⟨w4.heap.size, 0, none⟩ (.int .i64 dd.re)).setCell ⟨w4.heap.size, 1, none⟩ (.int .i64 dd.im)) (w.heap.size) 48 #[.int .i64 ju.re, .int .i64 ju.im, .int .i64 jv.re, .int .i64 jv.im, .int .i64 jy.re, .int .i64 jy.im, .int .i64 jz.re, .int .i64 jz.im, .int .i64 ja.re, .int .i64 ja.im, .int .i64 jc.re, .int .i64 jc.im] := by first | exact CellsAt.other (CellsAt.other (Fj_5) (by omega) 0 (.int .i64 dd.re)) (by omega) 1 (.int .i64 dd.im) | simpa using CellsAt.other (CellsAt.other (Fj_5) (by omega) 0 (.int .i64 dd.re)) (by omega) 1 (.int .i64 dd.im)
  have Yr_p5 : CellsAt ((w5.setCell ⟨w4.heap.size, 0, none⟩ (.int .i64 dd.re)).setCell ⟨w4.heap.size, 1, none⟩ (.int .i64 dd.im)) (w.heap.size + 1) 42 #[.int .i64 0, .int .i64 0] := by first | exact CellsAt.other (CellsAt.other (Fr_5) (by omega) 0 (.int .i64 dd.re)) (by omega) 1 (.int .i64 dd.im) | simpa using CellsAt.other (CellsAt.other (Fr_5) (by omega) 0 (.int .i64 dd.re)) (by omega) 1 (.int .i64 dd.im)
  have Yt_p5 : CellsAt ((w5.setCell ⟨w4.heap.size, 0, none⟩ (.int .i64 dd.re)).setCell ⟨w4.heap.size, 1, none⟩ (.int .i64 dd.im)) (w1.heap.size) 42 #[.int .i64 t.re, .int .i64 t.im] := by first | exact CellsAt.other (CellsAt.other (Ft_5) (by omega) 0 (.int .i64 dd.re)) (by omega) 1 (.int .i64 dd.im) | simpa using CellsAt.other (CellsAt.other (Ft_5) (by omega) 0 (.int .i64 dd.re)) (by omega) 1 (.int .i64 dd.im)
  have Yt3_p5 : CellsAt ((w5.setCell ⟨w4.heap.size, 0, none⟩ (.int .i64 dd.re)).setCell ⟨w4.heap.size, 1, none⟩ (.int .i64 dd.im)) (w2.heap.size) 42 #[.int .i64 t3.re, .int .i64 t3.im] := by first | exact CellsAt.other (CellsAt.other (Ft3_5) (by omega) 0 (.int .i64 dd.re)) (by omega) 1 (.int .i64 dd.im) | simpa using CellsAt.other (CellsAt.other (Ft3_5) (by omega) 0 (.int .i64 dd.re)) (by omega) 1 (.int .i64 dd.im)
  have Yp_p5 : CellsAt ((w5.setCell ⟨w4.heap.size, 0, none⟩ (.int .i64 dd.re)).setCell ⟨w4.heap.size, 1, none⟩ (.int .i64 dd.im)) (w3.heap.size) 42 #[.int .i64 p.re, .int .i64 p.im] := by first | exact CellsAt.other (CellsAt.other (Fp_5) (by omega) 0 (.int .i64 dd.re)) (by omega) 1 (.int .i64 dd.im) | simpa using CellsAt.other (CellsAt.other (Fp_5) (by omega) 0 (.int .i64 dd.re)) (by omega) 1 (.int .i64 dd.im)
  have Yd_p5 : CellsAt ((w5.setCell ⟨w4.heap.size, 0, none⟩ (.int .i64 dd.re)).setCell ⟨w4.heap.size, 1, none⟩ (.int .i64 dd.im)) (w4.heap.size) 42 #[.int .i64 dd.re, .int .i64 dd.im] := by first | exact CellsAt.set (CellsAt.set (Fd_5) 0 (.int .i64 dd.re)) 1 (.int .i64 dd.im) | simpa using CellsAt.set (CellsAt.set (Fd_5) 0 (.int .i64 dd.re)) 1 (.int .i64 dd.im)
  have yp5 := Gr.setCell (Gr.setCell (z5) (a := ⟨w4.heap.size, 0, none⟩) (by first | omega | (simp only; omega)) (.int .i64 dd.re)) (a := ⟨w4.heap.size, 1, none⟩) (by first | omega | (simp only; omega)) (.int .i64 dd.im)
  refine (HU.out _).mono ?_
  rintro e w6 ⟨rfl, g6⟩
  have Fj_6 := CellsAt.gr (Yj_p5) g6
  have lj_6 := CellsAt.lt (Fj_6)
  have Fr_6 := CellsAt.gr (Yr_p5) g6
  have lr_6 := CellsAt.lt (Fr_6)
  have Ft_6 := CellsAt.gr (Yt_p5) g6
  have lt_6 := CellsAt.lt (Ft_6)
  have Ft3_6 := CellsAt.gr (Yt3_p5) g6
  have lt3_6 := CellsAt.lt (Ft3_6)
  have Fp_6 := CellsAt.gr (Yp_p5) g6
  have lp_6 := CellsAt.lt (Fp_6)
  have Fd_6 := CellsAt.gr (Yd_p5) g6
  have ld_6 := CellsAt.lt (Fd_6)
  have z6 := (yp5).trans g6
  clear Yj_p5 Yr_p5 Yt_p5 Yt3_p5 Yp_p5 Yd_p5 yp5 g6
  have cj0 := CellsAt.cell (Fj_6) 0
  have cj1 := CellsAt.cell (Fj_6) 1
  have cj2 := CellsAt.cell (Fj_6) 2
  have cj3 := CellsAt.cell (Fj_6) 3
  have cj4 := CellsAt.cell (Fj_6) 4
  have cj5 := CellsAt.cell (Fj_6) 5
  have cj6 := CellsAt.cell (Fj_6) 6
  have cj7 := CellsAt.cell (Fj_6) 7
  have cj8 := CellsAt.cell (Fj_6) 8
  have cj9 := CellsAt.cell (Fj_6) 9
  have cj10 := CellsAt.cell (Fj_6) 10
  have cj11 := CellsAt.cell (Fj_6) 11
  simp only [List.getElem?_toArray, List.getElem?_cons_zero, List.getElem?_cons_succ] at cj0 cj1 cj2 cj3 cj4 cj5 cj6 cj7 cj8 cj9 cj10 cj11
  go_wp2_with fail
  clear cj0 cj1 cj2 cj3 cj4 cj5 cj6 cj7 cj8 cj9 cj10 cj11
  have Yj_p6 : CellsAt (w6.alloc (.cells #[.int .i64 U.re, .int .i64 U.im] 42)) (w.heap.size) 48 #[.int .i64 ju.re, .int .i64 ju.im, .int .i64 jv.re, .int .i64 jv.im, .int .i64 jy.re, .int .i64 jy.im, .int .i64 jz.re, .int .i64 jz.im, .int .i64 ja.re, .int .i64 ja.im, .int .i64 jc.re, .int .i64 jc.im] := by first | exact CellsAt.alloc (Fj_6) (.cells #[.int .i64 U.re, .int .i64 U.im] 42) | simpa using CellsAt.alloc (Fj_6) (.cells #[.int .i64 U.re, .int .i64 U.im] 42)
  have Yr_p6 : CellsAt (w6.alloc (.cells #[.int .i64 U.re, .int .i64 U.im] 42)) (w.heap.size + 1) 42 #[.int .i64 0, .int .i64 0] := by first | exact CellsAt.alloc (Fr_6) (.cells #[.int .i64 U.re, .int .i64 U.im] 42) | simpa using CellsAt.alloc (Fr_6) (.cells #[.int .i64 U.re, .int .i64 U.im] 42)
  have Yt_p6 : CellsAt (w6.alloc (.cells #[.int .i64 U.re, .int .i64 U.im] 42)) (w1.heap.size) 42 #[.int .i64 t.re, .int .i64 t.im] := by first | exact CellsAt.alloc (Ft_6) (.cells #[.int .i64 U.re, .int .i64 U.im] 42) | simpa using CellsAt.alloc (Ft_6) (.cells #[.int .i64 U.re, .int .i64 U.im] 42)
  have Yt3_p6 : CellsAt (w6.alloc (.cells #[.int .i64 U.re, .int .i64 U.im] 42)) (w2.heap.size) 42 #[.int .i64 t3.re, .int .i64 t3.im] := by first | exact CellsAt.alloc (Ft3_6) (.cells #[.int .i64 U.re, .int .i64 U.im] 42) | simpa using CellsAt.alloc (Ft3_6) (.cells #[.int .i64 U.re, .int .i64 U.im] 42)
  have Yp_p6 : CellsAt (w6.alloc (.cells #[.int .i64 U.re, .int .i64 U.im] 42)) (w3.heap.size) 42 #[.int .i64 p.re, .int .i64 p.im] := by first | exact CellsAt.alloc (Fp_6) (.cells #[.int .i64 U.re, .int .i64 U.im] 42) | simpa using CellsAt.alloc (Fp_6) (.cells #[.int .i64 U.re, .int .i64 U.im] 42)
  have Yd_p6 : CellsAt (w6.alloc (.cells #[.int .i64 U.re, .int .i64 U.im] 42)) (w4.heap.size) 42 #[.int .i64 dd.re, .int .i64 dd.im] := by first | exact CellsAt.alloc (Fd_6) (.cells #[.int .i64 U.re, .int .i64 U.im] 42) | simpa using CellsAt.alloc (Fd_6) (.cells #[.int .i64 U.re, .int .i64 U.im] 42)
  have Ys_p6 : CellsAt (w6.alloc (.cells #[.int .i64 U.re, .int .i64 U.im] 42)) (w6.heap.size) 42 #[.int .i64 U.re, .int .i64 U.im] := by first | exact CellsAt.new w6 42 #[.int .i64 U.re, .int .i64 U.im] | simpa using CellsAt.new w6 42 #[.int .i64 U.re, .int .i64 U.im]
  have yp6 := Gr.alloc (z6) #[.int .i64 U.re, .int .i64 U.im] 42
  refine (HV.out _).mono ?_
  rintro e w7 ⟨rfl, g7⟩
  have Fj_7 := CellsAt.gr (Yj_p6) g7
  have lj_7 := CellsAt.lt (Fj_7)
  have Fr_7 := CellsAt.gr (Yr_p6) g7
  have lr_7 := CellsAt.lt (Fr_7)
  have Ft_7 := CellsAt.gr (Yt_p6) g7
  have lt_7 := CellsAt.lt (Ft_7)
  have Ft3_7 := CellsAt.gr (Yt3_p6) g7
  have lt3_7 := CellsAt.lt (Ft3_7)
  have Fp_7 := CellsAt.gr (Yp_p6) g7
  have lp_7 := CellsAt.lt (Fp_7)
  have Fd_7 := CellsAt.gr (Yd_p6) g7
  have ld_7 := CellsAt.lt (Fd_7)
  have Fs_7 := CellsAt.gr (Ys_p6) g7
  have ls_7 := CellsAt.lt (Fs_7)
  have z7 := (yp6).trans g7
  clear Yj_p6 Yr_p6 Yt_p6 Yt3_p6 Yp_p6 Yd_p6 Ys_p6 yp6 g7
  have cd0 := CellsAt.cell (Fd_7) 0
  have cd1 := CellsAt.cell (Fd_7) 1
  have cp0 := CellsAt.cell (Fp_7) 0
  have cp1 := CellsAt.cell (Fp_7) 1
  have cs0 := CellsAt.cell (Fs_7) 0
  have cs1 := CellsAt.cell (Fs_7) 1
  simp only [List.getElem?_toArray, List.getElem?_cons_zero, List.getElem?_cons_succ] at cd0 cd1 cp0 cp1 cs0 cs1
  have ms0 := CellsAt.frozen (Fs_7) 0
  have ms1 := CellsAt.frozen (Fs_7) 1
  have mp0 := CellsAt.frozen (Fp_7) 0
  have mp1 := CellsAt.frozen (Fp_7) 1
  go_wp2_with fail
  clear cd0 cd1 cp0 cp1 cs0 cs1 ms0 ms1 mp0 mp1
  have Yj_p7 : CellsAt ((((w7.setCell ⟨w6.heap.size, 0, none⟩ (.int .i64 V.re)).setCell ⟨w6.heap.size, 1, none⟩ (.int .i64 V.im)).setCell ⟨w3.heap.size, 0, none⟩ (.int .i64 dd.re)).setCell ⟨w3.heap.size, 1, none⟩ (.int .i64 dd.im)) (w.heap.size) 48 #[.int .i64 ju.re, .int .i64 ju.im, .int .i64 jv.re, .int .i64 jv.im, .int .i64 jy.re, .int .i64 jy.im, .int .i64 jz.re, .int .i64 jz.im, .int .i64 ja.re, .int .i64 ja.im, .int .i64 jc.re, .int .i64 jc.im] := by first | exact CellsAt.other (CellsAt.other (CellsAt.other (CellsAt.other (Fj_7) (by omega) 0 (.int .i64 V.re)) (by omega) 1 (.int .i64 V.im)) (by omega) 0 (.int .i64 dd.re)) (by omega) 1 (.int .i64 dd.im) | simpa using CellsAt.other (CellsAt.other (CellsAt.other (CellsAt.other (Fj_7) (by omega) 0 (.int .i64 V.re)) (by omega) 1 (.int .i64 V.im)) (by omega) 0 (.int .i64 dd.re)) (by omega) 1 (.int .i64 dd.im)
  have Yr_p7 : CellsAt ((((w7.setCell ⟨w6.heap.size, 0, none⟩ (.int .i64 V.re)).setCell ⟨w6.heap.size, 1, none⟩ (.int .i64 V.im)).setCell ⟨w3.heap.size, 0, none⟩ (.int .i64 dd.re)).setCell ⟨w3.heap.size, 1, none⟩ (.int .i64 dd.im)) (w.heap.size + 1) 42 #[.int .i64 0, .int .i64 0] := by first | exact CellsAt.other (CellsAt.other (CellsAt.other (CellsAt.other (Fr_7) (by omega) 0 (.int .i64 V.re)) (by omega) 1 (.int .i64 V.im)) (by omega) 0 (.int .i64 dd.re)) (by omega) 1 (.int .i64 dd.im) | simpa using CellsAt.other (CellsAt.other (CellsAt.other (CellsAt.other (Fr_7) (by omega) 0 (.int .i64 V.re)) (by omega) 1 (.int .i64 V.im)) (by omega) 0 (.int .i64 dd.re)) (by omega) 1 (.int .i64 dd.im)
  have Yt_p7 : CellsAt ((((w7.setCell ⟨w6.heap.size, 0, none⟩ (.int .i64 V.re)).setCell ⟨w6.heap.size, 1, none⟩ (.int .i64 V.im)).setCell ⟨w3.heap.size, 0, none⟩ (.int .i64 dd.re)).setCell ⟨w3.heap.size, 1, none⟩ (.int .i64 dd.im)) (w1.heap.size) 42 #[.int .i64 t.re, .int .i64 t.im] := by first | exact CellsAt.other (CellsAt.other (CellsAt.other (CellsAt.other (Ft_7) (by omega) 0 (.int .i64 V.re)) (by omega) 1 (.int .i64 V.im)) (by omega) 0 (.int .i64 dd.re)) (by omega) 1 (.int .i64 dd.im) | simpa using CellsAt.other (CellsAt.other (CellsAt.other (CellsAt.other (Ft_7) (by omega) 0 (.int .i64 V.re)) (by omega) 1 (.int .i64 V.im)) (by omega) 0 (.int .i64 dd.re)) (by omega) 1 (.int .i64 dd.im)
  have Yt3_p7 : CellsAt ((((w7.setCell ⟨w6.heap.size, 0, none⟩ (.int .i64 V.re)).setCell ⟨w6.heap.size, 1, none⟩ (.int .i64 V.im)).setCell ⟨w3.heap.size, 0, none⟩ (.int .i64 dd.re)).setCell ⟨w3.heap.size, 1, none⟩ (.int .i64 dd.im)) (w2.heap.size) 42 #[.int .i64 t3.re, .int .i64 t3.im] := by first | exact CellsAt.other (CellsAt.other (CellsAt.other (CellsAt.other (Ft3_7) (by omega) 0 (.int .i64 V.re)) (by omega) 1 (.int .i64 V.im)) (by omega) 0 (.int .i64 dd.re)) (by omega) 1 (.int .i64 dd.im) | simpa using CellsAt.other (CellsAt.other (CellsAt.other (CellsAt.other (Ft3_7) (by omega) 0 (.int .i64 V.re)) (by omega) 1 (.int .i64 V.im)) (by omega) 0 (.int .i64 dd.re)) (by omega) 1 (.int .i64 dd.im)
  have Yp_p7 : CellsAt ((((w7.setCell ⟨w6.heap.size, 0, none⟩ (.int .i64 V.re)).setCell ⟨w6.heap.size, 1, none⟩ (.int .i64 V.im)).setCell ⟨w3.heap.size, 0, none⟩ (.int .i64 dd.re)).setCell ⟨w3.heap.size, 1, none⟩ (.int .i64 dd.im)) (w3.heap.size) 42 #[.int .i64 dd.re, .int .i64 dd.im] := by first | exact CellsAt.set (CellsAt.set (CellsAt.other (CellsAt.other (Fp_7) (by omega) 0 (.int .i64 V.re)) (by omega) 1 (.int .i64 V.im)) 0 (.int .i64 dd.re)) 1 (.int .i64 dd.im) | simpa using CellsAt.set (CellsAt.set (CellsAt.other (CellsAt.other (Fp_7) (by omega) 0 (.int .i64 V.re)) (by omega) 1 (.int .i64 V.im)) 0 (.int .i64 dd.re)) 1 (.int .i64 dd.im)
  have Yd_p7 : CellsAt ((((w7.setCell ⟨w6.heap.size, 0, none⟩ (.int .i64 V.re)).setCell ⟨w6.heap.size, 1, none⟩ (.int .i64 V.im)).setCell ⟨w3.heap.size, 0, none⟩ (.int .i64 dd.re)).setCell ⟨w3.heap.size, 1, none⟩ (.int .i64 dd.im)) (w4.heap.size) 42 #[.int .i64 dd.re, .int .i64 dd.im] := by first | exact CellsAt.other (CellsAt.other (CellsAt.other (CellsAt.other (Fd_7) (by omega) 0 (.int .i64 V.re)) (by omega) 1 (.int .i64 V.im)) (by omega) 0 (.int .i64 dd.re)) (by omega) 1 (.int .i64 dd.im) | simpa using CellsAt.other (CellsAt.other (CellsAt.other (CellsAt.other (Fd_7) (by omega) 0 (.int .i64 V.re)) (by omega) 1 (.int .i64 V.im)) (by omega) 0 (.int .i64 dd.re)) (by omega) 1 (.int .i64 dd.im)
  have Ys_p7 : CellsAt ((((w7.setCell ⟨w6.heap.size, 0, none⟩ (.int .i64 V.re)).setCell ⟨w6.heap.size, 1, none⟩ (.int .i64 V.im)).setCell ⟨w3.heap.size, 0, none⟩ (.int .i64 dd.re)).setCell ⟨w3.heap.size, 1, none⟩ (.int .i64 dd.im)) (w6.heap.size) 42 #[.int .i64 V.re, .int .i64 V.im] := by first | exact CellsAt.other (CellsAt.other (CellsAt.set (CellsAt.set (Fs_7) 0 (.int .i64 V.re)) 1 (.int .i64 V.im)) (by omega) 0 (.int .i64 dd.re)) (by omega) 1 (.int .i64 dd.im) | simpa using CellsAt.other (CellsAt.other (CellsAt.set (CellsAt.set (Fs_7) 0 (.int .i64 V.re)) 1 (.int .i64 V.im)) (by omega) 0 (.int .i64 dd.re)) (by omega) 1 (.int .i64 dd.im)
  have yp7 := Gr.setCell (Gr.setCell (Gr.setCell (Gr.setCell (z7) (a := ⟨w6.heap.size, 0, none⟩) (by first | omega | (simp only; omega)) (.int .i64 V.re)) (a := ⟨w6.heap.size, 1, none⟩) (by first | omega | (simp only; omega)) (.int .i64 V.im)) (a := ⟨w3.heap.size, 0, none⟩) (by first | omega | (simp only; omega)) (.int .i64 dd.re)) (a := ⟨w3.heap.size, 1, none⟩) (by first | omega | (simp only; omega)) (.int .i64 dd.im)
  refine (HS.out _).mono ?_
  rintro e w8 ⟨rfl, g8⟩
  have Fj_8 := CellsAt.gr (Yj_p7) g8
  have lj_8 := CellsAt.lt (Fj_8)
  have Fr_8 := CellsAt.gr (Yr_p7) g8
  have lr_8 := CellsAt.lt (Fr_8)
  have Ft_8 := CellsAt.gr (Yt_p7) g8
  have lt_8 := CellsAt.lt (Ft_8)
  have Ft3_8 := CellsAt.gr (Yt3_p7) g8
  have lt3_8 := CellsAt.lt (Ft3_8)
  have Fp_8 := CellsAt.gr (Yp_p7) g8
  have lp_8 := CellsAt.lt (Fp_8)
  have Fd_8 := CellsAt.gr (Yd_p7) g8
  have ld_8 := CellsAt.lt (Fd_8)
  have Fs_8 := CellsAt.gr (Ys_p7) g8
  have ls_8 := CellsAt.lt (Fs_8)
  have z8 := (yp7).trans g8
  clear Yj_p7 Yr_p7 Yt_p7 Yt3_p7 Yp_p7 Yd_p7 Ys_p7 yp7 g8
  have mr0 := CellsAt.frozen (Fr_8) 0
  have cr0 := CellsAt.cell (Fr_8) 0
  simp only [List.getElem?_toArray, List.getElem?_cons_zero, List.getElem?_cons_succ] at cr0
  have mr1 := CellsAt.frozen (Fr_8) 1
  have cr1 := CellsAt.cell (Fr_8) 1
  simp only [List.getElem?_toArray, List.getElem?_cons_zero, List.getElem?_cons_succ] at cr1
  go_wp2_with fail
  clear mr0 cr0 mr1 cr1
  refine (HF.out _).mono ?_
  rintro e w9 ⟨rfl, g9⟩
  have Fj_9 := CellsAt.gr (Fj_8) g9
  have lj_9 := CellsAt.lt (Fj_9)
  have Fr_9 := CellsAt.gr (Fr_8) g9
  have lr_9 := CellsAt.lt (Fr_9)
  have Ft_9 := CellsAt.gr (Ft_8) g9
  have lt_9 := CellsAt.lt (Ft_9)
  have Ft3_9 := CellsAt.gr (Ft3_8) g9
  have lt3_9 := CellsAt.lt (Ft3_9)
  have Fp_9 := CellsAt.gr (Fp_8) g9
  have lp_9 := CellsAt.lt (Fp_9)
  have Fd_9 := CellsAt.gr (Fd_8) g9
  have ld_9 := CellsAt.lt (Fd_9)
  have Fs_9 := CellsAt.gr (Fs_8) g9
  have ls_9 := CellsAt.lt (Fs_9)
  have z9 := (z8).trans g9
  clear Fj_8 Fr_8 Ft_8 Ft3_8 Fp_8 Fd_8 Fs_8 z8 g9
  have mr0 := CellsAt.frozen (Fr_9) 0
  have cr0 := CellsAt.cell (Fr_9) 0
  simp only [List.getElem?_toArray, List.getElem?_cons_zero, List.getElem?_cons_succ] at cr0
  have mr1 := CellsAt.frozen (Fr_9) 1
  have cr1 := CellsAt.cell (Fr_9) 1
  simp only [List.getElem?_toArray, List.getElem?_cons_zero, List.getElem?_cons_succ] at cr1
  go_wp2_with fail
  clear mr0 cr0 mr1 cr1
  have Yj_p8 : CellsAt ((w9.setCell ⟨w.heap.size + 1, 0, none⟩ (.int .i64 o.re)).setCell ⟨w.heap.size + 1, 1, none⟩ (.int .i64 o.im)) (w.heap.size) 48 #[.int .i64 ju.re, .int .i64 ju.im, .int .i64 jv.re, .int .i64 jv.im, .int .i64 jy.re, .int .i64 jy.im, .int .i64 jz.re, .int .i64 jz.im, .int .i64 ja.re, .int .i64 ja.im, .int .i64 jc.re, .int .i64 jc.im] := by first | exact CellsAt.other (CellsAt.other (Fj_9) (by omega) 0 (.int .i64 o.re)) (by omega) 1 (.int .i64 o.im) | simpa using CellsAt.other (CellsAt.other (Fj_9) (by omega) 0 (.int .i64 o.re)) (by omega) 1 (.int .i64 o.im)
  have Yr_p8 : CellsAt ((w9.setCell ⟨w.heap.size + 1, 0, none⟩ (.int .i64 o.re)).setCell ⟨w.heap.size + 1, 1, none⟩ (.int .i64 o.im)) (w.heap.size + 1) 42 #[.int .i64 o.re, .int .i64 o.im] := by first | exact CellsAt.set (CellsAt.set (Fr_9) 0 (.int .i64 o.re)) 1 (.int .i64 o.im) | simpa using CellsAt.set (CellsAt.set (Fr_9) 0 (.int .i64 o.re)) 1 (.int .i64 o.im)
  have Yt_p8 : CellsAt ((w9.setCell ⟨w.heap.size + 1, 0, none⟩ (.int .i64 o.re)).setCell ⟨w.heap.size + 1, 1, none⟩ (.int .i64 o.im)) (w1.heap.size) 42 #[.int .i64 t.re, .int .i64 t.im] := by first | exact CellsAt.other (CellsAt.other (Ft_9) (by omega) 0 (.int .i64 o.re)) (by omega) 1 (.int .i64 o.im) | simpa using CellsAt.other (CellsAt.other (Ft_9) (by omega) 0 (.int .i64 o.re)) (by omega) 1 (.int .i64 o.im)
  have Yt3_p8 : CellsAt ((w9.setCell ⟨w.heap.size + 1, 0, none⟩ (.int .i64 o.re)).setCell ⟨w.heap.size + 1, 1, none⟩ (.int .i64 o.im)) (w2.heap.size) 42 #[.int .i64 t3.re, .int .i64 t3.im] := by first | exact CellsAt.other (CellsAt.other (Ft3_9) (by omega) 0 (.int .i64 o.re)) (by omega) 1 (.int .i64 o.im) | simpa using CellsAt.other (CellsAt.other (Ft3_9) (by omega) 0 (.int .i64 o.re)) (by omega) 1 (.int .i64 o.im)
  have Yp_p8 : CellsAt ((w9.setCell ⟨w.heap.size + 1, 0, none⟩ (.int .i64 o.re)).setCell ⟨w.heap.size + 1, 1, none⟩ (.int .i64 o.im)) (w3.heap.size) 42 #[.int .i64 dd.re, .int .i64 dd.im] := by first | exact CellsAt.other (CellsAt.other (Fp_9) (by omega) 0 (.int .i64 o.re)) (by omega) 1 (.int .i64 o.im) | simpa using CellsAt.other (CellsAt.other (Fp_9) (by omega) 0 (.int .i64 o.re)) (by omega) 1 (.int .i64 o.im)
  have Yd_p8 : CellsAt ((w9.setCell ⟨w.heap.size + 1, 0, none⟩ (.int .i64 o.re)).setCell ⟨w.heap.size + 1, 1, none⟩ (.int .i64 o.im)) (w4.heap.size) 42 #[.int .i64 dd.re, .int .i64 dd.im] := by first | exact CellsAt.other (CellsAt.other (Fd_9) (by omega) 0 (.int .i64 o.re)) (by omega) 1 (.int .i64 o.im) | simpa using CellsAt.other (CellsAt.other (Fd_9) (by omega) 0 (.int .i64 o.re)) (by omega) 1 (.int .i64 o.im)
  have Ys_p8 : CellsAt ((w9.setCell ⟨w.heap.size + 1, 0, none⟩ (.int .i64 o.re)).setCell ⟨w.heap.size + 1, 1, none⟩ (.int .i64 o.im)) (w6.heap.size) 42 #[.int .i64 V.re, .int .i64 V.im] := by first | exact CellsAt.other (CellsAt.other (Fs_9) (by omega) 0 (.int .i64 o.re)) (by omega) 1 (.int .i64 o.im) | simpa using CellsAt.other (CellsAt.other (Fs_9) (by omega) 0 (.int .i64 o.re)) (by omega) 1 (.int .i64 o.im)
  have yp8 := Gr.setCell (Gr.setCell (z9) (a := ⟨w.heap.size + 1, 0, none⟩) (by first | omega | (simp only; omega)) (.int .i64 o.re)) (a := ⟨w.heap.size + 1, 1, none⟩) (by first | omega | (simp only; omega)) (.int .i64 o.im)
  generalize ((w9.setCell ⟨w.heap.size + 1, 0, none⟩ (.int .i64 o.re)).setCell ⟨w.heap.size + 1, 1, none⟩ (.int .i64 o.im)) = uf at *
  have cr0 := CellsAt.cell (Yr_p8) 0
  have cr1 := CellsAt.cell (Yr_p8) 1
  simp only [List.getElem?_toArray, List.getElem?_cons_zero, List.getElem?_cons_succ] at cr0 cr1
  refine bodyPost_ret (v := .agg #[.int .i64 o.re, .int .i64 o.im]) ?_ rfl ⟨rfl, yp8⟩
  simp [results, Tryz.results27, go_sem, *]

/-- Number q of four that are joined. -/
theorem rJoin12_c (bits : Nat) (mo : Int) (inv : Bool) (q : Nat) (hq : q < 4) (ju jv jy jz ja jc : Gi) (hb : bits ≤ 29) (m0 : 0 ≤ mo) (m1 : mo ≤ 2) (hu : Bd 2147483648 ju) (hv : Bd 2147483648 jv) (hy : Bd 2147483648 jy) (hz : Bd 2147483648 jz) (ha : Bd (2 ^ bits) ja) (hc : Bd (2 ^ bits) jc) (w : World) :
    Calls Tryz.prog 27 #[.agg #[.int .i64 ju.re, .int .i64 ju.im, .int .i64 jv.re, .int .i64 jv.im, .int .i64 jy.re, .int .i64 jy.im, .int .i64 jz.re, .int .i64 jz.im, .int .i64 ja.re, .int .i64 ja.im, .int .i64 jc.re, .int .i64 jc.im], .int .i64 (q : Int), .int .i64 bits, .int .i64 mo, .bool inv] w fun e w' => e = .returned (.agg #[.int .i64 (joinG bits mo inv q ju jv jy jz ja jc).re, .int .i64 (joinG bits mo inv q ju jv jy jz ja jc).im]) ∧ Gr w w' := by
  have hp := pow29 bits hb
  have hP : (2 : Int) ^ (bits + 1) = 2 * 2 ^ bits := by rw [Int.pow_succ]; omega
  have t1 := Bd.mul hy ha
  have t3 := Bd.mul hz hc
  have lt : 2 * (2147483648 * (2 : Int) ^ bits) ≤ 2305843009213693952 := by omega
  have t1' := t1.mono lt
  have t3' := t3.mono lt
  have hU := (Bd.scale hu (bits + 1)).mono (show 2147483648 * (2 : Int) ^ (bits + 1) ≤ 2305843009213693952 by omega)
  have hV := (Bd.scale hv (bits + 1)).mono (show 2147483648 * (2 : Int) ^ (bits + 1) ≤ 2305843009213693952 by omega)
  have l1 := t1'.le
  have l3 := t3'.le
  have lU := hU.le
  have lV := hV.le
  have lp : Bd 4611686018427387904 (gadd (gmul jy ja) (gmul jz jc)) := (t1'.add t3').mono (by omega)
  have hd : Bd 4611686018427387904 (gsub (gmul jy ja) (gmul jz jc)) := Bd.mk (by unfold gsub; simp only; omega)
  have hdt := (hd.turn (turns1 inv 1))
  have ld := hd.le
  have ldt := hdt.le
  have lpp := lp.le
  have E1 := Lib.hid (show wrap64 ((bits : Int) + 1) = ((bits + 1 : Nat) : Int) by rw [IntWalk.wrap64_in _ ⟨by omega, by omega⟩]; omega)
  have E2 := Lib.hid (show wrap64 ((bits : Int) + 2) = ((bits + 2 : Nat) : Int) by rw [IntWalk.wrap64_in _ ⟨by omega, by omega⟩]; omega)
  have HT := Lib.hid (rtimes_gi jy ja hy (ha.mono (show (2 : Int) ^ bits ≤ 1073741824 by omega)))
  have HT3 := Lib.hid (rtimes_gi jz jc hz (hc.mono (show (2 : Int) ^ bits ≤ 1073741824 by omega)))
  have HP := Lib.hid (rsum_gi (gmul jy ja) (gmul jz jc) (by omega) (by omega))
  have HL := Lib.hid (rless_gi (gmul jy ja) (gmul jz jc) (by omega) (by omega))
  have HN := Lib.hid (rturn12_gi (gsub (gmul jy ja) (gmul jz jc)) (turns1 inv 1) (by omega))
  have HU := Lib.hid (scale12_c ju (bits + 1) (by omega) hu)
  have HV := Lib.hid (scale12_c jv (bits + 1) (by omega) hv)
  have sh : ∀ x : Gi, Bd 9000000000000000000 x → ∀ W, Calls Tryz.prog 22 #[.agg #[.int .i64 (x).re, .int .i64 (x).im], .int .i64 ((bits + 2 : Nat) : Int), .int .i64 mo] W fun e w' => e = .returned (.agg #[.int .i64 (grnd (bits + 2) mo x).re, .int .i64 (grnd (bits + 2) mo x).im]) ∧ Gr W w' := fun x hx W => by
    have := hx.le
    exact rshift03_gi x (bits + 2) mo (by omega) (by omega) m0 m1 W
  have hsub : ∀ a b : Gi, Bd 2305843009213693952 a → Bd 4611686018427387904 b → Bd 9000000000000000000 (gsub a b) := fun a b ha hb => by
    have h1 := ha.le
    have h2 := hb.le
    exact Bd.mk (by unfold gsub; simp only; omega)
  have hc4 : q = 0 ∨ q = 1 ∨ q = 2 ∨ q = 3 := by omega
  cases inv
  · rcases hc4 with rfl | rfl | rfl | rfl
    · exact rJoin_false_0_of bits mo _ _ ju jv jy jz ja jc _ _ _ _ _ _ _ _ _ E1.out E2.out HT HT3 HP HL HN HU HV (Lib.hid (rsum_gi _ _ (by omega) (by omega))) (Lib.hid (sh _ ((hU.add lp).mono (by omega)))) w
    · exact rJoin_false_1_of bits mo _ _ ju jv jy jz ja jc _ _ _ _ _ _ _ _ _ E1.out E2.out HT HT3 HP HL HN HU HV (Lib.hid (rsum_gi _ _ (by omega) (by omega))) (Lib.hid (sh _ ((hV.add hdt).mono (by omega)))) w
    · exact rJoin_false_2_of bits mo _ _ ju jv jy jz ja jc _ _ _ _ _ _ _ _ _ E1.out E2.out HT HT3 HP HL HN HU HV (Lib.hid (rless_gi _ _ (by omega) (by omega))) (Lib.hid (sh _ (hsub _ _ hU lp))) w
    · exact rJoin_false_3_of bits mo _ _ ju jv jy jz ja jc _ _ _ _ _ _ _ _ _ E1.out E2.out HT HT3 HP HL HN HU HV (Lib.hid (rless_gi _ _ (by omega) (by omega))) (Lib.hid (sh _ (hsub _ _ hV hdt))) w
  · rcases hc4 with rfl | rfl | rfl | rfl
    · exact rJoin_true_0_of bits mo _ _ ju jv jy jz ja jc _ _ _ _ _ _ _ _ _ E1.out E2.out HT HT3 HP HL HN HU HV (Lib.hid (rsum_gi _ _ (by omega) (by omega))) (Lib.hid (sh _ ((hU.add lp).mono (by omega)))) w
    · exact rJoin_true_1_of bits mo _ _ ju jv jy jz ja jc _ _ _ _ _ _ _ _ _ E1.out E2.out HT HT3 HP HL HN HU HV (Lib.hid (rsum_gi _ _ (by omega) (by omega))) (Lib.hid (sh _ ((hV.add hdt).mono (by omega)))) w
    · exact rJoin_true_2_of bits mo _ _ ju jv jy jz ja jc _ _ _ _ _ _ _ _ _ E1.out E2.out HT HT3 HP HL HN HU HV (Lib.hid (rless_gi _ _ (by omega) (by omega))) (Lib.hid (sh _ (hsub _ _ hU lp))) w
    · exact rJoin_true_3_of bits mo _ _ ju jv jy jz ja jc _ _ _ _ _ _ _ _ _ E1.out E2.out HT HT3 HP HL HN HU HV (Lib.hid (rless_gi _ _ (by omega) (by omega))) (Lib.hid (sh _ (hsub _ _ hV hdt))) w


end Go.Proofs.YtmhcbphkkcmecaaGreat
