import Derived.Test.YtdignnmpfkgkoaaGreatRealUntanglesS42
namespace Go.Proofs.YtdignnmpfkgkoaaGreat
section
open Go.ChangeShapes Go.WideShapes Go.ChangeAt Go.RowKit
set_option linter.unusedVariables false
set_option linter.unusedSimpArgs false
set_option maxRecDepth 100000
set_option maxHeartbeats 8000000 in
theorem unt18_P (q sp : Option Addr) (l2 cap2 m2 l3 cap3 m3 : Nat) (fo lo ke sc mo ex : Int) (iv sa : Bool) (ys : List Gi) (ls : List Int) (hm2 : m2 ≤ cap2) (hmin2 : (if (70 : Int) < (l2 : Int) then 70 else (l2 : Int)) = (m2 : Int)) (hm3 : m3 ≤ cap3) (hmin3 : (if (10 : Int) < (l3 : Int) then 10 else (l3 : Int)) = (m3 : Int)) (HU : Hid (∀ W, CxsAt W (.slice q m2 cap2) ys → NumsAt W (.slice sp m3 cap3) ls → Calls Tryz.prog 19 #[.agg #[.slice q m2 cap2, .int .i64 ex, .bool sa, .slice sp m3 cap3], .agg #[.int .i64 fo, .int .i64 lo, .int .i64 ke, .int .i64 sc, .int .i64 mo, .bool iv]] W fun e w' => e = .returned (.tuple #[.agg #[.slice none 0 0, .int .i64 0, .bool false, .slice none 0 0], .int .i64 4]) ∧ Gr W w'))
 (HLS : Hid (∀ W, NumsAt W (.slice sp m3 cap3) ls → Calls Tryz.prog 20 #[.agg #[.int .i64 fo, .int .i64 lo, .int .i64 ke, .int .i64 sc, .int .i64 mo, .bool iv], .slice sp m3 cap3] W fun e w' => e = .returned (.tuple #[.int .i64 0, .int .i64 4]) ∧ Gr W w'))
 (HPL : CR 14 #[.agg #[.int .i64 fo, .int .i64 lo, .int .i64 ke, .int .i64 sc, .int .i64 mo, .bool iv]] (.bool false)) (AL : CR 12 #[] (.bool true)) (w : World) (hy : CxsAt w (.slice q m2 cap2) ys) (hs : NumsAt w (.slice sp m3 cap3) ls) :
 CW 4 #[.agg #[.slice q l2 cap2, .int .i64 ex, .bool sa, .slice sp l3 cap3], .agg #[.int .i64 fo, .int .i64 lo, .int .i64 ke, .int .i64 sc, .int .i64 mo, .bool iv]] w (.bool true) :=by
 delta CW
 have hcut2 := run_cut_cx q l2 cap2 m2 hm2
 have hcut3 := run_cut_int sp l3 cap3 m3 hm3
 have VY := Lib.hid hy
 have VS := Lib.hid hs
 clear hy hs
 go_enter Tryz.func4, Tryz.ntmps4
 go_wp2_with fail
 obtain ⟨u0, hU⟩ : ∃ uu, uu = ((w.alloc (.cells #[.slice q l2 cap2, .int .i64 ex, .bool sa, .slice sp l3 cap3] 27)).alloc (.cells #[.int .i64 fo, .int .i64 lo, .int .i64 ke, .int .i64 sc, .int .i64 mo, .bool iv] 24)) := ⟨_, rfl⟩
 have ⟨gu, R0, R1⟩ := lay2 hU
 rw [← hU]
 clear hU
 have lb := R0.lt
 have lp := R1.lt
 have c0 := R0.cell 0
 have c3 := R0.cell 3
 simp only [getS] at c0 c3
 have m0f := R0.frozen 0
 have m3f := R0.frozen 3
 go_region
 clear c0 c3 m0f m3f hcut2 hcut3
 obtain ⟨u1, hq⟩ : ∃ zz, zz = (((u0.setCell ⟨w.heap.size, 0, none⟩ (.slice q m2 cap2)).setCell ⟨w.heap.size, 3, none⟩ (.slice sp m3 cap3)).drew) := ⟨_, rfl⟩
 have S1 : CellsAt u1 (w.heap.size + 1) 24 #[.int .i64 fo, .int .i64 lo, .int .i64 ke, .int .i64 sc, .int .i64 mo, .bool iv] := by rw [hq]; exact ((R1.ot).ot).gr (Gr.drew (Gr.refl _))
 have S0 : CellsAt u1 w.heap.size 27 #[.slice q m2 cap2, .int .i64 ex, .bool sa, .slice sp m3 cap3] := by rw [hq]; exact ((R0.set 0 (.slice q m2 cap2)).set 3 (.slice sp m3 cap3)).gr (Gr.drew (Gr.refl _))
 have s1 : Gr w u1 := by rw [hq]; exact ((gu.setCell (by simp) _).setCell (by simp) _).drew
 rw [← hq]
 clear hq R0 R1 gu lb lp
 have lp := S1.lt
 have lb := S0.lt
 obtain ⟨cb0, cb1, cb2, cb3⟩ := S0.t4
 obtain ⟨cp0, cp1, cp2, cp3, cp4, cp5⟩ := S1.t6
 go_wp2_with fail
 clear cb0 cb1 cb2 cb3 cp0 cp1 cp2 cp3 cp4 cp5
 refine (HU.out _ (VY.out.gr (s1)) (VS.out.gr (s1))).mono ?_
 rintro e w1 ⟨rfl, g1⟩
 have ⟨Fb_1, lb_1⟩ := S0.gl g1
 have ⟨Fp_1, lp_1⟩ := S1.gl g1
 have z1 := s1.trans g1
 clear S1 S0 s1 g1
 obtain ⟨cb0, cb1, cb2, cb3⟩ := Fb_1.t4
 obtain ⟨cp0, cp1, cp2, cp3, cp4, cp5⟩ := Fp_1.t6
 go_wp2_with fail
 clear cb0 cb1 cb2 cb3 cp0 cp1 cp2 cp3 cp4 cp5
 obtain ⟨u2, hqp1⟩ : ∃ zz, zz = (w1.alloc (.cells #[.slice none 0 0, .int .i64 0, .bool false, .slice none 0 0] 27)) := ⟨_, rfl⟩
 have Yb_p1 : CellsAt u2 (w.heap.size) 27 #[.slice q m2 cap2, .int .i64 ex, .bool sa, .slice sp m3 cap3] := by rw [hqp1]; first | exact Fb_1.alloc _ | simpa using Fb_1.alloc _
 have Yp_p1 : CellsAt u2 (w.heap.size + 1) 24 #[.int .i64 fo, .int .i64 lo, .int .i64 ke, .int .i64 sc, .int .i64 mo, .bool iv] := by rw [hqp1]; first | exact Fp_1.alloc _ | simpa using Fp_1.alloc _
 have Yc_p1 : CellsAt u2 (w1.heap.size) 27 #[.slice none 0 0, .int .i64 0, .bool false, .slice none 0 0] := by rw [hqp1]; have q_ := CellsAt.new w1 27 #[.slice none 0 0, .int .i64 0, .bool false, .slice none 0 0]; first | exact q_ | simpa using q_
 have yp1 : Gr w u2 := by rw [hqp1]; exact z1.alloc _ _
 rw [← hqp1]
 clear hqp1
 refine (HLS.out _ (VS.out.gr (yp1))).mono ?_
 rintro e w2 ⟨rfl, g2⟩
 have ⟨Fb_2, lb_2⟩ := Yb_p1.gl g2
 have ⟨Fp_2, lp_2⟩ := Yp_p1.gl g2
 have ⟨Fc_2, lc_2⟩ := Yc_p1.gl g2
 have z2 := yp1.trans g2
 clear Yp_p1 Yb_p1 Yc_p1 yp1 g2
 obtain ⟨cp0, cp1, cp2, cp3, cp4, cp5⟩ := Fp_2.t6
 go_wp2_with fail
 clear cp0 cp1 cp2 cp3 cp4 cp5
 refine (HPL.out _).mono ?_
 rintro e w3 ⟨rfl, g3⟩
 have ⟨Fb_3, lb_3⟩ := Fb_2.gl g3
 have ⟨Fp_3, lp_3⟩ := Fp_2.gl g3
 have ⟨Fc_3, lc_3⟩ := Fc_2.gl g3
 have z3 := z2.trans g3
 clear Fp_2 Fb_2 Fc_2 z2 g3
 go_wp2_with fail
 refine (AL.out _).mono ?_
 rintro e w4 ⟨rfl, g4⟩
 have ⟨Fb_4, lb_4⟩ := Fb_3.gl g4
 have ⟨Fp_4, lp_4⟩ := Fp_3.gl g4
 have ⟨Fc_4, lc_4⟩ := Fc_3.gl g4
 have z4 := z3.trans g4
 clear Fp_3 Fb_3 Fc_3 z3 g4
 obtain ⟨cc0, cc1, cc2, cc3⟩ := Fc_4.t4
 go_wp2_with fail
 clear cc0 cc1 cc2 cc3
 refine (same15_c (.slice none 0 0) (.slice none 0 0) (.slice none 0 0) (.slice none 0 0) 0 false [] [] _ ⟨none, 0, rfl, Nat.le_refl _, Nat.zero_le _, fun h => absurd rfl h⟩ (NumsAt.nil _) ⟨none, 0, rfl, Nat.le_refl _, Nat.zero_le _, fun h => absurd rfl h⟩ (NumsAt.nil _)).mono ?_
 rintro e w5 ⟨rfl, g5⟩
 have ⟨Fb_5, lb_5⟩ := Fb_4.gl g5
 have ⟨Fp_5, lp_5⟩ := Fp_4.gl g5
 have ⟨Fc_5, lc_5⟩ := Fc_4.gl g5
 have z5 := z4.trans g5
 clear Fp_4 Fb_4 Fc_4 z4 g5
 go_wp2_with fail
 go_ret
 exact ⟨by first | rfl | (simp; done), z5⟩
set_option maxHeartbeats 8000000 in
theorem unt18_My (q sp : Option Addr) (l2 cap2 m2 l3 cap3 m3 : Nat) (fo lo ke sc mo ex : Int) (iv sa : Bool) (ys : List Gi) (ls : List Int) (hm2 : m2 ≤ cap2) (hmin2 : (if (70 : Int) < (l2 : Int) then 70 else (l2 : Int)) = (m2 : Int)) (hm3 : m3 ≤ cap3) (hmin3 : (if (10 : Int) < (l3 : Int) then 10 else (l3 : Int)) = (m3 : Int)) (n n0 : Int) (y0 : Int) (hy0 : ¬ y0 = 0) (hyb : (y0 == 0) = false) (HU : Hid (∀ W, CxsAt W (.slice q m2 cap2) ys → NumsAt W (.slice sp m3 cap3) ls → Calls Tryz.prog 19 #[.agg #[.slice q m2 cap2, .int .i64 ex, .bool sa, .slice sp m3 cap3], .agg #[.int .i64 fo, .int .i64 lo, .int .i64 ke, .int .i64 sc, .int .i64 mo, .bool iv]] W fun e w' => e = .returned (.tuple #[.agg #[.slice none 0 0, .int .i64 0, .bool false, .slice none 0 0], .int .i64 y0]) ∧ Gr W w'))
 (HLS : Hid (∀ W, NumsAt W (.slice sp m3 cap3) ls → Calls Tryz.prog 20 #[.agg #[.int .i64 fo, .int .i64 lo, .int .i64 ke, .int .i64 sc, .int .i64 mo, .bool iv], .slice sp m3 cap3] W fun e w' => e = .returned (.tuple #[.int .i64 n, .int .i64 0]) ∧ Gr W w'))
 (HPL : CR 14 #[.agg #[.int .i64 fo, .int .i64 lo, .int .i64 ke, .int .i64 sc, .int .i64 mo, .bool iv]] (.bool true))
 (HSH : Hid (∀ W, NumsAt W (.slice sp m3 cap3) ls → Calls Tryz.prog 21 #[.agg #[.int .i64 fo, .int .i64 lo, .int .i64 ke, .int .i64 sc, .int .i64 mo, .bool iv], .slice sp m3 cap3] W fun e w' => e = .returned (.bool true) ∧ Gr W w'))
 (hn : IntKind.i64.wrap (n0 + 256) = n) (HOF : Hid (∀ W, NumsAt W (.slice sp m3 cap3) ls → Calls Tryz.prog 22 #[.agg #[.int .i64 fo, .int .i64 lo, .int .i64 ke, .int .i64 sc, .int .i64 mo, .bool iv], .slice sp m3 cap3] W fun e w' => e = .returned (.int .i64 n0) ∧ Gr W w'))
 (HM : Hid (∀ W, CxsAt W (.slice q m2 cap2) ys → Calls Tryz.prog 16 #[.slice q m2 cap2, .agg #[.int .i64 fo, .int .i64 lo, .int .i64 ke, .int .i64 sc, .int .i64 mo, .bool iv], .bool true] W fun e w' => e = .returned (.int .i64 y0) ∧ Gr W w')) (AL : CR 12 #[] (.bool true)) (w : World) (hy : CxsAt w (.slice q m2 cap2) ys) (hs : NumsAt w (.slice sp m3 cap3) ls) :
 CW 4 #[.agg #[.slice q l2 cap2, .int .i64 ex, .bool sa, .slice sp l3 cap3], .agg #[.int .i64 fo, .int .i64 lo, .int .i64 ke, .int .i64 sc, .int .i64 mo, .bool iv]] w (.bool true) :=by
 delta CW
 have hcut2 := run_cut_cx q l2 cap2 m2 hm2
 have hcut3 := run_cut_int sp l3 cap3 m3 hm3
 have VY := Lib.hid hy
 have VS := Lib.hid hs
 clear hy hs
 go_enter Tryz.func4, Tryz.ntmps4
 go_wp2_with fail
 obtain ⟨u0, hU⟩ : ∃ uu, uu = ((w.alloc (.cells #[.slice q l2 cap2, .int .i64 ex, .bool sa, .slice sp l3 cap3] 27)).alloc (.cells #[.int .i64 fo, .int .i64 lo, .int .i64 ke, .int .i64 sc, .int .i64 mo, .bool iv] 24)) := ⟨_, rfl⟩
 have ⟨gu, R0, R1⟩ := lay2 hU
 rw [← hU]
 clear hU
 have lb := R0.lt
 have lp := R1.lt
 have c0 := R0.cell 0
 have c3 := R0.cell 3
 simp only [getS] at c0 c3
 have m0f := R0.frozen 0
 have m3f := R0.frozen 3
 go_region
 clear c0 c3 m0f m3f hcut2 hcut3
 obtain ⟨u1, hq⟩ : ∃ zz, zz = (((u0.setCell ⟨w.heap.size, 0, none⟩ (.slice q m2 cap2)).setCell ⟨w.heap.size, 3, none⟩ (.slice sp m3 cap3)).drew) := ⟨_, rfl⟩
 have S1 : CellsAt u1 (w.heap.size + 1) 24 #[.int .i64 fo, .int .i64 lo, .int .i64 ke, .int .i64 sc, .int .i64 mo, .bool iv] := by rw [hq]; exact ((R1.ot).ot).gr (Gr.drew (Gr.refl _))
 have S0 : CellsAt u1 w.heap.size 27 #[.slice q m2 cap2, .int .i64 ex, .bool sa, .slice sp m3 cap3] := by rw [hq]; exact ((R0.set 0 (.slice q m2 cap2)).set 3 (.slice sp m3 cap3)).gr (Gr.drew (Gr.refl _))
 have s1 : Gr w u1 := by rw [hq]; exact ((gu.setCell (by simp) _).setCell (by simp) _).drew
 rw [← hq]
 clear hq R0 R1 gu lb lp
 have lp := S1.lt
 have lb := S0.lt
 obtain ⟨cb0, cb1, cb2, cb3⟩ := S0.t4
 obtain ⟨cp0, cp1, cp2, cp3, cp4, cp5⟩ := S1.t6
 go_wp2_with fail
 clear cb0 cb1 cb2 cb3 cp0 cp1 cp2 cp3 cp4 cp5
 refine (HU.out _ (VY.out.gr (s1)) (VS.out.gr (s1))).mono ?_
 rintro e w1 ⟨rfl, g1⟩
 have ⟨Fb_1, lb_1⟩ := S0.gl g1
 have ⟨Fp_1, lp_1⟩ := S1.gl g1
 have z1 := s1.trans g1
 clear S1 S0 s1 g1
 obtain ⟨cb0, cb1, cb2, cb3⟩ := Fb_1.t4
 obtain ⟨cp0, cp1, cp2, cp3, cp4, cp5⟩ := Fp_1.t6
 go_wp2_with fail
 clear cb0 cb1 cb2 cb3 cp0 cp1 cp2 cp3 cp4 cp5
 obtain ⟨u2, hqp1⟩ : ∃ zz, zz = (w1.alloc (.cells #[.slice none 0 0, .int .i64 0, .bool false, .slice none 0 0] 27)) := ⟨_, rfl⟩
 have Yb_p1 : CellsAt u2 (w.heap.size) 27 #[.slice q m2 cap2, .int .i64 ex, .bool sa, .slice sp m3 cap3] := by rw [hqp1]; first | exact Fb_1.alloc _ | simpa using Fb_1.alloc _
 have Yp_p1 : CellsAt u2 (w.heap.size + 1) 24 #[.int .i64 fo, .int .i64 lo, .int .i64 ke, .int .i64 sc, .int .i64 mo, .bool iv] := by rw [hqp1]; first | exact Fp_1.alloc _ | simpa using Fp_1.alloc _
 have Yc_p1 : CellsAt u2 (w1.heap.size) 27 #[.slice none 0 0, .int .i64 0, .bool false, .slice none 0 0] := by rw [hqp1]; have q_ := CellsAt.new w1 27 #[.slice none 0 0, .int .i64 0, .bool false, .slice none 0 0]; first | exact q_ | simpa using q_
 have yp1 : Gr w u2 := by rw [hqp1]; exact z1.alloc _ _
 rw [← hqp1]
 clear hqp1
 refine (HLS.out _ (VS.out.gr (yp1))).mono ?_
 rintro e w2 ⟨rfl, g2⟩
 have ⟨Fb_2, lb_2⟩ := Yb_p1.gl g2
 have ⟨Fp_2, lp_2⟩ := Yp_p1.gl g2
 have ⟨Fc_2, lc_2⟩ := Yc_p1.gl g2
 have z2 := yp1.trans g2
 clear Yp_p1 Yb_p1 Yc_p1 yp1 g2
 obtain ⟨cp0, cp1, cp2, cp3, cp4, cp5⟩ := Fp_2.t6
 go_wp2_with fail
 clear cp0 cp1 cp2 cp3 cp4 cp5
 refine (HPL.out _).mono ?_
 rintro e w3 ⟨rfl, g3⟩
 have ⟨Fb_3, lb_3⟩ := Fb_2.gl g3
 have ⟨Fp_3, lp_3⟩ := Fp_2.gl g3
 have ⟨Fc_3, lc_3⟩ := Fc_2.gl g3
 have z3 := z2.trans g3
 clear Fp_2 Fb_2 Fc_2 z2 g3
 obtain ⟨cb0, cb1, cb2, cb3⟩ := Fb_3.t4
 obtain ⟨cp0, cp1, cp2, cp3, cp4, cp5⟩ := Fp_3.t6
 go_wp2_with fail
 clear cb0 cb1 cb2 cb3 cp0 cp1 cp2 cp3 cp4 cp5
 refine (HSH.out _ (VS.out.gr (z3))).mono ?_
 rintro e w4 ⟨rfl, g4⟩
 have ⟨Fb_4, lb_4⟩ := Fb_3.gl g4
 have ⟨Fp_4, lp_4⟩ := Fp_3.gl g4
 have ⟨Fc_4, lc_4⟩ := Fc_3.gl g4
 have z4 := z3.trans g4
 clear Fp_3 Fb_3 Fc_3 z3 g4
 obtain ⟨cb0, cb1, cb2, cb3⟩ := Fb_4.t4
 obtain ⟨cp0, cp1, cp2, cp3, cp4, cp5⟩ := Fp_4.t6
 go_wp2_with fail
 clear cb0 cb1 cb2 cb3 cp0 cp1 cp2 cp3 cp4 cp5
 refine (HOF.out _ (VS.out.gr (z4))).mono ?_
 rintro e w5 ⟨rfl, g5⟩
 have ⟨Fb_5, lb_5⟩ := Fb_4.gl g5
 have ⟨Fp_5, lp_5⟩ := Fp_4.gl g5
 have ⟨Fc_5, lc_5⟩ := Fc_4.gl g5
 have z5 := z4.trans g5
 clear Fp_4 Fb_4 Fc_4 z4 g5
 go_wp2_with fail
 refine (AL.out _).mono ?_
 rintro e w6 ⟨rfl, g6⟩
 have ⟨Fb_6, lb_6⟩ := Fb_5.gl g6
 have ⟨Fp_6, lp_6⟩ := Fp_5.gl g6
 have ⟨Fc_6, lc_6⟩ := Fc_5.gl g6
 have z6 := z5.trans g6
 clear Fp_5 Fb_5 Fc_5 z5 g6
 obtain ⟨cb0, cb1, cb2, cb3⟩ := Fb_6.t4
 obtain ⟨cp0, cp1, cp2, cp3, cp4, cp5⟩ := Fp_6.t6
 go_wp2_with fail
 clear cb0 cb1 cb2 cb3 cp0 cp1 cp2 cp3 cp4 cp5
 refine (HM.out _ (VY.out.gr (z6))).mono ?_
 rintro e w7 ⟨rfl, g7⟩
 have ⟨Fb_7, lb_7⟩ := Fb_6.gl g7
 have ⟨Fp_7, lp_7⟩ := Fp_6.gl g7
 have ⟨Fc_7, lc_7⟩ := Fc_6.gl g7
 have z7 := z6.trans g7
 clear Fp_6 Fb_6 Fc_6 z6 g7
 obtain ⟨cb0, cb1, cb2, cb3⟩ := Fb_7.t4
 obtain ⟨cc0, cc1, cc2, cc3⟩ := Fc_7.t4
 go_wp2_with fail
 clear cb0 cb1 cb2 cb3 cc0 cc1 cc2 cc3
 refine (same15_c (.slice none 0 0) (.slice none 0 0) (.slice none 0 0) (.slice none 0 0) 0 false [] [] _ ⟨none, 0, rfl, Nat.le_refl _, Nat.zero_le _, fun h => absurd rfl h⟩ (NumsAt.nil _) ⟨none, 0, rfl, Nat.le_refl _, Nat.zero_le _, fun h => absurd rfl h⟩ (NumsAt.nil _)).mono ?_
 rintro e w8 ⟨rfl, g8⟩
 have ⟨Fb_8, lb_8⟩ := Fb_7.gl g8
 have ⟨Fp_8, lp_8⟩ := Fp_7.gl g8
 have ⟨Fc_8, lc_8⟩ := Fc_7.gl g8
 have z8 := z7.trans g8
 clear Fp_7 Fb_7 Fc_7 z7 g8
 go_wp2_with fail
 go_ret
 exact ⟨by first | rfl | (simp; done), z8⟩
set_option maxHeartbeats 8000000 in
theorem unt18_Mn (q sp : Option Addr) (l2 cap2 m2 l3 cap3 m3 : Nat) (fo lo ke sc mo ex : Int) (iv sa : Bool) (ys : List Gi) (ls : List Int) (hm2 : m2 ≤ cap2) (hmin2 : (if (70 : Int) < (l2 : Int) then 70 else (l2 : Int)) = (m2 : Int)) (hm3 : m3 ≤ cap3) (hmin3 : (if (10 : Int) < (l3 : Int) then 10 else (l3 : Int)) = (m3 : Int)) (y0 : Int) (hy0 : ¬ y0 = 0) (hyb : (y0 == 0) = false) (HU : Hid (∀ W, CxsAt W (.slice q m2 cap2) ys → NumsAt W (.slice sp m3 cap3) ls → Calls Tryz.prog 19 #[.agg #[.slice q m2 cap2, .int .i64 ex, .bool sa, .slice sp m3 cap3], .agg #[.int .i64 fo, .int .i64 lo, .int .i64 ke, .int .i64 sc, .int .i64 mo, .bool iv]] W fun e w' => e = .returned (.tuple #[.agg #[.slice none 0 0, .int .i64 0, .bool false, .slice none 0 0], .int .i64 y0]) ∧ Gr W w'))
 (HLS : Hid (∀ W, NumsAt W (.slice sp m3 cap3) ls → Calls Tryz.prog 20 #[.agg #[.int .i64 fo, .int .i64 lo, .int .i64 ke, .int .i64 sc, .int .i64 mo, .bool iv], .slice sp m3 cap3] W fun e w' => e = .returned (.tuple #[.int .i64 0, .int .i64 1]) ∧ Gr W w'))
 (HPL : CR 14 #[.agg #[.int .i64 fo, .int .i64 lo, .int .i64 ke, .int .i64 sc, .int .i64 mo, .bool iv]] (.bool true))
 (HSH : Hid (∀ W, NumsAt W (.slice sp m3 cap3) ls → Calls Tryz.prog 21 #[.agg #[.int .i64 fo, .int .i64 lo, .int .i64 ke, .int .i64 sc, .int .i64 mo, .bool iv], .slice sp m3 cap3] W fun e w' => e = .returned (.bool false) ∧ Gr W w'))
 (HM : Hid (∀ W, CxsAt W (.slice q m2 cap2) ys → Calls Tryz.prog 16 #[.slice q m2 cap2, .agg #[.int .i64 fo, .int .i64 lo, .int .i64 ke, .int .i64 sc, .int .i64 mo, .bool iv], .bool true] W fun e w' => e = .returned (.int .i64 y0) ∧ Gr W w')) (AL : CR 12 #[] (.bool true)) (w : World) (hy : CxsAt w (.slice q m2 cap2) ys) (hs : NumsAt w (.slice sp m3 cap3) ls) :
 CW 4 #[.agg #[.slice q l2 cap2, .int .i64 ex, .bool sa, .slice sp l3 cap3], .agg #[.int .i64 fo, .int .i64 lo, .int .i64 ke, .int .i64 sc, .int .i64 mo, .bool iv]] w (.bool true) :=by
 delta CW
 have hcut2 := run_cut_cx q l2 cap2 m2 hm2
 have hcut3 := run_cut_int sp l3 cap3 m3 hm3
 have VY := Lib.hid hy
 have VS := Lib.hid hs
 clear hy hs
 go_enter Tryz.func4, Tryz.ntmps4
 go_wp2_with fail
 obtain ⟨u0, hU⟩ : ∃ uu, uu = ((w.alloc (.cells #[.slice q l2 cap2, .int .i64 ex, .bool sa, .slice sp l3 cap3] 27)).alloc (.cells #[.int .i64 fo, .int .i64 lo, .int .i64 ke, .int .i64 sc, .int .i64 mo, .bool iv] 24)) := ⟨_, rfl⟩
 have ⟨gu, R0, R1⟩ := lay2 hU
 rw [← hU]
 clear hU
 have lb := R0.lt
 have lp := R1.lt
 have c0 := R0.cell 0
 have c3 := R0.cell 3
 simp only [getS] at c0 c3
 have m0f := R0.frozen 0
 have m3f := R0.frozen 3
 go_region
 clear c0 c3 m0f m3f hcut2 hcut3
 obtain ⟨u1, hq⟩ : ∃ zz, zz = (((u0.setCell ⟨w.heap.size, 0, none⟩ (.slice q m2 cap2)).setCell ⟨w.heap.size, 3, none⟩ (.slice sp m3 cap3)).drew) := ⟨_, rfl⟩
 have S1 : CellsAt u1 (w.heap.size + 1) 24 #[.int .i64 fo, .int .i64 lo, .int .i64 ke, .int .i64 sc, .int .i64 mo, .bool iv] := by rw [hq]; exact ((R1.ot).ot).gr (Gr.drew (Gr.refl _))
 have S0 : CellsAt u1 w.heap.size 27 #[.slice q m2 cap2, .int .i64 ex, .bool sa, .slice sp m3 cap3] := by rw [hq]; exact ((R0.set 0 (.slice q m2 cap2)).set 3 (.slice sp m3 cap3)).gr (Gr.drew (Gr.refl _))
 have s1 : Gr w u1 := by rw [hq]; exact ((gu.setCell (by simp) _).setCell (by simp) _).drew
 rw [← hq]
 clear hq R0 R1 gu lb lp
 have lp := S1.lt
 have lb := S0.lt
 obtain ⟨cb0, cb1, cb2, cb3⟩ := S0.t4
 obtain ⟨cp0, cp1, cp2, cp3, cp4, cp5⟩ := S1.t6
 go_wp2_with fail
 clear cb0 cb1 cb2 cb3 cp0 cp1 cp2 cp3 cp4 cp5
 refine (HU.out _ (VY.out.gr (s1)) (VS.out.gr (s1))).mono ?_
 rintro e w1 ⟨rfl, g1⟩
 have ⟨Fb_1, lb_1⟩ := S0.gl g1
 have ⟨Fp_1, lp_1⟩ := S1.gl g1
 have z1 := s1.trans g1
 clear S1 S0 s1 g1
 obtain ⟨cb0, cb1, cb2, cb3⟩ := Fb_1.t4
 obtain ⟨cp0, cp1, cp2, cp3, cp4, cp5⟩ := Fp_1.t6
 go_wp2_with fail
 clear cb0 cb1 cb2 cb3 cp0 cp1 cp2 cp3 cp4 cp5
 obtain ⟨u2, hqp1⟩ : ∃ zz, zz = (w1.alloc (.cells #[.slice none 0 0, .int .i64 0, .bool false, .slice none 0 0] 27)) := ⟨_, rfl⟩
 have Yb_p1 : CellsAt u2 (w.heap.size) 27 #[.slice q m2 cap2, .int .i64 ex, .bool sa, .slice sp m3 cap3] := by rw [hqp1]; first | exact Fb_1.alloc _ | simpa using Fb_1.alloc _
 have Yp_p1 : CellsAt u2 (w.heap.size + 1) 24 #[.int .i64 fo, .int .i64 lo, .int .i64 ke, .int .i64 sc, .int .i64 mo, .bool iv] := by rw [hqp1]; first | exact Fp_1.alloc _ | simpa using Fp_1.alloc _
 have Yc_p1 : CellsAt u2 (w1.heap.size) 27 #[.slice none 0 0, .int .i64 0, .bool false, .slice none 0 0] := by rw [hqp1]; have q_ := CellsAt.new w1 27 #[.slice none 0 0, .int .i64 0, .bool false, .slice none 0 0]; first | exact q_ | simpa using q_
 have yp1 : Gr w u2 := by rw [hqp1]; exact z1.alloc _ _
 rw [← hqp1]
 clear hqp1
 refine (HLS.out _ (VS.out.gr (yp1))).mono ?_
 rintro e w2 ⟨rfl, g2⟩
 have ⟨Fb_2, lb_2⟩ := Yb_p1.gl g2
 have ⟨Fp_2, lp_2⟩ := Yp_p1.gl g2
 have ⟨Fc_2, lc_2⟩ := Yc_p1.gl g2
 have z2 := yp1.trans g2
 clear Yp_p1 Yb_p1 Yc_p1 yp1 g2
 obtain ⟨cp0, cp1, cp2, cp3, cp4, cp5⟩ := Fp_2.t6
 go_wp2_with fail
 clear cp0 cp1 cp2 cp3 cp4 cp5
 refine (HPL.out _).mono ?_
 rintro e w3 ⟨rfl, g3⟩
 have ⟨Fb_3, lb_3⟩ := Fb_2.gl g3
 have ⟨Fp_3, lp_3⟩ := Fp_2.gl g3
 have ⟨Fc_3, lc_3⟩ := Fc_2.gl g3
 have z3 := z2.trans g3
 clear Fp_2 Fb_2 Fc_2 z2 g3
 obtain ⟨cb0, cb1, cb2, cb3⟩ := Fb_3.t4
 obtain ⟨cp0, cp1, cp2, cp3, cp4, cp5⟩ := Fp_3.t6
 go_wp2_with fail
 clear cb0 cb1 cb2 cb3 cp0 cp1 cp2 cp3 cp4 cp5
 refine (HSH.out _ (VS.out.gr (z3))).mono ?_
 rintro e w4 ⟨rfl, g4⟩
 have ⟨Fb_4, lb_4⟩ := Fb_3.gl g4
 have ⟨Fp_4, lp_4⟩ := Fp_3.gl g4
 have ⟨Fc_4, lc_4⟩ := Fc_3.gl g4
 have z4 := z3.trans g4
 clear Fp_3 Fb_3 Fc_3 z3 g4
 obtain ⟨cb0, cb1, cb2, cb3⟩ := Fb_4.t4
 obtain ⟨cp0, cp1, cp2, cp3, cp4, cp5⟩ := Fp_4.t6
 go_wp2_with fail
 clear cb0 cb1 cb2 cb3 cp0 cp1 cp2 cp3 cp4 cp5
 refine (AL.out _).mono ?_
 rintro e w5 ⟨rfl, g5⟩
 have ⟨Fb_5, lb_5⟩ := Fb_4.gl g5
 have ⟨Fp_5, lp_5⟩ := Fp_4.gl g5
 have ⟨Fc_5, lc_5⟩ := Fc_4.gl g5
 have z5 := z4.trans g5
 clear Fp_4 Fb_4 Fc_4 z4 g5
 obtain ⟨cb0, cb1, cb2, cb3⟩ := Fb_5.t4
 obtain ⟨cp0, cp1, cp2, cp3, cp4, cp5⟩ := Fp_5.t6
 go_wp2_with fail
 clear cb0 cb1 cb2 cb3 cp0 cp1 cp2 cp3 cp4 cp5
 refine (HM.out _ (VY.out.gr (z5))).mono ?_
 rintro e w6 ⟨rfl, g6⟩
 have ⟨Fb_6, lb_6⟩ := Fb_5.gl g6
 have ⟨Fp_6, lp_6⟩ := Fp_5.gl g6
 have ⟨Fc_6, lc_6⟩ := Fc_5.gl g6
 have z6 := z5.trans g6
 clear Fp_5 Fb_5 Fc_5 z5 g6
 obtain ⟨cb0, cb1, cb2, cb3⟩ := Fb_6.t4
 obtain ⟨cc0, cc1, cc2, cc3⟩ := Fc_6.t4
 go_wp2_with fail
 clear cb0 cb1 cb2 cb3 cc0 cc1 cc2 cc3
 refine (same15_c (.slice none 0 0) (.slice none 0 0) (.slice none 0 0) (.slice none 0 0) 0 false [] [] _ ⟨none, 0, rfl, Nat.le_refl _, Nat.zero_le _, fun h => absurd rfl h⟩ (NumsAt.nil _) ⟨none, 0, rfl, Nat.le_refl _, Nat.zero_le _, fun h => absurd rfl h⟩ (NumsAt.nil _)).mono ?_
 rintro e w7 ⟨rfl, g7⟩
 have ⟨Fb_7, lb_7⟩ := Fb_6.gl g7
 have ⟨Fp_7, lp_7⟩ := Fp_6.gl g7
 have ⟨Fc_7, lc_7⟩ := Fc_6.gl g7
 have z7 := z6.trans g7
 clear Fp_6 Fb_6 Fc_6 z6 g7
 go_wp2_with fail
 go_ret
 exact ⟨by first | rfl | (simp; done), z7⟩
set_option maxHeartbeats 8000000 in
theorem unt18_ly (q sp : Option Addr) (l2 cap2 m2 l3 cap3 m3 : Nat) (fo lo ke sc mo ex : Int) (iv sa : Bool) (ys : List Gi) (ls : List Int) (hm2 : m2 ≤ cap2) (hmin2 : (if (70 : Int) < (l2 : Int) then 70 else (l2 : Int)) = (m2 : Int)) (hm3 : m3 ≤ cap3) (hmin3 : (if (10 : Int) < (l3 : Int) then 10 else (l3 : Int)) = (m3 : Int)) (n n0 : Int) (h1 : decide (ex < -100) = true) (HU : Hid (∀ W, CxsAt W (.slice q m2 cap2) ys → NumsAt W (.slice sp m3 cap3) ls → Calls Tryz.prog 19 #[.agg #[.slice q m2 cap2, .int .i64 ex, .bool sa, .slice sp m3 cap3], .agg #[.int .i64 fo, .int .i64 lo, .int .i64 ke, .int .i64 sc, .int .i64 mo, .bool iv]] W fun e w' => e = .returned (.tuple #[.agg #[.slice none 0 0, .int .i64 0, .bool false, .slice none 0 0], .int .i64 2]) ∧ Gr W w'))
 (HLS : Hid (∀ W, NumsAt W (.slice sp m3 cap3) ls → Calls Tryz.prog 20 #[.agg #[.int .i64 fo, .int .i64 lo, .int .i64 ke, .int .i64 sc, .int .i64 mo, .bool iv], .slice sp m3 cap3] W fun e w' => e = .returned (.tuple #[.int .i64 n, .int .i64 0]) ∧ Gr W w'))
 (HPL : CR 14 #[.agg #[.int .i64 fo, .int .i64 lo, .int .i64 ke, .int .i64 sc, .int .i64 mo, .bool iv]] (.bool true))
 (HSH : Hid (∀ W, NumsAt W (.slice sp m3 cap3) ls → Calls Tryz.prog 21 #[.agg #[.int .i64 fo, .int .i64 lo, .int .i64 ke, .int .i64 sc, .int .i64 mo, .bool iv], .slice sp m3 cap3] W fun e w' => e = .returned (.bool true) ∧ Gr W w'))
 (hn : IntKind.i64.wrap (n0 + 256) = n) (HOF : Hid (∀ W, NumsAt W (.slice sp m3 cap3) ls → Calls Tryz.prog 22 #[.agg #[.int .i64 fo, .int .i64 lo, .int .i64 ke, .int .i64 sc, .int .i64 mo, .bool iv], .slice sp m3 cap3] W fun e w' => e = .returned (.int .i64 n0) ∧ Gr W w'))
 (HM : Hid (∀ W, CxsAt W (.slice q m2 cap2) ys → Calls Tryz.prog 16 #[.slice q m2 cap2, .agg #[.int .i64 fo, .int .i64 lo, .int .i64 ke, .int .i64 sc, .int .i64 mo, .bool iv], .bool true] W fun e w' => e = .returned (.int .i64 0) ∧ Gr W w')) (AL : CR 12 #[] (.bool true)) (w : World) (hy : CxsAt w (.slice q m2 cap2) ys) (hs : NumsAt w (.slice sp m3 cap3) ls) :
 CW 4 #[.agg #[.slice q l2 cap2, .int .i64 ex, .bool sa, .slice sp l3 cap3], .agg #[.int .i64 fo, .int .i64 lo, .int .i64 ke, .int .i64 sc, .int .i64 mo, .bool iv]] w (.bool true) :=by
 delta CW
 have hcut2 := run_cut_cx q l2 cap2 m2 hm2
 have hcut3 := run_cut_int sp l3 cap3 m3 hm3
 have VY := Lib.hid hy
 have VS := Lib.hid hs
 clear hy hs
 go_enter Tryz.func4, Tryz.ntmps4
 go_wp2_with fail
 obtain ⟨u0, hU⟩ : ∃ uu, uu = ((w.alloc (.cells #[.slice q l2 cap2, .int .i64 ex, .bool sa, .slice sp l3 cap3] 27)).alloc (.cells #[.int .i64 fo, .int .i64 lo, .int .i64 ke, .int .i64 sc, .int .i64 mo, .bool iv] 24)) := ⟨_, rfl⟩
 have ⟨gu, R0, R1⟩ := lay2 hU
 rw [← hU]
 clear hU
 have lb := R0.lt
 have lp := R1.lt
 have c0 := R0.cell 0
 have c3 := R0.cell 3
 simp only [getS] at c0 c3
 have m0f := R0.frozen 0
 have m3f := R0.frozen 3
 go_region
 clear c0 c3 m0f m3f hcut2 hcut3
 obtain ⟨u1, hq⟩ : ∃ zz, zz = (((u0.setCell ⟨w.heap.size, 0, none⟩ (.slice q m2 cap2)).setCell ⟨w.heap.size, 3, none⟩ (.slice sp m3 cap3)).drew) := ⟨_, rfl⟩
 have S1 : CellsAt u1 (w.heap.size + 1) 24 #[.int .i64 fo, .int .i64 lo, .int .i64 ke, .int .i64 sc, .int .i64 mo, .bool iv] := by rw [hq]; exact ((R1.ot).ot).gr (Gr.drew (Gr.refl _))
 have S0 : CellsAt u1 w.heap.size 27 #[.slice q m2 cap2, .int .i64 ex, .bool sa, .slice sp m3 cap3] := by rw [hq]; exact ((R0.set 0 (.slice q m2 cap2)).set 3 (.slice sp m3 cap3)).gr (Gr.drew (Gr.refl _))
 have s1 : Gr w u1 := by rw [hq]; exact ((gu.setCell (by simp) _).setCell (by simp) _).drew
 rw [← hq]
 clear hq R0 R1 gu lb lp
 have lp := S1.lt
 have lb := S0.lt
 obtain ⟨cb0, cb1, cb2, cb3⟩ := S0.t4
 obtain ⟨cp0, cp1, cp2, cp3, cp4, cp5⟩ := S1.t6
 go_wp2_with fail
 clear cb0 cb1 cb2 cb3 cp0 cp1 cp2 cp3 cp4 cp5
 refine (HU.out _ (VY.out.gr (s1)) (VS.out.gr (s1))).mono ?_
 rintro e w1 ⟨rfl, g1⟩
 have ⟨Fb_1, lb_1⟩ := S0.gl g1
 have ⟨Fp_1, lp_1⟩ := S1.gl g1
 have z1 := s1.trans g1
 clear S1 S0 s1 g1
 obtain ⟨cb0, cb1, cb2, cb3⟩ := Fb_1.t4
 obtain ⟨cp0, cp1, cp2, cp3, cp4, cp5⟩ := Fp_1.t6
 go_wp2_with fail
 clear cb0 cb1 cb2 cb3 cp0 cp1 cp2 cp3 cp4 cp5
 obtain ⟨u2, hqp1⟩ : ∃ zz, zz = (w1.alloc (.cells #[.slice none 0 0, .int .i64 0, .bool false, .slice none 0 0] 27)) := ⟨_, rfl⟩
 have Yb_p1 : CellsAt u2 (w.heap.size) 27 #[.slice q m2 cap2, .int .i64 ex, .bool sa, .slice sp m3 cap3] := by rw [hqp1]; first | exact Fb_1.alloc _ | simpa using Fb_1.alloc _
 have Yp_p1 : CellsAt u2 (w.heap.size + 1) 24 #[.int .i64 fo, .int .i64 lo, .int .i64 ke, .int .i64 sc, .int .i64 mo, .bool iv] := by rw [hqp1]; first | exact Fp_1.alloc _ | simpa using Fp_1.alloc _
 have Yc_p1 : CellsAt u2 (w1.heap.size) 27 #[.slice none 0 0, .int .i64 0, .bool false, .slice none 0 0] := by rw [hqp1]; have q_ := CellsAt.new w1 27 #[.slice none 0 0, .int .i64 0, .bool false, .slice none 0 0]; first | exact q_ | simpa using q_
 have yp1 : Gr w u2 := by rw [hqp1]; exact z1.alloc _ _
 rw [← hqp1]
 clear hqp1
 refine (HLS.out _ (VS.out.gr (yp1))).mono ?_
 rintro e w2 ⟨rfl, g2⟩
 have ⟨Fb_2, lb_2⟩ := Yb_p1.gl g2
 have ⟨Fp_2, lp_2⟩ := Yp_p1.gl g2
 have ⟨Fc_2, lc_2⟩ := Yc_p1.gl g2
 have z2 := yp1.trans g2
 clear Yp_p1 Yb_p1 Yc_p1 yp1 g2
 obtain ⟨cp0, cp1, cp2, cp3, cp4, cp5⟩ := Fp_2.t6
 go_wp2_with fail
 clear cp0 cp1 cp2 cp3 cp4 cp5
 refine (HPL.out _).mono ?_
 rintro e w3 ⟨rfl, g3⟩
 have ⟨Fb_3, lb_3⟩ := Fb_2.gl g3
 have ⟨Fp_3, lp_3⟩ := Fp_2.gl g3
 have ⟨Fc_3, lc_3⟩ := Fc_2.gl g3
 have z3 := z2.trans g3
 clear Fp_2 Fb_2 Fc_2 z2 g3
 obtain ⟨cb0, cb1, cb2, cb3⟩ := Fb_3.t4
 obtain ⟨cp0, cp1, cp2, cp3, cp4, cp5⟩ := Fp_3.t6
 go_wp2_with fail
 clear cb0 cb1 cb2 cb3 cp0 cp1 cp2 cp3 cp4 cp5
 refine (HSH.out _ (VS.out.gr (z3))).mono ?_
 rintro e w4 ⟨rfl, g4⟩
 have ⟨Fb_4, lb_4⟩ := Fb_3.gl g4
 have ⟨Fp_4, lp_4⟩ := Fp_3.gl g4
 have ⟨Fc_4, lc_4⟩ := Fc_3.gl g4
 have z4 := z3.trans g4
 clear Fp_3 Fb_3 Fc_3 z3 g4
 obtain ⟨cb0, cb1, cb2, cb3⟩ := Fb_4.t4
 obtain ⟨cp0, cp1, cp2, cp3, cp4, cp5⟩ := Fp_4.t6
 go_wp2_with fail
 clear cb0 cb1 cb2 cb3 cp0 cp1 cp2 cp3 cp4 cp5
 refine (HOF.out _ (VS.out.gr (z4))).mono ?_
 rintro e w5 ⟨rfl, g5⟩
 have ⟨Fb_5, lb_5⟩ := Fb_4.gl g5
 have ⟨Fp_5, lp_5⟩ := Fp_4.gl g5
 have ⟨Fc_5, lc_5⟩ := Fc_4.gl g5
 have z5 := z4.trans g5
 clear Fp_4 Fb_4 Fc_4 z4 g5
 go_wp2_with fail
 refine (AL.out _).mono ?_
 rintro e w6 ⟨rfl, g6⟩
 have ⟨Fb_6, lb_6⟩ := Fb_5.gl g6
 have ⟨Fp_6, lp_6⟩ := Fp_5.gl g6
 have ⟨Fc_6, lc_6⟩ := Fc_5.gl g6
 have z6 := z5.trans g6
 clear Fp_5 Fb_5 Fc_5 z5 g6
 obtain ⟨cb0, cb1, cb2, cb3⟩ := Fb_6.t4
 obtain ⟨cp0, cp1, cp2, cp3, cp4, cp5⟩ := Fp_6.t6
 go_wp2_with fail
 clear cb0 cb1 cb2 cb3 cp0 cp1 cp2 cp3 cp4 cp5
 refine (HM.out _ (VY.out.gr (z6))).mono ?_
 rintro e w7 ⟨rfl, g7⟩
 have ⟨Fb_7, lb_7⟩ := Fb_6.gl g7
 have ⟨Fp_7, lp_7⟩ := Fp_6.gl g7
 have ⟨Fc_7, lc_7⟩ := Fc_6.gl g7
 have z7 := z6.trans g7
 clear Fp_6 Fb_6 Fc_6 z6 g7
 obtain ⟨cb0, cb1, cb2, cb3⟩ := Fb_7.t4
 obtain ⟨cc0, cc1, cc2, cc3⟩ := Fc_7.t4
 go_wp2_with fail
 clear cb0 cb1 cb2 cb3 cc0 cc1 cc2 cc3
 refine (same15_c (.slice none 0 0) (.slice none 0 0) (.slice none 0 0) (.slice none 0 0) 0 false [] [] _ ⟨none, 0, rfl, Nat.le_refl _, Nat.zero_le _, fun h => absurd rfl h⟩ (NumsAt.nil _) ⟨none, 0, rfl, Nat.le_refl _, Nat.zero_le _, fun h => absurd rfl h⟩ (NumsAt.nil _)).mono ?_
 rintro e w8 ⟨rfl, g8⟩
 have ⟨Fb_8, lb_8⟩ := Fb_7.gl g8
 have ⟨Fp_8, lp_8⟩ := Fp_7.gl g8
 have ⟨Fc_8, lc_8⟩ := Fc_7.gl g8
 have z8 := z7.trans g8
 clear Fp_7 Fb_7 Fc_7 z7 g8
 go_wp2_with fail
 go_ret
 exact ⟨by first | rfl | (simp; done), z8⟩
set_option maxHeartbeats 8000000 in
theorem unt18_ln (q sp : Option Addr) (l2 cap2 m2 l3 cap3 m3 : Nat) (fo lo ke sc mo ex : Int) (iv sa : Bool) (ys : List Gi) (ls : List Int) (hm2 : m2 ≤ cap2) (hmin2 : (if (70 : Int) < (l2 : Int) then 70 else (l2 : Int)) = (m2 : Int)) (hm3 : m3 ≤ cap3) (hmin3 : (if (10 : Int) < (l3 : Int) then 10 else (l3 : Int)) = (m3 : Int)) (h1 : decide (ex < -100) = true) (HU : Hid (∀ W, CxsAt W (.slice q m2 cap2) ys → NumsAt W (.slice sp m3 cap3) ls → Calls Tryz.prog 19 #[.agg #[.slice q m2 cap2, .int .i64 ex, .bool sa, .slice sp m3 cap3], .agg #[.int .i64 fo, .int .i64 lo, .int .i64 ke, .int .i64 sc, .int .i64 mo, .bool iv]] W fun e w' => e = .returned (.tuple #[.agg #[.slice none 0 0, .int .i64 0, .bool false, .slice none 0 0], .int .i64 2]) ∧ Gr W w'))
 (HLS : Hid (∀ W, NumsAt W (.slice sp m3 cap3) ls → Calls Tryz.prog 20 #[.agg #[.int .i64 fo, .int .i64 lo, .int .i64 ke, .int .i64 sc, .int .i64 mo, .bool iv], .slice sp m3 cap3] W fun e w' => e = .returned (.tuple #[.int .i64 0, .int .i64 1]) ∧ Gr W w'))
 (HPL : CR 14 #[.agg #[.int .i64 fo, .int .i64 lo, .int .i64 ke, .int .i64 sc, .int .i64 mo, .bool iv]] (.bool true))
 (HSH : Hid (∀ W, NumsAt W (.slice sp m3 cap3) ls → Calls Tryz.prog 21 #[.agg #[.int .i64 fo, .int .i64 lo, .int .i64 ke, .int .i64 sc, .int .i64 mo, .bool iv], .slice sp m3 cap3] W fun e w' => e = .returned (.bool false) ∧ Gr W w'))
 (HM : Hid (∀ W, CxsAt W (.slice q m2 cap2) ys → Calls Tryz.prog 16 #[.slice q m2 cap2, .agg #[.int .i64 fo, .int .i64 lo, .int .i64 ke, .int .i64 sc, .int .i64 mo, .bool iv], .bool true] W fun e w' => e = .returned (.int .i64 0) ∧ Gr W w')) (AL : CR 12 #[] (.bool true)) (w : World) (hy : CxsAt w (.slice q m2 cap2) ys) (hs : NumsAt w (.slice sp m3 cap3) ls) :
 CW 4 #[.agg #[.slice q l2 cap2, .int .i64 ex, .bool sa, .slice sp l3 cap3], .agg #[.int .i64 fo, .int .i64 lo, .int .i64 ke, .int .i64 sc, .int .i64 mo, .bool iv]] w (.bool true) :=by
 delta CW
 have hcut2 := run_cut_cx q l2 cap2 m2 hm2
 have hcut3 := run_cut_int sp l3 cap3 m3 hm3
 have VY := Lib.hid hy
 have VS := Lib.hid hs
 clear hy hs
 go_enter Tryz.func4, Tryz.ntmps4
 go_wp2_with fail
 obtain ⟨u0, hU⟩ : ∃ uu, uu = ((w.alloc (.cells #[.slice q l2 cap2, .int .i64 ex, .bool sa, .slice sp l3 cap3] 27)).alloc (.cells #[.int .i64 fo, .int .i64 lo, .int .i64 ke, .int .i64 sc, .int .i64 mo, .bool iv] 24)) := ⟨_, rfl⟩
 have ⟨gu, R0, R1⟩ := lay2 hU
 rw [← hU]
 clear hU
 have lb := R0.lt
 have lp := R1.lt
 have c0 := R0.cell 0
 have c3 := R0.cell 3
 simp only [getS] at c0 c3
 have m0f := R0.frozen 0
 have m3f := R0.frozen 3
 go_region
 clear c0 c3 m0f m3f hcut2 hcut3
 obtain ⟨u1, hq⟩ : ∃ zz, zz = (((u0.setCell ⟨w.heap.size, 0, none⟩ (.slice q m2 cap2)).setCell ⟨w.heap.size, 3, none⟩ (.slice sp m3 cap3)).drew) := ⟨_, rfl⟩
 have S1 : CellsAt u1 (w.heap.size + 1) 24 #[.int .i64 fo, .int .i64 lo, .int .i64 ke, .int .i64 sc, .int .i64 mo, .bool iv] := by rw [hq]; exact ((R1.ot).ot).gr (Gr.drew (Gr.refl _))
 have S0 : CellsAt u1 w.heap.size 27 #[.slice q m2 cap2, .int .i64 ex, .bool sa, .slice sp m3 cap3] := by rw [hq]; exact ((R0.set 0 (.slice q m2 cap2)).set 3 (.slice sp m3 cap3)).gr (Gr.drew (Gr.refl _))
 have s1 : Gr w u1 := by rw [hq]; exact ((gu.setCell (by simp) _).setCell (by simp) _).drew
 rw [← hq]
 clear hq R0 R1 gu lb lp
 have lp := S1.lt
 have lb := S0.lt
 obtain ⟨cb0, cb1, cb2, cb3⟩ := S0.t4
 obtain ⟨cp0, cp1, cp2, cp3, cp4, cp5⟩ := S1.t6
 go_wp2_with fail
 clear cb0 cb1 cb2 cb3 cp0 cp1 cp2 cp3 cp4 cp5
 refine (HU.out _ (VY.out.gr (s1)) (VS.out.gr (s1))).mono ?_
 rintro e w1 ⟨rfl, g1⟩
 have ⟨Fb_1, lb_1⟩ := S0.gl g1
 have ⟨Fp_1, lp_1⟩ := S1.gl g1
 have z1 := s1.trans g1
 clear S1 S0 s1 g1
 obtain ⟨cb0, cb1, cb2, cb3⟩ := Fb_1.t4
 obtain ⟨cp0, cp1, cp2, cp3, cp4, cp5⟩ := Fp_1.t6
 go_wp2_with fail
 clear cb0 cb1 cb2 cb3 cp0 cp1 cp2 cp3 cp4 cp5
 obtain ⟨u2, hqp1⟩ : ∃ zz, zz = (w1.alloc (.cells #[.slice none 0 0, .int .i64 0, .bool false, .slice none 0 0] 27)) := ⟨_, rfl⟩
 have Yb_p1 : CellsAt u2 (w.heap.size) 27 #[.slice q m2 cap2, .int .i64 ex, .bool sa, .slice sp m3 cap3] := by rw [hqp1]; first | exact Fb_1.alloc _ | simpa using Fb_1.alloc _
 have Yp_p1 : CellsAt u2 (w.heap.size + 1) 24 #[.int .i64 fo, .int .i64 lo, .int .i64 ke, .int .i64 sc, .int .i64 mo, .bool iv] := by rw [hqp1]; first | exact Fp_1.alloc _ | simpa using Fp_1.alloc _
 have Yc_p1 : CellsAt u2 (w1.heap.size) 27 #[.slice none 0 0, .int .i64 0, .bool false, .slice none 0 0] := by rw [hqp1]; have q_ := CellsAt.new w1 27 #[.slice none 0 0, .int .i64 0, .bool false, .slice none 0 0]; first | exact q_ | simpa using q_
 have yp1 : Gr w u2 := by rw [hqp1]; exact z1.alloc _ _
 rw [← hqp1]
 clear hqp1
 refine (HLS.out _ (VS.out.gr (yp1))).mono ?_
 rintro e w2 ⟨rfl, g2⟩
 have ⟨Fb_2, lb_2⟩ := Yb_p1.gl g2
 have ⟨Fp_2, lp_2⟩ := Yp_p1.gl g2
 have ⟨Fc_2, lc_2⟩ := Yc_p1.gl g2
 have z2 := yp1.trans g2
 clear Yp_p1 Yb_p1 Yc_p1 yp1 g2
 obtain ⟨cp0, cp1, cp2, cp3, cp4, cp5⟩ := Fp_2.t6
 go_wp2_with fail
 clear cp0 cp1 cp2 cp3 cp4 cp5
 refine (HPL.out _).mono ?_
 rintro e w3 ⟨rfl, g3⟩
 have ⟨Fb_3, lb_3⟩ := Fb_2.gl g3
 have ⟨Fp_3, lp_3⟩ := Fp_2.gl g3
 have ⟨Fc_3, lc_3⟩ := Fc_2.gl g3
 have z3 := z2.trans g3
 clear Fp_2 Fb_2 Fc_2 z2 g3
 obtain ⟨cb0, cb1, cb2, cb3⟩ := Fb_3.t4
 obtain ⟨cp0, cp1, cp2, cp3, cp4, cp5⟩ := Fp_3.t6
 go_wp2_with fail
 clear cb0 cb1 cb2 cb3 cp0 cp1 cp2 cp3 cp4 cp5
 refine (HSH.out _ (VS.out.gr (z3))).mono ?_
 rintro e w4 ⟨rfl, g4⟩
 have ⟨Fb_4, lb_4⟩ := Fb_3.gl g4
 have ⟨Fp_4, lp_4⟩ := Fp_3.gl g4
 have ⟨Fc_4, lc_4⟩ := Fc_3.gl g4
 have z4 := z3.trans g4
 clear Fp_3 Fb_3 Fc_3 z3 g4
 obtain ⟨cb0, cb1, cb2, cb3⟩ := Fb_4.t4
 obtain ⟨cp0, cp1, cp2, cp3, cp4, cp5⟩ := Fp_4.t6
 go_wp2_with fail
 clear cb0 cb1 cb2 cb3 cp0 cp1 cp2 cp3 cp4 cp5
 refine (AL.out _).mono ?_
 rintro e w5 ⟨rfl, g5⟩
 have ⟨Fb_5, lb_5⟩ := Fb_4.gl g5
 have ⟨Fp_5, lp_5⟩ := Fp_4.gl g5
 have ⟨Fc_5, lc_5⟩ := Fc_4.gl g5
 have z5 := z4.trans g5
 clear Fp_4 Fb_4 Fc_4 z4 g5
 obtain ⟨cb0, cb1, cb2, cb3⟩ := Fb_5.t4
 obtain ⟨cp0, cp1, cp2, cp3, cp4, cp5⟩ := Fp_5.t6
 go_wp2_with fail
 clear cb0 cb1 cb2 cb3 cp0 cp1 cp2 cp3 cp4 cp5
 refine (HM.out _ (VY.out.gr (z5))).mono ?_
 rintro e w6 ⟨rfl, g6⟩
 have ⟨Fb_6, lb_6⟩ := Fb_5.gl g6
 have ⟨Fp_6, lp_6⟩ := Fp_5.gl g6
 have ⟨Fc_6, lc_6⟩ := Fc_5.gl g6
 have z6 := z5.trans g6
 clear Fp_5 Fb_5 Fc_5 z5 g6
 obtain ⟨cb0, cb1, cb2, cb3⟩ := Fb_6.t4
 obtain ⟨cc0, cc1, cc2, cc3⟩ := Fc_6.t4
 go_wp2_with fail
 clear cb0 cb1 cb2 cb3 cc0 cc1 cc2 cc3
 refine (same15_c (.slice none 0 0) (.slice none 0 0) (.slice none 0 0) (.slice none 0 0) 0 false [] [] _ ⟨none, 0, rfl, Nat.le_refl _, Nat.zero_le _, fun h => absurd rfl h⟩ (NumsAt.nil _) ⟨none, 0, rfl, Nat.le_refl _, Nat.zero_le _, fun h => absurd rfl h⟩ (NumsAt.nil _)).mono ?_
 rintro e w7 ⟨rfl, g7⟩
 have ⟨Fb_7, lb_7⟩ := Fb_6.gl g7
 have ⟨Fp_7, lp_7⟩ := Fp_6.gl g7
 have ⟨Fc_7, lc_7⟩ := Fc_6.gl g7
 have z7 := z6.trans g7
 clear Fp_6 Fb_6 Fc_6 z6 g7
 go_wp2_with fail
 go_ret
 exact ⟨by first | rfl | (simp; done), z7⟩
set_option maxHeartbeats 8000000 in
theorem unt18_hy (q sp : Option Addr) (l2 cap2 m2 l3 cap3 m3 : Nat) (fo lo ke sc mo ex : Int) (iv sa : Bool) (ys : List Gi) (ls : List Int) (hm2 : m2 ≤ cap2) (hmin2 : (if (70 : Int) < (l2 : Int) then 70 else (l2 : Int)) = (m2 : Int)) (hm3 : m3 ≤ cap3) (hmin3 : (if (10 : Int) < (l3 : Int) then 10 else (l3 : Int)) = (m3 : Int)) (n n0 : Int) (h1 : decide (ex < -100) = false) (h2 : decide (100 < ex) = true) (HU : Hid (∀ W, CxsAt W (.slice q m2 cap2) ys → NumsAt W (.slice sp m3 cap3) ls → Calls Tryz.prog 19 #[.agg #[.slice q m2 cap2, .int .i64 ex, .bool sa, .slice sp m3 cap3], .agg #[.int .i64 fo, .int .i64 lo, .int .i64 ke, .int .i64 sc, .int .i64 mo, .bool iv]] W fun e w' => e = .returned (.tuple #[.agg #[.slice none 0 0, .int .i64 0, .bool false, .slice none 0 0], .int .i64 2]) ∧ Gr W w'))
 (HLS : Hid (∀ W, NumsAt W (.slice sp m3 cap3) ls → Calls Tryz.prog 20 #[.agg #[.int .i64 fo, .int .i64 lo, .int .i64 ke, .int .i64 sc, .int .i64 mo, .bool iv], .slice sp m3 cap3] W fun e w' => e = .returned (.tuple #[.int .i64 n, .int .i64 0]) ∧ Gr W w'))
 (HPL : CR 14 #[.agg #[.int .i64 fo, .int .i64 lo, .int .i64 ke, .int .i64 sc, .int .i64 mo, .bool iv]] (.bool true))
 (HSH : Hid (∀ W, NumsAt W (.slice sp m3 cap3) ls → Calls Tryz.prog 21 #[.agg #[.int .i64 fo, .int .i64 lo, .int .i64 ke, .int .i64 sc, .int .i64 mo, .bool iv], .slice sp m3 cap3] W fun e w' => e = .returned (.bool true) ∧ Gr W w'))
 (hn : IntKind.i64.wrap (n0 + 256) = n) (HOF : Hid (∀ W, NumsAt W (.slice sp m3 cap3) ls → Calls Tryz.prog 22 #[.agg #[.int .i64 fo, .int .i64 lo, .int .i64 ke, .int .i64 sc, .int .i64 mo, .bool iv], .slice sp m3 cap3] W fun e w' => e = .returned (.int .i64 n0) ∧ Gr W w'))
 (HM : Hid (∀ W, CxsAt W (.slice q m2 cap2) ys → Calls Tryz.prog 16 #[.slice q m2 cap2, .agg #[.int .i64 fo, .int .i64 lo, .int .i64 ke, .int .i64 sc, .int .i64 mo, .bool iv], .bool true] W fun e w' => e = .returned (.int .i64 0) ∧ Gr W w')) (AL : CR 12 #[] (.bool true)) (w : World) (hy : CxsAt w (.slice q m2 cap2) ys) (hs : NumsAt w (.slice sp m3 cap3) ls) :
 CW 4 #[.agg #[.slice q l2 cap2, .int .i64 ex, .bool sa, .slice sp l3 cap3], .agg #[.int .i64 fo, .int .i64 lo, .int .i64 ke, .int .i64 sc, .int .i64 mo, .bool iv]] w (.bool true) :=by
 delta CW
 have hcut2 := run_cut_cx q l2 cap2 m2 hm2
 have hcut3 := run_cut_int sp l3 cap3 m3 hm3
 have VY := Lib.hid hy
 have VS := Lib.hid hs
 clear hy hs
 go_enter Tryz.func4, Tryz.ntmps4
 go_wp2_with fail
 obtain ⟨u0, hU⟩ : ∃ uu, uu = ((w.alloc (.cells #[.slice q l2 cap2, .int .i64 ex, .bool sa, .slice sp l3 cap3] 27)).alloc (.cells #[.int .i64 fo, .int .i64 lo, .int .i64 ke, .int .i64 sc, .int .i64 mo, .bool iv] 24)) := ⟨_, rfl⟩
 have ⟨gu, R0, R1⟩ := lay2 hU
 rw [← hU]
 clear hU
 have lb := R0.lt
 have lp := R1.lt
 have c0 := R0.cell 0
 have c3 := R0.cell 3
 simp only [getS] at c0 c3
 have m0f := R0.frozen 0
 have m3f := R0.frozen 3
 go_region
 clear c0 c3 m0f m3f hcut2 hcut3
 obtain ⟨u1, hq⟩ : ∃ zz, zz = (((u0.setCell ⟨w.heap.size, 0, none⟩ (.slice q m2 cap2)).setCell ⟨w.heap.size, 3, none⟩ (.slice sp m3 cap3)).drew) := ⟨_, rfl⟩
 have S1 : CellsAt u1 (w.heap.size + 1) 24 #[.int .i64 fo, .int .i64 lo, .int .i64 ke, .int .i64 sc, .int .i64 mo, .bool iv] := by rw [hq]; exact ((R1.ot).ot).gr (Gr.drew (Gr.refl _))
 have S0 : CellsAt u1 w.heap.size 27 #[.slice q m2 cap2, .int .i64 ex, .bool sa, .slice sp m3 cap3] := by rw [hq]; exact ((R0.set 0 (.slice q m2 cap2)).set 3 (.slice sp m3 cap3)).gr (Gr.drew (Gr.refl _))
 have s1 : Gr w u1 := by rw [hq]; exact ((gu.setCell (by simp) _).setCell (by simp) _).drew
 rw [← hq]
 clear hq R0 R1 gu lb lp
 have lp := S1.lt
 have lb := S0.lt
 obtain ⟨cb0, cb1, cb2, cb3⟩ := S0.t4
 obtain ⟨cp0, cp1, cp2, cp3, cp4, cp5⟩ := S1.t6
 go_wp2_with fail
 clear cb0 cb1 cb2 cb3 cp0 cp1 cp2 cp3 cp4 cp5
 refine (HU.out _ (VY.out.gr (s1)) (VS.out.gr (s1))).mono ?_
 rintro e w1 ⟨rfl, g1⟩
 have ⟨Fb_1, lb_1⟩ := S0.gl g1
 have ⟨Fp_1, lp_1⟩ := S1.gl g1
 have z1 := s1.trans g1
 clear S1 S0 s1 g1
 obtain ⟨cb0, cb1, cb2, cb3⟩ := Fb_1.t4
 obtain ⟨cp0, cp1, cp2, cp3, cp4, cp5⟩ := Fp_1.t6
 go_wp2_with fail
 clear cb0 cb1 cb2 cb3 cp0 cp1 cp2 cp3 cp4 cp5
 obtain ⟨u2, hqp1⟩ : ∃ zz, zz = (w1.alloc (.cells #[.slice none 0 0, .int .i64 0, .bool false, .slice none 0 0] 27)) := ⟨_, rfl⟩
 have Yb_p1 : CellsAt u2 (w.heap.size) 27 #[.slice q m2 cap2, .int .i64 ex, .bool sa, .slice sp m3 cap3] := by rw [hqp1]; first | exact Fb_1.alloc _ | simpa using Fb_1.alloc _
 have Yp_p1 : CellsAt u2 (w.heap.size + 1) 24 #[.int .i64 fo, .int .i64 lo, .int .i64 ke, .int .i64 sc, .int .i64 mo, .bool iv] := by rw [hqp1]; first | exact Fp_1.alloc _ | simpa using Fp_1.alloc _
 have Yc_p1 : CellsAt u2 (w1.heap.size) 27 #[.slice none 0 0, .int .i64 0, .bool false, .slice none 0 0] := by rw [hqp1]; have q_ := CellsAt.new w1 27 #[.slice none 0 0, .int .i64 0, .bool false, .slice none 0 0]; first | exact q_ | simpa using q_
 have yp1 : Gr w u2 := by rw [hqp1]; exact z1.alloc _ _
 rw [← hqp1]
 clear hqp1
 refine (HLS.out _ (VS.out.gr (yp1))).mono ?_
 rintro e w2 ⟨rfl, g2⟩
 have ⟨Fb_2, lb_2⟩ := Yb_p1.gl g2
 have ⟨Fp_2, lp_2⟩ := Yp_p1.gl g2
 have ⟨Fc_2, lc_2⟩ := Yc_p1.gl g2
 have z2 := yp1.trans g2
 clear Yp_p1 Yb_p1 Yc_p1 yp1 g2
 obtain ⟨cp0, cp1, cp2, cp3, cp4, cp5⟩ := Fp_2.t6
 go_wp2_with fail
 clear cp0 cp1 cp2 cp3 cp4 cp5
 refine (HPL.out _).mono ?_
 rintro e w3 ⟨rfl, g3⟩
 have ⟨Fb_3, lb_3⟩ := Fb_2.gl g3
 have ⟨Fp_3, lp_3⟩ := Fp_2.gl g3
 have ⟨Fc_3, lc_3⟩ := Fc_2.gl g3
 have z3 := z2.trans g3
 clear Fp_2 Fb_2 Fc_2 z2 g3
 obtain ⟨cb0, cb1, cb2, cb3⟩ := Fb_3.t4
 obtain ⟨cp0, cp1, cp2, cp3, cp4, cp5⟩ := Fp_3.t6
 go_wp2_with fail
 clear cb0 cb1 cb2 cb3 cp0 cp1 cp2 cp3 cp4 cp5
 refine (HSH.out _ (VS.out.gr (z3))).mono ?_
 rintro e w4 ⟨rfl, g4⟩
 have ⟨Fb_4, lb_4⟩ := Fb_3.gl g4
 have ⟨Fp_4, lp_4⟩ := Fp_3.gl g4
 have ⟨Fc_4, lc_4⟩ := Fc_3.gl g4
 have z4 := z3.trans g4
 clear Fp_3 Fb_3 Fc_3 z3 g4
 obtain ⟨cb0, cb1, cb2, cb3⟩ := Fb_4.t4
 obtain ⟨cp0, cp1, cp2, cp3, cp4, cp5⟩ := Fp_4.t6
 go_wp2_with fail
 clear cb0 cb1 cb2 cb3 cp0 cp1 cp2 cp3 cp4 cp5
 refine (HOF.out _ (VS.out.gr (z4))).mono ?_
 rintro e w5 ⟨rfl, g5⟩
 have ⟨Fb_5, lb_5⟩ := Fb_4.gl g5
 have ⟨Fp_5, lp_5⟩ := Fp_4.gl g5
 have ⟨Fc_5, lc_5⟩ := Fc_4.gl g5
 have z5 := z4.trans g5
 clear Fp_4 Fb_4 Fc_4 z4 g5
 go_wp2_with fail
 refine (AL.out _).mono ?_
 rintro e w6 ⟨rfl, g6⟩
 have ⟨Fb_6, lb_6⟩ := Fb_5.gl g6
 have ⟨Fp_6, lp_6⟩ := Fp_5.gl g6
 have ⟨Fc_6, lc_6⟩ := Fc_5.gl g6
 have z6 := z5.trans g6
 clear Fp_5 Fb_5 Fc_5 z5 g6
 obtain ⟨cb0, cb1, cb2, cb3⟩ := Fb_6.t4
 obtain ⟨cp0, cp1, cp2, cp3, cp4, cp5⟩ := Fp_6.t6
 go_wp2_with fail
 clear cb0 cb1 cb2 cb3 cp0 cp1 cp2 cp3 cp4 cp5
 refine (HM.out _ (VY.out.gr (z6))).mono ?_
 rintro e w7 ⟨rfl, g7⟩
 have ⟨Fb_7, lb_7⟩ := Fb_6.gl g7
 have ⟨Fp_7, lp_7⟩ := Fp_6.gl g7
 have ⟨Fc_7, lc_7⟩ := Fc_6.gl g7
 have z7 := z6.trans g7
 clear Fp_6 Fb_6 Fc_6 z6 g7
 obtain ⟨cb0, cb1, cb2, cb3⟩ := Fb_7.t4
 obtain ⟨cc0, cc1, cc2, cc3⟩ := Fc_7.t4
 go_wp2_with fail
 clear cb0 cb1 cb2 cb3 cc0 cc1 cc2 cc3
 refine (same15_c (.slice none 0 0) (.slice none 0 0) (.slice none 0 0) (.slice none 0 0) 0 false [] [] _ ⟨none, 0, rfl, Nat.le_refl _, Nat.zero_le _, fun h => absurd rfl h⟩ (NumsAt.nil _) ⟨none, 0, rfl, Nat.le_refl _, Nat.zero_le _, fun h => absurd rfl h⟩ (NumsAt.nil _)).mono ?_
 rintro e w8 ⟨rfl, g8⟩
 have ⟨Fb_8, lb_8⟩ := Fb_7.gl g8
 have ⟨Fp_8, lp_8⟩ := Fp_7.gl g8
 have ⟨Fc_8, lc_8⟩ := Fc_7.gl g8
 have z8 := z7.trans g8
 clear Fp_7 Fb_7 Fc_7 z7 g8
 go_wp2_with fail
 go_ret
 exact ⟨by first | rfl | (simp; done), z8⟩
set_option maxHeartbeats 8000000 in
theorem unt18_hn (q sp : Option Addr) (l2 cap2 m2 l3 cap3 m3 : Nat) (fo lo ke sc mo ex : Int) (iv sa : Bool) (ys : List Gi) (ls : List Int) (hm2 : m2 ≤ cap2) (hmin2 : (if (70 : Int) < (l2 : Int) then 70 else (l2 : Int)) = (m2 : Int)) (hm3 : m3 ≤ cap3) (hmin3 : (if (10 : Int) < (l3 : Int) then 10 else (l3 : Int)) = (m3 : Int)) (h1 : decide (ex < -100) = false) (h2 : decide (100 < ex) = true) (HU : Hid (∀ W, CxsAt W (.slice q m2 cap2) ys → NumsAt W (.slice sp m3 cap3) ls → Calls Tryz.prog 19 #[.agg #[.slice q m2 cap2, .int .i64 ex, .bool sa, .slice sp m3 cap3], .agg #[.int .i64 fo, .int .i64 lo, .int .i64 ke, .int .i64 sc, .int .i64 mo, .bool iv]] W fun e w' => e = .returned (.tuple #[.agg #[.slice none 0 0, .int .i64 0, .bool false, .slice none 0 0], .int .i64 2]) ∧ Gr W w'))
 (HLS : Hid (∀ W, NumsAt W (.slice sp m3 cap3) ls → Calls Tryz.prog 20 #[.agg #[.int .i64 fo, .int .i64 lo, .int .i64 ke, .int .i64 sc, .int .i64 mo, .bool iv], .slice sp m3 cap3] W fun e w' => e = .returned (.tuple #[.int .i64 0, .int .i64 1]) ∧ Gr W w'))
 (HPL : CR 14 #[.agg #[.int .i64 fo, .int .i64 lo, .int .i64 ke, .int .i64 sc, .int .i64 mo, .bool iv]] (.bool true))
 (HSH : Hid (∀ W, NumsAt W (.slice sp m3 cap3) ls → Calls Tryz.prog 21 #[.agg #[.int .i64 fo, .int .i64 lo, .int .i64 ke, .int .i64 sc, .int .i64 mo, .bool iv], .slice sp m3 cap3] W fun e w' => e = .returned (.bool false) ∧ Gr W w'))
 (HM : Hid (∀ W, CxsAt W (.slice q m2 cap2) ys → Calls Tryz.prog 16 #[.slice q m2 cap2, .agg #[.int .i64 fo, .int .i64 lo, .int .i64 ke, .int .i64 sc, .int .i64 mo, .bool iv], .bool true] W fun e w' => e = .returned (.int .i64 0) ∧ Gr W w')) (AL : CR 12 #[] (.bool true)) (w : World) (hy : CxsAt w (.slice q m2 cap2) ys) (hs : NumsAt w (.slice sp m3 cap3) ls) :
 CW 4 #[.agg #[.slice q l2 cap2, .int .i64 ex, .bool sa, .slice sp l3 cap3], .agg #[.int .i64 fo, .int .i64 lo, .int .i64 ke, .int .i64 sc, .int .i64 mo, .bool iv]] w (.bool true) :=by
 delta CW
 have hcut2 := run_cut_cx q l2 cap2 m2 hm2
 have hcut3 := run_cut_int sp l3 cap3 m3 hm3
 have VY := Lib.hid hy
 have VS := Lib.hid hs
 clear hy hs
 go_enter Tryz.func4, Tryz.ntmps4
 go_wp2_with fail
 obtain ⟨u0, hU⟩ : ∃ uu, uu = ((w.alloc (.cells #[.slice q l2 cap2, .int .i64 ex, .bool sa, .slice sp l3 cap3] 27)).alloc (.cells #[.int .i64 fo, .int .i64 lo, .int .i64 ke, .int .i64 sc, .int .i64 mo, .bool iv] 24)) := ⟨_, rfl⟩
 have ⟨gu, R0, R1⟩ := lay2 hU
 rw [← hU]
 clear hU
 have lb := R0.lt
 have lp := R1.lt
 have c0 := R0.cell 0
 have c3 := R0.cell 3
 simp only [getS] at c0 c3
 have m0f := R0.frozen 0
 have m3f := R0.frozen 3
 go_region
 clear c0 c3 m0f m3f hcut2 hcut3
 obtain ⟨u1, hq⟩ : ∃ zz, zz = (((u0.setCell ⟨w.heap.size, 0, none⟩ (.slice q m2 cap2)).setCell ⟨w.heap.size, 3, none⟩ (.slice sp m3 cap3)).drew) := ⟨_, rfl⟩
 have S1 : CellsAt u1 (w.heap.size + 1) 24 #[.int .i64 fo, .int .i64 lo, .int .i64 ke, .int .i64 sc, .int .i64 mo, .bool iv] := by rw [hq]; exact ((R1.ot).ot).gr (Gr.drew (Gr.refl _))
 have S0 : CellsAt u1 w.heap.size 27 #[.slice q m2 cap2, .int .i64 ex, .bool sa, .slice sp m3 cap3] := by rw [hq]; exact ((R0.set 0 (.slice q m2 cap2)).set 3 (.slice sp m3 cap3)).gr (Gr.drew (Gr.refl _))
 have s1 : Gr w u1 := by rw [hq]; exact ((gu.setCell (by simp) _).setCell (by simp) _).drew
 rw [← hq]
 clear hq R0 R1 gu lb lp
 have lp := S1.lt
 have lb := S0.lt
 obtain ⟨cb0, cb1, cb2, cb3⟩ := S0.t4
 obtain ⟨cp0, cp1, cp2, cp3, cp4, cp5⟩ := S1.t6
 go_wp2_with fail
 clear cb0 cb1 cb2 cb3 cp0 cp1 cp2 cp3 cp4 cp5
 refine (HU.out _ (VY.out.gr (s1)) (VS.out.gr (s1))).mono ?_
 rintro e w1 ⟨rfl, g1⟩
 have ⟨Fb_1, lb_1⟩ := S0.gl g1
 have ⟨Fp_1, lp_1⟩ := S1.gl g1
 have z1 := s1.trans g1
 clear S1 S0 s1 g1
 obtain ⟨cb0, cb1, cb2, cb3⟩ := Fb_1.t4
 obtain ⟨cp0, cp1, cp2, cp3, cp4, cp5⟩ := Fp_1.t6
 go_wp2_with fail
 clear cb0 cb1 cb2 cb3 cp0 cp1 cp2 cp3 cp4 cp5
 obtain ⟨u2, hqp1⟩ : ∃ zz, zz = (w1.alloc (.cells #[.slice none 0 0, .int .i64 0, .bool false, .slice none 0 0] 27)) := ⟨_, rfl⟩
 have Yb_p1 : CellsAt u2 (w.heap.size) 27 #[.slice q m2 cap2, .int .i64 ex, .bool sa, .slice sp m3 cap3] := by rw [hqp1]; first | exact Fb_1.alloc _ | simpa using Fb_1.alloc _
 have Yp_p1 : CellsAt u2 (w.heap.size + 1) 24 #[.int .i64 fo, .int .i64 lo, .int .i64 ke, .int .i64 sc, .int .i64 mo, .bool iv] := by rw [hqp1]; first | exact Fp_1.alloc _ | simpa using Fp_1.alloc _
 have Yc_p1 : CellsAt u2 (w1.heap.size) 27 #[.slice none 0 0, .int .i64 0, .bool false, .slice none 0 0] := by rw [hqp1]; have q_ := CellsAt.new w1 27 #[.slice none 0 0, .int .i64 0, .bool false, .slice none 0 0]; first | exact q_ | simpa using q_
 have yp1 : Gr w u2 := by rw [hqp1]; exact z1.alloc _ _
 rw [← hqp1]
 clear hqp1
 refine (HLS.out _ (VS.out.gr (yp1))).mono ?_
 rintro e w2 ⟨rfl, g2⟩
 have ⟨Fb_2, lb_2⟩ := Yb_p1.gl g2
 have ⟨Fp_2, lp_2⟩ := Yp_p1.gl g2
 have ⟨Fc_2, lc_2⟩ := Yc_p1.gl g2
 have z2 := yp1.trans g2
 clear Yp_p1 Yb_p1 Yc_p1 yp1 g2
 obtain ⟨cp0, cp1, cp2, cp3, cp4, cp5⟩ := Fp_2.t6
 go_wp2_with fail
 clear cp0 cp1 cp2 cp3 cp4 cp5
 refine (HPL.out _).mono ?_
 rintro e w3 ⟨rfl, g3⟩
 have ⟨Fb_3, lb_3⟩ := Fb_2.gl g3
 have ⟨Fp_3, lp_3⟩ := Fp_2.gl g3
 have ⟨Fc_3, lc_3⟩ := Fc_2.gl g3
 have z3 := z2.trans g3
 clear Fp_2 Fb_2 Fc_2 z2 g3
 obtain ⟨cb0, cb1, cb2, cb3⟩ := Fb_3.t4
 obtain ⟨cp0, cp1, cp2, cp3, cp4, cp5⟩ := Fp_3.t6
 go_wp2_with fail
 clear cb0 cb1 cb2 cb3 cp0 cp1 cp2 cp3 cp4 cp5
 refine (HSH.out _ (VS.out.gr (z3))).mono ?_
 rintro e w4 ⟨rfl, g4⟩
 have ⟨Fb_4, lb_4⟩ := Fb_3.gl g4
 have ⟨Fp_4, lp_4⟩ := Fp_3.gl g4
 have ⟨Fc_4, lc_4⟩ := Fc_3.gl g4
 have z4 := z3.trans g4
 clear Fp_3 Fb_3 Fc_3 z3 g4
 obtain ⟨cb0, cb1, cb2, cb3⟩ := Fb_4.t4
 obtain ⟨cp0, cp1, cp2, cp3, cp4, cp5⟩ := Fp_4.t6
 go_wp2_with fail
 clear cb0 cb1 cb2 cb3 cp0 cp1 cp2 cp3 cp4 cp5
 refine (AL.out _).mono ?_
 rintro e w5 ⟨rfl, g5⟩
 have ⟨Fb_5, lb_5⟩ := Fb_4.gl g5
 have ⟨Fp_5, lp_5⟩ := Fp_4.gl g5
 have ⟨Fc_5, lc_5⟩ := Fc_4.gl g5
 have z5 := z4.trans g5
 clear Fp_4 Fb_4 Fc_4 z4 g5
 obtain ⟨cb0, cb1, cb2, cb3⟩ := Fb_5.t4
 obtain ⟨cp0, cp1, cp2, cp3, cp4, cp5⟩ := Fp_5.t6
 go_wp2_with fail
 clear cb0 cb1 cb2 cb3 cp0 cp1 cp2 cp3 cp4 cp5
 refine (HM.out _ (VY.out.gr (z5))).mono ?_
 rintro e w6 ⟨rfl, g6⟩
 have ⟨Fb_6, lb_6⟩ := Fb_5.gl g6
 have ⟨Fp_6, lp_6⟩ := Fp_5.gl g6
 have ⟨Fc_6, lc_6⟩ := Fc_5.gl g6
 have z6 := z5.trans g6
 clear Fp_5 Fb_5 Fc_5 z5 g6
 obtain ⟨cb0, cb1, cb2, cb3⟩ := Fb_6.t4
 obtain ⟨cc0, cc1, cc2, cc3⟩ := Fc_6.t4
 go_wp2_with fail
 clear cb0 cb1 cb2 cb3 cc0 cc1 cc2 cc3
 refine (same15_c (.slice none 0 0) (.slice none 0 0) (.slice none 0 0) (.slice none 0 0) 0 false [] [] _ ⟨none, 0, rfl, Nat.le_refl _, Nat.zero_le _, fun h => absurd rfl h⟩ (NumsAt.nil _) ⟨none, 0, rfl, Nat.le_refl _, Nat.zero_le _, fun h => absurd rfl h⟩ (NumsAt.nil _)).mono ?_
 rintro e w7 ⟨rfl, g7⟩
 have ⟨Fb_7, lb_7⟩ := Fb_6.gl g7
 have ⟨Fp_7, lp_7⟩ := Fp_6.gl g7
 have ⟨Fc_7, lc_7⟩ := Fc_6.gl g7
 have z7 := z6.trans g7
 clear Fp_6 Fb_6 Fc_6 z6 g7
 go_wp2_with fail
 go_ret
 exact ⟨by first | rfl | (simp; done), z7⟩
set_option maxHeartbeats 8000000 in
theorem unt18_Ky (q sp : Option Addr) (l2 cap2 m2 l3 cap3 m3 : Nat) (fo lo ke sc mo ex : Int) (iv sa : Bool) (ys : List Gi) (ls : List Int) (hm2 : m2 ≤ cap2) (hmin2 : (if (70 : Int) < (l2 : Int) then 70 else (l2 : Int)) = (m2 : Int)) (hm3 : m3 ≤ cap3) (hmin3 : (if (10 : Int) < (l3 : Int) then 10 else (l3 : Int)) = (m3 : Int)) (n n0 : Int) (X : List Gi) (e2 : Int) (s2 : Bool) (h1 : decide (ex < -100) = false) (h2 : decide (100 < ex) = false) (HU : Hid (∀ W, CxsAt W (.slice q m2 cap2) ys → NumsAt W (.slice sp m3 cap3) ls → Calls Tryz.prog 19 #[.agg #[.slice q m2 cap2, .int .i64 ex, .bool sa, .slice sp m3 cap3], .agg #[.int .i64 fo, .int .i64 lo, .int .i64 ke, .int .i64 sc, .int .i64 mo, .bool iv]] W fun e w' => ∃ vx vs, e = .returned (.tuple #[.agg #[vx, .int .i64 e2, .bool s2, vs], .int .i64 0]) ∧ CxsAt w' vx X ∧ NumsAt w' vs ls ∧ Gr W w'))
 (HLS : Hid (∀ W, NumsAt W (.slice sp m3 cap3) ls → Calls Tryz.prog 20 #[.agg #[.int .i64 fo, .int .i64 lo, .int .i64 ke, .int .i64 sc, .int .i64 mo, .bool iv], .slice sp m3 cap3] W fun e w' => e = .returned (.tuple #[.int .i64 n, .int .i64 0]) ∧ Gr W w'))
 (HPL : CR 14 #[.agg #[.int .i64 fo, .int .i64 lo, .int .i64 ke, .int .i64 sc, .int .i64 mo, .bool iv]] (.bool true))
 (HSH : Hid (∀ W, NumsAt W (.slice sp m3 cap3) ls → Calls Tryz.prog 21 #[.agg #[.int .i64 fo, .int .i64 lo, .int .i64 ke, .int .i64 sc, .int .i64 mo, .bool iv], .slice sp m3 cap3] W fun e w' => e = .returned (.bool true) ∧ Gr W w'))
 (hn : IntKind.i64.wrap (n0 + 256) = n) (HOF : Hid (∀ W, NumsAt W (.slice sp m3 cap3) ls → Calls Tryz.prog 22 #[.agg #[.int .i64 fo, .int .i64 lo, .int .i64 ke, .int .i64 sc, .int .i64 mo, .bool iv], .slice sp m3 cap3] W fun e w' => e = .returned (.int .i64 n0) ∧ Gr W w'))
 (HM : Hid (∀ W, CxsAt W (.slice q m2 cap2) ys → Calls Tryz.prog 16 #[.slice q m2 cap2, .agg #[.int .i64 fo, .int .i64 lo, .int .i64 ke, .int .i64 sc, .int .i64 mo, .bool iv], .bool true] W fun e w' => e = .returned (.int .i64 0) ∧ Gr W w'))
 (HUN : Hid (∀ W, CxsAt W (.slice q m2 cap2) ys → Calls Tryz.prog 17 #[.agg #[.slice q m2 cap2, .int .i64 ex, .bool sa, .slice sp m3 cap3], .agg #[.int .i64 fo, .int .i64 lo, .int .i64 ke, .int .i64 sc, .int .i64 mo, .bool iv]] W fun e w' => ∃ vx, e = .returned (.agg #[vx, .int .i64 e2, .bool s2, .slice sp m3 cap3]) ∧ CxsAt w' vx X ∧ Gr W w')) (AL : CR 12 #[] (.bool true)) (w : World) (hy : CxsAt w (.slice q m2 cap2) ys) (hs : NumsAt w (.slice sp m3 cap3) ls) :
 CW 4 #[.agg #[.slice q l2 cap2, .int .i64 ex, .bool sa, .slice sp l3 cap3], .agg #[.int .i64 fo, .int .i64 lo, .int .i64 ke, .int .i64 sc, .int .i64 mo, .bool iv]] w (.bool true) :=by
 delta CW
 have hcut2 := run_cut_cx q l2 cap2 m2 hm2
 have hcut3 := run_cut_int sp l3 cap3 m3 hm3
 have VY := Lib.hid hy
 have VS := Lib.hid hs
 clear hy hs
 go_enter Tryz.func4, Tryz.ntmps4
 go_wp2_with fail
 obtain ⟨u0, hU⟩ : ∃ uu, uu = ((w.alloc (.cells #[.slice q l2 cap2, .int .i64 ex, .bool sa, .slice sp l3 cap3] 27)).alloc (.cells #[.int .i64 fo, .int .i64 lo, .int .i64 ke, .int .i64 sc, .int .i64 mo, .bool iv] 24)) := ⟨_, rfl⟩
 have ⟨gu, R0, R1⟩ := lay2 hU
 rw [← hU]
 clear hU
 have lb := R0.lt
 have lp := R1.lt
 have c0 := R0.cell 0
 have c3 := R0.cell 3
 simp only [getS] at c0 c3
 have m0f := R0.frozen 0
 have m3f := R0.frozen 3
 go_region
 clear c0 c3 m0f m3f hcut2 hcut3
 obtain ⟨u1, hq⟩ : ∃ zz, zz = (((u0.setCell ⟨w.heap.size, 0, none⟩ (.slice q m2 cap2)).setCell ⟨w.heap.size, 3, none⟩ (.slice sp m3 cap3)).drew) := ⟨_, rfl⟩
 have S1 : CellsAt u1 (w.heap.size + 1) 24 #[.int .i64 fo, .int .i64 lo, .int .i64 ke, .int .i64 sc, .int .i64 mo, .bool iv] := by rw [hq]; exact ((R1.ot).ot).gr (Gr.drew (Gr.refl _))
 have S0 : CellsAt u1 w.heap.size 27 #[.slice q m2 cap2, .int .i64 ex, .bool sa, .slice sp m3 cap3] := by rw [hq]; exact ((R0.set 0 (.slice q m2 cap2)).set 3 (.slice sp m3 cap3)).gr (Gr.drew (Gr.refl _))
 have s1 : Gr w u1 := by rw [hq]; exact ((gu.setCell (by simp) _).setCell (by simp) _).drew
 rw [← hq]
 clear hq R0 R1 gu lb lp
 have lp := S1.lt
 have lb := S0.lt
 obtain ⟨cb0, cb1, cb2, cb3⟩ := S0.t4
 obtain ⟨cp0, cp1, cp2, cp3, cp4, cp5⟩ := S1.t6
 go_wp2_with fail
 clear cb0 cb1 cb2 cb3 cp0 cp1 cp2 cp3 cp4 cp5
 refine (HU.out _ (VY.out.gr (s1)) (VS.out.gr (s1))).mono ?_
 rintro e w1 ⟨vx, vs, rfl, hx1, hs1, g1⟩
 have ⟨Fb_1, lb_1⟩ := S0.gl g1
 have ⟨Fp_1, lp_1⟩ := S1.gl g1
 have z1 := s1.trans g1
 clear S1 S0 s1 g1
 obtain ⟨xp, xc, rfl⟩ := hx1.len
 obtain ⟨tp, tc, rfl⟩ := hs1.len
 obtain ⟨cb0, cb1, cb2, cb3⟩ := Fb_1.t4
 obtain ⟨cp0, cp1, cp2, cp3, cp4, cp5⟩ := Fp_1.t6
 go_wp2_with fail
 clear cb0 cb1 cb2 cb3 cp0 cp1 cp2 cp3 cp4 cp5
 have hs2 := hs1.gr ((Gr.refl _).alloc #[.slice xp X.length xc, .int .i64 e2, .bool s2, .slice tp ls.length tc] 27)
 obtain ⟨u2, hqp1⟩ : ∃ zz, zz = (w1.alloc (.cells #[.slice xp X.length xc, .int .i64 e2, .bool s2, .slice tp ls.length tc] 27)) := ⟨_, rfl⟩
 have Yb_p1 : CellsAt u2 (w.heap.size) 27 #[.slice q m2 cap2, .int .i64 ex, .bool sa, .slice sp m3 cap3] := by rw [hqp1]; first | exact Fb_1.alloc _ | simpa using Fb_1.alloc _
 have Yp_p1 : CellsAt u2 (w.heap.size + 1) 24 #[.int .i64 fo, .int .i64 lo, .int .i64 ke, .int .i64 sc, .int .i64 mo, .bool iv] := by rw [hqp1]; first | exact Fp_1.alloc _ | simpa using Fp_1.alloc _
 have Yc_p1 : CellsAt u2 (w1.heap.size) 27 #[.slice xp X.length xc, .int .i64 e2, .bool s2, .slice tp ls.length tc] := by rw [hqp1]; have q_ := CellsAt.new w1 27 #[.slice xp X.length xc, .int .i64 e2, .bool s2, .slice tp ls.length tc]; first | exact q_ | simpa using q_
 have Vx_p1 := (hx1.gr ((Gr.refl w1).alloc #[.slice xp X.length xc, .int .i64 e2, .bool s2, .slice tp ls.length tc] 27))
 rw [← hqp1] at Vx_p1
 have Vs_p1 := hs2
 rw [← hqp1] at Vs_p1
 have yp1 : Gr w u2 := by rw [hqp1]; exact z1.alloc _ _
 rw [← hqp1]
 clear hqp1
 refine (HLS.out _ (VS.out.gr (yp1))).mono ?_
 rintro e w2 ⟨rfl, g2⟩
 have ⟨Fb_2, lb_2⟩ := Yb_p1.gl g2
 have ⟨Fp_2, lp_2⟩ := Yp_p1.gl g2
 have ⟨Fc_2, lc_2⟩ := Yc_p1.gl g2
 have Kx_2 := Vx_p1.gr g2
 have Ns_2 := NumsAt.gr (Vs_p1) g2
 have z2 := yp1.trans g2
 clear Yp_p1 Yb_p1 Yc_p1 yp1 g2
 obtain ⟨cp0, cp1, cp2, cp3, cp4, cp5⟩ := Fp_2.t6
 go_wp2_with fail
 clear cp0 cp1 cp2 cp3 cp4 cp5
 refine (HPL.out _).mono ?_
 rintro e w3 ⟨rfl, g3⟩
 have ⟨Fb_3, lb_3⟩ := Fb_2.gl g3
 have ⟨Fp_3, lp_3⟩ := Fp_2.gl g3
 have ⟨Fc_3, lc_3⟩ := Fc_2.gl g3
 have Kx_3 := Kx_2.gr g3
 have Ns_3 := NumsAt.gr (Ns_2) g3
 have z3 := z2.trans g3
 clear Fp_2 Fb_2 Fc_2 z2 g3
 obtain ⟨cb0, cb1, cb2, cb3⟩ := Fb_3.t4
 obtain ⟨cp0, cp1, cp2, cp3, cp4, cp5⟩ := Fp_3.t6
 go_wp2_with fail
 clear cb0 cb1 cb2 cb3 cp0 cp1 cp2 cp3 cp4 cp5
 refine (HSH.out _ (VS.out.gr (z3))).mono ?_
 rintro e w4 ⟨rfl, g4⟩
 have ⟨Fb_4, lb_4⟩ := Fb_3.gl g4
 have ⟨Fp_4, lp_4⟩ := Fp_3.gl g4
 have ⟨Fc_4, lc_4⟩ := Fc_3.gl g4
 have Kx_4 := Kx_3.gr g4
 have Ns_4 := NumsAt.gr (Ns_3) g4
 have z4 := z3.trans g4
 clear Fp_3 Fb_3 Fc_3 z3 g4
 obtain ⟨cb0, cb1, cb2, cb3⟩ := Fb_4.t4
 obtain ⟨cp0, cp1, cp2, cp3, cp4, cp5⟩ := Fp_4.t6
 go_wp2_with fail
 clear cb0 cb1 cb2 cb3 cp0 cp1 cp2 cp3 cp4 cp5
 refine (HOF.out _ (VS.out.gr (z4))).mono ?_
 rintro e w5 ⟨rfl, g5⟩
 have ⟨Fb_5, lb_5⟩ := Fb_4.gl g5
 have ⟨Fp_5, lp_5⟩ := Fp_4.gl g5
 have ⟨Fc_5, lc_5⟩ := Fc_4.gl g5
 have Kx_5 := Kx_4.gr g5
 have Ns_5 := NumsAt.gr (Ns_4) g5
 have z5 := z4.trans g5
 clear Fp_4 Fb_4 Fc_4 z4 g5
 go_wp2_with fail
 refine (AL.out _).mono ?_
 rintro e w6 ⟨rfl, g6⟩
 have ⟨Fb_6, lb_6⟩ := Fb_5.gl g6
 have ⟨Fp_6, lp_6⟩ := Fp_5.gl g6
 have ⟨Fc_6, lc_6⟩ := Fc_5.gl g6
 have Kx_6 := Kx_5.gr g6
 have Ns_6 := NumsAt.gr (Ns_5) g6
 have z6 := z5.trans g6
 clear Fp_5 Fb_5 Fc_5 z5 g6
 obtain ⟨cb0, cb1, cb2, cb3⟩ := Fb_6.t4
 obtain ⟨cp0, cp1, cp2, cp3, cp4, cp5⟩ := Fp_6.t6
 go_wp2_with fail
 clear cb0 cb1 cb2 cb3 cp0 cp1 cp2 cp3 cp4 cp5
 refine (HM.out _ (VY.out.gr (z6))).mono ?_
 rintro e w7 ⟨rfl, g7⟩
 have ⟨Fb_7, lb_7⟩ := Fb_6.gl g7
 have ⟨Fp_7, lp_7⟩ := Fp_6.gl g7
 have ⟨Fc_7, lc_7⟩ := Fc_6.gl g7
 have Kx_7 := Kx_6.gr g7
 have Ns_7 := NumsAt.gr (Ns_6) g7
 have z7 := z6.trans g7
 clear Fp_6 Fb_6 Fc_6 z6 g7
 obtain ⟨cb0, cb1, cb2, cb3⟩ := Fb_7.t4
 obtain ⟨cc0, cc1, cc2, cc3⟩ := Fc_7.t4
 go_wp2_with fail
 clear cb0 cb1 cb2 cb3 cc0 cc1 cc2 cc3
 obtain ⟨u8, hqp2⟩ : ∃ zz, zz = w7 := ⟨_, rfl⟩
 have Yb_p2 : CellsAt u8 (w.heap.size) 27 #[.slice q m2 cap2, .int .i64 ex, .bool sa, .slice sp m3 cap3] := by rw [hqp2]; first | exact Fb_7 | simpa using Fb_7
 have Yp_p2 : CellsAt u8 (w.heap.size + 1) 24 #[.int .i64 fo, .int .i64 lo, .int .i64 ke, .int .i64 sc, .int .i64 mo, .bool iv] := by rw [hqp2]; first | exact Fp_7 | simpa using Fp_7
 have Yc_p2 : CellsAt u8 (w1.heap.size) 27 #[.slice xp X.length xc, .int .i64 e2, .bool s2, .slice tp ls.length tc] := by rw [hqp2]; first | exact Fc_7 | simpa using Fc_7
 have Vx_p2 := Kx_7
 rw [← hqp2] at Vx_p2
 have Vs_p2 := Ns_7
 rw [← hqp2] at Vs_p2
 have yp2 : Gr w u8 := by rw [hqp2]; exact z7
 rw [← hqp2]
 clear hqp2
 have KS : ∀ W, Gr u8 W → (W.cell? ⟨w.heap.size, 0, none⟩ = some (.slice q m2 cap2) ∧ W.cell? ⟨w.heap.size, 1, none⟩ = some (.int .i64 ex) ∧ W.cell? ⟨w.heap.size, 2, none⟩ = some (.bool sa) ∧ W.cell? ⟨w.heap.size, 3, none⟩ = some (.slice sp m3 cap3) ∧ W.cell? ⟨w.heap.size + 1, 0, none⟩ = some (.int .i64 fo) ∧ W.cell? ⟨w.heap.size + 1, 1, none⟩ = some (.int .i64 lo) ∧ W.cell? ⟨w.heap.size + 1, 2, none⟩ = some (.int .i64 ke) ∧ W.cell? ⟨w.heap.size + 1, 3, none⟩ = some (.int .i64 sc) ∧ W.cell? ⟨w.heap.size + 1, 4, none⟩ = some (.int .i64 mo) ∧ W.cell? ⟨w.heap.size + 1, 5, none⟩ = some (.bool iv) ∧ W.cell? ⟨w1.heap.size, 0, none⟩ = some (.slice xp X.length xc) ∧ W.cell? ⟨w1.heap.size, 1, none⟩ = some (.int .i64 e2) ∧ W.cell? ⟨w1.heap.size, 2, none⟩ = some (.bool s2) ∧ W.cell? ⟨w1.heap.size, 3, none⟩ = some (.slice tp ls.length tc)) := fun W hG => ⟨(CellsAt.gr Yb_p2 hG).cell 0, (CellsAt.gr Yb_p2 hG).cell 1, (CellsAt.gr Yb_p2 hG).cell 2, (CellsAt.gr Yb_p2 hG).cell 3, (CellsAt.gr Yp_p2 hG).cell 0, (CellsAt.gr Yp_p2 hG).cell 1, (CellsAt.gr Yp_p2 hG).cell 2, (CellsAt.gr Yp_p2 hG).cell 3, (CellsAt.gr Yp_p2 hG).cell 4, (CellsAt.gr Yp_p2 hG).cell 5, (CellsAt.gr Yc_p2 hG).cell 0, (CellsAt.gr Yc_p2 hG).cell 1, (CellsAt.gr Yc_p2 hG).cell 2, (CellsAt.gr Yc_p2 hG).cell 3⟩
 have hclG := gr_closed u8
 try simp only [List.append_eq, List.cons_append, List.nil_append]
 refine wp_region_grow (S := Gr u8) rfl (Gr.drew (Gr.refl _)) ?_
 refine gT 0 hclG ?_
 refine gT 1 hclG ?_
 refine gT 2 hclG ?_
 refine gK 3 hclG KS ?_
 refine gK 4 hclG KS ?_
 refine gK 5 hclG KS ?_
 refine gR 6 fun w8 g8 s8 K hK => ?_
 replace g8 := (Gr.drew (Gr.refl u8)).trans g8
 have ⟨Fb_8, lb_8⟩ := Yb_p2.gl g8
 have ⟨Fp_8, lp_8⟩ := Yp_p2.gl g8
 have ⟨Fc_8, lc_8⟩ := Yc_p2.gl g8
 have Kx_8 := Vx_p2.gr g8
 have Ns_8 := NumsAt.gr (Vs_p2) g8
 have z8 := yp2.trans g8
 clear Yp_p2 Yb_p2 Yc_p2 yp2 g8
 go_simp
 refine (HUN.out w8 (VY.out.gr (z8))).mono ?_
 rintro e w9 ⟨vq, rfl, hq1, g9⟩
 have t9 := Gr.trans s8 g9
 have ⟨Fb_9, lb_9⟩ := Fb_8.gl g9
 have ⟨Fp_9, lp_9⟩ := Fp_8.gl g9
 have ⟨Fc_9, lc_9⟩ := Fc_8.gl g9
 have Kx_9 := Kx_8.gr g9
 have Ns_9 := NumsAt.gr (Ns_8) g9
 have z9 := z8.trans g9
 clear Fp_8 Fb_8 Fc_8 z8 g9
 refine hK.out _ _ ?_ ?_
 ·exact t9
 clear hK K
 try simp only [Act.put, putS]
 refine gR 7 fun w10 g10 s10 K hK => ?_
 have ⟨Fb_10, lb_10⟩ := Fb_9.gl g10
 have ⟨Fp_10, lp_10⟩ := Fp_9.gl g10
 have ⟨Fc_10, lc_10⟩ := Fc_9.gl g10
 have Kx_10 := Kx_9.gr g10
 have Kq_10 := hq1.gr g10
 have Ns_10 := NumsAt.gr (Ns_9) g10
 have z10 := z9.trans g10
 clear Fp_9 Fb_9 Fc_9 z9 g10
 go_simp
 refine (same15_c _ _ _ _ e2 s2 X ls w10 Kx_10 Ns_10 Kq_10 (VS.out.gr (z10))).mono ?_
 rintro e w11 ⟨rfl, g11⟩
 have t11 := Gr.trans s10 g11
 have ⟨Fb_11, lb_11⟩ := Fb_10.gl g11
 have ⟨Fp_11, lp_11⟩ := Fp_10.gl g11
 have ⟨Fc_11, lc_11⟩ := Fc_10.gl g11
 have Kx_11 := Kx_10.gr g11
 have Kq_11 := Kq_10.gr g11
 have Ns_11 := NumsAt.gr (Ns_10) g11
 have z11 := z10.trans g11
 clear Fp_10 Fb_10 Fc_10 z10 g11
 refine hK.out _ _ ?_ ?_
 ·exact t11
 clear hK K
 try simp only [Act.put, putS]
 refine gT 8 hclG ?_
 refine gT 9 hclG ?_
 refine wpG_done (by kernel_rfl) (fun w12 g12 => ?_) _
 have ⟨Fb_12, lb_12⟩ := Fb_11.gl g12
 have ⟨Fp_12, lp_12⟩ := Fp_11.gl g12
 have ⟨Fc_12, lc_12⟩ := Fc_11.gl g12
 have Kx_12 := Kx_11.gr g12
 have Kq_12 := Kq_11.gr g12
 have Ns_12 := NumsAt.gr (Ns_11) g12
 have z12 := z11.trans g12
 clear Fp_11 Fb_11 Fc_11 z11 g12
 clear hclG KS
 go_wp2_with fail
 go_ret
 exact ⟨by first | rfl | (simp; done), z12⟩
set_option maxHeartbeats 8000000 in
theorem unt18_Kn (q sp : Option Addr) (l2 cap2 m2 l3 cap3 m3 : Nat) (fo lo ke sc mo ex : Int) (iv sa : Bool) (ys : List Gi) (ls : List Int) (hm2 : m2 ≤ cap2) (hmin2 : (if (70 : Int) < (l2 : Int) then 70 else (l2 : Int)) = (m2 : Int)) (hm3 : m3 ≤ cap3) (hmin3 : (if (10 : Int) < (l3 : Int) then 10 else (l3 : Int)) = (m3 : Int)) (X : List Gi) (e2 : Int) (s2 : Bool) (h1 : decide (ex < -100) = false) (h2 : decide (100 < ex) = false) (HU : Hid (∀ W, CxsAt W (.slice q m2 cap2) ys → NumsAt W (.slice sp m3 cap3) ls → Calls Tryz.prog 19 #[.agg #[.slice q m2 cap2, .int .i64 ex, .bool sa, .slice sp m3 cap3], .agg #[.int .i64 fo, .int .i64 lo, .int .i64 ke, .int .i64 sc, .int .i64 mo, .bool iv]] W fun e w' => ∃ vx vs, e = .returned (.tuple #[.agg #[vx, .int .i64 e2, .bool s2, vs], .int .i64 0]) ∧ CxsAt w' vx X ∧ NumsAt w' vs ls ∧ Gr W w'))
 (HLS : Hid (∀ W, NumsAt W (.slice sp m3 cap3) ls → Calls Tryz.prog 20 #[.agg #[.int .i64 fo, .int .i64 lo, .int .i64 ke, .int .i64 sc, .int .i64 mo, .bool iv], .slice sp m3 cap3] W fun e w' => e = .returned (.tuple #[.int .i64 0, .int .i64 1]) ∧ Gr W w'))
 (HPL : CR 14 #[.agg #[.int .i64 fo, .int .i64 lo, .int .i64 ke, .int .i64 sc, .int .i64 mo, .bool iv]] (.bool true))
 (HSH : Hid (∀ W, NumsAt W (.slice sp m3 cap3) ls → Calls Tryz.prog 21 #[.agg #[.int .i64 fo, .int .i64 lo, .int .i64 ke, .int .i64 sc, .int .i64 mo, .bool iv], .slice sp m3 cap3] W fun e w' => e = .returned (.bool false) ∧ Gr W w'))
 (HM : Hid (∀ W, CxsAt W (.slice q m2 cap2) ys → Calls Tryz.prog 16 #[.slice q m2 cap2, .agg #[.int .i64 fo, .int .i64 lo, .int .i64 ke, .int .i64 sc, .int .i64 mo, .bool iv], .bool true] W fun e w' => e = .returned (.int .i64 0) ∧ Gr W w'))
 (HUN : Hid (∀ W, CxsAt W (.slice q m2 cap2) ys → Calls Tryz.prog 17 #[.agg #[.slice q m2 cap2, .int .i64 ex, .bool sa, .slice sp m3 cap3], .agg #[.int .i64 fo, .int .i64 lo, .int .i64 ke, .int .i64 sc, .int .i64 mo, .bool iv]] W fun e w' => ∃ vx, e = .returned (.agg #[vx, .int .i64 e2, .bool s2, .slice sp m3 cap3]) ∧ CxsAt w' vx X ∧ Gr W w')) (AL : CR 12 #[] (.bool true)) (w : World) (hy : CxsAt w (.slice q m2 cap2) ys) (hs : NumsAt w (.slice sp m3 cap3) ls) :
 CW 4 #[.agg #[.slice q l2 cap2, .int .i64 ex, .bool sa, .slice sp l3 cap3], .agg #[.int .i64 fo, .int .i64 lo, .int .i64 ke, .int .i64 sc, .int .i64 mo, .bool iv]] w (.bool true) :=by
 delta CW
 have hcut2 := run_cut_cx q l2 cap2 m2 hm2
 have hcut3 := run_cut_int sp l3 cap3 m3 hm3
 have VY := Lib.hid hy
 have VS := Lib.hid hs
 clear hy hs
 go_enter Tryz.func4, Tryz.ntmps4
 go_wp2_with fail
 obtain ⟨u0, hU⟩ : ∃ uu, uu = ((w.alloc (.cells #[.slice q l2 cap2, .int .i64 ex, .bool sa, .slice sp l3 cap3] 27)).alloc (.cells #[.int .i64 fo, .int .i64 lo, .int .i64 ke, .int .i64 sc, .int .i64 mo, .bool iv] 24)) := ⟨_, rfl⟩
 have ⟨gu, R0, R1⟩ := lay2 hU
 rw [← hU]
 clear hU
 have lb := R0.lt
 have lp := R1.lt
 have c0 := R0.cell 0
 have c3 := R0.cell 3
 simp only [getS] at c0 c3
 have m0f := R0.frozen 0
 have m3f := R0.frozen 3
 go_region
 clear c0 c3 m0f m3f hcut2 hcut3
 obtain ⟨u1, hq⟩ : ∃ zz, zz = (((u0.setCell ⟨w.heap.size, 0, none⟩ (.slice q m2 cap2)).setCell ⟨w.heap.size, 3, none⟩ (.slice sp m3 cap3)).drew) := ⟨_, rfl⟩
 have S1 : CellsAt u1 (w.heap.size + 1) 24 #[.int .i64 fo, .int .i64 lo, .int .i64 ke, .int .i64 sc, .int .i64 mo, .bool iv] := by rw [hq]; exact ((R1.ot).ot).gr (Gr.drew (Gr.refl _))
 have S0 : CellsAt u1 w.heap.size 27 #[.slice q m2 cap2, .int .i64 ex, .bool sa, .slice sp m3 cap3] := by rw [hq]; exact ((R0.set 0 (.slice q m2 cap2)).set 3 (.slice sp m3 cap3)).gr (Gr.drew (Gr.refl _))
 have s1 : Gr w u1 := by rw [hq]; exact ((gu.setCell (by simp) _).setCell (by simp) _).drew
 rw [← hq]
 clear hq R0 R1 gu lb lp
 have lp := S1.lt
 have lb := S0.lt
 obtain ⟨cb0, cb1, cb2, cb3⟩ := S0.t4
 obtain ⟨cp0, cp1, cp2, cp3, cp4, cp5⟩ := S1.t6
 go_wp2_with fail
 clear cb0 cb1 cb2 cb3 cp0 cp1 cp2 cp3 cp4 cp5
 refine (HU.out _ (VY.out.gr (s1)) (VS.out.gr (s1))).mono ?_
 rintro e w1 ⟨vx, vs, rfl, hx1, hs1, g1⟩
 have ⟨Fb_1, lb_1⟩ := S0.gl g1
 have ⟨Fp_1, lp_1⟩ := S1.gl g1
 have z1 := s1.trans g1
 clear S1 S0 s1 g1
 obtain ⟨xp, xc, rfl⟩ := hx1.len
 obtain ⟨tp, tc, rfl⟩ := hs1.len
 obtain ⟨cb0, cb1, cb2, cb3⟩ := Fb_1.t4
 obtain ⟨cp0, cp1, cp2, cp3, cp4, cp5⟩ := Fp_1.t6
 go_wp2_with fail
 clear cb0 cb1 cb2 cb3 cp0 cp1 cp2 cp3 cp4 cp5
 have hs2 := hs1.gr ((Gr.refl _).alloc #[.slice xp X.length xc, .int .i64 e2, .bool s2, .slice tp ls.length tc] 27)
 obtain ⟨u2, hqp1⟩ : ∃ zz, zz = (w1.alloc (.cells #[.slice xp X.length xc, .int .i64 e2, .bool s2, .slice tp ls.length tc] 27)) := ⟨_, rfl⟩
 have Yb_p1 : CellsAt u2 (w.heap.size) 27 #[.slice q m2 cap2, .int .i64 ex, .bool sa, .slice sp m3 cap3] := by rw [hqp1]; first | exact Fb_1.alloc _ | simpa using Fb_1.alloc _
 have Yp_p1 : CellsAt u2 (w.heap.size + 1) 24 #[.int .i64 fo, .int .i64 lo, .int .i64 ke, .int .i64 sc, .int .i64 mo, .bool iv] := by rw [hqp1]; first | exact Fp_1.alloc _ | simpa using Fp_1.alloc _
 have Yc_p1 : CellsAt u2 (w1.heap.size) 27 #[.slice xp X.length xc, .int .i64 e2, .bool s2, .slice tp ls.length tc] := by rw [hqp1]; have q_ := CellsAt.new w1 27 #[.slice xp X.length xc, .int .i64 e2, .bool s2, .slice tp ls.length tc]; first | exact q_ | simpa using q_
 have Vx_p1 := (hx1.gr ((Gr.refl w1).alloc #[.slice xp X.length xc, .int .i64 e2, .bool s2, .slice tp ls.length tc] 27))
 rw [← hqp1] at Vx_p1
 have Vs_p1 := hs2
 rw [← hqp1] at Vs_p1
 have yp1 : Gr w u2 := by rw [hqp1]; exact z1.alloc _ _
 rw [← hqp1]
 clear hqp1
 refine (HLS.out _ (VS.out.gr (yp1))).mono ?_
 rintro e w2 ⟨rfl, g2⟩
 have ⟨Fb_2, lb_2⟩ := Yb_p1.gl g2
 have ⟨Fp_2, lp_2⟩ := Yp_p1.gl g2
 have ⟨Fc_2, lc_2⟩ := Yc_p1.gl g2
 have Kx_2 := Vx_p1.gr g2
 have Ns_2 := NumsAt.gr (Vs_p1) g2
 have z2 := yp1.trans g2
 clear Yp_p1 Yb_p1 Yc_p1 yp1 g2
 obtain ⟨cp0, cp1, cp2, cp3, cp4, cp5⟩ := Fp_2.t6
 go_wp2_with fail
 clear cp0 cp1 cp2 cp3 cp4 cp5
 refine (HPL.out _).mono ?_
 rintro e w3 ⟨rfl, g3⟩
 have ⟨Fb_3, lb_3⟩ := Fb_2.gl g3
 have ⟨Fp_3, lp_3⟩ := Fp_2.gl g3
 have ⟨Fc_3, lc_3⟩ := Fc_2.gl g3
 have Kx_3 := Kx_2.gr g3
 have Ns_3 := NumsAt.gr (Ns_2) g3
 have z3 := z2.trans g3
 clear Fp_2 Fb_2 Fc_2 z2 g3
 obtain ⟨cb0, cb1, cb2, cb3⟩ := Fb_3.t4
 obtain ⟨cp0, cp1, cp2, cp3, cp4, cp5⟩ := Fp_3.t6
 go_wp2_with fail
 clear cb0 cb1 cb2 cb3 cp0 cp1 cp2 cp3 cp4 cp5
 refine (HSH.out _ (VS.out.gr (z3))).mono ?_
 rintro e w4 ⟨rfl, g4⟩
 have ⟨Fb_4, lb_4⟩ := Fb_3.gl g4
 have ⟨Fp_4, lp_4⟩ := Fp_3.gl g4
 have ⟨Fc_4, lc_4⟩ := Fc_3.gl g4
 have Kx_4 := Kx_3.gr g4
 have Ns_4 := NumsAt.gr (Ns_3) g4
 have z4 := z3.trans g4
 clear Fp_3 Fb_3 Fc_3 z3 g4
 obtain ⟨cb0, cb1, cb2, cb3⟩ := Fb_4.t4
 obtain ⟨cp0, cp1, cp2, cp3, cp4, cp5⟩ := Fp_4.t6
 go_wp2_with fail
 clear cb0 cb1 cb2 cb3 cp0 cp1 cp2 cp3 cp4 cp5
 refine (AL.out _).mono ?_
 rintro e w5 ⟨rfl, g5⟩
 have ⟨Fb_5, lb_5⟩ := Fb_4.gl g5
 have ⟨Fp_5, lp_5⟩ := Fp_4.gl g5
 have ⟨Fc_5, lc_5⟩ := Fc_4.gl g5
 have Kx_5 := Kx_4.gr g5
 have Ns_5 := NumsAt.gr (Ns_4) g5
 have z5 := z4.trans g5
 clear Fp_4 Fb_4 Fc_4 z4 g5
 obtain ⟨cb0, cb1, cb2, cb3⟩ := Fb_5.t4
 obtain ⟨cp0, cp1, cp2, cp3, cp4, cp5⟩ := Fp_5.t6
 go_wp2_with fail
 clear cb0 cb1 cb2 cb3 cp0 cp1 cp2 cp3 cp4 cp5
 refine (HM.out _ (VY.out.gr (z5))).mono ?_
 rintro e w6 ⟨rfl, g6⟩
 have ⟨Fb_6, lb_6⟩ := Fb_5.gl g6
 have ⟨Fp_6, lp_6⟩ := Fp_5.gl g6
 have ⟨Fc_6, lc_6⟩ := Fc_5.gl g6
 have Kx_6 := Kx_5.gr g6
 have Ns_6 := NumsAt.gr (Ns_5) g6
 have z6 := z5.trans g6
 clear Fp_5 Fb_5 Fc_5 z5 g6
 obtain ⟨cb0, cb1, cb2, cb3⟩ := Fb_6.t4
 obtain ⟨cc0, cc1, cc2, cc3⟩ := Fc_6.t4
 go_wp2_with fail
 clear cb0 cb1 cb2 cb3 cc0 cc1 cc2 cc3
 obtain ⟨u8, hqp2⟩ : ∃ zz, zz = w6 := ⟨_, rfl⟩
 have Yb_p2 : CellsAt u8 (w.heap.size) 27 #[.slice q m2 cap2, .int .i64 ex, .bool sa, .slice sp m3 cap3] := by rw [hqp2]; first | exact Fb_6 | simpa using Fb_6
 have Yp_p2 : CellsAt u8 (w.heap.size + 1) 24 #[.int .i64 fo, .int .i64 lo, .int .i64 ke, .int .i64 sc, .int .i64 mo, .bool iv] := by rw [hqp2]; first | exact Fp_6 | simpa using Fp_6
 have Yc_p2 : CellsAt u8 (w1.heap.size) 27 #[.slice xp X.length xc, .int .i64 e2, .bool s2, .slice tp ls.length tc] := by rw [hqp2]; first | exact Fc_6 | simpa using Fc_6
 have Vx_p2 := Kx_6
 rw [← hqp2] at Vx_p2
 have Vs_p2 := Ns_6
 rw [← hqp2] at Vs_p2
 have yp2 : Gr w u8 := by rw [hqp2]; exact z6
 rw [← hqp2]
 clear hqp2
 have KS : ∀ W, Gr u8 W → (W.cell? ⟨w.heap.size, 0, none⟩ = some (.slice q m2 cap2) ∧ W.cell? ⟨w.heap.size, 1, none⟩ = some (.int .i64 ex) ∧ W.cell? ⟨w.heap.size, 2, none⟩ = some (.bool sa) ∧ W.cell? ⟨w.heap.size, 3, none⟩ = some (.slice sp m3 cap3) ∧ W.cell? ⟨w.heap.size + 1, 0, none⟩ = some (.int .i64 fo) ∧ W.cell? ⟨w.heap.size + 1, 1, none⟩ = some (.int .i64 lo) ∧ W.cell? ⟨w.heap.size + 1, 2, none⟩ = some (.int .i64 ke) ∧ W.cell? ⟨w.heap.size + 1, 3, none⟩ = some (.int .i64 sc) ∧ W.cell? ⟨w.heap.size + 1, 4, none⟩ = some (.int .i64 mo) ∧ W.cell? ⟨w.heap.size + 1, 5, none⟩ = some (.bool iv) ∧ W.cell? ⟨w1.heap.size, 0, none⟩ = some (.slice xp X.length xc) ∧ W.cell? ⟨w1.heap.size, 1, none⟩ = some (.int .i64 e2) ∧ W.cell? ⟨w1.heap.size, 2, none⟩ = some (.bool s2) ∧ W.cell? ⟨w1.heap.size, 3, none⟩ = some (.slice tp ls.length tc)) := fun W hG => ⟨(CellsAt.gr Yb_p2 hG).cell 0, (CellsAt.gr Yb_p2 hG).cell 1, (CellsAt.gr Yb_p2 hG).cell 2, (CellsAt.gr Yb_p2 hG).cell 3, (CellsAt.gr Yp_p2 hG).cell 0, (CellsAt.gr Yp_p2 hG).cell 1, (CellsAt.gr Yp_p2 hG).cell 2, (CellsAt.gr Yp_p2 hG).cell 3, (CellsAt.gr Yp_p2 hG).cell 4, (CellsAt.gr Yp_p2 hG).cell 5, (CellsAt.gr Yc_p2 hG).cell 0, (CellsAt.gr Yc_p2 hG).cell 1, (CellsAt.gr Yc_p2 hG).cell 2, (CellsAt.gr Yc_p2 hG).cell 3⟩
 have hclG := gr_closed u8
 try simp only [List.append_eq, List.cons_append, List.nil_append]
 refine wp_region_grow (S := Gr u8) rfl (Gr.drew (Gr.refl _)) ?_
 refine gT 0 hclG ?_
 refine gT 1 hclG ?_
 refine gT 2 hclG ?_
 refine gK 3 hclG KS ?_
 refine gK 4 hclG KS ?_
 refine gK 5 hclG KS ?_
 refine gR 6 fun w7 g7 s7 K hK => ?_
 replace g7 := (Gr.drew (Gr.refl u8)).trans g7
 have ⟨Fb_7, lb_7⟩ := Yb_p2.gl g7
 have ⟨Fp_7, lp_7⟩ := Yp_p2.gl g7
 have ⟨Fc_7, lc_7⟩ := Yc_p2.gl g7
 have Kx_7 := Vx_p2.gr g7
 have Ns_7 := NumsAt.gr (Vs_p2) g7
 have z7 := yp2.trans g7
 clear Yp_p2 Yb_p2 Yc_p2 yp2 g7
 go_simp
 refine (HUN.out w7 (VY.out.gr (z7))).mono ?_
 rintro e w8 ⟨vq, rfl, hq1, g8⟩
 have t8 := Gr.trans s7 g8
 have ⟨Fb_8, lb_8⟩ := Fb_7.gl g8
 have ⟨Fp_8, lp_8⟩ := Fp_7.gl g8
 have ⟨Fc_8, lc_8⟩ := Fc_7.gl g8
 have Kx_8 := Kx_7.gr g8
 have Ns_8 := NumsAt.gr (Ns_7) g8
 have z8 := z7.trans g8
 clear Fp_7 Fb_7 Fc_7 z7 g8
 refine hK.out _ _ ?_ ?_
 ·exact t8
 clear hK K
 try simp only [Act.put, putS]
 refine gR 7 fun w9 g9 s9 K hK => ?_
 have ⟨Fb_9, lb_9⟩ := Fb_8.gl g9
 have ⟨Fp_9, lp_9⟩ := Fp_8.gl g9
 have ⟨Fc_9, lc_9⟩ := Fc_8.gl g9
 have Kx_9 := Kx_8.gr g9
 have Kq_9 := hq1.gr g9
 have Ns_9 := NumsAt.gr (Ns_8) g9
 have z9 := z8.trans g9
 clear Fp_8 Fb_8 Fc_8 z8 g9
 go_simp
 refine (same15_c _ _ _ _ e2 s2 X ls w9 Kx_9 Ns_9 Kq_9 (VS.out.gr (z9))).mono ?_
 rintro e w10 ⟨rfl, g10⟩
 have t10 := Gr.trans s9 g10
 have ⟨Fb_10, lb_10⟩ := Fb_9.gl g10
 have ⟨Fp_10, lp_10⟩ := Fp_9.gl g10
 have ⟨Fc_10, lc_10⟩ := Fc_9.gl g10
 have Kx_10 := Kx_9.gr g10
 have Kq_10 := Kq_9.gr g10
 have Ns_10 := NumsAt.gr (Ns_9) g10
 have z10 := z9.trans g10
 clear Fp_9 Fb_9 Fc_9 z9 g10
 refine hK.out _ _ ?_ ?_
 ·exact t10
 clear hK K
 try simp only [Act.put, putS]
 refine gT 8 hclG ?_
 refine gT 9 hclG ?_
 refine wpG_done (by kernel_rfl) (fun w11 g11 => ?_) _
 have ⟨Fb_11, lb_11⟩ := Fb_10.gl g11
 have ⟨Fp_11, lp_11⟩ := Fp_10.gl g11
 have ⟨Fc_11, lc_11⟩ := Fc_10.gl g11
 have Kx_11 := Kx_10.gr g11
 have Kq_11 := Kq_10.gr g11
 have Ns_11 := NumsAt.gr (Ns_10) g11
 have z11 := z10.trans g11
 clear Fp_10 Fb_10 Fc_10 z10 g11
 clear hclG KS
 go_wp2_with fail
 go_ret
 exact ⟨by first | rfl | (simp; done), z11⟩
end
end Go.Proofs.YtdignnmpfkgkoaaGreat
