import Derived.BigRegion
import Derived.Test.YtablflakcaimmaaGreatFftPassesS39
namespace Go.Proofs.YtablflakcaimmaaGreat
section
open Go.ChangeShapes Go.WideShapes Go.ChangeAt Go.RowKit
set_option linter.unusedVariables false
set_option linter.unusedSimpArgs false
set_option maxRecDepth 100000
set_option maxHeartbeats 4000000 in
theorem passes15_plan (p sp : Option Addr) (l1 cap1 m1 l2 cap2 m2 : Nat) (fo lo ke sc mo ex pass : Int) (iv sa : Bool) (xs : List Gi) (ls : List Int) (hm1 : m1 ≤ cap1) (hmin1 : (if (70 : Int) < (l1 : Int) then 70 else (l1 : Int)) = (m1 : Int)) (hm2 : m2 ≤ cap2) (hmin2 : (if (10 : Int) < (l2 : Int) then 10 else (l2 : Int)) = (m2 : Int)) (HN : Hid (∀ W, CxsAt W (.slice p m1 cap1) xs → NumsAt W (.slice sp m2 cap2) ls → Calls Tryz.prog 16 #[.agg #[.slice p m1 cap1, .int .i64 ex, .bool sa, .slice sp m2 cap2], .agg #[.int .i64 fo, .int .i64 lo, .int .i64 ke, .int .i64 sc, .int .i64 mo, .bool iv], .int .i64 pass] W fun e w' => e = .returned (.tuple #[.agg #[.slice none 0 0, .int .i64 0, .bool false, .slice none 0 0], .int .i64 4]) ∧ Gr W w')) (HC : CR 17 #[.agg #[.int .i64 fo, .int .i64 lo, .int .i64 ke, .int .i64 sc, .int .i64 mo, .bool iv]] (.bool false)) (AL : CR 11 #[] (.bool true)) (w : World) (hx : CxsAt w (.slice p m1 cap1) xs) (hs : NumsAt w (.slice sp m2 cap2) ls) :
 Calls Tryz.prog 5 #[.agg #[.slice p l1 cap1, .int .i64 ex, .bool sa, .slice sp l2 cap2], .agg #[.int .i64 fo, .int .i64 lo, .int .i64 ke, .int .i64 sc, .int .i64 mo, .bool iv], .int .i64 pass] w fun e w' => e = .returned (.bool true) ∧ Gr w w' := by
 have hcut1 := run_cut_cx p l1 cap1 m1 hm1
 have hcut2 := run_cut_int sp l2 cap2 m2 hm2
 have VX := Lib.hid hx
 have VS := Lib.hid hs
 clear hx hs
 go_enter Tryz.func5, Tryz.ntmps5
 go_wp2_with fail
 obtain ⟨u0, hU⟩ : ∃ uu, uu = ((w.alloc (.cells #[.slice p l1 cap1, .int .i64 ex, .bool sa, .slice sp l2 cap2] 27)).alloc (.cells #[.int .i64 fo, .int .i64 lo, .int .i64 ke, .int .i64 sc, .int .i64 mo, .bool iv] 24)) := ⟨_, rfl⟩
 have ⟨gu, R0, R1⟩ := lay2 hU
 rw [← hU]
 clear hU
 have lb := R0.lt
 have lp := R1.lt
 have c0 := R0.cell 0
 have c3 := R0.cell 3
 simp only [getS] at c0 c3
 have m0 := R0.frozen 0
 have m3 := R0.frozen 3
 go_region
 clear c0 c3 m0 m3 hcut1 hcut2
 obtain ⟨u1, hq⟩ : ∃ zz, zz = (((u0.setCell ⟨w.heap.size, 0, none⟩ (.slice p m1 cap1)).setCell ⟨w.heap.size, 3, none⟩ (.slice sp m2 cap2)).drew) := ⟨_, rfl⟩
 have S0 : CellsAt u1 w.heap.size 27 #[.slice p m1 cap1, .int .i64 ex, .bool sa, .slice sp m2 cap2] := by rw [hq]; exact ((R0.set 0 (.slice p m1 cap1)).set 3 (.slice sp m2 cap2)).gr (Gr.drew (Gr.refl _))
 have S1 : CellsAt u1 (w.heap.size + 1) 24 #[.int .i64 fo, .int .i64 lo, .int .i64 ke, .int .i64 sc, .int .i64 mo, .bool iv] := by rw [hq]; exact ((R1.other (by omega) _ _).other (by omega) _ _).gr (Gr.drew (Gr.refl _))
 have s1 : Gr w u1 := by rw [hq]; exact ((gu.setCell (by simp) _).setCell (by simp) _).drew
 rw [← hq]
 clear hq R0 R1 gu lb lp
 have lb := S0.lt
 have lp := S1.lt
 obtain ⟨cb0, cb1, cb2, cb3⟩ := S0.t4
 obtain ⟨cp0, cp1, cp2, cp3, cp4, cp5⟩ := S1.t6
 go_wp2_with fail
 clear cb0 cb1 cb2 cb3 cp0 cp1 cp2 cp3 cp4 cp5
 refine (HN.out _ (VX.out.gr s1) (VS.out.gr s1)).mono ?_
 rintro e w1 ⟨rfl, g1⟩
 have ⟨Fb_1, lb_1⟩ := CellsAt.gl (S0) g1
 have ⟨Fp_1, lp_1⟩ := CellsAt.gl (S1) g1
 have z1 := (s1).trans g1
 clear S0 S1 s1 g1
 obtain ⟨cp0, cp1, cp2, cp3, cp4, cp5⟩ := Fp_1.t6
 go_wp2_with fail
 clear cp0 cp1 cp2 cp3 cp4 cp5
 obtain ⟨u2, hqp1⟩ : ∃ zz, zz = (w1.alloc (.cells #[.slice none 0 0, .int .i64 0, .bool false, .slice none 0 0] 27)) := ⟨_, rfl⟩
 have Yb_p1 : CellsAt u2 (w.heap.size) 27 #[.slice p m1 cap1, .int .i64 ex, .bool sa, .slice sp m2 cap2] := by rw [hqp1]; first | exact (Fb_1).alloc _ | simpa using (Fb_1).alloc _
 have Yp_p1 : CellsAt u2 (w.heap.size + 1) 24 #[.int .i64 fo, .int .i64 lo, .int .i64 ke, .int .i64 sc, .int .i64 mo, .bool iv] := by rw [hqp1]; first | exact (Fp_1).alloc _ | simpa using (Fp_1).alloc _
 have Yc_p1 : CellsAt u2 (w1.heap.size) 27 #[.slice none 0 0, .int .i64 0, .bool false, .slice none 0 0] := by rw [hqp1]; first | exact CellsAt.new w1 27 #[.slice none 0 0, .int .i64 0, .bool false, .slice none 0 0] | simpa using CellsAt.new w1 27 #[.slice none 0 0, .int .i64 0, .bool false, .slice none 0 0]
 have yp1 : Gr w u2 := by rw [hqp1]; exact (z1).alloc _ _
 rw [← hqp1]
 clear hqp1
 refine (HC.out _).mono ?_
 rintro e w2 ⟨rfl, g2⟩
 have ⟨Fb_2, lb_2⟩ := CellsAt.gl (Yb_p1) g2
 have ⟨Fp_2, lp_2⟩ := CellsAt.gl (Yp_p1) g2
 have ⟨Fc_2, lc_2⟩ := CellsAt.gl (Yc_p1) g2
 have z2 := (yp1).trans g2
 clear Yb_p1 Yp_p1 Yc_p1 yp1 g2
 go_wp2_with fail
 refine (AL.out _).mono ?_
 rintro e w3 ⟨rfl, g3⟩
 have ⟨Fb_3, lb_3⟩ := CellsAt.gl (Fb_2) g3
 have ⟨Fp_3, lp_3⟩ := CellsAt.gl (Fp_2) g3
 have ⟨Fc_3, lc_3⟩ := CellsAt.gl (Fc_2) g3
 have z3 := (z2).trans g3
 clear Fb_2 Fp_2 Fc_2 z2 g3
 obtain ⟨cc0, cc1, cc2, cc3⟩ := Fc_3.t4
 go_wp2_with fail
 clear cc0 cc1 cc2 cc3
 refine (same15_c (.slice none 0 0) (.slice none 0 0) (.slice none 0 0) (.slice none 0 0) 0 false [] [] _ ⟨none, 0, rfl, Nat.le_refl _, Nat.zero_le _, fun h => absurd rfl h⟩ (NumsAt.nil _) ⟨none, 0, rfl, Nat.le_refl _, Nat.zero_le _, fun h => absurd rfl h⟩ (NumsAt.nil _)).mono ?_
 rintro e w9 ⟨rfl, g9⟩
 go_wp2_with fail
 go_ret
 exact ⟨by first | rfl | (simp; done), (z3).trans g9⟩
set_option maxHeartbeats 4000000 in
theorem passes15_a (p sp : Option Addr) (l1 cap1 m1 l2 cap2 m2 : Nat) (fo lo ke sc mo ex pass : Int) (iv sa : Bool) (xs : List Gi) (ls : List Int) (hm1 : m1 ≤ cap1) (hmin1 : (if (70 : Int) < (l1 : Int) then 70 else (l1 : Int)) = (m1 : Int)) (hm2 : m2 ≤ cap2) (hmin2 : (if (10 : Int) < (l2 : Int) then 10 else (l2 : Int)) = (m2 : Int)) (Ls : List Gi) (y0 : Int) (h1 : decide (pass < 0) = true) (HN : Hid (∀ W, CxsAt W (.slice p m1 cap1) xs → NumsAt W (.slice sp m2 cap2) ls → Calls Tryz.prog 16 #[.agg #[.slice p m1 cap1, .int .i64 ex, .bool sa, .slice sp m2 cap2], .agg #[.int .i64 fo, .int .i64 lo, .int .i64 ke, .int .i64 sc, .int .i64 mo, .bool iv], .int .i64 pass] W fun e w' => e = .returned (.tuple #[.agg #[.slice none 0 0, .int .i64 0, .bool false, .slice none 0 0], .int .i64 1]) ∧ Gr W w')) (HC : CR 17 #[.agg #[.int .i64 fo, .int .i64 lo, .int .i64 ke, .int .i64 sc, .int .i64 mo, .bool iv]] (.bool true)) (HPS : Hid (∀ W, Calls Tryz.prog 18 #[.agg #[.int .i64 fo, .int .i64 lo, .int .i64 ke, .int .i64 sc, .int .i64 mo, .bool iv]] W fun e w' => ∃ v, e = .returned v ∧ CxsAt w' v Ls ∧ Gr W w')) (HM : Hid (∀ W, CxsAt W (.slice p m1 cap1) xs → Calls Tryz.prog 10 #[.slice p m1 cap1, .agg #[.int .i64 fo, .int .i64 lo, .int .i64 ke, .int .i64 sc, .int .i64 mo, .bool iv], .bool true] W fun e w' => e = .returned (.int .i64 y0) ∧ Gr W w')) (AL : CR 11 #[] (.bool true)) (w : World) (hx : CxsAt w (.slice p m1 cap1) xs) (hs : NumsAt w (.slice sp m2 cap2) ls) :
 Calls Tryz.prog 5 #[.agg #[.slice p l1 cap1, .int .i64 ex, .bool sa, .slice sp l2 cap2], .agg #[.int .i64 fo, .int .i64 lo, .int .i64 ke, .int .i64 sc, .int .i64 mo, .bool iv], .int .i64 pass] w fun e w' => e = .returned (.bool true) ∧ Gr w w' := by
 have hcut1 := run_cut_cx p l1 cap1 m1 hm1
 have hcut2 := run_cut_int sp l2 cap2 m2 hm2
 have VX := Lib.hid hx
 have VS := Lib.hid hs
 clear hx hs
 go_enter Tryz.func5, Tryz.ntmps5
 go_wp2_with fail
 obtain ⟨u0, hU⟩ : ∃ uu, uu = ((w.alloc (.cells #[.slice p l1 cap1, .int .i64 ex, .bool sa, .slice sp l2 cap2] 27)).alloc (.cells #[.int .i64 fo, .int .i64 lo, .int .i64 ke, .int .i64 sc, .int .i64 mo, .bool iv] 24)) := ⟨_, rfl⟩
 have ⟨gu, R0, R1⟩ := lay2 hU
 rw [← hU]
 clear hU
 have lb := R0.lt
 have lp := R1.lt
 have c0 := R0.cell 0
 have c3 := R0.cell 3
 simp only [getS] at c0 c3
 have m0 := R0.frozen 0
 have m3 := R0.frozen 3
 go_region
 clear c0 c3 m0 m3 hcut1 hcut2
 obtain ⟨u1, hq⟩ : ∃ zz, zz = (((u0.setCell ⟨w.heap.size, 0, none⟩ (.slice p m1 cap1)).setCell ⟨w.heap.size, 3, none⟩ (.slice sp m2 cap2)).drew) := ⟨_, rfl⟩
 have S0 : CellsAt u1 w.heap.size 27 #[.slice p m1 cap1, .int .i64 ex, .bool sa, .slice sp m2 cap2] := by rw [hq]; exact ((R0.set 0 (.slice p m1 cap1)).set 3 (.slice sp m2 cap2)).gr (Gr.drew (Gr.refl _))
 have S1 : CellsAt u1 (w.heap.size + 1) 24 #[.int .i64 fo, .int .i64 lo, .int .i64 ke, .int .i64 sc, .int .i64 mo, .bool iv] := by rw [hq]; exact ((R1.other (by omega) _ _).other (by omega) _ _).gr (Gr.drew (Gr.refl _))
 have s1 : Gr w u1 := by rw [hq]; exact ((gu.setCell (by simp) _).setCell (by simp) _).drew
 rw [← hq]
 clear hq R0 R1 gu lb lp
 have lb := S0.lt
 have lp := S1.lt
 obtain ⟨cb0, cb1, cb2, cb3⟩ := S0.t4
 obtain ⟨cp0, cp1, cp2, cp3, cp4, cp5⟩ := S1.t6
 go_wp2_with fail
 clear cb0 cb1 cb2 cb3 cp0 cp1 cp2 cp3 cp4 cp5
 refine (HN.out _ (VX.out.gr s1) (VS.out.gr s1)).mono ?_
 rintro e w1 ⟨rfl, g1⟩
 have ⟨Fb_1, lb_1⟩ := CellsAt.gl (S0) g1
 have ⟨Fp_1, lp_1⟩ := CellsAt.gl (S1) g1
 have z1 := (s1).trans g1
 clear S0 S1 s1 g1
 obtain ⟨cp0, cp1, cp2, cp3, cp4, cp5⟩ := Fp_1.t6
 go_wp2_with fail
 clear cp0 cp1 cp2 cp3 cp4 cp5
 obtain ⟨u2, hqp1⟩ : ∃ zz, zz = (w1.alloc (.cells #[.slice none 0 0, .int .i64 0, .bool false, .slice none 0 0] 27)) := ⟨_, rfl⟩
 have Yb_p1 : CellsAt u2 (w.heap.size) 27 #[.slice p m1 cap1, .int .i64 ex, .bool sa, .slice sp m2 cap2] := by rw [hqp1]; first | exact (Fb_1).alloc _ | simpa using (Fb_1).alloc _
 have Yp_p1 : CellsAt u2 (w.heap.size + 1) 24 #[.int .i64 fo, .int .i64 lo, .int .i64 ke, .int .i64 sc, .int .i64 mo, .bool iv] := by rw [hqp1]; first | exact (Fp_1).alloc _ | simpa using (Fp_1).alloc _
 have Yc_p1 : CellsAt u2 (w1.heap.size) 27 #[.slice none 0 0, .int .i64 0, .bool false, .slice none 0 0] := by rw [hqp1]; first | exact CellsAt.new w1 27 #[.slice none 0 0, .int .i64 0, .bool false, .slice none 0 0] | simpa using CellsAt.new w1 27 #[.slice none 0 0, .int .i64 0, .bool false, .slice none 0 0]
 have yp1 : Gr w u2 := by rw [hqp1]; exact (z1).alloc _ _
 rw [← hqp1]
 clear hqp1
 refine (HC.out _).mono ?_
 rintro e w2 ⟨rfl, g2⟩
 have ⟨Fb_2, lb_2⟩ := CellsAt.gl (Yb_p1) g2
 have ⟨Fp_2, lp_2⟩ := CellsAt.gl (Yp_p1) g2
 have ⟨Fc_2, lc_2⟩ := CellsAt.gl (Yc_p1) g2
 have z2 := (yp1).trans g2
 clear Yb_p1 Yp_p1 Yc_p1 yp1 g2
 obtain ⟨cp0, cp1, cp2, cp3, cp4, cp5⟩ := Fp_2.t6
 go_wp2_with fail
 clear cp0 cp1 cp2 cp3 cp4 cp5
 refine (HPS.out _).mono ?_
 rintro e w3 ⟨vp, rfl, hp3, g3⟩
 obtain ⟨pp, pcap, rfl⟩ := hp3.len
 have ⟨Fb_3, lb_3⟩ := CellsAt.gl (Fb_2) g3
 have ⟨Fp_3, lp_3⟩ := CellsAt.gl (Fp_2) g3
 have ⟨Fc_3, lc_3⟩ := CellsAt.gl (Fc_2) g3
 have z3 := (z2).trans g3
 clear Fb_2 Fp_2 Fc_2 z2 g3
 obtain ⟨cb0, cb1, cb2, cb3⟩ := Fb_3.t4
 obtain ⟨cp0, cp1, cp2, cp3, cp4, cp5⟩ := Fp_3.t6
 go_wp2_with fail
 clear cb0 cb1 cb2 cb3 cp0 cp1 cp2 cp3 cp4 cp5
 refine (HM.out _ (VX.out.gr z3)).mono ?_
 rintro e w4 ⟨rfl, g4⟩
 have hp4 := hp3.gr g4
 have ⟨Fb_4, lb_4⟩ := CellsAt.gl (Fb_3) g4
 have ⟨Fp_4, lp_4⟩ := CellsAt.gl (Fp_3) g4
 have ⟨Fc_4, lc_4⟩ := CellsAt.gl (Fc_3) g4
 have z4 := (z3).trans g4
 clear Fb_3 Fp_3 Fc_3 z3 g4
 obtain ⟨cb0, cb1, cb2, cb3⟩ := Fb_4.t4
 go_wp2_with fail
 clear cb0 cb1 cb2 cb3
 refine (AL.out _).mono ?_
 rintro e w5 ⟨rfl, g5⟩
 have ⟨Fb_5, lb_5⟩ := CellsAt.gl (Fb_4) g5
 have ⟨Fp_5, lp_5⟩ := CellsAt.gl (Fp_4) g5
 have ⟨Fc_5, lc_5⟩ := CellsAt.gl (Fc_4) g5
 have z5 := (z4).trans g5
 clear Fb_4 Fp_4 Fc_4 z4 g5
 obtain ⟨cc0, cc1, cc2, cc3⟩ := Fc_5.t4
 go_wp2_with fail
 clear cc0 cc1 cc2 cc3
 refine (same15_c (.slice none 0 0) (.slice none 0 0) (.slice none 0 0) (.slice none 0 0) 0 false [] [] _ ⟨none, 0, rfl, Nat.le_refl _, Nat.zero_le _, fun h => absurd rfl h⟩ (NumsAt.nil _) ⟨none, 0, rfl, Nat.le_refl _, Nat.zero_le _, fun h => absurd rfl h⟩ (NumsAt.nil _)).mono ?_
 rintro e w9 ⟨rfl, g9⟩
 go_wp2_with fail
 go_ret
 exact ⟨by first | rfl | (simp; done), (z5).trans g9⟩
set_option maxHeartbeats 4000000 in
theorem passes15_b (p sp : Option Addr) (l1 cap1 m1 l2 cap2 m2 : Nat) (fo lo ke sc mo ex pass : Int) (iv sa : Bool) (xs : List Gi) (ls : List Int) (hm1 : m1 ≤ cap1) (hmin1 : (if (70 : Int) < (l1 : Int) then 70 else (l1 : Int)) = (m1 : Int)) (hm2 : m2 ≤ cap2) (hmin2 : (if (10 : Int) < (l2 : Int) then 10 else (l2 : Int)) = (m2 : Int)) (Ls : List Gi) (y0 : Int) (h1 : decide (pass < 0) = false) (h2 : decide ((Ls.length : Int) ≤ pass) = true) (HN : Hid (∀ W, CxsAt W (.slice p m1 cap1) xs → NumsAt W (.slice sp m2 cap2) ls → Calls Tryz.prog 16 #[.agg #[.slice p m1 cap1, .int .i64 ex, .bool sa, .slice sp m2 cap2], .agg #[.int .i64 fo, .int .i64 lo, .int .i64 ke, .int .i64 sc, .int .i64 mo, .bool iv], .int .i64 pass] W fun e w' => e = .returned (.tuple #[.agg #[.slice none 0 0, .int .i64 0, .bool false, .slice none 0 0], .int .i64 1]) ∧ Gr W w')) (HC : CR 17 #[.agg #[.int .i64 fo, .int .i64 lo, .int .i64 ke, .int .i64 sc, .int .i64 mo, .bool iv]] (.bool true)) (HPS : Hid (∀ W, Calls Tryz.prog 18 #[.agg #[.int .i64 fo, .int .i64 lo, .int .i64 ke, .int .i64 sc, .int .i64 mo, .bool iv]] W fun e w' => ∃ v, e = .returned v ∧ CxsAt w' v Ls ∧ Gr W w')) (HM : Hid (∀ W, CxsAt W (.slice p m1 cap1) xs → Calls Tryz.prog 10 #[.slice p m1 cap1, .agg #[.int .i64 fo, .int .i64 lo, .int .i64 ke, .int .i64 sc, .int .i64 mo, .bool iv], .bool true] W fun e w' => e = .returned (.int .i64 y0) ∧ Gr W w')) (AL : CR 11 #[] (.bool true)) (w : World) (hx : CxsAt w (.slice p m1 cap1) xs) (hs : NumsAt w (.slice sp m2 cap2) ls) :
 Calls Tryz.prog 5 #[.agg #[.slice p l1 cap1, .int .i64 ex, .bool sa, .slice sp l2 cap2], .agg #[.int .i64 fo, .int .i64 lo, .int .i64 ke, .int .i64 sc, .int .i64 mo, .bool iv], .int .i64 pass] w fun e w' => e = .returned (.bool true) ∧ Gr w w' := by
 have hcut1 := run_cut_cx p l1 cap1 m1 hm1
 have hcut2 := run_cut_int sp l2 cap2 m2 hm2
 have VX := Lib.hid hx
 have VS := Lib.hid hs
 clear hx hs
 go_enter Tryz.func5, Tryz.ntmps5
 go_wp2_with fail
 obtain ⟨u0, hU⟩ : ∃ uu, uu = ((w.alloc (.cells #[.slice p l1 cap1, .int .i64 ex, .bool sa, .slice sp l2 cap2] 27)).alloc (.cells #[.int .i64 fo, .int .i64 lo, .int .i64 ke, .int .i64 sc, .int .i64 mo, .bool iv] 24)) := ⟨_, rfl⟩
 have ⟨gu, R0, R1⟩ := lay2 hU
 rw [← hU]
 clear hU
 have lb := R0.lt
 have lp := R1.lt
 have c0 := R0.cell 0
 have c3 := R0.cell 3
 simp only [getS] at c0 c3
 have m0 := R0.frozen 0
 have m3 := R0.frozen 3
 go_region
 clear c0 c3 m0 m3 hcut1 hcut2
 obtain ⟨u1, hq⟩ : ∃ zz, zz = (((u0.setCell ⟨w.heap.size, 0, none⟩ (.slice p m1 cap1)).setCell ⟨w.heap.size, 3, none⟩ (.slice sp m2 cap2)).drew) := ⟨_, rfl⟩
 have S0 : CellsAt u1 w.heap.size 27 #[.slice p m1 cap1, .int .i64 ex, .bool sa, .slice sp m2 cap2] := by rw [hq]; exact ((R0.set 0 (.slice p m1 cap1)).set 3 (.slice sp m2 cap2)).gr (Gr.drew (Gr.refl _))
 have S1 : CellsAt u1 (w.heap.size + 1) 24 #[.int .i64 fo, .int .i64 lo, .int .i64 ke, .int .i64 sc, .int .i64 mo, .bool iv] := by rw [hq]; exact ((R1.other (by omega) _ _).other (by omega) _ _).gr (Gr.drew (Gr.refl _))
 have s1 : Gr w u1 := by rw [hq]; exact ((gu.setCell (by simp) _).setCell (by simp) _).drew
 rw [← hq]
 clear hq R0 R1 gu lb lp
 have lb := S0.lt
 have lp := S1.lt
 obtain ⟨cb0, cb1, cb2, cb3⟩ := S0.t4
 obtain ⟨cp0, cp1, cp2, cp3, cp4, cp5⟩ := S1.t6
 go_wp2_with fail
 clear cb0 cb1 cb2 cb3 cp0 cp1 cp2 cp3 cp4 cp5
 refine (HN.out _ (VX.out.gr s1) (VS.out.gr s1)).mono ?_
 rintro e w1 ⟨rfl, g1⟩
 have ⟨Fb_1, lb_1⟩ := CellsAt.gl (S0) g1
 have ⟨Fp_1, lp_1⟩ := CellsAt.gl (S1) g1
 have z1 := (s1).trans g1
 clear S0 S1 s1 g1
 obtain ⟨cp0, cp1, cp2, cp3, cp4, cp5⟩ := Fp_1.t6
 go_wp2_with fail
 clear cp0 cp1 cp2 cp3 cp4 cp5
 obtain ⟨u2, hqp1⟩ : ∃ zz, zz = (w1.alloc (.cells #[.slice none 0 0, .int .i64 0, .bool false, .slice none 0 0] 27)) := ⟨_, rfl⟩
 have Yb_p1 : CellsAt u2 (w.heap.size) 27 #[.slice p m1 cap1, .int .i64 ex, .bool sa, .slice sp m2 cap2] := by rw [hqp1]; first | exact (Fb_1).alloc _ | simpa using (Fb_1).alloc _
 have Yp_p1 : CellsAt u2 (w.heap.size + 1) 24 #[.int .i64 fo, .int .i64 lo, .int .i64 ke, .int .i64 sc, .int .i64 mo, .bool iv] := by rw [hqp1]; first | exact (Fp_1).alloc _ | simpa using (Fp_1).alloc _
 have Yc_p1 : CellsAt u2 (w1.heap.size) 27 #[.slice none 0 0, .int .i64 0, .bool false, .slice none 0 0] := by rw [hqp1]; first | exact CellsAt.new w1 27 #[.slice none 0 0, .int .i64 0, .bool false, .slice none 0 0] | simpa using CellsAt.new w1 27 #[.slice none 0 0, .int .i64 0, .bool false, .slice none 0 0]
 have yp1 : Gr w u2 := by rw [hqp1]; exact (z1).alloc _ _
 rw [← hqp1]
 clear hqp1
 refine (HC.out _).mono ?_
 rintro e w2 ⟨rfl, g2⟩
 have ⟨Fb_2, lb_2⟩ := CellsAt.gl (Yb_p1) g2
 have ⟨Fp_2, lp_2⟩ := CellsAt.gl (Yp_p1) g2
 have ⟨Fc_2, lc_2⟩ := CellsAt.gl (Yc_p1) g2
 have z2 := (yp1).trans g2
 clear Yb_p1 Yp_p1 Yc_p1 yp1 g2
 obtain ⟨cp0, cp1, cp2, cp3, cp4, cp5⟩ := Fp_2.t6
 go_wp2_with fail
 clear cp0 cp1 cp2 cp3 cp4 cp5
 refine (HPS.out _).mono ?_
 rintro e w3 ⟨vp, rfl, hp3, g3⟩
 obtain ⟨pp, pcap, rfl⟩ := hp3.len
 have ⟨Fb_3, lb_3⟩ := CellsAt.gl (Fb_2) g3
 have ⟨Fp_3, lp_3⟩ := CellsAt.gl (Fp_2) g3
 have ⟨Fc_3, lc_3⟩ := CellsAt.gl (Fc_2) g3
 have z3 := (z2).trans g3
 clear Fb_2 Fp_2 Fc_2 z2 g3
 obtain ⟨cb0, cb1, cb2, cb3⟩ := Fb_3.t4
 obtain ⟨cp0, cp1, cp2, cp3, cp4, cp5⟩ := Fp_3.t6
 go_wp2_with fail
 clear cb0 cb1 cb2 cb3 cp0 cp1 cp2 cp3 cp4 cp5
 refine (HM.out _ (VX.out.gr z3)).mono ?_
 rintro e w4 ⟨rfl, g4⟩
 have hp4 := hp3.gr g4
 have ⟨Fb_4, lb_4⟩ := CellsAt.gl (Fb_3) g4
 have ⟨Fp_4, lp_4⟩ := CellsAt.gl (Fp_3) g4
 have ⟨Fc_4, lc_4⟩ := CellsAt.gl (Fc_3) g4
 have z4 := (z3).trans g4
 clear Fb_3 Fp_3 Fc_3 z3 g4
 obtain ⟨cb0, cb1, cb2, cb3⟩ := Fb_4.t4
 go_wp2_with fail
 clear cb0 cb1 cb2 cb3
 refine (AL.out _).mono ?_
 rintro e w5 ⟨rfl, g5⟩
 have ⟨Fb_5, lb_5⟩ := CellsAt.gl (Fb_4) g5
 have ⟨Fp_5, lp_5⟩ := CellsAt.gl (Fp_4) g5
 have ⟨Fc_5, lc_5⟩ := CellsAt.gl (Fc_4) g5
 have z5 := (z4).trans g5
 clear Fb_4 Fp_4 Fc_4 z4 g5
 obtain ⟨cc0, cc1, cc2, cc3⟩ := Fc_5.t4
 go_wp2_with fail
 clear cc0 cc1 cc2 cc3
 refine (same15_c (.slice none 0 0) (.slice none 0 0) (.slice none 0 0) (.slice none 0 0) 0 false [] [] _ ⟨none, 0, rfl, Nat.le_refl _, Nat.zero_le _, fun h => absurd rfl h⟩ (NumsAt.nil _) ⟨none, 0, rfl, Nat.le_refl _, Nat.zero_le _, fun h => absurd rfl h⟩ (NumsAt.nil _)).mono ?_
 rintro e w9 ⟨rfl, g9⟩
 go_wp2_with fail
 go_ret
 exact ⟨by first | rfl | (simp; done), (z5).trans g9⟩
set_option maxHeartbeats 4000000 in
theorem passes15_c (p sp : Option Addr) (l1 cap1 m1 l2 cap2 m2 : Nat) (fo lo ke sc mo ex pass : Int) (iv sa : Bool) (xs : List Gi) (ls : List Int) (hm1 : m1 ≤ cap1) (hmin1 : (if (70 : Int) < (l1 : Int) then 70 else (l1 : Int)) = (m1 : Int)) (hm2 : m2 ≤ cap2) (hmin2 : (if (10 : Int) < (l2 : Int) then 10 else (l2 : Int)) = (m2 : Int)) (Ls : List Gi) (y : Int) (h1 : decide (pass < 0) = false) (h2 : decide ((Ls.length : Int) ≤ pass) = false) (h3 : (y == 0) = false) (HN : Hid (∀ W, CxsAt W (.slice p m1 cap1) xs → NumsAt W (.slice sp m2 cap2) ls → Calls Tryz.prog 16 #[.agg #[.slice p m1 cap1, .int .i64 ex, .bool sa, .slice sp m2 cap2], .agg #[.int .i64 fo, .int .i64 lo, .int .i64 ke, .int .i64 sc, .int .i64 mo, .bool iv], .int .i64 pass] W fun e w' => e = .returned (.tuple #[.agg #[.slice none 0 0, .int .i64 0, .bool false, .slice none 0 0], .int .i64 y]) ∧ Gr W w')) (HC : CR 17 #[.agg #[.int .i64 fo, .int .i64 lo, .int .i64 ke, .int .i64 sc, .int .i64 mo, .bool iv]] (.bool true)) (HPS : Hid (∀ W, Calls Tryz.prog 18 #[.agg #[.int .i64 fo, .int .i64 lo, .int .i64 ke, .int .i64 sc, .int .i64 mo, .bool iv]] W fun e w' => ∃ v, e = .returned v ∧ CxsAt w' v Ls ∧ Gr W w')) (HM : Hid (∀ W, CxsAt W (.slice p m1 cap1) xs → Calls Tryz.prog 10 #[.slice p m1 cap1, .agg #[.int .i64 fo, .int .i64 lo, .int .i64 ke, .int .i64 sc, .int .i64 mo, .bool iv], .bool true] W fun e w' => e = .returned (.int .i64 y) ∧ Gr W w')) (AL : CR 11 #[] (.bool true)) (w : World) (hx : CxsAt w (.slice p m1 cap1) xs) (hs : NumsAt w (.slice sp m2 cap2) ls) :
 Calls Tryz.prog 5 #[.agg #[.slice p l1 cap1, .int .i64 ex, .bool sa, .slice sp l2 cap2], .agg #[.int .i64 fo, .int .i64 lo, .int .i64 ke, .int .i64 sc, .int .i64 mo, .bool iv], .int .i64 pass] w fun e w' => e = .returned (.bool true) ∧ Gr w w' := by
 have hcut1 := run_cut_cx p l1 cap1 m1 hm1
 have hcut2 := run_cut_int sp l2 cap2 m2 hm2
 have VX := Lib.hid hx
 have VS := Lib.hid hs
 clear hx hs
 go_enter Tryz.func5, Tryz.ntmps5
 go_wp2_with fail
 obtain ⟨u0, hU⟩ : ∃ uu, uu = ((w.alloc (.cells #[.slice p l1 cap1, .int .i64 ex, .bool sa, .slice sp l2 cap2] 27)).alloc (.cells #[.int .i64 fo, .int .i64 lo, .int .i64 ke, .int .i64 sc, .int .i64 mo, .bool iv] 24)) := ⟨_, rfl⟩
 have ⟨gu, R0, R1⟩ := lay2 hU
 rw [← hU]
 clear hU
 have lb := R0.lt
 have lp := R1.lt
 have c0 := R0.cell 0
 have c3 := R0.cell 3
 simp only [getS] at c0 c3
 have m0 := R0.frozen 0
 have m3 := R0.frozen 3
 go_region
 clear c0 c3 m0 m3 hcut1 hcut2
 obtain ⟨u1, hq⟩ : ∃ zz, zz = (((u0.setCell ⟨w.heap.size, 0, none⟩ (.slice p m1 cap1)).setCell ⟨w.heap.size, 3, none⟩ (.slice sp m2 cap2)).drew) := ⟨_, rfl⟩
 have S0 : CellsAt u1 w.heap.size 27 #[.slice p m1 cap1, .int .i64 ex, .bool sa, .slice sp m2 cap2] := by rw [hq]; exact ((R0.set 0 (.slice p m1 cap1)).set 3 (.slice sp m2 cap2)).gr (Gr.drew (Gr.refl _))
 have S1 : CellsAt u1 (w.heap.size + 1) 24 #[.int .i64 fo, .int .i64 lo, .int .i64 ke, .int .i64 sc, .int .i64 mo, .bool iv] := by rw [hq]; exact ((R1.other (by omega) _ _).other (by omega) _ _).gr (Gr.drew (Gr.refl _))
 have s1 : Gr w u1 := by rw [hq]; exact ((gu.setCell (by simp) _).setCell (by simp) _).drew
 rw [← hq]
 clear hq R0 R1 gu lb lp
 have lb := S0.lt
 have lp := S1.lt
 obtain ⟨cb0, cb1, cb2, cb3⟩ := S0.t4
 obtain ⟨cp0, cp1, cp2, cp3, cp4, cp5⟩ := S1.t6
 go_wp2_with fail
 clear cb0 cb1 cb2 cb3 cp0 cp1 cp2 cp3 cp4 cp5
 refine (HN.out _ (VX.out.gr s1) (VS.out.gr s1)).mono ?_
 rintro e w1 ⟨rfl, g1⟩
 have ⟨Fb_1, lb_1⟩ := CellsAt.gl (S0) g1
 have ⟨Fp_1, lp_1⟩ := CellsAt.gl (S1) g1
 have z1 := (s1).trans g1
 clear S0 S1 s1 g1
 obtain ⟨cp0, cp1, cp2, cp3, cp4, cp5⟩ := Fp_1.t6
 go_wp2_with fail
 clear cp0 cp1 cp2 cp3 cp4 cp5
 obtain ⟨u2, hqp1⟩ : ∃ zz, zz = (w1.alloc (.cells #[.slice none 0 0, .int .i64 0, .bool false, .slice none 0 0] 27)) := ⟨_, rfl⟩
 have Yb_p1 : CellsAt u2 (w.heap.size) 27 #[.slice p m1 cap1, .int .i64 ex, .bool sa, .slice sp m2 cap2] := by rw [hqp1]; first | exact (Fb_1).alloc _ | simpa using (Fb_1).alloc _
 have Yp_p1 : CellsAt u2 (w.heap.size + 1) 24 #[.int .i64 fo, .int .i64 lo, .int .i64 ke, .int .i64 sc, .int .i64 mo, .bool iv] := by rw [hqp1]; first | exact (Fp_1).alloc _ | simpa using (Fp_1).alloc _
 have Yc_p1 : CellsAt u2 (w1.heap.size) 27 #[.slice none 0 0, .int .i64 0, .bool false, .slice none 0 0] := by rw [hqp1]; first | exact CellsAt.new w1 27 #[.slice none 0 0, .int .i64 0, .bool false, .slice none 0 0] | simpa using CellsAt.new w1 27 #[.slice none 0 0, .int .i64 0, .bool false, .slice none 0 0]
 have yp1 : Gr w u2 := by rw [hqp1]; exact (z1).alloc _ _
 rw [← hqp1]
 clear hqp1
 refine (HC.out _).mono ?_
 rintro e w2 ⟨rfl, g2⟩
 have ⟨Fb_2, lb_2⟩ := CellsAt.gl (Yb_p1) g2
 have ⟨Fp_2, lp_2⟩ := CellsAt.gl (Yp_p1) g2
 have ⟨Fc_2, lc_2⟩ := CellsAt.gl (Yc_p1) g2
 have z2 := (yp1).trans g2
 clear Yb_p1 Yp_p1 Yc_p1 yp1 g2
 obtain ⟨cp0, cp1, cp2, cp3, cp4, cp5⟩ := Fp_2.t6
 go_wp2_with fail
 clear cp0 cp1 cp2 cp3 cp4 cp5
 refine (HPS.out _).mono ?_
 rintro e w3 ⟨vp, rfl, hp3, g3⟩
 obtain ⟨pp, pcap, rfl⟩ := hp3.len
 have ⟨Fb_3, lb_3⟩ := CellsAt.gl (Fb_2) g3
 have ⟨Fp_3, lp_3⟩ := CellsAt.gl (Fp_2) g3
 have ⟨Fc_3, lc_3⟩ := CellsAt.gl (Fc_2) g3
 have z3 := (z2).trans g3
 clear Fb_2 Fp_2 Fc_2 z2 g3
 obtain ⟨cb0, cb1, cb2, cb3⟩ := Fb_3.t4
 obtain ⟨cp0, cp1, cp2, cp3, cp4, cp5⟩ := Fp_3.t6
 go_wp2_with fail
 clear cb0 cb1 cb2 cb3 cp0 cp1 cp2 cp3 cp4 cp5
 refine (HM.out _ (VX.out.gr z3)).mono ?_
 rintro e w4 ⟨rfl, g4⟩
 have hp4 := hp3.gr g4
 have ⟨Fb_4, lb_4⟩ := CellsAt.gl (Fb_3) g4
 have ⟨Fp_4, lp_4⟩ := CellsAt.gl (Fp_3) g4
 have ⟨Fc_4, lc_4⟩ := CellsAt.gl (Fc_3) g4
 have z4 := (z3).trans g4
 clear Fb_3 Fp_3 Fc_3 z3 g4
 obtain ⟨cb0, cb1, cb2, cb3⟩ := Fb_4.t4
 go_wp2_with fail
 clear cb0 cb1 cb2 cb3
 refine (AL.out _).mono ?_
 rintro e w5 ⟨rfl, g5⟩
 have ⟨Fb_5, lb_5⟩ := CellsAt.gl (Fb_4) g5
 have ⟨Fp_5, lp_5⟩ := CellsAt.gl (Fp_4) g5
 have ⟨Fc_5, lc_5⟩ := CellsAt.gl (Fc_4) g5
 have z5 := (z4).trans g5
 clear Fb_4 Fp_4 Fc_4 z4 g5
 obtain ⟨cc0, cc1, cc2, cc3⟩ := Fc_5.t4
 go_wp2_with fail
 clear cc0 cc1 cc2 cc3
 refine (same15_c (.slice none 0 0) (.slice none 0 0) (.slice none 0 0) (.slice none 0 0) 0 false [] [] _ ⟨none, 0, rfl, Nat.le_refl _, Nat.zero_le _, fun h => absurd rfl h⟩ (NumsAt.nil _) ⟨none, 0, rfl, Nat.le_refl _, Nat.zero_le _, fun h => absurd rfl h⟩ (NumsAt.nil _)).mono ?_
 rintro e w9 ⟨rfl, g9⟩
 go_wp2_with fail
 go_ret
 exact ⟨by first | rfl | (simp; done), (z5).trans g9⟩
set_option maxHeartbeats 4000000 in
theorem passes15_d (p sp : Option Addr) (l1 cap1 m1 l2 cap2 m2 : Nat) (fo lo ke sc mo ex pass : Int) (iv sa : Bool) (xs : List Gi) (ls : List Int) (hm1 : m1 ≤ cap1) (hmin1 : (if (70 : Int) < (l1 : Int) then 70 else (l1 : Int)) = (m1 : Int)) (hm2 : m2 ≤ cap2) (hmin2 : (if (10 : Int) < (l2 : Int) then 10 else (l2 : Int)) = (m2 : Int)) (Ls : List Gi) (h1 : decide (pass < 0) = false) (h2 : decide ((Ls.length : Int) ≤ pass) = false) (h4 : decide (ex < -100) = true) (HN : Hid (∀ W, CxsAt W (.slice p m1 cap1) xs → NumsAt W (.slice sp m2 cap2) ls → Calls Tryz.prog 16 #[.agg #[.slice p m1 cap1, .int .i64 ex, .bool sa, .slice sp m2 cap2], .agg #[.int .i64 fo, .int .i64 lo, .int .i64 ke, .int .i64 sc, .int .i64 mo, .bool iv], .int .i64 pass] W fun e w' => e = .returned (.tuple #[.agg #[.slice none 0 0, .int .i64 0, .bool false, .slice none 0 0], .int .i64 2]) ∧ Gr W w')) (HC : CR 17 #[.agg #[.int .i64 fo, .int .i64 lo, .int .i64 ke, .int .i64 sc, .int .i64 mo, .bool iv]] (.bool true)) (HPS : Hid (∀ W, Calls Tryz.prog 18 #[.agg #[.int .i64 fo, .int .i64 lo, .int .i64 ke, .int .i64 sc, .int .i64 mo, .bool iv]] W fun e w' => ∃ v, e = .returned v ∧ CxsAt w' v Ls ∧ Gr W w')) (HM : Hid (∀ W, CxsAt W (.slice p m1 cap1) xs → Calls Tryz.prog 10 #[.slice p m1 cap1, .agg #[.int .i64 fo, .int .i64 lo, .int .i64 ke, .int .i64 sc, .int .i64 mo, .bool iv], .bool true] W fun e w' => e = .returned (.int .i64 0) ∧ Gr W w')) (AL : CR 11 #[] (.bool true)) (w : World) (hx : CxsAt w (.slice p m1 cap1) xs) (hs : NumsAt w (.slice sp m2 cap2) ls) :
 Calls Tryz.prog 5 #[.agg #[.slice p l1 cap1, .int .i64 ex, .bool sa, .slice sp l2 cap2], .agg #[.int .i64 fo, .int .i64 lo, .int .i64 ke, .int .i64 sc, .int .i64 mo, .bool iv], .int .i64 pass] w fun e w' => e = .returned (.bool true) ∧ Gr w w' := by
 have hcut1 := run_cut_cx p l1 cap1 m1 hm1
 have hcut2 := run_cut_int sp l2 cap2 m2 hm2
 have VX := Lib.hid hx
 have VS := Lib.hid hs
 clear hx hs
 go_enter Tryz.func5, Tryz.ntmps5
 go_wp2_with fail
 obtain ⟨u0, hU⟩ : ∃ uu, uu = ((w.alloc (.cells #[.slice p l1 cap1, .int .i64 ex, .bool sa, .slice sp l2 cap2] 27)).alloc (.cells #[.int .i64 fo, .int .i64 lo, .int .i64 ke, .int .i64 sc, .int .i64 mo, .bool iv] 24)) := ⟨_, rfl⟩
 have ⟨gu, R0, R1⟩ := lay2 hU
 rw [← hU]
 clear hU
 have lb := R0.lt
 have lp := R1.lt
 have c0 := R0.cell 0
 have c3 := R0.cell 3
 simp only [getS] at c0 c3
 have m0 := R0.frozen 0
 have m3 := R0.frozen 3
 go_region
 clear c0 c3 m0 m3 hcut1 hcut2
 obtain ⟨u1, hq⟩ : ∃ zz, zz = (((u0.setCell ⟨w.heap.size, 0, none⟩ (.slice p m1 cap1)).setCell ⟨w.heap.size, 3, none⟩ (.slice sp m2 cap2)).drew) := ⟨_, rfl⟩
 have S0 : CellsAt u1 w.heap.size 27 #[.slice p m1 cap1, .int .i64 ex, .bool sa, .slice sp m2 cap2] := by rw [hq]; exact ((R0.set 0 (.slice p m1 cap1)).set 3 (.slice sp m2 cap2)).gr (Gr.drew (Gr.refl _))
 have S1 : CellsAt u1 (w.heap.size + 1) 24 #[.int .i64 fo, .int .i64 lo, .int .i64 ke, .int .i64 sc, .int .i64 mo, .bool iv] := by rw [hq]; exact ((R1.other (by omega) _ _).other (by omega) _ _).gr (Gr.drew (Gr.refl _))
 have s1 : Gr w u1 := by rw [hq]; exact ((gu.setCell (by simp) _).setCell (by simp) _).drew
 rw [← hq]
 clear hq R0 R1 gu lb lp
 have lb := S0.lt
 have lp := S1.lt
 obtain ⟨cb0, cb1, cb2, cb3⟩ := S0.t4
 obtain ⟨cp0, cp1, cp2, cp3, cp4, cp5⟩ := S1.t6
 go_wp2_with fail
 clear cb0 cb1 cb2 cb3 cp0 cp1 cp2 cp3 cp4 cp5
 refine (HN.out _ (VX.out.gr s1) (VS.out.gr s1)).mono ?_
 rintro e w1 ⟨rfl, g1⟩
 have ⟨Fb_1, lb_1⟩ := CellsAt.gl (S0) g1
 have ⟨Fp_1, lp_1⟩ := CellsAt.gl (S1) g1
 have z1 := (s1).trans g1
 clear S0 S1 s1 g1
 obtain ⟨cp0, cp1, cp2, cp3, cp4, cp5⟩ := Fp_1.t6
 go_wp2_with fail
 clear cp0 cp1 cp2 cp3 cp4 cp5
 obtain ⟨u2, hqp1⟩ : ∃ zz, zz = (w1.alloc (.cells #[.slice none 0 0, .int .i64 0, .bool false, .slice none 0 0] 27)) := ⟨_, rfl⟩
 have Yb_p1 : CellsAt u2 (w.heap.size) 27 #[.slice p m1 cap1, .int .i64 ex, .bool sa, .slice sp m2 cap2] := by rw [hqp1]; first | exact (Fb_1).alloc _ | simpa using (Fb_1).alloc _
 have Yp_p1 : CellsAt u2 (w.heap.size + 1) 24 #[.int .i64 fo, .int .i64 lo, .int .i64 ke, .int .i64 sc, .int .i64 mo, .bool iv] := by rw [hqp1]; first | exact (Fp_1).alloc _ | simpa using (Fp_1).alloc _
 have Yc_p1 : CellsAt u2 (w1.heap.size) 27 #[.slice none 0 0, .int .i64 0, .bool false, .slice none 0 0] := by rw [hqp1]; first | exact CellsAt.new w1 27 #[.slice none 0 0, .int .i64 0, .bool false, .slice none 0 0] | simpa using CellsAt.new w1 27 #[.slice none 0 0, .int .i64 0, .bool false, .slice none 0 0]
 have yp1 : Gr w u2 := by rw [hqp1]; exact (z1).alloc _ _
 rw [← hqp1]
 clear hqp1
 refine (HC.out _).mono ?_
 rintro e w2 ⟨rfl, g2⟩
 have ⟨Fb_2, lb_2⟩ := CellsAt.gl (Yb_p1) g2
 have ⟨Fp_2, lp_2⟩ := CellsAt.gl (Yp_p1) g2
 have ⟨Fc_2, lc_2⟩ := CellsAt.gl (Yc_p1) g2
 have z2 := (yp1).trans g2
 clear Yb_p1 Yp_p1 Yc_p1 yp1 g2
 obtain ⟨cp0, cp1, cp2, cp3, cp4, cp5⟩ := Fp_2.t6
 go_wp2_with fail
 clear cp0 cp1 cp2 cp3 cp4 cp5
 refine (HPS.out _).mono ?_
 rintro e w3 ⟨vp, rfl, hp3, g3⟩
 obtain ⟨pp, pcap, rfl⟩ := hp3.len
 have ⟨Fb_3, lb_3⟩ := CellsAt.gl (Fb_2) g3
 have ⟨Fp_3, lp_3⟩ := CellsAt.gl (Fp_2) g3
 have ⟨Fc_3, lc_3⟩ := CellsAt.gl (Fc_2) g3
 have z3 := (z2).trans g3
 clear Fb_2 Fp_2 Fc_2 z2 g3
 obtain ⟨cb0, cb1, cb2, cb3⟩ := Fb_3.t4
 obtain ⟨cp0, cp1, cp2, cp3, cp4, cp5⟩ := Fp_3.t6
 go_wp2_with fail
 clear cb0 cb1 cb2 cb3 cp0 cp1 cp2 cp3 cp4 cp5
 refine (HM.out _ (VX.out.gr z3)).mono ?_
 rintro e w4 ⟨rfl, g4⟩
 have hp4 := hp3.gr g4
 have ⟨Fb_4, lb_4⟩ := CellsAt.gl (Fb_3) g4
 have ⟨Fp_4, lp_4⟩ := CellsAt.gl (Fp_3) g4
 have ⟨Fc_4, lc_4⟩ := CellsAt.gl (Fc_3) g4
 have z4 := (z3).trans g4
 clear Fb_3 Fp_3 Fc_3 z3 g4
 obtain ⟨cb0, cb1, cb2, cb3⟩ := Fb_4.t4
 go_wp2_with fail
 clear cb0 cb1 cb2 cb3
 refine (AL.out _).mono ?_
 rintro e w5 ⟨rfl, g5⟩
 have ⟨Fb_5, lb_5⟩ := CellsAt.gl (Fb_4) g5
 have ⟨Fp_5, lp_5⟩ := CellsAt.gl (Fp_4) g5
 have ⟨Fc_5, lc_5⟩ := CellsAt.gl (Fc_4) g5
 have z5 := (z4).trans g5
 clear Fb_4 Fp_4 Fc_4 z4 g5
 obtain ⟨cc0, cc1, cc2, cc3⟩ := Fc_5.t4
 go_wp2_with fail
 clear cc0 cc1 cc2 cc3
 refine (same15_c (.slice none 0 0) (.slice none 0 0) (.slice none 0 0) (.slice none 0 0) 0 false [] [] _ ⟨none, 0, rfl, Nat.le_refl _, Nat.zero_le _, fun h => absurd rfl h⟩ (NumsAt.nil _) ⟨none, 0, rfl, Nat.le_refl _, Nat.zero_le _, fun h => absurd rfl h⟩ (NumsAt.nil _)).mono ?_
 rintro e w9 ⟨rfl, g9⟩
 go_wp2_with fail
 go_ret
 exact ⟨by first | rfl | (simp; done), (z5).trans g9⟩
set_option maxHeartbeats 4000000 in
theorem passes15_e (p sp : Option Addr) (l1 cap1 m1 l2 cap2 m2 : Nat) (fo lo ke sc mo ex pass : Int) (iv sa : Bool) (xs : List Gi) (ls : List Int) (hm1 : m1 ≤ cap1) (hmin1 : (if (70 : Int) < (l1 : Int) then 70 else (l1 : Int)) = (m1 : Int)) (hm2 : m2 ≤ cap2) (hmin2 : (if (10 : Int) < (l2 : Int) then 10 else (l2 : Int)) = (m2 : Int)) (Ls : List Gi) (h1 : decide (pass < 0) = false) (h2 : decide ((Ls.length : Int) ≤ pass) = false) (h4 : decide (ex < -100) = false) (h5 : decide (100 < ex) = true) (HN : Hid (∀ W, CxsAt W (.slice p m1 cap1) xs → NumsAt W (.slice sp m2 cap2) ls → Calls Tryz.prog 16 #[.agg #[.slice p m1 cap1, .int .i64 ex, .bool sa, .slice sp m2 cap2], .agg #[.int .i64 fo, .int .i64 lo, .int .i64 ke, .int .i64 sc, .int .i64 mo, .bool iv], .int .i64 pass] W fun e w' => e = .returned (.tuple #[.agg #[.slice none 0 0, .int .i64 0, .bool false, .slice none 0 0], .int .i64 2]) ∧ Gr W w')) (HC : CR 17 #[.agg #[.int .i64 fo, .int .i64 lo, .int .i64 ke, .int .i64 sc, .int .i64 mo, .bool iv]] (.bool true)) (HPS : Hid (∀ W, Calls Tryz.prog 18 #[.agg #[.int .i64 fo, .int .i64 lo, .int .i64 ke, .int .i64 sc, .int .i64 mo, .bool iv]] W fun e w' => ∃ v, e = .returned v ∧ CxsAt w' v Ls ∧ Gr W w')) (HM : Hid (∀ W, CxsAt W (.slice p m1 cap1) xs → Calls Tryz.prog 10 #[.slice p m1 cap1, .agg #[.int .i64 fo, .int .i64 lo, .int .i64 ke, .int .i64 sc, .int .i64 mo, .bool iv], .bool true] W fun e w' => e = .returned (.int .i64 0) ∧ Gr W w')) (AL : CR 11 #[] (.bool true)) (w : World) (hx : CxsAt w (.slice p m1 cap1) xs) (hs : NumsAt w (.slice sp m2 cap2) ls) :
 Calls Tryz.prog 5 #[.agg #[.slice p l1 cap1, .int .i64 ex, .bool sa, .slice sp l2 cap2], .agg #[.int .i64 fo, .int .i64 lo, .int .i64 ke, .int .i64 sc, .int .i64 mo, .bool iv], .int .i64 pass] w fun e w' => e = .returned (.bool true) ∧ Gr w w' := by
 have hcut1 := run_cut_cx p l1 cap1 m1 hm1
 have hcut2 := run_cut_int sp l2 cap2 m2 hm2
 have VX := Lib.hid hx
 have VS := Lib.hid hs
 clear hx hs
 go_enter Tryz.func5, Tryz.ntmps5
 go_wp2_with fail
 obtain ⟨u0, hU⟩ : ∃ uu, uu = ((w.alloc (.cells #[.slice p l1 cap1, .int .i64 ex, .bool sa, .slice sp l2 cap2] 27)).alloc (.cells #[.int .i64 fo, .int .i64 lo, .int .i64 ke, .int .i64 sc, .int .i64 mo, .bool iv] 24)) := ⟨_, rfl⟩
 have ⟨gu, R0, R1⟩ := lay2 hU
 rw [← hU]
 clear hU
 have lb := R0.lt
 have lp := R1.lt
 have c0 := R0.cell 0
 have c3 := R0.cell 3
 simp only [getS] at c0 c3
 have m0 := R0.frozen 0
 have m3 := R0.frozen 3
 go_region
 clear c0 c3 m0 m3 hcut1 hcut2
 obtain ⟨u1, hq⟩ : ∃ zz, zz = (((u0.setCell ⟨w.heap.size, 0, none⟩ (.slice p m1 cap1)).setCell ⟨w.heap.size, 3, none⟩ (.slice sp m2 cap2)).drew) := ⟨_, rfl⟩
 have S0 : CellsAt u1 w.heap.size 27 #[.slice p m1 cap1, .int .i64 ex, .bool sa, .slice sp m2 cap2] := by rw [hq]; exact ((R0.set 0 (.slice p m1 cap1)).set 3 (.slice sp m2 cap2)).gr (Gr.drew (Gr.refl _))
 have S1 : CellsAt u1 (w.heap.size + 1) 24 #[.int .i64 fo, .int .i64 lo, .int .i64 ke, .int .i64 sc, .int .i64 mo, .bool iv] := by rw [hq]; exact ((R1.other (by omega) _ _).other (by omega) _ _).gr (Gr.drew (Gr.refl _))
 have s1 : Gr w u1 := by rw [hq]; exact ((gu.setCell (by simp) _).setCell (by simp) _).drew
 rw [← hq]
 clear hq R0 R1 gu lb lp
 have lb := S0.lt
 have lp := S1.lt
 obtain ⟨cb0, cb1, cb2, cb3⟩ := S0.t4
 obtain ⟨cp0, cp1, cp2, cp3, cp4, cp5⟩ := S1.t6
 go_wp2_with fail
 clear cb0 cb1 cb2 cb3 cp0 cp1 cp2 cp3 cp4 cp5
 refine (HN.out _ (VX.out.gr s1) (VS.out.gr s1)).mono ?_
 rintro e w1 ⟨rfl, g1⟩
 have ⟨Fb_1, lb_1⟩ := CellsAt.gl (S0) g1
 have ⟨Fp_1, lp_1⟩ := CellsAt.gl (S1) g1
 have z1 := (s1).trans g1
 clear S0 S1 s1 g1
 obtain ⟨cp0, cp1, cp2, cp3, cp4, cp5⟩ := Fp_1.t6
 go_wp2_with fail
 clear cp0 cp1 cp2 cp3 cp4 cp5
 obtain ⟨u2, hqp1⟩ : ∃ zz, zz = (w1.alloc (.cells #[.slice none 0 0, .int .i64 0, .bool false, .slice none 0 0] 27)) := ⟨_, rfl⟩
 have Yb_p1 : CellsAt u2 (w.heap.size) 27 #[.slice p m1 cap1, .int .i64 ex, .bool sa, .slice sp m2 cap2] := by rw [hqp1]; first | exact (Fb_1).alloc _ | simpa using (Fb_1).alloc _
 have Yp_p1 : CellsAt u2 (w.heap.size + 1) 24 #[.int .i64 fo, .int .i64 lo, .int .i64 ke, .int .i64 sc, .int .i64 mo, .bool iv] := by rw [hqp1]; first | exact (Fp_1).alloc _ | simpa using (Fp_1).alloc _
 have Yc_p1 : CellsAt u2 (w1.heap.size) 27 #[.slice none 0 0, .int .i64 0, .bool false, .slice none 0 0] := by rw [hqp1]; first | exact CellsAt.new w1 27 #[.slice none 0 0, .int .i64 0, .bool false, .slice none 0 0] | simpa using CellsAt.new w1 27 #[.slice none 0 0, .int .i64 0, .bool false, .slice none 0 0]
 have yp1 : Gr w u2 := by rw [hqp1]; exact (z1).alloc _ _
 rw [← hqp1]
 clear hqp1
 refine (HC.out _).mono ?_
 rintro e w2 ⟨rfl, g2⟩
 have ⟨Fb_2, lb_2⟩ := CellsAt.gl (Yb_p1) g2
 have ⟨Fp_2, lp_2⟩ := CellsAt.gl (Yp_p1) g2
 have ⟨Fc_2, lc_2⟩ := CellsAt.gl (Yc_p1) g2
 have z2 := (yp1).trans g2
 clear Yb_p1 Yp_p1 Yc_p1 yp1 g2
 obtain ⟨cp0, cp1, cp2, cp3, cp4, cp5⟩ := Fp_2.t6
 go_wp2_with fail
 clear cp0 cp1 cp2 cp3 cp4 cp5
 refine (HPS.out _).mono ?_
 rintro e w3 ⟨vp, rfl, hp3, g3⟩
 obtain ⟨pp, pcap, rfl⟩ := hp3.len
 have ⟨Fb_3, lb_3⟩ := CellsAt.gl (Fb_2) g3
 have ⟨Fp_3, lp_3⟩ := CellsAt.gl (Fp_2) g3
 have ⟨Fc_3, lc_3⟩ := CellsAt.gl (Fc_2) g3
 have z3 := (z2).trans g3
 clear Fb_2 Fp_2 Fc_2 z2 g3
 obtain ⟨cb0, cb1, cb2, cb3⟩ := Fb_3.t4
 obtain ⟨cp0, cp1, cp2, cp3, cp4, cp5⟩ := Fp_3.t6
 go_wp2_with fail
 clear cb0 cb1 cb2 cb3 cp0 cp1 cp2 cp3 cp4 cp5
 refine (HM.out _ (VX.out.gr z3)).mono ?_
 rintro e w4 ⟨rfl, g4⟩
 have hp4 := hp3.gr g4
 have ⟨Fb_4, lb_4⟩ := CellsAt.gl (Fb_3) g4
 have ⟨Fp_4, lp_4⟩ := CellsAt.gl (Fp_3) g4
 have ⟨Fc_4, lc_4⟩ := CellsAt.gl (Fc_3) g4
 have z4 := (z3).trans g4
 clear Fb_3 Fp_3 Fc_3 z3 g4
 obtain ⟨cb0, cb1, cb2, cb3⟩ := Fb_4.t4
 go_wp2_with fail
 clear cb0 cb1 cb2 cb3
 refine (AL.out _).mono ?_
 rintro e w5 ⟨rfl, g5⟩
 have ⟨Fb_5, lb_5⟩ := CellsAt.gl (Fb_4) g5
 have ⟨Fp_5, lp_5⟩ := CellsAt.gl (Fp_4) g5
 have ⟨Fc_5, lc_5⟩ := CellsAt.gl (Fc_4) g5
 have z5 := (z4).trans g5
 clear Fb_4 Fp_4 Fc_4 z4 g5
 obtain ⟨cc0, cc1, cc2, cc3⟩ := Fc_5.t4
 go_wp2_with fail
 clear cc0 cc1 cc2 cc3
 refine (same15_c (.slice none 0 0) (.slice none 0 0) (.slice none 0 0) (.slice none 0 0) 0 false [] [] _ ⟨none, 0, rfl, Nat.le_refl _, Nat.zero_le _, fun h => absurd rfl h⟩ (NumsAt.nil _) ⟨none, 0, rfl, Nat.le_refl _, Nat.zero_le _, fun h => absurd rfl h⟩ (NumsAt.nil _)).mono ?_
 rintro e w9 ⟨rfl, g9⟩
 go_wp2_with fail
 go_ret
 exact ⟨by first | rfl | (simp; done), (z5).trans g9⟩
set_option maxHeartbeats 4000000 in
theorem passes15_yes (p sp : Option Addr) (l1 cap1 m1 l2 cap2 m2 : Nat) (fo lo ke sc mo ex : Int) (iv sa : Bool) (xs : List Gi) (ls : List Int) (hm1 : m1 ≤ cap1) (hmin1 : (if (70 : Int) < (l1 : Int) then 70 else (l1 : Int)) = (m1 : Int)) (hm2 : m2 ≤ cap2) (hmin2 : (if (10 : Int) < (l2 : Int) then 10 else (l2 : Int)) = (m2 : Int)) (Ls : List Gi) (j : Nat) (q : Gi) (hq : Ls[j]? = some q) (c : BV) (h1 : decide ((j : Int) < 0) = false) (h2 : decide ((Ls.length : Int) ≤ j) = false) (h4 : decide (ex < -100) = false) (h5 : decide (100 < ex) = false)
 (HN : Hid (∀ W, CxsAt W (.slice p m1 cap1) xs → NumsAt W (.slice sp m2 cap2) ls → Calls Tryz.prog 16 #[.agg #[.slice p m1 cap1, .int .i64 ex, .bool sa, .slice sp m2 cap2], .agg #[.int .i64 fo, .int .i64 lo, .int .i64 ke, .int .i64 sc, .int .i64 mo, .bool iv], .int .i64 (j : Nat)] W fun e w' => ∃ vx vs, e = .returned (.tuple #[.agg #[vx, .int .i64 c.ex, .bool c.sat, vs], .int .i64 0]) ∧ CxsAt w' vx c.X ∧ NumsAt w' vs c.sh ∧ Gr W w'))
 (HC : CR 17 #[.agg #[.int .i64 fo, .int .i64 lo, .int .i64 ke, .int .i64 sc, .int .i64 mo, .bool iv]] (.bool true)) (HPS : Hid (∀ W, Calls Tryz.prog 18 #[.agg #[.int .i64 fo, .int .i64 lo, .int .i64 ke, .int .i64 sc, .int .i64 mo, .bool iv]] W fun e w' => ∃ v, e = .returned v ∧ CxsAt w' v Ls ∧ Gr W w')) (HM : Hid (∀ W, CxsAt W (.slice p m1 cap1) xs → Calls Tryz.prog 10 #[.slice p m1 cap1, .agg #[.int .i64 fo, .int .i64 lo, .int .i64 ke, .int .i64 sc, .int .i64 mo, .bool iv], .bool true] W fun e w' => e = .returned (.int .i64 0) ∧ Gr W w'))
 (HRN : Hid (∀ W, CxsAt W (.slice p m1 cap1) xs → NumsAt W (.slice sp m2 cap2) ls → Calls Tryz.prog 19 #[.agg #[.slice p m1 cap1, .int .i64 ex, .bool sa, .slice sp m2 cap2], .agg #[.int .i64 fo, .int .i64 lo, .int .i64 ke, .int .i64 sc, .int .i64 mo, .bool iv], .agg #[.int .i64 q.re, .int .i64 q.im]] W fun e w' => ∃ vx vs, e = .returned (.agg #[vx, .int .i64 c.ex, .bool c.sat, vs]) ∧ CxsAt w' vx c.X ∧ NumsAt w' vs c.sh ∧ Gr W w')) (AL : CR 11 #[] (.bool true)) (w : World) (hx : CxsAt w (.slice p m1 cap1) xs) (hs : NumsAt w (.slice sp m2 cap2) ls) :
 Calls Tryz.prog 5 #[.agg #[.slice p l1 cap1, .int .i64 ex, .bool sa, .slice sp l2 cap2], .agg #[.int .i64 fo, .int .i64 lo, .int .i64 ke, .int .i64 sc, .int .i64 mo, .bool iv], .int .i64 (j : Nat)] w fun e w' => e = .returned (.bool true) ∧ Gr w w' := by
 have hcut1 := run_cut_cx p l1 cap1 m1 hm1
 have hcut2 := run_cut_int sp l2 cap2 m2 hm2
 have VX := Lib.hid hx
 have VS := Lib.hid hs
 clear hx hs
 go_enter Tryz.func5, Tryz.ntmps5
 go_wp2_with fail
 obtain ⟨u0, hU⟩ : ∃ uu, uu = ((w.alloc (.cells #[.slice p l1 cap1, .int .i64 ex, .bool sa, .slice sp l2 cap2] 27)).alloc (.cells #[.int .i64 fo, .int .i64 lo, .int .i64 ke, .int .i64 sc, .int .i64 mo, .bool iv] 24)) := ⟨_, rfl⟩
 have ⟨gu, R0, R1⟩ := lay2 hU
 rw [← hU]
 clear hU
 have lb := R0.lt
 have lp := R1.lt
 have c0 := R0.cell 0
 have c3 := R0.cell 3
 simp only [getS] at c0 c3
 have m0 := R0.frozen 0
 have m3 := R0.frozen 3
 go_region
 clear c0 c3 m0 m3 hcut1 hcut2
 obtain ⟨u1, hq⟩ : ∃ zz, zz = (((u0.setCell ⟨w.heap.size, 0, none⟩ (.slice p m1 cap1)).setCell ⟨w.heap.size, 3, none⟩ (.slice sp m2 cap2)).drew) := ⟨_, rfl⟩
 have S0 : CellsAt u1 w.heap.size 27 #[.slice p m1 cap1, .int .i64 ex, .bool sa, .slice sp m2 cap2] := by rw [hq]; exact ((R0.set 0 (.slice p m1 cap1)).set 3 (.slice sp m2 cap2)).gr (Gr.drew (Gr.refl _))
 have S1 : CellsAt u1 (w.heap.size + 1) 24 #[.int .i64 fo, .int .i64 lo, .int .i64 ke, .int .i64 sc, .int .i64 mo, .bool iv] := by rw [hq]; exact ((R1.other (by omega) _ _).other (by omega) _ _).gr (Gr.drew (Gr.refl _))
 have s1 : Gr w u1 := by rw [hq]; exact ((gu.setCell (by simp) _).setCell (by simp) _).drew
 rw [← hq]
 clear hq R0 R1 gu lb lp
 have lb := S0.lt
 have lp := S1.lt
 obtain ⟨cb0, cb1, cb2, cb3⟩ := S0.t4
 obtain ⟨cp0, cp1, cp2, cp3, cp4, cp5⟩ := S1.t6
 go_wp2_with fail
 clear cb0 cb1 cb2 cb3 cp0 cp1 cp2 cp3 cp4 cp5
 have hjl := (List.getElem?_eq_some_iff.1 hq).1
 have h2n : decide (Ls.length ≤ j) = false := by simp; omega
 have h2m : ¬ Ls.length ≤ j := by omega
 obtain ⟨X, ex2, sat2, sh2⟩ := c
 simp only at HN HRN
 refine (HN.out _ (VX.out.gr s1) (VS.out.gr s1)).mono ?_
 rintro e w1 ⟨vx, vs, rfl, hx1, hs1, g1⟩
 obtain ⟨xp, xc, rfl⟩ := hx1.len
 obtain ⟨tp, tl, rfl⟩ := hs1.len
 have ⟨Fb_1, lb_1⟩ := CellsAt.gl (S0) g1
 have ⟨Fp_1, lp_1⟩ := CellsAt.gl (S1) g1
 have z1 := (s1).trans g1
 clear S0 S1 s1 g1
 obtain ⟨cp0, cp1, cp2, cp3, cp4, cp5⟩ := Fp_1.t6
 go_wp2_with fail
 clear cp0 cp1 cp2 cp3 cp4 cp5
 have hx2 := hx1.gr ((Gr.refl w1).alloc #[.slice xp X.length xc, .int .i64 ex2, .bool sat2, .slice tp sh2.length tl] 27)
 have hs2 := hs1.gr ((Gr.refl w1).alloc #[.slice xp X.length xc, .int .i64 ex2, .bool sat2, .slice tp sh2.length tl] 27)
 obtain ⟨u2, hq2⟩ : ∃ zz, zz = (w1.alloc (.cells #[.slice xp X.length xc, .int .i64 ex2, .bool sat2, .slice tp sh2.length tl] 27)) := ⟨_, rfl⟩
 rw [← hq2] at hx2 hs2
 have Yb2 : CellsAt u2 (w.heap.size) 27 #[.slice p m1 cap1, .int .i64 ex, .bool sa, .slice sp m2 cap2] := by rw [hq2]; first | exact (Fb_1).alloc _ | simpa using (Fb_1).alloc _
 have Yp2 : CellsAt u2 (w.heap.size + 1) 24 #[.int .i64 fo, .int .i64 lo, .int .i64 ke, .int .i64 sc, .int .i64 mo, .bool iv] := by rw [hq2]; first | exact (Fp_1).alloc _ | simpa using (Fp_1).alloc _
 have Yc2 : CellsAt u2 (w1.heap.size) 27 #[.slice xp X.length xc, .int .i64 ex2, .bool sat2, .slice tp sh2.length tl] := by rw [hq2]; first | exact CellsAt.new w1 27 #[.slice xp X.length xc, .int .i64 ex2, .bool sat2, .slice tp sh2.length tl] | simpa using CellsAt.new w1 27 #[.slice xp X.length xc, .int .i64 ex2, .bool sat2, .slice tp sh2.length tl]
 have y2 : Gr w u2 := by rw [hq2]; exact (z1).alloc _ _
 rw [← hq2]
 clear hq2
 refine (HC.out _).mono ?_
 rintro e w2 ⟨rfl, g2⟩
 have hx3 := hx2.gr g2
 have hs3 := hs2.gr g2
 have ⟨Fb_2, lb_2⟩ := CellsAt.gl (Yb2) g2
 have ⟨Fp_2, lp_2⟩ := CellsAt.gl (Yp2) g2
 have ⟨Fc_2, lc_2⟩ := CellsAt.gl (Yc2) g2
 have z2 := (y2).trans g2
 clear Yb2 Yp2 Yc2 y2 g2
 obtain ⟨cp0, cp1, cp2, cp3, cp4, cp5⟩ := Fp_2.t6
 go_wp2_with fail
 clear cp0 cp1 cp2 cp3 cp4 cp5
 refine (HPS.out _).mono ?_
 rintro e w3 ⟨vp, rfl, hp3, g3⟩
 obtain ⟨pp, pcap, rfl⟩ := hp3.len
 replace hx3 := hx3.gr g3
 replace hs3 := hs3.gr g3
 have ⟨Fb_3, lb_3⟩ := CellsAt.gl (Fb_2) g3
 have ⟨Fp_3, lp_3⟩ := CellsAt.gl (Fp_2) g3
 have ⟨Fc_3, lc_3⟩ := CellsAt.gl (Fc_2) g3
 have z3 := (z2).trans g3
 clear Fb_2 Fp_2 Fc_2 z2 g3
 obtain ⟨cb0, cb1, cb2, cb3⟩ := Fb_3.t4
 obtain ⟨cp0, cp1, cp2, cp3, cp4, cp5⟩ := Fp_3.t6
 go_wp2_with fail
 clear cb0 cb1 cb2 cb3 cp0 cp1 cp2 cp3 cp4 cp5
 refine (HM.out _ (VX.out.gr z3)).mono ?_
 rintro e w4 ⟨rfl, g4⟩
 have hp4 := hp3.gr g4
 replace hx3 := hx3.gr g4
 replace hs3 := hs3.gr g4
 have ⟨Fb_4, lb_4⟩ := CellsAt.gl (Fb_3) g4
 have ⟨Fp_4, lp_4⟩ := CellsAt.gl (Fp_3) g4
 have ⟨Fc_4, lc_4⟩ := CellsAt.gl (Fc_3) g4
 have z4 := (z3).trans g4
 clear Fb_3 Fp_3 Fc_3 z3 g4
 obtain ⟨cb0, cb1, cb2, cb3⟩ := Fb_4.t4
 go_wp2_with fail
 clear cb0 cb1 cb2 cb3
 obtain ⟨bb, bo, bcap, hsl, hln, hbb, hcc⟩ := hp4.at (by intro e; rw [e] at hq; simp at hq)
 cases hsl
 obtain ⟨k1, k2⟩ := hcc j q hq
 clear hcc
 have hq2 : (j : Int) < (Ls.length : Int) := by have := (List.getElem?_eq_some_iff.1 hq).1; omega
 have hq3 : decide ((j : Int) < (Ls.length : Int)) = true := by simpa using hq2
 obtain ⟨re, im⟩ := q
 simp only at k1 k2 HRN
 have KS : ∀ W, Gr w4 W → (W.cell? ⟨w.heap.size + 1, 0, none⟩ = some (.int .i64 fo) ∧ W.cell? ⟨w.heap.size + 1, 1, none⟩ = some (.int .i64 lo) ∧ W.cell? ⟨w.heap.size + 1, 2, none⟩ = some (.int .i64 ke) ∧ W.cell? ⟨w.heap.size + 1, 3, none⟩ = some (.int .i64 sc) ∧ W.cell? ⟨w.heap.size + 1, 4, none⟩ = some (.int .i64 mo) ∧ W.cell? ⟨w.heap.size + 1, 5, none⟩ = some (.bool iv) ∧ W.cell? ⟨w.heap.size, 0, none⟩ = some (.slice p m1 cap1) ∧ W.cell? ⟨w.heap.size, 1, none⟩ = some (.int .i64 ex) ∧ W.cell? ⟨w.heap.size, 2, none⟩ = some (.bool sa) ∧ W.cell? ⟨w.heap.size, 3, none⟩ = some (.slice sp m2 cap2) ∧ W.cell? ⟨w1.heap.size, 0, none⟩ = some (.slice xp X.length xc) ∧ W.cell? ⟨w1.heap.size, 1, none⟩ = some (.int .i64 ex2) ∧ W.cell? ⟨w1.heap.size, 2, none⟩ = some (.bool sat2) ∧ W.cell? ⟨w1.heap.size, 3, none⟩ = some (.slice tp sh2.length tl) ∧ W.cell? ⟨bb, bo + j * 2, none⟩ = some (.int .i64 re) ∧ W.cell? ⟨bb, bo + j * 2 + 1, none⟩ = some (.int .i64 im)) := fun W hG => ⟨(CellsAt.gr Fp_4 hG).cell 0, (CellsAt.gr Fp_4 hG).cell 1, (CellsAt.gr Fp_4 hG).cell 2, (CellsAt.gr Fp_4 hG).cell 3, (CellsAt.gr Fp_4 hG).cell 4, (CellsAt.gr Fp_4 hG).cell 5, (CellsAt.gr Fb_4 hG).cell 0, (CellsAt.gr Fb_4 hG).cell 1, (CellsAt.gr Fb_4 hG).cell 2, (CellsAt.gr Fb_4 hG).cell 3, (CellsAt.gr Fc_4 hG).cell 0, (CellsAt.gr Fc_4 hG).cell 1, (CellsAt.gr Fc_4 hG).cell 2, (CellsAt.gr Fc_4 hG).cell 3, (hG.cell (p := ⟨bb, _, none⟩) hbb).trans k1, (hG.cell (p := ⟨bb, _, none⟩) hbb).trans k2⟩
 have hclG := gr_closed w4
 try simp only [List.append_eq, List.cons_append, List.nil_append]
 refine wp_region_grow (S := Gr w4) rfl (Gr.drew (Gr.refl _)) ?_
 refine wpG_call (i := 0) hclG rfl (by kernel_rfl) (by kernel_rfl) (by kernel_rfl) (fun _ _ _ h => h) (fun W hS => AL.out W) (by rfl) ?_ ?_
 ·(intro w' hSw; go_simp; try with_reducible rfl)
 try simp only [Act.put, putS]
 refine gK 1 hclG KS ?_
 refine gK 2 hclG KS ?_
 refine gK 3 hclG KS ?_
 refine gK 4 hclG KS ?_
 refine gK 5 hclG KS ?_
 refine gK 6 hclG KS ?_
 refine gK 7 hclG KS ?_
 refine gK 8 hclG KS ?_
 refine gK 9 hclG KS ?_
 refine gK 10 hclG KS ?_
 refine gK 11 hclG KS ?_
 refine gK 12 hclG KS ?_
 refine wpG_ready (rs := [13]) (by kernel_rfl) (by simp) (fun w6 g6 s6 => ?_)
 refine AllG.cons rfl (fun K hK => ?_) AllG.nil
 replace g6 := (Gr.drew (Gr.refl w4)).trans g6
 go_simp
 refine (HRN.out _ (VX.out.gr ((z4).trans g6)) (VS.out.gr ((z4).trans g6))).mono ?_
 rintro e w7 ⟨ux, us, rfl, kx7, ks7, g7⟩
 refine hK.out _ _ ?_ ?_
 ·exact s6.trans g7
 clear hK K
 try simp only [Act.put, putS]
 refine wpG_ready (rs := [14]) (by kernel_rfl) (by simp) (fun w8 g8 s8 => ?_)
 refine AllG.cons rfl (fun K hK => ?_) AllG.nil
 have gg := (g6.trans g7).trans g8
 go_simp
 refine (same15_c _ _ _ _ ex2 sat2 X sh2 _ (hx3.gr gg) (hs3.gr gg) (kx7.gr g8) (ks7.gr g8)).mono ?_
 rintro e w9 ⟨rfl, g9⟩
 refine hK.out _ _ ?_ ?_
 ·exact s8.trans g9
 clear hK K
 try simp only [Act.put, putS]
 refine gK 15 hclG KS ?_
 refine gK 16 hclG KS ?_
 refine wpG_done (by kernel_rfl) (fun wa ga => ?_) _
 clear hclG KS
 go_wp2_with fail
 go_ret
 exact ⟨by first | rfl | (simp; done), (((z4).trans gg).trans g9).trans ga⟩
end
end Go.Proofs.YtablflakcaimmaaGreat
