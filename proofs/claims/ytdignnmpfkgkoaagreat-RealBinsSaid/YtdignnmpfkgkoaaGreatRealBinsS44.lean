import Derived.BigRegion
import Derived.Test.YtdignnmpfkgkoaaGreatRealBinsS23
namespace Go.Proofs.YtdignnmpfkgkoaaGreat
section
open Go.ChangeShapes Go.WideShapes Go.ChangeAt Go.RowKit
set_option linter.unusedVariables false
set_option linter.unusedSimpArgs false
set_option maxRecDepth 100000
set_option maxHeartbeats 16000000
theorem cut140 (n : Nat) : ∃ m : Nat, m ≤ n ∧ m ≤ 140 ∧ (if (140 : Int) < (n : Int) then 140 else (n : Int)) = (m : Int) := by
 by_cases h : (140 : Int) < (n : Int)
 ·exact ⟨140, by omega, by omega, by rw [if_pos h]; rfl⟩
 ·exact ⟨n, Nat.le_refl _, by omega, by rw [if_neg h]⟩
theorem same03_len (u v : Value) (xs ys : List Gi) (w : World) (hl : ¬ xs.length = ys.length) (hu : CxsAt w u xs) (hv : CxsAt w v ys) :
 CW 10 #[u, v] w (.bool false) :=by
 delta CW
 obtain ⟨p, cap, rfl⟩ := hu.len
 obtain ⟨q, cbp, rfl⟩ := hv.len
 have hI : ¬ (xs.length : Int) = (ys.length : Int) := by omega
 have hb : ((xs.length : Int) != (ys.length : Int)) = true := by simp [hI]
 go_in
 go_wp2_with fail
 go_ret
 exact ⟨rfl, Gr.refl _⟩
theorem same15_x (vx vs : Value) (ex : Int) (sa : Bool) (xs : List Gi) (hne : xs ≠ []) (w : World) (hx : CxsAt w vx xs) :
 CW 13 #[.agg #[vx, ex, sa, vs], .agg #[.slice none 0 0, .int .i64 0, false, .slice none 0 0]] w (.bool false) :=by
 delta CW
 go_in
 go_wp2_with fail
 obtain ⟨u0, hU⟩ : ∃ uu, uu = ((w.alloc (.cells #[vx, ex, sa, vs] 27)).alloc (.cells #[.slice none 0 0, .int .i64 0, false, .slice none 0 0] 27)) := ⟨_, rfl⟩
 have ⟨gu, R0, R1⟩ := lay2 hU
 rw [← hU]
 clear hU
 have la := R0.lt
 have lb := R1.lt
 obtain ⟨ca0, ca1, ca2, ca3⟩ := R0.t4
 obtain ⟨cb0, cb1, cb2, cb3⟩ := R1.t4
 go_wp2_with fail
 clear ca0 ca1 ca2 ca3 cb0 cb1 cb2 cb3
 refine (same03_len vx (.slice none 0 0) xs [] _ (by simpa using hne) (hx.gr gu) ⟨none, 0, rfl, Nat.le_refl _, Nat.zero_le _, fun h => absurd rfl h⟩).mono ?_
 rintro e w1 ⟨rfl, g1⟩
 have ⟨Fa_1, la_1⟩ := R0.gl g1
 have ⟨Fb_1, lb_1⟩ := R1.gl g1
 have z1 := gu.trans g1
 clear R0 R1 gu g1
 go_wp2_with fail
 go_ret
 exact ⟨rfl, z1⟩
theorem alive18_of (sa : Bool) (sh : List Int) (HO : Hid (∀ sp cl W, NumsAt W (.slice sp 8 cl) [4, 4, 4, 4, 4, 4, 4, 4] → Calls Tryz.prog 7 #[.slice sp 8 cl, .agg #[.int .i64 0, .int .i64 2, .int .i64 0, .int .i64 2, .int .i64 0, false]] W fun e w' => ∃ vx vs, e = .returned (.tuple #[.agg #[vx, .int .i64 1, sa, vs], .int .i64 0]) ∧ CxsAt w' vx [⟨16, 0⟩, ⟨0, 0⟩, ⟨0, 0⟩, ⟨0, 0⟩, ⟨0, 0⟩] ∧ NumsAt w' vs sh ∧ Gr W w')) (w : World) :
 CW 12 #[] w (.bool true) :=by
 delta CW
 go_in
 go_wp2_with fail
 obtain ⟨u1, hu⟩ : ∃ uu, uu = w.alloc (.cells #[.int .i64 4, .int .i64 4, .int .i64 4, .int .i64 4, .int .i64 4, .int .i64 4, .int .i64 4, .int .i64 4] 3) := ⟨_, rfl⟩
 have N1 : NumsAt u1 (.slice (some ⟨w.heap.size, 0, none⟩) 8 8) [4, 4, 4, 4, 4, 4, 4, 4] := by
  rw [hu]
  exact nums_of_cells (ls := [4, 4, 4, 4, 4, 4, 4, 4]) (CellsAt.new w 3 #[.int .i64 4, .int .i64 4, .int .i64 4, .int .i64 4, .int .i64 4, .int .i64 4, .int .i64 4, .int .i64 4]) (fun j x hj => by
   match j, hj with
   | 0, hj => cases hj; rfl
   | 1, hj => cases hj; rfl
   | 2, hj => cases hj; rfl
   | 3, hj => cases hj; rfl
   | 4, hj => cases hj; rfl
   | 5, hj => cases hj; rfl
   | 6, hj => cases hj; rfl
   | 7, hj => cases hj; rfl) (Nat.le_refl _) (by unfold maxLen; simp)
 have g1 : Gr w u1 := by rw [hu]; exact (Gr.refl w).alloc _ _
 rw [← hu]
 clear hu
 refine (HO.out _ _ _ N1).mono ?_
 rintro e w2 ⟨vx, vs, rfl, hx, hs, g2⟩
 obtain ⟨b, oo, cap, rfl, hln, hb, hc⟩ := hx.at (by simp)
 obtain ⟨ps, cs, rfl⟩ := hs.len
 rw [show ([⟨16, 0⟩, ⟨0, 0⟩, ⟨0, 0⟩, ⟨0, 0⟩, ⟨0, 0⟩] : List Gi).length = 5 from rfl]
 have h0 := hc 0 _ rfl
 have h1 := hc 4 _ rfl
 simp only [Nat.zero_mul, Nat.add_zero, Nat.one_mul] at h0 h1
 obtain ⟨a0, a1⟩ := h0
 obtain ⟨b0, b1⟩ := h1
 clear hc hln
 go_wp2_with fail
 go_ret
 exact ⟨by first | rfl | (simp; done), (g1.trans g2).alloc _ _⟩
theorem bins18_Ay (p : Option Addr) (l1 cap1 m1 : Nat) (fo lo ke sc mo : Int) (iv : Bool) (xs : List Int) (hm1 : m1 ≤ cap1) (hmin1 : (if (140 : Int) < (l1 : Int) then 140 else (l1 : Int)) = (m1 : Int)) (zs : List Gi) (HP : Hid (∀ W, NumsAt W (.slice p m1 cap1) xs → Calls Tryz.prog 7 #[.slice p m1 cap1, .agg #[fo, lo, ke, sc, mo, iv]] W fun e w' => e = .returned (.tuple #[.agg #[.slice none 0 0, .int .i64 0, false, .slice none 0 0], .int .i64 4]) ∧ Gr W w'))
 (HK : Hid (∀ W, NumsAt W (.slice p m1 cap1) xs → Calls Tryz.prog 8 #[.slice p m1 cap1] W fun e w' => ∃ u, e = .returned (.tuple #[u, .int .i64 0]) ∧ CxsAt w' u zs ∧ Gr W w'))
 (HPS : CR 9 #[(m1 : Int)] (.bool true))
 (HRP : Hid (∀ W, NumsAt W (.slice p m1 cap1) xs → Calls Tryz.prog 11 #[.slice p m1 cap1] W fun e w' => ∃ u, e = .returned (u) ∧ CxsAt w' u zs ∧ Gr W w'))
 (HPL : CR 14 #[.agg #[fo, lo, ke, sc, mo, iv]] (.bool false)) (AL : CR 12 #[] (.bool true)) (w : World) (hx : NumsAt w (.slice p m1 cap1) xs) :
 CW 3 #[.slice p l1 cap1, .agg #[fo, lo, ke, sc, mo, iv]] w (.bool true) :=by
 delta CW
 have hcut1 := run_cut_int p l1 cap1 m1 hm1
 have VX := kh hx
 clear hx
 go_in
 go_wp2_with fail
 refine lc1 fun u0 gu R0 => ?_
 have lp := R0.lt
 obtain ⟨cp0, cp1, cp2, cp3, cp4, cp5⟩ := R0.t6
 go_wp2_with fail
 clear cp0 cp1 cp2 cp3 cp4 cp5
 refine (HP.out _ (VX.out.gr gu)).mono ?_
 rintro e w1 ⟨rfl, g1⟩
 have ⟨Fp_1, lp_1⟩ := R0.gl g1
 have z1 := gu.trans g1
 clear R0 gu g1
 obtain ⟨cp0, cp1, cp2, cp3, cp4, cp5⟩ := Fp_1.t6
 go_wp2_with fail
 clear cp0 cp1 cp2 cp3 cp4 cp5
 obtain ⟨u2, hqp1⟩ : ∃ zz, zz = (w1.alloc (.cells #[.slice none 0 0, .int .i64 0, false, .slice none 0 0] 27)) := ⟨_, rfl⟩
 have Yp_p1 : CellsAt u2 (w.heap.size) 24 #[fo, lo, ke, sc, mo, iv] := by rw [hqp1]; first | exact Fp_1.alloc _ | simpa using Fp_1.alloc _
 have Yb_p1 : CellsAt u2 (w1.heap.size) 27 #[.slice none 0 0, .int .i64 0, false, .slice none 0 0] := by rw [hqp1]; have q_ := CellsAt.new w1 27 #[.slice none 0 0, .int .i64 0, false, .slice none 0 0]; first | exact q_ | simpa using q_
 have yp1 : Gr w u2 := by rw [hqp1]; exact z1.alloc _ _
 rw [← hqp1]
 clear hqp1
 refine (HK.out _ (VX.out.gr (yp1))).mono ?_
 rintro e w2 ⟨vl, rfl, hl1, g2⟩
 have ⟨Fp_2, lp_2⟩ := Yp_p1.gl g2
 have ⟨Fb_2, lb_2⟩ := Yb_p1.gl g2
 have z2 := yp1.trans g2
 clear Yp_p1 Yb_p1 yp1 g2
 obtain ⟨lp, lc, rfl⟩ := hl1.len
 go_wp2_with fail
 refine (HPS.out _).mono ?_
 rintro e w3 ⟨rfl, g3⟩
 have ⟨Fp_3, lp_3⟩ := Fp_2.gl g3
 have ⟨Fb_3, lb_3⟩ := Fb_2.gl g3
 have Kl_3 := hl1.gr g3
 have z3 := z2.trans g3
 clear Fp_2 Fb_2 z2 g3
 go_wp2_with fail
 refine (HRP.out _ (VX.out.gr (z3))).mono ?_
 rintro e w4 ⟨vu, rfl, hu1, g4⟩
 have ⟨Fp_4, lp_4⟩ := Fp_3.gl g4
 have ⟨Fb_4, lb_4⟩ := Fb_3.gl g4
 have Kl_4 := Kl_3.gr g4
 have z4 := z3.trans g4
 clear Fp_3 Fb_3 z3 g4
 go_wp2_with fail
 refine (same03_c _ _ zs _ Kl_4 hu1).mono ?_
 rintro e w5 ⟨rfl, g5⟩
 have ⟨Fp_5, lp_5⟩ := Fp_4.gl g5
 have ⟨Fb_5, lb_5⟩ := Fb_4.gl g5
 have Kl_5 := Kl_4.gr g5
 have Ku_5 := hu1.gr g5
 have z5 := z4.trans g5
 clear Fp_4 Fb_4 z4 g5
 go_wp2_with fail
 refine (AL.out _).mono ?_
 rintro e w6 ⟨rfl, g6⟩
 have ⟨Fp_6, lp_6⟩ := Fp_5.gl g6
 have ⟨Fb_6, lb_6⟩ := Fb_5.gl g6
 have z6 := z5.trans g6
 clear Fp_5 Fb_5 z5 g6
 obtain ⟨cb0, cb1, cb2, cb3⟩ := Fb_6.t4
 go_wp2_with fail
 clear cb0 cb1 cb2 cb3
 refine (same15_c (.slice none 0 0) (.slice none 0 0) (.slice none 0 0) (.slice none 0 0) 0 false [] [] _ ⟨none, 0, rfl, Nat.le_refl _, Nat.zero_le _, fun h => absurd rfl h⟩ (NumsAt.nil _) ⟨none, 0, rfl, Nat.le_refl _, Nat.zero_le _, fun h => absurd rfl h⟩ (NumsAt.nil _)).mono ?_
 rintro e w7 ⟨rfl, g7⟩
 have ⟨Fp_7, lp_7⟩ := Fp_6.gl g7
 have ⟨Fb_7, lb_7⟩ := Fb_6.gl g7
 have z7 := z6.trans g7
 clear Fp_6 Fb_6 z6 g7
 obtain ⟨cp0, cp1, cp2, cp3, cp4, cp5⟩ := Fp_7.t6
 go_wp2_with fail
 clear cp0 cp1 cp2 cp3 cp4 cp5
 refine (HPL.out _).mono ?_
 rintro e w8 ⟨rfl, g8⟩
 have ⟨Fp_8, lp_8⟩ := Fp_7.gl g8
 have ⟨Fb_8, lb_8⟩ := Fb_7.gl g8
 have z8 := z7.trans g8
 clear Fp_7 Fb_7 z7 g8
 go_wp2_with fail
 go_ret
 exact ⟨by first | rfl | (simp; done), z8⟩
theorem bins18_An (p : Option Addr) (l1 cap1 m1 : Nat) (fo lo ke sc mo : Int) (iv : Bool) (xs : List Int) (hm1 : m1 ≤ cap1) (hmin1 : (if (140 : Int) < (l1 : Int) then 140 else (l1 : Int)) = (m1 : Int)) (HP : Hid (∀ W, NumsAt W (.slice p m1 cap1) xs → Calls Tryz.prog 7 #[.slice p m1 cap1, .agg #[fo, lo, ke, sc, mo, iv]] W fun e w' => e = .returned (.tuple #[.agg #[.slice none 0 0, .int .i64 0, false, .slice none 0 0], .int .i64 4]) ∧ Gr W w'))
 (HK : Hid (∀ W, NumsAt W (.slice p m1 cap1) xs → Calls Tryz.prog 8 #[.slice p m1 cap1] W fun e w' => e = .returned (.tuple #[.slice none 0 0, .int .i64 3]) ∧ Gr W w'))
 (HPS : CR 9 #[(m1 : Int)] (.bool false))
 (HPL : CR 14 #[.agg #[fo, lo, ke, sc, mo, iv]] (.bool false)) (AL : CR 12 #[] (.bool true)) (w : World) (hx : NumsAt w (.slice p m1 cap1) xs) :
 CW 3 #[.slice p l1 cap1, .agg #[fo, lo, ke, sc, mo, iv]] w (.bool true) :=by
 delta CW
 have hcut1 := run_cut_int p l1 cap1 m1 hm1
 have VX := kh hx
 clear hx
 go_in
 go_wp2_with fail
 refine lc1 fun u0 gu R0 => ?_
 have lp := R0.lt
 obtain ⟨cp0, cp1, cp2, cp3, cp4, cp5⟩ := R0.t6
 go_wp2_with fail
 clear cp0 cp1 cp2 cp3 cp4 cp5
 refine (HP.out _ (VX.out.gr gu)).mono ?_
 rintro e w1 ⟨rfl, g1⟩
 have ⟨Fp_1, lp_1⟩ := R0.gl g1
 have z1 := gu.trans g1
 clear R0 gu g1
 obtain ⟨cp0, cp1, cp2, cp3, cp4, cp5⟩ := Fp_1.t6
 go_wp2_with fail
 clear cp0 cp1 cp2 cp3 cp4 cp5
 obtain ⟨u2, hqp1⟩ : ∃ zz, zz = (w1.alloc (.cells #[.slice none 0 0, .int .i64 0, false, .slice none 0 0] 27)) := ⟨_, rfl⟩
 have Yp_p1 : CellsAt u2 (w.heap.size) 24 #[fo, lo, ke, sc, mo, iv] := by rw [hqp1]; first | exact Fp_1.alloc _ | simpa using Fp_1.alloc _
 have Yb_p1 : CellsAt u2 (w1.heap.size) 27 #[.slice none 0 0, .int .i64 0, false, .slice none 0 0] := by rw [hqp1]; have q_ := CellsAt.new w1 27 #[.slice none 0 0, .int .i64 0, false, .slice none 0 0]; first | exact q_ | simpa using q_
 have yp1 : Gr w u2 := by rw [hqp1]; exact z1.alloc _ _
 rw [← hqp1]
 clear hqp1
 refine (HK.out _ (VX.out.gr (yp1))).mono ?_
 rintro e w2 ⟨rfl, g2⟩
 have ⟨Fp_2, lp_2⟩ := Yp_p1.gl g2
 have ⟨Fb_2, lb_2⟩ := Yb_p1.gl g2
 have z2 := yp1.trans g2
 clear Yp_p1 Yb_p1 yp1 g2
 go_wp2_with fail
 refine (HPS.out _).mono ?_
 rintro e w3 ⟨rfl, g3⟩
 have ⟨Fp_3, lp_3⟩ := Fp_2.gl g3
 have ⟨Fb_3, lb_3⟩ := Fb_2.gl g3
 have z3 := z2.trans g3
 clear Fp_2 Fb_2 z2 g3
 go_wp2_with fail
 refine (AL.out _).mono ?_
 rintro e w4 ⟨rfl, g4⟩
 have ⟨Fp_4, lp_4⟩ := Fp_3.gl g4
 have ⟨Fb_4, lb_4⟩ := Fb_3.gl g4
 have z4 := z3.trans g4
 clear Fp_3 Fb_3 z3 g4
 obtain ⟨cb0, cb1, cb2, cb3⟩ := Fb_4.t4
 go_wp2_with fail
 clear cb0 cb1 cb2 cb3
 refine (same15_c (.slice none 0 0) (.slice none 0 0) (.slice none 0 0) (.slice none 0 0) 0 false [] [] _ ⟨none, 0, rfl, Nat.le_refl _, Nat.zero_le _, fun h => absurd rfl h⟩ (NumsAt.nil _) ⟨none, 0, rfl, Nat.le_refl _, Nat.zero_le _, fun h => absurd rfl h⟩ (NumsAt.nil _)).mono ?_
 rintro e w5 ⟨rfl, g5⟩
 have ⟨Fp_5, lp_5⟩ := Fp_4.gl g5
 have ⟨Fb_5, lb_5⟩ := Fb_4.gl g5
 have z5 := z4.trans g5
 clear Fp_4 Fb_4 z4 g5
 obtain ⟨cp0, cp1, cp2, cp3, cp4, cp5⟩ := Fp_5.t6
 go_wp2_with fail
 clear cp0 cp1 cp2 cp3 cp4 cp5
 refine (HPL.out _).mono ?_
 rintro e w6 ⟨rfl, g6⟩
 have ⟨Fp_6, lp_6⟩ := Fp_5.gl g6
 have ⟨Fb_6, lb_6⟩ := Fb_5.gl g6
 have z6 := z5.trans g6
 clear Fp_5 Fb_5 z5 g6
 go_wp2_with fail
 go_ret
 exact ⟨by first | rfl | (simp; done), z6⟩
theorem bins18_By (p : Option Addr) (l1 cap1 m1 : Nat) (fo lo ke sc mo : Int) (iv : Bool) (xs : List Int) (hm1 : m1 ≤ cap1) (hmin1 : (if (140 : Int) < (l1 : Int) then 140 else (l1 : Int)) = (m1 : Int)) (zs : List Gi) (HP : Hid (∀ W, NumsAt W (.slice p m1 cap1) xs → Calls Tryz.prog 7 #[.slice p m1 cap1, .agg #[fo, lo, ke, sc, mo, iv]] W fun e w' => e = .returned (.tuple #[.agg #[.slice none 0 0, .int .i64 0, false, .slice none 0 0], .int .i64 3]) ∧ Gr W w'))
 (HK : Hid (∀ W, NumsAt W (.slice p m1 cap1) xs → Calls Tryz.prog 8 #[.slice p m1 cap1] W fun e w' => ∃ u, e = .returned (.tuple #[u, .int .i64 0]) ∧ CxsAt w' u zs ∧ Gr W w'))
 (HPS : CR 9 #[(m1 : Int)] (.bool true))
 (HRP : Hid (∀ W, NumsAt W (.slice p m1 cap1) xs → Calls Tryz.prog 11 #[.slice p m1 cap1] W fun e w' => ∃ u, e = .returned (u) ∧ CxsAt w' u zs ∧ Gr W w'))
 (HPL : CR 14 #[.agg #[fo, lo, ke, sc, mo, iv]] (.bool true))
 (HNU : CR 15 #[.slice p m1 cap1, .agg #[fo, lo, ke, sc, mo, iv]] (.bool false)) (AL : CR 12 #[] (.bool true)) (w : World) (hx : NumsAt w (.slice p m1 cap1) xs) :
 CW 3 #[.slice p l1 cap1, .agg #[fo, lo, ke, sc, mo, iv]] w (.bool true) :=by
 delta CW
 have hcut1 := run_cut_int p l1 cap1 m1 hm1
 have VX := kh hx
 clear hx
 go_in
 go_wp2_with fail
 refine lc1 fun u0 gu R0 => ?_
 have lp := R0.lt
 obtain ⟨cp0, cp1, cp2, cp3, cp4, cp5⟩ := R0.t6
 go_wp2_with fail
 clear cp0 cp1 cp2 cp3 cp4 cp5
 refine (HP.out _ (VX.out.gr gu)).mono ?_
 rintro e w1 ⟨rfl, g1⟩
 have ⟨Fp_1, lp_1⟩ := R0.gl g1
 have z1 := gu.trans g1
 clear R0 gu g1
 obtain ⟨cp0, cp1, cp2, cp3, cp4, cp5⟩ := Fp_1.t6
 go_wp2_with fail
 clear cp0 cp1 cp2 cp3 cp4 cp5
 obtain ⟨u2, hqp1⟩ : ∃ zz, zz = (w1.alloc (.cells #[.slice none 0 0, .int .i64 0, false, .slice none 0 0] 27)) := ⟨_, rfl⟩
 have Yp_p1 : CellsAt u2 (w.heap.size) 24 #[fo, lo, ke, sc, mo, iv] := by rw [hqp1]; first | exact Fp_1.alloc _ | simpa using Fp_1.alloc _
 have Yb_p1 : CellsAt u2 (w1.heap.size) 27 #[.slice none 0 0, .int .i64 0, false, .slice none 0 0] := by rw [hqp1]; have q_ := CellsAt.new w1 27 #[.slice none 0 0, .int .i64 0, false, .slice none 0 0]; first | exact q_ | simpa using q_
 have yp1 : Gr w u2 := by rw [hqp1]; exact z1.alloc _ _
 rw [← hqp1]
 clear hqp1
 refine (HK.out _ (VX.out.gr (yp1))).mono ?_
 rintro e w2 ⟨vl, rfl, hl1, g2⟩
 have ⟨Fp_2, lp_2⟩ := Yp_p1.gl g2
 have ⟨Fb_2, lb_2⟩ := Yb_p1.gl g2
 have z2 := yp1.trans g2
 clear Yp_p1 Yb_p1 yp1 g2
 obtain ⟨lp, lc, rfl⟩ := hl1.len
 go_wp2_with fail
 refine (HPS.out _).mono ?_
 rintro e w3 ⟨rfl, g3⟩
 have ⟨Fp_3, lp_3⟩ := Fp_2.gl g3
 have ⟨Fb_3, lb_3⟩ := Fb_2.gl g3
 have Kl_3 := hl1.gr g3
 have z3 := z2.trans g3
 clear Fp_2 Fb_2 z2 g3
 go_wp2_with fail
 refine (HRP.out _ (VX.out.gr (z3))).mono ?_
 rintro e w4 ⟨vu, rfl, hu1, g4⟩
 have ⟨Fp_4, lp_4⟩ := Fp_3.gl g4
 have ⟨Fb_4, lb_4⟩ := Fb_3.gl g4
 have Kl_4 := Kl_3.gr g4
 have z4 := z3.trans g4
 clear Fp_3 Fb_3 z3 g4
 go_wp2_with fail
 refine (same03_c _ _ zs _ Kl_4 hu1).mono ?_
 rintro e w5 ⟨rfl, g5⟩
 have ⟨Fp_5, lp_5⟩ := Fp_4.gl g5
 have ⟨Fb_5, lb_5⟩ := Fb_4.gl g5
 have Kl_5 := Kl_4.gr g5
 have Ku_5 := hu1.gr g5
 have z5 := z4.trans g5
 clear Fp_4 Fb_4 z4 g5
 go_wp2_with fail
 refine (AL.out _).mono ?_
 rintro e w6 ⟨rfl, g6⟩
 have ⟨Fp_6, lp_6⟩ := Fp_5.gl g6
 have ⟨Fb_6, lb_6⟩ := Fb_5.gl g6
 have z6 := z5.trans g6
 clear Fp_5 Fb_5 z5 g6
 obtain ⟨cb0, cb1, cb2, cb3⟩ := Fb_6.t4
 go_wp2_with fail
 clear cb0 cb1 cb2 cb3
 refine (same15_c (.slice none 0 0) (.slice none 0 0) (.slice none 0 0) (.slice none 0 0) 0 false [] [] _ ⟨none, 0, rfl, Nat.le_refl _, Nat.zero_le _, fun h => absurd rfl h⟩ (NumsAt.nil _) ⟨none, 0, rfl, Nat.le_refl _, Nat.zero_le _, fun h => absurd rfl h⟩ (NumsAt.nil _)).mono ?_
 rintro e w7 ⟨rfl, g7⟩
 have ⟨Fp_7, lp_7⟩ := Fp_6.gl g7
 have ⟨Fb_7, lb_7⟩ := Fb_6.gl g7
 have z7 := z6.trans g7
 clear Fp_6 Fb_6 z6 g7
 obtain ⟨cp0, cp1, cp2, cp3, cp4, cp5⟩ := Fp_7.t6
 go_wp2_with fail
 clear cp0 cp1 cp2 cp3 cp4 cp5
 refine (HPL.out _).mono ?_
 rintro e w8 ⟨rfl, g8⟩
 have ⟨Fp_8, lp_8⟩ := Fp_7.gl g8
 have ⟨Fb_8, lb_8⟩ := Fb_7.gl g8
 have z8 := z7.trans g8
 clear Fp_7 Fb_7 z7 g8
 obtain ⟨cp0, cp1, cp2, cp3, cp4, cp5⟩ := Fp_8.t6
 go_wp2_with fail
 clear cp0 cp1 cp2 cp3 cp4 cp5
 refine (HNU.out _).mono ?_
 rintro e w9 ⟨rfl, g9⟩
 have ⟨Fp_9, lp_9⟩ := Fp_8.gl g9
 have ⟨Fb_9, lb_9⟩ := Fb_8.gl g9
 have z9 := z8.trans g9
 clear Fp_8 Fb_8 z8 g9
 go_wp2_with fail
 go_ret
 exact ⟨by first | rfl | (simp; done), z9⟩
theorem bins18_Bn (p : Option Addr) (l1 cap1 m1 : Nat) (fo lo ke sc mo : Int) (iv : Bool) (xs : List Int) (hm1 : m1 ≤ cap1) (hmin1 : (if (140 : Int) < (l1 : Int) then 140 else (l1 : Int)) = (m1 : Int)) (HP : Hid (∀ W, NumsAt W (.slice p m1 cap1) xs → Calls Tryz.prog 7 #[.slice p m1 cap1, .agg #[fo, lo, ke, sc, mo, iv]] W fun e w' => e = .returned (.tuple #[.agg #[.slice none 0 0, .int .i64 0, false, .slice none 0 0], .int .i64 3]) ∧ Gr W w'))
 (HK : Hid (∀ W, NumsAt W (.slice p m1 cap1) xs → Calls Tryz.prog 8 #[.slice p m1 cap1] W fun e w' => e = .returned (.tuple #[.slice none 0 0, .int .i64 3]) ∧ Gr W w'))
 (HPS : CR 9 #[(m1 : Int)] (.bool false))
 (HPL : CR 14 #[.agg #[fo, lo, ke, sc, mo, iv]] (.bool true))
 (HNU : CR 15 #[.slice p m1 cap1, .agg #[fo, lo, ke, sc, mo, iv]] (.bool false)) (AL : CR 12 #[] (.bool true)) (w : World) (hx : NumsAt w (.slice p m1 cap1) xs) :
 CW 3 #[.slice p l1 cap1, .agg #[fo, lo, ke, sc, mo, iv]] w (.bool true) :=by
 delta CW
 have hcut1 := run_cut_int p l1 cap1 m1 hm1
 have VX := kh hx
 clear hx
 go_in
 go_wp2_with fail
 refine lc1 fun u0 gu R0 => ?_
 have lp := R0.lt
 obtain ⟨cp0, cp1, cp2, cp3, cp4, cp5⟩ := R0.t6
 go_wp2_with fail
 clear cp0 cp1 cp2 cp3 cp4 cp5
 refine (HP.out _ (VX.out.gr gu)).mono ?_
 rintro e w1 ⟨rfl, g1⟩
 have ⟨Fp_1, lp_1⟩ := R0.gl g1
 have z1 := gu.trans g1
 clear R0 gu g1
 obtain ⟨cp0, cp1, cp2, cp3, cp4, cp5⟩ := Fp_1.t6
 go_wp2_with fail
 clear cp0 cp1 cp2 cp3 cp4 cp5
 obtain ⟨u2, hqp1⟩ : ∃ zz, zz = (w1.alloc (.cells #[.slice none 0 0, .int .i64 0, false, .slice none 0 0] 27)) := ⟨_, rfl⟩
 have Yp_p1 : CellsAt u2 (w.heap.size) 24 #[fo, lo, ke, sc, mo, iv] := by rw [hqp1]; first | exact Fp_1.alloc _ | simpa using Fp_1.alloc _
 have Yb_p1 : CellsAt u2 (w1.heap.size) 27 #[.slice none 0 0, .int .i64 0, false, .slice none 0 0] := by rw [hqp1]; have q_ := CellsAt.new w1 27 #[.slice none 0 0, .int .i64 0, false, .slice none 0 0]; first | exact q_ | simpa using q_
 have yp1 : Gr w u2 := by rw [hqp1]; exact z1.alloc _ _
 rw [← hqp1]
 clear hqp1
 refine (HK.out _ (VX.out.gr (yp1))).mono ?_
 rintro e w2 ⟨rfl, g2⟩
 have ⟨Fp_2, lp_2⟩ := Yp_p1.gl g2
 have ⟨Fb_2, lb_2⟩ := Yb_p1.gl g2
 have z2 := yp1.trans g2
 clear Yp_p1 Yb_p1 yp1 g2
 go_wp2_with fail
 refine (HPS.out _).mono ?_
 rintro e w3 ⟨rfl, g3⟩
 have ⟨Fp_3, lp_3⟩ := Fp_2.gl g3
 have ⟨Fb_3, lb_3⟩ := Fb_2.gl g3
 have z3 := z2.trans g3
 clear Fp_2 Fb_2 z2 g3
 go_wp2_with fail
 refine (AL.out _).mono ?_
 rintro e w4 ⟨rfl, g4⟩
 have ⟨Fp_4, lp_4⟩ := Fp_3.gl g4
 have ⟨Fb_4, lb_4⟩ := Fb_3.gl g4
 have z4 := z3.trans g4
 clear Fp_3 Fb_3 z3 g4
 obtain ⟨cb0, cb1, cb2, cb3⟩ := Fb_4.t4
 go_wp2_with fail
 clear cb0 cb1 cb2 cb3
 refine (same15_c (.slice none 0 0) (.slice none 0 0) (.slice none 0 0) (.slice none 0 0) 0 false [] [] _ ⟨none, 0, rfl, Nat.le_refl _, Nat.zero_le _, fun h => absurd rfl h⟩ (NumsAt.nil _) ⟨none, 0, rfl, Nat.le_refl _, Nat.zero_le _, fun h => absurd rfl h⟩ (NumsAt.nil _)).mono ?_
 rintro e w5 ⟨rfl, g5⟩
 have ⟨Fp_5, lp_5⟩ := Fp_4.gl g5
 have ⟨Fb_5, lb_5⟩ := Fb_4.gl g5
 have z5 := z4.trans g5
 clear Fp_4 Fb_4 z4 g5
 obtain ⟨cp0, cp1, cp2, cp3, cp4, cp5⟩ := Fp_5.t6
 go_wp2_with fail
 clear cp0 cp1 cp2 cp3 cp4 cp5
 refine (HPL.out _).mono ?_
 rintro e w6 ⟨rfl, g6⟩
 have ⟨Fp_6, lp_6⟩ := Fp_5.gl g6
 have ⟨Fb_6, lb_6⟩ := Fb_5.gl g6
 have z6 := z5.trans g6
 clear Fp_5 Fb_5 z5 g6
 obtain ⟨cp0, cp1, cp2, cp3, cp4, cp5⟩ := Fp_6.t6
 go_wp2_with fail
 clear cp0 cp1 cp2 cp3 cp4 cp5
 refine (HNU.out _).mono ?_
 rintro e w7 ⟨rfl, g7⟩
 have ⟨Fp_7, lp_7⟩ := Fp_6.gl g7
 have ⟨Fb_7, lb_7⟩ := Fb_6.gl g7
 have z7 := z6.trans g7
 clear Fp_6 Fb_6 z6 g7
 go_wp2_with fail
 go_ret
 exact ⟨by first | rfl | (simp; done), z7⟩
theorem bins18_Cy (p : Option Addr) (l1 cap1 m1 : Nat) (fo lo ke sc mo : Int) (iv : Bool) (xs : List Int) (hm1 : m1 ≤ cap1) (hmin1 : (if (140 : Int) < (l1 : Int) then 140 else (l1 : Int)) = (m1 : Int)) (zs : List Gi) (HP : Hid (∀ W, NumsAt W (.slice p m1 cap1) xs → Calls Tryz.prog 7 #[.slice p m1 cap1, .agg #[fo, lo, ke, sc, mo, iv]] W fun e w' => e = .returned (.tuple #[.agg #[.slice none 0 0, .int .i64 0, false, .slice none 0 0], .int .i64 2]) ∧ Gr W w'))
 (HK : Hid (∀ W, NumsAt W (.slice p m1 cap1) xs → Calls Tryz.prog 8 #[.slice p m1 cap1] W fun e w' => ∃ u, e = .returned (.tuple #[u, .int .i64 0]) ∧ CxsAt w' u zs ∧ Gr W w'))
 (HPS : CR 9 #[(m1 : Int)] (.bool true))
 (HRP : Hid (∀ W, NumsAt W (.slice p m1 cap1) xs → Calls Tryz.prog 11 #[.slice p m1 cap1] W fun e w' => ∃ u, e = .returned (u) ∧ CxsAt w' u zs ∧ Gr W w'))
 (HPL : CR 14 #[.agg #[fo, lo, ke, sc, mo, iv]] (.bool true))
 (HNU : CR 15 #[.slice p m1 cap1, .agg #[fo, lo, ke, sc, mo, iv]] (.bool true))
 (HM : Hid (∀ v W, CxsAt W v zs → Calls Tryz.prog 16 #[v, .agg #[fo, lo, ke, sc, mo, iv], false] W fun e w' => e = .returned (.int .i64 2) ∧ Gr W w')) (AL : CR 12 #[] (.bool true)) (w : World) (hx : NumsAt w (.slice p m1 cap1) xs) :
 CW 3 #[.slice p l1 cap1, .agg #[fo, lo, ke, sc, mo, iv]] w (.bool true) :=by
 delta CW
 have hcut1 := run_cut_int p l1 cap1 m1 hm1
 have VX := kh hx
 clear hx
 go_in
 go_wp2_with fail
 refine lc1 fun u0 gu R0 => ?_
 have lp := R0.lt
 obtain ⟨cp0, cp1, cp2, cp3, cp4, cp5⟩ := R0.t6
 go_wp2_with fail
 clear cp0 cp1 cp2 cp3 cp4 cp5
 refine (HP.out _ (VX.out.gr gu)).mono ?_
 rintro e w1 ⟨rfl, g1⟩
 have ⟨Fp_1, lp_1⟩ := R0.gl g1
 have z1 := gu.trans g1
 clear R0 gu g1
 obtain ⟨cp0, cp1, cp2, cp3, cp4, cp5⟩ := Fp_1.t6
 go_wp2_with fail
 clear cp0 cp1 cp2 cp3 cp4 cp5
 obtain ⟨u2, hqp1⟩ : ∃ zz, zz = (w1.alloc (.cells #[.slice none 0 0, .int .i64 0, false, .slice none 0 0] 27)) := ⟨_, rfl⟩
 have Yp_p1 : CellsAt u2 (w.heap.size) 24 #[fo, lo, ke, sc, mo, iv] := by rw [hqp1]; first | exact Fp_1.alloc _ | simpa using Fp_1.alloc _
 have Yb_p1 : CellsAt u2 (w1.heap.size) 27 #[.slice none 0 0, .int .i64 0, false, .slice none 0 0] := by rw [hqp1]; have q_ := CellsAt.new w1 27 #[.slice none 0 0, .int .i64 0, false, .slice none 0 0]; first | exact q_ | simpa using q_
 have yp1 : Gr w u2 := by rw [hqp1]; exact z1.alloc _ _
 rw [← hqp1]
 clear hqp1
 refine (HK.out _ (VX.out.gr (yp1))).mono ?_
 rintro e w2 ⟨vl, rfl, hl1, g2⟩
 have ⟨Fp_2, lp_2⟩ := Yp_p1.gl g2
 have ⟨Fb_2, lb_2⟩ := Yb_p1.gl g2
 have z2 := yp1.trans g2
 clear Yp_p1 Yb_p1 yp1 g2
 obtain ⟨lp, lc, rfl⟩ := hl1.len
 go_wp2_with fail
 refine (HPS.out _).mono ?_
 rintro e w3 ⟨rfl, g3⟩
 have ⟨Fp_3, lp_3⟩ := Fp_2.gl g3
 have ⟨Fb_3, lb_3⟩ := Fb_2.gl g3
 have Kl_3 := hl1.gr g3
 have z3 := z2.trans g3
 clear Fp_2 Fb_2 z2 g3
 go_wp2_with fail
 refine (HRP.out _ (VX.out.gr (z3))).mono ?_
 rintro e w4 ⟨vu, rfl, hu1, g4⟩
 have ⟨Fp_4, lp_4⟩ := Fp_3.gl g4
 have ⟨Fb_4, lb_4⟩ := Fb_3.gl g4
 have Kl_4 := Kl_3.gr g4
 have z4 := z3.trans g4
 clear Fp_3 Fb_3 z3 g4
 go_wp2_with fail
 refine (same03_c _ _ zs _ Kl_4 hu1).mono ?_
 rintro e w5 ⟨rfl, g5⟩
 have ⟨Fp_5, lp_5⟩ := Fp_4.gl g5
 have ⟨Fb_5, lb_5⟩ := Fb_4.gl g5
 have Kl_5 := Kl_4.gr g5
 have Ku_5 := hu1.gr g5
 have z5 := z4.trans g5
 clear Fp_4 Fb_4 z4 g5
 go_wp2_with fail
 refine (AL.out _).mono ?_
 rintro e w6 ⟨rfl, g6⟩
 have ⟨Fp_6, lp_6⟩ := Fp_5.gl g6
 have ⟨Fb_6, lb_6⟩ := Fb_5.gl g6
 have z6 := z5.trans g6
 clear Fp_5 Fb_5 z5 g6
 obtain ⟨cb0, cb1, cb2, cb3⟩ := Fb_6.t4
 go_wp2_with fail
 clear cb0 cb1 cb2 cb3
 refine (same15_c (.slice none 0 0) (.slice none 0 0) (.slice none 0 0) (.slice none 0 0) 0 false [] [] _ ⟨none, 0, rfl, Nat.le_refl _, Nat.zero_le _, fun h => absurd rfl h⟩ (NumsAt.nil _) ⟨none, 0, rfl, Nat.le_refl _, Nat.zero_le _, fun h => absurd rfl h⟩ (NumsAt.nil _)).mono ?_
 rintro e w7 ⟨rfl, g7⟩
 have ⟨Fp_7, lp_7⟩ := Fp_6.gl g7
 have ⟨Fb_7, lb_7⟩ := Fb_6.gl g7
 have z7 := z6.trans g7
 clear Fp_6 Fb_6 z6 g7
 obtain ⟨cp0, cp1, cp2, cp3, cp4, cp5⟩ := Fp_7.t6
 go_wp2_with fail
 clear cp0 cp1 cp2 cp3 cp4 cp5
 refine (HPL.out _).mono ?_
 rintro e w8 ⟨rfl, g8⟩
 have ⟨Fp_8, lp_8⟩ := Fp_7.gl g8
 have ⟨Fb_8, lb_8⟩ := Fb_7.gl g8
 have z8 := z7.trans g8
 clear Fp_7 Fb_7 z7 g8
 obtain ⟨cp0, cp1, cp2, cp3, cp4, cp5⟩ := Fp_8.t6
 go_wp2_with fail
 clear cp0 cp1 cp2 cp3 cp4 cp5
 refine (HNU.out _).mono ?_
 rintro e w9 ⟨rfl, g9⟩
 have ⟨Fp_9, lp_9⟩ := Fp_8.gl g9
 have ⟨Fb_9, lb_9⟩ := Fb_8.gl g9
 have z9 := z8.trans g9
 clear Fp_8 Fb_8 z8 g9
 go_wp2_with fail
 obtain ⟨u7, hqp2⟩ : ∃ zz, zz = w9 := ⟨_, rfl⟩
 subst hqp2
 have Yp_p2 := Fp_9
 have Yb_p2 := Fb_9
 have yp2 := z9
 have KS := fun W (hG : Gr u7 W) => (CellsAt.gr Yp_p2 hG).t6
 have hclG := gr_closed u7
 try simp only [List.append_eq, List.cons_append, List.nil_append]
 refine wp_region_grow (S := Gr u7) rfl (Gr.drew (Gr.refl _)) ?_
 refine gT 0 hclG ?_
 refine gK 2 hclG KS ?_
 refine gR 1 fun w10 g10 s10 K hK => ?_
 replace g10 := (Gr.drew (Gr.refl u7)).trans g10
 have ⟨Fp_10, lp_10⟩ := Yp_p2.gl g10
 have ⟨Fb_10, lb_10⟩ := Yb_p2.gl g10
 have z10 := yp2.trans g10
 clear Yp_p2 Yb_p2 yp2 g10
 go_simp
 refine (HRP.out w10 (VX.out.gr (z10))).mono ?_
 rintro e w11 ⟨vu, rfl, hu1, g11⟩
 have t11 := Gr.trans s10 g11
 have ⟨Fp_11, lp_11⟩ := Fp_10.gl g11
 have ⟨Fb_11, lb_11⟩ := Fb_10.gl g11
 have z11 := z10.trans g11
 clear Fp_10 Fb_10 z10 g11
 refine hK.out _ _ ?_ ?_
 ·exact t11
 clear hK K
 try simp only [Act.put, putS]
 refine gR 3 fun w12 g12 s12 K hK => ?_
 have ⟨Fp_12, lp_12⟩ := Fp_11.gl g12
 have ⟨Fb_12, lb_12⟩ := Fb_11.gl g12
 have Ku_12 := hu1.gr g12
 have z12 := z11.trans g12
 clear Fp_11 Fb_11 z11 g12
 go_simp
 refine (HM.out _ w12 Ku_12).mono ?_
 rintro e w13 ⟨rfl, g13⟩
 have t13 := Gr.trans s12 g13
 have ⟨Fp_13, lp_13⟩ := Fp_12.gl g13
 have ⟨Fb_13, lb_13⟩ := Fb_12.gl g13
 have Ku_13 := Ku_12.gr g13
 have z13 := z12.trans g13
 clear Fp_12 Fb_12 z12 g13
 refine hK.out _ _ ?_ ?_
 ·exact t13
 clear hK K
 try simp only [Act.put, putS]
 refine gT 4 hclG ?_
 refine gT 5 hclG ?_
 refine wpG_done (by kernel_rfl) (fun w14 g14 => ?_) _
 have ⟨Fp_14, lp_14⟩ := Fp_13.gl g14
 have ⟨Fb_14, lb_14⟩ := Fb_13.gl g14
 have Ku_14 := Ku_13.gr g14
 have z14 := z13.trans g14
 clear Fp_13 Fb_13 z13 g14
 clear hclG KS
 go_wp2_with fail
 go_ret
 exact ⟨by first | rfl | (simp; done), z14⟩
theorem bins18_Dy (p : Option Addr) (l1 cap1 m1 : Nat) (fo lo ke sc mo : Int) (iv : Bool) (xs : List Int) (hm1 : m1 ≤ cap1) (hmin1 : (if (140 : Int) < (l1 : Int) then 140 else (l1 : Int)) = (m1 : Int)) (zs : List Gi) (X Y : List Gi) (sh : List Int) (e1 e2 : Int) (s1 s2 : Bool) (HNE : Hid (X ≠ [])) (HP : Hid (∀ W, NumsAt W (.slice p m1 cap1) xs → Calls Tryz.prog 7 #[.slice p m1 cap1, .agg #[fo, lo, ke, sc, mo, iv]] W fun e w' => ∃ vx vs, e = .returned (.tuple #[.agg #[vx, e2, s2, vs], .int .i64 0]) ∧ CxsAt w' vx X ∧ NumsAt w' vs sh ∧ Gr W w'))
 (HK : Hid (∀ W, NumsAt W (.slice p m1 cap1) xs → Calls Tryz.prog 8 #[.slice p m1 cap1] W fun e w' => ∃ u, e = .returned (.tuple #[u, .int .i64 0]) ∧ CxsAt w' u zs ∧ Gr W w'))
 (HPS : CR 9 #[(m1 : Int)] (.bool true))
 (HRP : Hid (∀ W, NumsAt W (.slice p m1 cap1) xs → Calls Tryz.prog 11 #[.slice p m1 cap1] W fun e w' => ∃ u, e = .returned (u) ∧ CxsAt w' u zs ∧ Gr W w'))
 (HPL : CR 14 #[.agg #[fo, lo, ke, sc, mo, iv]] (.bool true))
 (HNU : CR 15 #[.slice p m1 cap1, .agg #[fo, lo, ke, sc, mo, iv]] (.bool true))
 (HM : Hid (∀ v W, CxsAt W v zs → Calls Tryz.prog 16 #[v, .agg #[fo, lo, ke, sc, mo, iv], false] W fun e w' => e = .returned (.int .i64 0) ∧ Gr W w'))
 (HRN : Hid (∀ v W, CxsAt W v zs → Calls Tryz.prog 18 #[v, .agg #[fo, lo, ke, sc, mo, iv]] W fun e w' => ∃ vx vs, e = .returned (.agg #[vx, e1, s1, vs]) ∧ CxsAt w' vx Y ∧ NumsAt w' vs sh ∧ Gr W w'))
 (HUN : Hid (∀ px cx sp cl W, CxsAt W (.slice px Y.length cx) Y → Calls Tryz.prog 17 #[.agg #[.slice px Y.length cx, e1, s1, .slice sp sh.length cl], .agg #[fo, lo, ke, sc, mo, iv]] W fun e w' => ∃ vx, e = .returned (.agg #[vx, e2, s2, .slice sp sh.length cl]) ∧ CxsAt w' vx X ∧ Gr W w')) (AL : CR 12 #[] (.bool true)) (w : World) (hx : NumsAt w (.slice p m1 cap1) xs) :
 CW 3 #[.slice p l1 cap1, .agg #[fo, lo, ke, sc, mo, iv]] w (.bool true) :=by
 delta CW
 have hcut1 := run_cut_int p l1 cap1 m1 hm1
 have VX := kh hx
 clear hx
 go_in
 go_wp2_with fail
 refine lc1 fun u0 gu R0 => ?_
 have lp := R0.lt
 obtain ⟨cp0, cp1, cp2, cp3, cp4, cp5⟩ := R0.t6
 go_wp2_with fail
 clear cp0 cp1 cp2 cp3 cp4 cp5
 refine (HP.out _ (VX.out.gr gu)).mono ?_
 rintro e w1 ⟨vx, vs, rfl, hx1, hs1, g1⟩
 have ⟨Fp_1, lp_1⟩ := R0.gl g1
 have z1 := gu.trans g1
 clear R0 gu g1
 obtain ⟨xp, xc, rfl⟩ := hx1.len
 obtain ⟨tp, tc, rfl⟩ := hs1.len
 obtain ⟨cp0, cp1, cp2, cp3, cp4, cp5⟩ := Fp_1.t6
 go_wp2_with fail
 clear cp0 cp1 cp2 cp3 cp4 cp5
 have hs2 := hs1.gr ((Gr.refl _).alloc #[.slice xp X.length xc, e2, s2, .slice tp sh.length tc] 27)
 obtain ⟨u2, hqp1⟩ : ∃ zz, zz = (w1.alloc (.cells #[.slice xp X.length xc, e2, s2, .slice tp sh.length tc] 27)) := ⟨_, rfl⟩
 have Yp_p1 : CellsAt u2 (w.heap.size) 24 #[fo, lo, ke, sc, mo, iv] := by rw [hqp1]; first | exact Fp_1.alloc _ | simpa using Fp_1.alloc _
 have Yb_p1 : CellsAt u2 (w1.heap.size) 27 #[.slice xp X.length xc, e2, s2, .slice tp sh.length tc] := by rw [hqp1]; have q_ := CellsAt.new w1 27 #[.slice xp X.length xc, e2, s2, .slice tp sh.length tc]; first | exact q_ | simpa using q_
 have Vx_p1 := (hx1.gr ((Gr.refl w1).alloc #[.slice xp X.length xc, e2, s2, .slice tp sh.length tc] 27))
 rw [← hqp1] at Vx_p1
 have Vs_p1 := hs2
 rw [← hqp1] at Vs_p1
 have yp1 : Gr w u2 := by rw [hqp1]; exact z1.alloc _ _
 rw [← hqp1]
 clear hqp1
 refine (HK.out _ (VX.out.gr (yp1))).mono ?_
 rintro e w2 ⟨vl, rfl, hl1, g2⟩
 have ⟨Fp_2, lp_2⟩ := Yp_p1.gl g2
 have ⟨Fb_2, lb_2⟩ := Yb_p1.gl g2
 have Kx_2 := Vx_p1.gr g2
 have Ns_2 := NumsAt.gr (Vs_p1) g2
 have z2 := yp1.trans g2
 clear Yp_p1 Yb_p1 yp1 g2
 obtain ⟨lp, lc, rfl⟩ := hl1.len
 go_wp2_with fail
 refine (HPS.out _).mono ?_
 rintro e w3 ⟨rfl, g3⟩
 have ⟨Fp_3, lp_3⟩ := Fp_2.gl g3
 have ⟨Fb_3, lb_3⟩ := Fb_2.gl g3
 have Kx_3 := Kx_2.gr g3
 have Kl_3 := hl1.gr g3
 have Ns_3 := NumsAt.gr (Ns_2) g3
 have z3 := z2.trans g3
 clear Fp_2 Fb_2 z2 g3
 go_wp2_with fail
 refine (HRP.out _ (VX.out.gr (z3))).mono ?_
 rintro e w4 ⟨vu, rfl, hu1, g4⟩
 have ⟨Fp_4, lp_4⟩ := Fp_3.gl g4
 have ⟨Fb_4, lb_4⟩ := Fb_3.gl g4
 have Kx_4 := Kx_3.gr g4
 have Kl_4 := Kl_3.gr g4
 have Ns_4 := NumsAt.gr (Ns_3) g4
 have z4 := z3.trans g4
 clear Fp_3 Fb_3 z3 g4
 go_wp2_with fail
 refine (same03_c _ _ zs _ Kl_4 hu1).mono ?_
 rintro e w5 ⟨rfl, g5⟩
 have ⟨Fp_5, lp_5⟩ := Fp_4.gl g5
 have ⟨Fb_5, lb_5⟩ := Fb_4.gl g5
 have Kx_5 := Kx_4.gr g5
 have Kl_5 := Kl_4.gr g5
 have Ku_5 := hu1.gr g5
 have Ns_5 := NumsAt.gr (Ns_4) g5
 have z5 := z4.trans g5
 clear Fp_4 Fb_4 z4 g5
 go_wp2_with fail
 refine (AL.out _).mono ?_
 rintro e w6 ⟨rfl, g6⟩
 have ⟨Fp_6, lp_6⟩ := Fp_5.gl g6
 have ⟨Fb_6, lb_6⟩ := Fb_5.gl g6
 have Kx_6 := Kx_5.gr g6
 have Ns_6 := NumsAt.gr (Ns_5) g6
 have z6 := z5.trans g6
 clear Fp_5 Fb_5 z5 g6
 obtain ⟨cb0, cb1, cb2, cb3⟩ := Fb_6.t4
 go_wp2_with fail
 clear cb0 cb1 cb2 cb3
 refine (same15_x _ _ e2 s2 X HNE.out _ Kx_6).mono ?_
 rintro e w7 ⟨rfl, g7⟩
 have ⟨Fp_7, lp_7⟩ := Fp_6.gl g7
 have ⟨Fb_7, lb_7⟩ := Fb_6.gl g7
 have Kx_7 := Kx_6.gr g7
 have Ns_7 := NumsAt.gr (Ns_6) g7
 have z7 := z6.trans g7
 clear Fp_6 Fb_6 z6 g7
 obtain ⟨cp0, cp1, cp2, cp3, cp4, cp5⟩ := Fp_7.t6
 go_wp2_with fail
 clear cp0 cp1 cp2 cp3 cp4 cp5
 refine (HPL.out _).mono ?_
 rintro e w8 ⟨rfl, g8⟩
 have ⟨Fp_8, lp_8⟩ := Fp_7.gl g8
 have ⟨Fb_8, lb_8⟩ := Fb_7.gl g8
 have Kx_8 := Kx_7.gr g8
 have Ns_8 := NumsAt.gr (Ns_7) g8
 have z8 := z7.trans g8
 clear Fp_7 Fb_7 z7 g8
 obtain ⟨cp0, cp1, cp2, cp3, cp4, cp5⟩ := Fp_8.t6
 go_wp2_with fail
 clear cp0 cp1 cp2 cp3 cp4 cp5
 refine (HNU.out _).mono ?_
 rintro e w9 ⟨rfl, g9⟩
 have ⟨Fp_9, lp_9⟩ := Fp_8.gl g9
 have ⟨Fb_9, lb_9⟩ := Fb_8.gl g9
 have Kx_9 := Kx_8.gr g9
 have Ns_9 := NumsAt.gr (Ns_8) g9
 have z9 := z8.trans g9
 clear Fp_8 Fb_8 z8 g9
 go_wp2_with fail
 obtain ⟨u7, hqp2⟩ : ∃ zz, zz = w9 := ⟨_, rfl⟩
 subst hqp2
 have Yp_p2 := Fp_9
 have Yb_p2 := Fb_9
 have Vx_p2 := Kx_9
 have Vs_p2 := Ns_9
 have yp2 := z9
 have KS := fun W (hG : Gr u7 W) => (CellsAt.gr Yp_p2 hG).t6
 have hclG := gr_closed u7
 try simp only [List.append_eq, List.cons_append, List.nil_append]
 refine wp_region_grow (S := Gr u7) rfl (Gr.drew (Gr.refl _)) ?_
 refine gT 0 hclG ?_
 refine gK 2 hclG KS ?_
 refine gR 1 fun w10 g10 s10 K hK => ?_
 replace g10 := (Gr.drew (Gr.refl u7)).trans g10
 have ⟨Fp_10, lp_10⟩ := Yp_p2.gl g10
 have ⟨Fb_10, lb_10⟩ := Yb_p2.gl g10
 have Kx_10 := Vx_p2.gr g10
 have Ns_10 := NumsAt.gr (Vs_p2) g10
 have z10 := yp2.trans g10
 clear Yp_p2 Yb_p2 yp2 g10
 go_simp
 refine (HRP.out w10 (VX.out.gr (z10))).mono ?_
 rintro e w11 ⟨vu, rfl, hu1, g11⟩
 have t11 := Gr.trans s10 g11
 have ⟨Fp_11, lp_11⟩ := Fp_10.gl g11
 have ⟨Fb_11, lb_11⟩ := Fb_10.gl g11
 have Kx_11 := Kx_10.gr g11
 have Ns_11 := NumsAt.gr (Ns_10) g11
 have z11 := z10.trans g11
 clear Fp_10 Fb_10 z10 g11
 refine hK.out _ _ ?_ ?_
 ·exact t11
 clear hK K
 try simp only [Act.put, putS]
 refine gR 3 fun w12 g12 s12 K hK => ?_
 have ⟨Fp_12, lp_12⟩ := Fp_11.gl g12
 have ⟨Fb_12, lb_12⟩ := Fb_11.gl g12
 have Kx_12 := Kx_11.gr g12
 have Ku_12 := hu1.gr g12
 have Ns_12 := NumsAt.gr (Ns_11) g12
 have z12 := z11.trans g12
 clear Fp_11 Fb_11 z11 g12
 go_simp
 refine (HM.out _ w12 Ku_12).mono ?_
 rintro e w13 ⟨rfl, g13⟩
 have t13 := Gr.trans s12 g13
 have ⟨Fp_13, lp_13⟩ := Fp_12.gl g13
 have ⟨Fb_13, lb_13⟩ := Fb_12.gl g13
 have Kx_13 := Kx_12.gr g13
 have Ku_13 := Ku_12.gr g13
 have Ns_13 := NumsAt.gr (Ns_12) g13
 have z13 := z12.trans g13
 clear Fp_12 Fb_12 z12 g13
 refine hK.out _ _ ?_ ?_
 ·exact t13
 clear hK K
 try simp only [Act.put, putS]
 refine gT 4 hclG ?_
 refine gT 5 hclG ?_
 refine wpG_done (by kernel_rfl) (fun w14 g14 => ?_) _
 have ⟨Fp_14, lp_14⟩ := Fp_13.gl g14
 have ⟨Fb_14, lb_14⟩ := Fb_13.gl g14
 have Kx_14 := Kx_13.gr g14
 have Ku_14 := Ku_13.gr g14
 have Ns_14 := NumsAt.gr (Ns_13) g14
 have z14 := z13.trans g14
 clear Fp_13 Fb_13 z13 g14
 clear hclG KS
 go_wp2_with fail
 obtain ⟨u8, hqp3⟩ : ∃ zz, zz = w14 := ⟨_, rfl⟩
 subst hqp3
 have Yp_p3 := Fp_14
 have Yb_p3 := Fb_14
 have Vx_p3 := Kx_14
 have Vs_p3 := Ns_14
 have yp3 := z14
 have KS := fun W (hG : Gr u8 W) => And.intro (CellsAt.gr Yb_p3 hG).t4 (CellsAt.gr Yp_p3 hG).t6
 have hclG := gr_closed u8
 try simp only [List.append_eq, List.cons_append, List.nil_append]
 refine wp_region_grow (S := Gr u8) rfl (Gr.drew (Gr.refl _)) ?_
 refine gT 0 hclG ?_
 refine gT 1 hclG ?_
 refine gT 2 hclG ?_
 refine gK 3 hclG KS ?_
 refine gT 4 hclG ?_
 refine gK 6 hclG KS ?_
 refine gK 8 hclG KS ?_
 refine gR 5 fun w15 g15 s15 K hK => ?_
 replace g15 := (Gr.drew (Gr.refl u8)).trans g15
 have ⟨Fp_15, lp_15⟩ := Yp_p3.gl g15
 have ⟨Fb_15, lb_15⟩ := Yb_p3.gl g15
 have Kx_15 := Vx_p3.gr g15
 have Ns_15 := NumsAt.gr (Vs_p3) g15
 have z15 := yp3.trans g15
 clear Yp_p3 Yb_p3 yp3 g15
 go_simp
 refine (HRP.out w15 (VX.out.gr (z15))).mono ?_
 rintro e w16 ⟨vu, rfl, hu1, g16⟩
 have t16 := Gr.trans s15 g16
 have ⟨Fp_16, lp_16⟩ := Fp_15.gl g16
 have ⟨Fb_16, lb_16⟩ := Fb_15.gl g16
 have Kx_16 := Kx_15.gr g16
 have Ns_16 := NumsAt.gr (Ns_15) g16
 have z16 := z15.trans g16
 clear Fp_15 Fb_15 z15 g16
 refine hK.out _ _ ?_ ?_
 ·exact t16
 clear hK K
 try simp only [Act.put, putS]
 refine gR 7 fun w17 g17 s17 K hK => ?_
 have ⟨Fp_17, lp_17⟩ := Fp_16.gl g17
 have ⟨Fb_17, lb_17⟩ := Fb_16.gl g17
 have Kx_17 := Kx_16.gr g17
 have Ku_17 := hu1.gr g17
 have Ns_17 := NumsAt.gr (Ns_16) g17
 have z17 := z16.trans g17
 clear Fp_16 Fb_16 z16 g17
 go_simp
 refine (HRN.out _ w17 Ku_17).mono ?_
 rintro e w18 ⟨vy, vz, rfl, hy1, hz1, g18⟩
 obtain ⟨yp, yc, rfl⟩ := hy1.len
 obtain ⟨zp, zc, rfl⟩ := hz1.len
 have t18 := Gr.trans s17 g18
 have ⟨Fp_18, lp_18⟩ := Fp_17.gl g18
 have ⟨Fb_18, lb_18⟩ := Fb_17.gl g18
 have Kx_18 := Kx_17.gr g18
 have Ku_18 := Ku_17.gr g18
 have Ns_18 := NumsAt.gr (Ns_17) g18
 have z18 := z17.trans g18
 clear Fp_17 Fb_17 z17 g18
 refine hK.out _ _ ?_ ?_
 ·exact t18
 clear hK K
 try simp only [Act.put, putS]
 refine gR 9 fun w19 g19 s19 K hK => ?_
 have ⟨Fp_19, lp_19⟩ := Fp_18.gl g19
 have ⟨Fb_19, lb_19⟩ := Fb_18.gl g19
 have Kx_19 := Kx_18.gr g19
 have Ku_19 := Ku_18.gr g19
 have Ky_19 := hy1.gr g19
 have Ns_19 := NumsAt.gr (Ns_18) g19
 have Nz_19 := NumsAt.gr (hz1) g19
 have z19 := z18.trans g19
 clear Fp_18 Fb_18 z18 g19
 go_simp
 refine (HUN.out _ _ _ _ w19 Ky_19).mono ?_
 rintro e w20 ⟨vq, rfl, hq1, g20⟩
 have t20 := Gr.trans s19 g20
 have ⟨Fp_20, lp_20⟩ := Fp_19.gl g20
 have ⟨Fb_20, lb_20⟩ := Fb_19.gl g20
 have Kx_20 := Kx_19.gr g20
 have Ku_20 := Ku_19.gr g20
 have Ky_20 := Ky_19.gr g20
 have Ns_20 := NumsAt.gr (Ns_19) g20
 have Nz_20 := NumsAt.gr (Nz_19) g20
 have z20 := z19.trans g20
 clear Fp_19 Fb_19 z19 g20
 refine hK.out _ _ ?_ ?_
 ·exact t20
 clear hK K
 try simp only [Act.put, putS]
 refine gR 10 fun w21 g21 s21 K hK => ?_
 have ⟨Fp_21, lp_21⟩ := Fp_20.gl g21
 have ⟨Fb_21, lb_21⟩ := Fb_20.gl g21
 have Kx_21 := Kx_20.gr g21
 have Ku_21 := Ku_20.gr g21
 have Ky_21 := Ky_20.gr g21
 have Kq_21 := hq1.gr g21
 have Ns_21 := NumsAt.gr (Ns_20) g21
 have Nz_21 := NumsAt.gr (Nz_20) g21
 have z21 := z20.trans g21
 clear Fp_20 Fb_20 z20 g21
 go_simp
 refine (same15_c _ _ _ _ e2 s2 X sh w21 Kx_21 Ns_21 Kq_21 Nz_21).mono ?_
 rintro e w22 ⟨rfl, g22⟩
 have t22 := Gr.trans s21 g22
 have ⟨Fp_22, lp_22⟩ := Fp_21.gl g22
 have ⟨Fb_22, lb_22⟩ := Fb_21.gl g22
 have Kx_22 := Kx_21.gr g22
 have Ku_22 := Ku_21.gr g22
 have Ky_22 := Ky_21.gr g22
 have Kq_22 := Kq_21.gr g22
 have Ns_22 := NumsAt.gr (Ns_21) g22
 have Nz_22 := NumsAt.gr (Nz_21) g22
 have z22 := z21.trans g22
 clear Fp_21 Fb_21 z21 g22
 refine hK.out _ _ ?_ ?_
 ·exact t22
 clear hK K
 try simp only [Act.put, putS]
 refine gT 11 hclG ?_
 refine gT 12 hclG ?_
 refine wpG_done (by kernel_rfl) (fun w23 g23 => ?_) _
 have ⟨Fp_23, lp_23⟩ := Fp_22.gl g23
 have ⟨Fb_23, lb_23⟩ := Fb_22.gl g23
 have Kx_23 := Kx_22.gr g23
 have Ku_23 := Ku_22.gr g23
 have Ky_23 := Ky_22.gr g23
 have Kq_23 := Kq_22.gr g23
 have Ns_23 := NumsAt.gr (Ns_22) g23
 have Nz_23 := NumsAt.gr (Nz_22) g23
 have z23 := z22.trans g23
 clear Fp_22 Fb_22 z22 g23
 clear hclG KS
 go_wp2_with fail
 go_ret
 exact ⟨by first | rfl | (simp; done), z23⟩
end
end Go.Proofs.YtdignnmpfkgkoaaGreat
