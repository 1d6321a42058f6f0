import Derived.Test.YtdignnmpfkgkoaaGreatGS44
namespace Go.Proofs.YtdignnmpfkgkoaaGreat
section
open Go.ChangeShapes Go.WideShapes Go.ChangeAt Go.RowKit
set_option linter.unusedVariables false
set_option linter.unusedSimpArgs false
set_option maxRecDepth 100000
set_option maxHeartbeats 4000000 in
theorem near18_no (p : Option Addr) (l1 cap1 m1 : Nat) (fo lo ke sc mo : Int) (iv : Bool) (xs : List Int) (hm1 : m1 ≤ cap1) (hmin1 : (if (140 : Int) < (l1 : Int) then 140 else (l1 : Int)) = (m1 : Int)) (y : Int) (hy0 : ¬ y = 0) (hyb : (y == 0) = false) (HP : Hid (∀ W, NumsAt W (.slice p m1 cap1) xs → Calls Tryz.prog 7 #[.slice p m1 cap1, .agg #[.int .i64 fo, .int .i64 lo, .int .i64 ke, .int .i64 sc, .int .i64 mo, .bool iv]] W fun e w' => e = .returned (.tuple #[.agg #[.slice none 0 0, .int .i64 0, .bool false, .slice none 0 0], .int .i64 y]) ∧ Gr W w')) (AL : CR 12 #[] (.bool true)) (w : World) (hx : NumsAt w (.slice p m1 cap1) xs) :
 Calls Tryz.prog 6 #[.slice p l1 cap1, .agg #[.int .i64 fo, .int .i64 lo, .int .i64 ke, .int .i64 sc, .int .i64 mo, .bool iv]] w fun e w' => e = .returned (.bool true) ∧ Gr w w' := by
 have hcut1 := run_cut_int p l1 cap1 m1 hm1
 have VX := Lib.hid hx
 clear hx
 go_enter Tryz.func6, Tryz.ntmps6
 go_wp2_with fail
 obtain ⟨u0, hU⟩ : ∃ uu, uu = (w.alloc (.cells #[.int .i64 fo, .int .i64 lo, .int .i64 ke, .int .i64 sc, .int .i64 mo, .bool iv] 24)) := ⟨_, rfl⟩
 have ⟨gu, R0⟩ := lay1 hU
 rw [← hU]
 clear hU
 have lp := R0.lt
 obtain ⟨cp0, cp1, cp2, cp3, cp4, cp5⟩ := R0.t6
 go_wp2_with fail
 clear cp0 cp1 cp2 cp3 cp4 cp5
 refine (HP.out _ (VX.out.gr gu)).mono ?_
 rintro e w1 ⟨rfl, g1⟩
 have ⟨Fp_1, lp_1⟩ := CellsAt.gl (R0) g1
 have z1 := (gu).trans g1
 clear R0 gu g1
 obtain ⟨cp0, cp1, cp2, cp3, cp4, cp5⟩ := Fp_1.t6
 go_wp2_with fail
 clear cp0 cp1 cp2 cp3 cp4 cp5
 obtain ⟨u2, hqp1⟩ : ∃ zz, zz = (w1.alloc (.cells #[.slice none 0 0, .int .i64 0, .bool false, .slice none 0 0] 27)) := ⟨_, rfl⟩
 have Yp_p1 : CellsAt u2 (w.heap.size) 24 #[.int .i64 fo, .int .i64 lo, .int .i64 ke, .int .i64 sc, .int .i64 mo, .bool iv] := by rw [hqp1]; first | exact (Fp_1).alloc _ | simpa using (Fp_1).alloc _
 have Yb_p1 : CellsAt u2 (w1.heap.size) 27 #[.slice none 0 0, .int .i64 0, .bool false, .slice none 0 0] := by rw [hqp1]; first | exact CellsAt.new w1 27 #[.slice none 0 0, .int .i64 0, .bool false, .slice none 0 0] | simpa using CellsAt.new w1 27 #[.slice none 0 0, .int .i64 0, .bool false, .slice none 0 0]
 have yp1 : Gr w u2 := by rw [hqp1]; exact (z1).alloc _ _
 rw [← hqp1]
 clear hqp1
 refine (AL.out _).mono ?_
 rintro e w2 ⟨rfl, g2⟩
 have ⟨Fp_2, lp_2⟩ := CellsAt.gl (Yp_p1) g2
 have ⟨Fb_2, lb_2⟩ := CellsAt.gl (Yb_p1) g2
 have z2 := (yp1).trans g2
 clear Yp_p1 Yb_p1 yp1 g2
 obtain ⟨cb0, cb1, cb2, cb3⟩ := Fb_2.t4
 go_wp2_with fail
 clear cb0 cb1 cb2 cb3
 go_ret
 exact ⟨by first | rfl | (simp; done), z2⟩
set_option maxHeartbeats 8000000 in
theorem near18_sat (p : Option Addr) (l1 cap1 m1 : Nat) (fo lo ke mo : Int) (iv : Bool) (xs : List Int) (hm1 : m1 ≤ cap1) (hmin1 : (if (140 : Int) < (l1 : Int) then 140 else (l1 : Int)) = (m1 : Int)) (hl1 : xs.length = m1) (h1p : 0 < m1) (h140 : m1 ≤ 140) (X Y zs : List Gi) (m : Nat) (e1 e2 u l : Int) (s1 : Bool) (sh sq : List Int)
 (HXL : Hid (X.length = m + 1)) (HP : Hid (∀ W, NumsAt W (.slice p m1 cap1) xs → Calls Tryz.prog 7 #[.slice p m1 cap1, .agg #[.int .i64 fo, .int .i64 lo, .int .i64 ke, .int .i64 2, .int .i64 mo, .bool iv]] W fun e w' => ∃ vx vs, e = .returned (.tuple #[.agg #[vx, .int .i64 e2, .bool true, vs], .int .i64 0]) ∧ CxsAt w' vx X ∧ NumsAt w' vs sq ∧ Gr W w'))
 (HK : Hid (∀ W, NumsAt W (.slice p m1 cap1) xs → Calls Tryz.prog 8 #[.slice p m1 cap1] W fun e w' => ∃ u, e = .returned (.tuple #[u, .int .i64 0]) ∧ CxsAt w' u zs ∧ Gr W w'))
 (HU : Hid (∀ v W, CxsAt W v zs → Calls Tryz.prog 24 #[v, .agg #[.int .i64 fo, .int .i64 lo, .int .i64 ke, .int .i64 2, .int .i64 mo, .bool iv]] W fun e w' => e = .returned (.tuple #[.int .i64 u, .int .i64 0]) ∧ Gr W w'))
 (HR : Hid (∀ v W, CxsAt W v zs → Calls Tryz.prog 25 #[v, .agg #[.int .i64 fo, .int .i64 lo, .int .i64 ke, .int .i64 2, .int .i64 mo, .bool iv]] W fun e w' => ∃ vx vs, e = .returned (.tuple #[.agg #[vx, .int .i64 e1, .bool s1, vs], .int .i64 0]) ∧ CxsAt w' vx Y ∧ NumsAt w' vs sh ∧ Gr W w'))
 (HL : Hid (∀ zp zc W, NumsAt W (.slice zp sh.length zc) sh → Calls Tryz.prog 20 #[.agg #[.int .i64 fo, .int .i64 lo, .int .i64 ke, .int .i64 2, .int .i64 mo, .bool iv], .slice zp sh.length zc] W fun e w' => e = .returned (.tuple #[.int .i64 l, .int .i64 0]) ∧ Gr W w')) (AL : CR 12 #[] (.bool true)) (w : World) (hx : NumsAt w (.slice p m1 cap1) xs) :
 Calls Tryz.prog 6 #[.slice p l1 cap1, .agg #[.int .i64 fo, .int .i64 lo, .int .i64 ke, .int .i64 2, .int .i64 mo, .bool iv]] w fun e w' => e = .returned (.bool true) ∧ Gr w w' := by
 obtain ⟨nb, no, nc, hsl, _, hnb, hnc⟩ := hx.at (by intro e; rw [e] at hl1; simp at hl1; omega)
 rw [hl1] at hsl
 cases hsl
 have hcut1 := run_cut_int (some ⟨nb, no, none⟩) l1 cap1 m1 hm1
 have VX := Lib.hid hx
 have HNC := Lib.hid hnc
 clear hx hnc
 go_enter Tryz.func6, Tryz.ntmps6
 go_wp2_with fail
 obtain ⟨u0, hU⟩ : ∃ uu, uu = (w.alloc (.cells #[.int .i64 fo, .int .i64 lo, .int .i64 ke, .int .i64 2, .int .i64 mo, .bool iv] 24)) := ⟨_, rfl⟩
 have ⟨gu, R0⟩ := lay1 hU
 rw [← hU]
 clear hU
 have lp := R0.lt
 obtain ⟨cp0, cp1, cp2, cp3, cp4, cp5⟩ := R0.t6
 go_wp2_with fail
 clear cp0 cp1 cp2 cp3 cp4 cp5
 refine (HP.out _ (VX.out.gr gu)).mono ?_
 rintro e w1 ⟨vx, vs, rfl, hx1, hs1, g1⟩
 have ⟨Fp_1, lp_1⟩ := CellsAt.gl (R0) g1
 have z1 := (gu).trans g1
 clear R0 gu g1
 obtain ⟨xp, xc, rfl⟩ := hx1.len
 obtain ⟨tp, tc, rfl⟩ := hs1.len
 rw [HXL.out] at hx1 ⊢
 obtain ⟨cp0, cp1, cp2, cp3, cp4, cp5⟩ := Fp_1.t6
 go_wp2_with fail
 clear cp0 cp1 cp2 cp3 cp4 cp5
 obtain ⟨u2, hqp1⟩ : ∃ zz, zz = (w1.alloc (.cells #[.slice xp (m + 1) xc, .int .i64 e2, .bool true, .slice tp sq.length tc] 27)) := ⟨_, rfl⟩
 have Yp_p1 : CellsAt u2 (w.heap.size) 24 #[.int .i64 fo, .int .i64 lo, .int .i64 ke, .int .i64 2, .int .i64 mo, .bool iv] := by rw [hqp1]; first | exact (Fp_1).alloc _ | simpa using (Fp_1).alloc _
 have Yb_p1 : CellsAt u2 (w1.heap.size) 27 #[.slice xp (m + 1) xc, .int .i64 e2, .bool true, .slice tp sq.length tc] := by rw [hqp1]; first | exact CellsAt.new w1 27 #[.slice xp (m + 1) xc, .int .i64 e2, .bool true, .slice tp sq.length tc] | simpa using CellsAt.new w1 27 #[.slice xp (m + 1) xc, .int .i64 e2, .bool true, .slice tp sq.length tc]
 have Vx_p1 := (CxsAt.gr (hx1) ((Gr.refl w1).alloc #[.slice xp (m + 1) xc, .int .i64 e2, .bool true, .slice tp sq.length tc] 27))
 rw [← hqp1] at Vx_p1
 have yp1 : Gr w u2 := by rw [hqp1]; exact (z1).alloc _ _
 rw [← hqp1]
 clear hqp1
 refine (HK.out _ (VX.out.gr (yp1))).mono ?_
 rintro e w2 ⟨vl, rfl, hl, g2⟩
 have ⟨Fp_2, lp_2⟩ := CellsAt.gl (Yp_p1) g2
 have ⟨Fb_2, lb_2⟩ := CellsAt.gl (Yb_p1) g2
 have Kx_2 := CxsAt.gr (Vx_p1) g2
 have z2 := (yp1).trans g2
 clear Yp_p1 Yb_p1 yp1 g2
 obtain ⟨cp0, cp1, cp2, cp3, cp4, cp5⟩ := Fp_2.t6
 go_wp2_with fail
 clear cp0 cp1 cp2 cp3 cp4 cp5
 refine (HU.out _ _ hl).mono ?_
 rintro e w3 ⟨rfl, g3⟩
 have ⟨Fp_3, lp_3⟩ := CellsAt.gl (Fp_2) g3
 have ⟨Fb_3, lb_3⟩ := CellsAt.gl (Fb_2) g3
 have Kx_3 := CxsAt.gr (Kx_2) g3
 have Kl_3 := CxsAt.gr (hl) g3
 have z3 := (z2).trans g3
 clear Fp_2 Fb_2 z2 g3
 obtain ⟨cp0, cp1, cp2, cp3, cp4, cp5⟩ := Fp_3.t6
 go_wp2_with fail
 clear cp0 cp1 cp2 cp3 cp4 cp5
 refine (HR.out _ _ Kl_3).mono ?_
 rintro e w4 ⟨vy, vz, rfl, hy, hz, g4⟩
 have ⟨Fp_4, lp_4⟩ := CellsAt.gl (Fp_3) g4
 have ⟨Fb_4, lb_4⟩ := CellsAt.gl (Fb_3) g4
 have Kx_4 := CxsAt.gr (Kx_3) g4
 have Kl_4 := CxsAt.gr (Kl_3) g4
 have z4 := (z3).trans g4
 clear Fp_3 Fb_3 z3 g4
 obtain ⟨yp, yc, rfl⟩ := hy.len
 obtain ⟨zp, zc, rfl⟩ := hz.len
 obtain ⟨cp0, cp1, cp2, cp3, cp4, cp5⟩ := Fp_4.t6
 go_wp2_with fail
 clear cp0 cp1 cp2 cp3 cp4 cp5
 have hzq := hz.gr ((Gr.refl _).alloc #[.slice yp Y.length yc, .int .i64 e1, .bool s1, .slice zp sh.length zc] 27)
 obtain ⟨u4, hqp2⟩ : ∃ zz, zz = (w4.alloc (.cells #[.slice yp Y.length yc, .int .i64 e1, .bool s1, .slice zp sh.length zc] 27)) := ⟨_, rfl⟩
 have Yp_p2 : CellsAt u4 (w.heap.size) 24 #[.int .i64 fo, .int .i64 lo, .int .i64 ke, .int .i64 2, .int .i64 mo, .bool iv] := by rw [hqp2]; first | exact (Fp_4).alloc _ | simpa using (Fp_4).alloc _
 have Yb_p2 : CellsAt u4 (w1.heap.size) 27 #[.slice xp (m + 1) xc, .int .i64 e2, .bool true, .slice tp sq.length tc] := by rw [hqp2]; first | exact (Fb_4).alloc _ | simpa using (Fb_4).alloc _
 have Yc_p2 : CellsAt u4 (w4.heap.size) 27 #[.slice yp Y.length yc, .int .i64 e1, .bool s1, .slice zp sh.length zc] := by rw [hqp2]; first | exact CellsAt.new w4 27 #[.slice yp Y.length yc, .int .i64 e1, .bool s1, .slice zp sh.length zc] | simpa using CellsAt.new w4 27 #[.slice yp Y.length yc, .int .i64 e1, .bool s1, .slice zp sh.length zc]
 have Vx_p2 := (CxsAt.gr (Kx_4) ((Gr.refl w4).alloc #[.slice yp Y.length yc, .int .i64 e1, .bool s1, .slice zp sh.length zc] 27))
 rw [← hqp2] at Vx_p2
 have Vz_p2 := hzq
 rw [← hqp2] at Vz_p2
 have yp2 : Gr w u4 := by rw [hqp2]; exact (z4).alloc _ _
 rw [← hqp2]
 clear hqp2
 refine (HL.out _ _ _ Vz_p2).mono ?_
 rintro e w5 ⟨rfl, g5⟩
 have ⟨Fp_5, lp_5⟩ := CellsAt.gl (Yp_p2) g5
 have ⟨Fb_5, lb_5⟩ := CellsAt.gl (Yb_p2) g5
 have ⟨Fc_5, lc_5⟩ := CellsAt.gl (Yc_p2) g5
 have Kx_5 := CxsAt.gr (Vx_p2) g5
 have Nz_5 := NumsAt.gr (Vz_p2) g5
 have z5 := (yp2).trans g5
 clear Yp_p2 Yb_p2 Yc_p2 yp2 g5
 obtain ⟨cb0, cb1, cb2, cb3⟩ := Fb_5.t4
 obtain ⟨cp0, cp1, cp2, cp3, cp4, cp5⟩ := Fp_5.t6
 go_wp2_with fail
 clear cb0 cb1 cb2 cb3 cp0 cp1 cp2 cp3 cp4 cp5
 refine (AL.out _).mono ?_
 rintro e w6 ⟨rfl, g6⟩
 have ⟨Fp_6, lp_6⟩ := CellsAt.gl (Fp_5) g6
 have ⟨Fb_6, lb_6⟩ := CellsAt.gl (Fb_5) g6
 have Kx_6 := CxsAt.gr (Kx_5) g6
 have z6 := (z5).trans g6
 clear Fp_5 Fb_5 z5 g6
 obtain ⟨cb0, cb1, cb2, cb3⟩ := Fb_6.t4
 go_wp2_with fail
 clear cb0 cb1 cb2 cb3
 go_ret
 exact ⟨by first | rfl | (simp; done), z6⟩
set_option maxHeartbeats 16000000 in
theorem near18_yes (p : Option Addr) (l1 cap1 m1 : Nat) (fo lo ke sc mo : Int) (iv : Bool) (xs : List Int) (hm1 : m1 ≤ cap1) (hmin1 : (if (140 : Int) < (l1 : Int) then 140 else (l1 : Int)) = (m1 : Int)) (hl1 : xs.length = m1) (h1p : 0 < m1) (h140 : m1 ≤ 140) (X Y zs : List Gi) (m : Nat) (e1 e2 u l : Int) (s1 : Bool) (sh sq : List Int) (bs : List Gi) (P : Nat) (s P8 P2 LK r : Int)
 (HXL : Hid (X.length = m + 1)) (HP : Hid (∀ W, NumsAt W (.slice p m1 cap1) xs → Calls Tryz.prog 7 #[.slice p m1 cap1, .agg #[.int .i64 fo, .int .i64 lo, .int .i64 ke, .int .i64 sc, .int .i64 mo, .bool iv]] W fun e w' => ∃ vx vs, e = .returned (.tuple #[.agg #[vx, .int .i64 e2, .bool false, vs], .int .i64 0]) ∧ CxsAt w' vx X ∧ NumsAt w' vs sq ∧ Gr W w'))
 (HK : Hid (∀ W, NumsAt W (.slice p m1 cap1) xs → Calls Tryz.prog 8 #[.slice p m1 cap1] W fun e w' => ∃ u, e = .returned (.tuple #[u, .int .i64 0]) ∧ CxsAt w' u zs ∧ Gr W w'))
 (HU : Hid (∀ v W, CxsAt W v zs → Calls Tryz.prog 24 #[v, .agg #[.int .i64 fo, .int .i64 lo, .int .i64 ke, .int .i64 sc, .int .i64 mo, .bool iv]] W fun e w' => e = .returned (.tuple #[.int .i64 u, .int .i64 0]) ∧ Gr W w'))
 (HR : Hid (∀ v W, CxsAt W v zs → Calls Tryz.prog 25 #[v, .agg #[.int .i64 fo, .int .i64 lo, .int .i64 ke, .int .i64 sc, .int .i64 mo, .bool iv]] W fun e w' => ∃ vx vs, e = .returned (.tuple #[.agg #[vx, .int .i64 e1, .bool s1, vs], .int .i64 0]) ∧ CxsAt w' vx Y ∧ NumsAt w' vs sh ∧ Gr W w'))
 (HL : Hid (∀ zp zc W, NumsAt W (.slice zp sh.length zc) sh → Calls Tryz.prog 20 #[.agg #[.int .i64 fo, .int .i64 lo, .int .i64 ke, .int .i64 sc, .int .i64 mo, .bool iv], .slice zp sh.length zc] W fun e w' => e = .returned (.tuple #[.int .i64 l, .int .i64 0]) ∧ Gr W w'))
 (F : Int → Gi) (HSH : Hid (∀ x ∈ xs, (∀ W, (Op.shift .shl .i64 x .i64 u).run Tryz.prog W = .ok (.int .i64 (F x).re) W) ∧ (F x).im = 0))
 (HA : Hid (∀ v W, CxsAt W v (xs.map F) → Calls Tryz.prog 26 #[v, .bool false] W fun e w' => ∃ q, e = .returned (.tuple #[q, .int .i64 0]) ∧ CxsAt w' q bs ∧ Gr W w'))
 (HS : Hid (∀ v W, CxsAt W v (xs.map F) → Calls Tryz.prog 27 #[v] W fun e w' => e = .returned (.tuple #[.int .i64 s, .int .i64 0]) ∧ Gr W w'))
 (hbl : bs.length = m1) (HQ : Hid (((m1 : Int) / 2 = (m : Int) ∧ m < m1) ∧ IntKind.i64.wrap (e2 + u) = (P : Int) ∧ P ≤ 20)) (HLK : Hid (IntKind.i64.wrap ((P : Int) + 8) = P8 ∧ IntKind.i64.wrap ((P : Int) + 2) = P2 ∧ (∀ W, (Op.shift .shl .i64 l .i64 P2).run Tryz.prog W = .ok (.int .i64 LK) W) ∧ IntKind.i64.wrap (LK + s) = r))
 (HD : Hid (∀ (k : Nat) (a b : Gi), X[k]? = some a → bs[k]? = some b → ∃ A A2 d d2 c c2 n : Int, (∀ W, (Op.shift .shl .i64 a.re .i64 P8).run Tryz.prog W = .ok (.int .i64 A) W) ∧ (∀ W, (Op.shift .shl .i64 a.im .i64 P8).run Tryz.prog W = .ok (.int .i64 A2) W) ∧ IntKind.i64.wrap (A - b.re) = d ∧ IntKind.i64.wrap (A2 - b.im) = c ∧ IntKind.i64.wrap (-d) = d2 ∧ IntKind.i64.wrap (-c) = c2 ∧ (if c2 > (if c > (if d2 > d then d2 else d) then c else (if d2 > d then d2 else d)) then c2 else (if c > (if d2 > d then d2 else d) then c else (if d2 > d then d2 else d))) = n ∧ ¬ r < n)) (AL : CR 12 #[] (.bool true)) (w : World) (hx : NumsAt w (.slice p m1 cap1) xs) :
 Calls Tryz.prog 6 #[.slice p l1 cap1, .agg #[.int .i64 fo, .int .i64 lo, .int .i64 ke, .int .i64 sc, .int .i64 mo, .bool iv]] w fun e w' => e = .returned (.bool true) ∧ Gr w w' := by
 obtain ⟨i0, hi, hz0, hz1, hz2⟩ := info_parts info_cx
 obtain ⟨nb, no, nc, hsl, _, hnb, hnc⟩ := hx.at (by intro e; rw [e] at hl1; simp at hl1; omega)
 rw [hl1] at hsl
 cases hsl
 have hcut1 := run_cut_int (some ⟨nb, no, none⟩) l1 cap1 m1 hm1
 have VX := Lib.hid hx
 have HNC := Lib.hid hnc
 clear hx hnc
 go_enter Tryz.func6, Tryz.ntmps6
 go_wp2_with fail
 obtain ⟨u0, hU⟩ : ∃ uu, uu = (w.alloc (.cells #[.int .i64 fo, .int .i64 lo, .int .i64 ke, .int .i64 sc, .int .i64 mo, .bool iv] 24)) := ⟨_, rfl⟩
 have ⟨gu, R0⟩ := lay1 hU
 rw [← hU]
 clear hU
 have lp := R0.lt
 obtain ⟨cp0, cp1, cp2, cp3, cp4, cp5⟩ := R0.t6
 go_wp2_with fail
 clear cp0 cp1 cp2 cp3 cp4 cp5
 refine (HP.out _ (VX.out.gr gu)).mono ?_
 rintro e w1 ⟨vx, vs, rfl, hx1, hs1, g1⟩
 have ⟨Fp_1, lp_1⟩ := CellsAt.gl (R0) g1
 have z1 := (gu).trans g1
 clear R0 gu g1
 obtain ⟨xp, xc, rfl⟩ := hx1.len
 obtain ⟨tp, tc, rfl⟩ := hs1.len
 rw [HXL.out] at hx1 ⊢
 obtain ⟨cp0, cp1, cp2, cp3, cp4, cp5⟩ := Fp_1.t6
 go_wp2_with fail
 clear cp0 cp1 cp2 cp3 cp4 cp5
 obtain ⟨u2, hqp1⟩ : ∃ zz, zz = (w1.alloc (.cells #[.slice xp (m + 1) xc, .int .i64 e2, .bool false, .slice tp sq.length tc] 27)) := ⟨_, rfl⟩
 have Yp_p1 : CellsAt u2 (w.heap.size) 24 #[.int .i64 fo, .int .i64 lo, .int .i64 ke, .int .i64 sc, .int .i64 mo, .bool iv] := by rw [hqp1]; first | exact (Fp_1).alloc _ | simpa using (Fp_1).alloc _
 have Yb_p1 : CellsAt u2 (w1.heap.size) 27 #[.slice xp (m + 1) xc, .int .i64 e2, .bool false, .slice tp sq.length tc] := by rw [hqp1]; first | exact CellsAt.new w1 27 #[.slice xp (m + 1) xc, .int .i64 e2, .bool false, .slice tp sq.length tc] | simpa using CellsAt.new w1 27 #[.slice xp (m + 1) xc, .int .i64 e2, .bool false, .slice tp sq.length tc]
 have Vx_p1 := (CxsAt.gr (hx1) ((Gr.refl w1).alloc #[.slice xp (m + 1) xc, .int .i64 e2, .bool false, .slice tp sq.length tc] 27))
 rw [← hqp1] at Vx_p1
 have yp1 : Gr w u2 := by rw [hqp1]; exact (z1).alloc _ _
 rw [← hqp1]
 clear hqp1
 refine (HK.out _ (VX.out.gr (yp1))).mono ?_
 rintro e w2 ⟨vl, rfl, hl, g2⟩
 have ⟨Fp_2, lp_2⟩ := CellsAt.gl (Yp_p1) g2
 have ⟨Fb_2, lb_2⟩ := CellsAt.gl (Yb_p1) g2
 have Kx_2 := CxsAt.gr (Vx_p1) g2
 have z2 := (yp1).trans g2
 clear Yp_p1 Yb_p1 yp1 g2
 obtain ⟨cp0, cp1, cp2, cp3, cp4, cp5⟩ := Fp_2.t6
 go_wp2_with fail
 clear cp0 cp1 cp2 cp3 cp4 cp5
 refine (HU.out _ _ hl).mono ?_
 rintro e w3 ⟨rfl, g3⟩
 have ⟨Fp_3, lp_3⟩ := CellsAt.gl (Fp_2) g3
 have ⟨Fb_3, lb_3⟩ := CellsAt.gl (Fb_2) g3
 have Kx_3 := CxsAt.gr (Kx_2) g3
 have Kl_3 := CxsAt.gr (hl) g3
 have z3 := (z2).trans g3
 clear Fp_2 Fb_2 z2 g3
 obtain ⟨cp0, cp1, cp2, cp3, cp4, cp5⟩ := Fp_3.t6
 go_wp2_with fail
 clear cp0 cp1 cp2 cp3 cp4 cp5
 refine (HR.out _ _ Kl_3).mono ?_
 rintro e w4 ⟨vy, vz, rfl, hy, hz, g4⟩
 have ⟨Fp_4, lp_4⟩ := CellsAt.gl (Fp_3) g4
 have ⟨Fb_4, lb_4⟩ := CellsAt.gl (Fb_3) g4
 have Kx_4 := CxsAt.gr (Kx_3) g4
 have Kl_4 := CxsAt.gr (Kl_3) g4
 have z4 := (z3).trans g4
 clear Fp_3 Fb_3 z3 g4
 obtain ⟨yp, yc, rfl⟩ := hy.len
 obtain ⟨zp, zc, rfl⟩ := hz.len
 obtain ⟨cp0, cp1, cp2, cp3, cp4, cp5⟩ := Fp_4.t6
 go_wp2_with fail
 clear cp0 cp1 cp2 cp3 cp4 cp5
 have hzq := hz.gr ((Gr.refl _).alloc #[.slice yp Y.length yc, .int .i64 e1, .bool s1, .slice zp sh.length zc] 27)
 obtain ⟨u4, hqp2⟩ : ∃ zz, zz = (w4.alloc (.cells #[.slice yp Y.length yc, .int .i64 e1, .bool s1, .slice zp sh.length zc] 27)) := ⟨_, rfl⟩
 have Yp_p2 : CellsAt u4 (w.heap.size) 24 #[.int .i64 fo, .int .i64 lo, .int .i64 ke, .int .i64 sc, .int .i64 mo, .bool iv] := by rw [hqp2]; first | exact (Fp_4).alloc _ | simpa using (Fp_4).alloc _
 have Yb_p2 : CellsAt u4 (w1.heap.size) 27 #[.slice xp (m + 1) xc, .int .i64 e2, .bool false, .slice tp sq.length tc] := by rw [hqp2]; first | exact (Fb_4).alloc _ | simpa using (Fb_4).alloc _
 have Yc_p2 : CellsAt u4 (w4.heap.size) 27 #[.slice yp Y.length yc, .int .i64 e1, .bool s1, .slice zp sh.length zc] := by rw [hqp2]; first | exact CellsAt.new w4 27 #[.slice yp Y.length yc, .int .i64 e1, .bool s1, .slice zp sh.length zc] | simpa using CellsAt.new w4 27 #[.slice yp Y.length yc, .int .i64 e1, .bool s1, .slice zp sh.length zc]
 have Vx_p2 := (CxsAt.gr (Kx_4) ((Gr.refl w4).alloc #[.slice yp Y.length yc, .int .i64 e1, .bool s1, .slice zp sh.length zc] 27))
 rw [← hqp2] at Vx_p2
 have Vz_p2 := hzq
 rw [← hqp2] at Vz_p2
 have yp2 : Gr w u4 := by rw [hqp2]; exact (z4).alloc _ _
 rw [← hqp2]
 clear hqp2
 refine (HL.out _ _ _ Vz_p2).mono ?_
 rintro e w5 ⟨rfl, g5⟩
 have ⟨Fp_5, lp_5⟩ := CellsAt.gl (Yp_p2) g5
 have ⟨Fb_5, lb_5⟩ := CellsAt.gl (Yb_p2) g5
 have ⟨Fc_5, lc_5⟩ := CellsAt.gl (Yc_p2) g5
 have Kx_5 := CxsAt.gr (Vx_p2) g5
 have Nz_5 := NumsAt.gr (Vz_p2) g5
 have z5 := (yp2).trans g5
 clear Yp_p2 Yb_p2 Yc_p2 yp2 g5
 obtain ⟨cb0, cb1, cb2, cb3⟩ := Fb_5.t4
 obtain ⟨cp0, cp1, cp2, cp3, cp4, cp5⟩ := Fp_5.t6
 go_wp2_with fail
 clear cb0 cb1 cb2 cb3 cp0 cp1 cp2 cp3 cp4 cp5
 refine (AL.out _).mono ?_
 rintro e w6 ⟨rfl, g6⟩
 have ⟨Fp_6, lp_6⟩ := CellsAt.gl (Fp_5) g6
 have ⟨Fb_6, lb_6⟩ := CellsAt.gl (Fb_5) g6
 have Kx_6 := CxsAt.gr (Kx_5) g6
 have z6 := (z5).trans g6
 clear Fp_5 Fb_5 z5 g6
 obtain ⟨cb0, cb1, cb2, cb3⟩ := Fb_6.t4
 go_wp2_with fail
 clear cb0 cb1 cb2 cb3
 have hs0 := World.ownsRow_nil w6 w6.heap.size 50 2
 have hm140 : (m1 : Int) ≤ 140 := by omega
 go_loopw [15, 102] (fun v i wr => ∃ j : Nat, j ≤ m1 ∧ i = .int .i64 j ∧ wr.ownsRow w6.heap.size 50 2 v j (gcells ((xs.map F).take j)) ∧ Gr w6 wr) (fun _ i _ => m1 - (intOf i).toNat)
 case atStart => exact ⟨0, by omega, rfl, hs0, Gr.refl _⟩
 case round =>
  clear hs0
  obtain ⟨j, hj, rfl, hrow, hg1⟩ := hrel
  have hga := (z6).trans hg1
  by_cases hlt : j < m1
  ·have hjI : (j : Int) < (m1 : Int) := by omega
   obtain ⟨x, hxj⟩ := get_of_lt (xs := xs) (show j < xs.length by omega)
   have cj := (hga.cell (p := ⟨nb, no + j, none⟩) hnb).trans (HNC.out j x hxj)
   have hnw : nb < wr.heap.size := Nat.lt_of_lt_of_le hnb hga.size
   obtain ⟨hsr, hsi⟩ := HSH.out x (List.mem_of_getElem? hxj)
   have HTK := Lib.hid (show (xs.map F).take (j + 1) = (xs.map F).take j ++ [F x] from take_snoc (by rw [List.getElem?_map, hxj]; rfl))
   clear hxj
   generalize F x = f at *
   obtain ⟨fr, fi⟩ := f
   simp only at hsr hsi
   subst hsi
   have hsz := hg1.size
   go_wp2_with (at_builtin; refine wpList_append_own_at _ rfl (.tmp 106) (.tmp 111) 25 rfl w6.heap.size 50 i0 (.agg #[.int .i64 0, .int .i64 0]) 2 16 Tryz.underlying25 hi hz0 hz1 hz2 rfl (by decide) _ _ _ rfl (hrow.alloc _) ⟨wr.heap.size, 0, none⟩ 1 1 [.int .i64 fr, .int .i64 0] rfl rfl (news_two _ _ _ _) (by simp [Value.oneCell']) (by unfold maxLen; omega) (by omega) (by simp; omega) ?_; intro v' w3 hown' hgrow _ hblk)
   have e : gcells ((xs.map F).take j) ++ [.int .i64 fr, .int .i64 0] = gcells ((xs.map F).take (j + 1)) := by
    rw [HTK.out, gcells_snoc]
   rw [e] at hown'
   have hg3 := (hg1.allocO _).grown hgrow (fun k e => (hrow.lt k e).1)
   go_roundw
   case rel => exact ⟨j + 1, by omega, by go_num, hown', hg3⟩
   case measure => simp [intOf]; omega
  ·obtain rfl : m1 = j := by omega
   have hjI : ¬ (m1 : Int) < (m1 : Int) := by omega
   have KN := CxsAt.of_row hrow
   rw [List.take_of_length_le (by simp; omega)] at KN
   have BV0 := CellsAt.gr Fb_6 hg1
   have KX0 := CxsAt.gr Kx_6 hg1
   clear hg1 hrow
   have lb := CellsAt.lt BV0
   go_wp2_with fail
   refine (HA.out _ _ KN).mono ?_
   rintro e wb1 ⟨vq, rfl, hq, gb1⟩
   have ⟨Fb_b1, lb_b1⟩ := CellsAt.gl (BV0) gb1
   have Kx_b1 := CxsAt.gr (KX0) gb1
   have Kn_b1 := CxsAt.gr (KN) gb1
   have zb1 := (hga).trans gb1
   clear BV0 hga gb1
   obtain ⟨qb, qo, qc, hsl, _, hqb, hqc⟩ := hq.at (by intro e; rw [e] at hbl; simp at hbl; omega)
   rw [hbl] at hsl
   cases hsl
   clear hqb hqc
   go_wp2_with fail
   refine (HS.out _ _ Kn_b1).mono ?_
   rintro e wb2 ⟨rfl, gb2⟩
   have ⟨Fb_b2, lb_b2⟩ := CellsAt.gl (Fb_b1) gb2
   have Kx_b2 := CxsAt.gr (Kx_b1) gb2
   have Kn_b2 := CxsAt.gr (Kn_b1) gb2
   have Kq_b2 := CxsAt.gr (hq) gb2
   have zb2 := (zb1).trans gb2
   clear Fb_b1 zb1 gb2
   obtain ⟨⟨f1, f2⟩, f3, f4⟩ := HQ.out
   have f5 : (P : Int) ≤ 20 := by omega
   have f6 : ¬ (20 : Int) < (P : Int) := by omega
   obtain ⟨cb0, cb1, cb2, cb3⟩ := Fb_b2.t4
   go_wp2_with fail
   clear cb0 cb1 cb2 cb3
   clear f1 f2 f3 f4 f5 f6
   obtain ⟨xb, xo, xc2, hsl, _, hxb, hxc⟩ := (Kx_b2).at (by intro e; have h1 := HXL.out; rw [e] at h1; simp at h1)
   rw [HXL.out] at hsl
   cases hsl
   obtain ⟨qb2, qo2, qc2, hsl, _, hqb, hqc⟩ := (Kq_b2).at (by intro e; rw [e] at hbl; simp at hbl; omega)
   rw [hbl] at hsl
   cases hsl
   have hm70 : (m : Int) ≤ 140 := by have := HQ.out.1.2; omega
   obtain ⟨wl, hwl⟩ : ∃ zz, zz = wb2 := ⟨_, rfl⟩
   rw [← hwl] at hxb hxc hqb hqc
   have hgl : Gr w wl := by rw [hwl]; exact zb2
   rw [← hwl]
   clear hwl
   have HXC := Lib.hid hxc
   have HQC := Lib.hid hqc
   clear hxc hqc
   go_loopw [162] (fun i wv => ∃ k : Nat, k ≤ m + 1 ∧ i = .int .i64 k ∧ Gr wl wv) (fun i _ => m + 1 - (intOf i).toNat)
   case atStart => exact ⟨0, by omega, rfl, Gr.refl _⟩
   case round =>
    obtain ⟨k, hk, rfl, hg2⟩ := hrel
    by_cases hlt : k < m + 1
    ·have hkI : (k : Int) < (m : Int) + 1 := by omega
     have hkm : k < m1 := by have := HQ.out.1.2; omega
     have hkM : (k : Int) < (m1 : Int) := by omega
     obtain ⟨a, ha⟩ := get_of_lt (xs := X) (show k < X.length by rw [HXL.out]; exact hlt)
     obtain ⟨y, hy⟩ := get_of_lt (xs := bs) (show k < bs.length by omega)
     obtain ⟨A, A2, d, d2, c, c2, n, t1, t2, t3, t4, t5, t6, hn, t7⟩ := HD.out k a y ha hy
     obtain ⟨v1, v2, v3, v4⟩ := HLK.out
     have a1 := (hg2.cell (p := ⟨xb, xo + k * 2, none⟩) hxb).trans (HXC.out k a ha).1
     have a2 := (hg2.cell (p := ⟨xb, xo + k * 2 + 1, none⟩) hxb).trans (HXC.out k a ha).2
     have q1 := (HQC.out k y hy).1
     have q2 := (HQC.out k y hy).2
     have hql := hqb
     have hxv : xb < wr.heap.size := Nat.lt_of_lt_of_le hxb hg2.size
     clear ha hy HD
     obtain ⟨re, im⟩ := a
     simp only at a1 a2 t1 t2
     go_wp2_with fail
     obtain ⟨va, hqdp1⟩ : ∃ zz, zz = (wr.alloc (.cells #[.int .i64 re, .int .i64 im] 50)) := ⟨_, rfl⟩
     have Ya_dp1 : CellsAt va (wr.heap.size) 50 #[.int .i64 re, .int .i64 im] := by rw [hqdp1]; first | exact CellsAt.new wr 50 #[.int .i64 re, .int .i64 im] | simpa using CellsAt.new wr 50 #[.int .i64 re, .int .i64 im]
     have ydp1 : Gr wl va := by rw [hqdp1]; exact (hg2).alloc _ _
     rw [← hqdp1]
     clear hqdp1
     have hqv : qb < va.heap.size := Nat.lt_of_lt_of_le hql ((ydp1).size)
     have KS : ∀ W, Gr va W → (W.cell? ⟨wr.heap.size, 0, none⟩ = some (.int .i64 re) ∧ W.cell? ⟨wr.heap.size, 1, none⟩ = some (.int .i64 im) ∧ W.cell? ⟨qb, qo + k * 2, none⟩ = some (.int .i64 y.re) ∧ W.cell? ⟨qb, qo + k * 2 + 1, none⟩ = some (.int .i64 y.im)) := fun W hG => ⟨(CellsAt.gr Ya_dp1 hG).cell 0, (CellsAt.gr Ya_dp1 hG).cell 1, (((ydp1).trans hG).cell (p := ⟨qb, qo + k * 2, none⟩) hql).trans q1, (((ydp1).trans hG).cell (p := ⟨qb, qo + k * 2 + 1, none⟩) hql).trans q2⟩
     have hclG := gr_closed va
     try simp only [List.append_eq, List.cons_append, List.nil_append]
     refine wp_region_grow (S := Gr va) rfl (Gr.drew (Gr.refl _)) ?_
     refine gT 0 hclG ?_
     refine gK 1 hclG KS ?_
     refine gT 2 hclG ?_
     refine gT 3 hclG ?_
     refine gT 4 hclG ?_
     refine gT 5 hclG ?_
     refine gT 6 hclG ?_
     refine gT 7 hclG ?_
     refine gT 8 hclG ?_
     refine gK 9 hclG KS ?_
     refine gT 10 hclG ?_
     refine gT 11 hclG ?_
     refine gK 12 hclG KS ?_
     refine gT 13 hclG ?_
     refine gT 14 hclG ?_
     refine gT 15 hclG ?_
     refine gT 16 hclG ?_
     refine gT 17 hclG ?_
     refine gT 18 hclG ?_
     refine gT 19 hclG ?_
     refine gK 20 hclG KS ?_
     refine gT 21 hclG ?_
     refine gT 22 hclG ?_
     refine gT 23 hclG ?_
     refine wpG_done (by kernel_rfl) (fun wd1 gd1 => ?_) _
     replace gd1 := (Gr.drew (Gr.refl va)).trans gd1
     have ⟨Fa_d1, la_d1⟩ := CellsAt.gl (Ya_dp1) gd1
     have zd1 := (ydp1).trans gd1
     clear Ya_dp1 ydp1 gd1
     clear hclG KS
     have hmx := fun ts t => run_max4 ts t d d2 c c2 n hn
     go_wp2_with fail
     go_roundw
     case rel => exact ⟨k + 1, by omega, by go_num, zd1⟩
     case measure => simp [intOf]; omega
    ·obtain rfl : k = m + 1 := by omega
     have hkI : ¬ ((m : Int) + 1) < (m : Int) + 1 := by omega
     go_wp2_with fail
     go_ret
     exact ⟨rfl, hgl.trans hg2⟩
theorem untV_clean {fo lo sc mo : Int} {k : BV} (h : (untV fo lo sc mo k).sat = false) : k.sat = false ∧ (untV fo lo sc mo k).X = untL (bitB fo) mo k.X (tw (2 * 2 ^ lo.toNat) (bitB fo)) := by
 unfold untV untB at *
 simp only at *
 split at h
 ·rename_i h2
  rw [Bool.or_eq_false_iff] at h
  rw [if_pos h2]
  exact ⟨h.1, any_off.1 h.2⟩
 ·rename_i h2
  rw [if_neg h2]
  exact ⟨h, rfl⟩
theorem untV_plain {fo lo sc mo : Int} {k : BV} (h2 : sc ≠ 2) : (untV fo lo sc mo k).sat = k.sat := by
 unfold untV untB
 simp only
 rw [if_neg h2]
theorem runF_sat {fo lo ke sc mo : Int} {iv : Bool} {xs : List Gi} (hs : sc ≠ 2) : (runF fo lo ke sc mo iv xs).sat = false := by
 unfold runF runB15
 split
 ·rfl
 ·exact behind_sat hs iv _ _ _
theorem pow_bd (P k : Nat) (h : P ≤ k) : (0 : Int) < 2 ^ P ∧ (2 : Int) ^ P ≤ 2 ^ k := by
 refine ⟨Int.pow_pos (by decide), ?_⟩
 have := Nat.pow_le_pow_right (n := 2) (by decide) h
 have e : ∀ j : Nat, ((2 ^ j : Nat) : Int) = 2 ^ j := fun j => by simp
 rw [← e, ← e]
 exact Int.ofNat_le.2 this
theorem realU_in {fo lo ke sc mo : Int} {iv : Bool} {rs : List Int} (h0 : whyR fo lo ke sc mo iv rs = 0) : ∀ x ∈ rs, -2147483648 ≤ x * 2 ^ (upU fo sc (packG rs)).toNat ∧ x * 2 ^ (upU fo sc (packG rs)).toNat ≤ 2147483648 := by
 obtain ⟨⟨h1, h5, hiv⟩, hl, hw⟩ := whyR_yes h0
 obtain ⟨_, w2, w3⟩ := why_yes hw
 have H := plF_of h1
 have hm := up_man H (manB_iff.1 w3)
 have hp2 : oneB fo ≤ 2147483648 := by rcases H.sizes with h | h <;> omega
 have hu := (upU_bd fo sc (packG rs)).1
 intro x hx
 obtain ⟨j, hj⟩ := List.mem_iff_getElem?.1 hx
 have hjl := (List.getElem?_eq_some_iff.1 hj).1
 have hg := up_pack H rs (upU fo sc (packG rs)).toNat (by show upU fo sc (packG rs) = _; omega) (j / 2) (by omega)
 have hmem := hm _ (getD_mem (upX sc (oneB fo) mo (packG rs)) (j / 2) (by rw [upX_len, packG_len]; omega))
 rw [hg] at hmem
 simp only at hmem
 have hd : rs.getD j 0 = x := by rw [List.getD_eq_getElem?_getD, hj]; rfl
 by_cases e : j % 2 = 0
 ·rw [show 2 * (j / 2) = j by omega, hd] at hmem
  omega
 ·rw [show 2 * (j / 2) + 1 = j by omega, hd] at hmem
  omega
theorem realG_in {fo lo ke sc mo : Int} {iv : Bool} {rs : List Int} (h0 : whyR fo lo ke sc mo iv rs = 0) : allIn 2147483648 (realG rs (upU fo sc (packG rs)).toNat) = true := by
 rw [allIn_parts]
 intro a ha
 unfold realG at ha
 obtain ⟨x, hx, rfl⟩ := List.mem_map.1 ha
 have := realU_in h0 x hx
 simp only
 omega
theorem binV_near {fo lo ke sc mo : Int} {iv : Bool} {rs : List Int} (h0 : whyR fo lo ke sc mo iv rs = 0) (hs : (binV fo lo ke sc mo rs).sat = false) (P : Nat) (hP : (runF fo lo ke sc mo false (packG rs)).ex + upU fo sc (packG rs) + 1 = P) (k : Nat) (a b : Gi) (ha : (binV fo lo ke sc mo rs).X[k]? = some a) (hb : (binsG rs.length (realG rs (upU fo sc (packG rs)).toNat) false)[k]? = some b) :
 (-((ofB sc ke lo (runF fo lo ke sc mo false (packG rs)).sh + 256) * 2 ^ (P + 2)) ≤ a.re * 2 ^ (P + 8) - b.re ∧ a.re * 2 ^ (P + 8) - b.re ≤ (ofB sc ke lo (runF fo lo ke sc mo false (packG rs)).sh + 256) * 2 ^ (P + 2)) ∧ (-((ofB sc ke lo (runF fo lo ke sc mo false (packG rs)).sh + 256) * 2 ^ (P + 2)) ≤ a.im * 2 ^ (P + 8) - b.im ∧ a.im * 2 ^ (P + 8) - b.im ≤ (ofB sc ke lo (runF fo lo ke sc mo false (packG rs)).sh + 256) * 2 ^ (P + 2)) := by
 obtain ⟨⟨h1, h5, hiv⟩, hl, hw⟩ := whyR_yes h0
 obtain ⟨r1, r2, _, _, r6⟩ := runF_facts (iv := false) hw
 obtain ⟨_, w2, w3⟩ := why_yes hw
 have H := plF_of h1
 have hk := okF_iff.1 h1
 obtain ⟨c1, c2⟩ := untV_clean (k := (runF fo lo ke sc mo false (packG rs))) hs
 have hu := (upU_bd fo sc (packG rs)).1
 have hpw := run_pow5 H (by omega) false (packG rs)
 have hpw2 : 0 ≤ (runF fo lo ke sc mo false (packG rs)).ex + upU fo sc (packG rs) := hpw.1
 have hob := of_bd (by omega) (by omega) (by omega) (by omega) r6
 have hxk : k < 2 ^ lo.toNat + 1 := by
  have := (List.getElem?_eq_some_iff.1 ha).1
  rwa [show (binV fo lo ke sc mo rs).X.length = 2 ^ lo.toNat + 1 by unfold binV; rw [untV_len, r1]] at this
 have hbk := (List.getElem?_eq_some_iff.1 hb).1
 rw [binsG_len] at hbk
 have ha' : a = untAt (bitB fo) mo (runF fo lo ke sc mo false (packG rs)).X (tw (2 * 2 ^ lo.toNat) (bitB fo)) k := by
  rw [show (binV fo lo ke sc mo rs).X = _ from c2] at ha
  unfold untL at ha
  rw [List.getElem?_map, List.getElem?_range (by rw [r1]; exact hxk)] at ha
  exact (Option.some.inj ha).symm
 have hb' : b = binG (2 * 2 ^ lo.toNat) (realG rs (upU fo sc (packG rs)).toNat) false k := by
  unfold binsG at hb
  rw [List.getElem?_map, List.getElem?_range hbk, hl] at hb
  exact (Option.some.inj hb).symm
 have hn := real_near H (by omega) rs hl (manB_iff.1 w3) c1 hob.1 hob.2 (upU fo sc (packG rs)).toNat ((runF fo lo ke sc mo false (packG rs)).ex + upU fo sc (packG rs)).toNat (by show upU fo sc (packG rs) = _; omega) (by show (runF fo lo ke sc mo false (packG rs)).ex + _ = _; omega) k (by omega)
 rw [show ((runF fo lo ke sc mo false (packG rs)).ex + upU fo sc (packG rs)).toNat + 1 = P by omega] at hn
 have hf := near_far (by have := hob.1; show 0 ≤ ofB sc ke lo (runF fo lo ke sc mo false (packG rs)).sh + 256; omega) hn
 rw [ha', hb']
 exact hf
theorem realNear_all (p : Option Addr) (l1 cap1 m1 : Nat) (fo lo ke sc mo : Int) (iv : Bool) (xs : List Int) (hxl : xs.length = m1) (h140 : m1 ≤ 140) (hm1 : m1 ≤ cap1) (hmin1 : (if (140 : Int) < (l1 : Int) then 140 else (l1 : Int)) = (m1 : Int)) (w : World) (hx : NumsAt w (.slice p m1 cap1) xs) :
 Calls Tryz.prog 6 #[.slice p l1 cap1, .agg #[.int .i64 fo, .int .i64 lo, .int .i64 ke, .int .i64 sc, .int .i64 mo, .bool iv]] w fun e w' => e = .returned (.bool true) ∧ Gr w w' := by
 have HA := Lib.hid alive18_c
 by_cases h0 : whyR fo lo ke sc mo iv xs = 0
 ·obtain ⟨⟨k1, k5, kiv⟩, kl, hw⟩ := whyR_yes h0
  have hk : okR fo lo ke sc mo iv = true := okR_iff.2 ⟨k1, k5, kiv⟩
  have hf := okF_iff.1 k1
  have H := plF_of k1
  obtain ⟨m, f1, ⟨f2, f3⟩, f4, _, _, fM, _, _⟩ := binV_ends h0
  have hm2 : m = 2 ^ lo.toNat := by omega
  obtain ⟨r1, r2, ⟨r3, r4⟩, r5, r6⟩ := runF_facts (iv := false) hw
  have hob := of_bd (by omega) (by omega) (by omega) (by omega) r6
  have hu := upU_bd fo sc (packG xs)
  have hpw : 0 ≤ (runF fo lo ke sc mo false (packG xs)).ex + upU fo sc (packG xs) ∧ (runF fo lo ke sc mo false (packG xs)).ex + upU fo sc (packG xs) ≤ 19 := run_pow5 H (by omega) false (packG xs)
  have hL : IsLog ((m1 / 2 : Nat) : Int) lo.toNat := ⟨by omega, by omega, by rw [show m1 / 2 = 2 ^ lo.toNat by omega]⟩
  have hL2 : IsLog ((m1 : Nat) : Int) (lo.toNat + 1) := ⟨by omega, by omega, by rw [show m1 = 2 ^ (lo.toNat + 1) by rw [Nat.pow_succ]; omega]⟩
  have HB := Lib.hid fun W h => realBins_yes fo lo ke sc mo iv p m1 cap1 xs hxl h0 W h
  have HK := Lib.hid fun W h => realPack_yes p m1 cap1 (by omega) (by omega) _ hL xs hxl W h
  have HU : Hid (∀ v W, CxsAt W v (packG xs) → Calls Tryz.prog 24 #[v, .agg #[.int .i64 fo, .int .i64 lo, .int .i64 ke, .int .i64 sc, .int .i64 mo, .bool iv]] W fun e w' => e = .returned (.tuple #[.int .i64 (upU fo sc (packG xs)), .int .i64 0]) ∧ Gr W w') := Lib.hid fun v W h => by
   have := nearUp_c fo lo ke sc mo iv v (packG xs) W h
   rw [hw, if_pos rfl] at this
   exact this
  have HLS := Lib.hid fun zp zc W h => realLoss_ok fo lo ke sc mo iv zp _ zc (runF fo lo ke sc mo false (packG xs)).sh rfl hk r6 W h
  subst kiv
  have HR := Lib.hid fun v W h => fftRun_said.1 fo lo ke sc mo false v (packG xs) hw W h
  cases hs : (binV fo lo ke sc mo xs).sat
  ·rw [hs] at HB
   obtain ⟨P, hP⟩ : ∃ P : Nat, (runF fo lo ke sc mo false (packG xs)).ex + upU fo sc (packG xs) + 1 = P := ⟨((runF fo lo ke sc mo false (packG xs)).ex + upU fo sc (packG xs) + 1).toNat, by omega⟩
   have hP20 : P ≤ 20 := by omega
   obtain ⟨p0, p1⟩ := pow_bd (P + 8) 28 (by omega)
   obtain ⟨p2, p3⟩ := pow_bd (P + 2) 22 (by omega)
   have hall := realG_in h0
   have hrl : (realG xs (upU fo sc (packG xs)).toNat).length = m1 := by unfold realG; rw [List.length_map, hxl]
   have hsl := (slackG_bd m1 (by omega) _ hall).2.2
   have hlb : 0 ≤ (ofB sc ke lo (runF fo lo ke sc mo false (packG xs)).sh + 256) * 2 ^ (P + 2) ∧ (ofB sc ke lo (runF fo lo ke sc mo false (packG xs)).sh + 256) * 2 ^ (P + 2) ≤ 16778816 * 2 ^ 22 := by
    have := mulG_bd (ofB sc ke lo (runF fo lo ke sc mo false (packG xs)).sh + 256) (2 ^ (P + 2)) 16778816 (2 ^ 22) (by decide) ⟨by omega, by omega⟩ ⟨by omega, p3⟩
    exact ⟨Int.mul_nonneg (by omega) (by omega), this.2⟩
   have hbe : (binV fo lo ke sc mo xs).ex = (runF fo lo ke sc mo false (packG xs)).ex + 1 := rfl
   have hnear := fun k a b ha hb => binV_near h0 hs P hP k a b ha hb
   refine near18_yes p l1 cap1 m1 fo lo ke sc mo false xs hm1 hmin1 hxl (by omega) h140 (binV fo lo ke sc mo xs).X (runF fo lo ke sc mo false (packG xs)).X (packG xs) m (runF fo lo ke sc mo false (packG xs)).ex (binV fo lo ke sc mo xs).ex (upU fo sc (packG xs)) (ofB sc ke lo (runF fo lo ke sc mo false (packG xs)).sh + 256) (runF fo lo ke sc mo false (packG xs)).sat (runF fo lo ke sc mo false (packG xs)).sh (runF fo lo ke sc mo false (packG xs)).sh
    (binsG m1 (realG xs (upU fo sc (packG xs)).toNat) false) P (slackG m1 (realG xs (upU fo sc (packG xs)).toNat)) ((P + 8 : Nat) : Int) ((P + 2 : Nat) : Int) ((ofB sc ke lo (runF fo lo ke sc mo false (packG xs)).sh + 256) * 2 ^ (P + 2)) ((ofB sc ke lo (runF fo lo ke sc mo false (packG xs)).sh + 256) * 2 ^ (P + 2) + slackG m1 (realG xs (upU fo sc (packG xs)).toNat))
    (Lib.hid f4) HB HK HU HR HLS (fun x => ⟨x * 2 ^ (upU fo sc (packG xs)).toNat, 0⟩) (Lib.hid fun x hx => ⟨fun W => ?_, rfl⟩) (Lib.hid fun v W h => ?_) (Lib.hid fun v W h => ?_) (by rw [binsG_len]) (Lib.hid ⟨⟨by omega, by omega⟩, ?_, hP20⟩)
    (Lib.hid ⟨by rw [show ((P : Int) + 8) = ((P + 8 : Nat) : Int) by omega]; exact IntWalk.i64_in _ ⟨by omega, by omega⟩, by rw [show ((P : Int) + 2) = ((P + 2 : Nat) : Int) by omega]; exact IntWalk.i64_in _ ⟨by omega, by omega⟩, fun W => shl_run _ _ _ (by omega) (by omega) (by rw [Int.toNat_natCast]; exact IntWalk.i64_in _ ⟨by omega, by omega⟩) W, IntWalk.i64_in _ ⟨by omega, by omega⟩⟩)
    (Lib.hid fun k a b ha hb => ?_) HA w hx
   ·have := realU_in h0 x hx
    exact shl_run _ _ _ (by omega) (by omega) (IntWalk.i64_in _ ⟨by first | omega | (simp only; omega), by first | omega | (simp only; omega)⟩) W
   ·obtain ⟨px, cx, rfl⟩ := h.len
    have hrl' : (xs.map fun x => (⟨x * 2 ^ (upU fo sc (packG xs)).toNat, 0⟩ : Gi)).length = m1 := hrl
    rw [hrl'] at h ⊢
    exact dAll_yes m1 _ hL2 false px cx _ hrl hall W h
   ·obtain ⟨px, cx, rfl⟩ := h.len
    have hrl' : (xs.map fun x => (⟨x * 2 ^ (upU fo sc (packG xs)).toNat, 0⟩ : Gi)).length = m1 := hrl
    rw [hrl'] at h ⊢
    exact dSlack_yes m1 _ hL2 px cx _ hrl hall W h
   ·rw [hbe, show (runF fo lo ke sc mo false (packG xs)).ex + 1 + upU fo sc (packG xs) = P by omega]
    exact IntWalk.i64_in _ ⟨by omega, by omega⟩
   ·have hn := hnear k a b ha (by rw [hxl]; exact hb)
    have hM := fM a (List.mem_of_getElem? ha)
    have hp2 : oneB fo ≤ 2147483648 := by rcases H.sizes with h | h <;> omega
    have m1' := mulG_bd a.re (2 ^ (P + 8)) 2147483648 (2 ^ 28) (by decide) ⟨by omega, by omega⟩ ⟨by omega, p1⟩
    have m2' := mulG_bd a.im (2 ^ (P + 8)) 2147483648 (2 ^ 28) (by decide) ⟨by omega, by omega⟩ ⟨by omega, p1⟩
    generalize (ofB sc ke lo (runF fo lo ke sc mo false (packG xs)).sh + 256) * 2 ^ (P + 2) = LK at *
    generalize slackG m1 (realG xs (upU fo sc (packG xs)).toNat) = s at *
    generalize hA1 : a.re * 2 ^ (P + 8) = A at *
    generalize hA2 : a.im * 2 ^ (P + 8) = A2 at *
    refine ⟨A, A2, A - b.re, -(A - b.re), A2 - b.im, -(A2 - b.im), _, fun W => shl_run _ _ _ (by omega) (by omega) (by rw [Int.toNat_natCast, hA1]; exact IntWalk.i64_in _ ⟨by omega, by omega⟩) W, fun W => shl_run _ _ _ (by omega) (by omega) (by rw [Int.toNat_natCast, hA2]; exact IntWalk.i64_in _ ⟨by omega, by omega⟩) W, IntWalk.i64_in _ ⟨by omega, by omega⟩, IntWalk.i64_in _ ⟨by omega, by omega⟩, IntWalk.i64_in _ ⟨by omega, by omega⟩, IntWalk.i64_in _ ⟨by omega, by omega⟩, rfl, ?_⟩
    generalize A - b.re = d at *
    generalize A2 - b.im = c at *
    repeat' split
    all_goals omega
  ·rw [hs] at HB
   have h2 : sc = 2 := by
    by_cases h2 : sc = 2
    ·exact h2
    ·rw [show (binV fo lo ke sc mo xs).sat = (runF fo lo ke sc mo false (packG xs)).sat from untV_plain h2, runF_sat h2] at hs
     cases hs
   subst h2
   exact near18_sat p l1 cap1 m1 fo lo ke mo false xs hm1 hmin1 hxl (by omega) h140 _ _ (packG xs) m _ _ _ _ _ _ _ (Lib.hid f4) HB HK HU HR HLS HA w hx
 ·exact near18_no p l1 cap1 m1 fo lo ke sc mo iv xs hm1 hmin1 _ h0 (by simp [h0]) (Lib.hid fun W h => realBins_no fo lo ke sc mo iv p m1 cap1 xs hxl (by omega) _ rfl h0 W h) HA w hx
end
end Go.Proofs.YtdignnmpfkgkoaaGreat
