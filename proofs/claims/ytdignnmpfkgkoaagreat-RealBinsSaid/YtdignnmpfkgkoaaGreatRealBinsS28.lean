import Derived.Test.YtdignnmpfkgkoaaGreatRealBinsS12
namespace Go.Proofs.YtdignnmpfkgkoaaGreat
section
open Go.ChangeShapes Go.WideShapes Go.ChangeAt Go.RowKit
set_option linter.unusedVariables false
set_option linter.unusedSimpArgs false
set_option maxRecDepth 100000
set_option maxHeartbeats 16000000
theorem next15_2a (xs ws y1 : List Gi) (ls : List Int) (fo lo ke mo s bits ex ex2 sc : Int) (iv sa : Bool) (bp sp : Option Addr) (bc sl : Nat) (hls : ls.length ≤ 20) (hsc : (sc == 2) = false) (hex : wrap64 (ex + s) = ex2)
 (HS : Hid (∀ W, CxsAt W (.slice bp xs.length bc) xs → Calls Tryz.prog 94 #[.slice bp xs.length bc, .agg #[fo, lo, ke, sc, mo, iv], .int .i64 2] W fun e w' => e = .returned (.int .i64 s) ∧ Gr W w'))
 (HT : Hid (∀ W, Calls Tryz.prog 47 #[lo, fo] W fun e w' => ∃ u, e = .returned u ∧ CxsAt w' u ws ∧ Gr W w'))
 (HB : CR 42 #[fo] (.int .i64 bits))
 (H1 : Hid (∀ vw W, CxsAt W (.slice bp xs.length bc) xs → CxsAt W vw ws → Calls Tryz.prog 95 #[.slice bp xs.length bc, vw, .int .i64 1, bits, s, mo, iv] W fun e w' => ∃ u, e = .returned u ∧ CxsAt w' u y1 ∧ Gr W w')) (w : World) (hv : CxsAt w (.slice bp xs.length bc) xs) (hl : NumsAt w (.slice sp ls.length sl) ls) :
 Calls Tryz.prog 49 #[.agg #[.slice bp xs.length bc, ex, sa, .slice sp ls.length sl], .agg #[fo, lo, ke, sc, mo, iv], .agg #[.int .i64 2, .int .i64 1]] w fun e w' => ∃ vx vs, e = .returned (.agg #[vx, ex2, sa, vs]) ∧ CxsAt w' vx y1 ∧ NumsAt w' vs (ls ++ [s]) ∧ Gr w w' ∧ ∀ b, vs.ownBlock = some b → w.heap.size ≤ b := by
 go_in
 go_wp2_with fail
 refine lc4 fun u0 gu R0 R1 R2 R3 => ?_
 have lb := R0.lt
 have lp := R1.lt
 have lq := R2.lt
 have lr := R3.lt
 obtain ⟨i0, hi, hz0, hz1, hz2⟩ := info_parts info_int
 obtain ⟨cb0, cb1, cb2, cb3⟩ := R0.t4
 obtain ⟨cp0, cp1, cp2, cp3, cp4, cp5⟩ := R1.t6
 obtain ⟨cq0, cq1⟩ := R2.t2
 go_wp2_with fail
 clear cb0 cb1 cb2 cb3 cp0 cp1 cp2 cp3 cp4 cp5 cq0 cq1
 refine (HS.out _ (hv.gr gu)).mono ?_
 rintro e w1 ⟨rfl, g1⟩
 have ⟨Fb_1, lb_1⟩ := R0.gl g1
 have ⟨Fp_1, lp_1⟩ := R1.gl g1
 have ⟨Fq_1, lq_1⟩ := R2.gl g1
 have ⟨Fr_1, lr_1⟩ := R3.gl g1
 have z1 := gu.trans g1
 clear R0 R1 R2 R3 gu g1
 obtain ⟨cp0, cp1, cp2, cp3, cp4, cp5⟩ := Fp_1.t6
 go_wp2_with fail
 clear cp0 cp1 cp2 cp3 cp4 cp5
 refine (HT.out _).mono ?_
 rintro e w2 ⟨vw, rfl, hw2, g2⟩
 obtain ⟨wp, wc, rfl⟩ := hw2.len
 have ⟨Fb_2, lb_2⟩ := Fb_1.gl g2
 have ⟨Fp_2, lp_2⟩ := Fp_1.gl g2
 have ⟨Fq_2, lq_2⟩ := Fq_1.gl g2
 have ⟨Fr_2, lr_2⟩ := Fr_1.gl g2
 have z2 := z1.trans g2
 clear Fb_1 Fp_1 Fq_1 Fr_1 z1 g2
 obtain ⟨cp0, cp1, cp2, cp3, cp4, cp5⟩ := Fp_2.t6
 go_wp2_with fail
 clear cp0 cp1 cp2 cp3 cp4 cp5
 refine (HB.out _).mono ?_
 rintro e w3 ⟨rfl, g3⟩
 have ⟨Fb_3, lb_3⟩ := Fb_2.gl g3
 have ⟨Fp_3, lp_3⟩ := Fp_2.gl g3
 have ⟨Fq_3, lq_3⟩ := Fq_2.gl g3
 have ⟨Fr_3, lr_3⟩ := Fr_2.gl g3
 have Kw_3 := hw2.gr g3
 have z3 := z2.trans g3
 clear Fb_2 Fp_2 Fq_2 Fr_2 z2 g3
 obtain ⟨cb0, cb1, cb2, cb3⟩ := Fb_3.t4
 obtain ⟨cp0, cp1, cp2, cp3, cp4, cp5⟩ := Fp_3.t6
 go_wp2_with fail
 clear cb0 cb1 cb2 cb3 cp0 cp1 cp2 cp3 cp4 cp5
 refine (H1.out _ _ (hv.gr z3) Kw_3).mono ?_
 rintro e w4 ⟨vy, rfl, hy4, g4⟩
 obtain ⟨yp, yc, rfl⟩ := hy4.len
 have ⟨Fb_4, lb_4⟩ := Fb_3.gl g4
 have ⟨Fp_4, lp_4⟩ := Fp_3.gl g4
 have ⟨Fq_4, lq_4⟩ := Fq_3.gl g4
 have ⟨Fr_4, lr_4⟩ := Fr_3.gl g4
 have Kw_4 := Kw_3.gr g4
 have z4 := z3.trans g4
 clear Fb_3 Fp_3 Fq_3 Fr_3 z3 g4
 obtain ⟨cb0, cb1, cb2, cb3⟩ := Fb_4.t4
 obtain ⟨cp0, cp1, cp2, cp3, cp4, cp5⟩ := Fp_4.t6
 obtain ⟨cq0, cq1⟩ := Fq_4.t2
 have hlw := (hl.gr (z4)).gr ((Gr.refl w4).alloc #[] 3)
 have lrz := Fr_4.lt
 have hgz := (z4).size
 go_wp2_with (first | (at_builtin; refine wpList_append_nums rfl (.tmp 73) (.tmp 75) rfl w4.heap.size _ 0 [] ls rfl (World.ownsRow_made w4 #[] 0 (Nat.le_refl _) (by unfold maxLen; omega) (by simp)) sp sl rfl hlw (by omega) (by simp) ?_; intro v1 W1 hown1 hgrow1 hblk1; rw [Nat.zero_add, List.nil_append] at hown1; have G1 : Gr w4 W1 := ((Gr.refl w4).alloc _ _).grown hgrow1 (fun k e => by cases e; exact Nat.le_refl _); clear hgrow1 hblk1) | (at_builtin; refine Go.wpList_append_lies _ rfl (.tmp 77) (.tmp 79) 22 rfl w4.heap.size 3 i0 (.int .i64 0) 1 8 Tryz.underlying22 hi hz0 hz1 hz2 rfl (by decide) v1 ls.length _ rfl (hown1.alloc _) ⟨W1.heap.size, 0, none⟩ 1 1 [.int .i64 s] rfl rfl (cell_one_new _ _ _) (by simp [Value.oneCell']) (by omega) (by unfold maxLen; omega) (by omega) (by have := G1.size; simp; omega) _ rfl ?_; intro g2b cap2 W2 hown2 hgrow2 hor2 hlt2; have hbs := hown1.lt; have G2 : Gr w4 W2 := (G1.alloc _ _).grown hgrow2 (fun k e => (hbs k e).1); clear hgrow2 hor2 hown1 G1; have Eb := Fb_4.gr G2; have leb := Eb.lt; obtain ⟨db0, db1, db2, db3⟩ := Eb.t4; have Ep := Fp_4.gr G2; have lep := Ep.lt; obtain ⟨dp0, dp1, dp2, dp3, dp4, dp5⟩ := Ep.t6; have Er := Fr_4.gr G2; have ler := Er.lt; obtain ⟨dr0, dr1, dr2, dr3⟩ := Er.t4; obtain ⟨nr0, nr1, nr2, nr3⟩ := Er.f4))
 have hsh : NumsAt W2 (.slice (some ⟨g2b, 0, none⟩) (ls ++ [s]).length cap2) (ls ++ [s]) := by
  have := NumsAt.of_row (xs := ls ++ [s]) (by rw [List.map_append]; exact hown2)
  rw [List.length_append]
  exact this
 have hgb := (hown2.lt g2b rfl).1
 have KY := hy4.gr G2
 have zW2 := z4.trans G2
 have hap := CxsAt.apart KY Er
 have cxe := ((((KY.set hap 0 (.slice yp y1.length yc)).set hap 1 (.int .i64 ex2)).set hap 2 (.bool sa)).set hap 3 (.slice (some ⟨g2b, 0, none⟩) (ls.length + 1) cap2)).gr ((Gr.refl _).alloc #[.slice yp y1.length yc, ex2, sa, .slice (some ⟨g2b, 0, none⟩) (ls.length + 1) cap2] 27)
 have nse := ((((hsh.st (w.heap.size + 1 + 1 + 1) 0 (.slice yp y1.length yc)).st (w.heap.size + 1 + 1 + 1) 1 (.int .i64 ex2)).st (w.heap.size + 1 + 1 + 1) 2 (.bool sa)).st (w.heap.size + 1 + 1 + 1) 3 (.slice (some ⟨g2b, 0, none⟩) (ls.length + 1) cap2)).gr ((Gr.refl _).alloc #[.slice yp y1.length yc, ex2, sa, .slice (some ⟨g2b, 0, none⟩) (ls.length + 1) cap2] 27)
 obtain ⟨uf, hqf⟩ : ∃ zz, zz = (((((W2.setCell ⟨w.heap.size + 1 + 1 + 1, 0, none⟩ (.slice yp y1.length yc)).setCell ⟨w.heap.size + 1 + 1 + 1, 1, none⟩ (.int .i64 ex2)).setCell ⟨w.heap.size + 1 + 1 + 1, 2, none⟩ (.bool sa)).setCell ⟨w.heap.size + 1 + 1 + 1, 3, none⟩ (.slice (some ⟨g2b, 0, none⟩) (ls.length + 1) cap2)).alloc (.cells #[.slice yp y1.length yc, ex2, sa, .slice (some ⟨g2b, 0, none⟩) (ls.length + 1) cap2] 27)) := ⟨_, rfl⟩
 rw [List.length_append] at nse
 rw [← hqf] at cxe nse
 have Yr : CellsAt uf (w.heap.size + 1 + 1 + 1) 27 #[.slice yp y1.length yc, ex2, sa, .slice (some ⟨g2b, 0, none⟩) (ls.length + 1) cap2] := by rw [hqf]; exact (CellsAt.set (CellsAt.set (CellsAt.set (CellsAt.set (Er) 0 (.slice yp y1.length yc)) 1 (.int .i64 ex2)) 2 (.bool sa)) 3 (.slice (some ⟨g2b, 0, none⟩) (ls.length + 1) cap2)).alloc _
 have yz : Gr w uf := by rw [hqf]; exact ((((zW2.sc _).sc _).sc _).sc _).alloc _ _
 rw [← hqf]
 clear hqf
 obtain ⟨cr0, cr1, cr2, cr3⟩ := Yr.t4
 refine bodyPost_ret (v := .agg #[.slice yp y1.length yc, ex2, sa, .slice (some ⟨g2b, 0, none⟩) (ls.length + 1) cap2]) ?_ rfl ⟨_, _, rfl, cxe, nse, yz, fun bb hb => ?_⟩
 ·simp [results, Tryz.results49, go_sem, *]
 ·cases hb; show w.heap.size ≤ g2b; omega
theorem next15_2bA : (∀ (xs ws y1 ys : List Gi) (ls : List Int) (fo lo ke mo s bits ex ex2 h sc : Int) (iv sa : Bool) (bp sp : Option Addr) (bc sl : Nat) (hls : ls.length ≤ 20) (hh : decide (1 < h) = true) (hsc : (sc == 2) = false) (hex : wrap64 (ex + s) = ex2) (HS : Hid (∀ W, CxsAt W (.slice bp xs.length bc) xs → Calls Tryz.prog 94 #[.slice bp xs.length bc, .agg #[fo, lo, ke, sc, mo, iv], .int .i64 2] W fun e w' => e = .returned (.int .i64 s) ∧ Gr W w')) (HT : Hid (∀ W, Calls Tryz.prog 47 #[lo, fo] W fun e w' => ∃ u, e = .returned u ∧ CxsAt w' u ws ∧ Gr W w')) (HB : CR 42 #[fo] (.int .i64 bits)) (H1 : Hid (∀ vw W, CxsAt W (.slice bp xs.length bc) xs → CxsAt W vw ws → Calls Tryz.prog 95 #[.slice bp xs.length bc, vw, .int .i64 1, bits, s, mo, iv] W fun e w' => ∃ u, e = .returned u ∧ CxsAt w' u y1 ∧ Gr W w')) (H2 : Hid (∀ vw W, CxsAt W (.slice bp xs.length bc) xs → CxsAt W vw ws → Calls Tryz.prog 95 #[.slice bp xs.length bc, vw, h, bits, s, mo, iv] W fun e w' => ∃ u, e = .returned u ∧ CxsAt w' u ys ∧ Gr W w')) (w : World) (hv : CxsAt w (.slice bp xs.length bc) xs) (hl : NumsAt w (.slice sp ls.length sl) ls), Calls Tryz.prog 49 #[.agg #[.slice bp xs.length bc, ex, sa, .slice sp ls.length sl], .agg #[fo, lo, ke, sc, mo, iv], .agg #[.int .i64 2, h]] w fun e w' => ∃ vx vs, e = .returned (.agg #[vx, ex2, sa, vs]) ∧ CxsAt w' vx ys ∧ NumsAt w' vs (ls ++ [s]) ∧ Gr w w' ∧ ∀ b, vs.ownBlock = some b → w.heap.size ≤ b) ∧ (∀ (xs ws y1 ys : List Gi) (ls : List Int) (fo lo ke mo s bits ex ex2 h sc : Int) (iv sa : Bool) (bp sp : Option Addr) (bc sl : Nat) (hls : ls.length ≤ 20) (hsc : (sc == 2) = false) (hex : wrap64 (ex + s) = ex2) (HS : Hid (∀ W, CxsAt W (.slice bp xs.length bc) xs → Calls Tryz.prog 94 #[.slice bp xs.length bc, .agg #[fo, lo, ke, sc, mo, iv], .int .i64 4] W fun e w' => e = .returned (.int .i64 s) ∧ Gr W w')) (HT : Hid (∀ W, Calls Tryz.prog 47 #[lo, fo] W fun e w' => ∃ u, e = .returned u ∧ CxsAt w' u ws ∧ Gr W w')) (HB : CR 42 #[fo] (.int .i64 bits)) (H1 : Hid (∀ vw W, CxsAt W (.slice bp xs.length bc) xs → CxsAt W vw ws → Calls Tryz.prog 95 #[.slice bp xs.length bc, vw, .int .i64 1, bits, s, mo, iv] W fun e w' => ∃ u, e = .returned u ∧ CxsAt w' u y1 ∧ Gr W w')) (H2 : Hid (∀ vw W, CxsAt W (.slice bp xs.length bc) xs → CxsAt W vw ws → Calls Tryz.prog 96 #[.slice bp xs.length bc, vw, h, bits, s, mo, iv] W fun e w' => ∃ u, e = .returned u ∧ CxsAt w' u ys ∧ Gr W w')) (w : World) (hv : CxsAt w (.slice bp xs.length bc) xs) (hl : NumsAt w (.slice sp ls.length sl) ls), Calls Tryz.prog 49 #[.agg #[.slice bp xs.length bc, ex, sa, .slice sp ls.length sl], .agg #[fo, lo, ke, sc, mo, iv], .agg #[.int .i64 4, h]] w fun e w' => ∃ vx vs, e = .returned (.agg #[vx, ex2, sa, vs]) ∧ CxsAt w' vx ys ∧ NumsAt w' vs (ls ++ [s]) ∧ Gr w w' ∧ ∀ b, vs.ownBlock = some b → w.heap.size ≤ b) := by
 refine ⟨@fun xs ws y1 ys ls fo lo ke mo s bits ex ex2 h sc iv sa bp sp bc sl hls hh hsc hex HS HT HB H1 H2 w hv hl => ?_, @fun xs ws y1 ys ls fo lo ke mo s bits ex ex2 h sc iv sa bp sp bc sl hls hsc hex HS HT HB H1 H2 w hv hl => ?_⟩
 all_goals
  go_in;go_wp2_with fail;refine lc4 fun u0 gu R0 R1 R2 R3 => ?_
  have lb := R0.lt;have lp := R1.lt;have lq := R2.lt;have lr := R3.lt;obtain ⟨i0, hi, hz0, hz1, hz2⟩ := info_parts info_int;obtain ⟨cb0, cb1, cb2, cb3⟩ := R0.t4;obtain ⟨cp0, cp1, cp2, cp3, cp4, cp5⟩ := R1.t6;obtain ⟨cq0, cq1⟩ := R2.t2;go_wp2_with fail;clear cb0 cb1 cb2 cb3 cp0 cp1 cp2 cp3 cp4 cp5 cq0 cq1;refine (HS.out _ (hv.gr gu)).mono ?_;rintro e w1 ⟨rfl, g1⟩;have ⟨Fb_1, lb_1⟩ := R0.gl g1;have ⟨Fp_1, lp_1⟩ := R1.gl g1;have ⟨Fq_1, lq_1⟩ := R2.gl g1;have ⟨Fr_1, lr_1⟩ := R3.gl g1;have z1 := gu.trans g1;clear R0 R1 R2 R3 gu g1;obtain ⟨cp0, cp1, cp2, cp3, cp4, cp5⟩ := Fp_1.t6;go_wp2_with fail;clear cp0 cp1 cp2 cp3 cp4 cp5;refine (HT.out _).mono ?_;rintro e w2 ⟨vw, rfl, hw2, g2⟩;obtain ⟨wp, wc, rfl⟩ := hw2.len;have ⟨Fb_2, lb_2⟩ := Fb_1.gl g2;have ⟨Fp_2, lp_2⟩ := Fp_1.gl g2;have ⟨Fq_2, lq_2⟩ := Fq_1.gl g2;have ⟨Fr_2, lr_2⟩ := Fr_1.gl g2;have z2 := z1.trans g2;clear Fb_1 Fp_1 Fq_1 Fr_1 z1 g2;obtain ⟨cp0, cp1, cp2, cp3, cp4, cp5⟩ := Fp_2.t6;go_wp2_with fail;clear cp0 cp1 cp2 cp3 cp4 cp5;refine (HB.out _).mono ?_;rintro e w3 ⟨rfl, g3⟩;have ⟨Fb_3, lb_3⟩ := Fb_2.gl g3;have ⟨Fp_3, lp_3⟩ := Fp_2.gl g3;have ⟨Fq_3, lq_3⟩ := Fq_2.gl g3;have ⟨Fr_3, lr_3⟩ := Fr_2.gl g3;have Kw_3 := hw2.gr g3;have z3 := z2.trans g3;clear Fb_2 Fp_2 Fq_2 Fr_2 z2 g3;obtain ⟨cb0, cb1, cb2, cb3⟩ := Fb_3.t4;obtain ⟨cp0, cp1, cp2, cp3, cp4, cp5⟩ := Fp_3.t6;go_wp2_with fail;clear cb0 cb1 cb2 cb3 cp0 cp1 cp2 cp3 cp4 cp5;refine (H1.out _ _ (hv.gr z3) Kw_3).mono ?_;rintro e w4 ⟨vy, rfl, hy4, g4⟩;obtain ⟨yp, yc, rfl⟩ := hy4.len
  have ⟨Fb_4, lb_4⟩ := Fb_3.gl g4;have ⟨Fp_4, lp_4⟩ := Fp_3.gl g4;have ⟨Fq_4, lq_4⟩ := Fq_3.gl g4;have ⟨Fr_4, lr_4⟩ := Fr_3.gl g4;have Kw_4 := Kw_3.gr g4;have z4 := z3.trans g4;clear Fb_3 Fp_3 Fq_3 Fr_3 z3 g4;obtain ⟨cb0, cb1, cb2, cb3⟩ := Fb_4.t4;obtain ⟨cp0, cp1, cp2, cp3, cp4, cp5⟩ := Fp_4.t6;obtain ⟨cq0, cq1⟩ := Fq_4.t2;go_wp2_with fail;clear cb0 cb1 cb2 cb3 cp0 cp1 cp2 cp3 cp4 cp5 cq0 cq1;refine (H2.out _ _ (hv.gr z4) Kw_4).mono ?_;rintro e w5 ⟨vz, rfl, hz5, g5⟩;obtain ⟨zp, zc, rfl⟩ := hz5.len;have ⟨Fb_5, lb_5⟩ := Fb_4.gl g5;have ⟨Fp_5, lp_5⟩ := Fp_4.gl g5;have ⟨Fq_5, lq_5⟩ := Fq_4.gl g5;have ⟨Fr_5, lr_5⟩ := Fr_4.gl g5;have Kw_5 := Kw_4.gr g5;have Ky_5 := hy4.gr g5;have z5 := z4.trans g5;clear Fb_4 Fp_4 Fq_4 Fr_4 z4 g5;obtain ⟨cb0, cb1, cb2, cb3⟩ := Fb_5.t4;obtain ⟨cp0, cp1, cp2, cp3, cp4, cp5⟩ := Fp_5.t6;obtain ⟨cq0, cq1⟩ := Fq_5.t2;have hlw := (hl.gr (z5)).gr ((Gr.refl w5).alloc #[] 3);have lrz := Fr_5.lt;have hgz := (z5).size
  go_wp2_with (first | (at_builtin; refine wpList_append_nums rfl (.tmp 73) (.tmp 75) rfl w5.heap.size _ 0 [] ls rfl (World.ownsRow_made w5 #[] 0 (Nat.le_refl _) (by unfold maxLen; omega) (by simp)) sp sl rfl hlw (by omega) (by simp) ?_; intro v1 W1 hown1 hgrow1 hblk1; rw [Nat.zero_add, List.nil_append] at hown1; have G1 : Gr w5 W1 := ((Gr.refl w5).alloc _ _).grown hgrow1 (fun k e => by cases e; exact Nat.le_refl _); clear hgrow1 hblk1) | (at_builtin; refine Go.wpList_append_lies _ rfl (.tmp 77) (.tmp 79) 22 rfl w5.heap.size 3 i0 (.int .i64 0) 1 8 Tryz.underlying22 hi hz0 hz1 hz2 rfl (by decide) v1 ls.length _ rfl (hown1.alloc _) ⟨W1.heap.size, 0, none⟩ 1 1 [.int .i64 s] rfl rfl (cell_one_new _ _ _) (by simp [Value.oneCell']) (by omega) (by unfold maxLen; omega) (by omega) (by have := G1.size; simp; omega) _ rfl ?_; intro g2b cap2 W2 hown2 hgrow2 hor2 hlt2; have hbs := hown1.lt; have G2 : Gr w5 W2 := (G1.alloc _ _).grown hgrow2 (fun k e => (hbs k e).1); clear hgrow2 hor2 hown1 G1; have Eb := Fb_5.gr G2; have leb := Eb.lt; obtain ⟨db0, db1, db2, db3⟩ := Eb.t4; have Ep := Fp_5.gr G2; have lep := Ep.lt; obtain ⟨dp0, dp1, dp2, dp3, dp4, dp5⟩ := Ep.t6; have Er := Fr_5.gr G2; have ler := Er.lt; obtain ⟨dr0, dr1, dr2, dr3⟩ := Er.t4; obtain ⟨nr0, nr1, nr2, nr3⟩ := Er.f4))
  have hsh : NumsAt W2 (.slice (some ⟨g2b, 0, none⟩) (ls ++ [s]).length cap2) (ls ++ [s]) := by
   have := NumsAt.of_row (xs := ls ++ [s]) (by rw [List.map_append]; exact hown2)
   rw [List.length_append]
   exact this
  have hgb := (hown2.lt g2b rfl).1;have KY := hz5.gr G2;have zW2 := z5.trans G2;have hap := CxsAt.apart KY Er;have cxe := ((((KY.set hap 0 (.slice zp ys.length zc)).set hap 1 (.int .i64 ex2)).set hap 2 (.bool sa)).set hap 3 (.slice (some ⟨g2b, 0, none⟩) (ls.length + 1) cap2)).gr ((Gr.refl _).alloc #[.slice zp ys.length zc, ex2, sa, .slice (some ⟨g2b, 0, none⟩) (ls.length + 1) cap2] 27);have nse := ((((hsh.st (w.heap.size + 1 + 1 + 1) 0 (.slice zp ys.length zc)).st (w.heap.size + 1 + 1 + 1) 1 (.int .i64 ex2)).st (w.heap.size + 1 + 1 + 1) 2 (.bool sa)).st (w.heap.size + 1 + 1 + 1) 3 (.slice (some ⟨g2b, 0, none⟩) (ls.length + 1) cap2)).gr ((Gr.refl _).alloc #[.slice zp ys.length zc, ex2, sa, .slice (some ⟨g2b, 0, none⟩) (ls.length + 1) cap2] 27)
  obtain ⟨uf, hqf⟩ : ∃ zz, zz = (((((W2.setCell ⟨w.heap.size + 1 + 1 + 1, 0, none⟩ (.slice zp ys.length zc)).setCell ⟨w.heap.size + 1 + 1 + 1, 1, none⟩ (.int .i64 ex2)).setCell ⟨w.heap.size + 1 + 1 + 1, 2, none⟩ (.bool sa)).setCell ⟨w.heap.size + 1 + 1 + 1, 3, none⟩ (.slice (some ⟨g2b, 0, none⟩) (ls.length + 1) cap2)).alloc (.cells #[.slice zp ys.length zc, ex2, sa, .slice (some ⟨g2b, 0, none⟩) (ls.length + 1) cap2] 27)) := ⟨_, rfl⟩
  rw [List.length_append] at nse;rw [← hqf] at cxe nse
  have Yr : CellsAt uf (w.heap.size + 1 + 1 + 1) 27 #[.slice zp ys.length zc, ex2, sa, .slice (some ⟨g2b, 0, none⟩) (ls.length + 1) cap2] := by rw [hqf]; exact (CellsAt.set (CellsAt.set (CellsAt.set (CellsAt.set (Er) 0 (.slice zp ys.length zc)) 1 (.int .i64 ex2)) 2 (.bool sa)) 3 (.slice (some ⟨g2b, 0, none⟩) (ls.length + 1) cap2)).alloc _
  have yz : Gr w uf := by rw [hqf]; exact ((((zW2.sc _).sc _).sc _).sc _).alloc _ _
  rw [← hqf];clear hqf;obtain ⟨cr0, cr1, cr2, cr3⟩ := Yr.t4;refine bodyPost_ret (v := .agg #[.slice zp ys.length zc, ex2, sa, .slice (some ⟨g2b, 0, none⟩) (ls.length + 1) cap2]) ?_ rfl ⟨_, _, rfl, cxe, nse, yz, fun bb hb => ?_⟩
  ·simp [results, Tryz.results49, go_sem, *]
  ·cases hb; show w.heap.size ≤ g2b; omega
theorem next15_2as (xs ws y1 zs : List Gi) (ls : List Int) (fo lo ke mo s bits ex ex2 : Int) (iv sa sm : Bool) (bp sp : Option Addr) (bc sl : Nat) (hls : ls.length ≤ 20) (hex : wrap64 (ex + s) = ex2)
 (HS : Hid (∀ W, CxsAt W (.slice bp xs.length bc) xs → Calls Tryz.prog 94 #[.slice bp xs.length bc, .agg #[fo, lo, ke, .int .i64 2, mo, iv], .int .i64 2] W fun e w' => e = .returned (.int .i64 s) ∧ Gr W w'))
 (HT : Hid (∀ W, Calls Tryz.prog 47 #[lo, fo] W fun e w' => ∃ u, e = .returned u ∧ CxsAt w' u ws ∧ Gr W w'))
 (HB : CR 42 #[fo] (.int .i64 bits))
 (H1 : Hid (∀ vw W, CxsAt W (.slice bp xs.length bc) xs → CxsAt W vw ws → Calls Tryz.prog 95 #[.slice bp xs.length bc, vw, .int .i64 1, bits, s, mo, iv] W fun e w' => ∃ u, e = .returned u ∧ CxsAt w' u y1 ∧ Gr W w'))
 (HC : Hid (∀ v W, CxsAt W v y1 → Calls Tryz.prog 44 #[v, fo] W fun e w' => ∃ u, e = .returned u ∧ CxsAt w' u zs ∧ Gr W w'))
 (HM : Hid (∀ u v W, CxsAt W u y1 → CxsAt W v zs → Calls Tryz.prog 10 #[u, v] W fun e w' => e = .returned (.bool sm) ∧ Gr W w')) (w : World) (hv : CxsAt w (.slice bp xs.length bc) xs) (hl : NumsAt w (.slice sp ls.length sl) ls) :
 Calls Tryz.prog 49 #[.agg #[.slice bp xs.length bc, ex, sa, .slice sp ls.length sl], .agg #[fo, lo, ke, .int .i64 2, mo, iv], .agg #[.int .i64 2, .int .i64 1]] w fun e w' => ∃ vx vs, e = .returned (.agg #[vx, ex2, .bool (sa || !sm), vs]) ∧ CxsAt w' vx zs ∧ NumsAt w' vs (ls ++ [s]) ∧ Gr w w' ∧ ∀ b, vs.ownBlock = some b → w.heap.size ≤ b := by
 go_in
 go_wp2_with fail
 refine lc4 fun u0 gu R0 R1 R2 R3 => ?_
 have lb := R0.lt
 have lp := R1.lt
 have lq := R2.lt
 have lr := R3.lt
 obtain ⟨i0, hi, hz0, hz1, hz2⟩ := info_parts info_int
 obtain ⟨cb0, cb1, cb2, cb3⟩ := R0.t4
 obtain ⟨cp0, cp1, cp2, cp3, cp4, cp5⟩ := R1.t6
 obtain ⟨cq0, cq1⟩ := R2.t2
 go_wp2_with fail
 clear cb0 cb1 cb2 cb3 cp0 cp1 cp2 cp3 cp4 cp5 cq0 cq1
 refine (HS.out _ (hv.gr gu)).mono ?_
 rintro e w1 ⟨rfl, g1⟩
 have ⟨Fb_1, lb_1⟩ := R0.gl g1
 have ⟨Fp_1, lp_1⟩ := R1.gl g1
 have ⟨Fq_1, lq_1⟩ := R2.gl g1
 have ⟨Fr_1, lr_1⟩ := R3.gl g1
 have z1 := gu.trans g1
 clear R0 R1 R2 R3 gu g1
 obtain ⟨cp0, cp1, cp2, cp3, cp4, cp5⟩ := Fp_1.t6
 go_wp2_with fail
 clear cp0 cp1 cp2 cp3 cp4 cp5
 refine (HT.out _).mono ?_
 rintro e w2 ⟨vw, rfl, hw2, g2⟩
 obtain ⟨wp, wc, rfl⟩ := hw2.len
 have ⟨Fb_2, lb_2⟩ := Fb_1.gl g2
 have ⟨Fp_2, lp_2⟩ := Fp_1.gl g2
 have ⟨Fq_2, lq_2⟩ := Fq_1.gl g2
 have ⟨Fr_2, lr_2⟩ := Fr_1.gl g2
 have z2 := z1.trans g2
 clear Fb_1 Fp_1 Fq_1 Fr_1 z1 g2
 obtain ⟨cp0, cp1, cp2, cp3, cp4, cp5⟩ := Fp_2.t6
 go_wp2_with fail
 clear cp0 cp1 cp2 cp3 cp4 cp5
 refine (HB.out _).mono ?_
 rintro e w3 ⟨rfl, g3⟩
 have ⟨Fb_3, lb_3⟩ := Fb_2.gl g3
 have ⟨Fp_3, lp_3⟩ := Fp_2.gl g3
 have ⟨Fq_3, lq_3⟩ := Fq_2.gl g3
 have ⟨Fr_3, lr_3⟩ := Fr_2.gl g3
 have Kw_3 := hw2.gr g3
 have z3 := z2.trans g3
 clear Fb_2 Fp_2 Fq_2 Fr_2 z2 g3
 obtain ⟨cb0, cb1, cb2, cb3⟩ := Fb_3.t4
 obtain ⟨cp0, cp1, cp2, cp3, cp4, cp5⟩ := Fp_3.t6
 go_wp2_with fail
 clear cb0 cb1 cb2 cb3 cp0 cp1 cp2 cp3 cp4 cp5
 refine (H1.out _ _ (hv.gr z3) Kw_3).mono ?_
 rintro e w4 ⟨vy, rfl, hy4, g4⟩
 obtain ⟨yp, yc, rfl⟩ := hy4.len
 have ⟨Fb_4, lb_4⟩ := Fb_3.gl g4
 have ⟨Fp_4, lp_4⟩ := Fp_3.gl g4
 have ⟨Fq_4, lq_4⟩ := Fq_3.gl g4
 have ⟨Fr_4, lr_4⟩ := Fr_3.gl g4
 have Kw_4 := Kw_3.gr g4
 have z4 := z3.trans g4
 clear Fb_3 Fp_3 Fq_3 Fr_3 z3 g4
 obtain ⟨cb0, cb1, cb2, cb3⟩ := Fb_4.t4
 obtain ⟨cp0, cp1, cp2, cp3, cp4, cp5⟩ := Fp_4.t6
 obtain ⟨cq0, cq1⟩ := Fq_4.t2
 have hlw := (hl.gr (z4)).gr ((Gr.refl w4).alloc #[] 3)
 have lrz := Fr_4.lt
 have hgz := (z4).size
 go_wp2_with (first | (at_builtin; refine wpList_append_nums rfl (.tmp 73) (.tmp 75) rfl w4.heap.size _ 0 [] ls rfl (World.ownsRow_made w4 #[] 0 (Nat.le_refl _) (by unfold maxLen; omega) (by simp)) sp sl rfl hlw (by omega) (by simp) ?_; intro v1 W1 hown1 hgrow1 hblk1; rw [Nat.zero_add, List.nil_append] at hown1; have G1 : Gr w4 W1 := ((Gr.refl w4).alloc _ _).grown hgrow1 (fun k e => by cases e; exact Nat.le_refl _); clear hgrow1 hblk1) | (at_builtin; refine Go.wpList_append_lies _ rfl (.tmp 77) (.tmp 79) 22 rfl w4.heap.size 3 i0 (.int .i64 0) 1 8 Tryz.underlying22 hi hz0 hz1 hz2 rfl (by decide) v1 ls.length _ rfl (hown1.alloc _) ⟨W1.heap.size, 0, none⟩ 1 1 [.int .i64 s] rfl rfl (cell_one_new _ _ _) (by simp [Value.oneCell']) (by omega) (by unfold maxLen; omega) (by omega) (by have := G1.size; simp; omega) _ rfl ?_; intro g2b cap2 W2 hown2 hgrow2 hor2 hlt2; have hbs := hown1.lt; have G2 : Gr w4 W2 := (G1.alloc _ _).grown hgrow2 (fun k e => (hbs k e).1); clear hgrow2 hor2 hown1 G1; have Eb := Fb_4.gr G2; have leb := Eb.lt; obtain ⟨db0, db1, db2, db3⟩ := Eb.t4; have Ep := Fp_4.gr G2; have lep := Ep.lt; obtain ⟨dp0, dp1, dp2, dp3, dp4, dp5⟩ := Ep.t6; have Er := Fr_4.gr G2; have ler := Er.lt; obtain ⟨dr0, dr1, dr2, dr3⟩ := Er.t4; obtain ⟨nr0, nr1, nr2, nr3⟩ := Er.f4))
 have hsh : NumsAt W2 (.slice (some ⟨g2b, 0, none⟩) (ls ++ [s]).length cap2) (ls ++ [s]) := by
  have := NumsAt.of_row (xs := ls ++ [s]) (by rw [List.map_append]; exact hown2)
  rw [List.length_append]
  exact this
 have hgb := (hown2.lt g2b rfl).1
 have KY := hy4.gr G2
 have zW2 := z4.trans G2
 have hgw := (hown2.lt g2b rfl).2
 rw [List.length_append] at hsh
 have KY5 := KY.gr ((Gr.refl W2).alloc #[.slice yp y1.length yc, ex2, sa, .slice (some ⟨g2b, 0, none⟩) (ls.length + 1) cap2] 27)
 have SH5 := hsh.gr ((Gr.refl W2).alloc #[.slice yp y1.length yc, ex2, sa, .slice (some ⟨g2b, 0, none⟩) (ls.length + 1) cap2] 27)
 obtain ⟨wo, hwo⟩ : ∃ zz, zz = (W2.alloc (.cells #[.slice yp y1.length yc, ex2, sa, .slice (some ⟨g2b, 0, none⟩) (ls.length + 1) cap2] 27)) := ⟨_, rfl⟩
 have hos : wo.heap.size = W2.heap.size + 1 := by rw [hwo]; simp
 rw [← hwo] at KY5 SH5
 have Ybo : CellsAt wo (w.heap.size) 27 #[.slice bp xs.length bc, ex, sa, .slice sp ls.length sl] := by rw [hwo]; first | exact Eb.alloc _ | simpa using Eb.alloc _
 have Ypo : CellsAt wo (w.heap.size + 1) 24 #[fo, lo, ke, .int .i64 2, mo, iv] := by rw [hwo]; first | exact Ep.alloc _ | simpa using Ep.alloc _
 have Yro : CellsAt wo (w.heap.size + 1 + 1 + 1) 27 #[.slice none 0 0, .int .i64 0, false, .slice none 0 0] := by rw [hwo]; first | exact Er.alloc _ | simpa using Er.alloc _
 have Yoo : CellsAt wo (W2.heap.size) 27 #[.slice yp y1.length yc, ex2, sa, .slice (some ⟨g2b, 0, none⟩) (ls.length + 1) cap2] := by rw [hwo]; have q_ := CellsAt.new W2 27 #[.slice yp y1.length yc, ex2, sa, .slice (some ⟨g2b, 0, none⟩) (ls.length + 1) cap2]; first | exact q_ | simpa using q_
 have yo : Gr w wo := by rw [hwo]; exact zW2.alloc _ _
 try rw [← hwo]
 clear hwo
 refine (HC.out _ _ KY5).mono ?_
 rintro e w6 ⟨vz, rfl, hz6, g6⟩
 obtain ⟨np, nc, rfl⟩ := hz6.len
 have SH6 := SH5.gr g6
 have hz6s := g6.size
 have ⟨Fb_6, lb_6⟩ := Ybo.gl g6
 have ⟨Fp_6, lp_6⟩ := Ypo.gl g6
 have ⟨Fr_6, lr_6⟩ := Yro.gl g6
 have ⟨Fo_6, lo_6⟩ := Yoo.gl g6
 have Ky_6 := KY5.gr g6
 have z6 := yo.trans g6
 clear Ybo Ypo Yro Yoo yo g6
 cases sa
 ·have cb0 := CellsAt.cell (Fb_6) 0
  have cb1 := Fb_6.at 1;have cb2 := Fb_6.at 2;have cb3 := Fb_6.at 3;obtain ⟨cp0, cp1, cp2, cp3, cp4, cp5⟩ := Fp_6.t6;simp only [getS] at cb0;obtain ⟨mo0, mo1, mo2, mo3⟩ := Fo_6.f4;obtain ⟨co0, co1, co2, co3⟩ := Fo_6.t4;go_wp2_with fail;clear cb0 cb1 cb2 cb3 cp0 cp1 cp2 cp3 cp4 cp5 mo0 co0 mo1 co1 mo2 co2 mo3 co3;have apy := CxsAt.apart Ky_6 Fo_6;have apz := CxsAt.apart hz6 Fo_6;have KY7 := Ky_6.set apy 0 (.slice np zs.length nc);have KZ7 := hz6.set apz 0 (.slice np zs.length nc);have SH7 := SH6.st (W2.heap.size) 0 (.slice np zs.length nc)
  obtain ⟨wq, hwq⟩ : ∃ zz, zz = (w6.setCell ⟨W2.heap.size, 0, none⟩ (.slice np zs.length nc)) := ⟨_, rfl⟩
  rw [← hwq] at KY7 KZ7 SH7
  have Ybq : CellsAt wq (w.heap.size) 27 #[.slice bp xs.length bc, ex, false, .slice sp ls.length sl] := by rw [hwq]; first | exact Fb_6.ot | simpa using Fb_6.ot
  have Ypq : CellsAt wq (w.heap.size + 1) 24 #[fo, lo, ke, .int .i64 2, mo, iv] := by rw [hwq]; first | exact Fp_6.ot | simpa using Fp_6.ot
  have Yrq : CellsAt wq (w.heap.size + 1 + 1 + 1) 27 #[.slice none 0 0, .int .i64 0, false, .slice none 0 0] := by rw [hwq]; first | exact Fr_6.ot | simpa using Fr_6.ot
  have Yoq : CellsAt wq (W2.heap.size) 27 #[.slice np zs.length nc, ex2, false, .slice (some ⟨g2b, 0, none⟩) (ls.length + 1) cap2] := by rw [hwq]; have q_ := CellsAt.set (Fo_6) 0 (.slice np zs.length nc); first | exact q_ | simpa using q_
  have yq : Gr w wq := by rw [hwq]; exact z6.sc _
  try rw [← hwq]
  clear hwq;refine (HM.out _ _ _ KY7 KZ7).mono ?_;rintro e w8 ⟨rfl, g8⟩;replace KZ7 := KZ7.gr g8;replace SH7 := SH7.gr g8;have g8s := g8.size;have ⟨Fb_8, lb_8⟩ := Ybq.gl g8;have ⟨Fp_8, lp_8⟩ := Ypq.gl g8;have ⟨Fr_8, lr_8⟩ := Yrq.gl g8;have ⟨Fo_8, lo_8⟩ := Yoq.gl g8;have z8 := yq.trans g8;clear Ybq Ypq Yrq Yoq yq g8;obtain ⟨co0, co1, co2, co3⟩ := Fo_8.t4;obtain ⟨mo0, mo1, mo2, mo3⟩ := Fo_8.f4;obtain ⟨mr0, mr1, mr2, mr3⟩ := Fr_8.f4;obtain ⟨cr0, cr1, cr2, cr3⟩ := Fr_8.t4;go_wp2_with fail;clear co0 co1 co2 co3 mo0 mo1 mo2 mo3 mr0 cr0 mr1 cr1 mr2 cr2 mr3 cr3;have aq := CxsAt.apart KZ7 (Fo_8);have KZ8 := KZ7.set aq 2 (.bool !sm);have SH8 := SH7.st (W2.heap.size) 2 (.bool !sm);have ar := CxsAt.apart KZ8 (Fr_8.ot);have cxe := (((KZ8.set ar 0 (.slice np zs.length nc)).set ar 1 (.int .i64 ex2)).set ar 2 (.bool !sm)).set ar 3 (.slice (some ⟨g2b, 0, none⟩) (ls.length + 1) cap2);have nse := (((SH8.st (w.heap.size + 1 + 1 + 1) 0 (.slice np zs.length nc)).st (w.heap.size + 1 + 1 + 1) 1 (.int .i64 ex2)).st (w.heap.size + 1 + 1 + 1) 2 (.bool !sm)).st (w.heap.size + 1 + 1 + 1) 3 (.slice (some ⟨g2b, 0, none⟩) (ls.length + 1) cap2)
  obtain ⟨uf, hqf⟩ : ∃ zz, zz = (((((w8.setCell ⟨W2.heap.size, 2, none⟩ (.bool !sm)).setCell ⟨w.heap.size + 1 + 1 + 1, 0, none⟩ (.slice np zs.length nc)).setCell ⟨w.heap.size + 1 + 1 + 1, 1, none⟩ (.int .i64 ex2)).setCell ⟨w.heap.size + 1 + 1 + 1, 2, none⟩ (.bool !sm)).setCell ⟨w.heap.size + 1 + 1 + 1, 3, none⟩ (.slice (some ⟨g2b, 0, none⟩) (ls.length + 1) cap2)) := ⟨_, rfl⟩
  rw [← hqf] at cxe nse
  have Yr : CellsAt uf (w.heap.size + 1 + 1 + 1) 27 #[.slice np zs.length nc, ex2, .bool !sm, .slice (some ⟨g2b, 0, none⟩) (ls.length + 1) cap2] := by rw [hqf]; exact CellsAt.set (CellsAt.set (CellsAt.set (CellsAt.set (Fr_8.ot) 0 (.slice np zs.length nc)) 1 (.int .i64 ex2)) 2 (.bool !sm)) 3 (.slice (some ⟨g2b, 0, none⟩) (ls.length + 1) cap2)
  have yz : Gr w uf := by rw [hqf]; exact ((((z8.sc _).sc _).sc _).sc _).sc _
  rw [← hqf];clear hqf;obtain ⟨cs0, cs1, cs2, cs3⟩ := Yr.t4;refine bodyPost_ret (v := .agg #[.slice np zs.length nc, ex2, .bool !sm, .slice (some ⟨g2b, 0, none⟩) (ls.length + 1) cap2]) ?_ rfl ⟨_, _, rfl, cxe, nse, yz, fun bb hb => ?_⟩
  ·simp [results, Tryz.results49, go_sem, *]
  ·cases hb; show w.heap.size ≤ g2b; omega
 ·have cb0 := CellsAt.cell (Fb_6) 0
  have cb1 := Fb_6.at 1;have cb2 := Fb_6.at 2;have cb3 := Fb_6.at 3;obtain ⟨cp0, cp1, cp2, cp3, cp4, cp5⟩ := Fp_6.t6;simp only [getS] at cb0;obtain ⟨mo0, mo1, mo2, mo3⟩ := Fo_6.f4;obtain ⟨co0, co1, co2, co3⟩ := Fo_6.t4;obtain ⟨mr0, mr1, mr2, mr3⟩ := Fr_6.f4;obtain ⟨cr0, cr1, cr2, cr3⟩ := Fr_6.t4;go_wp2_with fail;have apy := CxsAt.apart Ky_6 Fo_6;have apz := CxsAt.apart hz6 Fo_6;have KY7 := Ky_6.set apy 0 (.slice np zs.length nc);have KZ7 := hz6.set apz 0 (.slice np zs.length nc);have SH7 := SH6.st (W2.heap.size) 0 (.slice np zs.length nc);have aq := CxsAt.apart KZ7 (CellsAt.set (Fo_6) 0 (.slice np zs.length nc));have KZ8 := KZ7.set aq 2 (.bool true);have SH8 := SH7.st (W2.heap.size) 2 (.bool true);have ar := CxsAt.apart KZ8 ((Fr_6.ot).ot);have cxe := (((KZ8.set ar 0 (.slice np zs.length nc)).set ar 1 (.int .i64 ex2)).set ar 2 (.bool true)).set ar 3 (.slice (some ⟨g2b, 0, none⟩) (ls.length + 1) cap2);have nse := (((SH8.st (w.heap.size + 1 + 1 + 1) 0 (.slice np zs.length nc)).st (w.heap.size + 1 + 1 + 1) 1 (.int .i64 ex2)).st (w.heap.size + 1 + 1 + 1) 2 (.bool true)).st (w.heap.size + 1 + 1 + 1) 3 (.slice (some ⟨g2b, 0, none⟩) (ls.length + 1) cap2)
  obtain ⟨uf, hqf⟩ : ∃ zz, zz = ((((((w6.setCell ⟨W2.heap.size, 0, none⟩ (.slice np zs.length nc)).setCell ⟨W2.heap.size, 2, none⟩ (.bool true)).setCell ⟨w.heap.size + 1 + 1 + 1, 0, none⟩ (.slice np zs.length nc)).setCell ⟨w.heap.size + 1 + 1 + 1, 1, none⟩ (.int .i64 ex2)).setCell ⟨w.heap.size + 1 + 1 + 1, 2, none⟩ (.bool true)).setCell ⟨w.heap.size + 1 + 1 + 1, 3, none⟩ (.slice (some ⟨g2b, 0, none⟩) (ls.length + 1) cap2)) := ⟨_, rfl⟩
  rw [← hqf] at cxe nse
  have Yr : CellsAt uf (w.heap.size + 1 + 1 + 1) 27 #[.slice np zs.length nc, ex2, true, .slice (some ⟨g2b, 0, none⟩) (ls.length + 1) cap2] := by rw [hqf]; exact CellsAt.set (CellsAt.set (CellsAt.set (CellsAt.set ((Fr_6.ot).ot) 0 (.slice np zs.length nc)) 1 (.int .i64 ex2)) 2 (.bool true)) 3 (.slice (some ⟨g2b, 0, none⟩) (ls.length + 1) cap2)
  have yz : Gr w uf := by rw [hqf]; exact (((((z6.sc _).sc _).sc _).sc _).sc _).sc _
  rw [← hqf];clear hqf;obtain ⟨cs0, cs1, cs2, cs3⟩ := Yr.t4;refine bodyPost_ret (v := .agg #[.slice np zs.length nc, ex2, true, .slice (some ⟨g2b, 0, none⟩) (ls.length + 1) cap2]) ?_ rfl ⟨_, _, rfl, cxe, nse, yz, fun bb hb => ?_⟩
  ·simp [results, Tryz.results49, go_sem, *]
  ·cases hb; show w.heap.size ≤ g2b; omega
theorem next15_2bsA : (∀ (xs ws y1 ys zs : List Gi) (ls : List Int) (fo lo ke mo s bits ex ex2 h : Int) (iv sa sm : Bool) (bp sp : Option Addr) (bc sl : Nat) (hls : ls.length ≤ 20) (hh : decide (1 < h) = true) (hex : wrap64 (ex + s) = ex2) (HS : Hid (∀ W, CxsAt W (.slice bp xs.length bc) xs → Calls Tryz.prog 94 #[.slice bp xs.length bc, .agg #[fo, lo, ke, .int .i64 2, mo, iv], .int .i64 2] W fun e w' => e = .returned (.int .i64 s) ∧ Gr W w')) (HT : Hid (∀ W, Calls Tryz.prog 47 #[lo, fo] W fun e w' => ∃ u, e = .returned u ∧ CxsAt w' u ws ∧ Gr W w')) (HB : CR 42 #[fo] (.int .i64 bits)) (H1 : Hid (∀ vw W, CxsAt W (.slice bp xs.length bc) xs → CxsAt W vw ws → Calls Tryz.prog 95 #[.slice bp xs.length bc, vw, .int .i64 1, bits, s, mo, iv] W fun e w' => ∃ u, e = .returned u ∧ CxsAt w' u y1 ∧ Gr W w')) (H2 : Hid (∀ vw W, CxsAt W (.slice bp xs.length bc) xs → CxsAt W vw ws → Calls Tryz.prog 95 #[.slice bp xs.length bc, vw, h, bits, s, mo, iv] W fun e w' => ∃ u, e = .returned u ∧ CxsAt w' u ys ∧ Gr W w')) (HC : Hid (∀ v W, CxsAt W v ys → Calls Tryz.prog 44 #[v, fo] W fun e w' => ∃ u, e = .returned u ∧ CxsAt w' u zs ∧ Gr W w')) (HM : Hid (∀ u v W, CxsAt W u ys → CxsAt W v zs → Calls Tryz.prog 10 #[u, v] W fun e w' => e = .returned (.bool sm) ∧ Gr W w')) (w : World) (hv : CxsAt w (.slice bp xs.length bc) xs) (hl : NumsAt w (.slice sp ls.length sl) ls), Calls Tryz.prog 49 #[.agg #[.slice bp xs.length bc, ex, sa, .slice sp ls.length sl], .agg #[fo, lo, ke, .int .i64 2, mo, iv], .agg #[.int .i64 2, h]] w fun e w' => ∃ vx vs, e = .returned (.agg #[vx, ex2, .bool (sa || !sm), vs]) ∧ CxsAt w' vx zs ∧ NumsAt w' vs (ls ++ [s]) ∧ Gr w w' ∧ ∀ b, vs.ownBlock = some b → w.heap.size ≤ b) ∧ (∀ (xs ws y1 ys zs : List Gi) (ls : List Int) (fo lo ke mo s bits ex ex2 h : Int) (iv sa sm : Bool) (bp sp : Option Addr) (bc sl : Nat) (hls : ls.length ≤ 20) (hex : wrap64 (ex + s) = ex2) (HS : Hid (∀ W, CxsAt W (.slice bp xs.length bc) xs → Calls Tryz.prog 94 #[.slice bp xs.length bc, .agg #[fo, lo, ke, .int .i64 2, mo, iv], .int .i64 4] W fun e w' => e = .returned (.int .i64 s) ∧ Gr W w')) (HT : Hid (∀ W, Calls Tryz.prog 47 #[lo, fo] W fun e w' => ∃ u, e = .returned u ∧ CxsAt w' u ws ∧ Gr W w')) (HB : CR 42 #[fo] (.int .i64 bits)) (H1 : Hid (∀ vw W, CxsAt W (.slice bp xs.length bc) xs → CxsAt W vw ws → Calls Tryz.prog 95 #[.slice bp xs.length bc, vw, .int .i64 1, bits, s, mo, iv] W fun e w' => ∃ u, e = .returned u ∧ CxsAt w' u y1 ∧ Gr W w')) (H2 : Hid (∀ vw W, CxsAt W (.slice bp xs.length bc) xs → CxsAt W vw ws → Calls Tryz.prog 96 #[.slice bp xs.length bc, vw, h, bits, s, mo, iv] W fun e w' => ∃ u, e = .returned u ∧ CxsAt w' u ys ∧ Gr W w')) (HC : Hid (∀ v W, CxsAt W v ys → Calls Tryz.prog 44 #[v, fo] W fun e w' => ∃ u, e = .returned u ∧ CxsAt w' u zs ∧ Gr W w')) (HM : Hid (∀ u v W, CxsAt W u ys → CxsAt W v zs → Calls Tryz.prog 10 #[u, v] W fun e w' => e = .returned (.bool sm) ∧ Gr W w')) (w : World) (hv : CxsAt w (.slice bp xs.length bc) xs) (hl : NumsAt w (.slice sp ls.length sl) ls), Calls Tryz.prog 49 #[.agg #[.slice bp xs.length bc, ex, sa, .slice sp ls.length sl], .agg #[fo, lo, ke, .int .i64 2, mo, iv], .agg #[.int .i64 4, h]] w fun e w' => ∃ vx vs, e = .returned (.agg #[vx, ex2, .bool (sa || !sm), vs]) ∧ CxsAt w' vx zs ∧ NumsAt w' vs (ls ++ [s]) ∧ Gr w w' ∧ ∀ b, vs.ownBlock = some b → w.heap.size ≤ b) := by
 refine ⟨@fun xs ws y1 ys zs ls fo lo ke mo s bits ex ex2 h iv sa sm bp sp bc sl hls hh hex HS HT HB H1 H2 HC HM w hv hl => ?_, @fun xs ws y1 ys zs ls fo lo ke mo s bits ex ex2 h iv sa sm bp sp bc sl hls hex HS HT HB H1 H2 HC HM w hv hl => ?_⟩
 all_goals
  go_in;go_wp2_with fail;refine lc4 fun u0 gu R0 R1 R2 R3 => ?_
  have lb := R0.lt;have lp := R1.lt;have lq := R2.lt;have lr := R3.lt;obtain ⟨i0, hi, hz0, hz1, hz2⟩ := info_parts info_int;obtain ⟨cb0, cb1, cb2, cb3⟩ := R0.t4;obtain ⟨cp0, cp1, cp2, cp3, cp4, cp5⟩ := R1.t6;obtain ⟨cq0, cq1⟩ := R2.t2;go_wp2_with fail;clear cb0 cb1 cb2 cb3 cp0 cp1 cp2 cp3 cp4 cp5 cq0 cq1;refine (HS.out _ (hv.gr gu)).mono ?_;rintro e w1 ⟨rfl, g1⟩;have ⟨Fb_1, lb_1⟩ := R0.gl g1;have ⟨Fp_1, lp_1⟩ := R1.gl g1;have ⟨Fq_1, lq_1⟩ := R2.gl g1;have ⟨Fr_1, lr_1⟩ := R3.gl g1;have z1 := gu.trans g1;clear R0 R1 R2 R3 gu g1;obtain ⟨cp0, cp1, cp2, cp3, cp4, cp5⟩ := Fp_1.t6;go_wp2_with fail;clear cp0 cp1 cp2 cp3 cp4 cp5;refine (HT.out _).mono ?_;rintro e w2 ⟨vw, rfl, hw2, g2⟩;obtain ⟨wp, wc, rfl⟩ := hw2.len;have ⟨Fb_2, lb_2⟩ := Fb_1.gl g2;have ⟨Fp_2, lp_2⟩ := Fp_1.gl g2;have ⟨Fq_2, lq_2⟩ := Fq_1.gl g2;have ⟨Fr_2, lr_2⟩ := Fr_1.gl g2;have z2 := z1.trans g2;clear Fb_1 Fp_1 Fq_1 Fr_1 z1 g2;obtain ⟨cp0, cp1, cp2, cp3, cp4, cp5⟩ := Fp_2.t6;go_wp2_with fail;clear cp0 cp1 cp2 cp3 cp4 cp5;refine (HB.out _).mono ?_;rintro e w3 ⟨rfl, g3⟩;have ⟨Fb_3, lb_3⟩ := Fb_2.gl g3;have ⟨Fp_3, lp_3⟩ := Fp_2.gl g3;have ⟨Fq_3, lq_3⟩ := Fq_2.gl g3;have ⟨Fr_3, lr_3⟩ := Fr_2.gl g3;have Kw_3 := hw2.gr g3;have z3 := z2.trans g3;clear Fb_2 Fp_2 Fq_2 Fr_2 z2 g3;obtain ⟨cb0, cb1, cb2, cb3⟩ := Fb_3.t4;obtain ⟨cp0, cp1, cp2, cp3, cp4, cp5⟩ := Fp_3.t6;go_wp2_with fail;clear cb0 cb1 cb2 cb3 cp0 cp1 cp2 cp3 cp4 cp5;refine (H1.out _ _ (hv.gr z3) Kw_3).mono ?_;rintro e w4 ⟨vy, rfl, hy4, g4⟩;obtain ⟨yp, yc, rfl⟩ := hy4.len
  have ⟨Fb_4, lb_4⟩ := Fb_3.gl g4;have ⟨Fp_4, lp_4⟩ := Fp_3.gl g4;have ⟨Fq_4, lq_4⟩ := Fq_3.gl g4;have ⟨Fr_4, lr_4⟩ := Fr_3.gl g4;have Kw_4 := Kw_3.gr g4;have z4 := z3.trans g4;clear Fb_3 Fp_3 Fq_3 Fr_3 z3 g4;obtain ⟨cb0, cb1, cb2, cb3⟩ := Fb_4.t4;obtain ⟨cp0, cp1, cp2, cp3, cp4, cp5⟩ := Fp_4.t6;obtain ⟨cq0, cq1⟩ := Fq_4.t2;go_wp2_with fail;clear cb0 cb1 cb2 cb3 cp0 cp1 cp2 cp3 cp4 cp5 cq0 cq1;refine (H2.out _ _ (hv.gr z4) Kw_4).mono ?_;rintro e w5 ⟨vz, rfl, hz5, g5⟩;obtain ⟨zp, zc, rfl⟩ := hz5.len;have ⟨Fb_5, lb_5⟩ := Fb_4.gl g5;have ⟨Fp_5, lp_5⟩ := Fp_4.gl g5;have ⟨Fq_5, lq_5⟩ := Fq_4.gl g5;have ⟨Fr_5, lr_5⟩ := Fr_4.gl g5;have Kw_5 := Kw_4.gr g5;have Ky_5 := hy4.gr g5;have z5 := z4.trans g5;clear Fb_4 Fp_4 Fq_4 Fr_4 z4 g5;obtain ⟨cb0, cb1, cb2, cb3⟩ := Fb_5.t4;obtain ⟨cp0, cp1, cp2, cp3, cp4, cp5⟩ := Fp_5.t6;obtain ⟨cq0, cq1⟩ := Fq_5.t2;have hlw := (hl.gr (z5)).gr ((Gr.refl w5).alloc #[] 3);have lrz := Fr_5.lt;have hgz := (z5).size
  go_wp2_with (first | (at_builtin; refine wpList_append_nums rfl (.tmp 73) (.tmp 75) rfl w5.heap.size _ 0 [] ls rfl (World.ownsRow_made w5 #[] 0 (Nat.le_refl _) (by unfold maxLen; omega) (by simp)) sp sl rfl hlw (by omega) (by simp) ?_; intro v1 W1 hown1 hgrow1 hblk1; rw [Nat.zero_add, List.nil_append] at hown1; have G1 : Gr w5 W1 := ((Gr.refl w5).alloc _ _).grown hgrow1 (fun k e => by cases e; exact Nat.le_refl _); clear hgrow1 hblk1) | (at_builtin; refine Go.wpList_append_lies _ rfl (.tmp 77) (.tmp 79) 22 rfl w5.heap.size 3 i0 (.int .i64 0) 1 8 Tryz.underlying22 hi hz0 hz1 hz2 rfl (by decide) v1 ls.length _ rfl (hown1.alloc _) ⟨W1.heap.size, 0, none⟩ 1 1 [.int .i64 s] rfl rfl (cell_one_new _ _ _) (by simp [Value.oneCell']) (by omega) (by unfold maxLen; omega) (by omega) (by have := G1.size; simp; omega) _ rfl ?_; intro g2b cap2 W2 hown2 hgrow2 hor2 hlt2; have hbs := hown1.lt; have G2 : Gr w5 W2 := (G1.alloc _ _).grown hgrow2 (fun k e => (hbs k e).1); clear hgrow2 hor2 hown1 G1; have Eb := Fb_5.gr G2; have leb := Eb.lt; obtain ⟨db0, db1, db2, db3⟩ := Eb.t4; have Ep := Fp_5.gr G2; have lep := Ep.lt; obtain ⟨dp0, dp1, dp2, dp3, dp4, dp5⟩ := Ep.t6; have Er := Fr_5.gr G2; have ler := Er.lt; obtain ⟨dr0, dr1, dr2, dr3⟩ := Er.t4; obtain ⟨nr0, nr1, nr2, nr3⟩ := Er.f4))
  have hsh : NumsAt W2 (.slice (some ⟨g2b, 0, none⟩) (ls ++ [s]).length cap2) (ls ++ [s]) := by
   have := NumsAt.of_row (xs := ls ++ [s]) (by rw [List.map_append]; exact hown2)
   rw [List.length_append]
   exact this
  have hgb := (hown2.lt g2b rfl).1;have KY := hz5.gr G2;have zW2 := z5.trans G2;have hgw := (hown2.lt g2b rfl).2;rw [List.length_append] at hsh;have KY5 := KY.gr ((Gr.refl W2).alloc #[.slice zp ys.length zc, ex2, sa, .slice (some ⟨g2b, 0, none⟩) (ls.length + 1) cap2] 27);have SH5 := hsh.gr ((Gr.refl W2).alloc #[.slice zp ys.length zc, ex2, sa, .slice (some ⟨g2b, 0, none⟩) (ls.length + 1) cap2] 27)
  obtain ⟨wo, hwo⟩ : ∃ zz, zz = (W2.alloc (.cells #[.slice zp ys.length zc, ex2, sa, .slice (some ⟨g2b, 0, none⟩) (ls.length + 1) cap2] 27)) := ⟨_, rfl⟩
  have hos : wo.heap.size = W2.heap.size + 1 := by rw [hwo]; simp
  rw [← hwo] at KY5 SH5
  have Ybo : CellsAt wo (w.heap.size) 27 #[.slice bp xs.length bc, ex, sa, .slice sp ls.length sl] := by rw [hwo]; first | exact Eb.alloc _ | simpa using Eb.alloc _
  have Ypo : CellsAt wo (w.heap.size + 1) 24 #[fo, lo, ke, .int .i64 2, mo, iv] := by rw [hwo]; first | exact Ep.alloc _ | simpa using Ep.alloc _
  have Yro : CellsAt wo (w.heap.size + 1 + 1 + 1) 27 #[.slice none 0 0, .int .i64 0, false, .slice none 0 0] := by rw [hwo]; first | exact Er.alloc _ | simpa using Er.alloc _
  have Yoo : CellsAt wo (W2.heap.size) 27 #[.slice zp ys.length zc, ex2, sa, .slice (some ⟨g2b, 0, none⟩) (ls.length + 1) cap2] := by rw [hwo]; have q_ := CellsAt.new W2 27 #[.slice zp ys.length zc, ex2, sa, .slice (some ⟨g2b, 0, none⟩) (ls.length + 1) cap2]; first | exact q_ | simpa using q_
  have yo : Gr w wo := by rw [hwo]; exact zW2.alloc _ _
  try rw [← hwo]
  clear hwo;refine (HC.out _ _ KY5).mono ?_;rintro e w6 ⟨vz, rfl, hz6, g6⟩;obtain ⟨np, nc, rfl⟩ := hz6.len;have SH6 := SH5.gr g6;have hz6s := g6.size;have ⟨Fb_6, lb_6⟩ := Ybo.gl g6;have ⟨Fp_6, lp_6⟩ := Ypo.gl g6;have ⟨Fr_6, lr_6⟩ := Yro.gl g6;have ⟨Fo_6, lo_6⟩ := Yoo.gl g6;have Ky_6 := KY5.gr g6;have z6 := yo.trans g6;clear Ybo Ypo Yro Yoo yo g6
  cases sa
  ·have cb0 := CellsAt.cell (Fb_6) 0
   have cb1 := Fb_6.at 1;have cb2 := Fb_6.at 2;have cb3 := Fb_6.at 3;obtain ⟨cp0, cp1, cp2, cp3, cp4, cp5⟩ := Fp_6.t6;simp only [getS] at cb0;obtain ⟨mo0, mo1, mo2, mo3⟩ := Fo_6.f4;obtain ⟨co0, co1, co2, co3⟩ := Fo_6.t4;go_wp2_with fail;clear cb0 cb1 cb2 cb3 cp0 cp1 cp2 cp3 cp4 cp5 mo0 co0 mo1 co1 mo2 co2 mo3 co3;have apy := CxsAt.apart Ky_6 Fo_6;have apz := CxsAt.apart hz6 Fo_6;have KY7 := Ky_6.set apy 0 (.slice np zs.length nc);have KZ7 := hz6.set apz 0 (.slice np zs.length nc);have SH7 := SH6.st (W2.heap.size) 0 (.slice np zs.length nc)
   obtain ⟨wq, hwq⟩ : ∃ zz, zz = (w6.setCell ⟨W2.heap.size, 0, none⟩ (.slice np zs.length nc)) := ⟨_, rfl⟩
   rw [← hwq] at KY7 KZ7 SH7
   have Ybq : CellsAt wq (w.heap.size) 27 #[.slice bp xs.length bc, ex, false, .slice sp ls.length sl] := by rw [hwq]; first | exact Fb_6.ot | simpa using Fb_6.ot
   have Ypq : CellsAt wq (w.heap.size + 1) 24 #[fo, lo, ke, .int .i64 2, mo, iv] := by rw [hwq]; first | exact Fp_6.ot | simpa using Fp_6.ot
   have Yrq : CellsAt wq (w.heap.size + 1 + 1 + 1) 27 #[.slice none 0 0, .int .i64 0, false, .slice none 0 0] := by rw [hwq]; first | exact Fr_6.ot | simpa using Fr_6.ot
   have Yoq : CellsAt wq (W2.heap.size) 27 #[.slice np zs.length nc, ex2, false, .slice (some ⟨g2b, 0, none⟩) (ls.length + 1) cap2] := by rw [hwq]; have q_ := CellsAt.set (Fo_6) 0 (.slice np zs.length nc); first | exact q_ | simpa using q_
   have yq : Gr w wq := by rw [hwq]; exact z6.sc _
   try rw [← hwq]
   clear hwq;refine (HM.out _ _ _ KY7 KZ7).mono ?_;rintro e w8 ⟨rfl, g8⟩;replace KZ7 := KZ7.gr g8;replace SH7 := SH7.gr g8;have g8s := g8.size;have ⟨Fb_8, lb_8⟩ := Ybq.gl g8;have ⟨Fp_8, lp_8⟩ := Ypq.gl g8;have ⟨Fr_8, lr_8⟩ := Yrq.gl g8;have ⟨Fo_8, lo_8⟩ := Yoq.gl g8;have z8 := yq.trans g8;clear Ybq Ypq Yrq Yoq yq g8;obtain ⟨co0, co1, co2, co3⟩ := Fo_8.t4;obtain ⟨mo0, mo1, mo2, mo3⟩ := Fo_8.f4;obtain ⟨mr0, mr1, mr2, mr3⟩ := Fr_8.f4;obtain ⟨cr0, cr1, cr2, cr3⟩ := Fr_8.t4;go_wp2_with fail;clear co0 co1 co2 co3 mo0 mo1 mo2 mo3 mr0 cr0 mr1 cr1 mr2 cr2 mr3 cr3;have aq := CxsAt.apart KZ7 (Fo_8);have KZ8 := KZ7.set aq 2 (.bool !sm);have SH8 := SH7.st (W2.heap.size) 2 (.bool !sm);have ar := CxsAt.apart KZ8 (Fr_8.ot);have cxe := (((KZ8.set ar 0 (.slice np zs.length nc)).set ar 1 (.int .i64 ex2)).set ar 2 (.bool !sm)).set ar 3 (.slice (some ⟨g2b, 0, none⟩) (ls.length + 1) cap2);have nse := (((SH8.st (w.heap.size + 1 + 1 + 1) 0 (.slice np zs.length nc)).st (w.heap.size + 1 + 1 + 1) 1 (.int .i64 ex2)).st (w.heap.size + 1 + 1 + 1) 2 (.bool !sm)).st (w.heap.size + 1 + 1 + 1) 3 (.slice (some ⟨g2b, 0, none⟩) (ls.length + 1) cap2)
   obtain ⟨uf, hqf⟩ : ∃ zz, zz = (((((w8.setCell ⟨W2.heap.size, 2, none⟩ (.bool !sm)).setCell ⟨w.heap.size + 1 + 1 + 1, 0, none⟩ (.slice np zs.length nc)).setCell ⟨w.heap.size + 1 + 1 + 1, 1, none⟩ (.int .i64 ex2)).setCell ⟨w.heap.size + 1 + 1 + 1, 2, none⟩ (.bool !sm)).setCell ⟨w.heap.size + 1 + 1 + 1, 3, none⟩ (.slice (some ⟨g2b, 0, none⟩) (ls.length + 1) cap2)) := ⟨_, rfl⟩
   rw [← hqf] at cxe nse
   have Yr : CellsAt uf (w.heap.size + 1 + 1 + 1) 27 #[.slice np zs.length nc, ex2, .bool !sm, .slice (some ⟨g2b, 0, none⟩) (ls.length + 1) cap2] := by rw [hqf]; exact CellsAt.set (CellsAt.set (CellsAt.set (CellsAt.set (Fr_8.ot) 0 (.slice np zs.length nc)) 1 (.int .i64 ex2)) 2 (.bool !sm)) 3 (.slice (some ⟨g2b, 0, none⟩) (ls.length + 1) cap2)
   have yz : Gr w uf := by rw [hqf]; exact ((((z8.sc _).sc _).sc _).sc _).sc _
   rw [← hqf];clear hqf;obtain ⟨cs0, cs1, cs2, cs3⟩ := Yr.t4;refine bodyPost_ret (v := .agg #[.slice np zs.length nc, ex2, .bool !sm, .slice (some ⟨g2b, 0, none⟩) (ls.length + 1) cap2]) ?_ rfl ⟨_, _, rfl, cxe, nse, yz, fun bb hb => ?_⟩
   ·simp [results, Tryz.results49, go_sem, *]
   ·cases hb; show w.heap.size ≤ g2b; omega
  ·have cb0 := CellsAt.cell (Fb_6) 0
   have cb1 := Fb_6.at 1;have cb2 := Fb_6.at 2;have cb3 := Fb_6.at 3;obtain ⟨cp0, cp1, cp2, cp3, cp4, cp5⟩ := Fp_6.t6;simp only [getS] at cb0;obtain ⟨mo0, mo1, mo2, mo3⟩ := Fo_6.f4;obtain ⟨co0, co1, co2, co3⟩ := Fo_6.t4;obtain ⟨mr0, mr1, mr2, mr3⟩ := Fr_6.f4;obtain ⟨cr0, cr1, cr2, cr3⟩ := Fr_6.t4;go_wp2_with fail;have apy := CxsAt.apart Ky_6 Fo_6;have apz := CxsAt.apart hz6 Fo_6;have KY7 := Ky_6.set apy 0 (.slice np zs.length nc);have KZ7 := hz6.set apz 0 (.slice np zs.length nc);have SH7 := SH6.st (W2.heap.size) 0 (.slice np zs.length nc);have aq := CxsAt.apart KZ7 (CellsAt.set (Fo_6) 0 (.slice np zs.length nc));have KZ8 := KZ7.set aq 2 (.bool true);have SH8 := SH7.st (W2.heap.size) 2 (.bool true);have ar := CxsAt.apart KZ8 ((Fr_6.ot).ot);have cxe := (((KZ8.set ar 0 (.slice np zs.length nc)).set ar 1 (.int .i64 ex2)).set ar 2 (.bool true)).set ar 3 (.slice (some ⟨g2b, 0, none⟩) (ls.length + 1) cap2);have nse := (((SH8.st (w.heap.size + 1 + 1 + 1) 0 (.slice np zs.length nc)).st (w.heap.size + 1 + 1 + 1) 1 (.int .i64 ex2)).st (w.heap.size + 1 + 1 + 1) 2 (.bool true)).st (w.heap.size + 1 + 1 + 1) 3 (.slice (some ⟨g2b, 0, none⟩) (ls.length + 1) cap2)
   obtain ⟨uf, hqf⟩ : ∃ zz, zz = ((((((w6.setCell ⟨W2.heap.size, 0, none⟩ (.slice np zs.length nc)).setCell ⟨W2.heap.size, 2, none⟩ (.bool true)).setCell ⟨w.heap.size + 1 + 1 + 1, 0, none⟩ (.slice np zs.length nc)).setCell ⟨w.heap.size + 1 + 1 + 1, 1, none⟩ (.int .i64 ex2)).setCell ⟨w.heap.size + 1 + 1 + 1, 2, none⟩ (.bool true)).setCell ⟨w.heap.size + 1 + 1 + 1, 3, none⟩ (.slice (some ⟨g2b, 0, none⟩) (ls.length + 1) cap2)) := ⟨_, rfl⟩
   rw [← hqf] at cxe nse
   have Yr : CellsAt uf (w.heap.size + 1 + 1 + 1) 27 #[.slice np zs.length nc, ex2, true, .slice (some ⟨g2b, 0, none⟩) (ls.length + 1) cap2] := by rw [hqf]; exact CellsAt.set (CellsAt.set (CellsAt.set (CellsAt.set ((Fr_6.ot).ot) 0 (.slice np zs.length nc)) 1 (.int .i64 ex2)) 2 (.bool true)) 3 (.slice (some ⟨g2b, 0, none⟩) (ls.length + 1) cap2)
   have yz : Gr w uf := by rw [hqf]; exact (((((z6.sc _).sc _).sc _).sc _).sc _).sc _
   rw [← hqf];clear hqf;obtain ⟨cs0, cs1, cs2, cs3⟩ := Yr.t4;refine bodyPost_ret (v := .agg #[.slice np zs.length nc, ex2, true, .slice (some ⟨g2b, 0, none⟩) (ls.length + 1) cap2]) ?_ rfl ⟨_, _, rfl, cxe, nse, yz, fun bb hb => ?_⟩
   ·simp [results, Tryz.results49, go_sem, *]
   ·cases hb; show w.heap.size ≤ g2b; omega
end
end Go.Proofs.YtdignnmpfkgkoaaGreat
