import Derived.Test.YtdignnmpfkgkoaaGreatGS31
namespace Go.Proofs.YtdignnmpfkgkoaaGreat
section
open Go.ChangeShapes Go.WideShapes Go.ChangeAt Go.RowKit
set_option linter.unusedVariables false
set_option linter.unusedSimpArgs false
set_option maxRecDepth 100000
set_option maxHeartbeats 4000000 in
theorem ftBehind_of (xs ws ys zs : List Gi) (ls : List Int) (fo lo ke sc mo s bits ex ex2 k h : Int) (iv sa cl : Bool) (bp sp wp : Option Addr) (bc sl wc mB : Nat) (hls : ls.length ≤ 20) (sT : TypeId) (rV : Value) (F1 F2 F3 : FuncId) (e1 : Enters F1) (e2 : Enters F2) (e3 : Enters F3) (m1 : ∀ n W, (method (n + 1) sT rV "headroom/fft.shift").run Tryz.prog W = .ok (F1, rV) W) (m2 : ∀ n W, (method (n + 1) sT rV "headroom/fft.fitted").run Tryz.prog W = .ok (F2, rV) W) (HL : Hid (∀ W, KMap W mB → (Instr.lookup 84 (.map (some mB)) (.int .i64 k) false).run Tryz.prog W = .ok (.func (.func F3) #[] #[]) W)) (hex : wrap64 (ex + s) = ex2)
 (HS : Hid (∀ W, CxsAt W (.slice bp xs.length bc) xs → Calls Tryz.prog F1 #[rV, .slice bp xs.length bc, .int .i64 k] W fun e w' => e = .returned (.int .i64 s) ∧ Gr W w'))
 (HP : Hid (∀ W, CxsAt W (.slice bp xs.length bc) xs → CxsAt W (.slice wp ws.length wc) ws → Calls Tryz.prog F3 #[.slice bp xs.length bc, .slice wp ws.length wc, .int .i64 h, .int .i64 bits, .int .i64 s, .int .i64 mo, .bool iv] W fun e w' => ∃ v', e = .returned (.tuple #[v', .int .i64 0]) ∧ CxsAt w' v' ys ∧ Gr W w'))
 (HF : Hid (∀ v W, CxsAt W v ys → Calls Tryz.prog F2 #[rV, v] W fun e w' => ∃ v', e = .returned (.tuple #[v', .bool cl]) ∧ CxsAt w' v' zs ∧ Gr W w'))
 (w : World) (hv : CxsAt w (.slice bp xs.length bc) xs) (hl : NumsAt w (.slice sp ls.length sl) ls) (hw : CxsAt w (.slice wp ws.length wc) ws) (hm : KMap w mB) :
 Calls Tryz.prog 66 #[.agg #[.int .i64 fo, .int .i64 lo, .int .i64 ke, .int .i64 sc, .int .i64 mo, .bool iv, .iface sT rV, .map (some mB), .slice wp ws.length wc, .int .i64 bits], .agg #[.slice bp xs.length bc, .int .i64 ex, .bool sa, .slice sp ls.length sl], .agg #[.int .i64 k, .int .i64 h]] w fun e w' => ∃ ux us, e = .returned (.agg #[ux, .int .i64 ex2, .bool (sa || cl), us]) ∧ CxsAt w' ux zs ∧ NumsAt w' us (ls ++ [s]) ∧ Gr w w' ∧ ∀ b, us.ownBlock = some b → w.heap.size ≤ b := by
 unfold Enters at e1 e2 e3
 have HC := Lib.hid fun W h => ftClone_c (.slice sp ls.length sl) ls hls W h
 go_enter Tryz.func66, Tryz.ntmps66
 go_wp2_with fail
 obtain ⟨u0, hU⟩ : ∃ uu, uu = ((((w.alloc (.cells #[.int .i64 fo, .int .i64 lo, .int .i64 ke, .int .i64 sc, .int .i64 mo, .bool iv, .iface sT rV, .map (some mB), .slice wp ws.length wc, .int .i64 bits] 86)).alloc (.cells #[.slice bp xs.length bc, .int .i64 ex, .bool sa, .slice sp ls.length sl] 27)).alloc (.cells #[.int .i64 k, .int .i64 h] 72)).alloc (.cells #[.slice none 0 0, .int .i64 0, .bool false, .slice none 0 0] 27)) := ⟨_, rfl⟩
 have ⟨gu, R0, R1, R2, R3⟩ := lay4 hU
 rw [← hU]
 clear hU
 have lt := R0.lt
 have lb := R1.lt
 have lq := R2.lt
 have lr := R3.lt
 obtain ⟨i0, hi, hz0, hz1, hz2⟩ := info_parts info_int
 have hv0 := hv.gr gu
 have hw0 := hw.gr gu
 have hl0 := hl.gr gu
 have hm0 := hm.gr gu
 obtain ⟨ct0, ct1, ct2, ct3, ct4, ct5, ct6, ct7, ct8, ct9⟩ := R0.t10
 obtain ⟨cb0, cb1, cb2, cb3⟩ := R1.t4
 obtain ⟨cq0, cq1⟩ := R2.t2
 go_wp2_with fail
 clear ct0 ct1 ct2 ct3 ct4 ct5 ct6 ct7 ct8 ct9 cb0 cb1 cb2 cb3 cq0 cq1
 refine (HS.out _ hv0).mono ?_
 rintro e w1 ⟨rfl, g1⟩
 have ⟨Ft_1, lt_1⟩ := CellsAt.gl (R0) g1
 have ⟨Fb_1, lb_1⟩ := CellsAt.gl (R1) g1
 have ⟨Fq_1, lq_1⟩ := CellsAt.gl (R2) g1
 have ⟨Fr_1, lr_1⟩ := CellsAt.gl (R3) g1
 have Kx_1 := CxsAt.gr (hv0) g1
 have Kw_1 := CxsAt.gr (hw0) g1
 have MK_1 := KMap.gr (hm0) g1
 have z1 := (gu).trans g1
 clear R0 R1 R2 R3 gu g1
 have hlk := HL.out _ MK_1
 obtain ⟨ct0, ct1, ct2, ct3, ct4, ct5, ct6, ct7, ct8, ct9⟩ := Ft_1.t10
 obtain ⟨cb0, cb1, cb2, cb3⟩ := Fb_1.t4
 obtain ⟨cq0, cq1⟩ := Fq_1.t2
 go_wp2_with fail
 clear ct0 ct1 ct2 ct3 ct4 ct5 ct6 ct7 ct8 ct9 cb0 cb1 cb2 cb3 cq0 cq1
 clear hlk
 refine (HP.out _ Kx_1 Kw_1).mono ?_
 rintro e w2 ⟨vy, rfl, hy, g2⟩
 have ⟨Ft_2, lt_2⟩ := CellsAt.gl (Ft_1) g2
 have ⟨Fb_2, lb_2⟩ := CellsAt.gl (Fb_1) g2
 have ⟨Fq_2, lq_2⟩ := CellsAt.gl (Fq_1) g2
 have ⟨Fr_2, lr_2⟩ := CellsAt.gl (Fr_1) g2
 have Kx_2 := CxsAt.gr (Kx_1) g2
 have Kw_2 := CxsAt.gr (Kw_1) g2
 have MK_2 := KMap.gr (MK_1) g2
 have z2 := (z1).trans g2
 clear Ft_1 Fb_1 Fq_1 Fr_1 z1 g2
 obtain ⟨yp, yc, rfl⟩ := hy.len
 obtain ⟨ct0, ct1, ct2, ct3, ct4, ct5, ct6, ct7, ct8, ct9⟩ := Ft_2.t10
 go_wp2_with fail
 clear ct0 ct1 ct2 ct3 ct4 ct5 ct6 ct7 ct8 ct9
 refine (HF.out _ _ hy).mono ?_
 rintro e w3 ⟨vz, rfl, hz, g3⟩
 have ⟨Ft_3, lt_3⟩ := CellsAt.gl (Ft_2) g3
 have ⟨Fb_3, lb_3⟩ := CellsAt.gl (Fb_2) g3
 have ⟨Fq_3, lq_3⟩ := CellsAt.gl (Fq_2) g3
 have ⟨Fr_3, lr_3⟩ := CellsAt.gl (Fr_2) g3
 have Ky_3 := CxsAt.gr (hy) g3
 have z3 := (z2).trans g3
 clear Ft_2 Fb_2 Fq_2 Fr_2 z2 g3
 obtain ⟨zp, zc, rfl⟩ := hz.len
 obtain ⟨cb0, cb1, cb2, cb3⟩ := Fb_3.t4
 go_wp2_with fail
 clear cb0 cb1 cb2 cb3
 have hlw := hl.gr (z3)
 have lr3 := CellsAt.lt (Fr_3)
 have hg3 := (z3).size
 refine (HC.out _ hlw).mono ?_
 rintro e w4 ⟨vc, rfl, hown, g4⟩
 cases sa
 ·go_wp2_with (at_builtin; refine Go.wpList_append_lies _ rfl (.tmp 54) (.tmp 56) 22 rfl w3.heap.size 3 i0 (.int .i64 0) 1 8 Tryz.underlying22 hi hz0 hz1 hz2 rfl (by decide) vc ls.length _ rfl (hown.alloc _) ⟨w4.heap.size, 0, none⟩ 1 1 [.int .i64 s] rfl rfl (cell_one_new _ _ _) (by simp [Value.oneCell']) (by omega) (by unfold maxLen; omega) (by omega) (by have := g4.size; simp; omega) _ rfl ?_; intro g2b cap2 W2 hown2 hgrow2 hor2 hlt2; have hbs := hown.lt; have G2 : Gr w3 W2 := (g4.alloc _ _).grown hgrow2 (fun k e => (hbs k e).1); clear hgrow2 hor2 hown g4; have Eb := CellsAt.gr (Fb_3) G2; have leb := CellsAt.lt Eb; have db0 := CellsAt.cell Eb 0; simp only [getS] at db0; have db1 := CellsAt.cell Eb 1; simp only [getS] at db1; have db2 := CellsAt.cell Eb 2; simp only [getS] at db2; have db3 := CellsAt.cell Eb 3; simp only [getS] at db3; have Er := CellsAt.gr (Fr_3) G2; have ler := CellsAt.lt Er; have dr0 := CellsAt.cell Er 0; simp only [getS] at dr0; have nr0 := CellsAt.frozen Er 0; have dr1 := CellsAt.cell Er 1; simp only [getS] at dr1; have nr1 := CellsAt.frozen Er 1; have dr2 := CellsAt.cell Er 2; simp only [getS] at dr2; have nr2 := CellsAt.frozen Er 2; have dr3 := CellsAt.cell Er 3; simp only [getS] at dr3; have nr3 := CellsAt.frozen Er 3)
  have hsh : NumsAt W2 (.slice (some ⟨g2b, 0, none⟩) (ls ++ [s]).length cap2) (ls ++ [s]) := by
   have := NumsAt.of_row (xs := ls ++ [s]) (by rw [List.map_append]; exact hown2)
   rw [List.length_append]
   exact this
  have hgb := (hown2.lt g2b rfl).1
  have KY := hz.gr G2
  have zW2 := (z3).trans G2
  have hap := CxsAt.apart KY Er
  have cxe := (((KY.set hap 0 (.slice zp zs.length zc)).set hap 1 (.int .i64 ex2)).set hap 2 (.bool cl)).set hap 3 (.slice (some ⟨g2b, 0, none⟩) (ls.length + 1) cap2)
  have nse := (((hsh.set (B := w.heap.size + 1 + 1 + 1) (fun e => by have := Option.some.inj e; simp only at this; omega) 0 (.slice zp zs.length zc)).set (B := w.heap.size + 1 + 1 + 1) (fun e => by have := Option.some.inj e; simp only at this; omega) 1 (.int .i64 ex2)).set (B := w.heap.size + 1 + 1 + 1) (fun e => by have := Option.some.inj e; simp only at this; omega) 2 (.bool cl)).set (B := w.heap.size + 1 + 1 + 1) (fun e => by have := Option.some.inj e; simp only at this; omega) 3 (.slice (some ⟨g2b, 0, none⟩) (ls.length + 1) cap2)
  obtain ⟨uf, hqf⟩ : ∃ zz, zz = ((((W2.setCell ⟨w.heap.size + 1 + 1 + 1, 0, none⟩ (.slice zp zs.length zc)).setCell ⟨w.heap.size + 1 + 1 + 1, 1, none⟩ (.int .i64 ex2)).setCell ⟨w.heap.size + 1 + 1 + 1, 2, none⟩ (.bool cl)).setCell ⟨w.heap.size + 1 + 1 + 1, 3, none⟩ (.slice (some ⟨g2b, 0, none⟩) (ls.length + 1) cap2)) := ⟨_, rfl⟩
  rw [List.length_append] at nse
  rw [← hqf] at cxe nse
  have Yr : CellsAt uf (w.heap.size + 1 + 1 + 1) 27 #[.slice zp zs.length zc, .int .i64 ex2, .bool cl, .slice (some ⟨g2b, 0, none⟩) (ls.length + 1) cap2] := by rw [hqf]; first | exact CellsAt.set (CellsAt.set (CellsAt.set (CellsAt.set (Er) 0 (.slice zp zs.length zc)) 1 (.int .i64 ex2)) 2 (.bool cl)) 3 (.slice (some ⟨g2b, 0, none⟩) (ls.length + 1) cap2) | simpa using CellsAt.set (CellsAt.set (CellsAt.set (CellsAt.set (Er) 0 (.slice zp zs.length zc)) 1 (.int .i64 ex2)) 2 (.bool cl)) 3 (.slice (some ⟨g2b, 0, none⟩) (ls.length + 1) cap2)
  have yz : Gr w uf := by rw [hqf]; exact ((((zW2).setCell (by first | omega | (simp only; omega)) _).setCell (by first | omega | (simp only; omega)) _).setCell (by first | omega | (simp only; omega)) _).setCell (by first | omega | (simp only; omega)) _
  rw [← hqf]
  clear hqf
  have cr0 := CellsAt.cell Yr 0
  have cr1 := CellsAt.cell Yr 1
  have cr2 := CellsAt.cell Yr 2
  have cr3 := CellsAt.cell Yr 3
  simp only [getS] at cr0 cr1 cr2 cr3
  refine bodyPost_ret (v := .agg #[.slice zp zs.length zc, .int .i64 ex2, .bool cl, .slice (some ⟨g2b, 0, none⟩) (ls.length + 1) cap2]) ?_ rfl ⟨_, _, rfl, cxe, nse, yz, fun bb hb => ?_⟩
  ·simp [results, Tryz.results66, go_sem, *]
  ·cases hb; show w.heap.size ≤ g2b; omega
 ·go_wp2_with (at_builtin; refine Go.wpList_append_lies _ rfl (.tmp 54) (.tmp 56) 22 rfl w3.heap.size 3 i0 (.int .i64 0) 1 8 Tryz.underlying22 hi hz0 hz1 hz2 rfl (by decide) vc ls.length _ rfl (hown.alloc _) ⟨w4.heap.size, 0, none⟩ 1 1 [.int .i64 s] rfl rfl (cell_one_new _ _ _) (by simp [Value.oneCell']) (by omega) (by unfold maxLen; omega) (by omega) (by have := g4.size; simp; omega) _ rfl ?_; intro g2b cap2 W2 hown2 hgrow2 hor2 hlt2; have hbs := hown.lt; have G2 : Gr w3 W2 := (g4.alloc _ _).grown hgrow2 (fun k e => (hbs k e).1); clear hgrow2 hor2 hown g4; have Eb := CellsAt.gr (Fb_3) G2; have leb := CellsAt.lt Eb; have db0 := CellsAt.cell Eb 0; simp only [getS] at db0; have db1 := CellsAt.cell Eb 1; simp only [getS] at db1; have db2 := CellsAt.cell Eb 2; simp only [getS] at db2; have db3 := CellsAt.cell Eb 3; simp only [getS] at db3; have Er := CellsAt.gr (Fr_3) G2; have ler := CellsAt.lt Er; have dr0 := CellsAt.cell Er 0; simp only [getS] at dr0; have nr0 := CellsAt.frozen Er 0; have dr1 := CellsAt.cell Er 1; simp only [getS] at dr1; have nr1 := CellsAt.frozen Er 1; have dr2 := CellsAt.cell Er 2; simp only [getS] at dr2; have nr2 := CellsAt.frozen Er 2; have dr3 := CellsAt.cell Er 3; simp only [getS] at dr3; have nr3 := CellsAt.frozen Er 3)
  have hsh : NumsAt W2 (.slice (some ⟨g2b, 0, none⟩) (ls ++ [s]).length cap2) (ls ++ [s]) := by
   have := NumsAt.of_row (xs := ls ++ [s]) (by rw [List.map_append]; exact hown2)
   rw [List.length_append]
   exact this
  have hgb := (hown2.lt g2b rfl).1
  have KY := hz.gr G2
  have zW2 := (z3).trans G2
  have hap := CxsAt.apart KY Er
  have cxe := (((KY.set hap 0 (.slice zp zs.length zc)).set hap 1 (.int .i64 ex2)).set hap 2 (.bool true)).set hap 3 (.slice (some ⟨g2b, 0, none⟩) (ls.length + 1) cap2)
  have nse := (((hsh.set (B := w.heap.size + 1 + 1 + 1) (fun e => by have := Option.some.inj e; simp only at this; omega) 0 (.slice zp zs.length zc)).set (B := w.heap.size + 1 + 1 + 1) (fun e => by have := Option.some.inj e; simp only at this; omega) 1 (.int .i64 ex2)).set (B := w.heap.size + 1 + 1 + 1) (fun e => by have := Option.some.inj e; simp only at this; omega) 2 (.bool true)).set (B := w.heap.size + 1 + 1 + 1) (fun e => by have := Option.some.inj e; simp only at this; omega) 3 (.slice (some ⟨g2b, 0, none⟩) (ls.length + 1) cap2)
  obtain ⟨uf, hqf⟩ : ∃ zz, zz = ((((W2.setCell ⟨w.heap.size + 1 + 1 + 1, 0, none⟩ (.slice zp zs.length zc)).setCell ⟨w.heap.size + 1 + 1 + 1, 1, none⟩ (.int .i64 ex2)).setCell ⟨w.heap.size + 1 + 1 + 1, 2, none⟩ (.bool true)).setCell ⟨w.heap.size + 1 + 1 + 1, 3, none⟩ (.slice (some ⟨g2b, 0, none⟩) (ls.length + 1) cap2)) := ⟨_, rfl⟩
  rw [List.length_append] at nse
  rw [← hqf] at cxe nse
  have Yr : CellsAt uf (w.heap.size + 1 + 1 + 1) 27 #[.slice zp zs.length zc, .int .i64 ex2, .bool true, .slice (some ⟨g2b, 0, none⟩) (ls.length + 1) cap2] := by rw [hqf]; first | exact CellsAt.set (CellsAt.set (CellsAt.set (CellsAt.set (Er) 0 (.slice zp zs.length zc)) 1 (.int .i64 ex2)) 2 (.bool true)) 3 (.slice (some ⟨g2b, 0, none⟩) (ls.length + 1) cap2) | simpa using CellsAt.set (CellsAt.set (CellsAt.set (CellsAt.set (Er) 0 (.slice zp zs.length zc)) 1 (.int .i64 ex2)) 2 (.bool true)) 3 (.slice (some ⟨g2b, 0, none⟩) (ls.length + 1) cap2)
  have yz : Gr w uf := by rw [hqf]; exact ((((zW2).setCell (by first | omega | (simp only; omega)) _).setCell (by first | omega | (simp only; omega)) _).setCell (by first | omega | (simp only; omega)) _).setCell (by first | omega | (simp only; omega)) _
  rw [← hqf]
  clear hqf
  have cr0 := CellsAt.cell Yr 0
  have cr1 := CellsAt.cell Yr 1
  have cr2 := CellsAt.cell Yr 2
  have cr3 := CellsAt.cell Yr 3
  simp only [getS] at cr0 cr1 cr2 cr3
  refine bodyPost_ret (v := .agg #[.slice zp zs.length zc, .int .i64 ex2, .bool true, .slice (some ⟨g2b, 0, none⟩) (ls.length + 1) cap2]) ?_ rfl ⟨_, _, rfl, cxe, nse, yz, fun bb hb => ?_⟩
  ·simp [results, Tryz.results66, go_sem, *]
  ·cases hb; show w.heap.size ≤ g2b; omega
set_option maxHeartbeats 2000000 in
theorem ftReady_no (v : Value) (xs : List Gi) (fo lo ke sc mo y : Int) (iv : Bool) (hy : ¬ y = 0) (hb : (y == 0) = false) (HN : Hid (∀ W, CxsAt W v xs → Calls Tryz.prog 104 #[v, .agg #[.int .i64 fo, .int .i64 lo, .int .i64 ke, .int .i64 sc, .int .i64 mo, .bool iv]] W fun e w' => e = .returned (.int .i64 y) ∧ Gr W w')) (w : World) (hv : CxsAt w v xs) :
 Calls Tryz.prog 60 #[v, .agg #[.int .i64 fo, .int .i64 lo, .int .i64 ke, .int .i64 sc, .int .i64 mo, .bool iv]] w fun e w' => e = .returned (.tuple #[.agg #[.slice none 0 0, .int .i64 0, .bool false, .slice none 0 0], .int .i64 y]) ∧ Gr w w' := by
 go_enter Tryz.func60, Tryz.ntmps60
 go_wp2_with fail
 obtain ⟨u0, hU⟩ : ∃ uu, uu = ((w.alloc (.cells #[.int .i64 fo, .int .i64 lo, .int .i64 ke, .int .i64 sc, .int .i64 mo, .bool iv] 24)).alloc (.cells #[.slice none 0 0, .int .i64 0, .bool false, .slice none 0 0] 27)) := ⟨_, rfl⟩
 have ⟨gu, R0, R1⟩ := lay2 hU
 rw [← hU]
 clear hU
 have lp := R0.lt
 have lr := R1.lt
 obtain ⟨cp0, cp1, cp2, cp3, cp4, cp5⟩ := R0.t6
 go_wp2_with fail
 clear cp0 cp1 cp2 cp3 cp4 cp5
 refine (HN.out _ (hv.gr gu)).mono ?_
 rintro e w1 ⟨rfl, g1⟩
 have ⟨Fp_1, lp_1⟩ := CellsAt.gl (R0) g1
 have ⟨Fr_1, lr_1⟩ := CellsAt.gl (R1) g1
 have z1 := (gu).trans g1
 clear R0 R1 gu g1
 have mr0 := CellsAt.frozen (Fr_1) 0
 have cr0 := Fr_1.at 0
 have mr1 := CellsAt.frozen (Fr_1) 1
 have cr1 := Fr_1.at 1
 have mr2 := CellsAt.frozen (Fr_1) 2
 have cr2 := Fr_1.at 2
 have mr3 := CellsAt.frozen (Fr_1) 3
 have cr3 := Fr_1.at 3
 go_wp2_with fail
 clear mr0 cr0 mr1 cr1 mr2 cr2 mr3 cr3
 obtain ⟨uf, hqf⟩ : ∃ zz, zz = ((((w1.setCell ⟨w.heap.size + 1, 0, none⟩ (.slice none 0 0)).setCell ⟨w.heap.size + 1, 1, none⟩ (.int .i64 0)).setCell ⟨w.heap.size + 1, 2, none⟩ (.bool false)).setCell ⟨w.heap.size + 1, 3, none⟩ (.slice none 0 0)) := ⟨_, rfl⟩
 have Yr : CellsAt uf (w.heap.size + 1) 27 #[.slice none 0 0, .int .i64 0, .bool false, .slice none 0 0] := by rw [hqf]; first | exact CellsAt.set (CellsAt.set (CellsAt.set (CellsAt.set (Fr_1) 0 (.slice none 0 0)) 1 (.int .i64 0)) 2 (.bool false)) 3 (.slice none 0 0) | simpa using CellsAt.set (CellsAt.set (CellsAt.set (CellsAt.set (Fr_1) 0 (.slice none 0 0)) 1 (.int .i64 0)) 2 (.bool false)) 3 (.slice none 0 0)
 have yz : Gr w uf := by rw [hqf]; exact ((((z1).setCell (by first | omega | (simp only; omega)) _).setCell (by first | omega | (simp only; omega)) _).setCell (by first | omega | (simp only; omega)) _).setCell (by first | omega | (simp only; omega)) _
 rw [← hqf]
 clear hqf
 have cr0 := CellsAt.cell Yr 0
 have cr1 := CellsAt.cell Yr 1
 have cr2 := CellsAt.cell Yr 2
 have cr3 := CellsAt.cell Yr 3
 simp only [getS] at cr0 cr1 cr2 cr3
 refine bodyPost_ret (v := .tuple #[.agg #[.slice none 0 0, .int .i64 0, .bool false, .slice none 0 0], .int .i64 y]) ?_ rfl ⟨rfl, yz⟩
 simp [results, Tryz.results60, go_sem, *]
set_option maxHeartbeats 2000000 in
theorem ftReady_row (v : Value) (xs fs ys : List Gi) (fo lo ke sc mo s : Int) (iv : Bool) (sT : TypeId) (rV : Value) (F1 : FuncId) (e1 : Enters F1) (m1 : ∀ n W, (method (n + 1) sT rV "headroom/fft.ahead").run Tryz.prog W = .ok (F1, rV) W) (hke : ¬ ke = 2) (hkb : (ke == 2) = false)
 (HN : Hid (∀ W, CxsAt W v xs → Calls Tryz.prog 104 #[v, .agg #[.int .i64 fo, .int .i64 lo, .int .i64 ke, .int .i64 sc, .int .i64 mo, .bool iv]] W fun e w' => e = .returned (.int .i64 0) ∧ Gr W w')) (HS : CR 105 #[.agg #[.int .i64 fo, .int .i64 lo, .int .i64 ke, .int .i64 sc, .int .i64 mo, .bool iv]] (.iface sT rV))
 (HA : Hid (∀ W, CxsAt W v xs → Calls Tryz.prog F1 #[rV, v] W fun e w' => e = .returned (.int .i64 s) ∧ Gr W w'))
 (HF : Hid (∀ W, CxsAt W v xs → Calls Tryz.prog 106 #[v] W fun e w' => ∃ u, e = .returned (.tuple #[u, .int .i64 0]) ∧ CxsAt w' u fs ∧ Gr W w'))
 (HSH : Hid (∀ u W, CxsAt W u fs → Calls Tryz.prog 107 #[u, .int .i64 s, .int .i64 mo] W fun e w' => ∃ u, e = .returned (.tuple #[u, .int .i64 0]) ∧ CxsAt w' u ys ∧ Gr W w')) (w : World) (hv : CxsAt w v xs) :
 Calls Tryz.prog 60 #[v, .agg #[.int .i64 fo, .int .i64 lo, .int .i64 ke, .int .i64 sc, .int .i64 mo, .bool iv]] w fun e w' => ∃ u, e = .returned (.tuple #[.agg #[u, .int .i64 s, .bool false, .slice none 0 0], .int .i64 0]) ∧ CxsAt w' u ys ∧ Gr w w' := by
 unfold Enters at e1
 go_enter Tryz.func60, Tryz.ntmps60
 go_wp2_with fail
 obtain ⟨u0, hU⟩ : ∃ uu, uu = ((w.alloc (.cells #[.int .i64 fo, .int .i64 lo, .int .i64 ke, .int .i64 sc, .int .i64 mo, .bool iv] 24)).alloc (.cells #[.slice none 0 0, .int .i64 0, .bool false, .slice none 0 0] 27)) := ⟨_, rfl⟩
 have ⟨gu, R0, R1⟩ := lay2 hU
 rw [← hU]
 clear hU
 have lp := R0.lt
 have lr := R1.lt
 obtain ⟨cp0, cp1, cp2, cp3, cp4, cp5⟩ := R0.t6
 go_wp2_with fail
 clear cp0 cp1 cp2 cp3 cp4 cp5
 refine (HN.out _ (hv.gr gu)).mono ?_
 rintro e w1 ⟨rfl, g1⟩
 have ⟨Fp_1, lp_1⟩ := CellsAt.gl (R0) g1
 have ⟨Fr_1, lr_1⟩ := CellsAt.gl (R1) g1
 have z1 := (gu).trans g1
 clear R0 R1 gu g1
 obtain ⟨cp0, cp1, cp2, cp3, cp4, cp5⟩ := Fp_1.t6
 go_wp2_with fail
 clear cp0 cp1 cp2 cp3 cp4 cp5
 refine (HS.out _).mono ?_
 rintro e w2 ⟨rfl, g2⟩
 have ⟨Fp_2, lp_2⟩ := CellsAt.gl (Fp_1) g2
 have ⟨Fr_2, lr_2⟩ := CellsAt.gl (Fr_1) g2
 have z2 := (z1).trans g2
 clear Fp_1 Fr_1 z1 g2
 obtain ⟨cp0, cp1, cp2, cp3, cp4, cp5⟩ := Fp_2.t6
 go_wp2_with fail
 clear cp0 cp1 cp2 cp3 cp4 cp5
 refine (HA.out _ (hv.gr z2)).mono ?_
 rintro e w3 ⟨rfl, g3⟩
 have ⟨Fp_3, lp_3⟩ := CellsAt.gl (Fp_2) g3
 have ⟨Fr_3, lr_3⟩ := CellsAt.gl (Fr_2) g3
 have z3 := (z2).trans g3
 clear Fp_2 Fr_2 z2 g3
 obtain ⟨cp0, cp1, cp2, cp3, cp4, cp5⟩ := Fp_3.t6
 go_wp2_with fail
 clear cp0 cp1 cp2 cp3 cp4 cp5
 refine (HF.out _ (hv.gr z3)).mono ?_
 rintro e w4 ⟨vf, rfl, hf, g4⟩
 have ⟨Fp_4, lp_4⟩ := CellsAt.gl (Fp_3) g4
 have ⟨Fr_4, lr_4⟩ := CellsAt.gl (Fr_3) g4
 have z4 := (z3).trans g4
 clear Fp_3 Fr_3 z3 g4
 obtain ⟨cp0, cp1, cp2, cp3, cp4, cp5⟩ := Fp_4.t6
 go_wp2_with fail
 clear cp0 cp1 cp2 cp3 cp4 cp5
 refine (HSH.out _ _ hf).mono ?_
 rintro e w5 ⟨vy, rfl, hy, g5⟩
 have ⟨Fp_5, lp_5⟩ := CellsAt.gl (Fp_4) g5
 have ⟨Fr_5, lr_5⟩ := CellsAt.gl (Fr_4) g5
 have Kf_5 := CxsAt.gr (hf) g5
 have z5 := (z4).trans g5
 clear Fp_4 Fr_4 z4 g5
 obtain ⟨yp, yc, rfl⟩ := hy.len
 have mr0 := CellsAt.frozen (Fr_5) 0
 have cr0 := Fr_5.at 0
 have mr1 := CellsAt.frozen (Fr_5) 1
 have cr1 := Fr_5.at 1
 have mr2 := CellsAt.frozen (Fr_5) 2
 have cr2 := Fr_5.at 2
 have mr3 := CellsAt.frozen (Fr_5) 3
 have cr3 := Fr_5.at 3
 go_wp2_with fail
 clear mr0 cr0 mr1 cr1 mr2 cr2 mr3 cr3
 have ap := CxsAt.apart hy Fr_5
 have cxe := (((hy.set ap 0 (.slice yp ys.length yc)).set ap 1 (.int .i64 s)).set ap 2 (.bool false)).set ap 3 (.slice none 0 0)
 obtain ⟨uf, hqf⟩ : ∃ zz, zz = ((((w5.setCell ⟨w.heap.size + 1, 0, none⟩ (.slice yp ys.length yc)).setCell ⟨w.heap.size + 1, 1, none⟩ (.int .i64 s)).setCell ⟨w.heap.size + 1, 2, none⟩ (.bool false)).setCell ⟨w.heap.size + 1, 3, none⟩ (.slice none 0 0)) := ⟨_, rfl⟩
 rw [← hqf] at cxe
 have Yr : CellsAt uf (w.heap.size + 1) 27 #[.slice yp ys.length yc, .int .i64 s, .bool false, .slice none 0 0] := by rw [hqf]; first | exact CellsAt.set (CellsAt.set (CellsAt.set (CellsAt.set (Fr_5) 0 (.slice yp ys.length yc)) 1 (.int .i64 s)) 2 (.bool false)) 3 (.slice none 0 0) | simpa using CellsAt.set (CellsAt.set (CellsAt.set (CellsAt.set (Fr_5) 0 (.slice yp ys.length yc)) 1 (.int .i64 s)) 2 (.bool false)) 3 (.slice none 0 0)
 have yz : Gr w uf := by rw [hqf]; exact ((((z5).setCell (by first | omega | (simp only; omega)) _).setCell (by first | omega | (simp only; omega)) _).setCell (by first | omega | (simp only; omega)) _).setCell (by first | omega | (simp only; omega)) _
 rw [← hqf]
 clear hqf
 have cr0 := CellsAt.cell Yr 0
 have cr1 := CellsAt.cell Yr 1
 have cr2 := CellsAt.cell Yr 2
 have cr3 := CellsAt.cell Yr 3
 simp only [getS] at cr0 cr1 cr2 cr3
 refine bodyPost_ret (v := .tuple #[.agg #[.slice yp ys.length yc, .int .i64 s, .bool false, .slice none 0 0], .int .i64 0]) ?_ rfl ⟨_, rfl, cxe, yz⟩
 simp [results, Tryz.results60, go_sem, *]
set_option maxHeartbeats 2000000 in
theorem ftReady_split (v : Value) (xs ys : List Gi) (fo lo sc mo s : Int) (iv : Bool) (sT : TypeId) (rV : Value) (F1 : FuncId) (e1 : Enters F1) (m1 : ∀ n W, (method (n + 1) sT rV "headroom/fft.ahead").run Tryz.prog W = .ok (F1, rV) W)
 (HN : Hid (∀ W, CxsAt W v xs → Calls Tryz.prog 104 #[v, .agg #[.int .i64 fo, .int .i64 lo, .int .i64 2, .int .i64 sc, .int .i64 mo, .bool iv]] W fun e w' => e = .returned (.int .i64 0) ∧ Gr W w')) (HS : CR 105 #[.agg #[.int .i64 fo, .int .i64 lo, .int .i64 2, .int .i64 sc, .int .i64 mo, .bool iv]] (.iface sT rV))
 (HA : Hid (∀ W, CxsAt W v xs → Calls Tryz.prog F1 #[rV, v] W fun e w' => e = .returned (.int .i64 s) ∧ Gr W w'))
 (HSH : Hid (∀ u W, CxsAt W u xs → Calls Tryz.prog 107 #[u, .int .i64 s, .int .i64 mo] W fun e w' => ∃ u, e = .returned (.tuple #[u, .int .i64 0]) ∧ CxsAt w' u ys ∧ Gr W w')) (w : World) (hv : CxsAt w v xs) :
 Calls Tryz.prog 60 #[v, .agg #[.int .i64 fo, .int .i64 lo, .int .i64 2, .int .i64 sc, .int .i64 mo, .bool iv]] w fun e w' => ∃ u, e = .returned (.tuple #[.agg #[u, .int .i64 s, .bool false, .slice none 0 0], .int .i64 0]) ∧ CxsAt w' u ys ∧ Gr w w' := by
 unfold Enters at e1
 go_enter Tryz.func60, Tryz.ntmps60
 go_wp2_with fail
 obtain ⟨u0, hU⟩ : ∃ uu, uu = ((w.alloc (.cells #[.int .i64 fo, .int .i64 lo, .int .i64 2, .int .i64 sc, .int .i64 mo, .bool iv] 24)).alloc (.cells #[.slice none 0 0, .int .i64 0, .bool false, .slice none 0 0] 27)) := ⟨_, rfl⟩
 have ⟨gu, R0, R1⟩ := lay2 hU
 rw [← hU]
 clear hU
 have lp := R0.lt
 have lr := R1.lt
 obtain ⟨cp0, cp1, cp2, cp3, cp4, cp5⟩ := R0.t6
 go_wp2_with fail
 clear cp0 cp1 cp2 cp3 cp4 cp5
 refine (HN.out _ (hv.gr gu)).mono ?_
 rintro e w1 ⟨rfl, g1⟩
 have ⟨Fp_1, lp_1⟩ := CellsAt.gl (R0) g1
 have ⟨Fr_1, lr_1⟩ := CellsAt.gl (R1) g1
 have z1 := (gu).trans g1
 clear R0 R1 gu g1
 obtain ⟨cp0, cp1, cp2, cp3, cp4, cp5⟩ := Fp_1.t6
 go_wp2_with fail
 clear cp0 cp1 cp2 cp3 cp4 cp5
 refine (HS.out _).mono ?_
 rintro e w2 ⟨rfl, g2⟩
 have ⟨Fp_2, lp_2⟩ := CellsAt.gl (Fp_1) g2
 have ⟨Fr_2, lr_2⟩ := CellsAt.gl (Fr_1) g2
 have z2 := (z1).trans g2
 clear Fp_1 Fr_1 z1 g2
 obtain ⟨cp0, cp1, cp2, cp3, cp4, cp5⟩ := Fp_2.t6
 go_wp2_with fail
 clear cp0 cp1 cp2 cp3 cp4 cp5
 refine (HA.out _ (hv.gr z2)).mono ?_
 rintro e w3 ⟨rfl, g3⟩
 have ⟨Fp_3, lp_3⟩ := CellsAt.gl (Fp_2) g3
 have ⟨Fr_3, lr_3⟩ := CellsAt.gl (Fr_2) g3
 have z3 := (z2).trans g3
 clear Fp_2 Fr_2 z2 g3
 obtain ⟨cp0, cp1, cp2, cp3, cp4, cp5⟩ := Fp_3.t6
 go_wp2_with fail
 clear cp0 cp1 cp2 cp3 cp4 cp5
 refine (HSH.out _ _ (hv.gr z3)).mono ?_
 rintro e w4 ⟨vy, rfl, hy, g4⟩
 have ⟨Fp_4, lp_4⟩ := CellsAt.gl (Fp_3) g4
 have ⟨Fr_4, lr_4⟩ := CellsAt.gl (Fr_3) g4
 have z4 := (z3).trans g4
 clear Fp_3 Fr_3 z3 g4
 obtain ⟨yp, yc, rfl⟩ := hy.len
 have mr0 := CellsAt.frozen (Fr_4) 0
 have cr0 := Fr_4.at 0
 have mr1 := CellsAt.frozen (Fr_4) 1
 have cr1 := Fr_4.at 1
 have mr2 := CellsAt.frozen (Fr_4) 2
 have cr2 := Fr_4.at 2
 have mr3 := CellsAt.frozen (Fr_4) 3
 have cr3 := Fr_4.at 3
 go_wp2_with fail
 clear mr0 cr0 mr1 cr1 mr2 cr2 mr3 cr3
 have ap := CxsAt.apart hy Fr_4
 have cxe := (((hy.set ap 0 (.slice yp ys.length yc)).set ap 1 (.int .i64 s)).set ap 2 (.bool false)).set ap 3 (.slice none 0 0)
 obtain ⟨uf, hqf⟩ : ∃ zz, zz = ((((w4.setCell ⟨w.heap.size + 1, 0, none⟩ (.slice yp ys.length yc)).setCell ⟨w.heap.size + 1, 1, none⟩ (.int .i64 s)).setCell ⟨w.heap.size + 1, 2, none⟩ (.bool false)).setCell ⟨w.heap.size + 1, 3, none⟩ (.slice none 0 0)) := ⟨_, rfl⟩
 rw [← hqf] at cxe
 have Yr : CellsAt uf (w.heap.size + 1) 27 #[.slice yp ys.length yc, .int .i64 s, .bool false, .slice none 0 0] := by rw [hqf]; first | exact CellsAt.set (CellsAt.set (CellsAt.set (CellsAt.set (Fr_4) 0 (.slice yp ys.length yc)) 1 (.int .i64 s)) 2 (.bool false)) 3 (.slice none 0 0) | simpa using CellsAt.set (CellsAt.set (CellsAt.set (CellsAt.set (Fr_4) 0 (.slice yp ys.length yc)) 1 (.int .i64 s)) 2 (.bool false)) 3 (.slice none 0 0)
 have yz : Gr w uf := by rw [hqf]; exact ((((z4).setCell (by first | omega | (simp only; omega)) _).setCell (by first | omega | (simp only; omega)) _).setCell (by first | omega | (simp only; omega)) _).setCell (by first | omega | (simp only; omega)) _
 rw [← hqf]
 clear hqf
 have cr0 := CellsAt.cell Yr 0
 have cr1 := CellsAt.cell Yr 1
 have cr2 := CellsAt.cell Yr 2
 have cr3 := CellsAt.cell Yr 3
 simp only [getS] at cr0 cr1 cr2 cr3
 refine bodyPost_ret (v := .tuple #[.agg #[.slice yp ys.length yc, .int .i64 s, .bool false, .slice none 0 0], .int .i64 0]) ?_ rfl ⟨_, rfl, cxe, yz⟩
 simp [results, Tryz.results60, go_sem, *]
end
end Go.Proofs.YtdignnmpfkgkoaaGreat
