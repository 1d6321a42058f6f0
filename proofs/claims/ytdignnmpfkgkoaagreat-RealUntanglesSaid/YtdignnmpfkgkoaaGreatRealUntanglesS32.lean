import Derived.Test.YtdignnmpfkgkoaaGreatRealUntanglesS27
import Derived.Test.YtdignnmpfkgkoaaGreatRealUntanglesS31
namespace Go.Proofs.YtdignnmpfkgkoaaGreat
section
open Go.ChangeShapes Go.WideShapes Go.ChangeAt Go.RowKit
set_option linter.unusedVariables false
set_option linter.unusedSimpArgs false
set_option maxRecDepth 100000
set_option maxHeartbeats 8000000 in
theorem rUnt18_n (px sp : Option Addr) (m cx q cl : Nat) (hm : m ≤ 70) (xs ws zs : List Gi) (B : Nat → Gi) (ex ex2 fo lo lo1 ke sc mo T : Int) (iv sa : Bool) (hsc : (sc == 2) = false) (hl1 : IntKind.i64.wrap (lo + 1) = lo1) (hex : IntKind.i64.wrap (ex + 1) = ex2)
 (HB : CR 42 #[.int .i64 fo] (.int .i64 T))
 (HT : Hid (∀ W, Calls Tryz.prog 41 #[.int .i64 lo1, .int .i64 T] W fun e w' => ∃ u, e = .returned u ∧ CxsAt w' u ws ∧ Gr W w'))
 (HN : Hid (∀ j, j ≤ m → ∀ v W, CxsAt W (.slice px m cx) xs → CxsAt W v ws → Calls Tryz.prog 43 #[.agg #[.slice px m cx, .int .i64 ex, .bool sa, .slice sp q cl], .agg #[.int .i64 fo, .int .i64 lo, .int .i64 ke, .int .i64 sc, .int .i64 mo, .bool iv], v, .int .i64 (j : Int)] W fun e w' => e = .returned (.agg #[.int .i64 (B j).re, .int .i64 (B j).im]) ∧ Gr W w'))
 (HZ : Hid ((List.range (m + 1)).map B = zs)) (w : World) (hv : CxsAt w (.slice px m cx) xs) :
 Calls Tryz.prog 17 #[.agg #[.slice px m cx, .int .i64 ex, .bool sa, .slice sp q cl], .agg #[.int .i64 fo, .int .i64 lo, .int .i64 ke, .int .i64 sc, .int .i64 mo, .bool iv]] w fun e w' => ∃ vx, e = .returned (.agg #[vx, .int .i64 ex2, .bool sa, .slice sp q cl]) ∧ CxsAt w' vx zs ∧ Gr w w' := by
 obtain ⟨i0, hi, hz0, hz1, hz2⟩ := info_parts info_cx
 go_enter Tryz.func17, Tryz.ntmps17
 go_wp2_with fail
 obtain ⟨u0, hU⟩ : ∃ uu, uu = (((w.alloc (.cells #[.slice px m cx, .int .i64 ex, .bool sa, .slice sp q cl] 27)).alloc (.cells #[.int .i64 fo, .int .i64 lo, .int .i64 ke, .int .i64 sc, .int .i64 mo, .bool iv] 24)).alloc (.cells #[.slice none 0 0, .int .i64 0, .bool false, .slice none 0 0] 27)) := ⟨_, rfl⟩
 have ⟨gu, R0, R1, R2⟩ := lay3 hU
 rw [← hU]
 clear hU
 have lb := R0.lt
 have lp := R1.lt
 have lr := R2.lt
 obtain ⟨u1, hqp1⟩ : ∃ zz, zz = u0 := ⟨_, rfl⟩
 have Yb_p1 : CellsAt u1 (w.heap.size) 27 #[.slice px m cx, .int .i64 ex, .bool sa, .slice sp q cl] := by rw [hqp1]; first | exact R0 | simpa using R0
 have Yp_p1 : CellsAt u1 (w.heap.size + 1) 24 #[.int .i64 fo, .int .i64 lo, .int .i64 ke, .int .i64 sc, .int .i64 mo, .bool iv] := by rw [hqp1]; first | exact R1 | simpa using R1
 have Yr_p1 : CellsAt u1 (w.heap.size + 1 + 1) 27 #[.slice none 0 0, .int .i64 0, .bool false, .slice none 0 0] := by rw [hqp1]; first | exact R2 | simpa using R2
 have yp1 : Gr w u1 := by rw [hqp1]; exact gu
 rw [← hqp1]
 clear hqp1
 have KS : ∀ W, Gr u1 W → (W.cell? ⟨w.heap.size + 1, 0, none⟩ = some (.int .i64 fo) ∧ W.cell? ⟨w.heap.size + 1, 1, none⟩ = some (.int .i64 lo) ∧ W.cell? ⟨w.heap.size + 1, 2, none⟩ = some (.int .i64 ke) ∧ W.cell? ⟨w.heap.size + 1, 3, none⟩ = some (.int .i64 sc) ∧ W.cell? ⟨w.heap.size + 1, 4, none⟩ = some (.int .i64 mo) ∧ W.cell? ⟨w.heap.size + 1, 5, none⟩ = some (.bool iv)) := fun W hG => ⟨(CellsAt.gr Yp_p1 hG).cell 0, (CellsAt.gr Yp_p1 hG).cell 1, (CellsAt.gr Yp_p1 hG).cell 2, (CellsAt.gr Yp_p1 hG).cell 3, (CellsAt.gr Yp_p1 hG).cell 4, (CellsAt.gr Yp_p1 hG).cell 5⟩
 have hclG := gr_closed u1
 try simp only [List.append_eq, List.cons_append, List.nil_append]
 refine wp_region_grow (S := Gr u1) rfl (Gr.drew (Gr.refl _)) ?_
 refine gT 0 hclG ?_
 refine gK 1 hclG KS ?_
 refine gT 2 hclG ?_
 refine gT 3 hclG ?_
 refine gK 4 hclG KS ?_
 refine wpG_call (i := 5) hclG rfl (by kernel_rfl) (by kernel_rfl) (by kernel_rfl) (fun _ _ _ h => h) (fun W hS => HB.out W) (by rfl) ?_ ?_
 ·(intro w' hSw; go_simp; try with_reducible rfl)
 try simp only [Act.put, putS]
 refine gR 6 fun w1 g1 s1 K hK => ?_
 replace g1 := (Gr.drew (Gr.refl u1)).trans g1
 have ⟨Fb_1, lb_1⟩ := Yb_p1.gl g1
 have ⟨Fp_1, lp_1⟩ := Yp_p1.gl g1
 have ⟨Fr_1, lr_1⟩ := Yr_p1.gl g1
 have z1 := yp1.trans g1
 clear Yb_p1 Yp_p1 Yr_p1 yp1 g1
 go_simp
 refine (HT.out w1).mono ?_
 rintro e w2 ⟨vt, rfl, hvt, g2⟩
 have t2 := Gr.trans s1 g2
 have ⟨Fb_2, lb_2⟩ := Fb_1.gl g2
 have ⟨Fp_2, lp_2⟩ := Fp_1.gl g2
 have ⟨Fr_2, lr_2⟩ := Fr_1.gl g2
 have z2 := z1.trans g2
 clear Fb_1 Fp_1 Fr_1 z1 g2
 refine hK.out _ _ ?_ ?_
 ·exact t2
 clear hK K
 try simp only [Act.put, putS]
 refine gT 7 hclG ?_
 refine wpG_done (by kernel_rfl) (fun w3 g3 => ?_) _
 have ⟨Fb_3, lb_3⟩ := Fb_2.gl g3
 have ⟨Fp_3, lp_3⟩ := Fp_2.gl g3
 have ⟨Fr_3, lr_3⟩ := Fr_2.gl g3
 have Ktw_3 := hvt.gr g3
 have z3 := z2.trans g3
 clear Fb_2 Fp_2 Fr_2 z2 g3
 clear hclG KS
 go_wp2_with fail
 obtain ⟨vz, hqp2⟩ : ∃ zz, zz = w3 := ⟨_, rfl⟩
 have Yb_p2 : CellsAt vz (w.heap.size) 27 #[.slice px m cx, .int .i64 ex, .bool sa, .slice sp q cl] := by rw [hqp2]; first | exact Fb_3 | simpa using Fb_3
 have Yp_p2 : CellsAt vz (w.heap.size + 1) 24 #[.int .i64 fo, .int .i64 lo, .int .i64 ke, .int .i64 sc, .int .i64 mo, .bool iv] := by rw [hqp2]; first | exact Fp_3 | simpa using Fp_3
 have Yr_p2 : CellsAt vz (w.heap.size + 1 + 1) 27 #[.slice none 0 0, .int .i64 0, .bool false, .slice none 0 0] := by rw [hqp2]; first | exact Fr_3 | simpa using Fr_3
 have Vtw_p2 := Ktw_3
 rw [← hqp2] at Vtw_p2
 have yp2 : Gr w vz := by rw [hqp2]; exact z3
 rw [← hqp2]
 clear hqp2
 have hzs := (yp2).size
 have hs0 : ((vz.alloc (.cells #[] 50)).ownsRow vz.heap.size 50 2 (.slice (some ⟨vz.heap.size, 0, none⟩) 0 0) 0 []) := World.ownsRow_made vz #[] 0 (Nat.le_refl _) (by unfold maxLen; omega) (by simp)
 have gs0 := (Gr.refl vz).alloc #[] 50
 go_loopw [6, 7] (fun v i wr => ∃ j : Nat, j ≤ m + 1 ∧ i = .int .i64 j ∧ wr.ownsRow vz.heap.size 50 2 v j (gcells ((List.range j).map B)) ∧ Gr vz wr) (fun _ i _ => m + 1 - (intOf i).toNat)
 case atStart => exact ⟨0, by omega, rfl, hs0, gs0⟩
 case round =>
  clear hs0 gs0
  obtain ⟨j, hj, rfl, hrow, hg⟩ := hrel
  have hgw := yp2.trans hg
  have BV := CellsAt.gr Yb_p2 hg
  have PV := CellsAt.gr Yp_p2 hg
  have RV := CellsAt.gr Yr_p2 hg
  have hm70 : (m : Int) ≤ 70 := by omega
  by_cases hlt : j ≤ m
  ·have hjI : (j : Int) ≤ (m : Int) := by omega
   have HB1 := Lib.hid (HN.out j hlt)
   have er : (List.range (j + 1)).map B = (List.range j).map B ++ [B j] := by rw [List.range_succ, List.map_append]; rfl
   have ER := Lib.hid er
   clear er RV
   generalize B j = g at *
   obtain ⟨re, im⟩ := g
   simp only at HB1
   have lb := BV.lt
   have lp := PV.lt
   obtain ⟨cb0, cb1, cb2, cb3⟩ := BV.t4
   obtain ⟨cp0, cp1, cp2, cp3, cp4, cp5⟩ := PV.t6
   go_wp2_with fail
   clear cb0 cb1 cb2 cb3 cp0 cp1 cp2 cp3 cp4 cp5
   refine (HB1.out _ _ (hv.gr hgw) (CxsAt.gr Vtw_p2 hg)).mono ?_
   rintro e wq ⟨rfl, hgq⟩
   have hrow2 := ownsRow_gr hrow hgq
   have hsz := hg.size
   have hsq := hgq.size
   have hg2 := hg.trans hgq
   clear hrow hg hgq HB1 BV PV
   go_wp2_with (at_builtin; refine wpList_append_own_at _ rfl (.tmp 24) (.tmp 30) 25 rfl vz.heap.size 50 i0 (.agg #[.int .i64 0, .int .i64 0]) 2 16 Tryz.underlying25 hi hz0 hz1 hz2 rfl (by decide) _ _ _ rfl (hrow2.alloc _) ⟨wq.heap.size, 0, none⟩ 1 1 [.int .i64 re, .int .i64 im] rfl rfl (news_two _ _ _ _) (by simp [Value.oneCell']) (by unfold maxLen; omega) (by omega) (by simp; omega) ?_; intro v' w3 hown' hgrow _ hblk)
   have e : gcells ((List.range j).map B) ++ [.int .i64 re, .int .i64 im] = gcells ((List.range (j + 1)).map B) := by
    rw [ER.out, gcells_snoc]
   rw [e] at hown'
   have hg3 := (hg2.allocO _).grown hgrow (fun k e => (hrow2.lt k e).1)
   go_roundw
   case rel => exact ⟨j + 1, by omega, by go_num, hown', hg3⟩
   case measure => simp [intOf]; omega
  ·obtain rfl : j = m + 1 := by omega
   have hjI : ¬ ((m + 1 : Nat) : Int) ≤ (m : Int) := by omega
   have HLN := Lib.hid (show ((List.range (m + 1)).map B).length = m + 1 by simp)
   have lb := BV.lt
   have lp := PV.lt
   have lr := RV.lt
   have hvx := CxsAt.of_row hrow
   obtain ⟨gp, gc, hsl⟩ := hvx.len
   rw [HLN.out] at hsl
   subst hsl
   obtain ⟨cb0, cb1, cb2, cb3⟩ := BV.t4
   obtain ⟨cp0, cp1, cp2, cp3, cp4, cp5⟩ := PV.t6
   obtain ⟨cr0, cr1, cr2, cr3⟩ := RV.t4
   obtain ⟨mr0, mr1, mr2, mr3⟩ := RV.f4
   go_wp2_with fail
   clear cb0 cb1 cb2 cb3 cp0 cp1 cp2 cp3 cp4 cp5 cr0 cr1 cr2 cr3 mr0 mr1 mr2 mr3
   have ar := CxsAt.apart hvx (RV)
   have hgws := hgw.size
   have cxe := ((((hvx.set ar 0 (.slice gp (m + 1) gc)).set ar 1 (.int .i64 ex2)).set ar 2 (.bool sa)).set ar 3 (.slice sp q cl)).gr ((Gr.refl _).alloc #[.slice gp (m + 1) gc, .int .i64 ex2, .bool sa, .slice sp q cl] 27)
   rw [HZ.out] at cxe
   obtain ⟨uf, hqf⟩ : ∃ zz, zz = (((((wr.setCell ⟨w.heap.size + 1 + 1, 0, none⟩ (.slice gp (m + 1) gc)).setCell ⟨w.heap.size + 1 + 1, 1, none⟩ (.int .i64 ex2)).setCell ⟨w.heap.size + 1 + 1, 2, none⟩ (.bool sa)).setCell ⟨w.heap.size + 1 + 1, 3, none⟩ (.slice sp q cl)).alloc (.cells #[.slice gp (m + 1) gc, .int .i64 ex2, .bool sa, .slice sp q cl] 27)) := ⟨_, rfl⟩
   rw [← hqf] at cxe
   have Yr : CellsAt uf (w.heap.size + 1 + 1) 27 #[.slice gp (m + 1) gc, .int .i64 ex2, .bool sa, .slice sp q cl] := by rw [hqf]; exact (CellsAt.set (CellsAt.set (CellsAt.set (CellsAt.set (RV) 0 (.slice gp (m + 1) gc)) 1 (.int .i64 ex2)) 2 (.bool sa)) 3 (.slice sp q cl)).alloc _
   have yz : Gr w uf := by rw [hqf]; exact ((((hgw.sc _).sc _).sc _).sc _).alloc _ _
   rw [← hqf]
   clear hqf
   obtain ⟨cs0, cs1, cs2, cs3⟩ := Yr.t4
   refine bodyPost_ret (v := .agg #[.slice gp (m + 1) gc, .int .i64 ex2, .bool sa, .slice sp q cl]) ?_ rfl ⟨_, rfl, cxe, yz⟩
   simp [results, Tryz.results17, go_sem, *]
set_option maxHeartbeats 8000000 in
theorem rUnt18_t (px sp : Option Addr) (m cx q cl : Nat) (hm : m ≤ 70) (xs ws ys : List Gi) (B : Nat → Gi) (ex ex2 fo lo lo1 ke mo T : Int) (iv : Bool) (hl1 : IntKind.i64.wrap (lo + 1) = lo1) (hex : IntKind.i64.wrap (ex + 1) = ex2)
 (HB : CR 42 #[.int .i64 fo] (.int .i64 T))
 (HT : Hid (∀ W, Calls Tryz.prog 41 #[.int .i64 lo1, .int .i64 T] W fun e w' => ∃ u, e = .returned u ∧ CxsAt w' u ws ∧ Gr W w'))
 (HN : Hid (∀ j, j ≤ m → ∀ v W, CxsAt W (.slice px m cx) xs → CxsAt W v ws → Calls Tryz.prog 43 #[.agg #[.slice px m cx, .int .i64 ex, .bool true, .slice sp q cl], .agg #[.int .i64 fo, .int .i64 lo, .int .i64 ke, .int .i64 2, .int .i64 mo, .bool iv], v, .int .i64 (j : Int)] W fun e w' => e = .returned (.agg #[.int .i64 (B j).re, .int .i64 (B j).im]) ∧ Gr W w'))
 (HCl : Hid (∀ v W, CxsAt W v ((List.range (m + 1)).map B) → Calls Tryz.prog 44 #[v, .int .i64 fo] W fun e w' => ∃ u, e = .returned u ∧ CxsAt w' u ys ∧ Gr W w')) (w : World) (hv : CxsAt w (.slice px m cx) xs) :
 Calls Tryz.prog 17 #[.agg #[.slice px m cx, .int .i64 ex, .bool true, .slice sp q cl], .agg #[.int .i64 fo, .int .i64 lo, .int .i64 ke, .int .i64 2, .int .i64 mo, .bool iv]] w fun e w' => ∃ vx, e = .returned (.agg #[vx, .int .i64 ex2, .bool true, .slice sp q cl]) ∧ CxsAt w' vx ys ∧ Gr w w' := by
 obtain ⟨i0, hi, hz0, hz1, hz2⟩ := info_parts info_cx
 go_enter Tryz.func17, Tryz.ntmps17
 go_wp2_with fail
 obtain ⟨u0, hU⟩ : ∃ uu, uu = (((w.alloc (.cells #[.slice px m cx, .int .i64 ex, .bool true, .slice sp q cl] 27)).alloc (.cells #[.int .i64 fo, .int .i64 lo, .int .i64 ke, .int .i64 2, .int .i64 mo, .bool iv] 24)).alloc (.cells #[.slice none 0 0, .int .i64 0, .bool false, .slice none 0 0] 27)) := ⟨_, rfl⟩
 have ⟨gu, R0, R1, R2⟩ := lay3 hU
 rw [← hU]
 clear hU
 have lb := R0.lt
 have lp := R1.lt
 have lr := R2.lt
 obtain ⟨u1, hqp1⟩ : ∃ zz, zz = u0 := ⟨_, rfl⟩
 have Yb_p1 : CellsAt u1 (w.heap.size) 27 #[.slice px m cx, .int .i64 ex, .bool true, .slice sp q cl] := by rw [hqp1]; first | exact R0 | simpa using R0
 have Yp_p1 : CellsAt u1 (w.heap.size + 1) 24 #[.int .i64 fo, .int .i64 lo, .int .i64 ke, .int .i64 2, .int .i64 mo, .bool iv] := by rw [hqp1]; first | exact R1 | simpa using R1
 have Yr_p1 : CellsAt u1 (w.heap.size + 1 + 1) 27 #[.slice none 0 0, .int .i64 0, .bool false, .slice none 0 0] := by rw [hqp1]; first | exact R2 | simpa using R2
 have yp1 : Gr w u1 := by rw [hqp1]; exact gu
 rw [← hqp1]
 clear hqp1
 have KS : ∀ W, Gr u1 W → (W.cell? ⟨w.heap.size + 1, 0, none⟩ = some (.int .i64 fo) ∧ W.cell? ⟨w.heap.size + 1, 1, none⟩ = some (.int .i64 lo) ∧ W.cell? ⟨w.heap.size + 1, 2, none⟩ = some (.int .i64 ke) ∧ W.cell? ⟨w.heap.size + 1, 3, none⟩ = some (.int .i64 2) ∧ W.cell? ⟨w.heap.size + 1, 4, none⟩ = some (.int .i64 mo) ∧ W.cell? ⟨w.heap.size + 1, 5, none⟩ = some (.bool iv)) := fun W hG => ⟨(CellsAt.gr Yp_p1 hG).cell 0, (CellsAt.gr Yp_p1 hG).cell 1, (CellsAt.gr Yp_p1 hG).cell 2, (CellsAt.gr Yp_p1 hG).cell 3, (CellsAt.gr Yp_p1 hG).cell 4, (CellsAt.gr Yp_p1 hG).cell 5⟩
 have hclG := gr_closed u1
 try simp only [List.append_eq, List.cons_append, List.nil_append]
 refine wp_region_grow (S := Gr u1) rfl (Gr.drew (Gr.refl _)) ?_
 refine gT 0 hclG ?_
 refine gK 1 hclG KS ?_
 refine gT 2 hclG ?_
 refine gT 3 hclG ?_
 refine gK 4 hclG KS ?_
 refine wpG_call (i := 5) hclG rfl (by kernel_rfl) (by kernel_rfl) (by kernel_rfl) (fun _ _ _ h => h) (fun W hS => HB.out W) (by rfl) ?_ ?_
 ·(intro w' hSw; go_simp; try with_reducible rfl)
 try simp only [Act.put, putS]
 refine gR 6 fun w1 g1 s1 K hK => ?_
 replace g1 := (Gr.drew (Gr.refl u1)).trans g1
 have ⟨Fb_1, lb_1⟩ := Yb_p1.gl g1
 have ⟨Fp_1, lp_1⟩ := Yp_p1.gl g1
 have ⟨Fr_1, lr_1⟩ := Yr_p1.gl g1
 have z1 := yp1.trans g1
 clear Yb_p1 Yp_p1 Yr_p1 yp1 g1
 go_simp
 refine (HT.out w1).mono ?_
 rintro e w2 ⟨vt, rfl, hvt, g2⟩
 have t2 := Gr.trans s1 g2
 have ⟨Fb_2, lb_2⟩ := Fb_1.gl g2
 have ⟨Fp_2, lp_2⟩ := Fp_1.gl g2
 have ⟨Fr_2, lr_2⟩ := Fr_1.gl g2
 have z2 := z1.trans g2
 clear Fb_1 Fp_1 Fr_1 z1 g2
 refine hK.out _ _ ?_ ?_
 ·exact t2
 clear hK K
 try simp only [Act.put, putS]
 refine gT 7 hclG ?_
 refine wpG_done (by kernel_rfl) (fun w3 g3 => ?_) _
 have ⟨Fb_3, lb_3⟩ := Fb_2.gl g3
 have ⟨Fp_3, lp_3⟩ := Fp_2.gl g3
 have ⟨Fr_3, lr_3⟩ := Fr_2.gl g3
 have Ktw_3 := hvt.gr g3
 have z3 := z2.trans g3
 clear Fb_2 Fp_2 Fr_2 z2 g3
 clear hclG KS
 go_wp2_with fail
 obtain ⟨vz, hqp2⟩ : ∃ zz, zz = w3 := ⟨_, rfl⟩
 have Yb_p2 : CellsAt vz (w.heap.size) 27 #[.slice px m cx, .int .i64 ex, .bool true, .slice sp q cl] := by rw [hqp2]; first | exact Fb_3 | simpa using Fb_3
 have Yp_p2 : CellsAt vz (w.heap.size + 1) 24 #[.int .i64 fo, .int .i64 lo, .int .i64 ke, .int .i64 2, .int .i64 mo, .bool iv] := by rw [hqp2]; first | exact Fp_3 | simpa using Fp_3
 have Yr_p2 : CellsAt vz (w.heap.size + 1 + 1) 27 #[.slice none 0 0, .int .i64 0, .bool false, .slice none 0 0] := by rw [hqp2]; first | exact Fr_3 | simpa using Fr_3
 have Vtw_p2 := Ktw_3
 rw [← hqp2] at Vtw_p2
 have yp2 : Gr w vz := by rw [hqp2]; exact z3
 rw [← hqp2]
 clear hqp2
 have hzs := (yp2).size
 have hs0 : ((vz.alloc (.cells #[] 50)).ownsRow vz.heap.size 50 2 (.slice (some ⟨vz.heap.size, 0, none⟩) 0 0) 0 []) := World.ownsRow_made vz #[] 0 (Nat.le_refl _) (by unfold maxLen; omega) (by simp)
 have gs0 := (Gr.refl vz).alloc #[] 50
 go_loopw [6, 7] (fun v i wr => ∃ j : Nat, j ≤ m + 1 ∧ i = .int .i64 j ∧ wr.ownsRow vz.heap.size 50 2 v j (gcells ((List.range j).map B)) ∧ Gr vz wr) (fun _ i _ => m + 1 - (intOf i).toNat)
 case atStart => exact ⟨0, by omega, rfl, hs0, gs0⟩
 case round =>
  clear hs0 gs0
  obtain ⟨j, hj, rfl, hrow, hg⟩ := hrel
  have hgw := yp2.trans hg
  have BV := CellsAt.gr Yb_p2 hg
  have PV := CellsAt.gr Yp_p2 hg
  have RV := CellsAt.gr Yr_p2 hg
  have hm70 : (m : Int) ≤ 70 := by omega
  by_cases hlt : j ≤ m
  ·have hjI : (j : Int) ≤ (m : Int) := by omega
   have HB1 := Lib.hid (HN.out j hlt)
   have er : (List.range (j + 1)).map B = (List.range j).map B ++ [B j] := by rw [List.range_succ, List.map_append]; rfl
   have ER := Lib.hid er
   clear er RV
   generalize B j = g at *
   obtain ⟨re, im⟩ := g
   simp only at HB1
   have lb := BV.lt
   have lp := PV.lt
   obtain ⟨cb0, cb1, cb2, cb3⟩ := BV.t4
   obtain ⟨cp0, cp1, cp2, cp3, cp4, cp5⟩ := PV.t6
   go_wp2_with fail
   clear cb0 cb1 cb2 cb3 cp0 cp1 cp2 cp3 cp4 cp5
   refine (HB1.out _ _ (hv.gr hgw) (CxsAt.gr Vtw_p2 hg)).mono ?_
   rintro e wq ⟨rfl, hgq⟩
   have hrow2 := ownsRow_gr hrow hgq
   have hsz := hg.size
   have hsq := hgq.size
   have hg2 := hg.trans hgq
   clear hrow hg hgq HB1 BV PV
   go_wp2_with (at_builtin; refine wpList_append_own_at _ rfl (.tmp 24) (.tmp 30) 25 rfl vz.heap.size 50 i0 (.agg #[.int .i64 0, .int .i64 0]) 2 16 Tryz.underlying25 hi hz0 hz1 hz2 rfl (by decide) _ _ _ rfl (hrow2.alloc _) ⟨wq.heap.size, 0, none⟩ 1 1 [.int .i64 re, .int .i64 im] rfl rfl (news_two _ _ _ _) (by simp [Value.oneCell']) (by unfold maxLen; omega) (by omega) (by simp; omega) ?_; intro v' w3 hown' hgrow _ hblk)
   have e : gcells ((List.range j).map B) ++ [.int .i64 re, .int .i64 im] = gcells ((List.range (j + 1)).map B) := by
    rw [ER.out, gcells_snoc]
   rw [e] at hown'
   have hg3 := (hg2.allocO _).grown hgrow (fun k e => (hrow2.lt k e).1)
   go_roundw
   case rel => exact ⟨j + 1, by omega, by go_num, hown', hg3⟩
   case measure => simp [intOf]; omega
  ·obtain rfl : j = m + 1 := by omega
   have hjI : ¬ ((m + 1 : Nat) : Int) ≤ (m : Int) := by omega
   have HLN := Lib.hid (show ((List.range (m + 1)).map B).length = m + 1 by simp)
   have lb := BV.lt
   have lp := PV.lt
   have lr := RV.lt
   have hvx := CxsAt.of_row hrow
   obtain ⟨gp, gc, hsl⟩ := hvx.len
   rw [HLN.out] at hsl
   subst hsl
   obtain ⟨cb0, cb1, cb2, cb3⟩ := BV.t4
   obtain ⟨cp0, cp1, cp2, cp3, cp4, cp5⟩ := PV.t6
   go_wp2_with fail
   clear cb0 cb1 cb2 cb3 cp0 cp1 cp2 cp3 cp4 cp5
   have KX5 := hvx.gr ((Gr.refl wr).alloc #[.slice gp (m + 1) gc, .int .i64 ex2, .bool true, .slice sp q cl] 27)
   obtain ⟨wo, hwo⟩ : ∃ zz, zz = (wr.alloc (.cells #[.slice gp (m + 1) gc, .int .i64 ex2, .bool true, .slice sp q cl] 27)) := ⟨_, rfl⟩
   have hos : wo.heap.size = wr.heap.size + 1 := by rw [hwo]; simp
   have hgws := hgw.size
   rw [← hwo] at KX5
   have Ybo : CellsAt wo (w.heap.size) 27 #[.slice px m cx, .int .i64 ex, .bool true, .slice sp q cl] := by rw [hwo]; first | exact BV.alloc _ | simpa using BV.alloc _
   have Ypo : CellsAt wo (w.heap.size + 1) 24 #[.int .i64 fo, .int .i64 lo, .int .i64 ke, .int .i64 2, .int .i64 mo, .bool iv] := by rw [hwo]; first | exact PV.alloc _ | simpa using PV.alloc _
   have Yro : CellsAt wo (w.heap.size + 1 + 1) 27 #[.slice none 0 0, .int .i64 0, .bool false, .slice none 0 0] := by rw [hwo]; first | exact RV.alloc _ | simpa using RV.alloc _
   have Yoo : CellsAt wo (wr.heap.size) 27 #[.slice gp (m + 1) gc, .int .i64 ex2, .bool true, .slice sp q cl] := by rw [hwo]; have q_ := CellsAt.new wr 27 #[.slice gp (m + 1) gc, .int .i64 ex2, .bool true, .slice sp q cl]; first | exact q_ | simpa using q_
   have yo : Gr w wo := by rw [hwo]; exact hgw.alloc _ _
   try rw [← hwo]
   clear hwo
   refine (HCl.out _ _ KX5).mono ?_
   rintro e w6 ⟨vc, rfl, hz6, g6⟩
   obtain ⟨np, nc, rfl⟩ := hz6.len
   have hz6s := g6.size
   have ⟨Fb_6, lb_6⟩ := Ybo.gl g6
   have ⟨Fp_6, lp_6⟩ := Ypo.gl g6
   have ⟨Fr_6, lr_6⟩ := Yro.gl g6
   have ⟨Fo_6, lo_6⟩ := Yoo.gl g6
   have Ky_6 := KX5.gr g6
   have z6 := yo.trans g6
   clear Ybo Ypo Yro Yoo yo g6
   obtain ⟨cb0, cb1, cb2, cb3⟩ := Fb_6.t4
   obtain ⟨cp0, cp1, cp2, cp3, cp4, cp5⟩ := Fp_6.t6
   have mo0 := CellsAt.frozen (Fo_6) 0
   have co0 := Fo_6.at 0
   have mo1 := CellsAt.frozen (Fo_6) 1
   have co1 := Fo_6.at 1
   have mo2 := CellsAt.frozen (Fo_6) 2
   have co2 := Fo_6.at 2
   have mo3 := CellsAt.frozen (Fo_6) 3
   have co3 := Fo_6.at 3
   have mr0 := CellsAt.frozen (Fr_6) 0
   have cr0 := Fr_6.at 0
   have mr1 := CellsAt.frozen (Fr_6) 1
   have cr1 := Fr_6.at 1
   have mr2 := CellsAt.frozen (Fr_6) 2
   have cr2 := Fr_6.at 2
   have mr3 := CellsAt.frozen (Fr_6) 3
   have cr3 := Fr_6.at 3
   go_wp2_with fail
   clear cb0 cb1 cb2 cb3 cp0 cp1 cp2 cp3 cp4 cp5 mo0 co0 mo1 co1 mo2 co2 mo3 co3 mr0 cr0 mr1 cr1 mr2 cr2 mr3 cr3
   have apy := CxsAt.apart Ky_6 Fo_6
   have apz := CxsAt.apart hz6 Fo_6
   have KY7 := Ky_6.set apy 0 (.slice np ys.length nc)
   have KZ7 := hz6.set apz 0 (.slice np ys.length nc)
   have aq := CxsAt.apart KZ7 (CellsAt.set (Fo_6) 0 (.slice np ys.length nc))
   have KZ8 := KZ7.set aq 2 (.bool true)
   have ar := CxsAt.apart KZ8 ((Fr_6.ot).ot)
   have cxe := (((KZ8.set ar 0 (.slice np ys.length nc)).set ar 1 (.int .i64 ex2)).set ar 2 (.bool true)).set ar 3 (.slice sp q cl)
   obtain ⟨uf, hqf⟩ : ∃ zz, zz = ((((((w6.setCell ⟨wr.heap.size, 0, none⟩ (.slice np ys.length nc)).setCell ⟨wr.heap.size, 2, none⟩ (.bool true)).setCell ⟨w.heap.size + 1 + 1, 0, none⟩ (.slice np ys.length nc)).setCell ⟨w.heap.size + 1 + 1, 1, none⟩ (.int .i64 ex2)).setCell ⟨w.heap.size + 1 + 1, 2, none⟩ (.bool true)).setCell ⟨w.heap.size + 1 + 1, 3, none⟩ (.slice sp q cl)) := ⟨_, rfl⟩
   rw [← hqf] at cxe
   have Yr : CellsAt uf (w.heap.size + 1 + 1) 27 #[.slice np ys.length nc, .int .i64 ex2, .bool true, .slice sp q cl] := by rw [hqf]; exact CellsAt.set (CellsAt.set (CellsAt.set (CellsAt.set ((Fr_6.ot).ot) 0 (.slice np ys.length nc)) 1 (.int .i64 ex2)) 2 (.bool true)) 3 (.slice sp q cl)
   have yz : Gr w uf := by rw [hqf]; exact (((((z6.sc _).sc _).sc _).sc _).sc _).sc _
   rw [← hqf]
   clear hqf
   obtain ⟨cs0, cs1, cs2, cs3⟩ := Yr.t4
   refine bodyPost_ret (v := .agg #[.slice np ys.length nc, .int .i64 ex2, .bool true, .slice sp q cl]) ?_ rfl ⟨_, rfl, cxe, yz⟩
   simp [results, Tryz.results17, go_sem, *]
set_option maxHeartbeats 8000000 in
theorem rUnt18_f (px sp : Option Addr) (m cx q cl : Nat) (hm : m ≤ 70) (xs ws ys : List Gi) (B : Nat → Gi) (ex ex2 fo lo lo1 ke mo T : Int) (iv sm : Bool) (hl1 : IntKind.i64.wrap (lo + 1) = lo1) (hex : IntKind.i64.wrap (ex + 1) = ex2)
 (HB : CR 42 #[.int .i64 fo] (.int .i64 T))
 (HT : Hid (∀ W, Calls Tryz.prog 41 #[.int .i64 lo1, .int .i64 T] W fun e w' => ∃ u, e = .returned u ∧ CxsAt w' u ws ∧ Gr W w'))
 (HN : Hid (∀ j, j ≤ m → ∀ v W, CxsAt W (.slice px m cx) xs → CxsAt W v ws → Calls Tryz.prog 43 #[.agg #[.slice px m cx, .int .i64 ex, .bool false, .slice sp q cl], .agg #[.int .i64 fo, .int .i64 lo, .int .i64 ke, .int .i64 2, .int .i64 mo, .bool iv], v, .int .i64 (j : Int)] W fun e w' => e = .returned (.agg #[.int .i64 (B j).re, .int .i64 (B j).im]) ∧ Gr W w'))
 (HCl : Hid (∀ v W, CxsAt W v ((List.range (m + 1)).map B) → Calls Tryz.prog 44 #[v, .int .i64 fo] W fun e w' => ∃ u, e = .returned u ∧ CxsAt w' u ys ∧ Gr W w'))
 (HM : Hid (∀ u v W, CxsAt W u ys → CxsAt W v ((List.range (m + 1)).map B) → Calls Tryz.prog 10 #[u, v] W fun e w' => e = .returned (.bool sm) ∧ Gr W w')) (w : World) (hv : CxsAt w (.slice px m cx) xs) :
 Calls Tryz.prog 17 #[.agg #[.slice px m cx, .int .i64 ex, .bool false, .slice sp q cl], .agg #[.int .i64 fo, .int .i64 lo, .int .i64 ke, .int .i64 2, .int .i64 mo, .bool iv]] w fun e w' => ∃ vx, e = .returned (.agg #[vx, .int .i64 ex2, .bool (!sm), .slice sp q cl]) ∧ CxsAt w' vx ys ∧ Gr w w' := by
 obtain ⟨i0, hi, hz0, hz1, hz2⟩ := info_parts info_cx
 go_enter Tryz.func17, Tryz.ntmps17
 go_wp2_with fail
 obtain ⟨u0, hU⟩ : ∃ uu, uu = (((w.alloc (.cells #[.slice px m cx, .int .i64 ex, .bool false, .slice sp q cl] 27)).alloc (.cells #[.int .i64 fo, .int .i64 lo, .int .i64 ke, .int .i64 2, .int .i64 mo, .bool iv] 24)).alloc (.cells #[.slice none 0 0, .int .i64 0, .bool false, .slice none 0 0] 27)) := ⟨_, rfl⟩
 have ⟨gu, R0, R1, R2⟩ := lay3 hU
 rw [← hU]
 clear hU
 have lb := R0.lt
 have lp := R1.lt
 have lr := R2.lt
 obtain ⟨u1, hqp1⟩ : ∃ zz, zz = u0 := ⟨_, rfl⟩
 have Yb_p1 : CellsAt u1 (w.heap.size) 27 #[.slice px m cx, .int .i64 ex, .bool false, .slice sp q cl] := by rw [hqp1]; first | exact R0 | simpa using R0
 have Yp_p1 : CellsAt u1 (w.heap.size + 1) 24 #[.int .i64 fo, .int .i64 lo, .int .i64 ke, .int .i64 2, .int .i64 mo, .bool iv] := by rw [hqp1]; first | exact R1 | simpa using R1
 have Yr_p1 : CellsAt u1 (w.heap.size + 1 + 1) 27 #[.slice none 0 0, .int .i64 0, .bool false, .slice none 0 0] := by rw [hqp1]; first | exact R2 | simpa using R2
 have yp1 : Gr w u1 := by rw [hqp1]; exact gu
 rw [← hqp1]
 clear hqp1
 have KS : ∀ W, Gr u1 W → (W.cell? ⟨w.heap.size + 1, 0, none⟩ = some (.int .i64 fo) ∧ W.cell? ⟨w.heap.size + 1, 1, none⟩ = some (.int .i64 lo) ∧ W.cell? ⟨w.heap.size + 1, 2, none⟩ = some (.int .i64 ke) ∧ W.cell? ⟨w.heap.size + 1, 3, none⟩ = some (.int .i64 2) ∧ W.cell? ⟨w.heap.size + 1, 4, none⟩ = some (.int .i64 mo) ∧ W.cell? ⟨w.heap.size + 1, 5, none⟩ = some (.bool iv)) := fun W hG => ⟨(CellsAt.gr Yp_p1 hG).cell 0, (CellsAt.gr Yp_p1 hG).cell 1, (CellsAt.gr Yp_p1 hG).cell 2, (CellsAt.gr Yp_p1 hG).cell 3, (CellsAt.gr Yp_p1 hG).cell 4, (CellsAt.gr Yp_p1 hG).cell 5⟩
 have hclG := gr_closed u1
 try simp only [List.append_eq, List.cons_append, List.nil_append]
 refine wp_region_grow (S := Gr u1) rfl (Gr.drew (Gr.refl _)) ?_
 refine gT 0 hclG ?_
 refine gK 1 hclG KS ?_
 refine gT 2 hclG ?_
 refine gT 3 hclG ?_
 refine gK 4 hclG KS ?_
 refine wpG_call (i := 5) hclG rfl (by kernel_rfl) (by kernel_rfl) (by kernel_rfl) (fun _ _ _ h => h) (fun W hS => HB.out W) (by rfl) ?_ ?_
 ·(intro w' hSw; go_simp; try with_reducible rfl)
 try simp only [Act.put, putS]
 refine gR 6 fun w1 g1 s1 K hK => ?_
 replace g1 := (Gr.drew (Gr.refl u1)).trans g1
 have ⟨Fb_1, lb_1⟩ := Yb_p1.gl g1
 have ⟨Fp_1, lp_1⟩ := Yp_p1.gl g1
 have ⟨Fr_1, lr_1⟩ := Yr_p1.gl g1
 have z1 := yp1.trans g1
 clear Yb_p1 Yp_p1 Yr_p1 yp1 g1
 go_simp
 refine (HT.out w1).mono ?_
 rintro e w2 ⟨vt, rfl, hvt, g2⟩
 have t2 := Gr.trans s1 g2
 have ⟨Fb_2, lb_2⟩ := Fb_1.gl g2
 have ⟨Fp_2, lp_2⟩ := Fp_1.gl g2
 have ⟨Fr_2, lr_2⟩ := Fr_1.gl g2
 have z2 := z1.trans g2
 clear Fb_1 Fp_1 Fr_1 z1 g2
 refine hK.out _ _ ?_ ?_
 ·exact t2
 clear hK K
 try simp only [Act.put, putS]
 refine gT 7 hclG ?_
 refine wpG_done (by kernel_rfl) (fun w3 g3 => ?_) _
 have ⟨Fb_3, lb_3⟩ := Fb_2.gl g3
 have ⟨Fp_3, lp_3⟩ := Fp_2.gl g3
 have ⟨Fr_3, lr_3⟩ := Fr_2.gl g3
 have Ktw_3 := hvt.gr g3
 have z3 := z2.trans g3
 clear Fb_2 Fp_2 Fr_2 z2 g3
 clear hclG KS
 go_wp2_with fail
 obtain ⟨vz, hqp2⟩ : ∃ zz, zz = w3 := ⟨_, rfl⟩
 have Yb_p2 : CellsAt vz (w.heap.size) 27 #[.slice px m cx, .int .i64 ex, .bool false, .slice sp q cl] := by rw [hqp2]; first | exact Fb_3 | simpa using Fb_3
 have Yp_p2 : CellsAt vz (w.heap.size + 1) 24 #[.int .i64 fo, .int .i64 lo, .int .i64 ke, .int .i64 2, .int .i64 mo, .bool iv] := by rw [hqp2]; first | exact Fp_3 | simpa using Fp_3
 have Yr_p2 : CellsAt vz (w.heap.size + 1 + 1) 27 #[.slice none 0 0, .int .i64 0, .bool false, .slice none 0 0] := by rw [hqp2]; first | exact Fr_3 | simpa using Fr_3
 have Vtw_p2 := Ktw_3
 rw [← hqp2] at Vtw_p2
 have yp2 : Gr w vz := by rw [hqp2]; exact z3
 rw [← hqp2]
 clear hqp2
 have hzs := (yp2).size
 have hs0 : ((vz.alloc (.cells #[] 50)).ownsRow vz.heap.size 50 2 (.slice (some ⟨vz.heap.size, 0, none⟩) 0 0) 0 []) := World.ownsRow_made vz #[] 0 (Nat.le_refl _) (by unfold maxLen; omega) (by simp)
 have gs0 := (Gr.refl vz).alloc #[] 50
 go_loopw [6, 7] (fun v i wr => ∃ j : Nat, j ≤ m + 1 ∧ i = .int .i64 j ∧ wr.ownsRow vz.heap.size 50 2 v j (gcells ((List.range j).map B)) ∧ Gr vz wr) (fun _ i _ => m + 1 - (intOf i).toNat)
 case atStart => exact ⟨0, by omega, rfl, hs0, gs0⟩
 case round =>
  clear hs0 gs0
  obtain ⟨j, hj, rfl, hrow, hg⟩ := hrel
  have hgw := yp2.trans hg
  have BV := CellsAt.gr Yb_p2 hg
  have PV := CellsAt.gr Yp_p2 hg
  have RV := CellsAt.gr Yr_p2 hg
  have hm70 : (m : Int) ≤ 70 := by omega
  by_cases hlt : j ≤ m
  ·have hjI : (j : Int) ≤ (m : Int) := by omega
   have HB1 := Lib.hid (HN.out j hlt)
   have er : (List.range (j + 1)).map B = (List.range j).map B ++ [B j] := by rw [List.range_succ, List.map_append]; rfl
   have ER := Lib.hid er
   clear er RV
   generalize B j = g at *
   obtain ⟨re, im⟩ := g
   simp only at HB1
   have lb := BV.lt
   have lp := PV.lt
   obtain ⟨cb0, cb1, cb2, cb3⟩ := BV.t4
   obtain ⟨cp0, cp1, cp2, cp3, cp4, cp5⟩ := PV.t6
   go_wp2_with fail
   clear cb0 cb1 cb2 cb3 cp0 cp1 cp2 cp3 cp4 cp5
   refine (HB1.out _ _ (hv.gr hgw) (CxsAt.gr Vtw_p2 hg)).mono ?_
   rintro e wq ⟨rfl, hgq⟩
   have hrow2 := ownsRow_gr hrow hgq
   have hsz := hg.size
   have hsq := hgq.size
   have hg2 := hg.trans hgq
   clear hrow hg hgq HB1 BV PV
   go_wp2_with (at_builtin; refine wpList_append_own_at _ rfl (.tmp 24) (.tmp 30) 25 rfl vz.heap.size 50 i0 (.agg #[.int .i64 0, .int .i64 0]) 2 16 Tryz.underlying25 hi hz0 hz1 hz2 rfl (by decide) _ _ _ rfl (hrow2.alloc _) ⟨wq.heap.size, 0, none⟩ 1 1 [.int .i64 re, .int .i64 im] rfl rfl (news_two _ _ _ _) (by simp [Value.oneCell']) (by unfold maxLen; omega) (by omega) (by simp; omega) ?_; intro v' w3 hown' hgrow _ hblk)
   have e : gcells ((List.range j).map B) ++ [.int .i64 re, .int .i64 im] = gcells ((List.range (j + 1)).map B) := by
    rw [ER.out, gcells_snoc]
   rw [e] at hown'
   have hg3 := (hg2.allocO _).grown hgrow (fun k e => (hrow2.lt k e).1)
   go_roundw
   case rel => exact ⟨j + 1, by omega, by go_num, hown', hg3⟩
   case measure => simp [intOf]; omega
  ·obtain rfl : j = m + 1 := by omega
   have hjI : ¬ ((m + 1 : Nat) : Int) ≤ (m : Int) := by omega
   have HLN := Lib.hid (show ((List.range (m + 1)).map B).length = m + 1 by simp)
   have lb := BV.lt
   have lp := PV.lt
   have lr := RV.lt
   have hvx := CxsAt.of_row hrow
   obtain ⟨gp, gc, hsl⟩ := hvx.len
   rw [HLN.out] at hsl
   subst hsl
   obtain ⟨cb0, cb1, cb2, cb3⟩ := BV.t4
   obtain ⟨cp0, cp1, cp2, cp3, cp4, cp5⟩ := PV.t6
   go_wp2_with fail
   clear cb0 cb1 cb2 cb3 cp0 cp1 cp2 cp3 cp4 cp5
   have KX5 := hvx.gr ((Gr.refl wr).alloc #[.slice gp (m + 1) gc, .int .i64 ex2, .bool false, .slice sp q cl] 27)
   obtain ⟨wo, hwo⟩ : ∃ zz, zz = (wr.alloc (.cells #[.slice gp (m + 1) gc, .int .i64 ex2, .bool false, .slice sp q cl] 27)) := ⟨_, rfl⟩
   have hos : wo.heap.size = wr.heap.size + 1 := by rw [hwo]; simp
   have hgws := hgw.size
   rw [← hwo] at KX5
   have Ybo : CellsAt wo (w.heap.size) 27 #[.slice px m cx, .int .i64 ex, .bool false, .slice sp q cl] := by rw [hwo]; first | exact BV.alloc _ | simpa using BV.alloc _
   have Ypo : CellsAt wo (w.heap.size + 1) 24 #[.int .i64 fo, .int .i64 lo, .int .i64 ke, .int .i64 2, .int .i64 mo, .bool iv] := by rw [hwo]; first | exact PV.alloc _ | simpa using PV.alloc _
   have Yro : CellsAt wo (w.heap.size + 1 + 1) 27 #[.slice none 0 0, .int .i64 0, .bool false, .slice none 0 0] := by rw [hwo]; first | exact RV.alloc _ | simpa using RV.alloc _
   have Yoo : CellsAt wo (wr.heap.size) 27 #[.slice gp (m + 1) gc, .int .i64 ex2, .bool false, .slice sp q cl] := by rw [hwo]; have q_ := CellsAt.new wr 27 #[.slice gp (m + 1) gc, .int .i64 ex2, .bool false, .slice sp q cl]; first | exact q_ | simpa using q_
   have yo : Gr w wo := by rw [hwo]; exact hgw.alloc _ _
   try rw [← hwo]
   clear hwo
   refine (HCl.out _ _ KX5).mono ?_
   rintro e w6 ⟨vc, rfl, hz6, g6⟩
   obtain ⟨np, nc, rfl⟩ := hz6.len
   have hz6s := g6.size
   have ⟨Fb_6, lb_6⟩ := Ybo.gl g6
   have ⟨Fp_6, lp_6⟩ := Ypo.gl g6
   have ⟨Fr_6, lr_6⟩ := Yro.gl g6
   have ⟨Fo_6, lo_6⟩ := Yoo.gl g6
   have Ky_6 := KX5.gr g6
   have z6 := yo.trans g6
   clear Ybo Ypo Yro Yoo yo g6
   obtain ⟨cb0, cb1, cb2, cb3⟩ := Fb_6.t4
   obtain ⟨cp0, cp1, cp2, cp3, cp4, cp5⟩ := Fp_6.t6
   have mo0 := CellsAt.frozen (Fo_6) 0
   have co0 := Fo_6.at 0
   have mo1 := CellsAt.frozen (Fo_6) 1
   have co1 := Fo_6.at 1
   have mo2 := CellsAt.frozen (Fo_6) 2
   have co2 := Fo_6.at 2
   have mo3 := CellsAt.frozen (Fo_6) 3
   have co3 := Fo_6.at 3
   go_wp2_with fail
   clear cb0 cb1 cb2 cb3 cp0 cp1 cp2 cp3 cp4 cp5 mo0 co0 mo1 co1 mo2 co2 mo3 co3
   have apy := CxsAt.apart Ky_6 Fo_6
   have apz := CxsAt.apart hz6 Fo_6
   have KY7 := Ky_6.set apy 0 (.slice np ys.length nc)
   have KZ7 := hz6.set apz 0 (.slice np ys.length nc)
   obtain ⟨wq, hwq⟩ : ∃ zz, zz = (w6.setCell ⟨wr.heap.size, 0, none⟩ (.slice np ys.length nc)) := ⟨_, rfl⟩
   rw [← hwq] at KY7 KZ7
   have Ybq : CellsAt wq (w.heap.size) 27 #[.slice px m cx, .int .i64 ex, .bool false, .slice sp q cl] := by rw [hwq]; first | exact Fb_6.ot | simpa using Fb_6.ot
   have Ypq : CellsAt wq (w.heap.size + 1) 24 #[.int .i64 fo, .int .i64 lo, .int .i64 ke, .int .i64 2, .int .i64 mo, .bool iv] := by rw [hwq]; first | exact Fp_6.ot | simpa using Fp_6.ot
   have Yrq : CellsAt wq (w.heap.size + 1 + 1) 27 #[.slice none 0 0, .int .i64 0, .bool false, .slice none 0 0] := by rw [hwq]; first | exact Fr_6.ot | simpa using Fr_6.ot
   have Yoq : CellsAt wq (wr.heap.size) 27 #[.slice np ys.length nc, .int .i64 ex2, .bool false, .slice sp q cl] := by rw [hwq]; have q_ := CellsAt.set (Fo_6) 0 (.slice np ys.length nc); first | exact q_ | simpa using q_
   have yq : Gr w wq := by rw [hwq]; exact z6.sc _
   try rw [← hwq]
   clear hwq
   refine (HM.out _ _ _ KZ7 KY7).mono ?_
   rintro e w8 ⟨rfl, g8⟩
   replace KZ7 := KZ7.gr g8
   have g8s := g8.size
   have ⟨Fb_8, lb_8⟩ := Ybq.gl g8
   have ⟨Fp_8, lp_8⟩ := Ypq.gl g8
   have ⟨Fr_8, lr_8⟩ := Yrq.gl g8
   have ⟨Fo_8, lo_8⟩ := Yoq.gl g8
   have z8 := yq.trans g8
   clear Ybq Ypq Yrq Yoq yq g8
   obtain ⟨co0, co1, co2, co3⟩ := Fo_8.t4
   obtain ⟨mo0, mo1, mo2, mo3⟩ := Fo_8.f4
   have mr0 := Fr_8.frozen 0
   have cr0 := Fr_8.at 0
   have mr1 := CellsAt.frozen (Fr_8) 1
   have cr1 := Fr_8.at 1
   have mr2 := CellsAt.frozen (Fr_8) 2
   have cr2 := Fr_8.at 2
   have mr3 := CellsAt.frozen (Fr_8) 3
   have cr3 := Fr_8.at 3
   go_wp2_with fail
   clear co0 co1 co2 co3 mo0 mo1 mo2 mo3 mr0 cr0 mr1 cr1 mr2 cr2 mr3 cr3
   have aq := CxsAt.apart KZ7 (Fo_8)
   have KZ8 := KZ7.set aq 2 (.bool !sm)
   have ar := CxsAt.apart KZ8 (Fr_8.ot)
   have cxe := (((KZ8.set ar 0 (.slice np ys.length nc)).set ar 1 (.int .i64 ex2)).set ar 2 (.bool !sm)).set ar 3 (.slice sp q cl)
   obtain ⟨uf, hqf⟩ : ∃ zz, zz = (((((w8.setCell ⟨wr.heap.size, 2, none⟩ (.bool !sm)).setCell ⟨w.heap.size + 1 + 1, 0, none⟩ (.slice np ys.length nc)).setCell ⟨w.heap.size + 1 + 1, 1, none⟩ (.int .i64 ex2)).setCell ⟨w.heap.size + 1 + 1, 2, none⟩ (.bool !sm)).setCell ⟨w.heap.size + 1 + 1, 3, none⟩ (.slice sp q cl)) := ⟨_, rfl⟩
   rw [← hqf] at cxe
   have Yr : CellsAt uf (w.heap.size + 1 + 1) 27 #[.slice np ys.length nc, .int .i64 ex2, .bool !sm, .slice sp q cl] := by rw [hqf]; exact CellsAt.set (CellsAt.set (CellsAt.set (CellsAt.set (Fr_8.ot) 0 (.slice np ys.length nc)) 1 (.int .i64 ex2)) 2 (.bool !sm)) 3 (.slice sp q cl)
   have yz : Gr w uf := by rw [hqf]; exact ((((z8.sc _).sc _).sc _).sc _).sc _
   rw [← hqf]
   clear hqf
   obtain ⟨cs0, cs1, cs2, cs3⟩ := Yr.t4
   refine bodyPost_ret (v := .agg #[.slice np ys.length nc, .int .i64 ex2, .bool !sm, .slice sp q cl]) ?_ rfl ⟨_, rfl, cxe, yz⟩
   simp [results, Tryz.results17, go_sem, *]
end
section
open Go.ChangeShapes Go.WideShapes Go.ChangeAt Go.RowKit
set_option linter.unusedVariables false
set_option maxRecDepth 100000
def SetsOk (b s mo : Int) : Prop := (0 ≤ b ∧ b ≤ 29) ∧ (0 ≤ s ∧ s ≤ 3) ∧ 0 ≤ mo ∧ mo ≤ 2
theorem pow08_c' (k : Nat) (p : Int) (h : (2 : Int) ^ k = p) (h1 : k ≤ 62) (w : World) :
 Calls Tryz.prog 38 #[.int .i64 (k : Int)] w fun e w' => e = .returned (.int .i64 p) ∧ w' = w := by
 have := pow_c (k : Int) (by omega) (by omega) w
 rwa [Int.toNat_natCast, h] at this
theorem scale10_c (x y : Int) (bits : Nat) (P r0 r1 : Int) (hb : bits ≤ 29) (hP : (2 : Int) ^ bits = P) (h0 : wrap64 (x * P) = r0) (h1 : wrap64 (y * P) = r1) (w : World) :
 CW 83 #[.agg #[.int .i64 x, .int .i64 y], .int .i64 bits] w (.agg #[.int .i64 r0, .int .i64 r1]) :=by
 delta CW
 have HP := Lib.hid (pow08_c' bits P hP (by omega))
 clear hP hb
 go_enter Tryz.func83, Tryz.ntmps83
 go_wp2_with (go_at_call 38; refine (HP.out _).mono ?_; rintro e wz ⟨rfl, rfl⟩)
 refine bodyPost_ret (v := .agg #[.int .i64 r0, .int .i64 r1]) ?_ rfl ⟨rfl, ?_⟩
 ·simp [results, Tryz.results83, go_sem]
 ·exact by repeat (first | exact Gr.refl _ | assumption | apply Gr.drew | apply Gr.alloc | (refine Gr.setCell ?_ (by first | (simp; done) | (simp; omega)) _))
end
section
open Go.ChangeShapes Go.WideShapes Go.ChangeAt Go.RowKit
set_option linter.unusedVariables false
end
section
open Go.ChangeShapes Go.WideShapes Go.ChangeAt Go.RowKit
set_option linter.unusedVariables false
theorem pair_nums (a b w : Gi) (bits : Nat) (hb : bits ≤ 29) (ha : absI a.re ≤ 2147483648 ∧ absI a.im ≤ 2147483648) (hbb : absI b.re ≤ 2147483648 ∧ absI b.im ≤ 2147483648) (hw : absI w.re ≤ 2 ^ bits ∧ absI w.im ≤ 2 ^ bits) :
 (∀ x y : Int, (x = b.re ∨ x = b.im) → (y = w.re ∨ y = w.im) → -1152921504606846976 ≤ x * y ∧ x * y ≤ 1152921504606846976) ∧
 (-1152921504606846976 ≤ a.re * 2 ^ bits ∧ a.re * 2 ^ bits ≤ 1152921504606846976) ∧ (-1152921504606846976 ≤ a.im * 2 ^ bits ∧ a.im * 2 ^ bits ≤ 1152921504606846976) ∧ (2 : Int) ^ bits ≤ 536870912 ∧ 0 < (2 : Int) ^ bits := by
 have hp := pow_pos2 bits
 have hp2 : (2 : Int) ^ bits ≤ 536870912 := by
  have h1 : (2 : Nat) ^ bits ≤ 2 ^ 29 := Nat.pow_le_pow_right (by decide) hb
  have h2 : ((2 ^ bits : Nat) : Int) ≤ ((2 ^ 29 : Nat) : Int) := Int.ofNat_le.2 h1
  rw [Int.natCast_pow] at h2
  simpa using h2
 have hq : (2147483648 : Int) * 2 ^ bits ≤ 1152921504606846976 := by omega
 have a1 := absI_le.1 ha.1
 have a2 := absI_le.1 ha.2
 have b1 := absI_le.1 hbb.1
 have b2 := absI_le.1 hbb.2
 have w1 := absI_le.1 hw.1
 have w2 := absI_le.1 hw.2
 have m1 := mulG_bd a.re (2 ^ bits) 2147483648 (2 ^ bits) (by omega) a1 (by omega)
 have m2 := mulG_bd a.im (2 ^ bits) 2147483648 (2 ^ bits) (by omega) a2 (by omega)
 refine ⟨fun x y hx hy => ?_, by omega, by omega, hp2, hp⟩
 have hx2 : -2147483648 ≤ x ∧ x ≤ 2147483648 := by rcases hx with rfl | rfl <;> assumption
 have hy2 : -(2 ^ bits) ≤ y ∧ y ≤ 2 ^ bits := by rcases hy with rfl | rfl <;> assumption
 have m3 := mulG_bd x y 2147483648 (2 ^ bits) (by omega) hx2 hy2
 generalize x * y = t at *
 omega
end
section
open Go.ChangeShapes Go.WideShapes Go.ChangeAt Go.RowKit
set_option linter.unusedVariables false
def WhyIs (n m : Nat) (part : Bool) (b s mo : Int) (inx inw : Bool) (e : Int) : Prop :=
 ((¬ ∃ L, IsLog (n : Int) L) ∧ e = 3) ∨
 ((∃ L, IsLog (n : Int) L) ∧ m ≠ n ∧ e = 5) ∨
 ((∃ L, IsLog (n : Int) L) ∧ m = n ∧ (part = false ∨ ¬ SetsOk b s mo) ∧ e = 1) ∨
 ((∃ L, IsLog (n : Int) L) ∧ m = n ∧ part = true ∧ SetsOk b s mo ∧ (inx && inw) = false ∧ e = 2) ∨
 ((∃ L, IsLog (n : Int) L) ∧ m = n ∧ part = true ∧ SetsOk b s mo ∧ inx = true ∧ inw = true ∧ e = 0)
end
end Go.Proofs.YtdignnmpfkgkoaaGreat
