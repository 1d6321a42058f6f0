import Derived.Test.YtdignnmpfkgkoaaGreatRealBinsS26
namespace Go.Proofs.YtdignnmpfkgkoaaGreat
set_option maxHeartbeats 16000000
section
open Go.ChangeShapes Go.WideShapes Go.ChangeAt Go.RowKit
set_option linter.unusedVariables false
set_option linter.unusedSimpArgs false
set_option maxRecDepth 100000
set_option maxHeartbeats 16000000
theorem packG_snoc (rs : List Int) (k : Nat) (a b : Int) (ha : rs[2 * k]? = some a) (hb : rs[2 * k + 1]? = some b) : (packG rs).take (k + 1) = (packG rs).take k ++ [⟨a, b⟩] := by
 have hk := (List.getElem?_eq_some_iff.1 hb).1
 have h1 : (packG rs)[k]? = some ⟨a, b⟩ := by
  unfold packG;rw [List.getElem?_map, List.getElem?_range (by omega)]
  simp [List.getD, ha, hb]
 exact take_snoc h1
theorem rPack18_c (v : Value) (rs : List Int) (hl : rs.length ≤ 140) (w : World) (hv : NumsAt w v rs) :
 Calls Tryz.prog 11 #[v] w fun e w' => ∃ u, e = .returned u ∧ CxsAt w' u (packG rs) ∧ Gr w w' := by
 obtain ⟨i0, hi, hz0, hz1, hz2⟩ := info_parts info_cx
 obtain ⟨sp, scap, rfl⟩ := hv.len
 have hpl := packG_len rs
 go_in
 go_wp2_with fail
 have hs0 : (w.alloc (.cells #[] 50)).ownsRow w.heap.size 50 2 (.slice (some ⟨w.heap.size, 0, none⟩) 0 0) 0 [] := World.ownsRow_made w #[] 0 (Nat.le_refl _) (by unfold maxLen; omega) (by simp)
 have g0 : Gr w (w.alloc (.cells #[] 50)) := (Gr.refl w).alloc _ _
 go_loopw [3, 4] (fun u i wr => ∃ k : Nat, 2 * k ≤ rs.length ∧ i = .int .i64 k ∧ wr.ownsRow w.heap.size 50 2 u k (gcells ((packG rs).take k)) ∧ Gr w wr) (fun _ i _ => rs.length - (intOf i).toNat)
 case atStart => exact ⟨0, by omega, rfl, hs0, g0⟩
 case round =>
  clear hs0 g0;obtain ⟨k, hk, rfl, hrow, hg⟩ := hrel
  have hl140 : (rs.length : Int) ≤ 140 := by omega
  by_cases hlt : 2 * k + 1 < rs.length
  ·obtain ⟨a, ha⟩ := get_of_lt (xs := rs) (show 2 * k < rs.length by omega)
   obtain ⟨c, hc1⟩ := get_of_lt hlt;obtain ⟨b, o, cap', hsl, hln, hb, hc⟩ := hv.at (by intro e; rw [e] at hlt; simp at hlt)
   cases hsl
   have HTK := kh (packG_snoc rs k a c ha hc1)
   have hlI : 2 * (k : Int) + 1 < (rs.length : Int) := by omega
   have hbr : b < wr.heap.size := Nat.lt_of_lt_of_le hb hg.size
   obtain ⟨j0, hj0⟩ : ∃ j0 : Nat, 2 * k = j0 := ⟨_, rfl⟩
   obtain ⟨j1, hj1⟩ : ∃ j1 : Nat, 2 * k + 1 = j1 := ⟨_, rfl⟩
   have h1 := hc (2 * k) a ha;have h2 := hc (2 * k + 1) c hc1;rw [hj0] at h1;rw [hj1] at h2;clear ha hc1 hc;go_wp2_with fail;have hrl := fun q e => (hrow.lt q e).2
   have hrb := fun q e => (hrow.lt q e).1
   have KS : ∀ W, Gr w W → (W.cell? ⟨b, o + j0, none⟩ = some (.int .i64 a) ∧ W.cell? ⟨b, o + j1, none⟩ = some (.int .i64 c)) := fun W h => ⟨(h.cell (p := ⟨b, o + j0, none⟩) hb).trans h1, (h.cell (p := ⟨b, o + j1, none⟩) hb).trans h2⟩
   clear h1 h2
   have w1 : IntKind.i64.wrap (2 * (k : Int)) = (j0 : Int) := by rw [← hj0]; exact IntWalk.i64_in _ ⟨by omega, by omega⟩
   have w2 : IntKind.i64.wrap ((j0 : Int) + 1) = (j1 : Int) := by rw [← hj1, ← hj0]; exact IntWalk.i64_in _ ⟨by omega, by omega⟩
   have b0 : (j0 : Int) < (rs.length : Int) := by omega
   have b1 : (j1 : Int) < (rs.length : Int) := by omega
   have hsr := hg.size;have hclG := gr_closed w
   try simp only [List.append_eq, List.cons_append, List.nil_append]
   refine wp_region_grow (S := Gr w) rfl (Gr.drew hg) ?_;refine gT 0 hclG ?_;refine gT 1 hclG ?_;refine gT 2 hclG ?_;refine gT 3 hclG ?_;refine gT 4 hclG ?_;refine gK 5 hclG KS ?_;refine gT 6 hclG ?_;refine gT 7 hclG ?_;refine gT 8 hclG ?_;refine gT 9 hclG ?_;refine gT 10 hclG ?_;refine gK 11 hclG KS ?_;refine gT 12 hclG ?_;refine gR 13 fun wf gf sf K hK => ?_
   replace gf := (Gr.drew (Gr.refl wr)).trans gf
   go_simp
   have L0 := CellsAt.new wf 50 #[a, c];refine hK.out _ _ ?_ ?_
   ·exact sf.alloc _ _
   clear hK K
   try simp only [Act.put, putS]
   refine gR 14 fun wg gg sg K hK => ?_
   have L1 := L0.gr gg;have hnews := World.news_of_block L1;have GG := (gf.alloc #[a, c] 50).trans gg;have hrw := ownsRow_gr hrow GG;have hsg := sg.size;refine Go.step_append_lies _ rfl (.tmp 14) (.tmp 27) 25 rfl w.heap.size 50 i0 (.agg #[.int .i64 0, .int .i64 0]) 2 16 Tryz.underlying25 hi hz0 hz1 hz2 rfl (by decide) u3 k _ rfl hrw ⟨wf.heap.size, 0, none⟩ 1 1 [.int .i64 a, .int .i64 c] rfl rfl hnews (by simp [Value.oneCell']) (by omega) (by unfold maxLen; omega) (by omega) (by omega) _ rfl ?_
   intro gb gcap wh hown8 hgrow8 hor8 hlt8
   have sh : Gr w wh := sg.grown hgrow8 hrb
   refine hK.out _ _ ?_ ?_
   ·exact sh
   clear hK K
   try simp only [Act.put, putS]
   refine gT 15 hclG ?_;refine wpG_done (by kernel_rfl) (fun wi gi => ?_) _;have hown9 := ownsRow_gr hown8 gi;have gz := sh.trans gi;clear hclG KS L0 L1 hnews GG hrw sf sg gf gg hgrow8 hor8;go_wp2_with fail
   go_roundw
   case rel =>
    refine ⟨k + 1, by omega, by go_num, ?_, gz⟩;rw [HTK.out, gcells_snoc]
    exact hown9
   case measure => simp [intOf]; omega
  ·have hlI : ¬ 2 * (k : Int) + 1 < (rs.length : Int) := by omega
   have hke : k = rs.length / 2 := by omega
   have HKE := kh hke;clear hke;go_wp2_with fail
   go_ret
   rw [HKE.out, ← hpl, List.take_length] at hrow
   exact ⟨_, rfl, CxsAt.of_row hrow, hg⟩
theorem rUnt18_n (px sp : Option Addr) (m cx q cl : Nat) (hm : m ≤ 70) (xs ws zs : List Gi) (B : Nat → Gi) (ex ex2 fo lo lo1 ke sc mo T : Int) (iv sa : Bool) (hsc : (sc == 2) = false) (hl1 : IntKind.i64.wrap (lo + 1) = lo1) (hex : IntKind.i64.wrap (ex + 1) = ex2)
 (HB : CR 42 #[fo] (.int .i64 T))
 (HT : Hid (∀ W, Calls Tryz.prog 41 #[lo1, T] W fun e w' => ∃ u, e = .returned u ∧ CxsAt w' u ws ∧ Gr W w'))
 (HN : Hid (∀ j, j ≤ m → ∀ v W, CxsAt W (.slice px m cx) xs → CxsAt W v ws → Calls Tryz.prog 43 #[.agg #[.slice px m cx, ex, sa, .slice sp q cl], .agg #[fo, lo, ke, sc, mo, iv], v, .int .i64 (j : Int)] W fun e w' => e = .returned (.agg #[.int .i64 (B j).re, .int .i64 (B j).im]) ∧ Gr W w'))
 (HZ : Hid ((List.range (m + 1)).map B = zs)) (w : World) (hv : CxsAt w (.slice px m cx) xs) :
 Calls Tryz.prog 17 #[.agg #[.slice px m cx, ex, sa, .slice sp q cl], .agg #[fo, lo, ke, sc, mo, iv]] w fun e w' => ∃ vx, e = .returned (.agg #[vx, ex2, sa, .slice sp q cl]) ∧ CxsAt w' vx zs ∧ Gr w w' := by
 obtain ⟨i0, hi, hz0, hz1, hz2⟩ := info_parts info_cx
 go_in
 go_wp2_with fail
 obtain ⟨u0, hU⟩ : ∃ uu, uu = (((w.alloc (.cells #[.slice px m cx, ex, sa, .slice sp q cl] 27)).alloc (.cells #[fo, lo, ke, sc, mo, iv] 24)).alloc (.cells #[.slice none 0 0, .int .i64 0, false, .slice none 0 0] 27)) := ⟨_, rfl⟩
 have ⟨gu, R0, R1, R2⟩ := lay3 hU
 rw [← hU]
 clear hU
 have lb := R0.lt
 have lp := R1.lt
 have lr := R2.lt
 obtain ⟨u1, hqp1⟩ : ∃ zz, zz = u0 := ⟨_, rfl⟩
 subst hqp1
 have Yb_p1 := R0
 have Yp_p1 := R1
 have Yr_p1 := R2
 have yp1 := gu
 have KS := fun W (hG : Gr u1 W) => (CellsAt.gr Yp_p1 hG).t6
 have hclG := gr_closed u1
 try simp only [List.append_eq, List.cons_append, List.nil_append]
 refine wp_region_grow (S := Gr u1) rfl (Gr.drew (Gr.refl _)) ?_
 refine gT 0 hclG ?_
 refine gK 1 hclG KS ?_
 refine gT 2 hclG ?_
 refine gT 3 hclG ?_
 refine gK 4 hclG KS ?_
 refine gC 5 hclG (fun W hS => HB.out W) ?_
 try simp only [Act.put, putS]
 refine gR 6 fun w1 g1 s1 K hK => ?_
 replace g1 := (Gr.drew (Gr.refl u1)).trans g1
 have ⟨Fb_1, lb_1⟩ := Yb_p1.gl g1
 have ⟨Fp_1, lp_1⟩ := Yp_p1.gl g1
 have ⟨Fr_1, lr_1⟩ := Yr_p1.gl g1
 have z1 := yp1.trans g1
 clear Yb_p1 Yp_p1 Yr_p1 yp1 g1
 go_simp
 refine (HT.out w1).mono ?_
 rintro e w2 ⟨vt, rfl, hvt, g2⟩
 have t2 := Gr.trans s1 g2
 have ⟨Fb_2, lb_2⟩ := Fb_1.gl g2
 have ⟨Fp_2, lp_2⟩ := Fp_1.gl g2
 have ⟨Fr_2, lr_2⟩ := Fr_1.gl g2
 have z2 := z1.trans g2
 clear Fb_1 Fp_1 Fr_1 z1 g2
 refine hK.out _ _ ?_ ?_
 ·exact t2
 clear hK K
 try simp only [Act.put, putS]
 refine gT 7 hclG ?_
 refine wpG_done (by kernel_rfl) (fun w3 g3 => ?_) _
 have ⟨Fb_3, lb_3⟩ := Fb_2.gl g3
 have ⟨Fp_3, lp_3⟩ := Fp_2.gl g3
 have ⟨Fr_3, lr_3⟩ := Fr_2.gl g3
 have Ktw_3 := hvt.gr g3
 have z3 := z2.trans g3
 clear Fb_2 Fp_2 Fr_2 z2 g3
 clear hclG KS
 go_wp2_with fail
 obtain ⟨vz, hqp2⟩ : ∃ zz, zz = w3 := ⟨_, rfl⟩
 have Yb_p2 : CellsAt vz (w.heap.size) 27 #[.slice px m cx, ex, sa, .slice sp q cl] := by rw [hqp2]; first | exact Fb_3 | simpa using Fb_3
 have Yp_p2 : CellsAt vz (w.heap.size + 1) 24 #[fo, lo, ke, sc, mo, iv] := by rw [hqp2]; first | exact Fp_3 | simpa using Fp_3
 have Yr_p2 : CellsAt vz (w.heap.size + 1 + 1) 27 #[.slice none 0 0, .int .i64 0, false, .slice none 0 0] := by rw [hqp2]; first | exact Fr_3 | simpa using Fr_3
 have Vtw_p2 := Ktw_3
 rw [← hqp2] at Vtw_p2
 have yp2 : Gr w vz := by rw [hqp2]; exact z3
 rw [← hqp2]
 clear hqp2
 have hzs := (yp2).size
 have hs0 : ((vz.alloc (.cells #[] 50)).ownsRow vz.heap.size 50 2 (.slice (some ⟨vz.heap.size, 0, none⟩) 0 0) 0 []) := World.ownsRow_made vz #[] 0 (Nat.le_refl _) (by unfold maxLen; omega) (by simp)
 have gs0 := (Gr.refl vz).alloc #[] 50
 go_loopw [6, 7] (fun v i wr => ∃ j : Nat, j ≤ m + 1 ∧ i = .int .i64 j ∧ wr.ownsRow vz.heap.size 50 2 v j (gcells ((List.range j).map B)) ∧ Gr vz wr) (fun _ i _ => m + 1 - (intOf i).toNat)
 case atStart => exact ⟨0, by omega, rfl, hs0, gs0⟩
 case round =>
  clear hs0 gs0;obtain ⟨j, hj, rfl, hrow, hg⟩ := hrel;have hgw := yp2.trans hg;have BV := CellsAt.gr Yb_p2 hg;have PV := CellsAt.gr Yp_p2 hg;have RV := CellsAt.gr Yr_p2 hg
  have hm70 : (m : Int) ≤ 70 := by omega
  by_cases hlt : j ≤ m
  ·have hjI : (j : Int) ≤ (m : Int) := by omega
   have HB1 := kh (HN.out j hlt)
   have er : (List.range (j + 1)).map B = (List.range j).map B ++ [B j] := by rw [List.range_succ, List.map_append]; rfl
   have ER := kh er;clear er RV;generalize B j = g at *;obtain ⟨re, im⟩ := g
   simp only at HB1
   have lb := BV.lt;have lp := PV.lt;obtain ⟨cb0, cb1, cb2, cb3⟩ := BV.t4;obtain ⟨cp0, cp1, cp2, cp3, cp4, cp5⟩ := PV.t6;go_wp2_with fail;clear cb0 cb1 cb2 cb3 cp0 cp1 cp2 cp3 cp4 cp5;refine (HB1.out _ _ (hv.gr hgw) (CxsAt.gr Vtw_p2 hg)).mono ?_;rintro e wq ⟨rfl, hgq⟩;have hrow2 := ownsRow_gr hrow hgq;have hsz := hg.size;have hsq := hgq.size;have hg2 := hg.trans hgq;clear hrow hg hgq HB1 BV PV
   go_wp2_with (at_builtin; refine wpList_append_own_at _ rfl (.tmp 24) (.tmp 30) 25 rfl vz.heap.size 50 i0 (.agg #[.int .i64 0, .int .i64 0]) 2 16 Tryz.underlying25 hi hz0 hz1 hz2 rfl (by decide) _ _ _ rfl (hrow2.alloc _) ⟨wq.heap.size, 0, none⟩ 1 1 [.int .i64 re, .int .i64 im] rfl rfl (news_two _ _ _ _) (by simp [Value.oneCell']) (by unfold maxLen; omega) (by omega) (by simp; omega) ?_; intro v' w3 hown' hgrow _ hblk)
   have e : gcells ((List.range j).map B) ++ [.int .i64 re, .int .i64 im] = gcells ((List.range (j + 1)).map B) := by
    rw [ER.out, gcells_snoc]
   rw [e] at hown';have hg3 := (hg2.allocO _).grown hgrow (fun k e => (hrow2.lt k e).1)
   go_roundw
   case rel => exact ⟨j + 1, by omega, by go_num, hown', hg3⟩
   case measure => simp [intOf]; omega
  ·obtain rfl : j = m + 1 := by omega
   have hjI : ¬ ((m + 1 : Nat) : Int) ≤ (m : Int) := by omega
   have HLN := kh (show ((List.range (m + 1)).map B).length = m + 1 by simp);have lb := BV.lt;have lp := PV.lt;have lr := RV.lt;have hvx := CxsAt.of_row hrow;obtain ⟨gp, gc, hsl⟩ := hvx.len;rw [HLN.out] at hsl;subst hsl;obtain ⟨cb0, cb1, cb2, cb3⟩ := BV.t4;obtain ⟨cp0, cp1, cp2, cp3, cp4, cp5⟩ := PV.t6;obtain ⟨cr0, cr1, cr2, cr3⟩ := RV.t4;obtain ⟨mr0, mr1, mr2, mr3⟩ := RV.f4;go_wp2_with fail;clear cb0 cb1 cb2 cb3 cp0 cp1 cp2 cp3 cp4 cp5 cr0 cr1 cr2 cr3 mr0 mr1 mr2 mr3;have ar := CxsAt.apart hvx (RV);have hgws := hgw.size;have cxe := ((((hvx.set ar 0 (.slice gp (m + 1) gc)).set ar 1 (.int .i64 ex2)).set ar 2 (.bool sa)).set ar 3 (.slice sp q cl)).gr ((Gr.refl _).alloc #[.slice gp (m + 1) gc, ex2, sa, .slice sp q cl] 27);rw [HZ.out] at cxe
   obtain ⟨uf, hqf⟩ : ∃ zz, zz = (((((wr.setCell ⟨w.heap.size + 1 + 1, 0, none⟩ (.slice gp (m + 1) gc)).setCell ⟨w.heap.size + 1 + 1, 1, none⟩ (.int .i64 ex2)).setCell ⟨w.heap.size + 1 + 1, 2, none⟩ (.bool sa)).setCell ⟨w.heap.size + 1 + 1, 3, none⟩ (.slice sp q cl)).alloc (.cells #[.slice gp (m + 1) gc, ex2, sa, .slice sp q cl] 27)) := ⟨_, rfl⟩
   rw [← hqf] at cxe
   have Yr : CellsAt uf (w.heap.size + 1 + 1) 27 #[.slice gp (m + 1) gc, ex2, sa, .slice sp q cl] := by rw [hqf]; exact (CellsAt.set (CellsAt.set (CellsAt.set (CellsAt.set (RV) 0 (.slice gp (m + 1) gc)) 1 (.int .i64 ex2)) 2 (.bool sa)) 3 (.slice sp q cl)).alloc _
   have yz : Gr w uf := by rw [hqf]; exact ((((hgw.sc _).sc _).sc _).sc _).alloc _ _
   rw [← hqf];clear hqf;obtain ⟨cs0, cs1, cs2, cs3⟩ := Yr.t4;refine bodyPost_ret (v := .agg #[.slice gp (m + 1) gc, ex2, sa, .slice sp q cl]) ?_ rfl ⟨_, rfl, cxe, yz⟩
   simp [results, Tryz.results17, go_sem, *]
theorem rUnt18_t (px sp : Option Addr) (m cx q cl : Nat) (hm : m ≤ 70) (xs ws ys : List Gi) (B : Nat → Gi) (ex ex2 fo lo lo1 ke mo T : Int) (iv : Bool) (hl1 : IntKind.i64.wrap (lo + 1) = lo1) (hex : IntKind.i64.wrap (ex + 1) = ex2)
 (HB : CR 42 #[fo] (.int .i64 T))
 (HT : Hid (∀ W, Calls Tryz.prog 41 #[lo1, T] W fun e w' => ∃ u, e = .returned u ∧ CxsAt w' u ws ∧ Gr W w'))
 (HN : Hid (∀ j, j ≤ m → ∀ v W, CxsAt W (.slice px m cx) xs → CxsAt W v ws → Calls Tryz.prog 43 #[.agg #[.slice px m cx, ex, true, .slice sp q cl], .agg #[fo, lo, ke, .int .i64 2, mo, iv], v, .int .i64 (j : Int)] W fun e w' => e = .returned (.agg #[.int .i64 (B j).re, .int .i64 (B j).im]) ∧ Gr W w'))
 (HCl : Hid (∀ v W, CxsAt W v ((List.range (m + 1)).map B) → Calls Tryz.prog 44 #[v, fo] W fun e w' => ∃ u, e = .returned u ∧ CxsAt w' u ys ∧ Gr W w')) (w : World) (hv : CxsAt w (.slice px m cx) xs) :
 Calls Tryz.prog 17 #[.agg #[.slice px m cx, ex, true, .slice sp q cl], .agg #[fo, lo, ke, .int .i64 2, mo, iv]] w fun e w' => ∃ vx, e = .returned (.agg #[vx, ex2, true, .slice sp q cl]) ∧ CxsAt w' vx ys ∧ Gr w w' := by
 obtain ⟨i0, hi, hz0, hz1, hz2⟩ := info_parts info_cx
 go_in
 go_wp2_with fail
 obtain ⟨u0, hU⟩ : ∃ uu, uu = (((w.alloc (.cells #[.slice px m cx, ex, true, .slice sp q cl] 27)).alloc (.cells #[fo, lo, ke, .int .i64 2, mo, iv] 24)).alloc (.cells #[.slice none 0 0, .int .i64 0, false, .slice none 0 0] 27)) := ⟨_, rfl⟩
 have ⟨gu, R0, R1, R2⟩ := lay3 hU
 rw [← hU]
 clear hU
 have lb := R0.lt
 have lp := R1.lt
 have lr := R2.lt
 obtain ⟨u1, hqp1⟩ : ∃ zz, zz = u0 := ⟨_, rfl⟩
 subst hqp1
 have Yb_p1 := R0
 have Yp_p1 := R1
 have Yr_p1 := R2
 have yp1 := gu
 have KS := fun W (hG : Gr u1 W) => (CellsAt.gr Yp_p1 hG).t6
 have hclG := gr_closed u1
 try simp only [List.append_eq, List.cons_append, List.nil_append]
 refine wp_region_grow (S := Gr u1) rfl (Gr.drew (Gr.refl _)) ?_
 refine gT 0 hclG ?_
 refine gK 1 hclG KS ?_
 refine gT 2 hclG ?_
 refine gT 3 hclG ?_
 refine gK 4 hclG KS ?_
 refine gC 5 hclG (fun W hS => HB.out W) ?_
 try simp only [Act.put, putS]
 refine gR 6 fun w1 g1 s1 K hK => ?_
 replace g1 := (Gr.drew (Gr.refl u1)).trans g1
 have ⟨Fb_1, lb_1⟩ := Yb_p1.gl g1
 have ⟨Fp_1, lp_1⟩ := Yp_p1.gl g1
 have ⟨Fr_1, lr_1⟩ := Yr_p1.gl g1
 have z1 := yp1.trans g1
 clear Yb_p1 Yp_p1 Yr_p1 yp1 g1
 go_simp
 refine (HT.out w1).mono ?_
 rintro e w2 ⟨vt, rfl, hvt, g2⟩
 have t2 := Gr.trans s1 g2
 have ⟨Fb_2, lb_2⟩ := Fb_1.gl g2
 have ⟨Fp_2, lp_2⟩ := Fp_1.gl g2
 have ⟨Fr_2, lr_2⟩ := Fr_1.gl g2
 have z2 := z1.trans g2
 clear Fb_1 Fp_1 Fr_1 z1 g2
 refine hK.out _ _ ?_ ?_
 ·exact t2
 clear hK K
 try simp only [Act.put, putS]
 refine gT 7 hclG ?_
 refine wpG_done (by kernel_rfl) (fun w3 g3 => ?_) _
 have ⟨Fb_3, lb_3⟩ := Fb_2.gl g3
 have ⟨Fp_3, lp_3⟩ := Fp_2.gl g3
 have ⟨Fr_3, lr_3⟩ := Fr_2.gl g3
 have Ktw_3 := hvt.gr g3
 have z3 := z2.trans g3
 clear Fb_2 Fp_2 Fr_2 z2 g3
 clear hclG KS
 go_wp2_with fail
 obtain ⟨vz, hqp2⟩ : ∃ zz, zz = w3 := ⟨_, rfl⟩
 have Yb_p2 : CellsAt vz (w.heap.size) 27 #[.slice px m cx, ex, true, .slice sp q cl] := by rw [hqp2]; first | exact Fb_3 | simpa using Fb_3
 have Yp_p2 : CellsAt vz (w.heap.size + 1) 24 #[fo, lo, ke, .int .i64 2, mo, iv] := by rw [hqp2]; first | exact Fp_3 | simpa using Fp_3
 have Yr_p2 : CellsAt vz (w.heap.size + 1 + 1) 27 #[.slice none 0 0, .int .i64 0, false, .slice none 0 0] := by rw [hqp2]; first | exact Fr_3 | simpa using Fr_3
 have Vtw_p2 := Ktw_3
 rw [← hqp2] at Vtw_p2
 have yp2 : Gr w vz := by rw [hqp2]; exact z3
 rw [← hqp2]
 clear hqp2
 have hzs := (yp2).size
 have hs0 : ((vz.alloc (.cells #[] 50)).ownsRow vz.heap.size 50 2 (.slice (some ⟨vz.heap.size, 0, none⟩) 0 0) 0 []) := World.ownsRow_made vz #[] 0 (Nat.le_refl _) (by unfold maxLen; omega) (by simp)
 have gs0 := (Gr.refl vz).alloc #[] 50
 go_loopw [6, 7] (fun v i wr => ∃ j : Nat, j ≤ m + 1 ∧ i = .int .i64 j ∧ wr.ownsRow vz.heap.size 50 2 v j (gcells ((List.range j).map B)) ∧ Gr vz wr) (fun _ i _ => m + 1 - (intOf i).toNat)
 case atStart => exact ⟨0, by omega, rfl, hs0, gs0⟩
 case round =>
  clear hs0 gs0;obtain ⟨j, hj, rfl, hrow, hg⟩ := hrel;have hgw := yp2.trans hg;have BV := CellsAt.gr Yb_p2 hg;have PV := CellsAt.gr Yp_p2 hg;have RV := CellsAt.gr Yr_p2 hg
  have hm70 : (m : Int) ≤ 70 := by omega
  by_cases hlt : j ≤ m
  ·have hjI : (j : Int) ≤ (m : Int) := by omega
   have HB1 := kh (HN.out j hlt)
   have er : (List.range (j + 1)).map B = (List.range j).map B ++ [B j] := by rw [List.range_succ, List.map_append]; rfl
   have ER := kh er;clear er RV;generalize B j = g at *;obtain ⟨re, im⟩ := g
   simp only at HB1
   have lb := BV.lt;have lp := PV.lt;obtain ⟨cb0, cb1, cb2, cb3⟩ := BV.t4;obtain ⟨cp0, cp1, cp2, cp3, cp4, cp5⟩ := PV.t6;go_wp2_with fail;clear cb0 cb1 cb2 cb3 cp0 cp1 cp2 cp3 cp4 cp5;refine (HB1.out _ _ (hv.gr hgw) (CxsAt.gr Vtw_p2 hg)).mono ?_;rintro e wq ⟨rfl, hgq⟩;have hrow2 := ownsRow_gr hrow hgq;have hsz := hg.size;have hsq := hgq.size;have hg2 := hg.trans hgq;clear hrow hg hgq HB1 BV PV
   go_wp2_with (at_builtin; refine wpList_append_own_at _ rfl (.tmp 24) (.tmp 30) 25 rfl vz.heap.size 50 i0 (.agg #[.int .i64 0, .int .i64 0]) 2 16 Tryz.underlying25 hi hz0 hz1 hz2 rfl (by decide) _ _ _ rfl (hrow2.alloc _) ⟨wq.heap.size, 0, none⟩ 1 1 [.int .i64 re, .int .i64 im] rfl rfl (news_two _ _ _ _) (by simp [Value.oneCell']) (by unfold maxLen; omega) (by omega) (by simp; omega) ?_; intro v' w3 hown' hgrow _ hblk)
   have e : gcells ((List.range j).map B) ++ [.int .i64 re, .int .i64 im] = gcells ((List.range (j + 1)).map B) := by
    rw [ER.out, gcells_snoc]
   rw [e] at hown';have hg3 := (hg2.allocO _).grown hgrow (fun k e => (hrow2.lt k e).1)
   go_roundw
   case rel => exact ⟨j + 1, by omega, by go_num, hown', hg3⟩
   case measure => simp [intOf]; omega
  ·obtain rfl : j = m + 1 := by omega
   have hjI : ¬ ((m + 1 : Nat) : Int) ≤ (m : Int) := by omega
   have HLN := kh (show ((List.range (m + 1)).map B).length = m + 1 by simp);have lb := BV.lt;have lp := PV.lt;have lr := RV.lt;have hvx := CxsAt.of_row hrow;obtain ⟨gp, gc, hsl⟩ := hvx.len;rw [HLN.out] at hsl;subst hsl;obtain ⟨cb0, cb1, cb2, cb3⟩ := BV.t4;obtain ⟨cp0, cp1, cp2, cp3, cp4, cp5⟩ := PV.t6;go_wp2_with fail;clear cb0 cb1 cb2 cb3 cp0 cp1 cp2 cp3 cp4 cp5;have KX5 := hvx.gr ((Gr.refl wr).alloc #[.slice gp (m + 1) gc, ex2, true, .slice sp q cl] 27)
   obtain ⟨wo, hwo⟩ : ∃ zz, zz = (wr.alloc (.cells #[.slice gp (m + 1) gc, ex2, true, .slice sp q cl] 27)) := ⟨_, rfl⟩
   have hos : wo.heap.size = wr.heap.size + 1 := by rw [hwo]; simp
   have hgws := hgw.size;rw [← hwo] at KX5
   have Ybo : CellsAt wo (w.heap.size) 27 #[.slice px m cx, ex, true, .slice sp q cl] := by rw [hwo]; first | exact BV.alloc _ | simpa using BV.alloc _
   have Ypo : CellsAt wo (w.heap.size + 1) 24 #[fo, lo, ke, .int .i64 2, mo, iv] := by rw [hwo]; first | exact PV.alloc _ | simpa using PV.alloc _
   have Yro : CellsAt wo (w.heap.size + 1 + 1) 27 #[.slice none 0 0, .int .i64 0, false, .slice none 0 0] := by rw [hwo]; first | exact RV.alloc _ | simpa using RV.alloc _
   have Yoo : CellsAt wo (wr.heap.size) 27 #[.slice gp (m + 1) gc, ex2, true, .slice sp q cl] := by rw [hwo]; have q_ := CellsAt.new wr 27 #[.slice gp (m + 1) gc, ex2, true, .slice sp q cl]; first | exact q_ | simpa using q_
   have yo : Gr w wo := by rw [hwo]; exact hgw.alloc _ _
   try rw [← hwo]
   clear hwo;refine (HCl.out _ _ KX5).mono ?_;rintro e w6 ⟨vc, rfl, hz6, g6⟩;obtain ⟨np, nc, rfl⟩ := hz6.len;have hz6s := g6.size;have ⟨Fb_6, lb_6⟩ := Ybo.gl g6;have ⟨Fp_6, lp_6⟩ := Ypo.gl g6;have ⟨Fr_6, lr_6⟩ := Yro.gl g6;have ⟨Fo_6, lo_6⟩ := Yoo.gl g6;have Ky_6 := KX5.gr g6;have z6 := yo.trans g6;clear Ybo Ypo Yro Yoo yo g6;obtain ⟨cb0, cb1, cb2, cb3⟩ := Fb_6.t4;obtain ⟨cp0, cp1, cp2, cp3, cp4, cp5⟩ := Fp_6.t6;obtain ⟨mo0, mo1, mo2, mo3⟩ := Fo_6.f4;obtain ⟨co0, co1, co2, co3⟩ := Fo_6.t4;obtain ⟨mr0, mr1, mr2, mr3⟩ := Fr_6.f4;obtain ⟨cr0, cr1, cr2, cr3⟩ := Fr_6.t4;go_wp2_with fail;clear cb0 cb1 cb2 cb3 cp0 cp1 cp2 cp3 cp4 cp5 mo0 co0 mo1 co1 mo2 co2 mo3 co3 mr0 cr0 mr1 cr1 mr2 cr2 mr3 cr3;have apy := CxsAt.apart Ky_6 Fo_6;have apz := CxsAt.apart hz6 Fo_6;have KY7 := Ky_6.set apy 0 (.slice np ys.length nc);have KZ7 := hz6.set apz 0 (.slice np ys.length nc);have aq := CxsAt.apart KZ7 (CellsAt.set (Fo_6) 0 (.slice np ys.length nc));have KZ8 := KZ7.set aq 2 (.bool true);have ar := CxsAt.apart KZ8 ((Fr_6.ot).ot);have cxe := (((KZ8.set ar 0 (.slice np ys.length nc)).set ar 1 (.int .i64 ex2)).set ar 2 (.bool true)).set ar 3 (.slice sp q cl)
   obtain ⟨uf, hqf⟩ : ∃ zz, zz = ((((((w6.setCell ⟨wr.heap.size, 0, none⟩ (.slice np ys.length nc)).setCell ⟨wr.heap.size, 2, none⟩ (.bool true)).setCell ⟨w.heap.size + 1 + 1, 0, none⟩ (.slice np ys.length nc)).setCell ⟨w.heap.size + 1 + 1, 1, none⟩ (.int .i64 ex2)).setCell ⟨w.heap.size + 1 + 1, 2, none⟩ (.bool true)).setCell ⟨w.heap.size + 1 + 1, 3, none⟩ (.slice sp q cl)) := ⟨_, rfl⟩
   rw [← hqf] at cxe
   have Yr : CellsAt uf (w.heap.size + 1 + 1) 27 #[.slice np ys.length nc, ex2, true, .slice sp q cl] := by rw [hqf]; exact CellsAt.set (CellsAt.set (CellsAt.set (CellsAt.set ((Fr_6.ot).ot) 0 (.slice np ys.length nc)) 1 (.int .i64 ex2)) 2 (.bool true)) 3 (.slice sp q cl)
   have yz : Gr w uf := by rw [hqf]; exact (((((z6.sc _).sc _).sc _).sc _).sc _).sc _
   rw [← hqf];clear hqf;obtain ⟨cs0, cs1, cs2, cs3⟩ := Yr.t4;refine bodyPost_ret (v := .agg #[.slice np ys.length nc, ex2, true, .slice sp q cl]) ?_ rfl ⟨_, rfl, cxe, yz⟩
   simp [results, Tryz.results17, go_sem, *]
theorem rUnt18_f (px sp : Option Addr) (m cx q cl : Nat) (hm : m ≤ 70) (xs ws ys : List Gi) (B : Nat → Gi) (ex ex2 fo lo lo1 ke mo T : Int) (iv sm : Bool) (hl1 : IntKind.i64.wrap (lo + 1) = lo1) (hex : IntKind.i64.wrap (ex + 1) = ex2)
 (HB : CR 42 #[fo] (.int .i64 T))
 (HT : Hid (∀ W, Calls Tryz.prog 41 #[lo1, T] W fun e w' => ∃ u, e = .returned u ∧ CxsAt w' u ws ∧ Gr W w'))
 (HN : Hid (∀ j, j ≤ m → ∀ v W, CxsAt W (.slice px m cx) xs → CxsAt W v ws → Calls Tryz.prog 43 #[.agg #[.slice px m cx, ex, false, .slice sp q cl], .agg #[fo, lo, ke, .int .i64 2, mo, iv], v, .int .i64 (j : Int)] W fun e w' => e = .returned (.agg #[.int .i64 (B j).re, .int .i64 (B j).im]) ∧ Gr W w'))
 (HCl : Hid (∀ v W, CxsAt W v ((List.range (m + 1)).map B) → Calls Tryz.prog 44 #[v, fo] W fun e w' => ∃ u, e = .returned u ∧ CxsAt w' u ys ∧ Gr W w'))
 (HM : Hid (∀ u v W, CxsAt W u ys → CxsAt W v ((List.range (m + 1)).map B) → Calls Tryz.prog 10 #[u, v] W fun e w' => e = .returned (.bool sm) ∧ Gr W w')) (w : World) (hv : CxsAt w (.slice px m cx) xs) :
 Calls Tryz.prog 17 #[.agg #[.slice px m cx, ex, false, .slice sp q cl], .agg #[fo, lo, ke, .int .i64 2, mo, iv]] w fun e w' => ∃ vx, e = .returned (.agg #[vx, ex2, .bool (!sm), .slice sp q cl]) ∧ CxsAt w' vx ys ∧ Gr w w' := by
 obtain ⟨i0, hi, hz0, hz1, hz2⟩ := info_parts info_cx
 go_in
 go_wp2_with fail
 obtain ⟨u0, hU⟩ : ∃ uu, uu = (((w.alloc (.cells #[.slice px m cx, ex, false, .slice sp q cl] 27)).alloc (.cells #[fo, lo, ke, .int .i64 2, mo, iv] 24)).alloc (.cells #[.slice none 0 0, .int .i64 0, false, .slice none 0 0] 27)) := ⟨_, rfl⟩
 have ⟨gu, R0, R1, R2⟩ := lay3 hU
 rw [← hU]
 clear hU
 have lb := R0.lt
 have lp := R1.lt
 have lr := R2.lt
 obtain ⟨u1, hqp1⟩ : ∃ zz, zz = u0 := ⟨_, rfl⟩
 subst hqp1
 have Yb_p1 := R0
 have Yp_p1 := R1
 have Yr_p1 := R2
 have yp1 := gu
 have KS := fun W (hG : Gr u1 W) => (CellsAt.gr Yp_p1 hG).t6
 have hclG := gr_closed u1
 try simp only [List.append_eq, List.cons_append, List.nil_append]
 refine wp_region_grow (S := Gr u1) rfl (Gr.drew (Gr.refl _)) ?_
 refine gT 0 hclG ?_
 refine gK 1 hclG KS ?_
 refine gT 2 hclG ?_
 refine gT 3 hclG ?_
 refine gK 4 hclG KS ?_
 refine gC 5 hclG (fun W hS => HB.out W) ?_
 try simp only [Act.put, putS]
 refine gR 6 fun w1 g1 s1 K hK => ?_
 replace g1 := (Gr.drew (Gr.refl u1)).trans g1
 have ⟨Fb_1, lb_1⟩ := Yb_p1.gl g1
 have ⟨Fp_1, lp_1⟩ := Yp_p1.gl g1
 have ⟨Fr_1, lr_1⟩ := Yr_p1.gl g1
 have z1 := yp1.trans g1
 clear Yb_p1 Yp_p1 Yr_p1 yp1 g1
 go_simp
 refine (HT.out w1).mono ?_
 rintro e w2 ⟨vt, rfl, hvt, g2⟩
 have t2 := Gr.trans s1 g2
 have ⟨Fb_2, lb_2⟩ := Fb_1.gl g2
 have ⟨Fp_2, lp_2⟩ := Fp_1.gl g2
 have ⟨Fr_2, lr_2⟩ := Fr_1.gl g2
 have z2 := z1.trans g2
 clear Fb_1 Fp_1 Fr_1 z1 g2
 refine hK.out _ _ ?_ ?_
 ·exact t2
 clear hK K
 try simp only [Act.put, putS]
 refine gT 7 hclG ?_
 refine wpG_done (by kernel_rfl) (fun w3 g3 => ?_) _
 have ⟨Fb_3, lb_3⟩ := Fb_2.gl g3
 have ⟨Fp_3, lp_3⟩ := Fp_2.gl g3
 have ⟨Fr_3, lr_3⟩ := Fr_2.gl g3
 have Ktw_3 := hvt.gr g3
 have z3 := z2.trans g3
 clear Fb_2 Fp_2 Fr_2 z2 g3
 clear hclG KS
 go_wp2_with fail
 obtain ⟨vz, hqp2⟩ : ∃ zz, zz = w3 := ⟨_, rfl⟩
 have Yb_p2 : CellsAt vz (w.heap.size) 27 #[.slice px m cx, ex, false, .slice sp q cl] := by rw [hqp2]; first | exact Fb_3 | simpa using Fb_3
 have Yp_p2 : CellsAt vz (w.heap.size + 1) 24 #[fo, lo, ke, .int .i64 2, mo, iv] := by rw [hqp2]; first | exact Fp_3 | simpa using Fp_3
 have Yr_p2 : CellsAt vz (w.heap.size + 1 + 1) 27 #[.slice none 0 0, .int .i64 0, false, .slice none 0 0] := by rw [hqp2]; first | exact Fr_3 | simpa using Fr_3
 have Vtw_p2 := Ktw_3
 rw [← hqp2] at Vtw_p2
 have yp2 : Gr w vz := by rw [hqp2]; exact z3
 rw [← hqp2]
 clear hqp2
 have hzs := (yp2).size
 have hs0 : ((vz.alloc (.cells #[] 50)).ownsRow vz.heap.size 50 2 (.slice (some ⟨vz.heap.size, 0, none⟩) 0 0) 0 []) := World.ownsRow_made vz #[] 0 (Nat.le_refl _) (by unfold maxLen; omega) (by simp)
 have gs0 := (Gr.refl vz).alloc #[] 50
 go_loopw [6, 7] (fun v i wr => ∃ j : Nat, j ≤ m + 1 ∧ i = .int .i64 j ∧ wr.ownsRow vz.heap.size 50 2 v j (gcells ((List.range j).map B)) ∧ Gr vz wr) (fun _ i _ => m + 1 - (intOf i).toNat)
 case atStart => exact ⟨0, by omega, rfl, hs0, gs0⟩
 case round =>
  clear hs0 gs0;obtain ⟨j, hj, rfl, hrow, hg⟩ := hrel;have hgw := yp2.trans hg;have BV := CellsAt.gr Yb_p2 hg;have PV := CellsAt.gr Yp_p2 hg;have RV := CellsAt.gr Yr_p2 hg
  have hm70 : (m : Int) ≤ 70 := by omega
  by_cases hlt : j ≤ m
  ·have hjI : (j : Int) ≤ (m : Int) := by omega
   have HB1 := kh (HN.out j hlt)
   have er : (List.range (j + 1)).map B = (List.range j).map B ++ [B j] := by rw [List.range_succ, List.map_append]; rfl
   have ER := kh er;clear er RV;generalize B j = g at *;obtain ⟨re, im⟩ := g
   simp only at HB1
   have lb := BV.lt;have lp := PV.lt;obtain ⟨cb0, cb1, cb2, cb3⟩ := BV.t4;obtain ⟨cp0, cp1, cp2, cp3, cp4, cp5⟩ := PV.t6;go_wp2_with fail;clear cb0 cb1 cb2 cb3 cp0 cp1 cp2 cp3 cp4 cp5;refine (HB1.out _ _ (hv.gr hgw) (CxsAt.gr Vtw_p2 hg)).mono ?_;rintro e wq ⟨rfl, hgq⟩;have hrow2 := ownsRow_gr hrow hgq;have hsz := hg.size;have hsq := hgq.size;have hg2 := hg.trans hgq;clear hrow hg hgq HB1 BV PV
   go_wp2_with (at_builtin; refine wpList_append_own_at _ rfl (.tmp 24) (.tmp 30) 25 rfl vz.heap.size 50 i0 (.agg #[.int .i64 0, .int .i64 0]) 2 16 Tryz.underlying25 hi hz0 hz1 hz2 rfl (by decide) _ _ _ rfl (hrow2.alloc _) ⟨wq.heap.size, 0, none⟩ 1 1 [.int .i64 re, .int .i64 im] rfl rfl (news_two _ _ _ _) (by simp [Value.oneCell']) (by unfold maxLen; omega) (by omega) (by simp; omega) ?_; intro v' w3 hown' hgrow _ hblk)
   have e : gcells ((List.range j).map B) ++ [.int .i64 re, .int .i64 im] = gcells ((List.range (j + 1)).map B) := by
    rw [ER.out, gcells_snoc]
   rw [e] at hown';have hg3 := (hg2.allocO _).grown hgrow (fun k e => (hrow2.lt k e).1)
   go_roundw
   case rel => exact ⟨j + 1, by omega, by go_num, hown', hg3⟩
   case measure => simp [intOf]; omega
  ·obtain rfl : j = m + 1 := by omega
   have hjI : ¬ ((m + 1 : Nat) : Int) ≤ (m : Int) := by omega
   have HLN := kh (show ((List.range (m + 1)).map B).length = m + 1 by simp);have lb := BV.lt;have lp := PV.lt;have lr := RV.lt;have hvx := CxsAt.of_row hrow;obtain ⟨gp, gc, hsl⟩ := hvx.len;rw [HLN.out] at hsl;subst hsl;obtain ⟨cb0, cb1, cb2, cb3⟩ := BV.t4;obtain ⟨cp0, cp1, cp2, cp3, cp4, cp5⟩ := PV.t6;go_wp2_with fail;clear cb0 cb1 cb2 cb3 cp0 cp1 cp2 cp3 cp4 cp5;have KX5 := hvx.gr ((Gr.refl wr).alloc #[.slice gp (m + 1) gc, ex2, false, .slice sp q cl] 27)
   obtain ⟨wo, hwo⟩ : ∃ zz, zz = (wr.alloc (.cells #[.slice gp (m + 1) gc, ex2, false, .slice sp q cl] 27)) := ⟨_, rfl⟩
   have hos : wo.heap.size = wr.heap.size + 1 := by rw [hwo]; simp
   have hgws := hgw.size;rw [← hwo] at KX5
   have Ybo : CellsAt wo (w.heap.size) 27 #[.slice px m cx, ex, false, .slice sp q cl] := by rw [hwo]; first | exact BV.alloc _ | simpa using BV.alloc _
   have Ypo : CellsAt wo (w.heap.size + 1) 24 #[fo, lo, ke, .int .i64 2, mo, iv] := by rw [hwo]; first | exact PV.alloc _ | simpa using PV.alloc _
   have Yro : CellsAt wo (w.heap.size + 1 + 1) 27 #[.slice none 0 0, .int .i64 0, false, .slice none 0 0] := by rw [hwo]; first | exact RV.alloc _ | simpa using RV.alloc _
   have Yoo : CellsAt wo (wr.heap.size) 27 #[.slice gp (m + 1) gc, ex2, false, .slice sp q cl] := by rw [hwo]; have q_ := CellsAt.new wr 27 #[.slice gp (m + 1) gc, ex2, false, .slice sp q cl]; first | exact q_ | simpa using q_
   have yo : Gr w wo := by rw [hwo]; exact hgw.alloc _ _
   try rw [← hwo]
   clear hwo;refine (HCl.out _ _ KX5).mono ?_;rintro e w6 ⟨vc, rfl, hz6, g6⟩;obtain ⟨np, nc, rfl⟩ := hz6.len;have hz6s := g6.size;have ⟨Fb_6, lb_6⟩ := Ybo.gl g6;have ⟨Fp_6, lp_6⟩ := Ypo.gl g6;have ⟨Fr_6, lr_6⟩ := Yro.gl g6;have ⟨Fo_6, lo_6⟩ := Yoo.gl g6;have Ky_6 := KX5.gr g6;have z6 := yo.trans g6;clear Ybo Ypo Yro Yoo yo g6;obtain ⟨cb0, cb1, cb2, cb3⟩ := Fb_6.t4;obtain ⟨cp0, cp1, cp2, cp3, cp4, cp5⟩ := Fp_6.t6;obtain ⟨mo0, mo1, mo2, mo3⟩ := Fo_6.f4;obtain ⟨co0, co1, co2, co3⟩ := Fo_6.t4;go_wp2_with fail;clear cb0 cb1 cb2 cb3 cp0 cp1 cp2 cp3 cp4 cp5 mo0 co0 mo1 co1 mo2 co2 mo3 co3;have apy := CxsAt.apart Ky_6 Fo_6;have apz := CxsAt.apart hz6 Fo_6;have KY7 := Ky_6.set apy 0 (.slice np ys.length nc);have KZ7 := hz6.set apz 0 (.slice np ys.length nc)
   obtain ⟨wq, hwq⟩ : ∃ zz, zz = (w6.setCell ⟨wr.heap.size, 0, none⟩ (.slice np ys.length nc)) := ⟨_, rfl⟩
   rw [← hwq] at KY7 KZ7
   have Ybq : CellsAt wq (w.heap.size) 27 #[.slice px m cx, ex, false, .slice sp q cl] := by rw [hwq]; first | exact Fb_6.ot | simpa using Fb_6.ot
   have Ypq : CellsAt wq (w.heap.size + 1) 24 #[fo, lo, ke, .int .i64 2, mo, iv] := by rw [hwq]; first | exact Fp_6.ot | simpa using Fp_6.ot
   have Yrq : CellsAt wq (w.heap.size + 1 + 1) 27 #[.slice none 0 0, .int .i64 0, false, .slice none 0 0] := by rw [hwq]; first | exact Fr_6.ot | simpa using Fr_6.ot
   have Yoq : CellsAt wq (wr.heap.size) 27 #[.slice np ys.length nc, ex2, false, .slice sp q cl] := by rw [hwq]; have q_ := CellsAt.set (Fo_6) 0 (.slice np ys.length nc); first | exact q_ | simpa using q_
   have yq : Gr w wq := by rw [hwq]; exact z6.sc _
   try rw [← hwq]
   clear hwq;refine (HM.out _ _ _ KZ7 KY7).mono ?_;rintro e w8 ⟨rfl, g8⟩;replace KZ7 := KZ7.gr g8;have g8s := g8.size;have ⟨Fb_8, lb_8⟩ := Ybq.gl g8;have ⟨Fp_8, lp_8⟩ := Ypq.gl g8;have ⟨Fr_8, lr_8⟩ := Yrq.gl g8;have ⟨Fo_8, lo_8⟩ := Yoq.gl g8;have z8 := yq.trans g8;clear Ybq Ypq Yrq Yoq yq g8;obtain ⟨co0, co1, co2, co3⟩ := Fo_8.t4;obtain ⟨mo0, mo1, mo2, mo3⟩ := Fo_8.f4;obtain ⟨mr0, mr1, mr2, mr3⟩ := Fr_8.f4;obtain ⟨cr0, cr1, cr2, cr3⟩ := Fr_8.t4;go_wp2_with fail;clear co0 co1 co2 co3 mo0 mo1 mo2 mo3 mr0 cr0 mr1 cr1 mr2 cr2 mr3 cr3;have aq := CxsAt.apart KZ7 (Fo_8);have KZ8 := KZ7.set aq 2 (.bool !sm);have ar := CxsAt.apart KZ8 (Fr_8.ot);have cxe := (((KZ8.set ar 0 (.slice np ys.length nc)).set ar 1 (.int .i64 ex2)).set ar 2 (.bool !sm)).set ar 3 (.slice sp q cl)
   obtain ⟨uf, hqf⟩ : ∃ zz, zz = (((((w8.setCell ⟨wr.heap.size, 2, none⟩ (.bool !sm)).setCell ⟨w.heap.size + 1 + 1, 0, none⟩ (.slice np ys.length nc)).setCell ⟨w.heap.size + 1 + 1, 1, none⟩ (.int .i64 ex2)).setCell ⟨w.heap.size + 1 + 1, 2, none⟩ (.bool !sm)).setCell ⟨w.heap.size + 1 + 1, 3, none⟩ (.slice sp q cl)) := ⟨_, rfl⟩
   rw [← hqf] at cxe
   have Yr : CellsAt uf (w.heap.size + 1 + 1) 27 #[.slice np ys.length nc, ex2, .bool !sm, .slice sp q cl] := by rw [hqf]; exact CellsAt.set (CellsAt.set (CellsAt.set (CellsAt.set (Fr_8.ot) 0 (.slice np ys.length nc)) 1 (.int .i64 ex2)) 2 (.bool !sm)) 3 (.slice sp q cl)
   have yz : Gr w uf := by rw [hqf]; exact ((((z8.sc _).sc _).sc _).sc _).sc _
   rw [← hqf];clear hqf;obtain ⟨cs0, cs1, cs2, cs3⟩ := Yr.t4;refine bodyPost_ret (v := .agg #[.slice np ys.length nc, ex2, .bool !sm, .slice sp q cl]) ?_ rfl ⟨_, rfl, cxe, yz⟩
   simp [results, Tryz.results17, go_sem, *]
end
end Go.Proofs.YtdignnmpfkgkoaaGreat
