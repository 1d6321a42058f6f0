import Derived.Test.YtcgeabpibkejpaaGreatUS32
namespace Go.Proofs.YtcgeabpibkejpaaGreat
section
open Go.ChangeShapes Go.WideShapes Go.ChangeAt Go.RowKit
set_option linter.unusedVariables false
set_option linter.unusedSimpArgs false
set_option maxRecDepth 100000
set_option maxHeartbeats 8000000 in
theorem nFar_of (p px sp zp : Option Addr) (m cx q cl k zc : Nat) (hm0 : 0 < m) (hm64 : m ≤ 64) (ys zs bs : List Gi) (hyn : ys.length = m) (hbn : bs.length = m) (fo lo ke sc mo ex P l U : Int) (iv sa : Bool) (hU : P + 8 = U) (hU0 : 0 ≤ U) (hU1 : U ≤ 40)
 (A : Nat → Gi) (D E F : Nat → Int) (hF0 : F 0 = 0) (HF : Hid (∀ j (x : Gi), ys[j]? = some x → IntKind.i64.wrap (x.re * 2 ^ U.toNat) = (A j).re ∧ IntKind.i64.wrap (x.im * 2 ^ U.toNat) = (A j).im))
 (HA : Hid (∀ W, CxsAt W (.slice zp k zc) zs → Calls Tryz.prog 50 #[.slice zp k zc, .bool iv] W fun e w' => ∃ x, e = .returned (.tuple #[x, .int .i64 0]) ∧ CxsAt w' x bs ∧ Gr W w'))
 (HP : Hid (∀ j (b : Gi), j < m → bs[j]? = some b → ∀ W, Calls Tryz.prog 51 #[.int .i64 (A j).re, .int .i64 b.re] W fun e w' => e = .returned (.int .i64 (D j)) ∧ Gr W w')) (HQ : Hid (∀ j (b : Gi), j < m → bs[j]? = some b → ∀ W, Calls Tryz.prog 51 #[.int .i64 (A j).im, .int .i64 b.im] W fun e w' => e = .returned (.int .i64 (E j)) ∧ Gr W w'))
 (HM : Hid (∀ j, j < m → (if E j > (if D j > F j then D j else F j) then E j else (if D j > F j then D j else F j)) = F (j + 1))) (w : World) (hy : CxsAt w (.slice px m cx) ys) (hz : CxsAt w (.slice zp k zc) zs) :
 Calls Tryz.prog 21 #[.agg #[.slice px m cx, .int .i64 ex, .bool sa, .slice sp q cl, .int .i64 fo, .int .i64 lo, .int .i64 ke, .int .i64 sc, .int .i64 mo, .bool iv, .slice zp k zc, .int .i64 P, .int .i64 l]] w fun e w' => e = .returned (.int .i64 (F m)) ∧ Gr w w' := by
 obtain ⟨yb, yo, yc, hsl, hlen, hyb, hyc⟩ := hy.at (by intro e; rw [e] at hyn; simp at hyn; omega)
 rw [hyn] at hsl
 cases hsl
 have HYC := Lib.hid hyc
 have HYN := Lib.hid hyn
 have HBN := Lib.hid hbn
 have HUB := Lib.hid (And.intro hU0 hU1)
 have hwu : wrap64 (P + 8) = U := by rw [hU]; exact IntWalk.wrap64_in _ ⟨by omega, by omega⟩
 clear hyc hy hyn hbn hlen hU hU0 hU1
 go_enter Tryz.func21, Tryz.ntmps21
 go_wp2_with fail
 obtain ⟨u0, hU⟩ : ∃ uu, uu = (w.alloc (.cells #[.slice (some ⟨yb, yo, none⟩) m cx, .int .i64 ex, .bool sa, .slice sp q cl, .int .i64 fo, .int .i64 lo, .int .i64 ke, .int .i64 sc, .int .i64 mo, .bool iv, .slice zp k zc, .int .i64 P, .int .i64 l] 49)) := ⟨_, rfl⟩
 have ⟨gu, R0⟩ := lay1 hU
 rw [← hU]
 clear hU
 have lv := R0.lt
 have cv0 := R0.at 0
 have cv1 := R0.at 1
 have cv2 := R0.at 2
 have cv3 := R0.at 3
 have cv4 := R0.at 4
 have cv5 := R0.at 5
 have cv6 := R0.at 6
 have cv7 := R0.at 7
 have cv8 := R0.at 8
 have cv9 := R0.at 9
 have cv10 := R0.at 10
 have cv11 := R0.at 11
 have cv12 := R0.at 12
 go_wp2_with fail
 clear cv0 cv1 cv2 cv3 cv4 cv5 cv6 cv7 cv8 cv9 cv10 cv11 cv12
 refine (HA.out _ (hz.gr gu)).mono ?_
 rintro e w1 ⟨vb, rfl, hb, g1⟩
 have ⟨Fv_1, lv_1⟩ := CellsAt.gl (R0) g1
 have z1 := (gu).trans g1
 clear R0 gu g1
 obtain ⟨qb, qo, qc, rfl, hqlen, hqb, hqc⟩ := hb.at (by intro e; have h1 := HBN.out; rw [e] at h1; simp at h1; omega)
 rw [HBN.out]
 have HQC := Lib.hid hqc
 clear hqc hqlen hb
 have hqw := hqb
 have cv0 := Fv_1.at 0
 have cv1 := Fv_1.at 1
 have cv2 := Fv_1.at 2
 have cv3 := Fv_1.at 3
 have cv4 := Fv_1.at 4
 have cv5 := Fv_1.at 5
 have cv6 := Fv_1.at 6
 have cv7 := Fv_1.at 7
 have cv8 := Fv_1.at 8
 have cv9 := Fv_1.at 9
 have cv10 := Fv_1.at 10
 have cv11 := Fv_1.at 11
 have cv12 := Fv_1.at 12
 go_wp2_with fail
 clear cv0 cv1 cv2 cv3 cv4 cv5 cv6 cv7 cv8 cv9 cv10 cv11 cv12
 clear HA
 go_loopw [6, 7, 8, 25] (fun f _ _ i wr => ∃ j : Nat, j ≤ m ∧ i = .int .i64 j ∧ f = .int .i64 (F j) ∧ CellsAt wr w.heap.size 49 #[.slice (some ⟨yb, yo, none⟩) m cx, .int .i64 ex, .bool sa, .slice sp q cl, .int .i64 fo, .int .i64 lo, .int .i64 ke, .int .i64 sc, .int .i64 mo, .bool iv, .slice zp k zc, .int .i64 P, .int .i64 l] ∧ Gr w1 wr) (fun _ _ _ i _ => m - (intOf i).toNat)
 case atStart => exact ⟨0, by omega, rfl, by rw [hF0], Fv_1, Gr.refl _⟩
 case round =>
  obtain ⟨j, hj, rfl, rfl, BV, hg1⟩ := hrel
  have hg := z1.trans hg1
  clear Fv_1 z1 hF0
  by_cases hlt : j < m
  ·have hjI : (j : Int) < (m : Int) := by omega
   obtain ⟨x, hx⟩ := get_of_lt (xs := ys) (by rw [HYN.out]; exact hlt)
   obtain ⟨b, hb⟩ := get_of_lt (xs := bs) (by rw [HBN.out]; exact hlt)
   have h1 := (hg.cell (p := ⟨yb, yo + j * 2, none⟩) hyb).trans (HYC.out j x hx).1
   have h2 := (hg.cell (p := ⟨yb, yo + j * 2 + 1, none⟩) hyb).trans (HYC.out j x hx).2
   have q1 := (HQC.out j b hb).1
   have q2 := (HQC.out j b hb).2
   have hbl : yb < wr.heap.size := Nat.lt_of_lt_of_le hyb hg.size
   have HP1 := Lib.hid (HP.out j b hlt hb)
   have HP2 := Lib.hid (HQ.out j b hlt hb)
   have HF1 := Lib.hid (HF.out j x hx)
   have hmx := fun ts t => run_max3 ts t (F j) (D j) (E j) _ (HM.out j hlt)
   obtain ⟨f1, hf1⟩ : ∃ z, F (j + 1) = z := ⟨_, rfl⟩
   rw [hf1] at hmx
   have HZ1 := Lib.hid hf1
   obtain ⟨hU0, hU1⟩ := HUB.out
   clear hf1 hx hb HP HQ HF HM HYC HQC HYN HBN HUB
   generalize F j = f0 at *
   generalize D j = d at *
   generalize E j = e at *
   generalize A j = a at *
   obtain ⟨re, im⟩ := x
   simp only at h1 h2 HF1
   have lv := CellsAt.lt BV
   go_wp2_with fail
   obtain ⟨va, hqap1⟩ : ∃ zz, zz = (wr.alloc (.cells #[.int .i64 re, .int .i64 im] 58)) := ⟨_, rfl⟩
   have Yv_ap1 : CellsAt va (w.heap.size) 49 #[.slice (some ⟨yb, yo, none⟩) m cx, .int .i64 ex, .bool sa, .slice sp q cl, .int .i64 fo, .int .i64 lo, .int .i64 ke, .int .i64 sc, .int .i64 mo, .bool iv, .slice zp k zc, .int .i64 P, .int .i64 l] := by rw [hqap1]; first | exact (BV).alloc _ | simpa using (BV).alloc _
   have Ya_ap1 : CellsAt va (wr.heap.size) 58 #[.int .i64 re, .int .i64 im] := by rw [hqap1]; first | exact CellsAt.new wr 58 #[.int .i64 re, .int .i64 im] | simpa using CellsAt.new wr 58 #[.int .i64 re, .int .i64 im]
   have yap1 : Gr w1 va := by rw [hqap1]; exact (hg1).alloc _ _
   rw [← hqap1]
   clear hqap1
   have hqv : qb < va.heap.size := Nat.lt_of_lt_of_le hqb (yap1).size
   obtain ⟨f1, f2⟩ := HF1.out
   have KS : ∀ W, Gr va W → (W.cell? ⟨wr.heap.size, 0, none⟩ = some (.int .i64 re) ∧ W.cell? ⟨wr.heap.size, 1, none⟩ = some (.int .i64 im) ∧ W.cell? ⟨qb, qo + j * 2, none⟩ = some (.int .i64 b.re) ∧ W.cell? ⟨qb, qo + j * 2 + 1, none⟩ = some (.int .i64 b.im)) := fun W hG => ⟨(CellsAt.gr Ya_ap1 hG).cell 0, (CellsAt.gr Ya_ap1 hG).cell 1, ((hG.cell (p := ⟨qb, qo + j * 2, none⟩) hqv).trans ((yap1).cell (p := ⟨qb, qo + j * 2, none⟩) hqb)).trans q1, ((hG.cell (p := ⟨qb, qo + j * 2 + 1, none⟩) hqv).trans ((yap1).cell (p := ⟨qb, qo + j * 2 + 1, none⟩) hqb)).trans q2⟩
   have hclG := gr_closed va
   try simp only [List.append_eq, List.cons_append, List.nil_append]
   refine wp_region_grow (S := Gr va) rfl (Gr.drew (Gr.refl _)) ?_
   refine gT 0 hclG ?_
   refine gT 1 hclG ?_
   refine gK 2 hclG KS ?_
   refine gT 3 hclG ?_
   refine gT 4 hclG ?_
   refine gT 5 hclG ?_
   refine gT 6 hclG ?_
   refine gT 7 hclG ?_
   refine gT 8 hclG ?_
   refine gK 9 hclG KS ?_
   refine wpG_call (i := 10) hclG rfl (by kernel_rfl) (by kernel_rfl) (by kernel_rfl) (fun _ _ _ h => h) (fun W _ => HP1.out W) (by rfl) ?_ ?_
   ·(intro w' hSw; go_simp; try with_reducible rfl)
   try simp only [Act.put, putS]
   refine gT 11 hclG ?_
   refine gK 12 hclG KS ?_
   refine gT 13 hclG ?_
   refine gT 14 hclG ?_
   refine gT 15 hclG ?_
   refine gT 16 hclG ?_
   refine gT 17 hclG ?_
   refine gT 18 hclG ?_
   refine gK 19 hclG KS ?_
   refine wpG_call (i := 20) hclG rfl (by kernel_rfl) (by kernel_rfl) (by kernel_rfl) (fun _ _ _ h => h) (fun W _ => HP2.out W) (by rfl) ?_ ?_
   ·(intro w' hSw; go_simp; try with_reducible rfl)
   try simp only [Act.put, putS]
   refine gT 21 hclG ?_
   refine gT 22 hclG ?_
   refine wpG_done (by kernel_rfl) (fun wa1 ga1 => ?_) _
   replace ga1 := (Gr.drew (Gr.refl va)).trans ga1
   have ⟨Fv_a1, lv_a1⟩ := CellsAt.gl (Yv_ap1) ga1
   have ⟨Fa_a1, la_a1⟩ := CellsAt.gl (Ya_ap1) ga1
   have za1 := (yap1).trans ga1
   clear Yv_ap1 Ya_ap1 yap1 ga1
   clear hclG KS
   go_wp2_with fail
   go_roundw
   case rel => exact ⟨j + 1, by omega, by go_num, by rw [HZ1.out], Fv_a1, za1⟩
   case measure => simp [intOf]; omega
  ·obtain rfl : j = m := by omega
   have hjI : ¬ (j : Int) < (j : Int) := by omega
   clear HP HQ HF HM HYC HQC HYN HBN HUB
   go_wp2_with fail
   go_ret
   exact ⟨rfl, hg⟩
set_option maxHeartbeats 4000000 in
theorem nBound_of (px sp zp : Option Addr) (m cx q cl k zc : Nat) (zs : List Gi) (fo lo ke sc mo ex P l U K s r : Int) (iv sa : Bool) (HE : Hid (wrap64 (P + 2) = U ∧ (∀ W, (Op.shift .shl .i64 l .i64 U).run Tryz.prog W = .ok (.int .i64 K) W) ∧ wrap64 (K + s) = r))
 (HS : Hid (∀ W, CxsAt W (.slice zp k zc) zs → Calls Tryz.prog 52 #[.slice zp k zc] W fun e w' => e = .returned (.tuple #[.int .i64 s, .int .i64 0]) ∧ Gr W w')) (w : World) (hz : CxsAt w (.slice zp k zc) zs) :
 Calls Tryz.prog 22 #[.agg #[.slice px m cx, .int .i64 ex, .bool sa, .slice sp q cl, .int .i64 fo, .int .i64 lo, .int .i64 ke, .int .i64 sc, .int .i64 mo, .bool iv, .slice zp k zc, .int .i64 P, .int .i64 l]] w fun e w' => e = .returned (.int .i64 r) ∧ Gr w w' := by
 go_enter Tryz.func22, Tryz.ntmps22
 go_wp2_with fail
 obtain ⟨u0, hU⟩ : ∃ uu, uu = (w.alloc (.cells #[.slice px m cx, .int .i64 ex, .bool sa, .slice sp q cl, .int .i64 fo, .int .i64 lo, .int .i64 ke, .int .i64 sc, .int .i64 mo, .bool iv, .slice zp k zc, .int .i64 P, .int .i64 l] 49)) := ⟨_, rfl⟩
 have ⟨gu, R0⟩ := lay1 hU
 rw [← hU]
 clear hU
 have lv := R0.lt
 have cv0 := R0.at 0
 have cv1 := R0.at 1
 have cv2 := R0.at 2
 have cv3 := R0.at 3
 have cv4 := R0.at 4
 have cv5 := R0.at 5
 have cv6 := R0.at 6
 have cv7 := R0.at 7
 have cv8 := R0.at 8
 have cv9 := R0.at 9
 have cv10 := R0.at 10
 have cv11 := R0.at 11
 have cv12 := R0.at 12
 go_wp2_with fail
 clear cv0 cv1 cv2 cv3 cv4 cv5 cv6 cv7 cv8 cv9 cv10 cv11 cv12
 refine (HS.out _ (hz.gr gu)).mono ?_
 rintro e w1 ⟨rfl, g1⟩
 have ⟨Fv_1, lv_1⟩ := CellsAt.gl (R0) g1
 have z1 := (gu).trans g1
 clear R0 gu g1
 obtain ⟨e1, e2, e3⟩ := HE.out
 have cv0 := Fv_1.at 0
 have cv1 := Fv_1.at 1
 have cv2 := Fv_1.at 2
 have cv3 := Fv_1.at 3
 have cv4 := Fv_1.at 4
 have cv5 := Fv_1.at 5
 have cv6 := Fv_1.at 6
 have cv7 := Fv_1.at 7
 have cv8 := Fv_1.at 8
 have cv9 := Fv_1.at 9
 have cv10 := Fv_1.at 10
 have cv11 := Fv_1.at 11
 have cv12 := Fv_1.at 12
 go_wp2_with fail
 clear cv0 cv1 cv2 cv3 cv4 cv5 cv6 cv7 cv8 cv9 cv10 cv11 cv12
 go_ret
 exact ⟨by show Ending.returned (Value.int .i64 (wrap64 (K + s))) = _; rw [e3], z1⟩
set_option maxHeartbeats 4000000 in
theorem nWithin_of (px sp zp : Option Addr) (m cx q cl k zc : Nat) (ys zs : List Gi) (fo lo ke sc mo ex P l f r : Int) (iv sa : Bool)
 (HF : Hid (∀ W, CxsAt W (.slice px m cx) ys → CxsAt W (.slice zp k zc) zs → Calls Tryz.prog 21 #[.agg #[.slice px m cx, .int .i64 ex, .bool sa, .slice sp q cl, .int .i64 fo, .int .i64 lo, .int .i64 ke, .int .i64 sc, .int .i64 mo, .bool iv, .slice zp k zc, .int .i64 P, .int .i64 l]] W fun e w' => e = .returned (.int .i64 f) ∧ Gr W w')) (HB : Hid (∀ W, CxsAt W (.slice zp k zc) zs → Calls Tryz.prog 22 #[.agg #[.slice px m cx, .int .i64 ex, .bool sa, .slice sp q cl, .int .i64 fo, .int .i64 lo, .int .i64 ke, .int .i64 sc, .int .i64 mo, .bool iv, .slice zp k zc, .int .i64 P, .int .i64 l]] W fun e w' => e = .returned (.int .i64 r) ∧ Gr W w')) (w : World) (hy : CxsAt w (.slice px m cx) ys) (hz : CxsAt w (.slice zp k zc) zs) :
 Calls Tryz.prog 24 #[.agg #[.slice px m cx, .int .i64 ex, .bool sa, .slice sp q cl, .int .i64 fo, .int .i64 lo, .int .i64 ke, .int .i64 sc, .int .i64 mo, .bool iv, .slice zp k zc, .int .i64 P, .int .i64 l]] w fun e w' => e = .returned (.bool (decide (f ≤ r))) ∧ Gr w w' := by
 go_enter Tryz.func24, Tryz.ntmps24
 go_wp2_with fail
 obtain ⟨u0, hU⟩ : ∃ uu, uu = (w.alloc (.cells #[.slice px m cx, .int .i64 ex, .bool sa, .slice sp q cl, .int .i64 fo, .int .i64 lo, .int .i64 ke, .int .i64 sc, .int .i64 mo, .bool iv, .slice zp k zc, .int .i64 P, .int .i64 l] 49)) := ⟨_, rfl⟩
 have ⟨gu, R0⟩ := lay1 hU
 rw [← hU]
 clear hU
 have lv := R0.lt
 have hy1 := hy.gr gu
 have hz1 := hz.gr gu
 have KS : ∀ W, Gr u0 W → (W.cell? ⟨w.heap.size, 0, none⟩ = some (.slice px m cx) ∧ W.cell? ⟨w.heap.size, 1, none⟩ = some (.int .i64 ex) ∧ W.cell? ⟨w.heap.size, 2, none⟩ = some (.bool sa) ∧ W.cell? ⟨w.heap.size, 3, none⟩ = some (.slice sp q cl) ∧ W.cell? ⟨w.heap.size, 4, none⟩ = some (.int .i64 fo) ∧ W.cell? ⟨w.heap.size, 5, none⟩ = some (.int .i64 lo) ∧ W.cell? ⟨w.heap.size, 6, none⟩ = some (.int .i64 ke) ∧ W.cell? ⟨w.heap.size, 7, none⟩ = some (.int .i64 sc) ∧ W.cell? ⟨w.heap.size, 8, none⟩ = some (.int .i64 mo) ∧ W.cell? ⟨w.heap.size, 9, none⟩ = some (.bool iv) ∧ W.cell? ⟨w.heap.size, 10, none⟩ = some (.slice zp k zc) ∧ W.cell? ⟨w.heap.size, 11, none⟩ = some (.int .i64 P) ∧ W.cell? ⟨w.heap.size, 12, none⟩ = some (.int .i64 l)) := fun W hG => ⟨(CellsAt.gr R0 hG).cell 0, (CellsAt.gr R0 hG).cell 1, (CellsAt.gr R0 hG).cell 2, (CellsAt.gr R0 hG).cell 3, (CellsAt.gr R0 hG).cell 4, (CellsAt.gr R0 hG).cell 5, (CellsAt.gr R0 hG).cell 6, (CellsAt.gr R0 hG).cell 7, (CellsAt.gr R0 hG).cell 8, (CellsAt.gr R0 hG).cell 9, (CellsAt.gr R0 hG).cell 10, (CellsAt.gr R0 hG).cell 11, (CellsAt.gr R0 hG).cell 12⟩
 have hclG := gr_closed u0
 try simp only [List.append_eq, List.cons_append, List.nil_append]
 refine wp_region_grow (S := Gr u0) rfl (Gr.drew (Gr.refl _)) ?_
 refine gK 0 hclG KS ?_
 refine wpG_call (i := 1) hclG rfl (by kernel_rfl) (by kernel_rfl) (by kernel_rfl) (fun _ _ _ h => h) (fun W hS => HF.out W (hy1.gr hS) (hz1.gr hS)) (by rfl) ?_ ?_
 ·(intro w' hSw; go_simp; try with_reducible rfl)
 try simp only [Act.put, putS]
 refine gK 2 hclG KS ?_
 refine wpG_call (i := 3) hclG rfl (by kernel_rfl) (by kernel_rfl) (by kernel_rfl) (fun _ _ _ h => h) (fun W hS => HB.out W (hz1.gr hS)) (by rfl) ?_ ?_
 ·(intro w' hSw; go_simp; try with_reducible rfl)
 try simp only [Act.put, putS]
 refine gT 4 hclG ?_
 refine gT 5 hclG ?_
 refine wpG_done (by kernel_rfl) (fun w1 g1 => ?_) _
 replace g1 := (Gr.drew (Gr.refl u0)).trans g1
 have ⟨Fv_1, lv_1⟩ := CellsAt.gl (R0) g1
 have z1 := (gu).trans g1
 clear R0 gu g1
 clear hclG KS
 go_wp2_with fail
 go_ret
 exact ⟨rfl, z1⟩
set_option maxHeartbeats 4000000 in
theorem nTold_int_ok (p px sp : Option Addr) (n cap m cx q cl : Nat) (xs ys : List Gi) (ls : List Int) (fo lo ke sc mo ex : Int) (iv sa : Bool) (F : Nat) (EF : Enters F) (r : Int) (P l : Int) (zs : List Gi) (HV : Hid (∀ W, CxsAt W (.slice p n cap) xs → CxsAt W (.slice px m cx) ys → NumsAt W (.slice sp q cl) ls → Calls Tryz.prog 49 #[.slice p n cap, .agg #[.int .i64 fo, .int .i64 lo, .int .i64 ke, .int .i64 sc, .int .i64 mo, .bool iv], .agg #[.slice px m cx, .int .i64 ex, .bool sa, .slice sp q cl]] W fun e w' => ∃ vz, e = .returned (.tuple #[.agg #[.slice px m cx, .int .i64 ex, .bool sa, .slice sp q cl, .int .i64 fo, .int .i64 lo, .int .i64 ke, .int .i64 sc, .int .i64 mo, .bool iv, vz, .int .i64 P, .int .i64 l], .int .i64 0]) ∧ CxsAt w' vz zs ∧ Gr W w')) (HF : Hid (∀ W zp k zc, CxsAt W (.slice px m cx) ys → CxsAt W (.slice zp k zc) zs → Calls Tryz.prog F #[.agg #[.slice px m cx, .int .i64 ex, .bool sa, .slice sp q cl, .int .i64 fo, .int .i64 lo, .int .i64 ke, .int .i64 sc, .int .i64 mo, .bool iv, .slice zp k zc, .int .i64 P, .int .i64 l]] W fun e w' => e = .returned (.int .i64 r) ∧ Gr W w')) (w : World) (hv : CxsAt w (.slice p n cap) xs) (hy : CxsAt w (.slice px m cx) ys) (hl : NumsAt w (.slice sp q cl) ls) :
 Calls Tryz.prog 20 #[.slice p n cap, .agg #[.int .i64 fo, .int .i64 lo, .int .i64 ke, .int .i64 sc, .int .i64 mo, .bool iv], .agg #[.slice px m cx, .int .i64 ex, .bool sa, .slice sp q cl], .func (.func F) #[] #[]] w fun e w' => e = .returned (.tuple #[.int .i64 r, .int .i64 0]) ∧ Gr w w' := by
 have VX := Lib.hid hv
 have VY := Lib.hid hy
 have VL := Lib.hid hl
 clear hv hy hl
 unfold Enters at EF
 go_enter Tryz.func20, Tryz.ntmps20
 go_wp2_with fail
 obtain ⟨u0, hU⟩ : ∃ uu, uu = ((w.alloc (.cells #[.int .i64 fo, .int .i64 lo, .int .i64 ke, .int .i64 sc, .int .i64 mo, .bool iv] 24)).alloc (.cells #[.slice px m cx, .int .i64 ex, .bool sa, .slice sp q cl] 27)) := ⟨_, rfl⟩
 have ⟨gu, R0, R1⟩ := lay2 hU
 rw [← hU]
 clear hU
 have lp := R0.lt
 have lb := R1.lt
 obtain ⟨cp0, cp1, cp2, cp3, cp4, cp5⟩ := R0.t6
 obtain ⟨cb0, cb1, cb2, cb3⟩ := R1.t4
 go_wp2_with fail
 clear cp0 cp1 cp2 cp3 cp4 cp5 cb0 cb1 cb2 cb3
 refine (HV.out _ (VX.out.gr (gu)) (VY.out.gr (gu)) (VL.out.gr (gu))).mono ?_
 rintro e w1 ⟨vz, rfl, hz, g1⟩
 have ⟨Fp_1, lp_1⟩ := CellsAt.gl (R0) g1
 have ⟨Fb_1, lb_1⟩ := CellsAt.gl (R1) g1
 have z1 := (gu).trans g1
 clear R0 R1 gu g1
 obtain ⟨zp, zc, rfl⟩ := hz.len
 generalize zs.length = k at *
 go_wp2_with fail
 obtain ⟨u3, hqp1⟩ : ∃ zz, zz = (w1.alloc (.cells #[.slice px m cx, .int .i64 ex, .bool sa, .slice sp q cl, .int .i64 fo, .int .i64 lo, .int .i64 ke, .int .i64 sc, .int .i64 mo, .bool iv, .slice zp k zc, .int .i64 P, .int .i64 l] 49)) := ⟨_, rfl⟩
 have Yp_p1 : CellsAt u3 (w.heap.size) 24 #[.int .i64 fo, .int .i64 lo, .int .i64 ke, .int .i64 sc, .int .i64 mo, .bool iv] := by rw [hqp1]; first | exact (Fp_1).alloc _ | simpa using (Fp_1).alloc _
 have Yb_p1 : CellsAt u3 (w.heap.size + 1) 27 #[.slice px m cx, .int .i64 ex, .bool sa, .slice sp q cl] := by rw [hqp1]; first | exact (Fb_1).alloc _ | simpa using (Fb_1).alloc _
 have Yv_p1 : CellsAt u3 (w1.heap.size) 49 #[.slice px m cx, .int .i64 ex, .bool sa, .slice sp q cl, .int .i64 fo, .int .i64 lo, .int .i64 ke, .int .i64 sc, .int .i64 mo, .bool iv, .slice zp k zc, .int .i64 P, .int .i64 l] := by rw [hqp1]; first | exact CellsAt.new w1 49 #[.slice px m cx, .int .i64 ex, .bool sa, .slice sp q cl, .int .i64 fo, .int .i64 lo, .int .i64 ke, .int .i64 sc, .int .i64 mo, .bool iv, .slice zp k zc, .int .i64 P, .int .i64 l] | simpa using CellsAt.new w1 49 #[.slice px m cx, .int .i64 ex, .bool sa, .slice sp q cl, .int .i64 fo, .int .i64 lo, .int .i64 ke, .int .i64 sc, .int .i64 mo, .bool iv, .slice zp k zc, .int .i64 P, .int .i64 l]
 have Vz_p1 := (CxsAt.gr (hz) ((Gr.refl w1).alloc #[.slice px m cx, .int .i64 ex, .bool sa, .slice sp q cl, .int .i64 fo, .int .i64 lo, .int .i64 ke, .int .i64 sc, .int .i64 mo, .bool iv, .slice zp k zc, .int .i64 P, .int .i64 l] 49))
 rw [← hqp1] at Vz_p1
 have yp1 : Gr w u3 := by rw [hqp1]; exact (z1).alloc _ _
 rw [← hqp1]
 clear hqp1
 have cv0 := Yv_p1.at 0
 have cv1 := Yv_p1.at 1
 have cv2 := Yv_p1.at 2
 have cv3 := Yv_p1.at 3
 have cv4 := Yv_p1.at 4
 have cv5 := Yv_p1.at 5
 have cv6 := Yv_p1.at 6
 have cv7 := Yv_p1.at 7
 have cv8 := Yv_p1.at 8
 have cv9 := Yv_p1.at 9
 have cv10 := Yv_p1.at 10
 have cv11 := Yv_p1.at 11
 have cv12 := Yv_p1.at 12
 go_wp2_with fail
 clear cv0 cv1 cv2 cv3 cv4 cv5 cv6 cv7 cv8 cv9 cv10 cv11 cv12
 refine (HF.out _ _ _ _ (VY.out.gr (yp1)) Vz_p1).mono ?_
 rintro e w9 ⟨rfl, g9⟩
 go_wp2_with fail
 go_ret2
 exact ⟨rfl, (yp1).trans g9⟩
set_option maxHeartbeats 4000000 in
theorem nTold_bool_ok (p px sp : Option Addr) (n cap m cx q cl : Nat) (xs ys : List Gi) (ls : List Int) (fo lo ke sc mo ex : Int) (iv sa : Bool) (F : Nat) (EF : Enters F) (r : Bool) (P l : Int) (zs : List Gi) (HV : Hid (∀ W, CxsAt W (.slice p n cap) xs → CxsAt W (.slice px m cx) ys → NumsAt W (.slice sp q cl) ls → Calls Tryz.prog 49 #[.slice p n cap, .agg #[.int .i64 fo, .int .i64 lo, .int .i64 ke, .int .i64 sc, .int .i64 mo, .bool iv], .agg #[.slice px m cx, .int .i64 ex, .bool sa, .slice sp q cl]] W fun e w' => ∃ vz, e = .returned (.tuple #[.agg #[.slice px m cx, .int .i64 ex, .bool sa, .slice sp q cl, .int .i64 fo, .int .i64 lo, .int .i64 ke, .int .i64 sc, .int .i64 mo, .bool iv, vz, .int .i64 P, .int .i64 l], .int .i64 0]) ∧ CxsAt w' vz zs ∧ Gr W w')) (HF : Hid (∀ W zp k zc, CxsAt W (.slice px m cx) ys → CxsAt W (.slice zp k zc) zs → Calls Tryz.prog F #[.agg #[.slice px m cx, .int .i64 ex, .bool sa, .slice sp q cl, .int .i64 fo, .int .i64 lo, .int .i64 ke, .int .i64 sc, .int .i64 mo, .bool iv, .slice zp k zc, .int .i64 P, .int .i64 l]] W fun e w' => e = .returned (.bool r) ∧ Gr W w')) (w : World) (hv : CxsAt w (.slice p n cap) xs) (hy : CxsAt w (.slice px m cx) ys) (hl : NumsAt w (.slice sp q cl) ls) :
 Calls Tryz.prog 23 #[.slice p n cap, .agg #[.int .i64 fo, .int .i64 lo, .int .i64 ke, .int .i64 sc, .int .i64 mo, .bool iv], .agg #[.slice px m cx, .int .i64 ex, .bool sa, .slice sp q cl], .func (.func F) #[] #[]] w fun e w' => e = .returned (.tuple #[.bool r, .int .i64 0]) ∧ Gr w w' := by
 have VX := Lib.hid hv
 have VY := Lib.hid hy
 have VL := Lib.hid hl
 clear hv hy hl
 unfold Enters at EF
 go_enter Tryz.func23, Tryz.ntmps23
 go_wp2_with fail
 obtain ⟨u0, hU⟩ : ∃ uu, uu = ((w.alloc (.cells #[.int .i64 fo, .int .i64 lo, .int .i64 ke, .int .i64 sc, .int .i64 mo, .bool iv] 24)).alloc (.cells #[.slice px m cx, .int .i64 ex, .bool sa, .slice sp q cl] 27)) := ⟨_, rfl⟩
 have ⟨gu, R0, R1⟩ := lay2 hU
 rw [← hU]
 clear hU
 have lp := R0.lt
 have lb := R1.lt
 obtain ⟨cp0, cp1, cp2, cp3, cp4, cp5⟩ := R0.t6
 obtain ⟨cb0, cb1, cb2, cb3⟩ := R1.t4
 go_wp2_with fail
 clear cp0 cp1 cp2 cp3 cp4 cp5 cb0 cb1 cb2 cb3
 refine (HV.out _ (VX.out.gr (gu)) (VY.out.gr (gu)) (VL.out.gr (gu))).mono ?_
 rintro e w1 ⟨vz, rfl, hz, g1⟩
 have ⟨Fp_1, lp_1⟩ := CellsAt.gl (R0) g1
 have ⟨Fb_1, lb_1⟩ := CellsAt.gl (R1) g1
 have z1 := (gu).trans g1
 clear R0 R1 gu g1
 obtain ⟨zp, zc, rfl⟩ := hz.len
 generalize zs.length = k at *
 go_wp2_with fail
 obtain ⟨u3, hqp1⟩ : ∃ zz, zz = (w1.alloc (.cells #[.slice px m cx, .int .i64 ex, .bool sa, .slice sp q cl, .int .i64 fo, .int .i64 lo, .int .i64 ke, .int .i64 sc, .int .i64 mo, .bool iv, .slice zp k zc, .int .i64 P, .int .i64 l] 49)) := ⟨_, rfl⟩
 have Yp_p1 : CellsAt u3 (w.heap.size) 24 #[.int .i64 fo, .int .i64 lo, .int .i64 ke, .int .i64 sc, .int .i64 mo, .bool iv] := by rw [hqp1]; first | exact (Fp_1).alloc _ | simpa using (Fp_1).alloc _
 have Yb_p1 : CellsAt u3 (w.heap.size + 1) 27 #[.slice px m cx, .int .i64 ex, .bool sa, .slice sp q cl] := by rw [hqp1]; first | exact (Fb_1).alloc _ | simpa using (Fb_1).alloc _
 have Yv_p1 : CellsAt u3 (w1.heap.size) 49 #[.slice px m cx, .int .i64 ex, .bool sa, .slice sp q cl, .int .i64 fo, .int .i64 lo, .int .i64 ke, .int .i64 sc, .int .i64 mo, .bool iv, .slice zp k zc, .int .i64 P, .int .i64 l] := by rw [hqp1]; first | exact CellsAt.new w1 49 #[.slice px m cx, .int .i64 ex, .bool sa, .slice sp q cl, .int .i64 fo, .int .i64 lo, .int .i64 ke, .int .i64 sc, .int .i64 mo, .bool iv, .slice zp k zc, .int .i64 P, .int .i64 l] | simpa using CellsAt.new w1 49 #[.slice px m cx, .int .i64 ex, .bool sa, .slice sp q cl, .int .i64 fo, .int .i64 lo, .int .i64 ke, .int .i64 sc, .int .i64 mo, .bool iv, .slice zp k zc, .int .i64 P, .int .i64 l]
 have Vz_p1 := (CxsAt.gr (hz) ((Gr.refl w1).alloc #[.slice px m cx, .int .i64 ex, .bool sa, .slice sp q cl, .int .i64 fo, .int .i64 lo, .int .i64 ke, .int .i64 sc, .int .i64 mo, .bool iv, .slice zp k zc, .int .i64 P, .int .i64 l] 49))
 rw [← hqp1] at Vz_p1
 have yp1 : Gr w u3 := by rw [hqp1]; exact (z1).alloc _ _
 rw [← hqp1]
 clear hqp1
 have cv0 := Yv_p1.at 0
 have cv1 := Yv_p1.at 1
 have cv2 := Yv_p1.at 2
 have cv3 := Yv_p1.at 3
 have cv4 := Yv_p1.at 4
 have cv5 := Yv_p1.at 5
 have cv6 := Yv_p1.at 6
 have cv7 := Yv_p1.at 7
 have cv8 := Yv_p1.at 8
 have cv9 := Yv_p1.at 9
 have cv10 := Yv_p1.at 10
 have cv11 := Yv_p1.at 11
 have cv12 := Yv_p1.at 12
 go_wp2_with fail
 clear cv0 cv1 cv2 cv3 cv4 cv5 cv6 cv7 cv8 cv9 cv10 cv11 cv12
 refine (HF.out _ _ _ _ (VY.out.gr (yp1)) Vz_p1).mono ?_
 rintro e w9 ⟨rfl, g9⟩
 go_wp2_with fail
 go_ret2
 exact ⟨rfl, (yp1).trans g9⟩
set_option maxHeartbeats 4000000 in
theorem nFar_told (p px sp : Option Addr) (n cap m cx q cl : Nat) (xs ys : List Gi) (ls : List Int) (fo lo ke sc mo ex : Int) (iv sa : Bool) (r y : Int) (HT : Hid (∀ W, CxsAt W (.slice p n cap) xs → CxsAt W (.slice px m cx) ys → NumsAt W (.slice sp q cl) ls → Calls Tryz.prog 20 #[.slice p n cap, .agg #[.int .i64 fo, .int .i64 lo, .int .i64 ke, .int .i64 sc, .int .i64 mo, .bool iv], .agg #[.slice px m cx, .int .i64 ex, .bool sa, .slice sp q cl], .func (.func 21) #[] #[]] W fun e w' => e = .returned (.tuple #[.int .i64 r, .int .i64 y]) ∧ Gr W w')) (w : World) (hv : CxsAt w (.slice p n cap) xs) (hy : CxsAt w (.slice px m cx) ys) (hl : NumsAt w (.slice sp q cl) ls) :
 Calls Tryz.prog 7 #[.slice p n cap, .agg #[.int .i64 fo, .int .i64 lo, .int .i64 ke, .int .i64 sc, .int .i64 mo, .bool iv], .agg #[.slice px m cx, .int .i64 ex, .bool sa, .slice sp q cl]] w fun e w' => e = .returned (.tuple #[.int .i64 r, .int .i64 y]) ∧ Gr w w' := by
 have VX := Lib.hid hv
 have VY := Lib.hid hy
 have VL := Lib.hid hl
 clear hv hy hl
 go_enter Tryz.func7, Tryz.ntmps7
 go_wp2_with fail
 obtain ⟨u0, hU⟩ : ∃ uu, uu = ((w.alloc (.cells #[.int .i64 fo, .int .i64 lo, .int .i64 ke, .int .i64 sc, .int .i64 mo, .bool iv] 24)).alloc (.cells #[.slice px m cx, .int .i64 ex, .bool sa, .slice sp q cl] 27)) := ⟨_, rfl⟩
 have ⟨gu, R0, R1⟩ := lay2 hU
 rw [← hU]
 clear hU
 have lp := R0.lt
 have lb := R1.lt
 obtain ⟨cp0, cp1, cp2, cp3, cp4, cp5⟩ := R0.t6
 obtain ⟨cb0, cb1, cb2, cb3⟩ := R1.t4
 go_wp2_with fail
 clear cp0 cp1 cp2 cp3 cp4 cp5 cb0 cb1 cb2 cb3
 refine (HT.out _ (VX.out.gr (gu)) (VY.out.gr (gu)) (VL.out.gr (gu))).mono ?_
 rintro e w1 ⟨rfl, g1⟩
 have ⟨Fp_1, lp_1⟩ := CellsAt.gl (R0) g1
 have ⟨Fb_1, lb_1⟩ := CellsAt.gl (R1) g1
 have z1 := (gu).trans g1
 clear R0 R1 gu g1
 go_wp2_with fail
 go_ret2
 exact ⟨rfl, z1⟩
set_option maxHeartbeats 4000000 in
theorem nBound_told (p px sp : Option Addr) (n cap m cx q cl : Nat) (xs ys : List Gi) (ls : List Int) (fo lo ke sc mo ex : Int) (iv sa : Bool) (r y : Int) (HT : Hid (∀ W, CxsAt W (.slice p n cap) xs → CxsAt W (.slice px m cx) ys → NumsAt W (.slice sp q cl) ls → Calls Tryz.prog 20 #[.slice p n cap, .agg #[.int .i64 fo, .int .i64 lo, .int .i64 ke, .int .i64 sc, .int .i64 mo, .bool iv], .agg #[.slice px m cx, .int .i64 ex, .bool sa, .slice sp q cl], .func (.func 22) #[] #[]] W fun e w' => e = .returned (.tuple #[.int .i64 r, .int .i64 y]) ∧ Gr W w')) (w : World) (hv : CxsAt w (.slice p n cap) xs) (hy : CxsAt w (.slice px m cx) ys) (hl : NumsAt w (.slice sp q cl) ls) :
 Calls Tryz.prog 8 #[.slice p n cap, .agg #[.int .i64 fo, .int .i64 lo, .int .i64 ke, .int .i64 sc, .int .i64 mo, .bool iv], .agg #[.slice px m cx, .int .i64 ex, .bool sa, .slice sp q cl]] w fun e w' => e = .returned (.tuple #[.int .i64 r, .int .i64 y]) ∧ Gr w w' := by
 have VX := Lib.hid hv
 have VY := Lib.hid hy
 have VL := Lib.hid hl
 clear hv hy hl
 go_enter Tryz.func8, Tryz.ntmps8
 go_wp2_with fail
 obtain ⟨u0, hU⟩ : ∃ uu, uu = ((w.alloc (.cells #[.int .i64 fo, .int .i64 lo, .int .i64 ke, .int .i64 sc, .int .i64 mo, .bool iv] 24)).alloc (.cells #[.slice px m cx, .int .i64 ex, .bool sa, .slice sp q cl] 27)) := ⟨_, rfl⟩
 have ⟨gu, R0, R1⟩ := lay2 hU
 rw [← hU]
 clear hU
 have lp := R0.lt
 have lb := R1.lt
 obtain ⟨cp0, cp1, cp2, cp3, cp4, cp5⟩ := R0.t6
 obtain ⟨cb0, cb1, cb2, cb3⟩ := R1.t4
 go_wp2_with fail
 clear cp0 cp1 cp2 cp3 cp4 cp5 cb0 cb1 cb2 cb3
 refine (HT.out _ (VX.out.gr (gu)) (VY.out.gr (gu)) (VL.out.gr (gu))).mono ?_
 rintro e w1 ⟨rfl, g1⟩
 have ⟨Fp_1, lp_1⟩ := CellsAt.gl (R0) g1
 have ⟨Fb_1, lb_1⟩ := CellsAt.gl (R1) g1
 have z1 := (gu).trans g1
 clear R0 R1 gu g1
 go_wp2_with fail
 go_ret2
 exact ⟨rfl, z1⟩
set_option maxHeartbeats 4000000 in
theorem nWithin_told (p px sp : Option Addr) (n cap m cx q cl : Nat) (xs ys : List Gi) (ls : List Int) (fo lo ke sc mo ex : Int) (iv sa : Bool) (r : Bool) (y : Int) (HT : Hid (∀ W, CxsAt W (.slice p n cap) xs → CxsAt W (.slice px m cx) ys → NumsAt W (.slice sp q cl) ls → Calls Tryz.prog 23 #[.slice p n cap, .agg #[.int .i64 fo, .int .i64 lo, .int .i64 ke, .int .i64 sc, .int .i64 mo, .bool iv], .agg #[.slice px m cx, .int .i64 ex, .bool sa, .slice sp q cl], .func (.func 24) #[] #[]] W fun e w' => e = .returned (.tuple #[.bool r, .int .i64 y]) ∧ Gr W w')) (w : World) (hv : CxsAt w (.slice p n cap) xs) (hy : CxsAt w (.slice px m cx) ys) (hl : NumsAt w (.slice sp q cl) ls) :
 Calls Tryz.prog 9 #[.slice p n cap, .agg #[.int .i64 fo, .int .i64 lo, .int .i64 ke, .int .i64 sc, .int .i64 mo, .bool iv], .agg #[.slice px m cx, .int .i64 ex, .bool sa, .slice sp q cl]] w fun e w' => e = .returned (.tuple #[.bool r, .int .i64 y]) ∧ Gr w w' := by
 have VX := Lib.hid hv
 have VY := Lib.hid hy
 have VL := Lib.hid hl
 clear hv hy hl
 go_enter Tryz.func9, Tryz.ntmps9
 go_wp2_with fail
 obtain ⟨u0, hU⟩ : ∃ uu, uu = ((w.alloc (.cells #[.int .i64 fo, .int .i64 lo, .int .i64 ke, .int .i64 sc, .int .i64 mo, .bool iv] 24)).alloc (.cells #[.slice px m cx, .int .i64 ex, .bool sa, .slice sp q cl] 27)) := ⟨_, rfl⟩
 have ⟨gu, R0, R1⟩ := lay2 hU
 rw [← hU]
 clear hU
 have lp := R0.lt
 have lb := R1.lt
 obtain ⟨cp0, cp1, cp2, cp3, cp4, cp5⟩ := R0.t6
 obtain ⟨cb0, cb1, cb2, cb3⟩ := R1.t4
 go_wp2_with fail
 clear cp0 cp1 cp2 cp3 cp4 cp5 cb0 cb1 cb2 cb3
 refine (HT.out _ (VX.out.gr (gu)) (VY.out.gr (gu)) (VL.out.gr (gu))).mono ?_
 rintro e w1 ⟨rfl, g1⟩
 have ⟨Fp_1, lp_1⟩ := CellsAt.gl (R0) g1
 have ⟨Fb_1, lb_1⟩ := CellsAt.gl (R1) g1
 have z1 := (gu).trans g1
 clear R0 R1 gu g1
 go_wp2_with fail
 go_ret2
 exact ⟨rfl, z1⟩
end
end Go.Proofs.YtcgeabpibkejpaaGreat
