import Derived.Test.YtcgeabpibkejpaaGreatNearTellsS7
namespace Go.Proofs.YtcgeabpibkejpaaGreat
section
open Go.ChangeShapes Go.WideShapes Go.ChangeAt Go.RowKit
set_option linter.unusedVariables false
set_option linter.unusedSimpArgs false
set_option maxRecDepth 100000
set_option maxHeartbeats 2000000 in
theorem rUp17_zero (p : Option Addr) (n cap : Nat) (xs : List Gi) (fo lo ke sc mo : Int) (iv : Bool) (hs : ¬ sc = 1) (hsb : (sc == 1) = false) (w : World) (hv : CxsAt w (.slice p n cap) xs) :
 Calls Tryz.prog 11 #[.slice p n cap, .agg #[.int .i64 fo, .int .i64 lo, .int .i64 ke, .int .i64 sc, .int .i64 mo, .bool iv]] w fun e w' => e = .returned (.int .i64 0) ∧ Gr w w' := by
 go_enter Tryz.func11, Tryz.ntmps11
 go_wp2_with fail
 obtain ⟨u0, hU⟩ : ∃ uu, uu = (w.alloc (.cells #[.int .i64 fo, .int .i64 lo, .int .i64 ke, .int .i64 sc, .int .i64 mo, .bool iv] 24)) := ⟨_, rfl⟩
 have ⟨gu, R0⟩ := lay1 hU
 rw [← hU]
 clear hU
 have lp := R0.lt
 obtain ⟨cp0, cp1, cp2, cp3, cp4, cp5⟩ := R0.t6
 go_wp2_with fail
 clear cp0 cp1 cp2 cp3 cp4 cp5
 go_ret
 exact ⟨rfl, gu⟩
set_option maxHeartbeats 2000000 in
theorem rUp17_yes (p : Option Addr) (n cap : Nat) (xs : List Gi) (fo lo ke mo : Int) (iv : Bool) (gm u : Int) (HM : Hid (∀ W, CxsAt W (.slice p n cap) xs → Calls Tryz.prog 30 #[.slice p n cap] W fun e w' => e = .returned (.int .i64 gm) ∧ Gr W w')) (HO : CR 29 #[.int .i64 gm, .int .i64 fo] (.int .i64 u)) (w : World) (hv : CxsAt w (.slice p n cap) xs) :
 Calls Tryz.prog 11 #[.slice p n cap, .agg #[.int .i64 fo, .int .i64 lo, .int .i64 ke, .int .i64 1, .int .i64 mo, .bool iv]] w fun e w' => e = .returned (.int .i64 u) ∧ Gr w w' := by
 go_enter Tryz.func11, Tryz.ntmps11
 go_wp2_with fail
 obtain ⟨u0, hU⟩ : ∃ uu, uu = (w.alloc (.cells #[.int .i64 fo, .int .i64 lo, .int .i64 ke, .int .i64 1, .int .i64 mo, .bool iv] 24)) := ⟨_, rfl⟩
 have ⟨gu, R0⟩ := lay1 hU
 rw [← hU]
 clear hU
 have lp := R0.lt
 obtain ⟨cp0, cp1, cp2, cp3, cp4, cp5⟩ := R0.t6
 go_wp2_with fail
 clear cp0 cp1 cp2 cp3 cp4 cp5
 have hv1 := hv.gr gu
 have KS : ∀ W, Gr u0 W → (W.cell? ⟨w.heap.size, 0, none⟩ = some (.int .i64 fo) ∧ W.cell? ⟨w.heap.size, 1, none⟩ = some (.int .i64 lo) ∧ W.cell? ⟨w.heap.size, 2, none⟩ = some (.int .i64 ke) ∧ W.cell? ⟨w.heap.size, 3, none⟩ = some (.int .i64 1) ∧ W.cell? ⟨w.heap.size, 4, none⟩ = some (.int .i64 mo) ∧ W.cell? ⟨w.heap.size, 5, none⟩ = some (.bool iv)) := fun W hG => ⟨(CellsAt.gr R0 hG).cell 0, (CellsAt.gr R0 hG).cell 1, (CellsAt.gr R0 hG).cell 2, (CellsAt.gr R0 hG).cell 3, (CellsAt.gr R0 hG).cell 4, (CellsAt.gr R0 hG).cell 5⟩
 have hclG := gr_closed u0
 try simp only [List.append_eq, List.cons_append, List.nil_append]
 refine wp_region_grow (S := Gr u0) rfl (Gr.drew (Gr.refl _)) ?_
 refine gT 0 hclG ?_
 refine wpG_call (i := 1) hclG rfl (by kernel_rfl) (by kernel_rfl) (by kernel_rfl) (fun _ _ _ h => h) (fun W hS => HM.out W (hv1.gr hS)) (by rfl) ?_ ?_
 ·(intro w' hSw; go_simp; try with_reducible rfl)
 try simp only [Act.put, putS]
 refine gT 2 hclG ?_
 refine gK 3 hclG KS ?_
 refine wpG_call (i := 4) hclG rfl (by kernel_rfl) (by kernel_rfl) (by kernel_rfl) (fun _ _ _ h => h) (fun W _ => HO.out W) (by rfl) ?_ ?_
 ·(intro w' hSw; go_simp; try with_reducible rfl)
 try simp only [Act.put, putS]
 refine gT 5 hclG ?_
 refine wpG_done (by kernel_rfl) (fun w1 g1 => ?_) _
 replace g1 := (Gr.drew (Gr.refl u0)).trans g1
 have ⟨Fp_1, lp_1⟩ := CellsAt.gl (R0) g1
 have z1 := (gu).trans g1
 clear R0 gu g1
 clear hclG KS
 go_wp2_with fail
 go_ret
 exact ⟨rfl, z1⟩
theorem rPlain17_gt (a b d : Int) (h : b < a) (hd : wrap64 (a - b) = d) (w : World) :
 Calls Tryz.prog 35 #[.int .i64 a, .int .i64 b] w fun e w' => e = .returned (.int .i64 d) ∧ w' = w := by
 go_enter Tryz.func35, Tryz.ntmps35
 go_wp2_with fail
 go_ret
 exact ⟨by first | rfl | (show Ending.returned (Value.int .i64 (wrap64 (a - b))) = _; rw [hd]), rfl⟩
theorem rPlain17_le (a b d : Int) (h : ¬ b < a) (hd : wrap64 (b - a) = d) (w : World) :
 Calls Tryz.prog 35 #[.int .i64 a, .int .i64 b] w fun e w' => e = .returned (.int .i64 d) ∧ w' = w := by
 go_enter Tryz.func35, Tryz.ntmps35
 go_wp2_with fail
 go_ret
 exact ⟨by first | rfl | (show Ending.returned (Value.int .i64 (wrap64 (b - a))) = _; rw [hd]), rfl⟩
theorem rMore17_c (a b : Int) (w : World) :
 Calls Tryz.prog 34 #[.int .i64 a, .int .i64 b] w fun e w' => e = .returned (.int .i64 (if b < a then a else b)) ∧ w' = w := by
 by_cases h : b < a
 ·rw [if_pos h]
  go_enter Tryz.func34, Tryz.ntmps34
  go_wp2_with fail
  go_ret
  exact ⟨rfl, rfl⟩
 ·rw [if_neg h]
  go_enter Tryz.func34, Tryz.ntmps34
  go_wp2_with fail
  go_ret
  exact ⟨rfl, rfl⟩
set_option maxHeartbeats 2000000 in
theorem rPut17_c (p : Option Addr) (n cap : Nat) (xs : List Gi) (fo lo ke sc mo : Int) (iv : Bool) (zs : List Gi) (u un : Int) (HUN : Hid (wrap64 (-u) = un)) (HU : Hid (∀ W, CxsAt W (.slice p n cap) xs → Calls Tryz.prog 11 #[.slice p n cap, .agg #[.int .i64 fo, .int .i64 lo, .int .i64 ke, .int .i64 sc, .int .i64 mo, .bool iv]] W fun e w' => e = .returned (.int .i64 u) ∧ Gr W w'))
 (HS : Hid (∀ W, CxsAt W (.slice p n cap) xs → Calls Tryz.prog 60 #[.slice p n cap, .int .i64 un, .int .i64 0] W fun e w' => ∃ v, e = .returned v ∧ CxsAt w' v zs ∧ Gr W w')) (w : World) (hv : CxsAt w (.slice p n cap) xs) :
 Calls Tryz.prog 33 #[.slice p n cap, .agg #[.int .i64 fo, .int .i64 lo, .int .i64 ke, .int .i64 sc, .int .i64 mo, .bool iv]] w fun e w' => ∃ v, e = .returned v ∧ CxsAt w' v zs ∧ Gr w w' := by
 go_enter Tryz.func33, Tryz.ntmps33
 go_wp2_with fail
 obtain ⟨u0, hU⟩ : ∃ uu, uu = (w.alloc (.cells #[.int .i64 fo, .int .i64 lo, .int .i64 ke, .int .i64 sc, .int .i64 mo, .bool iv] 24)) := ⟨_, rfl⟩
 have ⟨gu, R0⟩ := lay1 hU
 rw [← hU]
 clear hU
 have lp := R0.lt
 obtain ⟨cp0, cp1, cp2, cp3, cp4, cp5⟩ := R0.t6
 go_wp2_with fail
 clear cp0 cp1 cp2 cp3 cp4 cp5
 refine (HU.out _ (hv.gr gu)).mono ?_
 rintro e w1 ⟨rfl, g1⟩
 have ⟨Fp_1, lp_1⟩ := CellsAt.gl (R0) g1
 have z1 := (gu).trans g1
 clear R0 gu g1
 go_wp2_with fail
 rw [HUN.out]
 with_reducible refine (HS.out _ (hv.gr (z1))).mono ?_
 rintro e w9 ⟨vz, rfl, hz, g9⟩
 go_wp2_with fail
 go_ret
 exact ⟨_, rfl, hz, (z1).trans g9⟩
set_option maxHeartbeats 2000000 in
theorem rMay17_no (p px sp : Option Addr) (n cap m cx q cl : Nat) (xs ys : List Gi) (ls : List Int) (fo lo ke sc mo ex : Int) (iv sa : Bool) (y : Int) (hy0 : ¬ y = 0) (hyb : (y == 0) = false) (HM : Hid (∀ W, CxsAt W (.slice p n cap) xs → Calls Tryz.prog 10 #[.slice p n cap, .agg #[.int .i64 fo, .int .i64 lo, .int .i64 ke, .int .i64 sc, .int .i64 mo, .bool iv], .bool false] W fun e w' => e = .returned (.int .i64 y) ∧ Gr W w')) (w : World) (hv : CxsAt w (.slice p n cap) xs) (hy : CxsAt w (.slice px m cx) ys) (hl : NumsAt w (.slice sp q cl) ls) :
 Calls Tryz.prog 13 #[.slice p n cap, .agg #[.int .i64 fo, .int .i64 lo, .int .i64 ke, .int .i64 sc, .int .i64 mo, .bool iv], .agg #[.slice px m cx, .int .i64 ex, .bool sa, .slice sp q cl]] w fun e w' => e = .returned (.int .i64 y) ∧ Gr w w' := by
 have VX := Lib.hid hv
 have VY := Lib.hid hy
 have VL := Lib.hid hl
 clear hv hy hl
 go_enter Tryz.func13, Tryz.ntmps13
 go_wp2_with fail
 obtain ⟨u0, hU⟩ : ∃ uu, uu = ((w.alloc (.cells #[.int .i64 fo, .int .i64 lo, .int .i64 ke, .int .i64 sc, .int .i64 mo, .bool iv] 24)).alloc (.cells #[.slice px m cx, .int .i64 ex, .bool sa, .slice sp q cl] 27)) := ⟨_, rfl⟩
 have ⟨gu, R0, R1⟩ := lay2 hU
 rw [← hU]
 clear hU
 have lp := R0.lt
 have lb := R1.lt
 obtain ⟨cp0, cp1, cp2, cp3, cp4, cp5⟩ := R0.t6
 go_wp2_with fail
 clear cp0 cp1 cp2 cp3 cp4 cp5
 refine (HM.out _ (VX.out.gr gu)).mono ?_
 rintro e w1 ⟨rfl, g1⟩
 have ⟨Fp_1, lp_1⟩ := CellsAt.gl (R0) g1
 have ⟨Fb_1, lb_1⟩ := CellsAt.gl (R1) g1
 have z1 := (gu).trans g1
 clear R0 R1 gu g1
 go_wp2_with fail
 go_ret
 exact ⟨rfl, z1⟩
set_option maxHeartbeats 2000000 in
theorem rMay17_size (p px sp : Option Addr) (n cap m cx q cl : Nat) (xs ys : List Gi) (ls : List Int) (fo lo ke sc mo ex : Int) (iv sa : Bool) (hmn : ¬ (m : Int) = (n : Int)) (hmb : ((m : Int) == (n : Int)) = false) (HM : Hid (∀ W, CxsAt W (.slice p n cap) xs → Calls Tryz.prog 10 #[.slice p n cap, .agg #[.int .i64 fo, .int .i64 lo, .int .i64 ke, .int .i64 sc, .int .i64 mo, .bool iv], .bool false] W fun e w' => e = .returned (.int .i64 0) ∧ Gr W w')) (w : World) (hv : CxsAt w (.slice p n cap) xs) (hy : CxsAt w (.slice px m cx) ys) (hl : NumsAt w (.slice sp q cl) ls) :
 Calls Tryz.prog 13 #[.slice p n cap, .agg #[.int .i64 fo, .int .i64 lo, .int .i64 ke, .int .i64 sc, .int .i64 mo, .bool iv], .agg #[.slice px m cx, .int .i64 ex, .bool sa, .slice sp q cl]] w fun e w' => e = .returned (.int .i64 3) ∧ Gr w w' := by
 have VX := Lib.hid hv
 have VY := Lib.hid hy
 have VL := Lib.hid hl
 clear hv hy hl
 go_enter Tryz.func13, Tryz.ntmps13
 go_wp2_with fail
 obtain ⟨u0, hU⟩ : ∃ uu, uu = ((w.alloc (.cells #[.int .i64 fo, .int .i64 lo, .int .i64 ke, .int .i64 sc, .int .i64 mo, .bool iv] 24)).alloc (.cells #[.slice px m cx, .int .i64 ex, .bool sa, .slice sp q cl] 27)) := ⟨_, rfl⟩
 have ⟨gu, R0, R1⟩ := lay2 hU
 rw [← hU]
 clear hU
 have lp := R0.lt
 have lb := R1.lt
 obtain ⟨cp0, cp1, cp2, cp3, cp4, cp5⟩ := R0.t6
 go_wp2_with fail
 clear cp0 cp1 cp2 cp3 cp4 cp5
 refine (HM.out _ (VX.out.gr gu)).mono ?_
 rintro e w1 ⟨rfl, g1⟩
 have ⟨Fp_1, lp_1⟩ := CellsAt.gl (R0) g1
 have ⟨Fb_1, lb_1⟩ := CellsAt.gl (R1) g1
 have z1 := (gu).trans g1
 clear R0 R1 gu g1
 obtain ⟨cb0, cb1, cb2, cb3⟩ := Fb_1.t4
 go_wp2_with fail
 clear cb0 cb1 cb2 cb3
 go_ret
 exact ⟨rfl, z1⟩
set_option maxHeartbeats 4000000 in
theorem rMay17_parts (p px sp : Option Addr) (n cap cx q cl : Nat) (xs ys : List Gi) (ls : List Int) (fo lo ke sc mo ex : Int) (iv sa : Bool) (b0 b1 b2 : Int) (hmb : ((n : Int) == (n : Int)) = true) (HW : Hid (IntKind.i64.wrap (-b1) = b0 ∧ IntKind.i64.wrap (b1 - 1) = b2)) (HM : Hid (∀ W, CxsAt W (.slice p n cap) xs → Calls Tryz.prog 10 #[.slice p n cap, .agg #[.int .i64 fo, .int .i64 lo, .int .i64 ke, .int .i64 sc, .int .i64 mo, .bool iv], .bool false] W fun e w' => e = .returned (.int .i64 0) ∧ Gr W w')) (HO : CR 27 #[.int .i64 fo] (.int .i64 b1)) (HA : Hid (∀ W, CxsAt W (.slice px n cx) ys → Calls Tryz.prog 28 #[.slice px n cx, .int .i64 b0, .int .i64 b2] W fun e w' => e = .returned (.bool false) ∧ Gr W w')) (w : World) (hv : CxsAt w (.slice p n cap) xs) (hy : CxsAt w (.slice px n cx) ys) (hl : NumsAt w (.slice sp q cl) ls) :
 Calls Tryz.prog 13 #[.slice p n cap, .agg #[.int .i64 fo, .int .i64 lo, .int .i64 ke, .int .i64 sc, .int .i64 mo, .bool iv], .agg #[.slice px n cx, .int .i64 ex, .bool sa, .slice sp q cl]] w fun e w' => e = .returned (.int .i64 2) ∧ Gr w w' := by
 have VX := Lib.hid hv
 have VY := Lib.hid hy
 have VL := Lib.hid hl
 clear hv hy hl
 go_enter Tryz.func13, Tryz.ntmps13
 go_wp2_with fail
 obtain ⟨u0, hU⟩ : ∃ uu, uu = ((w.alloc (.cells #[.int .i64 fo, .int .i64 lo, .int .i64 ke, .int .i64 sc, .int .i64 mo, .bool iv] 24)).alloc (.cells #[.slice px n cx, .int .i64 ex, .bool sa, .slice sp q cl] 27)) := ⟨_, rfl⟩
 have ⟨gu, R0, R1⟩ := lay2 hU
 rw [← hU]
 clear hU
 have lp := R0.lt
 have lb := R1.lt
 obtain ⟨cp0, cp1, cp2, cp3, cp4, cp5⟩ := R0.t6
 go_wp2_with fail
 clear cp0 cp1 cp2 cp3 cp4 cp5
 refine (HM.out _ (VX.out.gr gu)).mono ?_
 rintro e w1 ⟨rfl, g1⟩
 have ⟨Fp_1, lp_1⟩ := CellsAt.gl (R0) g1
 have ⟨Fb_1, lb_1⟩ := CellsAt.gl (R1) g1
 have z1 := (gu).trans g1
 clear R0 R1 gu g1
 obtain ⟨cb0, cb1, cb2, cb3⟩ := Fb_1.t4
 obtain ⟨cp0, cp1, cp2, cp3, cp4, cp5⟩ := Fp_1.t6
 go_wp2_with fail
 clear cb0 cb1 cb2 cb3 cp0 cp1 cp2 cp3 cp4 cp5
 refine (HO.out _).mono ?_
 rintro e w2 ⟨rfl, g2⟩
 have ⟨Fp_2, lp_2⟩ := CellsAt.gl (Fp_1) g2
 have ⟨Fb_2, lb_2⟩ := CellsAt.gl (Fb_1) g2
 have z2 := (z1).trans g2
 clear Fp_1 Fb_1 z1 g2
 go_wp2_with fail
 obtain ⟨u5, hqp1⟩ : ∃ zz, zz = w2 := ⟨_, rfl⟩
 have Yp_p1 : CellsAt u5 (w.heap.size) 24 #[.int .i64 fo, .int .i64 lo, .int .i64 ke, .int .i64 sc, .int .i64 mo, .bool iv] := by rw [hqp1]; first | exact Fp_2 | simpa using Fp_2
 have Yb_p1 : CellsAt u5 (w.heap.size + 1) 27 #[.slice px n cx, .int .i64 ex, .bool sa, .slice sp q cl] := by rw [hqp1]; first | exact Fb_2 | simpa using Fb_2
 have yp1 : Gr w u5 := by rw [hqp1]; exact z2
 rw [← hqp1]
 clear hqp1
 have hy1 := VY.out.gr (yp1)
 have hv1 := VX.out.gr (yp1)
 obtain ⟨b0e, b2e⟩ := HW.out
 have KS : ∀ W, Gr u5 W → (W.cell? ⟨w.heap.size + 1, 0, none⟩ = some (.slice px n cx) ∧ W.cell? ⟨w.heap.size + 1, 1, none⟩ = some (.int .i64 ex) ∧ W.cell? ⟨w.heap.size + 1, 2, none⟩ = some (.bool sa) ∧ W.cell? ⟨w.heap.size + 1, 3, none⟩ = some (.slice sp q cl) ∧ W.cell? ⟨w.heap.size, 0, none⟩ = some (.int .i64 fo) ∧ W.cell? ⟨w.heap.size, 1, none⟩ = some (.int .i64 lo) ∧ W.cell? ⟨w.heap.size, 2, none⟩ = some (.int .i64 ke) ∧ W.cell? ⟨w.heap.size, 3, none⟩ = some (.int .i64 sc) ∧ W.cell? ⟨w.heap.size, 4, none⟩ = some (.int .i64 mo) ∧ W.cell? ⟨w.heap.size, 5, none⟩ = some (.bool iv)) := fun W hG => ⟨(CellsAt.gr Yb_p1 hG).cell 0, (CellsAt.gr Yb_p1 hG).cell 1, (CellsAt.gr Yb_p1 hG).cell 2, (CellsAt.gr Yb_p1 hG).cell 3, (CellsAt.gr Yp_p1 hG).cell 0, (CellsAt.gr Yp_p1 hG).cell 1, (CellsAt.gr Yp_p1 hG).cell 2, (CellsAt.gr Yp_p1 hG).cell 3, (CellsAt.gr Yp_p1 hG).cell 4, (CellsAt.gr Yp_p1 hG).cell 5⟩
 have hclG := gr_closed u5
 try simp only [List.append_eq, List.cons_append, List.nil_append]
 refine wp_region_grow (S := Gr u5) rfl (Gr.drew (Gr.refl _)) ?_
 refine gT 0 hclG ?_
 refine gK 1 hclG KS ?_
 refine gT 2 hclG ?_
 refine gT 3 hclG ?_
 refine gT 4 hclG ?_
 refine gT 5 hclG ?_
 refine wpG_call (i := 6) hclG rfl (by kernel_rfl) (by kernel_rfl) (by kernel_rfl) (fun _ _ _ h => h) (fun W hS => HA.out W (hy1.gr hS)) (by rfl) ?_ ?_
 ·(intro w' hSw; go_simp; try with_reducible rfl)
 try simp only [Act.put, putS]
 refine gT 7 hclG ?_
 refine gT 8 hclG ?_
 refine wpG_skip (i := 9) hclG rfl (by kernel_rfl) (by kernel_rfl) (by kernel_rfl) (fun _ _ _ h => h) (by rfl) ?_
 try simp only [Act.put, putS]
 refine wpG_skip (i := 10) hclG rfl (by kernel_rfl) (by kernel_rfl) (by kernel_rfl) (fun _ _ _ h => h) (by rfl) ?_
 try simp only [Act.put, putS]
 refine wpG_skip (i := 11) hclG rfl (by kernel_rfl) (by kernel_rfl) (by kernel_rfl) (fun _ _ _ h => h) (by rfl) ?_
 try simp only [Act.put, putS]
 refine wpG_skip (i := 12) hclG rfl (by kernel_rfl) (by kernel_rfl) (by kernel_rfl) (fun _ _ _ h => h) (by rfl) ?_
 try simp only [Act.put, putS]
 refine wpG_skip (i := 13) hclG rfl (by kernel_rfl) (by kernel_rfl) (by kernel_rfl) (fun _ _ _ h => h) (by rfl) ?_
 try simp only [Act.put, putS]
 refine wpG_skip (i := 14) hclG rfl (by kernel_rfl) (by kernel_rfl) (by kernel_rfl) (fun _ _ _ h => h) (by rfl) ?_
 try simp only [Act.put, putS]
 refine wpG_skip (i := 15) hclG rfl (by kernel_rfl) (by kernel_rfl) (by kernel_rfl) (fun _ _ _ h => h) (by rfl) ?_
 try simp only [Act.put, putS]
 refine gT 16 hclG ?_
 refine gT 17 hclG ?_
 refine wpG_skip (i := 18) hclG rfl (by kernel_rfl) (by kernel_rfl) (by kernel_rfl) (fun _ _ _ h => h) (by rfl) ?_
 try simp only [Act.put, putS]
 refine wpG_skip (i := 19) hclG rfl (by kernel_rfl) (by kernel_rfl) (by kernel_rfl) (fun _ _ _ h => h) (by rfl) ?_
 try simp only [Act.put, putS]
 refine wpG_skip (i := 20) hclG rfl (by kernel_rfl) (by kernel_rfl) (by kernel_rfl) (fun _ _ _ h => h) (by rfl) ?_
 try simp only [Act.put, putS]
 refine wpG_skip (i := 21) hclG rfl (by kernel_rfl) (by kernel_rfl) (by kernel_rfl) (fun _ _ _ h => h) (by rfl) ?_
 try simp only [Act.put, putS]
 refine wpG_skip (i := 22) hclG rfl (by kernel_rfl) (by kernel_rfl) (by kernel_rfl) (fun _ _ _ h => h) (by rfl) ?_
 try simp only [Act.put, putS]
 refine wpG_skip (i := 23) hclG rfl (by kernel_rfl) (by kernel_rfl) (by kernel_rfl) (fun _ _ _ h => h) (by rfl) ?_
 try simp only [Act.put, putS]
 refine wpG_skip (i := 24) hclG rfl (by kernel_rfl) (by kernel_rfl) (by kernel_rfl) (fun _ _ _ h => h) (by rfl) ?_
 try simp only [Act.put, putS]
 refine gT 25 hclG ?_
 refine wpG_done (by kernel_rfl) (fun w3 g3 => ?_) _
 replace g3 := (Gr.drew (Gr.refl u5)).trans g3
 have ⟨Fp_3, lp_3⟩ := CellsAt.gl (Yp_p1) g3
 have ⟨Fb_3, lb_3⟩ := CellsAt.gl (Yb_p1) g3
 have z3 := (yp1).trans g3
 clear Yp_p1 Yb_p1 yp1 g3
 clear hclG KS
 clear b0e b2e hy1 hv1
 go_wp2_with fail
 go_ret
 exact ⟨rfl, z3⟩
set_option maxHeartbeats 4000000 in
theorem rMay17_low (p px sp : Option Addr) (n cap cx q cl : Nat) (xs ys : List Gi) (ls : List Int) (fo lo ke sc mo ex : Int) (iv sa : Bool) (u b0 b1 b2 : Int) (h1 : decide (ex < -u) = true) (hmb : ((n : Int) == (n : Int)) = true) (HW : Hid (IntKind.i64.wrap (-b1) = b0 ∧ IntKind.i64.wrap (b1 - 1) = b2)) (HW2 : Hid (IntKind.i64.wrap (-u) = -u ∧ IntKind.i64.wrap (20 - u) = 20 - u)) (HM : Hid (∀ W, CxsAt W (.slice p n cap) xs → Calls Tryz.prog 10 #[.slice p n cap, .agg #[.int .i64 fo, .int .i64 lo, .int .i64 ke, .int .i64 sc, .int .i64 mo, .bool iv], .bool false] W fun e w' => e = .returned (.int .i64 0) ∧ Gr W w')) (HO : CR 27 #[.int .i64 fo] (.int .i64 b1)) (HA : Hid (∀ W, CxsAt W (.slice px n cx) ys → Calls Tryz.prog 28 #[.slice px n cx, .int .i64 b0, .int .i64 b2] W fun e w' => e = .returned (.bool true) ∧ Gr W w')) (HU : Hid (∀ W, CxsAt W (.slice p n cap) xs → Calls Tryz.prog 11 #[.slice p n cap, .agg #[.int .i64 fo, .int .i64 lo, .int .i64 ke, .int .i64 sc, .int .i64 mo, .bool iv]] W fun e w' => e = .returned (.int .i64 u) ∧ Gr W w')) (w : World) (hv : CxsAt w (.slice p n cap) xs) (hy : CxsAt w (.slice px n cx) ys) (hl : NumsAt w (.slice sp q cl) ls) :
 Calls Tryz.prog 13 #[.slice p n cap, .agg #[.int .i64 fo, .int .i64 lo, .int .i64 ke, .int .i64 sc, .int .i64 mo, .bool iv], .agg #[.slice px n cx, .int .i64 ex, .bool sa, .slice sp q cl]] w fun e w' => e = .returned (.int .i64 2) ∧ Gr w w' := by
 have VX := Lib.hid hv
 have VY := Lib.hid hy
 have VL := Lib.hid hl
 clear hv hy hl
 go_enter Tryz.func13, Tryz.ntmps13
 go_wp2_with fail
 obtain ⟨u0, hU⟩ : ∃ uu, uu = ((w.alloc (.cells #[.int .i64 fo, .int .i64 lo, .int .i64 ke, .int .i64 sc, .int .i64 mo, .bool iv] 24)).alloc (.cells #[.slice px n cx, .int .i64 ex, .bool sa, .slice sp q cl] 27)) := ⟨_, rfl⟩
 have ⟨gu, R0, R1⟩ := lay2 hU
 rw [← hU]
 clear hU
 have lp := R0.lt
 have lb := R1.lt
 obtain ⟨cp0, cp1, cp2, cp3, cp4, cp5⟩ := R0.t6
 go_wp2_with fail
 clear cp0 cp1 cp2 cp3 cp4 cp5
 refine (HM.out _ (VX.out.gr gu)).mono ?_
 rintro e w1 ⟨rfl, g1⟩
 have ⟨Fp_1, lp_1⟩ := CellsAt.gl (R0) g1
 have ⟨Fb_1, lb_1⟩ := CellsAt.gl (R1) g1
 have z1 := (gu).trans g1
 clear R0 R1 gu g1
 obtain ⟨cb0, cb1, cb2, cb3⟩ := Fb_1.t4
 obtain ⟨cp0, cp1, cp2, cp3, cp4, cp5⟩ := Fp_1.t6
 go_wp2_with fail
 clear cb0 cb1 cb2 cb3 cp0 cp1 cp2 cp3 cp4 cp5
 refine (HO.out _).mono ?_
 rintro e w2 ⟨rfl, g2⟩
 have ⟨Fp_2, lp_2⟩ := CellsAt.gl (Fp_1) g2
 have ⟨Fb_2, lb_2⟩ := CellsAt.gl (Fb_1) g2
 have z2 := (z1).trans g2
 clear Fp_1 Fb_1 z1 g2
 go_wp2_with fail
 obtain ⟨u5, hqp1⟩ : ∃ zz, zz = w2 := ⟨_, rfl⟩
 have Yp_p1 : CellsAt u5 (w.heap.size) 24 #[.int .i64 fo, .int .i64 lo, .int .i64 ke, .int .i64 sc, .int .i64 mo, .bool iv] := by rw [hqp1]; first | exact Fp_2 | simpa using Fp_2
 have Yb_p1 : CellsAt u5 (w.heap.size + 1) 27 #[.slice px n cx, .int .i64 ex, .bool sa, .slice sp q cl] := by rw [hqp1]; first | exact Fb_2 | simpa using Fb_2
 have yp1 : Gr w u5 := by rw [hqp1]; exact z2
 rw [← hqp1]
 clear hqp1
 have hy1 := VY.out.gr (yp1)
 have hv1 := VX.out.gr (yp1)
 obtain ⟨b0e, b2e⟩ := HW.out
 obtain ⟨w1e, w2e⟩ := HW2.out
 have KS : ∀ W, Gr u5 W → (W.cell? ⟨w.heap.size + 1, 0, none⟩ = some (.slice px n cx) ∧ W.cell? ⟨w.heap.size + 1, 1, none⟩ = some (.int .i64 ex) ∧ W.cell? ⟨w.heap.size + 1, 2, none⟩ = some (.bool sa) ∧ W.cell? ⟨w.heap.size + 1, 3, none⟩ = some (.slice sp q cl) ∧ W.cell? ⟨w.heap.size, 0, none⟩ = some (.int .i64 fo) ∧ W.cell? ⟨w.heap.size, 1, none⟩ = some (.int .i64 lo) ∧ W.cell? ⟨w.heap.size, 2, none⟩ = some (.int .i64 ke) ∧ W.cell? ⟨w.heap.size, 3, none⟩ = some (.int .i64 sc) ∧ W.cell? ⟨w.heap.size, 4, none⟩ = some (.int .i64 mo) ∧ W.cell? ⟨w.heap.size, 5, none⟩ = some (.bool iv)) := fun W hG => ⟨(CellsAt.gr Yb_p1 hG).cell 0, (CellsAt.gr Yb_p1 hG).cell 1, (CellsAt.gr Yb_p1 hG).cell 2, (CellsAt.gr Yb_p1 hG).cell 3, (CellsAt.gr Yp_p1 hG).cell 0, (CellsAt.gr Yp_p1 hG).cell 1, (CellsAt.gr Yp_p1 hG).cell 2, (CellsAt.gr Yp_p1 hG).cell 3, (CellsAt.gr Yp_p1 hG).cell 4, (CellsAt.gr Yp_p1 hG).cell 5⟩
 have hclG := gr_closed u5
 try simp only [List.append_eq, List.cons_append, List.nil_append]
 refine wp_region_grow (S := Gr u5) rfl (Gr.drew (Gr.refl _)) ?_
 refine gT 0 hclG ?_
 refine gK 1 hclG KS ?_
 refine gT 2 hclG ?_
 refine gT 3 hclG ?_
 refine gT 4 hclG ?_
 refine gT 5 hclG ?_
 refine wpG_call (i := 6) hclG rfl (by kernel_rfl) (by kernel_rfl) (by kernel_rfl) (fun _ _ _ h => h) (fun W hS => HA.out W (hy1.gr hS)) (by rfl) ?_ ?_
 ·(intro w' hSw; go_simp; try with_reducible rfl)
 try simp only [Act.put, putS]
 refine gT 7 hclG ?_
 refine gT 8 hclG ?_
 refine gT 9 hclG ?_
 refine gK 10 hclG KS ?_
 refine gT 11 hclG ?_
 refine gK 12 hclG KS ?_
 refine wpG_call (i := 13) hclG rfl (by kernel_rfl) (by kernel_rfl) (by kernel_rfl) (fun _ _ _ h => h) (fun W hS => HU.out W (hv1.gr hS)) (by rfl) ?_ ?_
 ·(intro w' hSw; go_simp; try with_reducible rfl)
 try simp only [Act.put, putS]
 refine gT 14 hclG ?_
 refine gT 15 hclG ?_
 refine gT 16 hclG ?_
 refine gT 17 hclG ?_
 refine wpG_skip (i := 18) hclG rfl (by kernel_rfl) (by kernel_rfl) (by kernel_rfl) (fun _ _ _ h => h) (by rfl) ?_
 try simp only [Act.put, putS]
 refine wpG_skip (i := 19) hclG rfl (by kernel_rfl) (by kernel_rfl) (by kernel_rfl) (fun _ _ _ h => h) (by rfl) ?_
 try simp only [Act.put, putS]
 refine wpG_skip (i := 20) hclG rfl (by kernel_rfl) (by kernel_rfl) (by kernel_rfl) (fun _ _ _ h => h) (by rfl) ?_
 try simp only [Act.put, putS]
 refine wpG_skip (i := 21) hclG rfl (by kernel_rfl) (by kernel_rfl) (by kernel_rfl) (fun _ _ _ h => h) (by rfl) ?_
 try simp only [Act.put, putS]
 refine wpG_skip (i := 22) hclG rfl (by kernel_rfl) (by kernel_rfl) (by kernel_rfl) (fun _ _ _ h => h) (by rfl) ?_
 try simp only [Act.put, putS]
 refine wpG_skip (i := 23) hclG rfl (by kernel_rfl) (by kernel_rfl) (by kernel_rfl) (fun _ _ _ h => h) (by rfl) ?_
 try simp only [Act.put, putS]
 refine wpG_skip (i := 24) hclG rfl (by kernel_rfl) (by kernel_rfl) (by kernel_rfl) (fun _ _ _ h => h) (by rfl) ?_
 try simp only [Act.put, putS]
 refine gT 25 hclG ?_
 refine wpG_done (by kernel_rfl) (fun w3 g3 => ?_) _
 replace g3 := (Gr.drew (Gr.refl u5)).trans g3
 have ⟨Fp_3, lp_3⟩ := CellsAt.gl (Yp_p1) g3
 have ⟨Fb_3, lb_3⟩ := CellsAt.gl (Yb_p1) g3
 have z3 := (yp1).trans g3
 clear Yp_p1 Yb_p1 yp1 g3
 clear hclG KS
 clear b0e b2e hy1 hv1 w1e w2e
 go_wp2_with fail
 go_ret
 exact ⟨rfl, z3⟩
set_option maxHeartbeats 4000000 in
theorem rMay17_high (p px sp : Option Addr) (n cap cx q cl : Nat) (xs ys : List Gi) (ls : List Int) (fo lo ke sc mo ex : Int) (iv sa : Bool) (u b0 b1 b2 : Int) (h1 : decide (ex < -u) = false) (h2 : decide (20 - u < ex) = true) (hmb : ((n : Int) == (n : Int)) = true) (HW : Hid (IntKind.i64.wrap (-b1) = b0 ∧ IntKind.i64.wrap (b1 - 1) = b2)) (HW2 : Hid (IntKind.i64.wrap (-u) = -u ∧ IntKind.i64.wrap (20 - u) = 20 - u)) (HM : Hid (∀ W, CxsAt W (.slice p n cap) xs → Calls Tryz.prog 10 #[.slice p n cap, .agg #[.int .i64 fo, .int .i64 lo, .int .i64 ke, .int .i64 sc, .int .i64 mo, .bool iv], .bool false] W fun e w' => e = .returned (.int .i64 0) ∧ Gr W w')) (HO : CR 27 #[.int .i64 fo] (.int .i64 b1)) (HA : Hid (∀ W, CxsAt W (.slice px n cx) ys → Calls Tryz.prog 28 #[.slice px n cx, .int .i64 b0, .int .i64 b2] W fun e w' => e = .returned (.bool true) ∧ Gr W w')) (HU : Hid (∀ W, CxsAt W (.slice p n cap) xs → Calls Tryz.prog 11 #[.slice p n cap, .agg #[.int .i64 fo, .int .i64 lo, .int .i64 ke, .int .i64 sc, .int .i64 mo, .bool iv]] W fun e w' => e = .returned (.int .i64 u) ∧ Gr W w')) (w : World) (hv : CxsAt w (.slice p n cap) xs) (hy : CxsAt w (.slice px n cx) ys) (hl : NumsAt w (.slice sp q cl) ls) :
 Calls Tryz.prog 13 #[.slice p n cap, .agg #[.int .i64 fo, .int .i64 lo, .int .i64 ke, .int .i64 sc, .int .i64 mo, .bool iv], .agg #[.slice px n cx, .int .i64 ex, .bool sa, .slice sp q cl]] w fun e w' => e = .returned (.int .i64 2) ∧ Gr w w' := by
 have VX := Lib.hid hv
 have VY := Lib.hid hy
 have VL := Lib.hid hl
 clear hv hy hl
 go_enter Tryz.func13, Tryz.ntmps13
 go_wp2_with fail
 obtain ⟨u0, hU⟩ : ∃ uu, uu = ((w.alloc (.cells #[.int .i64 fo, .int .i64 lo, .int .i64 ke, .int .i64 sc, .int .i64 mo, .bool iv] 24)).alloc (.cells #[.slice px n cx, .int .i64 ex, .bool sa, .slice sp q cl] 27)) := ⟨_, rfl⟩
 have ⟨gu, R0, R1⟩ := lay2 hU
 rw [← hU]
 clear hU
 have lp := R0.lt
 have lb := R1.lt
 obtain ⟨cp0, cp1, cp2, cp3, cp4, cp5⟩ := R0.t6
 go_wp2_with fail
 clear cp0 cp1 cp2 cp3 cp4 cp5
 refine (HM.out _ (VX.out.gr gu)).mono ?_
 rintro e w1 ⟨rfl, g1⟩
 have ⟨Fp_1, lp_1⟩ := CellsAt.gl (R0) g1
 have ⟨Fb_1, lb_1⟩ := CellsAt.gl (R1) g1
 have z1 := (gu).trans g1
 clear R0 R1 gu g1
 obtain ⟨cb0, cb1, cb2, cb3⟩ := Fb_1.t4
 obtain ⟨cp0, cp1, cp2, cp3, cp4, cp5⟩ := Fp_1.t6
 go_wp2_with fail
 clear cb0 cb1 cb2 cb3 cp0 cp1 cp2 cp3 cp4 cp5
 refine (HO.out _).mono ?_
 rintro e w2 ⟨rfl, g2⟩
 have ⟨Fp_2, lp_2⟩ := CellsAt.gl (Fp_1) g2
 have ⟨Fb_2, lb_2⟩ := CellsAt.gl (Fb_1) g2
 have z2 := (z1).trans g2
 clear Fp_1 Fb_1 z1 g2
 go_wp2_with fail
 obtain ⟨u5, hqp1⟩ : ∃ zz, zz = w2 := ⟨_, rfl⟩
 have Yp_p1 : CellsAt u5 (w.heap.size) 24 #[.int .i64 fo, .int .i64 lo, .int .i64 ke, .int .i64 sc, .int .i64 mo, .bool iv] := by rw [hqp1]; first | exact Fp_2 | simpa using Fp_2
 have Yb_p1 : CellsAt u5 (w.heap.size + 1) 27 #[.slice px n cx, .int .i64 ex, .bool sa, .slice sp q cl] := by rw [hqp1]; first | exact Fb_2 | simpa using Fb_2
 have yp1 : Gr w u5 := by rw [hqp1]; exact z2
 rw [← hqp1]
 clear hqp1
 have hy1 := VY.out.gr (yp1)
 have hv1 := VX.out.gr (yp1)
 obtain ⟨b0e, b2e⟩ := HW.out
 obtain ⟨w1e, w2e⟩ := HW2.out
 have KS : ∀ W, Gr u5 W → (W.cell? ⟨w.heap.size + 1, 0, none⟩ = some (.slice px n cx) ∧ W.cell? ⟨w.heap.size + 1, 1, none⟩ = some (.int .i64 ex) ∧ W.cell? ⟨w.heap.size + 1, 2, none⟩ = some (.bool sa) ∧ W.cell? ⟨w.heap.size + 1, 3, none⟩ = some (.slice sp q cl) ∧ W.cell? ⟨w.heap.size, 0, none⟩ = some (.int .i64 fo) ∧ W.cell? ⟨w.heap.size, 1, none⟩ = some (.int .i64 lo) ∧ W.cell? ⟨w.heap.size, 2, none⟩ = some (.int .i64 ke) ∧ W.cell? ⟨w.heap.size, 3, none⟩ = some (.int .i64 sc) ∧ W.cell? ⟨w.heap.size, 4, none⟩ = some (.int .i64 mo) ∧ W.cell? ⟨w.heap.size, 5, none⟩ = some (.bool iv)) := fun W hG => ⟨(CellsAt.gr Yb_p1 hG).cell 0, (CellsAt.gr Yb_p1 hG).cell 1, (CellsAt.gr Yb_p1 hG).cell 2, (CellsAt.gr Yb_p1 hG).cell 3, (CellsAt.gr Yp_p1 hG).cell 0, (CellsAt.gr Yp_p1 hG).cell 1, (CellsAt.gr Yp_p1 hG).cell 2, (CellsAt.gr Yp_p1 hG).cell 3, (CellsAt.gr Yp_p1 hG).cell 4, (CellsAt.gr Yp_p1 hG).cell 5⟩
 have hclG := gr_closed u5
 try simp only [List.append_eq, List.cons_append, List.nil_append]
 refine wp_region_grow (S := Gr u5) rfl (Gr.drew (Gr.refl _)) ?_
 refine gT 0 hclG ?_
 refine gK 1 hclG KS ?_
 refine gT 2 hclG ?_
 refine gT 3 hclG ?_
 refine gT 4 hclG ?_
 refine gT 5 hclG ?_
 refine wpG_call (i := 6) hclG rfl (by kernel_rfl) (by kernel_rfl) (by kernel_rfl) (fun _ _ _ h => h) (fun W hS => HA.out W (hy1.gr hS)) (by rfl) ?_ ?_
 ·(intro w' hSw; go_simp; try with_reducible rfl)
 try simp only [Act.put, putS]
 refine gT 7 hclG ?_
 refine gT 8 hclG ?_
 refine gT 9 hclG ?_
 refine gK 10 hclG KS ?_
 refine gT 11 hclG ?_
 refine gK 12 hclG KS ?_
 refine wpG_call (i := 13) hclG rfl (by kernel_rfl) (by kernel_rfl) (by kernel_rfl) (fun _ _ _ h => h) (fun W hS => HU.out W (hv1.gr hS)) (by rfl) ?_ ?_
 ·(intro w' hSw; go_simp; try with_reducible rfl)
 try simp only [Act.put, putS]
 refine gT 14 hclG ?_
 refine gT 15 hclG ?_
 refine gT 16 hclG ?_
 refine gT 17 hclG ?_
 refine gT 18 hclG ?_
 refine gK 19 hclG KS ?_
 refine gT 20 hclG ?_
 refine gK 21 hclG KS ?_
 refine wpG_call (i := 22) hclG rfl (by kernel_rfl) (by kernel_rfl) (by kernel_rfl) (fun _ _ _ h => h) (fun W hS => HU.out W (hv1.gr hS)) (by rfl) ?_ ?_
 ·(intro w' hSw; go_simp; try with_reducible rfl)
 try simp only [Act.put, putS]
 refine gT 23 hclG ?_
 refine gT 24 hclG ?_
 refine gT 25 hclG ?_
 refine wpG_done (by kernel_rfl) (fun w3 g3 => ?_) _
 replace g3 := (Gr.drew (Gr.refl u5)).trans g3
 have ⟨Fp_3, lp_3⟩ := CellsAt.gl (Yp_p1) g3
 have ⟨Fb_3, lb_3⟩ := CellsAt.gl (Yb_p1) g3
 have z3 := (yp1).trans g3
 clear Yp_p1 Yb_p1 yp1 g3
 clear hclG KS
 clear b0e b2e hy1 hv1 w1e w2e
 go_wp2_with fail
 go_ret
 exact ⟨rfl, z3⟩
set_option maxHeartbeats 4000000 in
theorem rMay17_ok (p px sp : Option Addr) (n cap cx q cl : Nat) (xs ys : List Gi) (ls : List Int) (fo lo ke sc mo ex : Int) (iv sa : Bool) (u b0 b1 b2 : Int) (r : Bool) (h1 : decide (ex < -u) = false) (h2 : decide (20 - u < ex) = false) (hmb : ((n : Int) == (n : Int)) = true) (HW : Hid (IntKind.i64.wrap (-b1) = b0 ∧ IntKind.i64.wrap (b1 - 1) = b2)) (HW2 : Hid (IntKind.i64.wrap (-u) = -u ∧ IntKind.i64.wrap (20 - u) = 20 - u)) (HM : Hid (∀ W, CxsAt W (.slice p n cap) xs → Calls Tryz.prog 10 #[.slice p n cap, .agg #[.int .i64 fo, .int .i64 lo, .int .i64 ke, .int .i64 sc, .int .i64 mo, .bool iv], .bool false] W fun e w' => e = .returned (.int .i64 0) ∧ Gr W w')) (HO : CR 27 #[.int .i64 fo] (.int .i64 b1)) (HA : Hid (∀ W, CxsAt W (.slice px n cx) ys → Calls Tryz.prog 28 #[.slice px n cx, .int .i64 b0, .int .i64 b2] W fun e w' => e = .returned (.bool true) ∧ Gr W w')) (HU : Hid (∀ W, CxsAt W (.slice p n cap) xs → Calls Tryz.prog 11 #[.slice p n cap, .agg #[.int .i64 fo, .int .i64 lo, .int .i64 ke, .int .i64 sc, .int .i64 mo, .bool iv]] W fun e w' => e = .returned (.int .i64 u) ∧ Gr W w')) (HH : Hid (∀ W, NumsAt W (.slice sp q cl) ls → Calls Tryz.prog 31 #[.agg #[.int .i64 fo, .int .i64 lo, .int .i64 ke, .int .i64 sc, .int .i64 mo, .bool iv], .slice sp q cl] W fun e w' => e = .returned (.bool r) ∧ Gr W w')) (w : World) (hv : CxsAt w (.slice p n cap) xs) (hy : CxsAt w (.slice px n cx) ys) (hl : NumsAt w (.slice sp q cl) ls) :
 Calls Tryz.prog 13 #[.slice p n cap, .agg #[.int .i64 fo, .int .i64 lo, .int .i64 ke, .int .i64 sc, .int .i64 mo, .bool iv], .agg #[.slice px n cx, .int .i64 ex, .bool sa, .slice sp q cl]] w fun e w' => e = .returned (.int .i64 (if r = true then 0 else 1)) ∧ Gr w w' := by
 have VX := Lib.hid hv
 have VY := Lib.hid hy
 have VL := Lib.hid hl
 clear hv hy hl
 go_enter Tryz.func13, Tryz.ntmps13
 go_wp2_with fail
 obtain ⟨u0, hU⟩ : ∃ uu, uu = ((w.alloc (.cells #[.int .i64 fo, .int .i64 lo, .int .i64 ke, .int .i64 sc, .int .i64 mo, .bool iv] 24)).alloc (.cells #[.slice px n cx, .int .i64 ex, .bool sa, .slice sp q cl] 27)) := ⟨_, rfl⟩
 have ⟨gu, R0, R1⟩ := lay2 hU
 rw [← hU]
 clear hU
 have lp := R0.lt
 have lb := R1.lt
 obtain ⟨cp0, cp1, cp2, cp3, cp4, cp5⟩ := R0.t6
 go_wp2_with fail
 clear cp0 cp1 cp2 cp3 cp4 cp5
 refine (HM.out _ (VX.out.gr gu)).mono ?_
 rintro e w1 ⟨rfl, g1⟩
 have ⟨Fp_1, lp_1⟩ := CellsAt.gl (R0) g1
 have ⟨Fb_1, lb_1⟩ := CellsAt.gl (R1) g1
 have z1 := (gu).trans g1
 clear R0 R1 gu g1
 obtain ⟨cb0, cb1, cb2, cb3⟩ := Fb_1.t4
 obtain ⟨cp0, cp1, cp2, cp3, cp4, cp5⟩ := Fp_1.t6
 go_wp2_with fail
 clear cb0 cb1 cb2 cb3 cp0 cp1 cp2 cp3 cp4 cp5
 refine (HO.out _).mono ?_
 rintro e w2 ⟨rfl, g2⟩
 have ⟨Fp_2, lp_2⟩ := CellsAt.gl (Fp_1) g2
 have ⟨Fb_2, lb_2⟩ := CellsAt.gl (Fb_1) g2
 have z2 := (z1).trans g2
 clear Fp_1 Fb_1 z1 g2
 go_wp2_with fail
 obtain ⟨u5, hqp1⟩ : ∃ zz, zz = w2 := ⟨_, rfl⟩
 have Yp_p1 : CellsAt u5 (w.heap.size) 24 #[.int .i64 fo, .int .i64 lo, .int .i64 ke, .int .i64 sc, .int .i64 mo, .bool iv] := by rw [hqp1]; first | exact Fp_2 | simpa using Fp_2
 have Yb_p1 : CellsAt u5 (w.heap.size + 1) 27 #[.slice px n cx, .int .i64 ex, .bool sa, .slice sp q cl] := by rw [hqp1]; first | exact Fb_2 | simpa using Fb_2
 have yp1 : Gr w u5 := by rw [hqp1]; exact z2
 rw [← hqp1]
 clear hqp1
 have hy1 := VY.out.gr (yp1)
 have hv1 := VX.out.gr (yp1)
 obtain ⟨b0e, b2e⟩ := HW.out
 obtain ⟨w1e, w2e⟩ := HW2.out
 have KS : ∀ W, Gr u5 W → (W.cell? ⟨w.heap.size + 1, 0, none⟩ = some (.slice px n cx) ∧ W.cell? ⟨w.heap.size + 1, 1, none⟩ = some (.int .i64 ex) ∧ W.cell? ⟨w.heap.size + 1, 2, none⟩ = some (.bool sa) ∧ W.cell? ⟨w.heap.size + 1, 3, none⟩ = some (.slice sp q cl) ∧ W.cell? ⟨w.heap.size, 0, none⟩ = some (.int .i64 fo) ∧ W.cell? ⟨w.heap.size, 1, none⟩ = some (.int .i64 lo) ∧ W.cell? ⟨w.heap.size, 2, none⟩ = some (.int .i64 ke) ∧ W.cell? ⟨w.heap.size, 3, none⟩ = some (.int .i64 sc) ∧ W.cell? ⟨w.heap.size, 4, none⟩ = some (.int .i64 mo) ∧ W.cell? ⟨w.heap.size, 5, none⟩ = some (.bool iv)) := fun W hG => ⟨(CellsAt.gr Yb_p1 hG).cell 0, (CellsAt.gr Yb_p1 hG).cell 1, (CellsAt.gr Yb_p1 hG).cell 2, (CellsAt.gr Yb_p1 hG).cell 3, (CellsAt.gr Yp_p1 hG).cell 0, (CellsAt.gr Yp_p1 hG).cell 1, (CellsAt.gr Yp_p1 hG).cell 2, (CellsAt.gr Yp_p1 hG).cell 3, (CellsAt.gr Yp_p1 hG).cell 4, (CellsAt.gr Yp_p1 hG).cell 5⟩
 have hclG := gr_closed u5
 try simp only [List.append_eq, List.cons_append, List.nil_append]
 refine wp_region_grow (S := Gr u5) rfl (Gr.drew (Gr.refl _)) ?_
 refine gT 0 hclG ?_
 refine gK 1 hclG KS ?_
 refine gT 2 hclG ?_
 refine gT 3 hclG ?_
 refine gT 4 hclG ?_
 refine gT 5 hclG ?_
 refine wpG_call (i := 6) hclG rfl (by kernel_rfl) (by kernel_rfl) (by kernel_rfl) (fun _ _ _ h => h) (fun W hS => HA.out W (hy1.gr hS)) (by rfl) ?_ ?_
 ·(intro w' hSw; go_simp; try with_reducible rfl)
 try simp only [Act.put, putS]
 refine gT 7 hclG ?_
 refine gT 8 hclG ?_
 refine gT 9 hclG ?_
 refine gK 10 hclG KS ?_
 refine gT 11 hclG ?_
 refine gK 12 hclG KS ?_
 refine wpG_call (i := 13) hclG rfl (by kernel_rfl) (by kernel_rfl) (by kernel_rfl) (fun _ _ _ h => h) (fun W hS => HU.out W (hv1.gr hS)) (by rfl) ?_ ?_
 ·(intro w' hSw; go_simp; try with_reducible rfl)
 try simp only [Act.put, putS]
 refine gT 14 hclG ?_
 refine gT 15 hclG ?_
 refine gT 16 hclG ?_
 refine gT 17 hclG ?_
 refine gT 18 hclG ?_
 refine gK 19 hclG KS ?_
 refine gT 20 hclG ?_
 refine gK 21 hclG KS ?_
 refine wpG_call (i := 22) hclG rfl (by kernel_rfl) (by kernel_rfl) (by kernel_rfl) (fun _ _ _ h => h) (fun W hS => HU.out W (hv1.gr hS)) (by rfl) ?_ ?_
 ·(intro w' hSw; go_simp; try with_reducible rfl)
 try simp only [Act.put, putS]
 refine gT 23 hclG ?_
 refine gT 24 hclG ?_
 refine gT 25 hclG ?_
 refine wpG_done (by kernel_rfl) (fun w3 g3 => ?_) _
 replace g3 := (Gr.drew (Gr.refl u5)).trans g3
 have ⟨Fp_3, lp_3⟩ := CellsAt.gl (Yp_p1) g3
 have ⟨Fb_3, lb_3⟩ := CellsAt.gl (Yb_p1) g3
 have z3 := (yp1).trans g3
 clear Yp_p1 Yb_p1 yp1 g3
 clear hclG KS
 clear b0e b2e hy1 hv1 w1e w2e
 obtain ⟨cb0, cb1, cb2, cb3⟩ := Fb_3.t4
 obtain ⟨cp0, cp1, cp2, cp3, cp4, cp5⟩ := Fp_3.t6
 go_wp2_with fail
 clear cb0 cb1 cb2 cb3 cp0 cp1 cp2 cp3 cp4 cp5
 refine (HH.out _ (VL.out.gr (z3))).mono ?_
 rintro e w4 ⟨rfl, g4⟩
 have ⟨Fp_4, lp_4⟩ := CellsAt.gl (Fp_3) g4
 have ⟨Fb_4, lb_4⟩ := CellsAt.gl (Fb_3) g4
 have z4 := (z3).trans g4
 clear Fp_3 Fb_3 z3 g4
 cases r
 all_goals
  go_wp2_with fail
  go_ret
  exact ⟨rfl, z4⟩
set_option maxHeartbeats 4000000 in
theorem rBound17_of (p px sp : Option Addr) (n cap m cx q cl : Nat) (xs ys : List Gi) (ls : List Int) (fo lo ke sc mo ex : Int) (iv sa : Bool) (u l a c K d s r : Int) (zs : List Gi) (HE : Hid (IntKind.i64.wrap (ex + u) = a ∧ IntKind.i64.wrap (a + 2) = c ∧ IntKind.i64.wrap (l * K) = d ∧ IntKind.i64.wrap (d + s) = r))
 (HF : Hid (∀ W, NumsAt W (.slice sp q cl) ls → Calls Tryz.prog 36 #[.agg #[.int .i64 fo, .int .i64 lo, .int .i64 ke, .int .i64 sc, .int .i64 mo, .bool iv], .slice sp q cl] W fun e w' => e = .returned (.int .i64 l) ∧ Gr W w')) (HU : Hid (∀ W, CxsAt W (.slice p n cap) xs → Calls Tryz.prog 11 #[.slice p n cap, .agg #[.int .i64 fo, .int .i64 lo, .int .i64 ke, .int .i64 sc, .int .i64 mo, .bool iv]] W fun e w' => e = .returned (.int .i64 u) ∧ Gr W w')) (HP : CR 26 #[.int .i64 c] (.int .i64 K)) (HT : Hid (∀ W, CxsAt W (.slice p n cap) xs → Calls Tryz.prog 33 #[.slice p n cap, .agg #[.int .i64 fo, .int .i64 lo, .int .i64 ke, .int .i64 sc, .int .i64 mo, .bool iv]] W fun e w' => ∃ v, e = .returned v ∧ CxsAt w' v zs ∧ Gr W w')) (HS : Hid (∀ v W, CxsAt W v zs → Calls Tryz.prog 37 #[v] W fun e w' => e = .returned (.int .i64 s) ∧ Gr W w')) (w : World) (hv : CxsAt w (.slice p n cap) xs) (hy : CxsAt w (.slice px m cx) ys) (hl : NumsAt w (.slice sp q cl) ls) :
 Calls Tryz.prog 15 #[.slice p n cap, .agg #[.int .i64 fo, .int .i64 lo, .int .i64 ke, .int .i64 sc, .int .i64 mo, .bool iv], .agg #[.slice px m cx, .int .i64 ex, .bool sa, .slice sp q cl]] w fun e w' => e = .returned (.int .i64 r) ∧ Gr w w' := by
 have VX := Lib.hid hv
 have VY := Lib.hid hy
 have VL := Lib.hid hl
 clear hv hy hl
 go_enter Tryz.func15, Tryz.ntmps15
 go_wp2_with fail
 obtain ⟨u0, hU⟩ : ∃ uu, uu = ((w.alloc (.cells #[.int .i64 fo, .int .i64 lo, .int .i64 ke, .int .i64 sc, .int .i64 mo, .bool iv] 24)).alloc (.cells #[.slice px m cx, .int .i64 ex, .bool sa, .slice sp q cl] 27)) := ⟨_, rfl⟩
 have ⟨gu, R0, R1⟩ := lay2 hU
 rw [← hU]
 clear hU
 have lp := R0.lt
 have lb := R1.lt
 have hv1 := VX.out.gr gu
 have hl1 := VL.out.gr gu
 obtain ⟨e1, e2, e3, e4⟩ := HE.out
 have KS : ∀ W, Gr u0 W → (W.cell? ⟨w.heap.size, 0, none⟩ = some (.int .i64 fo) ∧ W.cell? ⟨w.heap.size, 1, none⟩ = some (.int .i64 lo) ∧ W.cell? ⟨w.heap.size, 2, none⟩ = some (.int .i64 ke) ∧ W.cell? ⟨w.heap.size, 3, none⟩ = some (.int .i64 sc) ∧ W.cell? ⟨w.heap.size, 4, none⟩ = some (.int .i64 mo) ∧ W.cell? ⟨w.heap.size, 5, none⟩ = some (.bool iv) ∧ W.cell? ⟨w.heap.size + 1, 0, none⟩ = some (.slice px m cx) ∧ W.cell? ⟨w.heap.size + 1, 1, none⟩ = some (.int .i64 ex) ∧ W.cell? ⟨w.heap.size + 1, 2, none⟩ = some (.bool sa) ∧ W.cell? ⟨w.heap.size + 1, 3, none⟩ = some (.slice sp q cl)) := fun W hG => ⟨(CellsAt.gr R0 hG).cell 0, (CellsAt.gr R0 hG).cell 1, (CellsAt.gr R0 hG).cell 2, (CellsAt.gr R0 hG).cell 3, (CellsAt.gr R0 hG).cell 4, (CellsAt.gr R0 hG).cell 5, (CellsAt.gr R1 hG).cell 0, (CellsAt.gr R1 hG).cell 1, (CellsAt.gr R1 hG).cell 2, (CellsAt.gr R1 hG).cell 3⟩
 have hclG := gr_closed u0
 try simp only [List.append_eq, List.cons_append, List.nil_append]
 refine wp_region_grow (S := Gr u0) rfl (Gr.drew (Gr.refl _)) ?_
 refine gK 0 hclG KS ?_
 refine gT 1 hclG ?_
 refine gK 2 hclG KS ?_
 refine wpG_call (i := 3) hclG rfl (by kernel_rfl) (by kernel_rfl) (by kernel_rfl) (fun _ _ _ h => h) (fun W hS => HF.out W (hl1.gr hS)) (by rfl) ?_ ?_
 ·(intro w' hSw; go_simp; try with_reducible rfl)
 try simp only [Act.put, putS]
 refine gT 4 hclG ?_
 refine gK 5 hclG KS ?_
 refine gT 6 hclG ?_
 refine gK 7 hclG KS ?_
 refine wpG_call (i := 8) hclG rfl (by kernel_rfl) (by kernel_rfl) (by kernel_rfl) (fun _ _ _ h => h) (fun W hS => HU.out W (hv1.gr hS)) (by rfl) ?_ ?_
 ·(intro w' hSw; go_simp; try with_reducible rfl)
 try simp only [Act.put, putS]
 refine gT 9 hclG ?_
 refine gT 10 hclG ?_
 refine wpG_call (i := 11) hclG rfl (by kernel_rfl) (by kernel_rfl) (by kernel_rfl) (fun _ _ _ h => h) (fun W _ => HP.out W) (by rfl) ?_ ?_
 ·(intro w' hSw; go_simp; try with_reducible rfl)
 try simp only [Act.put, putS]
 refine gT 12 hclG ?_
 refine gT 13 hclG ?_
 refine gK 14 hclG KS ?_
 refine wpG_ready (rs := [15]) (by kernel_rfl) (by simp) (fun w1 g1 s1 => ?_)
 refine AllG.cons rfl (fun K hK => ?_) AllG.nil
 replace g1 := (Gr.drew (Gr.refl u0)).trans g1
 have ⟨Fp_1, lp_1⟩ := CellsAt.gl (R0) g1
 have ⟨Fb_1, lb_1⟩ := CellsAt.gl (R1) g1
 have z1 := (gu).trans g1
 clear R0 R1 gu g1
 go_simp
 refine (HT.out w1 (VX.out.gr (z1))).mono ?_
 rintro e w2 ⟨vz, rfl, hz, g2⟩
 have t2 := Gr.trans s1 g2
 have ⟨Fp_2, lp_2⟩ := CellsAt.gl (Fp_1) g2
 have ⟨Fb_2, lb_2⟩ := CellsAt.gl (Fb_1) g2
 have z2 := (z1).trans g2
 clear Fp_1 Fb_1 z1 g2
 refine hK.out _ _ ?_ ?_
 ·exact t2
 clear hK K
 try simp only [Act.put, putS]
 refine wpG_ready (rs := [16]) (by kernel_rfl) (by simp) (fun w3 g3 s3 => ?_)
 refine AllG.cons rfl (fun K hK => ?_) AllG.nil
 have ⟨Fp_3, lp_3⟩ := CellsAt.gl (Fp_2) g3
 have ⟨Fb_3, lb_3⟩ := CellsAt.gl (Fb_2) g3
 have Kz_3 := CxsAt.gr (hz) g3
 have z3 := (z2).trans g3
 clear Fp_2 Fb_2 z2 g3
 go_simp
 refine (HS.out _ w3 Kz_3).mono ?_
 rintro e w4 ⟨rfl, g4⟩
 have t4 := Gr.trans s3 g4
 have ⟨Fp_4, lp_4⟩ := CellsAt.gl (Fp_3) g4
 have ⟨Fb_4, lb_4⟩ := CellsAt.gl (Fb_3) g4
 have Kz_4 := CxsAt.gr (Kz_3) g4
 have z4 := (z3).trans g4
 clear Fp_3 Fb_3 z3 g4
 refine hK.out _ _ ?_ ?_
 ·exact t4
 clear hK K
 try simp only [Act.put, putS]
 refine gT 17 hclG ?_
 refine gT 18 hclG ?_
 refine wpG_done (by kernel_rfl) (fun w5 g5 => ?_) _
 have ⟨Fp_5, lp_5⟩ := CellsAt.gl (Fp_4) g5
 have ⟨Fb_5, lb_5⟩ := CellsAt.gl (Fb_4) g5
 have Kz_5 := CxsAt.gr (Kz_4) g5
 have z5 := (z4).trans g5
 clear Fp_4 Fb_4 z4 g5
 clear hclG KS
 go_wp2_with fail
 go_ret
 exact ⟨rfl, z5⟩
set_option maxHeartbeats 8000000 in
theorem rFar17_of (p px sp : Option Addr) (n cap m cx q cl : Nat) (xs ys : List Gi) (ls : List Int) (fo lo ke sc mo ex : Int) (iv sa : Bool) (hm0 : 0 < m) (hm64 : m ≤ 64) (zs bs : List Gi) (hyn : ys.length = m) (hbn : bs.length = m) (u a c K : Int) (A : Nat → Gi) (D E F M : Nat → Int) (hF0 : F 0 = 0) (HE : Hid (IntKind.i64.wrap (ex + u) = a ∧ IntKind.i64.wrap (a + 8) = c))
 (HU : Hid (∀ W, CxsAt W (.slice p n cap) xs → Calls Tryz.prog 11 #[.slice p n cap, .agg #[.int .i64 fo, .int .i64 lo, .int .i64 ke, .int .i64 sc, .int .i64 mo, .bool iv]] W fun e w' => e = .returned (.int .i64 u) ∧ Gr W w')) (HP : CR 26 #[.int .i64 c] (.int .i64 K)) (HT : Hid (∀ W, CxsAt W (.slice p n cap) xs → Calls Tryz.prog 33 #[.slice p n cap, .agg #[.int .i64 fo, .int .i64 lo, .int .i64 ke, .int .i64 sc, .int .i64 mo, .bool iv]] W fun e w' => ∃ v, e = .returned v ∧ CxsAt w' v zs ∧ Gr W w')) (HA : Hid (∀ v W, CxsAt W v zs → Calls Tryz.prog 32 #[v, .bool iv] W fun e w' => ∃ x, e = .returned x ∧ CxsAt w' x bs ∧ Gr W w')) (HF : Hid (∀ j (x : Gi), ys[j]? = some x → IntKind.i64.wrap (x.re * K) = (A j).re ∧ IntKind.i64.wrap (x.im * K) = (A j).im))
 (HL : Hid (∀ j (b : Gi), j < m → bs[j]? = some b → ∀ W, Calls Tryz.prog 35 #[.int .i64 (A j).re, .int .i64 b.re] W fun e w' => e = .returned (.int .i64 (D j)) ∧ Gr W w')) (HR : Hid (∀ j (b : Gi), j < m → bs[j]? = some b → ∀ W, Calls Tryz.prog 35 #[.int .i64 (A j).im, .int .i64 b.im] W fun e w' => e = .returned (.int .i64 (E j)) ∧ Gr W w')) (HM : Hid (∀ j W, Calls Tryz.prog 34 #[.int .i64 (F j), .int .i64 (D j)] W fun e w' => e = .returned (.int .i64 (M j)) ∧ Gr W w')) (HN : Hid (∀ j W, Calls Tryz.prog 34 #[.int .i64 (M j), .int .i64 (E j)] W fun e w' => e = .returned (.int .i64 (F (j + 1))) ∧ Gr W w')) (w : World) (hv : CxsAt w (.slice p n cap) xs) (hy : CxsAt w (.slice px m cx) ys) :
 Calls Tryz.prog 14 #[.slice p n cap, .agg #[.int .i64 fo, .int .i64 lo, .int .i64 ke, .int .i64 sc, .int .i64 mo, .bool iv], .agg #[.slice px m cx, .int .i64 ex, .bool sa, .slice sp q cl]] w fun e w' => e = .returned (.int .i64 (F m)) ∧ Gr w w' := by
 obtain ⟨yb, yo, yc, hsl, hlen, hyb, hyc⟩ := hy.at (by intro e; rw [e] at hyn; simp at hyn; omega)
 rw [hyn] at hsl
 cases hsl
 have HYC := Lib.hid hyc
 have HYN := Lib.hid hyn
 have HBN := Lib.hid hbn
 have HMM := Lib.hid (And.intro hm0 hm64)
 have VX := Lib.hid hv
 clear hyc hy hyn hbn hlen hv hm0 hm64
 go_enter Tryz.func14, Tryz.ntmps14
 go_wp2_with fail
 obtain ⟨u0, hU⟩ : ∃ uu, uu = ((w.alloc (.cells #[.int .i64 fo, .int .i64 lo, .int .i64 ke, .int .i64 sc, .int .i64 mo, .bool iv] 24)).alloc (.cells #[.slice (some ⟨yb, yo, none⟩) m cx, .int .i64 ex, .bool sa, .slice sp q cl] 27)) := ⟨_, rfl⟩
 have ⟨gu, R0, R1⟩ := lay2 hU
 rw [← hU]
 clear hU
 have lp := R0.lt
 have lb := R1.lt
 have hv1 := VX.out.gr gu
 obtain ⟨e1, e2⟩ := HE.out
 have KS : ∀ W, Gr u0 W → (W.cell? ⟨w.heap.size, 0, none⟩ = some (.int .i64 fo) ∧ W.cell? ⟨w.heap.size, 1, none⟩ = some (.int .i64 lo) ∧ W.cell? ⟨w.heap.size, 2, none⟩ = some (.int .i64 ke) ∧ W.cell? ⟨w.heap.size, 3, none⟩ = some (.int .i64 sc) ∧ W.cell? ⟨w.heap.size, 4, none⟩ = some (.int .i64 mo) ∧ W.cell? ⟨w.heap.size, 5, none⟩ = some (.bool iv) ∧ W.cell? ⟨w.heap.size + 1, 0, none⟩ = some (.slice (some ⟨yb, yo, none⟩) m cx) ∧ W.cell? ⟨w.heap.size + 1, 1, none⟩ = some (.int .i64 ex) ∧ W.cell? ⟨w.heap.size + 1, 2, none⟩ = some (.bool sa) ∧ W.cell? ⟨w.heap.size + 1, 3, none⟩ = some (.slice sp q cl)) := fun W hG => ⟨(CellsAt.gr R0 hG).cell 0, (CellsAt.gr R0 hG).cell 1, (CellsAt.gr R0 hG).cell 2, (CellsAt.gr R0 hG).cell 3, (CellsAt.gr R0 hG).cell 4, (CellsAt.gr R0 hG).cell 5, (CellsAt.gr R1 hG).cell 0, (CellsAt.gr R1 hG).cell 1, (CellsAt.gr R1 hG).cell 2, (CellsAt.gr R1 hG).cell 3⟩
 have hclG := gr_closed u0
 try simp only [List.append_eq, List.cons_append, List.nil_append]
 refine wp_region_grow (S := Gr u0) rfl (Gr.drew (Gr.refl _)) ?_
 refine gT 0 hclG ?_
 refine gK 1 hclG KS ?_
 refine gT 2 hclG ?_
 refine gK 3 hclG KS ?_
 refine wpG_call (i := 4) hclG rfl (by kernel_rfl) (by kernel_rfl) (by kernel_rfl) (fun _ _ _ h => h) (fun W hS => HU.out W (hv1.gr hS)) (by rfl) ?_ ?_
 ·(intro w' hSw; go_simp; try with_reducible rfl)
 try simp only [Act.put, putS]
 refine gT 5 hclG ?_
 refine gT 6 hclG ?_
 refine wpG_call (i := 7) hclG rfl (by kernel_rfl) (by kernel_rfl) (by kernel_rfl) (fun _ _ _ h => h) (fun W _ => HP.out W) (by rfl) ?_ ?_
 ·(intro w' hSw; go_simp; try with_reducible rfl)
 try simp only [Act.put, putS]
 refine gT 8 hclG ?_
 refine wpG_done (by kernel_rfl) (fun w1 g1 => ?_) _
 replace g1 := (Gr.drew (Gr.refl u0)).trans g1
 have ⟨Fp_1, lp_1⟩ := CellsAt.gl (R0) g1
 have ⟨Fb_1, lb_1⟩ := CellsAt.gl (R1) g1
 have z1 := (gu).trans g1
 clear R0 R1 gu g1
 clear hclG KS
 clear e1 e2 hv1
 go_wp2_with fail
 obtain ⟨u4, hqp1⟩ : ∃ zz, zz = w1 := ⟨_, rfl⟩
 have Yp_p1 : CellsAt u4 (w.heap.size) 24 #[.int .i64 fo, .int .i64 lo, .int .i64 ke, .int .i64 sc, .int .i64 mo, .bool iv] := by rw [hqp1]; first | exact Fp_1 | simpa using Fp_1
 have Yb_p1 : CellsAt u4 (w.heap.size + 1) 27 #[.slice (some ⟨yb, yo, none⟩) m cx, .int .i64 ex, .bool sa, .slice sp q cl] := by rw [hqp1]; first | exact Fb_1 | simpa using Fb_1
 have yp1 : Gr w u4 := by rw [hqp1]; exact z1
 rw [← hqp1]
 clear hqp1
 have KS : ∀ W, Gr u4 W → (W.cell? ⟨w.heap.size, 0, none⟩ = some (.int .i64 fo) ∧ W.cell? ⟨w.heap.size, 1, none⟩ = some (.int .i64 lo) ∧ W.cell? ⟨w.heap.size, 2, none⟩ = some (.int .i64 ke) ∧ W.cell? ⟨w.heap.size, 3, none⟩ = some (.int .i64 sc) ∧ W.cell? ⟨w.heap.size, 4, none⟩ = some (.int .i64 mo) ∧ W.cell? ⟨w.heap.size, 5, none⟩ = some (.bool iv) ∧ W.cell? ⟨w.heap.size + 1, 0, none⟩ = some (.slice (some ⟨yb, yo, none⟩) m cx) ∧ W.cell? ⟨w.heap.size + 1, 1, none⟩ = some (.int .i64 ex) ∧ W.cell? ⟨w.heap.size + 1, 2, none⟩ = some (.bool sa) ∧ W.cell? ⟨w.heap.size + 1, 3, none⟩ = some (.slice sp q cl)) := fun W hG => ⟨(CellsAt.gr Yp_p1 hG).cell 0, (CellsAt.gr Yp_p1 hG).cell 1, (CellsAt.gr Yp_p1 hG).cell 2, (CellsAt.gr Yp_p1 hG).cell 3, (CellsAt.gr Yp_p1 hG).cell 4, (CellsAt.gr Yp_p1 hG).cell 5, (CellsAt.gr Yb_p1 hG).cell 0, (CellsAt.gr Yb_p1 hG).cell 1, (CellsAt.gr Yb_p1 hG).cell 2, (CellsAt.gr Yb_p1 hG).cell 3⟩
 have hclG := gr_closed u4
 try simp only [List.append_eq, List.cons_append, List.nil_append]
 refine wp_region_grow (S := Gr u4) rfl (Gr.drew (Gr.refl _)) ?_
 refine gT 0 hclG ?_
 refine gK 1 hclG KS ?_
 refine gT 3 hclG ?_
 refine gK 4 hclG KS ?_
 refine gT 7 hclG ?_
 refine wpG_ready (rs := [2]) (by kernel_rfl) (by simp) (fun w2 g2 s2 => ?_)
 refine AllG.cons rfl (fun K hK => ?_) AllG.nil
 replace g2 := (Gr.drew (Gr.refl u4)).trans g2
 have ⟨Fp_2, lp_2⟩ := CellsAt.gl (Yp_p1) g2
 have ⟨Fb_2, lb_2⟩ := CellsAt.gl (Yb_p1) g2
 have z2 := (yp1).trans g2
 clear Yp_p1 Yb_p1 yp1 g2
 go_simp
 refine (HT.out w2 (VX.out.gr (z2))).mono ?_
 rintro e w3 ⟨vz, rfl, hz, g3⟩
 have t3 := Gr.trans s2 g3
 have ⟨Fp_3, lp_3⟩ := CellsAt.gl (Fp_2) g3
 have ⟨Fb_3, lb_3⟩ := CellsAt.gl (Fb_2) g3
 have z3 := (z2).trans g3
 clear Fp_2 Fb_2 z2 g3
 refine hK.out _ _ ?_ ?_
 ·exact t3
 clear hK K
 try simp only [Act.put, putS]
 refine wpG_ready (rs := [5]) (by kernel_rfl) (by simp) (fun w4 g4 s4 => ?_)
 refine AllG.cons rfl (fun K hK => ?_) AllG.nil
 have ⟨Fp_4, lp_4⟩ := CellsAt.gl (Fp_3) g4
 have ⟨Fb_4, lb_4⟩ := CellsAt.gl (Fb_3) g4
 have Kz_4 := CxsAt.gr (hz) g4
 have z4 := (z3).trans g4
 clear Fp_3 Fb_3 z3 g4
 go_simp
 refine (HA.out _ w4 Kz_4).mono ?_
 rintro e w5 ⟨vb, rfl, hb, g5⟩
 obtain ⟨bp, bcc, rfl⟩ := hb.len
 have t5 := Gr.trans s4 g5
 have ⟨Fp_5, lp_5⟩ := CellsAt.gl (Fp_4) g5
 have ⟨Fb_5, lb_5⟩ := CellsAt.gl (Fb_4) g5
 have Kz_5 := CxsAt.gr (Kz_4) g5
 have z5 := (z4).trans g5
 clear Fp_4 Fb_4 z4 g5
 refine hK.out _ _ ?_ ?_
 ·exact t5
 clear hK K
 try simp only [Act.put, putS]
 refine gT 6 hclG ?_
 refine wpG_done (by kernel_rfl) (fun w6 g6 => ?_) _
 have ⟨Fp_6, lp_6⟩ := CellsAt.gl (Fp_5) g6
 have ⟨Fb_6, lb_6⟩ := CellsAt.gl (Fb_5) g6
 have Kz_6 := CxsAt.gr (Kz_5) g6
 have Kb_6 := CxsAt.gr (hb) g6
 have z6 := (z5).trans g6
 clear Fp_5 Fb_5 z5 g6
 clear hclG KS
 skip
 go_wp2_with fail
 rw [HBN.out]
 obtain ⟨qb, qo, qc, hsl, hqlen, hqb, hqc⟩ := CxsAt.at Kb_6 (by intro e; have h1 := HBN.out; have h2 := HMM.out; rw [e] at h1; simp at h1; omega)
 rw [HBN.out] at hsl
 cases hsl
 have HQC := Lib.hid hqc
 clear hqc hqlen HU HP HT HA
 obtain ⟨wz, hwz⟩ : ∃ zz, zz = w6 := ⟨_, rfl⟩
 rw [← hwz] at hqb HQC
 have BZ : CellsAt wz (w.heap.size + 1) 27 #[.slice (some ⟨yb, yo, none⟩) m cx, .int .i64 ex, .bool sa, .slice sp q cl] := by rw [hwz]; exact Fb_6
 have hgz : Gr w wz := by rw [hwz]; exact z6
 rw [← hwz]
 clear hwz
 have hybz : yb < wz.heap.size := Nat.lt_of_lt_of_le hyb hgz.size
 go_loopw [8, 9, 10, 26] (fun f _ _ i wr => ∃ j : Nat, j ≤ m ∧ i = .int .i64 j ∧ f = .int .i64 (F j) ∧ CellsAt wr (w.heap.size + 1) 27 #[.slice (some ⟨yb, yo, none⟩) m cx, .int .i64 ex, .bool sa, .slice sp q cl] ∧ Gr wz wr) (fun _ _ _ i _ => m - (intOf i).toNat)
 case atStart => exact ⟨0, by omega, rfl, by rw [hF0], BZ, Gr.refl _⟩
 case round =>
  obtain ⟨j, hj, rfl, rfl, BV, hg1⟩ := hrel
  have hg := hgz.trans hg1
  clear BZ hF0
  by_cases hlt : j < m
  ·have hjI : (j : Int) < (m : Int) := by omega
   obtain ⟨x, hx⟩ := get_of_lt (xs := ys) (by rw [HYN.out]; exact hlt)
   obtain ⟨b, hb⟩ := get_of_lt (xs := bs) (by rw [HBN.out]; exact hlt)
   have h1 := (hgz.cell (p := ⟨yb, yo + j * 2, none⟩) hyb).trans (HYC.out j x hx).1
   have h2 := (hgz.cell (p := ⟨yb, yo + j * 2 + 1, none⟩) hyb).trans (HYC.out j x hx).2
   have q1 := (hg1.cell (p := ⟨qb, qo + j * 2, none⟩) hqb).trans (HQC.out j b hb).1
   have q2 := (hg1.cell (p := ⟨qb, qo + j * 2 + 1, none⟩) hqb).trans (HQC.out j b hb).2
   have hbl : qb < wr.heap.size := Nat.lt_of_lt_of_le hqb hg1.size
   have HP1 := Lib.hid (HL.out j b hlt hb)
   have HP2 := Lib.hid (HR.out j b hlt hb)
   have HM1 := Lib.hid (HM.out j)
   have HM2 := Lib.hid (HN.out j)
   have HF1 := Lib.hid (HF.out j x hx)
   obtain ⟨f1, hf1⟩ : ∃ z, F (j + 1) = z := ⟨_, rfl⟩
   rw [hf1] at HM2
   have HZ1 := Lib.hid hf1
   have hm64 := HMM.out.2
   clear hf1 hx hb HL HR HM HN HF HYC HQC HYN HBN HMM HE
   generalize F j = f0 at *
   generalize D j = d at *
   generalize E j = e at *
   generalize M j = mm at *
   generalize A j = a at *
   obtain ⟨re, im⟩ := x
   simp only at h1 h2 HF1
   have lb := CellsAt.lt BV
   go_wp2_with fail
   obtain ⟨va, hqap1⟩ : ∃ zz, zz = (wr.alloc (.cells #[.int .i64 b.re, .int .i64 b.im] 58)) := ⟨_, rfl⟩
   have Yb_ap1 : CellsAt va (w.heap.size + 1) 27 #[.slice (some ⟨yb, yo, none⟩) m cx, .int .i64 ex, .bool sa, .slice sp q cl] := by rw [hqap1]; first | exact (BV).alloc _ | simpa using (BV).alloc _
   have Ya_ap1 : CellsAt va (wr.heap.size) 58 #[.int .i64 b.re, .int .i64 b.im] := by rw [hqap1]; first | exact CellsAt.new wr 58 #[.int .i64 b.re, .int .i64 b.im] | simpa using CellsAt.new wr 58 #[.int .i64 b.re, .int .i64 b.im]
   have yap1 : Gr wz va := by rw [hqap1]; exact (hg1).alloc _ _
   rw [← hqap1]
   clear hqap1
   have hyv : yb < va.heap.size := Nat.lt_of_lt_of_le hybz (yap1).size
   obtain ⟨f1, f2⟩ := HF1.out
   have KS : ∀ W, Gr va W → (W.cell? ⟨wr.heap.size, 0, none⟩ = some (.int .i64 b.re) ∧ W.cell? ⟨wr.heap.size, 1, none⟩ = some (.int .i64 b.im) ∧ W.cell? ⟨w.heap.size + 1, 0, none⟩ = some (.slice (some ⟨yb, yo, none⟩) m cx) ∧ W.cell? ⟨w.heap.size + 1, 1, none⟩ = some (.int .i64 ex) ∧ W.cell? ⟨w.heap.size + 1, 2, none⟩ = some (.bool sa) ∧ W.cell? ⟨w.heap.size + 1, 3, none⟩ = some (.slice sp q cl) ∧ W.cell? ⟨yb, yo + j * 2, none⟩ = some (.int .i64 re)) := fun W hG => ⟨(CellsAt.gr Ya_ap1 hG).cell 0, (CellsAt.gr Ya_ap1 hG).cell 1, (CellsAt.gr Yb_ap1 hG).cell 0, (CellsAt.gr Yb_ap1 hG).cell 1, (CellsAt.gr Yb_ap1 hG).cell 2, (CellsAt.gr Yb_ap1 hG).cell 3, ((hG.cell (p := ⟨yb, yo + j * 2, none⟩) hyv).trans ((yap1).cell (p := ⟨yb, yo + j * 2, none⟩) hybz)).trans h1⟩
   have hclG := gr_closed va
   try simp only [List.append_eq, List.cons_append, List.nil_append]
   refine wp_region_grow (S := Gr va) rfl (Gr.drew (Gr.refl _)) ?_
   refine gT 0 hclG ?_
   refine gT 1 hclG ?_
   refine gK 2 hclG KS ?_
   refine gT 3 hclG ?_
   refine gT 4 hclG ?_
   refine gT 5 hclG ?_
   refine gK 6 hclG KS ?_
   refine gT 7 hclG ?_
   refine gT 8 hclG ?_
   refine gT 9 hclG ?_
   refine gK 10 hclG KS ?_
   refine wpG_call (i := 11) hclG rfl (by kernel_rfl) (by kernel_rfl) (by kernel_rfl) (fun _ _ _ h => h) (fun W _ => HP1.out W) (by rfl) ?_ ?_
   ·(intro w' hSw; go_simp; try with_reducible rfl)
   try simp only [Act.put, putS]
   refine wpG_call (i := 12) hclG rfl (by kernel_rfl) (by kernel_rfl) (by kernel_rfl) (fun _ _ _ h => h) (fun W _ => HM1.out W) (by rfl) ?_ ?_
   ·(intro w' hSw; go_simp; try with_reducible rfl)
   try simp only [Act.put, putS]
   refine gT 13 hclG ?_
   refine wpG_done (by kernel_rfl) (fun wa1 ga1 => ?_) _
   replace ga1 := (Gr.drew (Gr.refl va)).trans ga1
   have ⟨Fb_a1, lb_a1⟩ := CellsAt.gl (Yb_ap1) ga1
   have ⟨Fa_a1, la_a1⟩ := CellsAt.gl (Ya_ap1) ga1
   have za1 := (yap1).trans ga1
   clear Yb_ap1 Ya_ap1 yap1 ga1
   clear hclG KS
   go_wp2_with fail
   obtain ⟨vb, hqap2⟩ : ∃ zz, zz = wa1 := ⟨_, rfl⟩
   have Yb_ap2 : CellsAt vb (w.heap.size + 1) 27 #[.slice (some ⟨yb, yo, none⟩) m cx, .int .i64 ex, .bool sa, .slice sp q cl] := by rw [hqap2]; first | exact Fb_a1 | simpa using Fb_a1
   have Ya_ap2 : CellsAt vb (wr.heap.size) 58 #[.int .i64 b.re, .int .i64 b.im] := by rw [hqap2]; first | exact Fa_a1 | simpa using Fa_a1
   have yap2 : Gr wz vb := by rw [hqap2]; exact za1
   rw [← hqap2]
   clear hqap2
   have hyv2 : yb < vb.heap.size := Nat.lt_of_lt_of_le hybz (yap2).size
   have KS : ∀ W, Gr vb W → (W.cell? ⟨wr.heap.size, 0, none⟩ = some (.int .i64 b.re) ∧ W.cell? ⟨wr.heap.size, 1, none⟩ = some (.int .i64 b.im) ∧ W.cell? ⟨w.heap.size + 1, 0, none⟩ = some (.slice (some ⟨yb, yo, none⟩) m cx) ∧ W.cell? ⟨w.heap.size + 1, 1, none⟩ = some (.int .i64 ex) ∧ W.cell? ⟨w.heap.size + 1, 2, none⟩ = some (.bool sa) ∧ W.cell? ⟨w.heap.size + 1, 3, none⟩ = some (.slice sp q cl) ∧ W.cell? ⟨yb, yo + j * 2 + 1, none⟩ = some (.int .i64 im)) := fun W hG => ⟨(CellsAt.gr Ya_ap2 hG).cell 0, (CellsAt.gr Ya_ap2 hG).cell 1, (CellsAt.gr Yb_ap2 hG).cell 0, (CellsAt.gr Yb_ap2 hG).cell 1, (CellsAt.gr Yb_ap2 hG).cell 2, (CellsAt.gr Yb_ap2 hG).cell 3, ((hG.cell (p := ⟨yb, yo + j * 2 + 1, none⟩) hyv2).trans ((yap2).cell (p := ⟨yb, yo + j * 2 + 1, none⟩) hybz)).trans h2⟩
   have hclG := gr_closed vb
   try simp only [List.append_eq, List.cons_append, List.nil_append]
   refine wp_region_grow (S := Gr vb) rfl (Gr.drew (Gr.refl _)) ?_
   refine gT 0 hclG ?_
   refine gT 1 hclG ?_
   refine gK 2 hclG KS ?_
   refine gT 3 hclG ?_
   refine gT 4 hclG ?_
   refine gT 5 hclG ?_
   refine gK 6 hclG KS ?_
   refine gT 7 hclG ?_
   refine gT 8 hclG ?_
   refine gT 9 hclG ?_
   refine gK 10 hclG KS ?_
   refine wpG_call (i := 11) hclG rfl (by kernel_rfl) (by kernel_rfl) (by kernel_rfl) (fun _ _ _ h => h) (fun W _ => HP2.out W) (by rfl) ?_ ?_
   ·(intro w' hSw; go_simp; try with_reducible rfl)
   try simp only [Act.put, putS]
   refine wpG_call (i := 12) hclG rfl (by kernel_rfl) (by kernel_rfl) (by kernel_rfl) (fun _ _ _ h => h) (fun W _ => HM2.out W) (by rfl) ?_ ?_
   ·(intro w' hSw; go_simp; try with_reducible rfl)
   try simp only [Act.put, putS]
   refine gT 13 hclG ?_
   refine wpG_done (by kernel_rfl) (fun wa2 ga2 => ?_) _
   replace ga2 := (Gr.drew (Gr.refl vb)).trans ga2
   have ⟨Fb_a2, lb_a2⟩ := CellsAt.gl (Yb_ap2) ga2
   have ⟨Fa_a2, la_a2⟩ := CellsAt.gl (Ya_ap2) ga2
   have za2 := (yap2).trans ga2
   clear Yb_ap2 Ya_ap2 yap2 ga2
   clear hclG KS
   go_wp2_with fail
   go_roundw
   case rel => exact ⟨j + 1, by omega, by go_num, by rw [HZ1.out], Fb_a2, za2⟩
   case measure => simp [intOf]; omega
  ·obtain rfl : j = m := by omega
   have hjI : ¬ (j : Int) < (j : Int) := by omega
   clear HL HR HM HN HF HYC HQC HYN HBN HMM HE
   go_wp2_with fail
   go_ret
   exact ⟨rfl, hg⟩
end
end Go.Proofs.YtcgeabpibkejpaaGreat
