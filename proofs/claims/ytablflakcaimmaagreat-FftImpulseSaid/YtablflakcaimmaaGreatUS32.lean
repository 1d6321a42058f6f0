import Derived.Test.YtablflakcaimmaaGreatUS31
namespace Go.Proofs.YtablflakcaimmaaGreat
section
open Go.ChangeShapes Go.WideShapes Go.ChangeAt Go.RowKit
set_option linter.unusedVariables false
set_option linter.unusedSimpArgs false
set_option maxRecDepth 100000
theorem one_shl {lo n : Int} (h : (lo = 2 ∧ n = 4) ∨ (lo = 3 ∧ n = 8) ∨ (lo = 4 ∧ n = 16) ∨ (lo = 5 ∧ n = 32) ∨ (lo = 6 ∧ n = 64)) (W : World) : (Op.shift .shl .i64 1 .i64 lo).run Tryz.prog W = .ok (.int .i64 n) W := by
 rcases h with ⟨rfl, rfl⟩ | ⟨rfl, rfl⟩ | ⟨rfl, rfl⟩ | ⟨rfl, rfl⟩ | ⟨rfl, rfl⟩ <;> kernel_rfl
set_option maxHeartbeats 2000000 in
theorem ftNum_plan (v : Value) (fo lo ke sc mo : Int) (iv : Bool) (HC : CR 50 #[.agg #[.int .i64 fo, .int .i64 lo, .int .i64 ke, .int .i64 sc, .int .i64 mo, .bool iv]] (.int .i64 4)) (w : World) :
 Calls Tryz.prog 37 #[v, .agg #[.int .i64 fo, .int .i64 lo, .int .i64 ke, .int .i64 sc, .int .i64 mo, .bool iv]] w fun e w' => e = .returned (.int .i64 4) ∧ Gr w w' := by
 go_enter Tryz.func37, Tryz.ntmps37
 go_wp2_with fail
 obtain ⟨u0, hU⟩ : ∃ uu, uu = (w.alloc (.cells #[.int .i64 fo, .int .i64 lo, .int .i64 ke, .int .i64 sc, .int .i64 mo, .bool iv] 24)) := ⟨_, rfl⟩
 have ⟨gu, R0⟩ := lay1 hU
 rw [← hU]
 clear hU
 have lp := R0.lt
 refine (HC.out _).mono ?_
 rintro e w1 ⟨rfl, g1⟩
 have ⟨Fp_1, lp_1⟩ := CellsAt.gl (R0) g1
 have z1 := (gu).trans g1
 clear R0 gu g1
 go_wp2_with fail
 go_ret
 exact ⟨rfl, z1⟩
set_option maxHeartbeats 2000000 in
theorem ftNum_size (p : Option Addr) (l cap : Nat) (fo lo ke sc mo n : Int) (iv : Bool) (hlo : (lo = 2 ∧ n = 4) ∨ (lo = 3 ∧ n = 8) ∨ (lo = 4 ∧ n = 16) ∨ (lo = 5 ∧ n = 32) ∨ (lo = 6 ∧ n = 64)) (hn : ¬ (l : Int) = n) (HC : CR 50 #[.agg #[.int .i64 fo, .int .i64 lo, .int .i64 ke, .int .i64 sc, .int .i64 mo, .bool iv]] (.int .i64 0)) (w : World) :
 Calls Tryz.prog 37 #[.slice p l cap, .agg #[.int .i64 fo, .int .i64 lo, .int .i64 ke, .int .i64 sc, .int .i64 mo, .bool iv]] w fun e w' => e = .returned (.int .i64 3) ∧ Gr w w' := by
 have hb : ((l : Int) == n) = false := by simp [hn]
 have hsh := one_shl hlo
 clear hlo
 go_enter Tryz.func37, Tryz.ntmps37
 go_wp2_with fail
 obtain ⟨u0, hU⟩ : ∃ uu, uu = (w.alloc (.cells #[.int .i64 fo, .int .i64 lo, .int .i64 ke, .int .i64 sc, .int .i64 mo, .bool iv] 24)) := ⟨_, rfl⟩
 have ⟨gu, R0⟩ := lay1 hU
 rw [← hU]
 clear hU
 have lp := R0.lt
 refine (HC.out _).mono ?_
 rintro e w1 ⟨rfl, g1⟩
 have ⟨Fp_1, lp_1⟩ := CellsAt.gl (R0) g1
 have z1 := (gu).trans g1
 clear R0 gu g1
 obtain ⟨cp0, cp1, cp2, cp3, cp4, cp5⟩ := Fp_1.t6
 go_wp2_with fail
 clear cp0 cp1 cp2 cp3 cp4 cp5
 go_ret
 exact ⟨rfl, z1⟩
set_option maxHeartbeats 2000000 in
theorem ftNum_parts (p : Option Addr) (l cap : Nat) (xs : List Gi) (fo lo ke sc mo n q : Int) (iv r : Bool) (hlo : (lo = 2 ∧ n = 4) ∨ (lo = 3 ∧ n = 8) ∨ (lo = 4 ∧ n = 16) ∨ (lo = 5 ∧ n = 32) ∨ (lo = 6 ∧ n = 64)) (hn : (l : Int) = n) (q0 : 0 ≤ q) (q1 : q ≤ 2147483648) (HC : CR 50 #[.agg #[.int .i64 fo, .int .i64 lo, .int .i64 ke, .int .i64 sc, .int .i64 mo, .bool iv]] (.int .i64 0)) (HO : CR 70 #[.agg #[.int .i64 fo, .int .i64 lo, .int .i64 ke, .int .i64 sc, .int .i64 mo, .bool iv]] (.int .i64 q))
 (HW : Hid (∀ W, CxsAt W (.slice p l cap) xs → Calls Tryz.prog 71 #[.int .i64 (-q), .int .i64 (q - 1), .slice p l cap] W fun e w' => e = .returned (.bool r) ∧ Gr W w')) (w : World) (hv : CxsAt w (.slice p l cap) xs) :
 Calls Tryz.prog 37 #[.slice p l cap, .agg #[.int .i64 fo, .int .i64 lo, .int .i64 ke, .int .i64 sc, .int .i64 mo, .bool iv]] w fun e w' => e = .returned (.int .i64 (if r = true then 0 else 2)) ∧ Gr w w' := by
 have hb : ((l : Int) == n) = true := by simp [hn]
 have hsh := one_shl hlo
 clear hlo
 go_enter Tryz.func37, Tryz.ntmps37
 go_wp2_with fail
 obtain ⟨u0, hU⟩ : ∃ uu, uu = (w.alloc (.cells #[.int .i64 fo, .int .i64 lo, .int .i64 ke, .int .i64 sc, .int .i64 mo, .bool iv] 24)) := ⟨_, rfl⟩
 have ⟨gu, R0⟩ := lay1 hU
 rw [← hU]
 clear hU
 have lp := R0.lt
 refine (HC.out _).mono ?_
 rintro e w1 ⟨rfl, g1⟩
 have ⟨Fp_1, lp_1⟩ := CellsAt.gl (R0) g1
 have z1 := (gu).trans g1
 clear R0 gu g1
 obtain ⟨cp0, cp1, cp2, cp3, cp4, cp5⟩ := Fp_1.t6
 go_wp2_with fail
 clear cp0 cp1 cp2 cp3 cp4 cp5
 refine (HO.out _).mono ?_
 rintro e w2 ⟨rfl, g2⟩
 have ⟨Fp_2, lp_2⟩ := CellsAt.gl (Fp_1) g2
 have z2 := (z1).trans g2
 clear Fp_1 z1 g2
 go_wp2_with fail
 refine (HW.out _ (hv.gr z2)).mono ?_
 rintro e w3 ⟨rfl, g3⟩
 have ⟨Fp_3, lp_3⟩ := CellsAt.gl (Fp_2) g3
 have z3 := (z2).trans g3
 clear Fp_2 z2 g3
 cases r
 all_goals
  go_wp2_with fail
  go_ret
  exact ⟨rfl, z3⟩
set_option maxHeartbeats 2000000 in
theorem ftBlk_size (p : Option Addr) (l cap : Nat) (vs : Value) (fo lo ke sc mo ex n : Int) (iv sa : Bool) (hlo : (lo = 2 ∧ n = 4) ∨ (lo = 3 ∧ n = 8) ∨ (lo = 4 ∧ n = 16) ∨ (lo = 5 ∧ n = 32) ∨ (lo = 6 ∧ n = 64)) (hn : ¬ (l : Int) = n) (w : World) :
 Calls Tryz.prog 44 #[.agg #[.slice p l cap, .int .i64 ex, .bool sa, vs], .agg #[.int .i64 fo, .int .i64 lo, .int .i64 ke, .int .i64 sc, .int .i64 mo, .bool iv]] w fun e w' => e = .returned (.int .i64 3) ∧ Gr w w' := by
 have hb : ((l : Int) == n) = false := by simp [hn]
 have hsh := one_shl hlo
 clear hlo
 go_enter Tryz.func44, Tryz.ntmps44
 go_wp2_with fail
 obtain ⟨u0, hU⟩ : ∃ uu, uu = ((w.alloc (.cells #[.slice p l cap, .int .i64 ex, .bool sa, vs] 27)).alloc (.cells #[.int .i64 fo, .int .i64 lo, .int .i64 ke, .int .i64 sc, .int .i64 mo, .bool iv] 24)) := ⟨_, rfl⟩
 have ⟨gu, R0, R1⟩ := lay2 hU
 rw [← hU]
 clear hU
 have lb := R0.lt
 have lp := R1.lt
 obtain ⟨ub, hqp1⟩ : ∃ zz, zz = u0 := ⟨_, rfl⟩
 have Yb_p1 : CellsAt ub (w.heap.size) 27 #[.slice p l cap, .int .i64 ex, .bool sa, vs] := by rw [hqp1]; first | exact R0 | simpa using R0
 have Yp_p1 : CellsAt ub (w.heap.size + 1) 24 #[.int .i64 fo, .int .i64 lo, .int .i64 ke, .int .i64 sc, .int .i64 mo, .bool iv] := by rw [hqp1]; first | exact R1 | simpa using R1
 have yp1 : Gr w ub := by rw [hqp1]; exact gu
 rw [← hqp1]
 clear hqp1
 have KS : ∀ W, Gr ub W → (W.cell? ⟨w.heap.size, 0, none⟩ = some (.slice p l cap) ∧ W.cell? ⟨w.heap.size, 1, none⟩ = some (.int .i64 ex) ∧ W.cell? ⟨w.heap.size, 2, none⟩ = some (.bool sa) ∧ W.cell? ⟨w.heap.size, 3, none⟩ = some (vs) ∧ W.cell? ⟨w.heap.size + 1, 0, none⟩ = some (.int .i64 fo) ∧ W.cell? ⟨w.heap.size + 1, 1, none⟩ = some (.int .i64 lo) ∧ W.cell? ⟨w.heap.size + 1, 2, none⟩ = some (.int .i64 ke) ∧ W.cell? ⟨w.heap.size + 1, 3, none⟩ = some (.int .i64 sc) ∧ W.cell? ⟨w.heap.size + 1, 4, none⟩ = some (.int .i64 mo) ∧ W.cell? ⟨w.heap.size + 1, 5, none⟩ = some (.bool iv)) := fun W hG => ⟨(CellsAt.gr Yb_p1 hG).cell 0, (CellsAt.gr Yb_p1 hG).cell 1, (CellsAt.gr Yb_p1 hG).cell 2, (CellsAt.gr Yb_p1 hG).cell 3, (CellsAt.gr Yp_p1 hG).cell 0, (CellsAt.gr Yp_p1 hG).cell 1, (CellsAt.gr Yp_p1 hG).cell 2, (CellsAt.gr Yp_p1 hG).cell 3, (CellsAt.gr Yp_p1 hG).cell 4, (CellsAt.gr Yp_p1 hG).cell 5⟩
 have hclG := gr_closed ub
 try simp only [List.append_eq, List.cons_append, List.nil_append]
 refine wp_region_grow (S := Gr ub) rfl (Gr.drew (Gr.refl _)) ?_
 refine gK 0 hclG KS ?_
 refine gK 1 hclG KS ?_
 refine gK 2 hclG KS ?_
 refine gK 3 hclG KS ?_
 refine gK 4 hclG KS ?_
 refine gK 5 hclG KS ?_
 refine gK 6 hclG KS ?_
 refine wpG_done (by kernel_rfl) (fun w1 g1 => ?_) _
 replace g1 := (Gr.drew (Gr.refl ub)).trans g1
 have ⟨Fb_1, lb_1⟩ := CellsAt.gl (Yb_p1) g1
 have ⟨Fp_1, lp_1⟩ := CellsAt.gl (Yp_p1) g1
 have z1 := (yp1).trans g1
 clear Yb_p1 Yp_p1 yp1 g1
 clear hclG KS
 go_wp2_with fail
 go_ret
 exact ⟨rfl, z1⟩
set_option maxHeartbeats 2000000 in
theorem ftBlk_parts (p : Option Addr) (l cap : Nat) (xs : List Gi) (vs : Value) (fo lo ke sc mo ex n q : Int) (iv sa r : Bool) (hlo : (lo = 2 ∧ n = 4) ∨ (lo = 3 ∧ n = 8) ∨ (lo = 4 ∧ n = 16) ∨ (lo = 5 ∧ n = 32) ∨ (lo = 6 ∧ n = 64)) (hn : (l : Int) = n) (q0 : 0 ≤ q) (q1 : q ≤ 2147483648) (HO : CR 70 #[.agg #[.int .i64 fo, .int .i64 lo, .int .i64 ke, .int .i64 sc, .int .i64 mo, .bool iv]] (.int .i64 q))
 (HW : Hid (∀ W, CxsAt W (.slice p l cap) xs → Calls Tryz.prog 71 #[.int .i64 (-q), .int .i64 (q), .slice p l cap] W fun e w' => e = .returned (.bool r) ∧ Gr W w')) (w : World) (hv : CxsAt w (.slice p l cap) xs) :
 Calls Tryz.prog 44 #[.agg #[.slice p l cap, .int .i64 ex, .bool sa, vs], .agg #[.int .i64 fo, .int .i64 lo, .int .i64 ke, .int .i64 sc, .int .i64 mo, .bool iv]] w fun e w' => e = .returned (.int .i64 (if r = true then (if ex < -100 ∨ 100 < ex then 2 else 0) else 2)) ∧ Gr w w' := by
 have hb : ((l : Int) == n) = true := by simp [hn]
 have hsh := one_shl hlo
 clear hlo
 go_enter Tryz.func44, Tryz.ntmps44
 go_wp2_with fail
 obtain ⟨u0, hU⟩ : ∃ uu, uu = ((w.alloc (.cells #[.slice p l cap, .int .i64 ex, .bool sa, vs] 27)).alloc (.cells #[.int .i64 fo, .int .i64 lo, .int .i64 ke, .int .i64 sc, .int .i64 mo, .bool iv] 24)) := ⟨_, rfl⟩
 have ⟨gu, R0, R1⟩ := lay2 hU
 rw [← hU]
 clear hU
 have lb := R0.lt
 have lp := R1.lt
 obtain ⟨ub, hqp1⟩ : ∃ zz, zz = u0 := ⟨_, rfl⟩
 have Yb_p1 : CellsAt ub (w.heap.size) 27 #[.slice p l cap, .int .i64 ex, .bool sa, vs] := by rw [hqp1]; first | exact R0 | simpa using R0
 have Yp_p1 : CellsAt ub (w.heap.size + 1) 24 #[.int .i64 fo, .int .i64 lo, .int .i64 ke, .int .i64 sc, .int .i64 mo, .bool iv] := by rw [hqp1]; first | exact R1 | simpa using R1
 have yp1 : Gr w ub := by rw [hqp1]; exact gu
 rw [← hqp1]
 clear hqp1
 have KS : ∀ W, Gr ub W → (W.cell? ⟨w.heap.size, 0, none⟩ = some (.slice p l cap) ∧ W.cell? ⟨w.heap.size, 1, none⟩ = some (.int .i64 ex) ∧ W.cell? ⟨w.heap.size, 2, none⟩ = some (.bool sa) ∧ W.cell? ⟨w.heap.size, 3, none⟩ = some (vs) ∧ W.cell? ⟨w.heap.size + 1, 0, none⟩ = some (.int .i64 fo) ∧ W.cell? ⟨w.heap.size + 1, 1, none⟩ = some (.int .i64 lo) ∧ W.cell? ⟨w.heap.size + 1, 2, none⟩ = some (.int .i64 ke) ∧ W.cell? ⟨w.heap.size + 1, 3, none⟩ = some (.int .i64 sc) ∧ W.cell? ⟨w.heap.size + 1, 4, none⟩ = some (.int .i64 mo) ∧ W.cell? ⟨w.heap.size + 1, 5, none⟩ = some (.bool iv)) := fun W hG => ⟨(CellsAt.gr Yb_p1 hG).cell 0, (CellsAt.gr Yb_p1 hG).cell 1, (CellsAt.gr Yb_p1 hG).cell 2, (CellsAt.gr Yb_p1 hG).cell 3, (CellsAt.gr Yp_p1 hG).cell 0, (CellsAt.gr Yp_p1 hG).cell 1, (CellsAt.gr Yp_p1 hG).cell 2, (CellsAt.gr Yp_p1 hG).cell 3, (CellsAt.gr Yp_p1 hG).cell 4, (CellsAt.gr Yp_p1 hG).cell 5⟩
 have hclG := gr_closed ub
 try simp only [List.append_eq, List.cons_append, List.nil_append]
 refine wp_region_grow (S := Gr ub) rfl (Gr.drew (Gr.refl _)) ?_
 refine gK 0 hclG KS ?_
 refine gK 1 hclG KS ?_
 refine gK 2 hclG KS ?_
 refine gK 3 hclG KS ?_
 refine gK 4 hclG KS ?_
 refine gK 5 hclG KS ?_
 refine gK 6 hclG KS ?_
 refine wpG_done (by kernel_rfl) (fun w1 g1 => ?_) _
 replace g1 := (Gr.drew (Gr.refl ub)).trans g1
 have ⟨Fb_1, lb_1⟩ := CellsAt.gl (Yb_p1) g1
 have ⟨Fp_1, lp_1⟩ := CellsAt.gl (Yp_p1) g1
 have z1 := (yp1).trans g1
 clear Yb_p1 Yp_p1 yp1 g1
 clear hclG KS
 obtain ⟨cp0, cp1, cp2, cp3, cp4, cp5⟩ := Fp_1.t6
 go_wp2_with fail
 clear cp0 cp1 cp2 cp3 cp4 cp5
 refine (HO.out _).mono ?_
 rintro e w2 ⟨rfl, g2⟩
 have ⟨Fb_2, lb_2⟩ := CellsAt.gl (Fb_1) g2
 have ⟨Fp_2, lp_2⟩ := CellsAt.gl (Fp_1) g2
 have z2 := (z1).trans g2
 clear Fb_1 Fp_1 z1 g2
 obtain ⟨cb0, cb1, cb2, cb3⟩ := Fb_2.t4
 go_wp2_with fail
 clear cb0 cb1 cb2 cb3
 refine (HW.out _ (hv.gr z2)).mono ?_
 rintro e w3 ⟨rfl, g3⟩
 have ⟨Fb_3, lb_3⟩ := CellsAt.gl (Fb_2) g3
 have ⟨Fp_3, lp_3⟩ := CellsAt.gl (Fp_2) g3
 have z3 := (z2).trans g3
 clear Fb_2 Fp_2 z2 g3
 cases r
 ·go_wp2_with fail
  go_ret
  exact ⟨rfl, z3⟩
 ·by_cases e0 : ex < -100
  ·have cb0 := CellsAt.cell (Fb_3) 0
   have cb1 := Fb_3.at 1
   have cb2 := Fb_3.at 2
   have cb3 := Fb_3.at 3
   simp only [getS] at cb0
   go_wp2_with fail
   clear cb0 cb1 cb2 cb3
   go_ret
   exact ⟨by simp [e0], z3⟩
  ·by_cases e1 : 100 < ex
   ·have cb0 := CellsAt.cell (Fb_3) 0
    have cb1 := Fb_3.at 1
    have cb2 := Fb_3.at 2
    have cb3 := Fb_3.at 3
    simp only [getS] at cb0
    go_wp2_with fail
    clear cb0 cb1 cb2 cb3
    go_ret
    exact ⟨by simp [e0, e1], z3⟩
   ·have cb0 := CellsAt.cell (Fb_3) 0
    have cb1 := Fb_3.at 1
    have cb2 := Fb_3.at 2
    have cb3 := Fb_3.at 3
    simp only [getS] at cb0
    go_wp2_with fail
    clear cb0 cb1 cb2 cb3
    go_ret
    exact ⟨by simp [e0, e1], z3⟩
set_option maxHeartbeats 2000000 in
theorem ftSplit_c (vx vs : Value) (xs ys : List Gi) (fo lo ke sc mo ex ex2 : Int) (iv sa : Bool) (he : wrap64 (ex + lo) = ex2)
 (HR : Hid (∀ W, CxsAt W vx xs → Calls Tryz.prog 58 #[vx, .int .i64 fo, .int .i64 mo, .bool iv] W fun e w' => ∃ v, e = .returned (.tuple #[v, .int .i64 0]) ∧ CxsAt w' v ys ∧ Gr W w')) (w : World) (hv : CxsAt w vx xs) :
 Calls Tryz.prog 27 #[.agg #[vx, .int .i64 ex, .bool sa, vs], .agg #[.int .i64 fo, .int .i64 lo, .int .i64 ke, .int .i64 sc, .int .i64 mo, .bool iv]] w fun e w' => ∃ u, e = .returned (.agg #[u, .int .i64 ex2, .bool false, .slice none 0 0]) ∧ CxsAt w' u ys ∧ Gr w w' := by
 go_enter Tryz.func27, Tryz.ntmps27
 go_wp2_with fail
 obtain ⟨u0, hU⟩ : ∃ uu, uu = (((w.alloc (.cells #[vx, .int .i64 ex, .bool sa, vs] 27)).alloc (.cells #[.int .i64 fo, .int .i64 lo, .int .i64 ke, .int .i64 sc, .int .i64 mo, .bool iv] 24)).alloc (.cells #[.slice none 0 0, .int .i64 0, .bool false, .slice none 0 0] 27)) := ⟨_, rfl⟩
 have ⟨gu, R0, R1, R2⟩ := lay3 hU
 rw [← hU]
 clear hU
 have lb := R0.lt
 have lp := R1.lt
 have lr := R2.lt
 obtain ⟨cb0, cb1, cb2, cb3⟩ := R0.t4
 obtain ⟨cp0, cp1, cp2, cp3, cp4, cp5⟩ := R1.t6
 go_wp2_with fail
 clear cb0 cb1 cb2 cb3 cp0 cp1 cp2 cp3 cp4 cp5
 refine (HR.out _ (hv.gr gu)).mono ?_
 rintro e w1 ⟨vy, rfl, hy, g1⟩
 have ⟨Fb_1, lb_1⟩ := CellsAt.gl (R0) g1
 have ⟨Fp_1, lp_1⟩ := CellsAt.gl (R1) g1
 have ⟨Fr_1, lr_1⟩ := CellsAt.gl (R2) g1
 have z1 := (gu).trans g1
 clear R0 R1 R2 gu g1
 obtain ⟨yp, yc, rfl⟩ := hy.len
 obtain ⟨cb0, cb1, cb2, cb3⟩ := Fb_1.t4
 obtain ⟨cp0, cp1, cp2, cp3, cp4, cp5⟩ := Fp_1.t6
 have mr0 := CellsAt.frozen (Fr_1) 0
 have cr0 := Fr_1.at 0
 have mr1 := CellsAt.frozen (Fr_1) 1
 have cr1 := Fr_1.at 1
 have mr2 := CellsAt.frozen (Fr_1) 2
 have cr2 := Fr_1.at 2
 have mr3 := CellsAt.frozen (Fr_1) 3
 have cr3 := Fr_1.at 3
 go_wp2_with fail
 clear cb0 cb1 cb2 cb3 cp0 cp1 cp2 cp3 cp4 cp5 mr0 cr0 mr1 cr1 mr2 cr2 mr3 cr3
 have ap := CxsAt.apart hy Fr_1
 have cxe := (((hy.set ap 0 (.slice yp ys.length yc)).set ap 1 (.int .i64 ex2)).set ap 2 (.bool false)).set ap 3 (.slice none 0 0)
 obtain ⟨uf, hqf⟩ : ∃ zz, zz = ((((w1.setCell ⟨w.heap.size + 1 + 1, 0, none⟩ (.slice yp ys.length yc)).setCell ⟨w.heap.size + 1 + 1, 1, none⟩ (.int .i64 ex2)).setCell ⟨w.heap.size + 1 + 1, 2, none⟩ (.bool false)).setCell ⟨w.heap.size + 1 + 1, 3, none⟩ (.slice none 0 0)) := ⟨_, rfl⟩
 rw [← hqf] at cxe
 have Yr : CellsAt uf (w.heap.size + 1 + 1) 27 #[.slice yp ys.length yc, .int .i64 ex2, .bool false, .slice none 0 0] := by rw [hqf]; first | exact CellsAt.set (CellsAt.set (CellsAt.set (CellsAt.set (Fr_1) 0 (.slice yp ys.length yc)) 1 (.int .i64 ex2)) 2 (.bool false)) 3 (.slice none 0 0) | simpa using CellsAt.set (CellsAt.set (CellsAt.set (CellsAt.set (Fr_1) 0 (.slice yp ys.length yc)) 1 (.int .i64 ex2)) 2 (.bool false)) 3 (.slice none 0 0)
 have yz : Gr w uf := by rw [hqf]; exact ((((z1).setCell (by first | omega | (simp only; omega)) _).setCell (by first | omega | (simp only; omega)) _).setCell (by first | omega | (simp only; omega)) _).setCell (by first | omega | (simp only; omega)) _
 rw [← hqf]
 clear hqf
 have cr0 := CellsAt.cell Yr 0
 have cr1 := CellsAt.cell Yr 1
 have cr2 := CellsAt.cell Yr 2
 have cr3 := CellsAt.cell Yr 3
 simp only [getS] at cr0 cr1 cr2 cr3
 refine bodyPost_ret (v := .agg #[.slice yp ys.length yc, .int .i64 ex2, .bool false, .slice none 0 0]) ?_ rfl ⟨_, rfl, cxe, yz⟩
 simp [results, Tryz.results27, go_sem, *]
theorem cxs_of_cells {W : World} {B : Nat} {t : TypeId} {xs : List Gi} (h : CellsAt W B t (gcells xs).toArray) (hl : xs.length ≤ maxLen) : CxsAt W (.slice (some ⟨B, 0, none⟩) xs.length xs.length) xs := by
 refine ⟨_, _, rfl, Nat.le_refl _, hl, fun _ => ⟨B, 0, rfl, h.lt, fun j x hj => ?_⟩⟩
 have k := gcells_at xs j x hj
 rw [Nat.zero_add, h.cell, h.cell]
 simpa using k
set_option maxHeartbeats 2000000 in
theorem alive15_of (HO : Hid (∀ sp cl W, CxsAt W (.slice sp 4 cl) [⟨1, 0⟩, ⟨2, 0⟩, ⟨3, 0⟩, ⟨4, 0⟩] → Calls Tryz.prog 9 #[.slice sp 4 cl, .agg #[.int .i64 0, .int .i64 2, .int .i64 0, .int .i64 2, .int .i64 0, .bool false]] W fun e w' => ∃ vx vs, e = .returned (.tuple #[.agg #[vx, .int .i64 0, .bool false, vs], .int .i64 0]) ∧ CxsAt w' vx [⟨10, 0⟩, ⟨-2, 2⟩, ⟨-2, 0⟩, ⟨-2, -2⟩] ∧ NumsAt w' vs [0, 0] ∧ Gr W w')) (w : World) :
 Calls Tryz.prog 11 #[] w fun e w' => e = .returned (.bool true) ∧ Gr w w' := by
 go_enter Tryz.func11, Tryz.ntmps11
 go_wp2_with fail
 obtain ⟨u1, hu⟩ : ∃ uu, uu = w.alloc (.cells #[.int .i64 1, .int .i64 0, .int .i64 2, .int .i64 0, .int .i64 3, .int .i64 0, .int .i64 4, .int .i64 0] 55) := ⟨_, rfl⟩
 have N1 : CxsAt u1 (.slice (some ⟨w.heap.size, 0, none⟩) 4 4) [⟨1, 0⟩, ⟨2, 0⟩, ⟨3, 0⟩, ⟨4, 0⟩] := by
  rw [hu]
  exact cxs_of_cells (xs := [⟨1, 0⟩, ⟨2, 0⟩, ⟨3, 0⟩, ⟨4, 0⟩]) (CellsAt.new w 55 #[.int .i64 1, .int .i64 0, .int .i64 2, .int .i64 0, .int .i64 3, .int .i64 0, .int .i64 4, .int .i64 0]) (by unfold maxLen; simp)
 have g1 : Gr w u1 := by rw [hu]; exact (Gr.refl w).alloc _ _
 rw [← hu]
 clear hu
 refine (HO.out _ _ _ N1).mono ?_
 rintro e w2 ⟨vx, vs, rfl, hx, hs, g2⟩
 obtain ⟨b, oo, cap, rfl, hln, hb, hc⟩ := hx.at (by simp)
 obtain ⟨ps, cs, rfl⟩ := hs.len
 rw [show ([⟨10, 0⟩, ⟨-2, 2⟩, ⟨-2, 0⟩, ⟨-2, -2⟩] : List Gi).length = 4 from rfl]
 have h0 := hc 0 _ rfl
 have h1 := hc 1 _ rfl
 simp only [Nat.zero_mul, Nat.add_zero, Nat.one_mul] at h0 h1
 obtain ⟨a0, a1⟩ := h0
 obtain ⟨b0, b1⟩ := h1
 clear hc hln
 go_wp2_with fail
 go_ret
 exact ⟨by first | rfl | (simp; done), (g1.trans g2).alloc _ _⟩
set_option maxHeartbeats 4000000 in
theorem ready15_no (p : Option Addr) (l1 cap1 m1 : Nat) (fo lo ke sc mo : Int) (iv : Bool) (xs : List Gi) (hm1 : m1 ≤ cap1) (hmin1 : (if (70 : Int) < (l1 : Int) then 70 else (l1 : Int)) = (m1 : Int)) (y : Int) (hy : (y == 0) = false) (HP : Hid (∀ W, CxsAt W (.slice p m1 cap1) xs → Calls Tryz.prog 14 #[.slice p m1 cap1, .agg #[.int .i64 fo, .int .i64 lo, .int .i64 ke, .int .i64 sc, .int .i64 mo, .bool iv]] W fun e w' => e = .returned (.tuple #[.agg #[.slice none 0 0, .int .i64 0, .bool false, .slice none 0 0], .int .i64 y]) ∧ Gr W w')) (HM : Hid (∀ W, CxsAt W (.slice p m1 cap1) xs → Calls Tryz.prog 10 #[.slice p m1 cap1, .agg #[.int .i64 fo, .int .i64 lo, .int .i64 ke, .int .i64 sc, .int .i64 mo, .bool iv], .bool false] W fun e w' => e = .returned (.int .i64 y) ∧ Gr W w')) (AL : CR 11 #[] (.bool true)) (w : World) (hx : CxsAt w (.slice p m1 cap1) xs) :
 Calls Tryz.prog 4 #[.slice p l1 cap1, .agg #[.int .i64 fo, .int .i64 lo, .int .i64 ke, .int .i64 sc, .int .i64 mo, .bool iv]] w fun e w' => e = .returned (.bool true) ∧ Gr w w' := by
 have hcut1 := run_cut_cx p l1 cap1 m1 hm1
 have VX := Lib.hid hx
 clear hx
 go_enter Tryz.func4, Tryz.ntmps4
 go_wp2_with fail
 obtain ⟨u0, hU⟩ : ∃ uu, uu = (w.alloc (.cells #[.int .i64 fo, .int .i64 lo, .int .i64 ke, .int .i64 sc, .int .i64 mo, .bool iv] 24)) := ⟨_, rfl⟩
 have ⟨gu, R0⟩ := lay1 hU
 rw [← hU]
 clear hU
 have lp := R0.lt
 obtain ⟨cp0, cp1, cp2, cp3, cp4, cp5⟩ := R0.t6
 go_wp2_with fail
 clear cp0 cp1 cp2 cp3 cp4 cp5
 refine (HP.out _ (VX.out.gr gu)).mono ?_
 rintro e w1 ⟨rfl, g1⟩
 have ⟨Fp_1, lp_1⟩ := CellsAt.gl (R0) g1
 have z1 := (gu).trans g1
 clear R0 gu g1
 obtain ⟨cp0, cp1, cp2, cp3, cp4, cp5⟩ := Fp_1.t6
 go_wp2_with fail
 clear cp0 cp1 cp2 cp3 cp4 cp5
 obtain ⟨u2, hqp1⟩ : ∃ zz, zz = (w1.alloc (.cells #[.slice none 0 0, .int .i64 0, .bool false, .slice none 0 0] 27)) := ⟨_, rfl⟩
 have Yp_p1 : CellsAt u2 (w.heap.size) 24 #[.int .i64 fo, .int .i64 lo, .int .i64 ke, .int .i64 sc, .int .i64 mo, .bool iv] := by rw [hqp1]; first | exact (Fp_1).alloc _ | simpa using (Fp_1).alloc _
 have Yb_p1 : CellsAt u2 (w1.heap.size) 27 #[.slice none 0 0, .int .i64 0, .bool false, .slice none 0 0] := by rw [hqp1]; first | exact CellsAt.new w1 27 #[.slice none 0 0, .int .i64 0, .bool false, .slice none 0 0] | simpa using CellsAt.new w1 27 #[.slice none 0 0, .int .i64 0, .bool false, .slice none 0 0]
 have yp1 : Gr w u2 := by rw [hqp1]; exact (z1).alloc _ _
 rw [← hqp1]
 clear hqp1
 refine (HM.out _ (VX.out.gr yp1)).mono ?_
 rintro e w2 ⟨rfl, g2⟩
 have ⟨Fp_2, lp_2⟩ := CellsAt.gl (Yp_p1) g2
 have ⟨Fb_2, lb_2⟩ := CellsAt.gl (Yb_p1) g2
 have z2 := (yp1).trans g2
 clear Yp_p1 Yb_p1 yp1 g2
 go_wp2_with fail
 refine (AL.out _).mono ?_
 rintro e w3 ⟨rfl, g3⟩
 have ⟨Fp_3, lp_3⟩ := CellsAt.gl (Fp_2) g3
 have ⟨Fb_3, lb_3⟩ := CellsAt.gl (Fb_2) g3
 have z3 := (z2).trans g3
 clear Fp_2 Fb_2 z2 g3
 obtain ⟨cb0, cb1, cb2, cb3⟩ := Fb_3.t4
 go_wp2_with fail
 clear cb0 cb1 cb2 cb3
 refine (same15_c (.slice none 0 0) (.slice none 0 0) (.slice none 0 0) (.slice none 0 0) 0 false [] [] _ ⟨none, 0, rfl, Nat.le_refl _, Nat.zero_le _, fun h => absurd rfl h⟩ (NumsAt.nil _) ⟨none, 0, rfl, Nat.le_refl _, Nat.zero_le _, fun h => absurd rfl h⟩ (NumsAt.nil _)).mono ?_
 rintro e w4 ⟨rfl, g4⟩
 go_wp2_with fail
 go_ret
 exact ⟨by first | rfl | (simp; done), (z3).trans g4⟩
set_option maxHeartbeats 4000000 in
theorem ready15_yes (p : Option Addr) (l1 cap1 m1 : Nat) (fo lo ke sc mo : Int) (iv : Bool) (xs : List Gi) (hm1 : m1 ≤ cap1) (hmin1 : (if (70 : Int) < (l1 : Int) then 70 else (l1 : Int)) = (m1 : Int)) (b : BV) (HP : Hid (∀ W, CxsAt W (.slice p m1 cap1) xs → Calls Tryz.prog 14 #[.slice p m1 cap1, .agg #[.int .i64 fo, .int .i64 lo, .int .i64 ke, .int .i64 sc, .int .i64 mo, .bool iv]] W fun e w' => ∃ vx vs, e = .returned (.tuple #[.agg #[vx, .int .i64 b.ex, .bool b.sat, vs], .int .i64 0]) ∧ CxsAt w' vx b.X ∧ NumsAt w' vs b.sh ∧ Gr W w')) (HM : Hid (∀ W, CxsAt W (.slice p m1 cap1) xs → Calls Tryz.prog 10 #[.slice p m1 cap1, .agg #[.int .i64 fo, .int .i64 lo, .int .i64 ke, .int .i64 sc, .int .i64 mo, .bool iv], .bool false] W fun e w' => e = .returned (.int .i64 0) ∧ Gr W w')) (HR : Hid (∀ W, CxsAt W (.slice p m1 cap1) xs → Calls Tryz.prog 15 #[.slice p m1 cap1, .agg #[.int .i64 fo, .int .i64 lo, .int .i64 ke, .int .i64 sc, .int .i64 mo, .bool iv]] W fun e w' => ∃ vx vs, e = .returned (.agg #[vx, .int .i64 b.ex, .bool b.sat, vs]) ∧ CxsAt w' vx b.X ∧ NumsAt w' vs b.sh ∧ Gr W w')) (AL : CR 11 #[] (.bool true)) (w : World) (hx : CxsAt w (.slice p m1 cap1) xs) :
 Calls Tryz.prog 4 #[.slice p l1 cap1, .agg #[.int .i64 fo, .int .i64 lo, .int .i64 ke, .int .i64 sc, .int .i64 mo, .bool iv]] w fun e w' => e = .returned (.bool true) ∧ Gr w w' := by
 have hcut1 := run_cut_cx p l1 cap1 m1 hm1
 have VX := Lib.hid hx
 clear hx
 go_enter Tryz.func4, Tryz.ntmps4
 go_wp2_with fail
 obtain ⟨u0, hU⟩ : ∃ uu, uu = (w.alloc (.cells #[.int .i64 fo, .int .i64 lo, .int .i64 ke, .int .i64 sc, .int .i64 mo, .bool iv] 24)) := ⟨_, rfl⟩
 have ⟨gu, R0⟩ := lay1 hU
 rw [← hU]
 clear hU
 have lp := R0.lt
 obtain ⟨cp0, cp1, cp2, cp3, cp4, cp5⟩ := R0.t6
 obtain ⟨X, ex, sat, sh⟩ := b
 simp only at HP HR
 go_wp2_with fail
 clear cp0 cp1 cp2 cp3 cp4 cp5
 refine (HP.out _ (VX.out.gr gu)).mono ?_
 rintro e w1 ⟨vx, vs, rfl, hx1, hs1, g1⟩
 obtain ⟨xp, xc, rfl⟩ := hx1.len
 obtain ⟨sp, sl, rfl⟩ := hs1.len
 have ⟨Fp_1, lp_1⟩ := CellsAt.gl (R0) g1
 have z1 := (gu).trans g1
 clear R0 gu g1
 obtain ⟨cp0, cp1, cp2, cp3, cp4, cp5⟩ := Fp_1.t6
 go_wp2_with fail
 clear cp0 cp1 cp2 cp3 cp4 cp5
 have hx2 := hx1.gr ((Gr.refl w1).alloc #[.slice xp X.length xc, .int .i64 ex, .bool sat, .slice sp sh.length sl] 27)
 have hs2 := hs1.gr ((Gr.refl w1).alloc #[.slice xp X.length xc, .int .i64 ex, .bool sat, .slice sp sh.length sl] 27)
 obtain ⟨u2, hq2⟩ : ∃ zz, zz = (w1.alloc (.cells #[.slice xp X.length xc, .int .i64 ex, .bool sat, .slice sp sh.length sl] 27)) := ⟨_, rfl⟩
 rw [← hq2] at hx2 hs2
 have Yp2 : CellsAt u2 (w.heap.size) 24 #[.int .i64 fo, .int .i64 lo, .int .i64 ke, .int .i64 sc, .int .i64 mo, .bool iv] := by rw [hq2]; first | exact (Fp_1).alloc _ | simpa using (Fp_1).alloc _
 have Yb2 : CellsAt u2 (w1.heap.size) 27 #[.slice xp X.length xc, .int .i64 ex, .bool sat, .slice sp sh.length sl] := by rw [hq2]; first | exact CellsAt.new w1 27 #[.slice xp X.length xc, .int .i64 ex, .bool sat, .slice sp sh.length sl] | simpa using CellsAt.new w1 27 #[.slice xp X.length xc, .int .i64 ex, .bool sat, .slice sp sh.length sl]
 have y2 : Gr w u2 := by rw [hq2]; exact (z1).alloc _ _
 rw [← hq2]
 clear hq2
 refine (HM.out _ (VX.out.gr y2)).mono ?_
 rintro e w2 ⟨rfl, g2⟩
 have hx3 := hx2.gr g2
 have hs3 := hs2.gr g2
 have ⟨Fp_2, lp_2⟩ := CellsAt.gl (Yp2) g2
 have ⟨Fb_2, lb_2⟩ := CellsAt.gl (Yb2) g2
 have z2 := (y2).trans g2
 clear Yp2 Yb2 y2 g2
 go_wp2_with fail
 have KS : ∀ W, Gr w2 W → (W.cell? ⟨w.heap.size, 0, none⟩ = some (.int .i64 fo) ∧ W.cell? ⟨w.heap.size, 1, none⟩ = some (.int .i64 lo) ∧ W.cell? ⟨w.heap.size, 2, none⟩ = some (.int .i64 ke) ∧ W.cell? ⟨w.heap.size, 3, none⟩ = some (.int .i64 sc) ∧ W.cell? ⟨w.heap.size, 4, none⟩ = some (.int .i64 mo) ∧ W.cell? ⟨w.heap.size, 5, none⟩ = some (.bool iv) ∧ W.cell? ⟨w1.heap.size, 0, none⟩ = some (.slice xp X.length xc) ∧ W.cell? ⟨w1.heap.size, 1, none⟩ = some (.int .i64 ex) ∧ W.cell? ⟨w1.heap.size, 2, none⟩ = some (.bool sat) ∧ W.cell? ⟨w1.heap.size, 3, none⟩ = some (.slice sp sh.length sl)) := fun W hG => ⟨(CellsAt.gr Fp_2 hG).cell 0, (CellsAt.gr Fp_2 hG).cell 1, (CellsAt.gr Fp_2 hG).cell 2, (CellsAt.gr Fp_2 hG).cell 3, (CellsAt.gr Fp_2 hG).cell 4, (CellsAt.gr Fp_2 hG).cell 5, (CellsAt.gr Fb_2 hG).cell 0, (CellsAt.gr Fb_2 hG).cell 1, (CellsAt.gr Fb_2 hG).cell 2, (CellsAt.gr Fb_2 hG).cell 3⟩
 have hclG := gr_closed w2
 try simp only [List.append_eq, List.cons_append, List.nil_append]
 refine wp_region_grow (S := Gr w2) rfl (Gr.drew (Gr.refl _)) ?_
 refine wpG_call (i := 0) hclG rfl (by kernel_rfl) (by kernel_rfl) (by kernel_rfl) (fun _ _ _ h => h) (fun W hS => AL.out W) (by rfl) ?_ ?_
 ·(intro w' hSw; go_simp; try with_reducible rfl)
 try simp only [Act.put, putS]
 refine gK 1 hclG KS ?_
 refine gK 2 hclG KS ?_
 refine gK 3 hclG KS ?_
 refine gK 4 hclG KS ?_
 refine gK 5 hclG KS ?_
 refine gK 6 hclG KS ?_
 refine gK 7 hclG KS ?_
 refine gK 8 hclG KS ?_
 refine wpG_ready (rs := [9]) (by kernel_rfl) (by simp) (fun w6 g6 s6 => ?_)
 refine AllG.cons rfl (fun K hK => ?_) AllG.nil
 replace g6 := (Gr.drew (Gr.refl w2)).trans g6
 go_simp
 refine (HR.out _ (VX.out.gr ((z2).trans g6))).mono ?_
 rintro e w7 ⟨ux, us, rfl, kx7, ks7, g7⟩
 refine hK.out _ _ ?_ ?_
 ·exact s6.trans g7
 clear hK K
 try simp only [Act.put, putS]
 refine wpG_ready (rs := [10]) (by kernel_rfl) (by simp) (fun w8 g8 s8 => ?_)
 refine AllG.cons rfl (fun K hK => ?_) AllG.nil
 have gg := (g6.trans g7).trans g8
 go_simp
 refine (same15_c _ _ _ _ ex sat X sh _ (hx3.gr gg) (hs3.gr gg) (kx7.gr g8) (ks7.gr g8)).mono ?_
 rintro e w9 ⟨rfl, g9⟩
 refine hK.out _ _ ?_ ?_
 ·exact s8.trans g9
 clear hK K
 try simp only [Act.put, putS]
 refine gK 11 hclG KS ?_
 refine gK 12 hclG KS ?_
 refine wpG_done (by kernel_rfl) (fun wa ga => ?_) _
 clear hclG KS
 go_wp2_with fail
 go_ret
 exact ⟨by first | rfl | (simp; done), (((z2).trans gg).trans g9).trans ga⟩
end
end Go.Proofs.YtablflakcaimmaaGreat
