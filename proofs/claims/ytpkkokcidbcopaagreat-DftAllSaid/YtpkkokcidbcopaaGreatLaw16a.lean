/- What DftBins and DftAll say, over what package dft and reference 16 answer. -/
import Derived.Test.YtpkkokcidbcopaaGreatLaw16
import Derived.Test.YtpkkokcidbcopaaGreatRef16c
namespace Go.Proofs.YtpkkokcidbcopaaGreat
open Go.ChangeShapes Go.WideShapes Go.ChangeAt Go.RowKit
set_option linter.unusedVariables false
set_option linter.unusedSimpArgs false
set_option maxRecDepth 100000

set_option maxHeartbeats 4000000 in
theorem dftBins_no (p : Option Addr) (l1 cap1 m1 : Nat) (xs : List Gi) (hm1 : m1 ≤ cap1) (hmin1 : (if (70 : Int) < (l1 : Int) then 70 else (l1 : Int)) = (m1 : Int)) (a1 y : Int) (iv : Bool) (hy : ¬ y = 0) (hyb : (y == 0) = false) (HB : Hid (∀ W, CxsAt W (.slice p m1 cap1) xs → Calls Tryz.prog 5 #[.slice p m1 cap1, .int .i64 a1, .bool iv] W fun e w' => e = .returned (.tuple #[.agg #[.int .i64 0, .int .i64 0], .int .i64 y]) ∧ Gr W w')) (HS : Hid (∀ W, CxsAt W (.slice p m1 cap1) xs → Calls Tryz.prog 6 #[.slice p m1 cap1] W fun e w' => e = .returned (.tuple #[.int .i64 0, .int .i64 y]) ∧ Gr W w')) (HM : Hid (∀ W, CxsAt W (.slice p m1 cap1) xs → Calls Tryz.prog 7 #[.slice p m1 cap1] W fun e w' => e = .returned (.int .i64 y) ∧ Gr W w')) (AL : Hid (∀ W, Calls Tryz.prog 8 #[] W fun e w' => e = .returned (.bool true) ∧ Gr W w')) (w : World) (hx : CxsAt w (.slice p m1 cap1) xs) :
    Calls Tryz.prog 3 #[.slice p l1 cap1, .int .i64 a1, .bool iv] w fun e w' => e = .returned (.bool true) ∧ Gr w w' := by
  have hcut1 := run_cut_cx p l1 cap1 m1 hm1
  have he := fun W => cx_equal 0 0 W
  have VX := Lib.hid hx
  clear hx
  go_enter Tryz.func3, Tryz.ntmps3
  go_wp2_with fail
  refine (HB.out _ VX.out).mono ?_
  rintro e w1 ⟨rfl, g1⟩
  have z1 := (Gr.refl w).trans g1
  clear g1
  go_wp2_with fail
  obtain ⟨u2, hqp1⟩ : ∃ zz, zz = (w1.alloc (.cells #[.int .i64 0, .int .i64 0] 24)) := ⟨_, rfl⟩
  have Yb_p1 : CellsAt u2 (w1.heap.size) 24 #[.int .i64 0, .int .i64 0] := by rw [hqp1]; first | exact CellsAt.new w1 24 #[.int .i64 0, .int .i64 0] | simpa using CellsAt.new w1 24 #[.int .i64 0, .int .i64 0]
  have yp1 : Gr w u2 := by rw [hqp1]; exact (z1).alloc _ _
  rw [← hqp1]
  clear hqp1
  refine (HS.out _ (VX.out.gr yp1)).mono ?_
  rintro e w2 ⟨rfl, g2⟩
  have Fb_2 := CellsAt.gr (Yb_p1) g2
  have lb_2 := CellsAt.lt (Fb_2)
  have z2 := (yp1).trans g2
  clear Yb_p1 yp1 g2
  go_wp2_with fail
  refine (HM.out _ (VX.out.gr z2)).mono ?_
  rintro e w3 ⟨rfl, g3⟩
  have Fb_3 := CellsAt.gr (Fb_2) g3
  have lb_3 := CellsAt.lt (Fb_3)
  have z3 := (z2).trans g3
  clear Fb_2 z2 g3
  go_wp2_with fail
  refine (AL.out _).mono ?_
  rintro e w4 ⟨rfl, g4⟩
  have Fb_4 := CellsAt.gr (Fb_3) g4
  have lb_4 := CellsAt.lt (Fb_4)
  have z4 := (z3).trans g4
  clear Fb_3 z3 g4
  have cb0 := CellsAt.cell (Fb_4) 0
  have cb1 := CellsAt.cell (Fb_4) 1
  simp only [List.getElem?_toArray, List.getElem?_cons_zero, List.getElem?_cons_succ] at cb0 cb1
  go_wp2_with fail
  clear cb0 cb1
  go_ret
  exact ⟨by first | rfl | (simp; done), z4⟩

set_option maxHeartbeats 4000000 in
theorem dftBins_yes (p : Option Addr) (l1 cap1 m1 : Nat) (xs : List Gi) (hm1 : m1 ≤ cap1) (hmin1 : (if (70 : Int) < (l1 : Int) then 70 else (l1 : Int)) = (m1 : Int)) (a1 s q : Int) (iv : Bool) (b : Gi) (ws : List Gi) (HB : Hid (∀ W, CxsAt W (.slice p m1 cap1) xs → Calls Tryz.prog 5 #[.slice p m1 cap1, .int .i64 a1, .bool iv] W fun e w' => e = .returned (.tuple #[.agg #[.int .i64 (b).re, .int .i64 (b).im], .int .i64 0]) ∧ Gr W w')) (HS : Hid (∀ W, CxsAt W (.slice p m1 cap1) xs → Calls Tryz.prog 6 #[.slice p m1 cap1] W fun e w' => e = .returned (.tuple #[.int .i64 s, .int .i64 0]) ∧ Gr W w')) (HM : Hid (∀ W, CxsAt W (.slice p m1 cap1) xs → Calls Tryz.prog 7 #[.slice p m1 cap1] W fun e w' => e = .returned (.int .i64 0) ∧ Gr W w')) (HRS : Hid (∀ W, CxsAt W (.slice p m1 cap1) xs → Calls Tryz.prog 9 #[.slice p m1 cap1] W fun e w' => e = .returned (.int .i64 s) ∧ Gr W w'))
    (HR : Hid (∀ W, Calls Tryz.prog 11 #[.int .i64 (m1 : Int)] W fun e w' => ∃ v, e = .returned v ∧ CxsAt w' v ws ∧ Gr W w')) (HP : Hid (∀ W, Calls Tryz.prog 12 #[.int .i64 a1, .int .i64 (m1 : Int)] W fun e w' => e = .returned (.int .i64 q) ∧ Gr W w'))
    (HRB : Hid (∀ v W, CxsAt W (.slice p m1 cap1) xs → CxsAt W v ws → Calls Tryz.prog 10 #[.slice p m1 cap1, v, .int .i64 q, .bool iv] W fun e w' => e = .returned (.agg #[.int .i64 (b).re, .int .i64 (b).im]) ∧ Gr W w')) (AL : Hid (∀ W, Calls Tryz.prog 8 #[] W fun e w' => e = .returned (.bool true) ∧ Gr W w')) (w : World) (hx : CxsAt w (.slice p m1 cap1) xs) :
    Calls Tryz.prog 3 #[.slice p l1 cap1, .int .i64 a1, .bool iv] w fun e w' => e = .returned (.bool true) ∧ Gr w w' := by
  have hcut1 := run_cut_cx p l1 cap1 m1 hm1
  have he := fun W => cx_equal b.re b.im W
  have VX := Lib.hid hx
  clear hx
  go_enter Tryz.func3, Tryz.ntmps3
  go_wp2_with fail
  refine (HB.out _ VX.out).mono ?_
  rintro e w1 ⟨rfl, g1⟩
  have z1 := (Gr.refl w).trans g1
  clear g1
  go_wp2_with fail
  obtain ⟨u2, hqp1⟩ : ∃ zz, zz = (w1.alloc (.cells #[.int .i64 (b).re, .int .i64 (b).im] 24)) := ⟨_, rfl⟩
  have Yb_p1 : CellsAt u2 (w1.heap.size) 24 #[.int .i64 (b).re, .int .i64 (b).im] := by rw [hqp1]; first | exact CellsAt.new w1 24 #[.int .i64 (b).re, .int .i64 (b).im] | simpa using CellsAt.new w1 24 #[.int .i64 (b).re, .int .i64 (b).im]
  have yp1 : Gr w u2 := by rw [hqp1]; exact (z1).alloc _ _
  rw [← hqp1]
  clear hqp1
  refine (HS.out _ (VX.out.gr yp1)).mono ?_
  rintro e w2 ⟨rfl, g2⟩
  have Fb_2 := CellsAt.gr (Yb_p1) g2
  have lb_2 := CellsAt.lt (Fb_2)
  have z2 := (yp1).trans g2
  clear Yb_p1 yp1 g2
  go_wp2_with fail
  refine (HM.out _ (VX.out.gr z2)).mono ?_
  rintro e w3 ⟨rfl, g3⟩
  have Fb_3 := CellsAt.gr (Fb_2) g3
  have lb_3 := CellsAt.lt (Fb_3)
  have z3 := (z2).trans g3
  clear Fb_2 z2 g3
  go_wp2_with fail
  obtain ⟨uv, hqp2⟩ : ∃ zz, zz = w3 := ⟨_, rfl⟩
  have Yb_p2 : CellsAt uv (w1.heap.size) 24 #[.int .i64 (b).re, .int .i64 (b).im] := by rw [hqp2]; first | exact Fb_3 | simpa using Fb_3
  have yp2 : Gr w uv := by rw [hqp2]; exact z3
  rw [← hqp2]
  clear hqp2
  have KS : ∀ W, Gr uv W → (W.cell? ⟨w1.heap.size, 0, none⟩ = some (.int .i64 (b).re) ∧ W.cell? ⟨w1.heap.size, 1, none⟩ = some (.int .i64 (b).im)) := fun W hG => ⟨(CellsAt.gr Yb_p2 hG).cell 0, (CellsAt.gr Yb_p2 hG).cell 1⟩
  have hclG := gr_closed uv
  try simp only [List.append_eq, List.cons_append, List.nil_append]
  refine wp_region_grow (S := Gr uv) rfl (Gr.drew (Gr.refl _)) ?_
  refine wpG_call (i := 0) hclG rfl (by kernel_rfl) (by kernel_rfl) (by kernel_rfl) (fun _ _ _ h => h) (fun W _ => AL.out W) (by rfl) ?_ ?_
  · (intro w' hSw; go_simp; try with_reducible rfl)
  try simp only [Act.put, List.setIfInBounds_toArray, List.set_cons_zero, List.set_cons_succ, List.getElem_toArray, List.getElem_cons_zero, List.getElem_cons_succ]
  refine wpG_take (i := 1) (v := ?_) hclG rfl (by kernel_rfl) (by kernel_rfl) (by kernel_rfl) (fun _ _ _ h => h) (by rfl) ?_ ?_
  rotate_left
  · (intro w' hSw; go_simp; try with_reducible rfl)
  try simp only [Act.put, List.setIfInBounds_toArray, List.set_cons_zero, List.set_cons_succ, List.getElem_toArray, List.getElem_cons_zero, List.getElem_cons_succ]
  refine wpG_take (i := 2) (v := ?_) hclG rfl (by kernel_rfl) (by kernel_rfl) (by kernel_rfl) (fun _ _ _ h => h) (by rfl) ?_ ?_
  rotate_left
  · (intro w' hSw; go_simp; try with_reducible rfl)
  try simp only [Act.put, List.setIfInBounds_toArray, List.set_cons_zero, List.set_cons_succ, List.getElem_toArray, List.getElem_cons_zero, List.getElem_cons_succ]
  refine wpG_take (i := 3) (v := ?_) hclG rfl (by kernel_rfl) (by kernel_rfl) (by kernel_rfl) (fun _ _ _ h => h) (by rfl) ?_ ?_
  rotate_left
  · (intro w' hSw; go_simp; try with_reducible rfl)
  try simp only [Act.put, List.setIfInBounds_toArray, List.set_cons_zero, List.set_cons_succ, List.getElem_toArray, List.getElem_cons_zero, List.getElem_cons_succ]
  refine wpG_take (i := 4) (v := ?_) hclG rfl (by kernel_rfl) (by kernel_rfl) (by kernel_rfl) (fun _ _ _ h => h) (by rfl) ?_ ?_
  rotate_left
  · (intro w' hSw; go_simp; try with_reducible rfl)
  try simp only [Act.put, List.setIfInBounds_toArray, List.set_cons_zero, List.set_cons_succ, List.getElem_toArray, List.getElem_cons_zero, List.getElem_cons_succ]
  refine wpG_take (i := 5) (v := ?_) hclG rfl (by kernel_rfl) (by kernel_rfl) (by kernel_rfl) (fun _ _ _ h => h) (by rfl) ?_ ?_
  rotate_left
  · (intro w' hSw; go_simp; try with_reducible rfl)
  try simp only [Act.put, List.setIfInBounds_toArray, List.set_cons_zero, List.set_cons_succ, List.getElem_toArray, List.getElem_cons_zero, List.getElem_cons_succ]
  refine wpG_take (i := 6) (v := ?_) hclG rfl (by kernel_rfl) (by kernel_rfl) (by kernel_rfl) (fun _ _ _ h => h) (by rfl) ?_ ?_
  rotate_left
  · (intro w' hSw; go_simp; try with_reducible rfl)
  try simp only [Act.put, List.setIfInBounds_toArray, List.set_cons_zero, List.set_cons_succ, List.getElem_toArray, List.getElem_cons_zero, List.getElem_cons_succ]
  refine wpG_take (i := 7) (v := ?_) hclG rfl (by kernel_rfl) (by kernel_rfl) (by kernel_rfl) (fun _ _ _ h => h) (by rfl) ?_ ?_
  rotate_left
  · (intro w' hSw; go_simp; try with_reducible rfl)
  try simp only [Act.put, List.setIfInBounds_toArray, List.set_cons_zero, List.set_cons_succ, List.getElem_toArray, List.getElem_cons_zero, List.getElem_cons_succ]
  refine wpG_take (i := 8) (v := ?_) hclG rfl (by kernel_rfl) (by kernel_rfl) (by kernel_rfl) (fun _ _ _ h => h) (by rfl) ?_ ?_
  rotate_left
  · (intro w' hSw; go_simp; try with_reducible rfl)
  try simp only [Act.put, List.setIfInBounds_toArray, List.set_cons_zero, List.set_cons_succ, List.getElem_toArray, List.getElem_cons_zero, List.getElem_cons_succ]
  refine wpG_take (i := 9) (v := ?_) hclG rfl (by kernel_rfl) (by kernel_rfl) (by kernel_rfl) (fun _ _ _ h => h) (by rfl) ?_ ?_
  rotate_left
  · (intro w' hSw; go_simp; try with_reducible rfl)
  try simp only [Act.put, List.setIfInBounds_toArray, List.set_cons_zero, List.set_cons_succ, List.getElem_toArray, List.getElem_cons_zero, List.getElem_cons_succ]
  refine wpG_take (i := 10) (v := ?_) hclG rfl (by kernel_rfl) (by kernel_rfl) (by kernel_rfl) (fun _ _ _ h => h) (by rfl) ?_ ?_
  rotate_left
  · (intro w' hSw; go_simp; try with_reducible rfl)
  try simp only [Act.put, List.setIfInBounds_toArray, List.set_cons_zero, List.set_cons_succ, List.getElem_toArray, List.getElem_cons_zero, List.getElem_cons_succ]
  refine wpG_take (i := 11) (v := ?_) hclG rfl (by kernel_rfl) (by kernel_rfl) (by kernel_rfl) (fun _ _ _ h => h) (by rfl) ?_ ?_
  rotate_left
  · (intro w' hSw; go_simp; try with_reducible rfl)
  try simp only [Act.put, List.setIfInBounds_toArray, List.set_cons_zero, List.set_cons_succ, List.getElem_toArray, List.getElem_cons_zero, List.getElem_cons_succ]
  refine wpG_call (i := 12) hclG rfl (by kernel_rfl) (by kernel_rfl) (by kernel_rfl) (fun _ _ _ h => h) (fun W hW => HRS.out W (VX.out.gr ((yp2).trans hW))) (by rfl) ?_ ?_
  · (intro w' hSw; go_simp; try with_reducible rfl)
  try simp only [Act.put, List.setIfInBounds_toArray, List.set_cons_zero, List.set_cons_succ, List.getElem_toArray, List.getElem_cons_zero, List.getElem_cons_succ]
  refine wpG_take (i := 13) (v := ?_) hclG rfl (by kernel_rfl) (by kernel_rfl) (by kernel_rfl) (fun _ _ _ h => h) (by rfl) ?_ ?_
  rotate_left
  · (intro w' hSw; go_simp; try with_reducible rfl)
  try simp only [Act.put, List.setIfInBounds_toArray, List.set_cons_zero, List.set_cons_succ, List.getElem_toArray, List.getElem_cons_zero, List.getElem_cons_succ]
  refine wpG_take (i := 14) (v := ?_) hclG rfl (by kernel_rfl) (by kernel_rfl) (by kernel_rfl) (fun _ _ _ h => h) (by rfl) ?_ ?_
  rotate_left
  · (intro w' hSw; go_simp; try with_reducible rfl)
  try simp only [Act.put, List.setIfInBounds_toArray, List.set_cons_zero, List.set_cons_succ, List.getElem_toArray, List.getElem_cons_zero, List.getElem_cons_succ]
  refine wpG_take (i := 15) (v := ?_) hclG rfl (by kernel_rfl) (by kernel_rfl) (by kernel_rfl) (fun _ _ _ h => h) (by rfl) ?_ ?_
  rotate_left
  · (intro w' hSw; go_simp; try with_reducible rfl)
  try simp only [Act.put, List.setIfInBounds_toArray, List.set_cons_zero, List.set_cons_succ, List.getElem_toArray, List.getElem_cons_zero, List.getElem_cons_succ]
  refine wpG_take (i := 16) (v := ?_) hclG rfl (by kernel_rfl) (by kernel_rfl) (by kernel_rfl) (fun _ _ _ h => h) (by rfl) ?_ ?_
  rotate_left
  · (intro w' hSw; have hk := KS w' hSw; go_split_ands; go_simp; try with_reducible rfl)
  try simp only [Act.put, List.setIfInBounds_toArray, List.set_cons_zero, List.set_cons_succ, List.getElem_toArray, List.getElem_cons_zero, List.getElem_cons_succ]
  refine wpG_take (i := 17) (v := ?_) hclG rfl (by kernel_rfl) (by kernel_rfl) (by kernel_rfl) (fun _ _ _ h => h) (by rfl) ?_ ?_
  rotate_left
  · (intro w' hSw; go_simp; try with_reducible rfl)
  try simp only [Act.put, List.setIfInBounds_toArray, List.set_cons_zero, List.set_cons_succ, List.getElem_toArray, List.getElem_cons_zero, List.getElem_cons_succ]
  refine wpG_take (i := 18) (v := ?_) hclG rfl (by kernel_rfl) (by kernel_rfl) (by kernel_rfl) (fun _ _ _ h => h) (by rfl) ?_ ?_
  rotate_left
  · (intro w' hSw; go_simp; try with_reducible rfl)
  try simp only [Act.put, List.setIfInBounds_toArray, List.set_cons_zero, List.set_cons_succ, List.getElem_toArray, List.getElem_cons_zero, List.getElem_cons_succ]
  refine wpG_take (i := 19) (v := ?_) hclG rfl (by kernel_rfl) (by kernel_rfl) (by kernel_rfl) (fun _ _ _ h => h) (by rfl) ?_ ?_
  rotate_left
  · (intro w' hSw; go_simp; try with_reducible rfl)
  try simp only [Act.put, List.setIfInBounds_toArray, List.set_cons_zero, List.set_cons_succ, List.getElem_toArray, List.getElem_cons_zero, List.getElem_cons_succ]
  refine wpG_take (i := 21) (v := ?_) hclG rfl (by kernel_rfl) (by kernel_rfl) (by kernel_rfl) (fun _ _ _ h => h) (by rfl) ?_ ?_
  rotate_left
  · (intro w' hSw; go_simp; try with_reducible rfl)
  try simp only [Act.put, List.setIfInBounds_toArray, List.set_cons_zero, List.set_cons_succ, List.getElem_toArray, List.getElem_cons_zero, List.getElem_cons_succ]
  refine wpG_take (i := 22) (v := ?_) hclG rfl (by kernel_rfl) (by kernel_rfl) (by kernel_rfl) (fun _ _ _ h => h) (by rfl) ?_ ?_
  rotate_left
  · (intro w' hSw; go_simp; try with_reducible rfl)
  try simp only [Act.put, List.setIfInBounds_toArray, List.set_cons_zero, List.set_cons_succ, List.getElem_toArray, List.getElem_cons_zero, List.getElem_cons_succ]
  refine wpG_take (i := 23) (v := ?_) hclG rfl (by kernel_rfl) (by kernel_rfl) (by kernel_rfl) (fun _ _ _ h => h) (by rfl) ?_ ?_
  rotate_left
  · (intro w' hSw; go_simp; try with_reducible rfl)
  try simp only [Act.put, List.setIfInBounds_toArray, List.set_cons_zero, List.set_cons_succ, List.getElem_toArray, List.getElem_cons_zero, List.getElem_cons_succ]
  refine wpG_take (i := 25) (v := ?_) hclG rfl (by kernel_rfl) (by kernel_rfl) (by kernel_rfl) (fun _ _ _ h => h) (by rfl) ?_ ?_
  rotate_left
  · (intro w' hSw; go_simp; try with_reducible rfl)
  try simp only [Act.put, List.setIfInBounds_toArray, List.set_cons_zero, List.set_cons_succ, List.getElem_toArray, List.getElem_cons_zero, List.getElem_cons_succ]
  refine wpG_ready (rs := [20]) (by kernel_rfl) (by simp) (fun w4 g4 s4 => ?_)
  refine AllG.cons rfl (fun K hK => ?_) AllG.nil
  replace g4 := (Gr.drew (Gr.refl uv)).trans g4
  have Fb_4 := CellsAt.gr (Yb_p2) g4
  have lb_4 := CellsAt.lt (Fb_4)
  have z4 := (yp2).trans g4
  clear Yb_p2 yp2 g4
  go_simp
  refine (HR.out w4).mono ?_
  rintro e w5 ⟨vr, rfl, hr, g5⟩
  have t5 := Gr.trans s4 g5
  have Fb_5 := CellsAt.gr (Fb_4) g5
  have lb_5 := CellsAt.lt (Fb_5)
  have z5 := (z4).trans g5
  clear Fb_4 z4 g5
  refine hK.out _ _ ?_ ?_
  · exact t5
  clear hK K
  try simp only [Act.put, List.setIfInBounds_toArray, List.set_cons_zero, List.set_cons_succ, List.getElem_toArray, List.getElem_cons_zero, List.getElem_cons_succ]
  refine wpG_call (i := 24) hclG rfl (by kernel_rfl) (by kernel_rfl) (by kernel_rfl) (fun _ _ _ h => h) (fun W _ => HP.out W) (by rfl) ?_ ?_
  · (intro w' hSw; go_simp; try with_reducible rfl)
  try simp only [Act.put, List.setIfInBounds_toArray, List.set_cons_zero, List.set_cons_succ, List.getElem_toArray, List.getElem_cons_zero, List.getElem_cons_succ]
  refine wpG_ready (rs := [26]) (by kernel_rfl) (by simp) (fun w6 g6 s6 => ?_)
  refine AllG.cons rfl (fun K hK => ?_) AllG.nil
  have Fb_6 := CellsAt.gr (Fb_5) g6
  have lb_6 := CellsAt.lt (Fb_6)
  have Kr_6 := CxsAt.gr (hr) g6
  have z6 := (z5).trans g6
  clear Fb_5 z5 g6
  go_simp
  refine (HRB.out _ _ (VX.out.gr z6) Kr_6).mono ?_
  rintro e w7 ⟨rfl, g7⟩
  have t7 := Gr.trans s6 g7
  have Fb_7 := CellsAt.gr (Fb_6) g7
  have lb_7 := CellsAt.lt (Fb_7)
  have Kr_7 := CxsAt.gr (Kr_6) g7
  have z7 := (z6).trans g7
  clear Fb_6 z6 g7
  refine hK.out _ _ ?_ ?_
  · exact t7
  clear hK K
  try simp only [Act.put, List.setIfInBounds_toArray, List.set_cons_zero, List.set_cons_succ, List.getElem_toArray, List.getElem_cons_zero, List.getElem_cons_succ]
  refine wpG_take (i := 27) (v := ?_) hclG rfl (by kernel_rfl) (by kernel_rfl) (by kernel_rfl) (fun _ _ _ h => h) (by rfl) ?_ ?_
  rotate_left
  · (intro w' hSw; go_simp; try with_reducible rfl)
  try simp only [Act.put, List.setIfInBounds_toArray, List.set_cons_zero, List.set_cons_succ, List.getElem_toArray, List.getElem_cons_zero, List.getElem_cons_succ]
  refine wpG_take (i := 28) (v := ?_) hclG rfl (by kernel_rfl) (by kernel_rfl) (by kernel_rfl) (fun _ _ _ h => h) (by rfl) ?_ ?_
  rotate_left
  · (intro w' hSw; go_simp; try with_reducible rfl)
  try simp only [Act.put, List.setIfInBounds_toArray, List.set_cons_zero, List.set_cons_succ, List.getElem_toArray, List.getElem_cons_zero, List.getElem_cons_succ]
  refine wpG_take (i := 29) (v := ?_) hclG rfl (by kernel_rfl) (by kernel_rfl) (by kernel_rfl) (fun _ _ _ h => h) (by rfl) ?_ ?_
  rotate_left
  · (intro w' hSw; go_simp; try with_reducible rfl)
  try simp only [Act.put, List.setIfInBounds_toArray, List.set_cons_zero, List.set_cons_succ, List.getElem_toArray, List.getElem_cons_zero, List.getElem_cons_succ]
  refine wpG_done (by kernel_rfl) (fun w8 g8 => ?_) _
  have Fb_8 := CellsAt.gr (Fb_7) g8
  have lb_8 := CellsAt.lt (Fb_8)
  have Kr_8 := CxsAt.gr (Kr_7) g8
  have z8 := (z7).trans g8
  clear Fb_7 z7 g8
  clear hclG KS
  go_wp2_with fail
  go_ret
  exact ⟨by first | rfl | (simp; done), z8⟩
theorem dftBins_all (p : Option Addr) (l1 cap1 m1 : Nat) (xs : List Gi) (hm1 : m1 ≤ cap1) (hmin1 : (if (70 : Int) < (l1 : Int) then 70 else (l1 : Int)) = (m1 : Int)) (a1 : Int) (iv : Bool) (hxn : xs.length = m1) (wk : -9223372036854775808 ≤ a1 ∧ a1 ≤ 9223372036854775807) (w : World) (hx : CxsAt w (.slice p m1 cap1) xs) :
    Calls Tryz.prog 3 #[.slice p l1 cap1, .int .i64 a1, .bool iv] w fun e w' => e = .returned (.bool true) ∧ Gr w w' := by
  by_cases h : ∃ L, IsLog (m1 : Int) L
  · obtain ⟨L, h⟩ := h
    have hl := h.len
    have hn : 4 ≤ m1 ∧ m1 ≤ 64 := by unfold IsLen at hl; omega
    by_cases hb : allIn 2147483648 xs = true
    · have e0 := Int.emod_nonneg a1 (show (m1 : Int) ≠ 0 by omega)
      have e1 := Int.emod_lt_of_pos a1 (show 0 < (m1 : Int) by omega)
      refine dftBins_yes p l1 cap1 m1 xs hm1 hmin1 a1 _ _ iv _ _ (Lib.hid fun W hW => dBin_yes m1 L h a1 iv p cap1 xs hxn hb W hW) (Lib.hid fun W hW => dSlack_yes m1 L h p cap1 xs hxn hb W hW) (Lib.hid fun W hW => rmay16_yes m1 L h p cap1 xs hxn 0 (.inl ⟨hb, rfl⟩) W hW) (Lib.hid fun W hW => rslack16_c m1 hn.2 p cap1 xs hxn hb W hW)
        (Lib.hid (rroots16_c m1 L h)) (Lib.hid fun W => calls_gr (rplace16_c a1 m1 hl wk W)) (Lib.hid fun v W h1 h2 => ?_) (Lib.hid alive16_c) w hx
      have := rbin16_c m1 hl (a1 % (m1 : Int)).toNat (by omega) iv p cap1 v xs hxn hb W h1 h2
      rw [Int.toNat_of_nonneg e0] at this
      exact this
    · have hb' : allIn 2147483648 xs = false := by simpa using hb
      have hw : DftWhy m1 xs 2 := .inr ⟨⟨L, h⟩, hb', rfl⟩
      exact dftBins_no p l1 cap1 m1 xs hm1 hmin1 a1 2 iv (by decide) (by decide) (Lib.hid fun W hW => dBin_no m1 a1 iv p cap1 xs hxn 2 hw W hW) (Lib.hid fun W hW => dSlack_no m1 p cap1 xs hxn 2 hw W hW) (Lib.hid fun W hW => rmay16_yes m1 L h p cap1 xs hxn 2 (.inr ⟨hb', rfl⟩) W hW) (Lib.hid alive16_c) w hx
  · have hw : DftWhy m1 xs 3 := .inl ⟨h, rfl⟩
    exact dftBins_no p l1 cap1 m1 xs hm1 hmin1 a1 3 iv (by decide) (by decide) (Lib.hid fun W hW => dBin_no m1 a1 iv p cap1 xs hxn 3 hw W hW) (Lib.hid fun W hW => dSlack_no m1 p cap1 xs hxn 3 hw W hW) (Lib.hid fun W hW => rmay16_no m1 h p cap1 W) (Lib.hid alive16_c) w hx

set_option maxHeartbeats 4000000 in
theorem dftAll_lno (p : Option Addr) (l1 cap1 m1 : Nat) (xs : List Gi) (hm1 : m1 ≤ cap1) (hmin1 : (if (70 : Int) < (l1 : Int) then 70 else (l1 : Int)) = (m1 : Int)) (y : Int) (iv : Bool) (hy : ¬ y = 0) (hyb : (y == 0) = false) (HB : Hid (∀ W, CxsAt W (.slice p m1 cap1) xs → Calls Tryz.prog 13 #[.slice p m1 cap1, .bool iv] W fun e w' => e = .returned (.tuple #[.slice none 0 0, .int .i64 y]) ∧ Gr W w')) (HM : Hid (∀ W, CxsAt W (.slice p m1 cap1) xs → Calls Tryz.prog 7 #[.slice p m1 cap1] W fun e w' => e = .returned (.int .i64 y) ∧ Gr W w')) (AL : Hid (∀ W, Calls Tryz.prog 8 #[] W fun e w' => e = .returned (.bool true) ∧ Gr W w')) (w : World) (hx : CxsAt w (.slice p m1 cap1) xs) :
    Calls Tryz.prog 4 #[.slice p l1 cap1, .bool iv] w fun e w' => e = .returned (.bool true) ∧ Gr w w' := by
  have hcut1 := run_cut_cx p l1 cap1 m1 hm1
  have VX := Lib.hid hx
  clear hx
  go_enter Tryz.func4, Tryz.ntmps4
  go_wp2_with fail
  refine (HB.out _ VX.out).mono ?_
  rintro e w1 ⟨rfl, g1⟩
  have z1 := (Gr.refl w).trans g1
  clear g1
  go_wp2_with fail
  refine (HM.out _ (VX.out.gr z1)).mono ?_
  rintro e w2 ⟨rfl, g2⟩
  have z2 := (z1).trans g2
  clear z1 g2
  go_wp2_with fail
  refine (AL.out _).mono ?_
  rintro e w3 ⟨rfl, g3⟩
  have z3 := (z2).trans g3
  clear z2 g3
  go_wp2_with fail
  go_ret
  exact ⟨by first | rfl | (simp; done), z3⟩

set_option maxHeartbeats 4000000 in
theorem dftAll_lyes (p : Option Addr) (l1 cap1 m1 : Nat) (xs : List Gi) (hm1 : m1 ≤ cap1) (hmin1 : (if (70 : Int) < (l1 : Int) then 70 else (l1 : Int)) = (m1 : Int)) (iv : Bool) (bs : List Gi) (HB : Hid (∀ W, CxsAt W (.slice p m1 cap1) xs → Calls Tryz.prog 13 #[.slice p m1 cap1, .bool iv] W fun e w' => ∃ v, e = .returned (.tuple #[v, .int .i64 0]) ∧ CxsAt w' v bs ∧ Gr W w')) (HM : Hid (∀ W, CxsAt W (.slice p m1 cap1) xs → Calls Tryz.prog 7 #[.slice p m1 cap1] W fun e w' => e = .returned (.int .i64 0) ∧ Gr W w')) (HR : Hid (∀ W, CxsAt W (.slice p m1 cap1) xs → Calls Tryz.prog 15 #[.slice p m1 cap1, .bool iv] W fun e w' => ∃ v, e = .returned (v) ∧ CxsAt w' v bs ∧ Gr W w')) (AL : Hid (∀ W, Calls Tryz.prog 8 #[] W fun e w' => e = .returned (.bool true) ∧ Gr W w')) (w : World) (hx : CxsAt w (.slice p m1 cap1) xs) :
    Calls Tryz.prog 4 #[.slice p l1 cap1, .bool iv] w fun e w' => e = .returned (.bool true) ∧ Gr w w' := by
  have hcut1 := run_cut_cx p l1 cap1 m1 hm1
  have VX := Lib.hid hx
  clear hx
  go_enter Tryz.func4, Tryz.ntmps4
  go_wp2_with fail
  refine (HB.out _ VX.out).mono ?_
  rintro e w1 ⟨vb, rfl, hb, g1⟩
  have z1 := (Gr.refl w).trans g1
  clear g1
  go_wp2_with fail
  refine (HM.out _ (VX.out.gr z1)).mono ?_
  rintro e w2 ⟨rfl, g2⟩
  have Kb_2 := CxsAt.gr (hb) g2
  have z2 := (z1).trans g2
  clear z1 g2
  go_wp2_with fail
  refine (AL.out _).mono ?_
  rintro e w3 ⟨rfl, g3⟩
  have Kb_3 := CxsAt.gr (Kb_2) g3
  have z3 := (z2).trans g3
  clear z2 g3
  go_wp2_with fail
  refine (HR.out _ (VX.out.gr z3)).mono ?_
  rintro e w4 ⟨vr, rfl, hr, g4⟩
  have Kb_4 := CxsAt.gr (Kb_3) g4
  have z4 := (z3).trans g4
  clear z3 g4
  go_wp2_with fail
  refine (same03_c _ _ bs _ Kb_4 hr).mono ?_
  rintro e w5 ⟨rfl, g5⟩
  have Kb_5 := CxsAt.gr (Kb_4) g5
  have Kr_5 := CxsAt.gr (hr) g5
  have z5 := (z4).trans g5
  clear z4 g5
  go_wp2_with fail
  go_ret
  exact ⟨by first | rfl | (simp; done), z5⟩
theorem dftAll_all (p : Option Addr) (l1 cap1 m1 : Nat) (xs : List Gi) (hm1 : m1 ≤ cap1) (hmin1 : (if (70 : Int) < (l1 : Int) then 70 else (l1 : Int)) = (m1 : Int)) (iv : Bool) (hxn : xs.length = m1) (w : World) (hx : CxsAt w (.slice p m1 cap1) xs) :
    Calls Tryz.prog 4 #[.slice p l1 cap1, .bool iv] w fun e w' => e = .returned (.bool true) ∧ Gr w w' := by
  by_cases h : ∃ L, IsLog (m1 : Int) L
  · obtain ⟨L, h⟩ := h
    by_cases hb : allIn 2147483648 xs = true
    · exact dftAll_lyes p l1 cap1 m1 xs hm1 hmin1 iv _ (Lib.hid fun W hW => dAll_yes m1 L h iv p cap1 xs hxn hb W hW) (Lib.hid fun W hW => rmay16_yes m1 L h p cap1 xs hxn 0 (.inl ⟨hb, rfl⟩) W hW) (Lib.hid fun W hW => rall16_c m1 L h iv p cap1 xs hxn hb W hW) (Lib.hid alive16_c) w hx
    · have hb' : allIn 2147483648 xs = false := by simpa using hb
      exact dftAll_lno p l1 cap1 m1 xs hm1 hmin1 2 iv (by decide) (by decide) (Lib.hid fun W hW => dAll_no m1 iv p cap1 xs hxn 2 (.inr ⟨⟨L, h⟩, hb', rfl⟩) W hW) (Lib.hid fun W hW => rmay16_yes m1 L h p cap1 xs hxn 2 (.inr ⟨hb', rfl⟩) W hW) (Lib.hid alive16_c) w hx
  · exact dftAll_lno p l1 cap1 m1 xs hm1 hmin1 3 iv (by decide) (by decide) (Lib.hid fun W hW => dAll_no m1 iv p cap1 xs hxn 3 (.inl ⟨h, rfl⟩) W hW) (Lib.hid fun W hW => rmay16_no m1 h p cap1 W) (Lib.hid alive16_c) w hx

end Go.Proofs.YtpkkokcidbcopaaGreat
