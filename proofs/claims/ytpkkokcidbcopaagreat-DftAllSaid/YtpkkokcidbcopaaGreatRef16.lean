/- What reference 16's small functions answer: sums of 80 bits in two. -/
import Derived.Test.YtpkkokcidbcopaaGreatWide
import Derived.Test.YtpkkokcidbcopaaGreatGiCalls
import Derived.Test.YtpkkokcidbcopaaGreatRef10
import Derived.Test.YtpkkokcidbcopaaGreatFlip
import Derived.Test.YtpkkokcidbcopaaGreatGrow
namespace Go.Proofs.YtpkkokcidbcopaaGreat
open Go.ChangeShapes Go.WideShapes Go.ChangeAt Go.RowKit
set_option linter.unusedVariables false
set_option linter.unusedSimpArgs false
set_option maxRecDepth 100000

theorem floor20_c (x : Int) (wx : -9223372036854775808 ≤ x ∧ x ≤ 9223372036854775807) (w : World) :
    Calls Tryz.prog 22 #[.int .i64 x, .int .i64 20] w fun e w' => e = .returned (.int .i64 (x / 1048576)) ∧ Gr w w' :=
  calls_gr (floor_c x 20 wx (by decide) (by decide) w)
theorem floor12_c (x : Int) (wx : -9223372036854775808 ≤ x ∧ x ≤ 9223372036854775807) (w : World) :
    Calls Tryz.prog 22 #[.int .i64 x, .int .i64 12] w fun e w' => e = .returned (.int .i64 (x / 4096)) ∧ Gr w w' :=
  calls_gr (floor_c x 12 wx (by decide) (by decide) w)
theorem pow20_c (w : World) : Calls Tryz.prog 40 #[.int .i64 20] w fun e w' => e = .returned (.int .i64 1048576) ∧ Gr w w' := calls_gr (pow_c 20 (by decide) (by decide) w)

set_option maxHeartbeats 2000000 in
theorem norm16_of (h l up H m L : Int) (HF : Hid (∀ W, Calls Tryz.prog 22 #[.int .i64 l, .int .i64 20] W fun e w' => e = .returned (.int .i64 up) ∧ Gr W w')) (HP : Hid (∀ W, Calls Tryz.prog 40 #[.int .i64 20] W fun e w' => e = .returned (.int .i64 1048576) ∧ Gr W w'))
    (e1 : IntKind.i64.wrap (h + up) = H) (e2 : IntKind.i64.wrap (up * 1048576) = m) (e3 : IntKind.i64.wrap (l - m) = L) (w : World) :
    Calls Tryz.prog 45 #[.agg #[.int .i64 h, .int .i64 l]] w fun e w' => e = .returned (.agg #[.int .i64 H, .int .i64 L]) ∧ Gr w w' := by
  go_enter Tryz.func45, Tryz.ntmps45
  go_wp2_with fail
  obtain ⟨u0, hU⟩ : ∃ uu, uu = ((w.alloc (.cells #[.int .i64 h, .int .i64 l] 51)).alloc (.cells #[.int .i64 0, .int .i64 0] 51)) := ⟨_, rfl⟩
  have gu : Gr w u0 := by rw [hU]; exact ((Gr.refl w).alloc _ _).alloc _ _
  have R0 : CellsAt u0 (w.heap.size) 51 #[.int .i64 h, .int .i64 l] := by
    rw [hU]
    have := ((CellsAt.new w 51 #[.int .i64 h, .int .i64 l]).alloc (.cells #[.int .i64 0, .int .i64 0] 51))
    simpa only [World.size_alloc] using this
  have R1 : CellsAt u0 (w.heap.size + 1) 51 #[.int .i64 0, .int .i64 0] := by
    rw [hU]
    have := (CellsAt.new (w.alloc (.cells #[.int .i64 h, .int .i64 l] 51)) 51 #[.int .i64 0, .int .i64 0])
    simpa only [World.size_alloc] using this
  rw [← hU]
  clear hU
  have lp := R0.lt
  have lr := R1.lt
  have cp0 := CellsAt.cell (R0) 0
  have cp1 := CellsAt.cell (R0) 1
  simp only [List.getElem?_toArray, List.getElem?_cons_zero, List.getElem?_cons_succ] at cp0 cp1
  go_wp2_with fail
  clear cp0 cp1
  refine (HF.out _).mono ?_
  rintro e w1 ⟨rfl, g1⟩
  have Fp_1 := CellsAt.gr (R0) g1
  have lp_1 := CellsAt.lt (Fp_1)
  have Fr_1 := CellsAt.gr (R1) g1
  have lr_1 := CellsAt.lt (Fr_1)
  have z1 := (gu).trans g1
  clear R0 R1 gu g1
  go_wp2_with fail
  obtain ⟨v1, hqp1⟩ : ∃ zz, zz = w1 := ⟨_, rfl⟩
  have Yp_p1 : CellsAt v1 (w.heap.size) 51 #[.int .i64 h, .int .i64 l] := by rw [hqp1]; first | exact Fp_1 | simpa using Fp_1
  have Yr_p1 : CellsAt v1 (w.heap.size + 1) 51 #[.int .i64 0, .int .i64 0] := by rw [hqp1]; first | exact Fr_1 | simpa using Fr_1
  have yp1 : Gr w v1 := by rw [hqp1]; exact z1
  rw [← hqp1]
  clear hqp1
  have KS : ∀ W, GB (w.heap.size + 1) v1 W → (W.cell? ⟨w.heap.size, 0, none⟩ = some (.int .i64 h) ∧ W.cell? ⟨w.heap.size, 1, none⟩ = some (.int .i64 l)) := fun W hG => ⟨(GB.cellsAt hG Yp_p1 (by omega)).cell 0, (GB.cellsAt hG Yp_p1 (by omega)).cell 1⟩
  have hclG := gb_closed (w.heap.size + 1) v1
  try simp only [List.append_eq, List.cons_append, List.nil_append]
  refine wp_region_grow (S := GB (w.heap.size + 1) v1) rfl (GB.drew (GB.refl _ _)) ?_
  refine wpG_take (i := 0) (v := ?_) hclG rfl (by kernel_rfl) (by kernel_rfl) (by kernel_rfl) (fun _ _ _ h => h) (by rfl) ?_ ?_
  rotate_left
  · (intro w' hSw; go_simp; try with_reducible rfl)
  try simp only [Act.put, List.setIfInBounds_toArray, List.set_cons_zero, List.set_cons_succ, List.getElem_toArray, List.getElem_cons_zero, List.getElem_cons_succ]
  refine wpG_take (i := 1) (v := ?_) hclG rfl (by kernel_rfl) (by kernel_rfl) (by kernel_rfl) (fun _ _ _ h => h) (by rfl) ?_ ?_
  rotate_left
  · (intro w' hSw; have hk := KS w' hSw; go_split_ands; go_simp; try with_reducible rfl)
  try simp only [Act.put, List.setIfInBounds_toArray, List.set_cons_zero, List.set_cons_succ, List.getElem_toArray, List.getElem_cons_zero, List.getElem_cons_succ]
  refine wpG_take (i := 2) (v := ?_) hclG rfl (by kernel_rfl) (by kernel_rfl) (by kernel_rfl) (fun _ _ _ h => h) (by rfl) ?_ ?_
  rotate_left
  · (intro w' hSw; go_simp; try with_reducible rfl)
  try simp only [Act.put, List.setIfInBounds_toArray, List.set_cons_zero, List.set_cons_succ, List.getElem_toArray, List.getElem_cons_zero, List.getElem_cons_succ]
  refine wpG_take (i := 3) (v := ?_) hclG rfl (by kernel_rfl) (by kernel_rfl) (by kernel_rfl) (fun _ _ _ h => h) (by rfl) ?_ ?_
  rotate_left
  · (intro w' hSw; go_simp; try with_reducible rfl)
  try simp only [Act.put, List.setIfInBounds_toArray, List.set_cons_zero, List.set_cons_succ, List.getElem_toArray, List.getElem_cons_zero, List.getElem_cons_succ]
  refine wpG_take (i := 4) (v := ?_) hclG rfl (by kernel_rfl) (by kernel_rfl) (by kernel_rfl) (fun _ _ _ h => h) (by rfl) ?_ ?_
  rotate_left
  · (intro w' hSw; go_simp; try with_reducible rfl)
  try simp only [Act.put, List.setIfInBounds_toArray, List.set_cons_zero, List.set_cons_succ, List.getElem_toArray, List.getElem_cons_zero, List.getElem_cons_succ]
  refine wpG_take (i := 5) (v := ?_) hclG rfl (by kernel_rfl) (by kernel_rfl) (by kernel_rfl) (fun _ _ _ h => h) (by rfl) ?_ ?_
  rotate_left
  · (intro w' hSw; have hk := KS w' hSw; go_split_ands; go_simp; try with_reducible rfl)
  try simp only [Act.put, List.setIfInBounds_toArray, List.set_cons_zero, List.set_cons_succ, List.getElem_toArray, List.getElem_cons_zero, List.getElem_cons_succ]
  refine wpG_take (i := 6) (v := ?_) hclG rfl (by kernel_rfl) (by kernel_rfl) (by kernel_rfl) (fun _ _ _ h => h) (by rfl) ?_ ?_
  rotate_left
  · (intro w' hSw; go_simp; try with_reducible rfl)
  try simp only [Act.put, List.setIfInBounds_toArray, List.set_cons_zero, List.set_cons_succ, List.getElem_toArray, List.getElem_cons_zero, List.getElem_cons_succ]
  refine wpG_call (i := 7) hclG rfl (by kernel_rfl) (by kernel_rfl) (by kernel_rfl) (fun _ _ _ h => h) (fun W _ => HP.out W) (by rfl) ?_ ?_
  · (intro w' hSw; go_simp; try with_reducible rfl)
  try simp only [Act.put, List.setIfInBounds_toArray, List.set_cons_zero, List.set_cons_succ, List.getElem_toArray, List.getElem_cons_zero, List.getElem_cons_succ]
  refine wpG_take (i := 8) (v := ?_) hclG rfl (by kernel_rfl) (by kernel_rfl) (by kernel_rfl) (fun _ _ _ h => h) (by rfl) ?_ ?_
  rotate_left
  · (intro w' hSw; go_simp; try with_reducible rfl)
  try simp only [Act.put, List.setIfInBounds_toArray, List.set_cons_zero, List.set_cons_succ, List.getElem_toArray, List.getElem_cons_zero, List.getElem_cons_succ]
  refine wpG_take (i := 9) (v := ?_) hclG rfl (by kernel_rfl) (by kernel_rfl) (by kernel_rfl) (fun _ _ _ h => h) (by rfl) ?_ ?_
  rotate_left
  · (intro w' hSw; go_simp; try with_reducible rfl)
  try simp only [Act.put, List.setIfInBounds_toArray, List.set_cons_zero, List.set_cons_succ, List.getElem_toArray, List.getElem_cons_zero, List.getElem_cons_succ]
  refine wpG_take (i := 10) (v := ?_) hclG rfl (by kernel_rfl) (by kernel_rfl) (by kernel_rfl) (fun _ _ _ h => h) (by rfl) ?_ ?_
  rotate_left
  · (intro w' hSw; go_simp; try with_reducible rfl)
  try simp only [Act.put, List.setIfInBounds_toArray, List.set_cons_zero, List.set_cons_succ, List.getElem_toArray, List.getElem_cons_zero, List.getElem_cons_succ]
  refine wpG_ready (rs := [11]) (by kernel_rfl) (by simp) (fun w2 g2 s2 => ?_)
  refine AllG.cons rfl (fun K hK => ?_) AllG.nil
  replace g2 := (Gr.drew (Gr.refl v1)).trans g2
  have Fp_2 := CellsAt.gr (Yp_p1) g2
  have lp_2 := CellsAt.lt (Fp_2)
  have Fr_2 := CellsAt.gr (Yr_p1) g2
  have lr_2 := CellsAt.lt (Fr_2)
  have z2 := (yp1).trans g2
  clear Yp_p1 Yr_p1 yp1 g2
  have mr0 := CellsAt.frozen (Fr_2) 0
  have cr0 := CellsAt.cell (Fr_2) 0
  simp only [List.getElem?_toArray, List.getElem?_cons_zero, List.getElem?_cons_succ] at cr0
  have mr1 := CellsAt.frozen (Fr_2) 1
  have cr1 := CellsAt.cell (Fr_2) 1
  simp only [List.getElem?_toArray, List.getElem?_cons_zero, List.getElem?_cons_succ] at cr1
  go_simp
  clear mr0 cr0 mr1 cr1
  refine hK.out _ _ ?_ ?_
  · exact (GB.set (GB.set s2 _ _) _ _)
  clear hK K
  try simp only [Act.put, List.setIfInBounds_toArray, List.set_cons_zero, List.set_cons_succ, List.getElem_toArray, List.getElem_cons_zero, List.getElem_cons_succ]
  refine wpG_done (by kernel_rfl) (fun w3 g3 => ?_) _
  have Fp_3 := CellsAt.gr (((Fp_2).other (by omega) _ _).other (by omega) _ _) g3
  have lp_3 := CellsAt.lt (Fp_3)
  have Fr_3 := CellsAt.gr (CellsAt.set2 (Fr_2) _ _) g3
  have lr_3 := CellsAt.lt (Fr_3)
  have z3 := (((z2).setCell (by first | omega | (simp only; omega)) _).setCell (by first | omega | (simp only; omega)) _).trans g3
  clear g3
  clear hclG KS
  have cr0 := CellsAt.cell (Fr_3) 0
  have cr1 := CellsAt.cell (Fr_3) 1
  simp only [List.getElem?_toArray, List.getElem?_cons_zero, List.getElem?_cons_succ] at cr0 cr1
  go_wp2_with fail
  clear cr0 cr1
  obtain ⟨uf, hqp2⟩ : ∃ zz, zz = w3 := ⟨_, rfl⟩
  have Yp_p2 : CellsAt uf (w.heap.size) 51 #[.int .i64 h, .int .i64 l] := by rw [hqp2]; first | exact Fp_3 | simpa using Fp_3
  have Yr_p2 : CellsAt uf (w.heap.size + 1) 51 #[.int .i64 H, .int .i64 L] := by rw [hqp2]; first | exact Fr_3 | simpa using Fr_3
  have yp2 : Gr w uf := by rw [hqp2]; exact z3
  rw [← hqp2]
  clear hqp2
  have cr0 := CellsAt.cell (Yr_p2) 0
  have cr1 := CellsAt.cell (Yr_p2) 1
  simp only [List.getElem?_toArray, List.getElem?_cons_zero, List.getElem?_cons_succ] at cr0 cr1
  refine bodyPost_ret (v := .agg #[.int .i64 H, .int .i64 L]) ?_ rfl ⟨rfl, yp2⟩
  simp [results, Tryz.results45, go_sem, *]
theorem norm16_c (h l : Int) (h0 : -4611686018427387904 ≤ h ∧ h ≤ 4611686018427387904) (l0 : -4611686018427387904 ≤ l ∧ l ≤ 4611686018427387904) (w : World) :
    Calls Tryz.prog 45 #[.agg #[.int .i64 h, .int .i64 l]] w fun e w' => e = .returned (.agg #[.int .i64 (wdH (h * 1048576 + l)), .int .i64 (wdL (h * 1048576 + l))]) ∧ Gr w w' := by
  rw [← (wd_norm h l).1, ← (wd_norm h l).2]
  exact norm16_of h l (l / 1048576) _ (l / 1048576 * 1048576) _ (Lib.hid (floor20_c l ⟨by omega, by omega⟩)) (Lib.hid pow20_c) (IntWalk.i64_in _ ⟨by omega, by omega⟩) (IntWalk.i64_in _ ⟨by omega, by omega⟩) (IntWalk.i64_in _ ⟨by omega, by omega⟩) w

set_option maxHeartbeats 2000000 in
theorem times16_of (a b up m rest p q r0 r1 : Int) (HF : Hid (∀ W, Calls Tryz.prog 22 #[.int .i64 b, .int .i64 20] W fun e w' => e = .returned (.int .i64 up) ∧ Gr W w')) (HP : Hid (∀ W, Calls Tryz.prog 40 #[.int .i64 20] W fun e w' => e = .returned (.int .i64 1048576) ∧ Gr W w'))
    (e1 : wrap64 (up * 1048576) = m) (e2 : wrap64 (b - m) = rest) (e3 : wrap64 (a * up) = p) (e4 : wrap64 (a * rest) = q) (HN : Hid (∀ W, Calls Tryz.prog 45 #[.agg #[.int .i64 p, .int .i64 q]] W fun e w' => e = .returned (.agg #[.int .i64 r0, .int .i64 r1]) ∧ Gr W w')) (w : World) :
    Calls Tryz.prog 27 #[.int .i64 a, .int .i64 b] w fun e w' => e = .returned (.agg #[.int .i64 r0, .int .i64 r1]) ∧ Gr w w' := by
  go_enter Tryz.func27, Tryz.ntmps27
  go_wp2_with fail
  obtain ⟨u0, hU⟩ : ∃ uu, uu = (w.alloc (.cells #[.int .i64 0, .int .i64 0] 51)) := ⟨_, rfl⟩
  have gu : Gr w u0 := by rw [hU]; exact (Gr.refl w).alloc _ _
  have R0 : CellsAt u0 (w.heap.size) 51 #[.int .i64 0, .int .i64 0] := by
    rw [hU]
    have := (CellsAt.new w 51 #[.int .i64 0, .int .i64 0])
    simpa only [World.size_alloc] using this
  rw [← hU]
  clear hU
  have lr := R0.lt
  go_wp2_with fail
  refine (HF.out _).mono ?_
  rintro e w1 ⟨rfl, g1⟩
  have Fr_1 := CellsAt.gr (R0) g1
  have lr_1 := CellsAt.lt (Fr_1)
  have z1 := (gu).trans g1
  clear R0 gu g1
  go_wp2_with fail
  refine (HP.out _).mono ?_
  rintro e w2 ⟨rfl, g2⟩
  have Fr_2 := CellsAt.gr (Fr_1) g2
  have lr_2 := CellsAt.lt (Fr_2)
  have z2 := (z1).trans g2
  clear Fr_1 z1 g2
  go_wp2_with fail
  refine (HN.out _).mono ?_
  rintro e w3 ⟨rfl, g3⟩
  have Fr_3 := CellsAt.gr (Fr_2) g3
  have lr_3 := CellsAt.lt (Fr_3)
  have z3 := (z2).trans g3
  clear Fr_2 z2 g3
  have mr0 := CellsAt.frozen (Fr_3) 0
  have cr0 := CellsAt.cell (Fr_3) 0
  simp only [List.getElem?_toArray, List.getElem?_cons_zero, List.getElem?_cons_succ] at cr0
  have mr1 := CellsAt.frozen (Fr_3) 1
  have cr1 := CellsAt.cell (Fr_3) 1
  simp only [List.getElem?_toArray, List.getElem?_cons_zero, List.getElem?_cons_succ] at cr1
  go_wp2_with fail
  clear mr0 cr0 mr1 cr1
  obtain ⟨uf, hqp1⟩ : ∃ zz, zz = ((w3.setCell ⟨w.heap.size, 0, none⟩ (.int .i64 r0)).setCell ⟨w.heap.size, 1, none⟩ (.int .i64 r1)) := ⟨_, rfl⟩
  have Yr_p1 : CellsAt uf (w.heap.size) 51 #[.int .i64 r0, .int .i64 r1] := by rw [hqp1]; first | exact CellsAt.set2 (Fr_3) _ _ | simpa using CellsAt.set2 (Fr_3) _ _
  have yp1 : Gr w uf := by rw [hqp1]; exact ((z3).setCell (by first | omega | (simp only; omega)) _).setCell (by first | omega | (simp only; omega)) _
  rw [← hqp1]
  clear hqp1
  have cr0 := CellsAt.cell (Yr_p1) 0
  have cr1 := CellsAt.cell (Yr_p1) 1
  simp only [List.getElem?_toArray, List.getElem?_cons_zero, List.getElem?_cons_succ] at cr0 cr1
  refine bodyPost_ret (v := .agg #[.int .i64 r0, .int .i64 r1]) ?_ rfl ⟨rfl, yp1⟩
  simp [results, Tryz.results27, go_sem, *]
theorem times16_c (a b : Int) (ha : -2147483648 ≤ a ∧ a ≤ 2147483648) (hb : -1099511627776 ≤ b ∧ b ≤ 1099511627776) (w : World) :
    Calls Tryz.prog 27 #[.int .i64 a, .int .i64 b] w fun e w' => e = .returned (.agg #[.int .i64 (wdH (a * b)), .int .i64 (wdL (a * b))]) ∧ Gr w w' := by
  obtain ⟨b1, b2, b3, _⟩ := wd_times_bd a b ha hb
  have hn := norm16_c (a * (b / 1048576)) (a * (b - b / 1048576 * 1048576)) ⟨by omega, by omega⟩ ⟨by omega, by omega⟩
  rw [wd_times] at hn
  exact times16_of a b (b / 1048576) (b / 1048576 * 1048576) (b - b / 1048576 * 1048576) _ _ _ _ (Lib.hid (floor20_c b ⟨by omega, by omega⟩)) (Lib.hid pow20_c) (IntWalk.wrap64_in _ ⟨by omega, by omega⟩) (IntWalk.wrap64_in _ ⟨by omega, by omega⟩) (IntWalk.wrap64_in _ ⟨by omega, by omega⟩) (IntWalk.wrap64_in _ ⟨by omega, by omega⟩) (Lib.hid hn) w

set_option maxHeartbeats 2000000 in
theorem add16_of (ah al bh bl p q r0 r1 : Int) (e1 : wrap64 (ah + bh) = p) (e2 : wrap64 (al + bl) = q) (HN : Hid (∀ W, Calls Tryz.prog 45 #[.agg #[.int .i64 p, .int .i64 q]] W fun e w' => e = .returned (.agg #[.int .i64 r0, .int .i64 r1]) ∧ Gr W w')) (w : World) :
    Calls Tryz.prog 26 #[.agg #[.int .i64 ah, .int .i64 al], .agg #[.int .i64 bh, .int .i64 bl]] w fun e w' => e = .returned (.agg #[.int .i64 r0, .int .i64 r1]) ∧ Gr w w' := by
  go_enter Tryz.func26, Tryz.ntmps26
  go_wp2_with fail
  obtain ⟨u0, hU⟩ : ∃ uu, uu = (((w.alloc (.cells #[.int .i64 ah, .int .i64 al] 51)).alloc (.cells #[.int .i64 bh, .int .i64 bl] 51)).alloc (.cells #[.int .i64 0, .int .i64 0] 51)) := ⟨_, rfl⟩
  have gu : Gr w u0 := by rw [hU]; exact (((Gr.refl w).alloc _ _).alloc _ _).alloc _ _
  have R0 : CellsAt u0 (w.heap.size) 51 #[.int .i64 ah, .int .i64 al] := by
    rw [hU]
    have := (((CellsAt.new w 51 #[.int .i64 ah, .int .i64 al]).alloc (.cells #[.int .i64 bh, .int .i64 bl] 51)).alloc (.cells #[.int .i64 0, .int .i64 0] 51))
    simpa only [World.size_alloc] using this
  have R1 : CellsAt u0 (w.heap.size + 1) 51 #[.int .i64 bh, .int .i64 bl] := by
    rw [hU]
    have := ((CellsAt.new (w.alloc (.cells #[.int .i64 ah, .int .i64 al] 51)) 51 #[.int .i64 bh, .int .i64 bl]).alloc (.cells #[.int .i64 0, .int .i64 0] 51))
    simpa only [World.size_alloc] using this
  have R2 : CellsAt u0 (w.heap.size + 1 + 1) 51 #[.int .i64 0, .int .i64 0] := by
    rw [hU]
    have := (CellsAt.new ((w.alloc (.cells #[.int .i64 ah, .int .i64 al] 51)).alloc (.cells #[.int .i64 bh, .int .i64 bl] 51)) 51 #[.int .i64 0, .int .i64 0])
    simpa only [World.size_alloc] using this
  rw [← hU]
  clear hU
  have la := R0.lt
  have lb := R1.lt
  have lr := R2.lt
  have ca0 := CellsAt.cell (R0) 0
  have ca1 := CellsAt.cell (R0) 1
  have cb0 := CellsAt.cell (R1) 0
  have cb1 := CellsAt.cell (R1) 1
  simp only [List.getElem?_toArray, List.getElem?_cons_zero, List.getElem?_cons_succ] at ca0 ca1 cb0 cb1
  go_wp2_with fail
  clear ca0 ca1 cb0 cb1
  refine (HN.out _).mono ?_
  rintro e w1 ⟨rfl, g1⟩
  have Fa_1 := CellsAt.gr (R0) g1
  have la_1 := CellsAt.lt (Fa_1)
  have Fb_1 := CellsAt.gr (R1) g1
  have lb_1 := CellsAt.lt (Fb_1)
  have Fr_1 := CellsAt.gr (R2) g1
  have lr_1 := CellsAt.lt (Fr_1)
  have z1 := (gu).trans g1
  clear R0 R1 R2 gu g1
  have mr0 := CellsAt.frozen (Fr_1) 0
  have cr0 := CellsAt.cell (Fr_1) 0
  simp only [List.getElem?_toArray, List.getElem?_cons_zero, List.getElem?_cons_succ] at cr0
  have mr1 := CellsAt.frozen (Fr_1) 1
  have cr1 := CellsAt.cell (Fr_1) 1
  simp only [List.getElem?_toArray, List.getElem?_cons_zero, List.getElem?_cons_succ] at cr1
  go_wp2_with fail
  clear mr0 cr0 mr1 cr1
  obtain ⟨uf, hqp1⟩ : ∃ zz, zz = ((w1.setCell ⟨w.heap.size + 1 + 1, 0, none⟩ (.int .i64 r0)).setCell ⟨w.heap.size + 1 + 1, 1, none⟩ (.int .i64 r1)) := ⟨_, rfl⟩
  have Ya_p1 : CellsAt uf (w.heap.size) 51 #[.int .i64 ah, .int .i64 al] := by rw [hqp1]; first | exact ((Fa_1).other (by omega) _ _).other (by omega) _ _ | simpa using ((Fa_1).other (by omega) _ _).other (by omega) _ _
  have Yb_p1 : CellsAt uf (w.heap.size + 1) 51 #[.int .i64 bh, .int .i64 bl] := by rw [hqp1]; first | exact ((Fb_1).other (by omega) _ _).other (by omega) _ _ | simpa using ((Fb_1).other (by omega) _ _).other (by omega) _ _
  have Yr_p1 : CellsAt uf (w.heap.size + 1 + 1) 51 #[.int .i64 r0, .int .i64 r1] := by rw [hqp1]; first | exact CellsAt.set2 (Fr_1) _ _ | simpa using CellsAt.set2 (Fr_1) _ _
  have yp1 : Gr w uf := by rw [hqp1]; exact ((z1).setCell (by first | omega | (simp only; omega)) _).setCell (by first | omega | (simp only; omega)) _
  rw [← hqp1]
  clear hqp1
  have cr0 := CellsAt.cell (Yr_p1) 0
  have cr1 := CellsAt.cell (Yr_p1) 1
  simp only [List.getElem?_toArray, List.getElem?_cons_zero, List.getElem?_cons_succ] at cr0 cr1
  refine bodyPost_ret (v := .agg #[.int .i64 r0, .int .i64 r1]) ?_ rfl ⟨rfl, yp1⟩
  simp [results, Tryz.results26, go_sem, *]
theorem add16_c (u v : Int) (hu : Wd u) (hv : Wd v) (w : World) :
    Calls Tryz.prog 26 #[.agg #[.int .i64 (wdH (u)), .int .i64 (wdL (u))], .agg #[.int .i64 (wdH (v)), .int .i64 (wdL (v))]] w fun e w' => e = .returned (.agg #[.int .i64 (wdH (u + v)), .int .i64 (wdL (u + v))]) ∧ Gr w w' := by
  have bu := wd_in hu
  have bv := wd_in hv
  have hn := norm16_c (wdH u + wdH v) (wdL u + wdL v) ⟨by omega, by omega⟩ ⟨by omega, by omega⟩
  rw [wd_add] at hn
  exact add16_of _ _ _ _ _ _ _ _ (IntWalk.wrap64_in _ ⟨by omega, by omega⟩) (IntWalk.wrap64_in _ ⟨by omega, by omega⟩) (Lib.hid hn) w

set_option maxHeartbeats 2000000 in
theorem less16_of (ah al bh bl p q r0 r1 : Int) (e1 : wrap64 (ah - bh) = p) (e2 : wrap64 (al - bl) = q) (HN : Hid (∀ W, Calls Tryz.prog 45 #[.agg #[.int .i64 p, .int .i64 q]] W fun e w' => e = .returned (.agg #[.int .i64 r0, .int .i64 r1]) ∧ Gr W w')) (w : World) :
    Calls Tryz.prog 25 #[.agg #[.int .i64 ah, .int .i64 al], .agg #[.int .i64 bh, .int .i64 bl]] w fun e w' => e = .returned (.agg #[.int .i64 r0, .int .i64 r1]) ∧ Gr w w' := by
  go_enter Tryz.func25, Tryz.ntmps25
  go_wp2_with fail
  obtain ⟨u0, hU⟩ : ∃ uu, uu = (((w.alloc (.cells #[.int .i64 ah, .int .i64 al] 51)).alloc (.cells #[.int .i64 bh, .int .i64 bl] 51)).alloc (.cells #[.int .i64 0, .int .i64 0] 51)) := ⟨_, rfl⟩
  have gu : Gr w u0 := by rw [hU]; exact (((Gr.refl w).alloc _ _).alloc _ _).alloc _ _
  have R0 : CellsAt u0 (w.heap.size) 51 #[.int .i64 ah, .int .i64 al] := by
    rw [hU]
    have := (((CellsAt.new w 51 #[.int .i64 ah, .int .i64 al]).alloc (.cells #[.int .i64 bh, .int .i64 bl] 51)).alloc (.cells #[.int .i64 0, .int .i64 0] 51))
    simpa only [World.size_alloc] using this
  have R1 : CellsAt u0 (w.heap.size + 1) 51 #[.int .i64 bh, .int .i64 bl] := by
    rw [hU]
    have := ((CellsAt.new (w.alloc (.cells #[.int .i64 ah, .int .i64 al] 51)) 51 #[.int .i64 bh, .int .i64 bl]).alloc (.cells #[.int .i64 0, .int .i64 0] 51))
    simpa only [World.size_alloc] using this
  have R2 : CellsAt u0 (w.heap.size + 1 + 1) 51 #[.int .i64 0, .int .i64 0] := by
    rw [hU]
    have := (CellsAt.new ((w.alloc (.cells #[.int .i64 ah, .int .i64 al] 51)).alloc (.cells #[.int .i64 bh, .int .i64 bl] 51)) 51 #[.int .i64 0, .int .i64 0])
    simpa only [World.size_alloc] using this
  rw [← hU]
  clear hU
  have la := R0.lt
  have lb := R1.lt
  have lr := R2.lt
  have ca0 := CellsAt.cell (R0) 0
  have ca1 := CellsAt.cell (R0) 1
  have cb0 := CellsAt.cell (R1) 0
  have cb1 := CellsAt.cell (R1) 1
  simp only [List.getElem?_toArray, List.getElem?_cons_zero, List.getElem?_cons_succ] at ca0 ca1 cb0 cb1
  go_wp2_with fail
  clear ca0 ca1 cb0 cb1
  refine (HN.out _).mono ?_
  rintro e w1 ⟨rfl, g1⟩
  have Fa_1 := CellsAt.gr (R0) g1
  have la_1 := CellsAt.lt (Fa_1)
  have Fb_1 := CellsAt.gr (R1) g1
  have lb_1 := CellsAt.lt (Fb_1)
  have Fr_1 := CellsAt.gr (R2) g1
  have lr_1 := CellsAt.lt (Fr_1)
  have z1 := (gu).trans g1
  clear R0 R1 R2 gu g1
  have mr0 := CellsAt.frozen (Fr_1) 0
  have cr0 := CellsAt.cell (Fr_1) 0
  simp only [List.getElem?_toArray, List.getElem?_cons_zero, List.getElem?_cons_succ] at cr0
  have mr1 := CellsAt.frozen (Fr_1) 1
  have cr1 := CellsAt.cell (Fr_1) 1
  simp only [List.getElem?_toArray, List.getElem?_cons_zero, List.getElem?_cons_succ] at cr1
  go_wp2_with fail
  clear mr0 cr0 mr1 cr1
  obtain ⟨uf, hqp1⟩ : ∃ zz, zz = ((w1.setCell ⟨w.heap.size + 1 + 1, 0, none⟩ (.int .i64 r0)).setCell ⟨w.heap.size + 1 + 1, 1, none⟩ (.int .i64 r1)) := ⟨_, rfl⟩
  have Ya_p1 : CellsAt uf (w.heap.size) 51 #[.int .i64 ah, .int .i64 al] := by rw [hqp1]; first | exact ((Fa_1).other (by omega) _ _).other (by omega) _ _ | simpa using ((Fa_1).other (by omega) _ _).other (by omega) _ _
  have Yb_p1 : CellsAt uf (w.heap.size + 1) 51 #[.int .i64 bh, .int .i64 bl] := by rw [hqp1]; first | exact ((Fb_1).other (by omega) _ _).other (by omega) _ _ | simpa using ((Fb_1).other (by omega) _ _).other (by omega) _ _
  have Yr_p1 : CellsAt uf (w.heap.size + 1 + 1) 51 #[.int .i64 r0, .int .i64 r1] := by rw [hqp1]; first | exact CellsAt.set2 (Fr_1) _ _ | simpa using CellsAt.set2 (Fr_1) _ _
  have yp1 : Gr w uf := by rw [hqp1]; exact ((z1).setCell (by first | omega | (simp only; omega)) _).setCell (by first | omega | (simp only; omega)) _
  rw [← hqp1]
  clear hqp1
  have cr0 := CellsAt.cell (Yr_p1) 0
  have cr1 := CellsAt.cell (Yr_p1) 1
  simp only [List.getElem?_toArray, List.getElem?_cons_zero, List.getElem?_cons_succ] at cr0 cr1
  refine bodyPost_ret (v := .agg #[.int .i64 r0, .int .i64 r1]) ?_ rfl ⟨rfl, yp1⟩
  simp [results, Tryz.results25, go_sem, *]
theorem less16_c (u v : Int) (hu : Wd u) (hv : Wd v) (w : World) :
    Calls Tryz.prog 25 #[.agg #[.int .i64 (wdH (u)), .int .i64 (wdL (u))], .agg #[.int .i64 (wdH (v)), .int .i64 (wdL (v))]] w fun e w' => e = .returned (.agg #[.int .i64 (wdH (u - v)), .int .i64 (wdL (u - v))]) ∧ Gr w w' := by
  have bu := wd_in hu
  have bv := wd_in hv
  have hn := norm16_c (wdH u - wdH v) (wdL u - wdL v) ⟨by omega, by omega⟩ ⟨by omega, by omega⟩
  rw [wd_sub] at hn
  exact less16_of _ _ _ _ _ _ _ _ (IntWalk.wrap64_in _ ⟨by omega, by omega⟩) (IntWalk.wrap64_in _ ⟨by omega, by omega⟩) (Lib.hid hn) w

set_option maxHeartbeats 2000000 in
theorem down16_of (h l r : Int) (HF : Hid (∀ W, Calls Tryz.prog 22 #[.int .i64 h, .int .i64 12] W fun e w' => e = .returned (.int .i64 r) ∧ Gr W w')) (w : World) :
    Calls Tryz.prog 28 #[.agg #[.int .i64 h, .int .i64 l]] w fun e w' => e = .returned (.int .i64 r) ∧ Gr w w' := by
  go_enter Tryz.func28, Tryz.ntmps28
  go_wp2_with fail
  obtain ⟨u0, hU⟩ : ∃ uu, uu = (w.alloc (.cells #[.int .i64 h, .int .i64 l] 51)) := ⟨_, rfl⟩
  have gu : Gr w u0 := by rw [hU]; exact (Gr.refl w).alloc _ _
  have R0 : CellsAt u0 (w.heap.size) 51 #[.int .i64 h, .int .i64 l] := by
    rw [hU]
    have := (CellsAt.new w 51 #[.int .i64 h, .int .i64 l])
    simpa only [World.size_alloc] using this
  rw [← hU]
  clear hU
  have la := R0.lt
  have ca0 := CellsAt.cell (R0) 0
  have ca1 := CellsAt.cell (R0) 1
  simp only [List.getElem?_toArray, List.getElem?_cons_zero, List.getElem?_cons_succ] at ca0 ca1
  go_wp2_with fail
  clear ca0 ca1
  refine (HF.out _).mono ?_
  rintro e w1 ⟨rfl, g1⟩
  have Fa_1 := CellsAt.gr (R0) g1
  have la_1 := CellsAt.lt (Fa_1)
  have z1 := (gu).trans g1
  clear R0 gu g1
  go_wp2_with fail
  go_ret
  exact ⟨rfl, z1⟩
theorem down16_c (v : Int) (hv : Wd v) (w : World) :
    Calls Tryz.prog 28 #[.agg #[.int .i64 (wdH (v)), .int .i64 (wdL (v))]] w fun e w' => e = .returned (.int .i64 (v / 4294967296)) ∧ Gr w w' := by
  have b := wd_in hv
  rw [← wd_down]
  exact down16_of _ _ _ (Lib.hid (floor12_c (wdH v) ⟨by omega, by omega⟩)) w

end Go.Proofs.YtpkkokcidbcopaaGreat
