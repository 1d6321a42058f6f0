/- BudgetLeast: all cases. -/
import Derived.Test.YtmjghakodgihiaaLaw14
namespace Go.Proofs.Ytmjghakodgihiaa
open Go.ChangeShapes Go.WideShapes Go.ChangeAt Go.RowKit
set_option linter.unusedVariables false
set_option linter.unusedSimpArgs false
set_option maxRecDepth 100000


set_option maxHeartbeats 2000000 in
theorem budgetLeast_bad (p : Option Addr) (len cap : Nat) (ls : List Int) (fo lo ke sc mo ix md er : Int) (iv : Bool) (hmin : (if (10 : Int) < (len : Int) then 10 else (len : Int)) = (ls.length : Int)) (hcap : ls.length ≤ cap) (he : (er != 0) = true)
    (HO : Hid (∀ sp cl W, NumsAt W (.slice sp ls.length cl) ls → Calls Try.prog 14 #[.agg #[.int .i64 fo, .int .i64 lo, .int .i64 ke, .int .i64 sc, .int .i64 mo, .bool iv], .slice sp ls.length cl] W fun e w' => e = .returned (.tuple #[.int .i64 0, .int .i64 er]) ∧ Gr W w')) (AL : Hid (∀ W, Calls Try.prog 11 #[] W fun e w' => e = .returned (.bool true) ∧ Gr W w')) (w : World) (hl : NumsAt w (.slice p ls.length cap) ls) :
    Calls Try.prog 5 #[.agg #[.int .i64 fo, .int .i64 lo, .int .i64 ke, .int .i64 sc, .int .i64 mo, .bool iv], .slice p len cap, .int .i64 ix, .int .i64 md] w fun e w' => e = .returned (.bool true) ∧ Gr w w' := by
  have hcut := run_cut_int p len cap ls.length hcap
  go_enter Try.func5, Try.ntmps5
  go_wp2_with fail
  obtain ⟨u0, hu⟩ : ∃ uu, uu = w.alloc (.cells #[.int .i64 fo, .int .i64 lo, .int .i64 ke, .int .i64 sc, .int .i64 mo, .bool iv] 23) := ⟨_, rfl⟩
  have R0 : CellsAt u0 w.heap.size 23 #[.int .i64 fo, .int .i64 lo, .int .i64 ke, .int .i64 sc, .int .i64 mo, .bool iv] := by rw [hu]; exact CellsAt.new w 23 #[.int .i64 fo, .int .i64 lo, .int .i64 ke, .int .i64 sc, .int .i64 mo, .bool iv]
  have y0 : Gr w u0 := by rw [hu]; exact (Gr.refl w).alloc _ _
  have N0 := hl.gr y0
  rw [← hu]
  clear hu hl hcap
  refine (HO.out _ _ _ N0).mono ?_
  rintro e' w1 ⟨rfl, g1⟩
  have R1 := R0.gr g1
  have y1 := y0.trans g1
  have l1 := R1.lt
  have N1 := N0.gr g1
  clear R0 y0 g1 N0
  go_wp2_with fail
  refine (AL.out _).mono ?_
  rintro e' w2 ⟨rfl, g2⟩
  have R2 := R1.gr g2
  have y2 := y1.trans g2
  have l2 := R2.lt
  clear R1 y1 g2 l1
  go_wp2_with fail
  go_ret
  exact ⟨rfl, y2⟩


set_option maxHeartbeats 4000000 in
theorem budgetLeast_nil0 (p : Option Addr) (len cap : Nat) (ls : List Int) (fo lo ke sc mo ix md r r3 m2 n : Int) (iv : Bool) (hmin : (if (10 : Int) < (len : Int) then 10 else (len : Int)) = (ls.length : Int)) (hcap : ls.length ≤ cap) (hnil : Hid (ls.length = 0)) (hsc : (sc == 0) = true)
    (HMM : Hid (md.tmod 3 = r ∧ IntKind.i64.wrap (r + 3) = r3 ∧ r3.tmod 3 = m2)) (n0 : 0 ≤ n) (hlo0 : 0 ≤ lo) (hlo : lo ≤ 100) (hhalf : sc = 0 → n ≤ 64 * (6 * lo + 4))
    (HO : Hid (∀ sp cl W, NumsAt W (.slice sp ls.length cl) ls → Calls Try.prog 14 #[.agg #[.int .i64 fo, .int .i64 lo, .int .i64 ke, .int .i64 sc, .int .i64 mo, .bool iv], .slice sp ls.length cl] W fun e w' => e = .returned (.tuple #[.int .i64 n, .int .i64 0]) ∧ Gr W w')) (HOQ : Hid (∀ sp cl W, NumsAt W (.slice sp ls.length cl) ls → Calls Try.prog 14 #[.agg #[.int .i64 fo, .int .i64 lo, .int .i64 ke, .int .i64 sc, .int .i64 m2, .bool (!iv)], .slice sp ls.length cl] W fun e w' => e = .returned (.tuple #[.int .i64 n, .int .i64 0]) ∧ Gr W w')) (AL : Hid (∀ W, Calls Try.prog 11 #[] W fun e w' => e = .returned (.bool true) ∧ Gr W w')) (w : World) (hl : NumsAt w (.slice p ls.length cap) ls) :
    Calls Try.prog 5 #[.agg #[.int .i64 fo, .int .i64 lo, .int .i64 ke, .int .i64 sc, .int .i64 mo, .bool iv], .slice p len cap, .int .i64 ix, .int .i64 md] w fun e w' => e = .returned (.bool true) ∧ Gr w w' := by
  have hh := fun h => hhalf h
  clear hhalf
  have hh2 := hh (by simpa using hsc)
  clear hh
  have hcut := run_cut_int p len cap ls.length hcap
  go_enter Try.func5, Try.ntmps5
  go_wp2_with fail
  obtain ⟨u0, hu⟩ : ∃ uu, uu = w.alloc (.cells #[.int .i64 fo, .int .i64 lo, .int .i64 ke, .int .i64 sc, .int .i64 mo, .bool iv] 23) := ⟨_, rfl⟩
  have R0 : CellsAt u0 w.heap.size 23 #[.int .i64 fo, .int .i64 lo, .int .i64 ke, .int .i64 sc, .int .i64 mo, .bool iv] := by rw [hu]; exact CellsAt.new w 23 #[.int .i64 fo, .int .i64 lo, .int .i64 ke, .int .i64 sc, .int .i64 mo, .bool iv]
  have y0 : Gr w u0 := by rw [hu]; exact (Gr.refl w).alloc _ _
  have N0 := hl.gr y0
  rw [← hu]
  clear hu hl hcap
  refine (HO.out _ _ _ N0).mono ?_
  rintro e' w1 ⟨rfl, g1⟩
  have R1 := R0.gr g1
  have y1 := y0.trans g1
  have l1 := R1.lt
  have N1 := N0.gr g1
  clear R0 y0 g1 N0
  have c0 := CellsAt.cell R1 0
  have c1 := CellsAt.cell R1 1
  have c2 := CellsAt.cell R1 2
  have c3 := CellsAt.cell R1 3
  have c4 := CellsAt.cell R1 4
  have c5 := CellsAt.cell R1 5
  simp only [List.getElem?_toArray, List.getElem?_cons_zero, List.getElem?_cons_succ] at c0 c1 c2 c3 c4 c5
  go_wp2_with fail
  clear c0 c1 c2 c3 c4 c5
  obtain ⟨u2, hu⟩ : ∃ uu, uu = w1.alloc (.cells #[.int .i64 fo, .int .i64 lo, .int .i64 ke, .int .i64 sc, .int .i64 mo, .bool iv] 23) := ⟨_, rfl⟩
  have Q2 : CellsAt u2 w1.heap.size 23 #[.int .i64 fo, .int .i64 lo, .int .i64 ke, .int .i64 sc, .int .i64 mo, .bool iv] := by rw [hu]; exact CellsAt.new w1 23 #[.int .i64 fo, .int .i64 lo, .int .i64 ke, .int .i64 sc, .int .i64 mo, .bool iv]
  have P2 : CellsAt u2 w.heap.size 23 #[.int .i64 fo, .int .i64 lo, .int .i64 ke, .int .i64 sc, .int .i64 mo, .bool iv] := by rw [hu]; exact R1.alloc _
  have k2 : Gr w1 u2 := by rw [hu]; exact (Gr.refl w1).alloc _ _
  rw [← hu]
  clear hu
  have y2 : Gr w1 u2 := k2
  clear k2
  obtain ⟨hm1, hm2, hm3⟩ := HMM.out
  obtain ⟨u3, hqp21⟩ : ∃ zz, zz = u2 := ⟨_, rfl⟩
  have Yp_p21 : CellsAt u3 (w.heap.size) 23 #[.int .i64 fo, .int .i64 lo, .int .i64 ke, .int .i64 sc, .int .i64 mo, .bool iv] := by rw [hqp21]; first | exact P2 | simpa using P2
  have Yq_p21 : CellsAt u3 (w1.heap.size) 23 #[.int .i64 fo, .int .i64 lo, .int .i64 ke, .int .i64 sc, .int .i64 mo, .bool iv] := by rw [hqp21]; first | exact Q2 | simpa using Q2
  have yp21 : Gr w1 u3 := by rw [hqp21]; exact y2
  rw [← hqp21]
  clear hqp21
  have KS : ∀ W, GB (w1.heap.size) u3 W → (W.cell? ⟨w.heap.size, 0, none⟩ = some (.int .i64 fo) ∧ W.cell? ⟨w.heap.size, 1, none⟩ = some (.int .i64 lo) ∧ W.cell? ⟨w.heap.size, 2, none⟩ = some (.int .i64 ke) ∧ W.cell? ⟨w.heap.size, 3, none⟩ = some (.int .i64 sc) ∧ W.cell? ⟨w.heap.size, 4, none⟩ = some (.int .i64 mo) ∧ W.cell? ⟨w.heap.size, 5, none⟩ = some (.bool iv)) := fun W hG => ⟨(GB.cellsAt hG Yp_p21 (by omega)).cell 0, (GB.cellsAt hG Yp_p21 (by omega)).cell 1, (GB.cellsAt hG Yp_p21 (by omega)).cell 2, (GB.cellsAt hG Yp_p21 (by omega)).cell 3, (GB.cellsAt hG Yp_p21 (by omega)).cell 4, (GB.cellsAt hG Yp_p21 (by omega)).cell 5⟩
  have hclG := gb_closed (w1.heap.size) u3
  try simp only [List.append_eq, List.cons_append, List.nil_append]
  refine wp_region_grow (S := GB (w1.heap.size) u3) rfl (GB.drew (GB.refl _ _)) ?_
  refine wpG_take (i := 0) (v := ?_) hclG rfl (by kernel_rfl) (by kernel_rfl) (by kernel_rfl) (fun _ _ _ h => h) (by rfl) ?_ ?_
  rotate_left
  · (intro w' hSw; go_simp; try with_reducible rfl)
  try simp only [Act.put, List.setIfInBounds_toArray, List.set_cons_zero, List.set_cons_succ, List.getElem_toArray, List.getElem_cons_zero, List.getElem_cons_succ]
  refine wpG_take (i := 1) (v := ?_) hclG rfl (by kernel_rfl) (by kernel_rfl) (by kernel_rfl) (fun _ _ _ h => h) (by rfl) ?_ ?_
  rotate_left
  · (intro w' hSw; go_simp; try with_reducible rfl)
  try simp only [Act.put, List.setIfInBounds_toArray, List.set_cons_zero, List.set_cons_succ, List.getElem_toArray, List.getElem_cons_zero, List.getElem_cons_succ]
  refine wpG_take (i := 2) (v := ?_) hclG rfl (by kernel_rfl) (by kernel_rfl) (by kernel_rfl) (fun _ _ _ h => h) (by rfl) ?_ ?_
  rotate_left
  · (intro w' hSw; go_simp; try with_reducible rfl)
  try simp only [Act.put, List.setIfInBounds_toArray, List.set_cons_zero, List.set_cons_succ, List.getElem_toArray, List.getElem_cons_zero, List.getElem_cons_succ]
  refine wpG_take (i := 3) (v := ?_) hclG rfl (by kernel_rfl) (by kernel_rfl) (by kernel_rfl) (fun _ _ _ h => h) (by rfl) ?_ ?_
  rotate_left
  · (intro w' hSw; go_simp; try with_reducible rfl)
  try simp only [Act.put, List.setIfInBounds_toArray, List.set_cons_zero, List.set_cons_succ, List.getElem_toArray, List.getElem_cons_zero, List.getElem_cons_succ]
  refine wpG_take (i := 4) (v := ?_) hclG rfl (by kernel_rfl) (by kernel_rfl) (by kernel_rfl) (fun _ _ _ h => h) (by rfl) ?_ ?_
  rotate_left
  · (intro w' hSw; go_simp; try with_reducible rfl)
  try simp only [Act.put, List.setIfInBounds_toArray, List.set_cons_zero, List.set_cons_succ, List.getElem_toArray, List.getElem_cons_zero, List.getElem_cons_succ]
  refine wpG_take (i := 5) (v := ?_) hclG rfl (by kernel_rfl) (by kernel_rfl) (by kernel_rfl) (fun _ _ _ h => h) (by rfl) ?_ ?_
  rotate_left
  · (intro w' hSw; have hk := KS w' hSw; go_split_ands; go_simp; try with_reducible rfl)
  try simp only [Act.put, List.setIfInBounds_toArray, List.set_cons_zero, List.set_cons_succ, List.getElem_toArray, List.getElem_cons_zero, List.getElem_cons_succ]
  refine wpG_take (i := 6) (v := ?_) hclG rfl (by kernel_rfl) (by kernel_rfl) (by kernel_rfl) (fun _ _ _ h => h) (by rfl) ?_ ?_
  rotate_left
  · (intro w' hSw; go_simp; try with_reducible rfl)
  try simp only [Act.put, List.setIfInBounds_toArray, List.set_cons_zero, List.set_cons_succ, List.getElem_toArray, List.getElem_cons_zero, List.getElem_cons_succ]
  refine wpG_take (i := 7) (v := ?_) hclG rfl (by kernel_rfl) (by kernel_rfl) (by kernel_rfl) (fun _ _ _ h => h) (by rfl) ?_ ?_
  rotate_left
  · (intro w' hSw; go_simp; try with_reducible rfl)
  try simp only [Act.put, List.setIfInBounds_toArray, List.set_cons_zero, List.set_cons_succ, List.getElem_toArray, List.getElem_cons_zero, List.getElem_cons_succ]
  refine wpG_ready (rs := [8]) (by kernel_rfl) (by simp) (fun w21 g21 s21 => ?_)
  refine AllG.cons rfl (fun K hK => ?_) AllG.nil
  replace g21 := (Gr.drew (Gr.refl u3)).trans g21
  have Fp_21 := CellsAt.gr (Yp_p21) g21
  have lp_21 := CellsAt.lt (Fp_21)
  have Fq_21 := CellsAt.gr (Yq_p21) g21
  have lq_21 := CellsAt.lt (Fq_21)
  have z21 := (yp21).trans g21
  clear Yp_p21 Yq_p21 yp21 g21
  have mq0 := CellsAt.frozen (Fq_21) 0
  have cq0 := CellsAt.cell (Fq_21) 0
  simp only [List.getElem?_toArray, List.getElem?_cons_zero, List.getElem?_cons_succ] at cq0
  have mq1 := CellsAt.frozen (Fq_21) 1
  have cq1 := CellsAt.cell (Fq_21) 1
  simp only [List.getElem?_toArray, List.getElem?_cons_zero, List.getElem?_cons_succ] at cq1
  have mq2 := CellsAt.frozen (Fq_21) 2
  have cq2 := CellsAt.cell (Fq_21) 2
  simp only [List.getElem?_toArray, List.getElem?_cons_zero, List.getElem?_cons_succ] at cq2
  have mq3 := CellsAt.frozen (Fq_21) 3
  have cq3 := CellsAt.cell (Fq_21) 3
  simp only [List.getElem?_toArray, List.getElem?_cons_zero, List.getElem?_cons_succ] at cq3
  have mq4 := CellsAt.frozen (Fq_21) 4
  have cq4 := CellsAt.cell (Fq_21) 4
  simp only [List.getElem?_toArray, List.getElem?_cons_zero, List.getElem?_cons_succ] at cq4
  have mq5 := CellsAt.frozen (Fq_21) 5
  have cq5 := CellsAt.cell (Fq_21) 5
  simp only [List.getElem?_toArray, List.getElem?_cons_zero, List.getElem?_cons_succ] at cq5
  go_simp
  clear mq0 cq0 mq1 cq1 mq2 cq2 mq3 cq3 mq4 cq4 mq5 cq5
  refine hK.out _ _ ?_ ?_
  · exact (GB.set s21 _ _)
  clear hK K
  try simp only [Act.put, List.setIfInBounds_toArray, List.set_cons_zero, List.set_cons_succ, List.getElem_toArray, List.getElem_cons_zero, List.getElem_cons_succ]
  refine wpG_take (i := 9) (v := ?_) hclG rfl (by kernel_rfl) (by kernel_rfl) (by kernel_rfl) (fun _ _ _ h => h) (by rfl) ?_ ?_
  rotate_left
  · (intro w' hSw; go_simp; try with_reducible rfl)
  try simp only [Act.put, List.setIfInBounds_toArray, List.set_cons_zero, List.set_cons_succ, List.getElem_toArray, List.getElem_cons_zero, List.getElem_cons_succ]
  refine wpG_ready (rs := [10]) (by kernel_rfl) (by simp) (fun w22 g22 s22 => ?_)
  refine AllG.cons rfl (fun K hK => ?_) AllG.nil
  have Fp_22 := CellsAt.gr ((Fp_21).other (by omega) _ _) g22
  have lp_22 := CellsAt.lt (Fp_22)
  have Fq_22 : CellsAt w22 (w1.heap.size) 23 #[.int .i64 fo, .int .i64 lo, .int .i64 ke, .int .i64 sc, .int .i64 m2, .bool iv] := CellsAt.gr (CellsAt.set (Fq_21) 4 (.int .i64 m2)) g22
  have lq_22 := CellsAt.lt (Fq_22)
  have z22 := ((z21).setCell (by first | omega | (simp only; omega)) _).trans g22
  clear g22
  have mq0 := CellsAt.frozen (Fq_22) 0
  have cq0 := CellsAt.cell (Fq_22) 0
  simp only [List.getElem?_toArray, List.getElem?_cons_zero, List.getElem?_cons_succ] at cq0
  have mq1 := CellsAt.frozen (Fq_22) 1
  have cq1 := CellsAt.cell (Fq_22) 1
  simp only [List.getElem?_toArray, List.getElem?_cons_zero, List.getElem?_cons_succ] at cq1
  have mq2 := CellsAt.frozen (Fq_22) 2
  have cq2 := CellsAt.cell (Fq_22) 2
  simp only [List.getElem?_toArray, List.getElem?_cons_zero, List.getElem?_cons_succ] at cq2
  have mq3 := CellsAt.frozen (Fq_22) 3
  have cq3 := CellsAt.cell (Fq_22) 3
  simp only [List.getElem?_toArray, List.getElem?_cons_zero, List.getElem?_cons_succ] at cq3
  have mq4 := CellsAt.frozen (Fq_22) 4
  have cq4 := CellsAt.cell (Fq_22) 4
  simp only [List.getElem?_toArray, List.getElem?_cons_zero, List.getElem?_cons_succ] at cq4
  have mq5 := CellsAt.frozen (Fq_22) 5
  have cq5 := CellsAt.cell (Fq_22) 5
  simp only [List.getElem?_toArray, List.getElem?_cons_zero, List.getElem?_cons_succ] at cq5
  go_simp
  clear mq0 cq0 mq1 cq1 mq2 cq2 mq3 cq3 mq4 cq4 mq5 cq5
  refine hK.out _ _ ?_ ?_
  · exact (GB.set s22 _ _)
  clear hK K
  try simp only [Act.put, List.setIfInBounds_toArray, List.set_cons_zero, List.set_cons_succ, List.getElem_toArray, List.getElem_cons_zero, List.getElem_cons_succ]
  refine wpG_done (by kernel_rfl) (fun w23 g23 => ?_) _
  have Fp_23 := CellsAt.gr ((Fp_22).other (by omega) _ _) g23
  have lp_23 := CellsAt.lt (Fp_23)
  have Fq_23 : CellsAt w23 (w1.heap.size) 23 #[.int .i64 fo, .int .i64 lo, .int .i64 ke, .int .i64 sc, .int .i64 m2, .bool (!iv)] := CellsAt.gr (CellsAt.set (Fq_22) 5 (.bool (!iv))) g23
  have lq_23 := CellsAt.lt (Fq_23)
  have z23 := ((z22).setCell (by first | omega | (simp only; omega)) _).trans g23
  clear g23
  clear hclG KS
  clear hm1 hm2 hm3
  obtain ⟨u4, hqp22⟩ : ∃ zz, zz = w23 := ⟨_, rfl⟩
  have Yp_p22 : CellsAt u4 (w.heap.size) 23 #[.int .i64 fo, .int .i64 lo, .int .i64 ke, .int .i64 sc, .int .i64 mo, .bool iv] := by rw [hqp22]; first | exact Fp_23 | simpa using Fp_23
  have Yq_p22 : CellsAt u4 (w1.heap.size) 23 #[.int .i64 fo, .int .i64 lo, .int .i64 ke, .int .i64 sc, .int .i64 m2, .bool (!iv)] := by rw [hqp22]; first | exact Fq_23 | simpa using Fq_23
  have yp22 : Gr w1 u4 := by rw [hqp22]; exact z23
  rw [← hqp22]
  clear hqp22
  have cq0 := CellsAt.cell (Yq_p22) 0
  have cq1 := CellsAt.cell (Yq_p22) 1
  have cq2 := CellsAt.cell (Yq_p22) 2
  have cq3 := CellsAt.cell (Yq_p22) 3
  have cq4 := CellsAt.cell (Yq_p22) 4
  have cq5 := CellsAt.cell (Yq_p22) 5
  simp only [List.getElem?_toArray, List.getElem?_cons_zero, List.getElem?_cons_succ] at cq0 cq1 cq2 cq3 cq4 cq5
  go_wp2_with fail
  clear cq0 cq1 cq2 cq3 cq4 cq5
  have N4 := N1.gr yp22
  refine (HOQ.out _ _ _ N4).mono ?_
  rintro e' w5 ⟨rfl, g5⟩
  have R5 := Yp_p22.gr g5
  have z5 := yp22.trans g5
  have N5 := N1.gr z5
  have y5 := y1.trans z5
  have l5 := R5.lt
  clear N1 N4 g5 y1
  have c0 := CellsAt.cell R5 0
  have c1 := CellsAt.cell R5 1
  have c2 := CellsAt.cell R5 2
  have c3 := CellsAt.cell R5 3
  have c4 := CellsAt.cell R5 4
  have c5 := CellsAt.cell R5 5
  simp only [List.getElem?_toArray, List.getElem?_cons_zero, List.getElem?_cons_succ] at c0 c1 c2 c3 c4 c5
  go_wp2_with fail
  refine (AL.out _).mono ?_
  rintro e' w6 ⟨rfl, g6⟩
  have R6 := R5.gr g6
  have N6 := N5.gr g6
  have y6 := y5.trans g6
  have l6 := R6.lt
  clear c0 c1 c2 c3 c4 c5 R5 N5 y5 g6
  have hn0 : ((ls.length : Int) == 0) = true := by rw [hnil.out]; rfl
  go_wp2_with fail
  go_ret
  exact ⟨rfl, y6⟩


set_option maxHeartbeats 4000000 in
theorem budgetLeast_nil (p : Option Addr) (len cap : Nat) (ls : List Int) (fo lo ke sc mo ix md r r3 m2 n : Int) (iv : Bool) (hmin : (if (10 : Int) < (len : Int) then 10 else (len : Int)) = (ls.length : Int)) (hcap : ls.length ≤ cap) (hnil : Hid (ls.length = 0)) (hsc : (sc == 0) = false)
    (HMM : Hid (md.tmod 3 = r ∧ IntKind.i64.wrap (r + 3) = r3 ∧ r3.tmod 3 = m2)) (n0 : 0 ≤ n) (hlo0 : 0 ≤ lo) (hlo : lo ≤ 100) (hhalf : sc = 0 → n ≤ 64 * (6 * lo + 4))
    (HO : Hid (∀ sp cl W, NumsAt W (.slice sp ls.length cl) ls → Calls Try.prog 14 #[.agg #[.int .i64 fo, .int .i64 lo, .int .i64 ke, .int .i64 sc, .int .i64 mo, .bool iv], .slice sp ls.length cl] W fun e w' => e = .returned (.tuple #[.int .i64 n, .int .i64 0]) ∧ Gr W w')) (HOQ : Hid (∀ sp cl W, NumsAt W (.slice sp ls.length cl) ls → Calls Try.prog 14 #[.agg #[.int .i64 fo, .int .i64 lo, .int .i64 ke, .int .i64 sc, .int .i64 m2, .bool (!iv)], .slice sp ls.length cl] W fun e w' => e = .returned (.tuple #[.int .i64 n, .int .i64 0]) ∧ Gr W w')) (AL : Hid (∀ W, Calls Try.prog 11 #[] W fun e w' => e = .returned (.bool true) ∧ Gr W w')) (w : World) (hl : NumsAt w (.slice p ls.length cap) ls) :
    Calls Try.prog 5 #[.agg #[.int .i64 fo, .int .i64 lo, .int .i64 ke, .int .i64 sc, .int .i64 mo, .bool iv], .slice p len cap, .int .i64 ix, .int .i64 md] w fun e w' => e = .returned (.bool true) ∧ Gr w w' := by
  have hh := fun h => hhalf h
  clear hhalf
  skip
  clear hh
  have hcut := run_cut_int p len cap ls.length hcap
  go_enter Try.func5, Try.ntmps5
  go_wp2_with fail
  obtain ⟨u0, hu⟩ : ∃ uu, uu = w.alloc (.cells #[.int .i64 fo, .int .i64 lo, .int .i64 ke, .int .i64 sc, .int .i64 mo, .bool iv] 23) := ⟨_, rfl⟩
  have R0 : CellsAt u0 w.heap.size 23 #[.int .i64 fo, .int .i64 lo, .int .i64 ke, .int .i64 sc, .int .i64 mo, .bool iv] := by rw [hu]; exact CellsAt.new w 23 #[.int .i64 fo, .int .i64 lo, .int .i64 ke, .int .i64 sc, .int .i64 mo, .bool iv]
  have y0 : Gr w u0 := by rw [hu]; exact (Gr.refl w).alloc _ _
  have N0 := hl.gr y0
  rw [← hu]
  clear hu hl hcap
  refine (HO.out _ _ _ N0).mono ?_
  rintro e' w1 ⟨rfl, g1⟩
  have R1 := R0.gr g1
  have y1 := y0.trans g1
  have l1 := R1.lt
  have N1 := N0.gr g1
  clear R0 y0 g1 N0
  have c0 := CellsAt.cell R1 0
  have c1 := CellsAt.cell R1 1
  have c2 := CellsAt.cell R1 2
  have c3 := CellsAt.cell R1 3
  have c4 := CellsAt.cell R1 4
  have c5 := CellsAt.cell R1 5
  simp only [List.getElem?_toArray, List.getElem?_cons_zero, List.getElem?_cons_succ] at c0 c1 c2 c3 c4 c5
  go_wp2_with fail
  clear c0 c1 c2 c3 c4 c5
  obtain ⟨u2, hu⟩ : ∃ uu, uu = w1.alloc (.cells #[.int .i64 fo, .int .i64 lo, .int .i64 ke, .int .i64 sc, .int .i64 mo, .bool iv] 23) := ⟨_, rfl⟩
  have Q2 : CellsAt u2 w1.heap.size 23 #[.int .i64 fo, .int .i64 lo, .int .i64 ke, .int .i64 sc, .int .i64 mo, .bool iv] := by rw [hu]; exact CellsAt.new w1 23 #[.int .i64 fo, .int .i64 lo, .int .i64 ke, .int .i64 sc, .int .i64 mo, .bool iv]
  have P2 : CellsAt u2 w.heap.size 23 #[.int .i64 fo, .int .i64 lo, .int .i64 ke, .int .i64 sc, .int .i64 mo, .bool iv] := by rw [hu]; exact R1.alloc _
  have k2 : Gr w1 u2 := by rw [hu]; exact (Gr.refl w1).alloc _ _
  rw [← hu]
  clear hu
  have y2 : Gr w1 u2 := k2
  clear k2
  obtain ⟨hm1, hm2, hm3⟩ := HMM.out
  obtain ⟨u3, hqp21⟩ : ∃ zz, zz = u2 := ⟨_, rfl⟩
  have Yp_p21 : CellsAt u3 (w.heap.size) 23 #[.int .i64 fo, .int .i64 lo, .int .i64 ke, .int .i64 sc, .int .i64 mo, .bool iv] := by rw [hqp21]; first | exact P2 | simpa using P2
  have Yq_p21 : CellsAt u3 (w1.heap.size) 23 #[.int .i64 fo, .int .i64 lo, .int .i64 ke, .int .i64 sc, .int .i64 mo, .bool iv] := by rw [hqp21]; first | exact Q2 | simpa using Q2
  have yp21 : Gr w1 u3 := by rw [hqp21]; exact y2
  rw [← hqp21]
  clear hqp21
  have KS : ∀ W, GB (w1.heap.size) u3 W → (W.cell? ⟨w.heap.size, 0, none⟩ = some (.int .i64 fo) ∧ W.cell? ⟨w.heap.size, 1, none⟩ = some (.int .i64 lo) ∧ W.cell? ⟨w.heap.size, 2, none⟩ = some (.int .i64 ke) ∧ W.cell? ⟨w.heap.size, 3, none⟩ = some (.int .i64 sc) ∧ W.cell? ⟨w.heap.size, 4, none⟩ = some (.int .i64 mo) ∧ W.cell? ⟨w.heap.size, 5, none⟩ = some (.bool iv)) := fun W hG => ⟨(GB.cellsAt hG Yp_p21 (by omega)).cell 0, (GB.cellsAt hG Yp_p21 (by omega)).cell 1, (GB.cellsAt hG Yp_p21 (by omega)).cell 2, (GB.cellsAt hG Yp_p21 (by omega)).cell 3, (GB.cellsAt hG Yp_p21 (by omega)).cell 4, (GB.cellsAt hG Yp_p21 (by omega)).cell 5⟩
  have hclG := gb_closed (w1.heap.size) u3
  try simp only [List.append_eq, List.cons_append, List.nil_append]
  refine wp_region_grow (S := GB (w1.heap.size) u3) rfl (GB.drew (GB.refl _ _)) ?_
  refine wpG_take (i := 0) (v := ?_) hclG rfl (by kernel_rfl) (by kernel_rfl) (by kernel_rfl) (fun _ _ _ h => h) (by rfl) ?_ ?_
  rotate_left
  · (intro w' hSw; go_simp; try with_reducible rfl)
  try simp only [Act.put, List.setIfInBounds_toArray, List.set_cons_zero, List.set_cons_succ, List.getElem_toArray, List.getElem_cons_zero, List.getElem_cons_succ]
  refine wpG_take (i := 1) (v := ?_) hclG rfl (by kernel_rfl) (by kernel_rfl) (by kernel_rfl) (fun _ _ _ h => h) (by rfl) ?_ ?_
  rotate_left
  · (intro w' hSw; go_simp; try with_reducible rfl)
  try simp only [Act.put, List.setIfInBounds_toArray, List.set_cons_zero, List.set_cons_succ, List.getElem_toArray, List.getElem_cons_zero, List.getElem_cons_succ]
  refine wpG_take (i := 2) (v := ?_) hclG rfl (by kernel_rfl) (by kernel_rfl) (by kernel_rfl) (fun _ _ _ h => h) (by rfl) ?_ ?_
  rotate_left
  · (intro w' hSw; go_simp; try with_reducible rfl)
  try simp only [Act.put, List.setIfInBounds_toArray, List.set_cons_zero, List.set_cons_succ, List.getElem_toArray, List.getElem_cons_zero, List.getElem_cons_succ]
  refine wpG_take (i := 3) (v := ?_) hclG rfl (by kernel_rfl) (by kernel_rfl) (by kernel_rfl) (fun _ _ _ h => h) (by rfl) ?_ ?_
  rotate_left
  · (intro w' hSw; go_simp; try with_reducible rfl)
  try simp only [Act.put, List.setIfInBounds_toArray, List.set_cons_zero, List.set_cons_succ, List.getElem_toArray, List.getElem_cons_zero, List.getElem_cons_succ]
  refine wpG_take (i := 4) (v := ?_) hclG rfl (by kernel_rfl) (by kernel_rfl) (by kernel_rfl) (fun _ _ _ h => h) (by rfl) ?_ ?_
  rotate_left
  · (intro w' hSw; go_simp; try with_reducible rfl)
  try simp only [Act.put, List.setIfInBounds_toArray, List.set_cons_zero, List.set_cons_succ, List.getElem_toArray, List.getElem_cons_zero, List.getElem_cons_succ]
  refine wpG_take (i := 5) (v := ?_) hclG rfl (by kernel_rfl) (by kernel_rfl) (by kernel_rfl) (fun _ _ _ h => h) (by rfl) ?_ ?_
  rotate_left
  · (intro w' hSw; have hk := KS w' hSw; go_split_ands; go_simp; try with_reducible rfl)
  try simp only [Act.put, List.setIfInBounds_toArray, List.set_cons_zero, List.set_cons_succ, List.getElem_toArray, List.getElem_cons_zero, List.getElem_cons_succ]
  refine wpG_take (i := 6) (v := ?_) hclG rfl (by kernel_rfl) (by kernel_rfl) (by kernel_rfl) (fun _ _ _ h => h) (by rfl) ?_ ?_
  rotate_left
  · (intro w' hSw; go_simp; try with_reducible rfl)
  try simp only [Act.put, List.setIfInBounds_toArray, List.set_cons_zero, List.set_cons_succ, List.getElem_toArray, List.getElem_cons_zero, List.getElem_cons_succ]
  refine wpG_take (i := 7) (v := ?_) hclG rfl (by kernel_rfl) (by kernel_rfl) (by kernel_rfl) (fun _ _ _ h => h) (by rfl) ?_ ?_
  rotate_left
  · (intro w' hSw; go_simp; try with_reducible rfl)
  try simp only [Act.put, List.setIfInBounds_toArray, List.set_cons_zero, List.set_cons_succ, List.getElem_toArray, List.getElem_cons_zero, List.getElem_cons_succ]
  refine wpG_ready (rs := [8]) (by kernel_rfl) (by simp) (fun w21 g21 s21 => ?_)
  refine AllG.cons rfl (fun K hK => ?_) AllG.nil
  replace g21 := (Gr.drew (Gr.refl u3)).trans g21
  have Fp_21 := CellsAt.gr (Yp_p21) g21
  have lp_21 := CellsAt.lt (Fp_21)
  have Fq_21 := CellsAt.gr (Yq_p21) g21
  have lq_21 := CellsAt.lt (Fq_21)
  have z21 := (yp21).trans g21
  clear Yp_p21 Yq_p21 yp21 g21
  have mq0 := CellsAt.frozen (Fq_21) 0
  have cq0 := CellsAt.cell (Fq_21) 0
  simp only [List.getElem?_toArray, List.getElem?_cons_zero, List.getElem?_cons_succ] at cq0
  have mq1 := CellsAt.frozen (Fq_21) 1
  have cq1 := CellsAt.cell (Fq_21) 1
  simp only [List.getElem?_toArray, List.getElem?_cons_zero, List.getElem?_cons_succ] at cq1
  have mq2 := CellsAt.frozen (Fq_21) 2
  have cq2 := CellsAt.cell (Fq_21) 2
  simp only [List.getElem?_toArray, List.getElem?_cons_zero, List.getElem?_cons_succ] at cq2
  have mq3 := CellsAt.frozen (Fq_21) 3
  have cq3 := CellsAt.cell (Fq_21) 3
  simp only [List.getElem?_toArray, List.getElem?_cons_zero, List.getElem?_cons_succ] at cq3
  have mq4 := CellsAt.frozen (Fq_21) 4
  have cq4 := CellsAt.cell (Fq_21) 4
  simp only [List.getElem?_toArray, List.getElem?_cons_zero, List.getElem?_cons_succ] at cq4
  have mq5 := CellsAt.frozen (Fq_21) 5
  have cq5 := CellsAt.cell (Fq_21) 5
  simp only [List.getElem?_toArray, List.getElem?_cons_zero, List.getElem?_cons_succ] at cq5
  go_simp
  clear mq0 cq0 mq1 cq1 mq2 cq2 mq3 cq3 mq4 cq4 mq5 cq5
  refine hK.out _ _ ?_ ?_
  · exact (GB.set s21 _ _)
  clear hK K
  try simp only [Act.put, List.setIfInBounds_toArray, List.set_cons_zero, List.set_cons_succ, List.getElem_toArray, List.getElem_cons_zero, List.getElem_cons_succ]
  refine wpG_take (i := 9) (v := ?_) hclG rfl (by kernel_rfl) (by kernel_rfl) (by kernel_rfl) (fun _ _ _ h => h) (by rfl) ?_ ?_
  rotate_left
  · (intro w' hSw; go_simp; try with_reducible rfl)
  try simp only [Act.put, List.setIfInBounds_toArray, List.set_cons_zero, List.set_cons_succ, List.getElem_toArray, List.getElem_cons_zero, List.getElem_cons_succ]
  refine wpG_ready (rs := [10]) (by kernel_rfl) (by simp) (fun w22 g22 s22 => ?_)
  refine AllG.cons rfl (fun K hK => ?_) AllG.nil
  have Fp_22 := CellsAt.gr ((Fp_21).other (by omega) _ _) g22
  have lp_22 := CellsAt.lt (Fp_22)
  have Fq_22 : CellsAt w22 (w1.heap.size) 23 #[.int .i64 fo, .int .i64 lo, .int .i64 ke, .int .i64 sc, .int .i64 m2, .bool iv] := CellsAt.gr (CellsAt.set (Fq_21) 4 (.int .i64 m2)) g22
  have lq_22 := CellsAt.lt (Fq_22)
  have z22 := ((z21).setCell (by first | omega | (simp only; omega)) _).trans g22
  clear g22
  have mq0 := CellsAt.frozen (Fq_22) 0
  have cq0 := CellsAt.cell (Fq_22) 0
  simp only [List.getElem?_toArray, List.getElem?_cons_zero, List.getElem?_cons_succ] at cq0
  have mq1 := CellsAt.frozen (Fq_22) 1
  have cq1 := CellsAt.cell (Fq_22) 1
  simp only [List.getElem?_toArray, List.getElem?_cons_zero, List.getElem?_cons_succ] at cq1
  have mq2 := CellsAt.frozen (Fq_22) 2
  have cq2 := CellsAt.cell (Fq_22) 2
  simp only [List.getElem?_toArray, List.getElem?_cons_zero, List.getElem?_cons_succ] at cq2
  have mq3 := CellsAt.frozen (Fq_22) 3
  have cq3 := CellsAt.cell (Fq_22) 3
  simp only [List.getElem?_toArray, List.getElem?_cons_zero, List.getElem?_cons_succ] at cq3
  have mq4 := CellsAt.frozen (Fq_22) 4
  have cq4 := CellsAt.cell (Fq_22) 4
  simp only [List.getElem?_toArray, List.getElem?_cons_zero, List.getElem?_cons_succ] at cq4
  have mq5 := CellsAt.frozen (Fq_22) 5
  have cq5 := CellsAt.cell (Fq_22) 5
  simp only [List.getElem?_toArray, List.getElem?_cons_zero, List.getElem?_cons_succ] at cq5
  go_simp
  clear mq0 cq0 mq1 cq1 mq2 cq2 mq3 cq3 mq4 cq4 mq5 cq5
  refine hK.out _ _ ?_ ?_
  · exact (GB.set s22 _ _)
  clear hK K
  try simp only [Act.put, List.setIfInBounds_toArray, List.set_cons_zero, List.set_cons_succ, List.getElem_toArray, List.getElem_cons_zero, List.getElem_cons_succ]
  refine wpG_done (by kernel_rfl) (fun w23 g23 => ?_) _
  have Fp_23 := CellsAt.gr ((Fp_22).other (by omega) _ _) g23
  have lp_23 := CellsAt.lt (Fp_23)
  have Fq_23 : CellsAt w23 (w1.heap.size) 23 #[.int .i64 fo, .int .i64 lo, .int .i64 ke, .int .i64 sc, .int .i64 m2, .bool (!iv)] := CellsAt.gr (CellsAt.set (Fq_22) 5 (.bool (!iv))) g23
  have lq_23 := CellsAt.lt (Fq_23)
  have z23 := ((z22).setCell (by first | omega | (simp only; omega)) _).trans g23
  clear g23
  clear hclG KS
  clear hm1 hm2 hm3
  obtain ⟨u4, hqp22⟩ : ∃ zz, zz = w23 := ⟨_, rfl⟩
  have Yp_p22 : CellsAt u4 (w.heap.size) 23 #[.int .i64 fo, .int .i64 lo, .int .i64 ke, .int .i64 sc, .int .i64 mo, .bool iv] := by rw [hqp22]; first | exact Fp_23 | simpa using Fp_23
  have Yq_p22 : CellsAt u4 (w1.heap.size) 23 #[.int .i64 fo, .int .i64 lo, .int .i64 ke, .int .i64 sc, .int .i64 m2, .bool (!iv)] := by rw [hqp22]; first | exact Fq_23 | simpa using Fq_23
  have yp22 : Gr w1 u4 := by rw [hqp22]; exact z23
  rw [← hqp22]
  clear hqp22
  have cq0 := CellsAt.cell (Yq_p22) 0
  have cq1 := CellsAt.cell (Yq_p22) 1
  have cq2 := CellsAt.cell (Yq_p22) 2
  have cq3 := CellsAt.cell (Yq_p22) 3
  have cq4 := CellsAt.cell (Yq_p22) 4
  have cq5 := CellsAt.cell (Yq_p22) 5
  simp only [List.getElem?_toArray, List.getElem?_cons_zero, List.getElem?_cons_succ] at cq0 cq1 cq2 cq3 cq4 cq5
  go_wp2_with fail
  clear cq0 cq1 cq2 cq3 cq4 cq5
  have N4 := N1.gr yp22
  refine (HOQ.out _ _ _ N4).mono ?_
  rintro e' w5 ⟨rfl, g5⟩
  have R5 := Yp_p22.gr g5
  have z5 := yp22.trans g5
  have N5 := N1.gr z5
  have y5 := y1.trans z5
  have l5 := R5.lt
  clear N1 N4 g5 y1
  have c0 := CellsAt.cell R5 0
  have c1 := CellsAt.cell R5 1
  have c2 := CellsAt.cell R5 2
  have c3 := CellsAt.cell R5 3
  have c4 := CellsAt.cell R5 4
  have c5 := CellsAt.cell R5 5
  simp only [List.getElem?_toArray, List.getElem?_cons_zero, List.getElem?_cons_succ] at c0 c1 c2 c3 c4 c5
  go_wp2_with fail
  refine (AL.out _).mono ?_
  rintro e' w6 ⟨rfl, g6⟩
  have R6 := R5.gr g6
  have N6 := N5.gr g6
  have y6 := y5.trans g6
  have l6 := R6.lt
  clear c0 c1 c2 c3 c4 c5 R5 N5 y5 g6
  have hn0 : ((ls.length : Int) == 0) = true := by rw [hnil.out]; rfl
  go_wp2_with fail
  go_ret
  exact ⟨rfl, y6⟩


set_option maxHeartbeats 4000000 in
theorem budgetLeast_ok0 (p : Option Addr) (len cap K : Nat) (ls : List Int) (fo lo ke sc mo ix md r r3 m2 n x z er j0 : Int) (iv : Bool) (hmin : (if (10 : Int) < (len : Int) then 10 else (len : Int)) = (ls.length : Int)) (hcap : ls.length ≤ cap) (hne : Hid (ls ≠ [])) (h10 : ls.length ≤ 10) (hsc : (sc == 0) = true)
    (HIX : Hid (ix.tmod (ls.length : Int) = j0 ∧ (-10 ≤ j0 ∧ j0 ≤ 10) ∧ (j0 + (ls.length : Int)).tmod (ls.length : Int) = (K : Int) ∧ K < ls.length)) (HX : Hid (ls[K]? = some x ∧ 0 ≤ x ∧ x ≤ 1000))
    (HMM : Hid (md.tmod 3 = r ∧ IntKind.i64.wrap (r + 3) = r3 ∧ r3.tmod 3 = m2)) (n0 : 0 ≤ n) (hlo0 : 0 ≤ lo) (hlo : lo ≤ 100) (hhalf : sc = 0 → n ≤ 64 * (6 * lo + 4))
    (HO : Hid (∀ sp cl W, NumsAt W (.slice sp ls.length cl) ls → Calls Try.prog 14 #[.agg #[.int .i64 fo, .int .i64 lo, .int .i64 ke, .int .i64 sc, .int .i64 mo, .bool iv], .slice sp ls.length cl] W fun e w' => e = .returned (.tuple #[.int .i64 n, .int .i64 0]) ∧ Gr W w')) (HOQ : Hid (∀ sp cl W, NumsAt W (.slice sp ls.length cl) ls → Calls Try.prog 14 #[.agg #[.int .i64 fo, .int .i64 lo, .int .i64 ke, .int .i64 sc, .int .i64 m2, .bool (!iv)], .slice sp ls.length cl] W fun e w' => e = .returned (.tuple #[.int .i64 n, .int .i64 0]) ∧ Gr W w'))
    (HOM : Hid (∀ sp cl W, NumsAt W (.slice sp ls.length cl) (ls.set K (x + 1)) → Calls Try.prog 14 #[.agg #[.int .i64 fo, .int .i64 lo, .int .i64 ke, .int .i64 sc, .int .i64 mo, .bool iv], .slice sp ls.length cl] W fun e w' => e = .returned (.tuple #[.int .i64 z, .int .i64 0]) ∧ Gr W w')) (hz : z ≤ n) (AL : Hid (∀ W, Calls Try.prog 11 #[] W fun e w' => e = .returned (.bool true) ∧ Gr W w')) (w : World) (hl : NumsAt w (.slice p ls.length cap) ls) :
    Calls Try.prog 5 #[.agg #[.int .i64 fo, .int .i64 lo, .int .i64 ke, .int .i64 sc, .int .i64 mo, .bool iv], .slice p len cap, .int .i64 ix, .int .i64 md] w fun e w' => e = .returned (.bool true) ∧ Gr w w' := by
  have hh := fun h => hhalf h
  clear hhalf
  have hh2 := hh (by simpa using hsc)
  clear hh
  have hcut := run_cut_int p len cap ls.length hcap
  go_enter Try.func5, Try.ntmps5
  go_wp2_with fail
  obtain ⟨u0, hu⟩ : ∃ uu, uu = w.alloc (.cells #[.int .i64 fo, .int .i64 lo, .int .i64 ke, .int .i64 sc, .int .i64 mo, .bool iv] 23) := ⟨_, rfl⟩
  have R0 : CellsAt u0 w.heap.size 23 #[.int .i64 fo, .int .i64 lo, .int .i64 ke, .int .i64 sc, .int .i64 mo, .bool iv] := by rw [hu]; exact CellsAt.new w 23 #[.int .i64 fo, .int .i64 lo, .int .i64 ke, .int .i64 sc, .int .i64 mo, .bool iv]
  have y0 : Gr w u0 := by rw [hu]; exact (Gr.refl w).alloc _ _
  have N0 := hl.gr y0
  rw [← hu]
  clear hu hl hcap
  refine (HO.out _ _ _ N0).mono ?_
  rintro e' w1 ⟨rfl, g1⟩
  have R1 := R0.gr g1
  have y1 := y0.trans g1
  have l1 := R1.lt
  have N1 := N0.gr g1
  clear R0 y0 g1 N0
  have c0 := CellsAt.cell R1 0
  have c1 := CellsAt.cell R1 1
  have c2 := CellsAt.cell R1 2
  have c3 := CellsAt.cell R1 3
  have c4 := CellsAt.cell R1 4
  have c5 := CellsAt.cell R1 5
  simp only [List.getElem?_toArray, List.getElem?_cons_zero, List.getElem?_cons_succ] at c0 c1 c2 c3 c4 c5
  go_wp2_with fail
  clear c0 c1 c2 c3 c4 c5
  obtain ⟨u2, hu⟩ : ∃ uu, uu = w1.alloc (.cells #[.int .i64 fo, .int .i64 lo, .int .i64 ke, .int .i64 sc, .int .i64 mo, .bool iv] 23) := ⟨_, rfl⟩
  have Q2 : CellsAt u2 w1.heap.size 23 #[.int .i64 fo, .int .i64 lo, .int .i64 ke, .int .i64 sc, .int .i64 mo, .bool iv] := by rw [hu]; exact CellsAt.new w1 23 #[.int .i64 fo, .int .i64 lo, .int .i64 ke, .int .i64 sc, .int .i64 mo, .bool iv]
  have P2 : CellsAt u2 w.heap.size 23 #[.int .i64 fo, .int .i64 lo, .int .i64 ke, .int .i64 sc, .int .i64 mo, .bool iv] := by rw [hu]; exact R1.alloc _
  have k2 : Gr w1 u2 := by rw [hu]; exact (Gr.refl w1).alloc _ _
  rw [← hu]
  clear hu
  have y2 : Gr w1 u2 := k2
  clear k2
  obtain ⟨hm1, hm2, hm3⟩ := HMM.out
  obtain ⟨u3, hqp21⟩ : ∃ zz, zz = u2 := ⟨_, rfl⟩
  have Yp_p21 : CellsAt u3 (w.heap.size) 23 #[.int .i64 fo, .int .i64 lo, .int .i64 ke, .int .i64 sc, .int .i64 mo, .bool iv] := by rw [hqp21]; first | exact P2 | simpa using P2
  have Yq_p21 : CellsAt u3 (w1.heap.size) 23 #[.int .i64 fo, .int .i64 lo, .int .i64 ke, .int .i64 sc, .int .i64 mo, .bool iv] := by rw [hqp21]; first | exact Q2 | simpa using Q2
  have yp21 : Gr w1 u3 := by rw [hqp21]; exact y2
  rw [← hqp21]
  clear hqp21
  have KS : ∀ W, GB (w1.heap.size) u3 W → (W.cell? ⟨w.heap.size, 0, none⟩ = some (.int .i64 fo) ∧ W.cell? ⟨w.heap.size, 1, none⟩ = some (.int .i64 lo) ∧ W.cell? ⟨w.heap.size, 2, none⟩ = some (.int .i64 ke) ∧ W.cell? ⟨w.heap.size, 3, none⟩ = some (.int .i64 sc) ∧ W.cell? ⟨w.heap.size, 4, none⟩ = some (.int .i64 mo) ∧ W.cell? ⟨w.heap.size, 5, none⟩ = some (.bool iv)) := fun W hG => ⟨(GB.cellsAt hG Yp_p21 (by omega)).cell 0, (GB.cellsAt hG Yp_p21 (by omega)).cell 1, (GB.cellsAt hG Yp_p21 (by omega)).cell 2, (GB.cellsAt hG Yp_p21 (by omega)).cell 3, (GB.cellsAt hG Yp_p21 (by omega)).cell 4, (GB.cellsAt hG Yp_p21 (by omega)).cell 5⟩
  have hclG := gb_closed (w1.heap.size) u3
  try simp only [List.append_eq, List.cons_append, List.nil_append]
  refine wp_region_grow (S := GB (w1.heap.size) u3) rfl (GB.drew (GB.refl _ _)) ?_
  refine wpG_take (i := 0) (v := ?_) hclG rfl (by kernel_rfl) (by kernel_rfl) (by kernel_rfl) (fun _ _ _ h => h) (by rfl) ?_ ?_
  rotate_left
  · (intro w' hSw; go_simp; try with_reducible rfl)
  try simp only [Act.put, List.setIfInBounds_toArray, List.set_cons_zero, List.set_cons_succ, List.getElem_toArray, List.getElem_cons_zero, List.getElem_cons_succ]
  refine wpG_take (i := 1) (v := ?_) hclG rfl (by kernel_rfl) (by kernel_rfl) (by kernel_rfl) (fun _ _ _ h => h) (by rfl) ?_ ?_
  rotate_left
  · (intro w' hSw; go_simp; try with_reducible rfl)
  try simp only [Act.put, List.setIfInBounds_toArray, List.set_cons_zero, List.set_cons_succ, List.getElem_toArray, List.getElem_cons_zero, List.getElem_cons_succ]
  refine wpG_take (i := 2) (v := ?_) hclG rfl (by kernel_rfl) (by kernel_rfl) (by kernel_rfl) (fun _ _ _ h => h) (by rfl) ?_ ?_
  rotate_left
  · (intro w' hSw; go_simp; try with_reducible rfl)
  try simp only [Act.put, List.setIfInBounds_toArray, List.set_cons_zero, List.set_cons_succ, List.getElem_toArray, List.getElem_cons_zero, List.getElem_cons_succ]
  refine wpG_take (i := 3) (v := ?_) hclG rfl (by kernel_rfl) (by kernel_rfl) (by kernel_rfl) (fun _ _ _ h => h) (by rfl) ?_ ?_
  rotate_left
  · (intro w' hSw; go_simp; try with_reducible rfl)
  try simp only [Act.put, List.setIfInBounds_toArray, List.set_cons_zero, List.set_cons_succ, List.getElem_toArray, List.getElem_cons_zero, List.getElem_cons_succ]
  refine wpG_take (i := 4) (v := ?_) hclG rfl (by kernel_rfl) (by kernel_rfl) (by kernel_rfl) (fun _ _ _ h => h) (by rfl) ?_ ?_
  rotate_left
  · (intro w' hSw; go_simp; try with_reducible rfl)
  try simp only [Act.put, List.setIfInBounds_toArray, List.set_cons_zero, List.set_cons_succ, List.getElem_toArray, List.getElem_cons_zero, List.getElem_cons_succ]
  refine wpG_take (i := 5) (v := ?_) hclG rfl (by kernel_rfl) (by kernel_rfl) (by kernel_rfl) (fun _ _ _ h => h) (by rfl) ?_ ?_
  rotate_left
  · (intro w' hSw; have hk := KS w' hSw; go_split_ands; go_simp; try with_reducible rfl)
  try simp only [Act.put, List.setIfInBounds_toArray, List.set_cons_zero, List.set_cons_succ, List.getElem_toArray, List.getElem_cons_zero, List.getElem_cons_succ]
  refine wpG_take (i := 6) (v := ?_) hclG rfl (by kernel_rfl) (by kernel_rfl) (by kernel_rfl) (fun _ _ _ h => h) (by rfl) ?_ ?_
  rotate_left
  · (intro w' hSw; go_simp; try with_reducible rfl)
  try simp only [Act.put, List.setIfInBounds_toArray, List.set_cons_zero, List.set_cons_succ, List.getElem_toArray, List.getElem_cons_zero, List.getElem_cons_succ]
  refine wpG_take (i := 7) (v := ?_) hclG rfl (by kernel_rfl) (by kernel_rfl) (by kernel_rfl) (fun _ _ _ h => h) (by rfl) ?_ ?_
  rotate_left
  · (intro w' hSw; go_simp; try with_reducible rfl)
  try simp only [Act.put, List.setIfInBounds_toArray, List.set_cons_zero, List.set_cons_succ, List.getElem_toArray, List.getElem_cons_zero, List.getElem_cons_succ]
  refine wpG_ready (rs := [8]) (by kernel_rfl) (by simp) (fun w21 g21 s21 => ?_)
  refine AllG.cons rfl (fun K hK => ?_) AllG.nil
  replace g21 := (Gr.drew (Gr.refl u3)).trans g21
  have Fp_21 := CellsAt.gr (Yp_p21) g21
  have lp_21 := CellsAt.lt (Fp_21)
  have Fq_21 := CellsAt.gr (Yq_p21) g21
  have lq_21 := CellsAt.lt (Fq_21)
  have z21 := (yp21).trans g21
  clear Yp_p21 Yq_p21 yp21 g21
  have mq0 := CellsAt.frozen (Fq_21) 0
  have cq0 := CellsAt.cell (Fq_21) 0
  simp only [List.getElem?_toArray, List.getElem?_cons_zero, List.getElem?_cons_succ] at cq0
  have mq1 := CellsAt.frozen (Fq_21) 1
  have cq1 := CellsAt.cell (Fq_21) 1
  simp only [List.getElem?_toArray, List.getElem?_cons_zero, List.getElem?_cons_succ] at cq1
  have mq2 := CellsAt.frozen (Fq_21) 2
  have cq2 := CellsAt.cell (Fq_21) 2
  simp only [List.getElem?_toArray, List.getElem?_cons_zero, List.getElem?_cons_succ] at cq2
  have mq3 := CellsAt.frozen (Fq_21) 3
  have cq3 := CellsAt.cell (Fq_21) 3
  simp only [List.getElem?_toArray, List.getElem?_cons_zero, List.getElem?_cons_succ] at cq3
  have mq4 := CellsAt.frozen (Fq_21) 4
  have cq4 := CellsAt.cell (Fq_21) 4
  simp only [List.getElem?_toArray, List.getElem?_cons_zero, List.getElem?_cons_succ] at cq4
  have mq5 := CellsAt.frozen (Fq_21) 5
  have cq5 := CellsAt.cell (Fq_21) 5
  simp only [List.getElem?_toArray, List.getElem?_cons_zero, List.getElem?_cons_succ] at cq5
  go_simp
  clear mq0 cq0 mq1 cq1 mq2 cq2 mq3 cq3 mq4 cq4 mq5 cq5
  refine hK.out _ _ ?_ ?_
  · exact (GB.set s21 _ _)
  clear hK K
  try simp only [Act.put, List.setIfInBounds_toArray, List.set_cons_zero, List.set_cons_succ, List.getElem_toArray, List.getElem_cons_zero, List.getElem_cons_succ]
  refine wpG_take (i := 9) (v := ?_) hclG rfl (by kernel_rfl) (by kernel_rfl) (by kernel_rfl) (fun _ _ _ h => h) (by rfl) ?_ ?_
  rotate_left
  · (intro w' hSw; go_simp; try with_reducible rfl)
  try simp only [Act.put, List.setIfInBounds_toArray, List.set_cons_zero, List.set_cons_succ, List.getElem_toArray, List.getElem_cons_zero, List.getElem_cons_succ]
  refine wpG_ready (rs := [10]) (by kernel_rfl) (by simp) (fun w22 g22 s22 => ?_)
  refine AllG.cons rfl (fun K hK => ?_) AllG.nil
  have Fp_22 := CellsAt.gr ((Fp_21).other (by omega) _ _) g22
  have lp_22 := CellsAt.lt (Fp_22)
  have Fq_22 : CellsAt w22 (w1.heap.size) 23 #[.int .i64 fo, .int .i64 lo, .int .i64 ke, .int .i64 sc, .int .i64 m2, .bool iv] := CellsAt.gr (CellsAt.set (Fq_21) 4 (.int .i64 m2)) g22
  have lq_22 := CellsAt.lt (Fq_22)
  have z22 := ((z21).setCell (by first | omega | (simp only; omega)) _).trans g22
  clear g22
  have mq0 := CellsAt.frozen (Fq_22) 0
  have cq0 := CellsAt.cell (Fq_22) 0
  simp only [List.getElem?_toArray, List.getElem?_cons_zero, List.getElem?_cons_succ] at cq0
  have mq1 := CellsAt.frozen (Fq_22) 1
  have cq1 := CellsAt.cell (Fq_22) 1
  simp only [List.getElem?_toArray, List.getElem?_cons_zero, List.getElem?_cons_succ] at cq1
  have mq2 := CellsAt.frozen (Fq_22) 2
  have cq2 := CellsAt.cell (Fq_22) 2
  simp only [List.getElem?_toArray, List.getElem?_cons_zero, List.getElem?_cons_succ] at cq2
  have mq3 := CellsAt.frozen (Fq_22) 3
  have cq3 := CellsAt.cell (Fq_22) 3
  simp only [List.getElem?_toArray, List.getElem?_cons_zero, List.getElem?_cons_succ] at cq3
  have mq4 := CellsAt.frozen (Fq_22) 4
  have cq4 := CellsAt.cell (Fq_22) 4
  simp only [List.getElem?_toArray, List.getElem?_cons_zero, List.getElem?_cons_succ] at cq4
  have mq5 := CellsAt.frozen (Fq_22) 5
  have cq5 := CellsAt.cell (Fq_22) 5
  simp only [List.getElem?_toArray, List.getElem?_cons_zero, List.getElem?_cons_succ] at cq5
  go_simp
  clear mq0 cq0 mq1 cq1 mq2 cq2 mq3 cq3 mq4 cq4 mq5 cq5
  refine hK.out _ _ ?_ ?_
  · exact (GB.set s22 _ _)
  clear hK K
  try simp only [Act.put, List.setIfInBounds_toArray, List.set_cons_zero, List.set_cons_succ, List.getElem_toArray, List.getElem_cons_zero, List.getElem_cons_succ]
  refine wpG_done (by kernel_rfl) (fun w23 g23 => ?_) _
  have Fp_23 := CellsAt.gr ((Fp_22).other (by omega) _ _) g23
  have lp_23 := CellsAt.lt (Fp_23)
  have Fq_23 : CellsAt w23 (w1.heap.size) 23 #[.int .i64 fo, .int .i64 lo, .int .i64 ke, .int .i64 sc, .int .i64 m2, .bool (!iv)] := CellsAt.gr (CellsAt.set (Fq_22) 5 (.bool (!iv))) g23
  have lq_23 := CellsAt.lt (Fq_23)
  have z23 := ((z22).setCell (by first | omega | (simp only; omega)) _).trans g23
  clear g23
  clear hclG KS
  clear hm1 hm2 hm3
  obtain ⟨u4, hqp22⟩ : ∃ zz, zz = w23 := ⟨_, rfl⟩
  have Yp_p22 : CellsAt u4 (w.heap.size) 23 #[.int .i64 fo, .int .i64 lo, .int .i64 ke, .int .i64 sc, .int .i64 mo, .bool iv] := by rw [hqp22]; first | exact Fp_23 | simpa using Fp_23
  have Yq_p22 : CellsAt u4 (w1.heap.size) 23 #[.int .i64 fo, .int .i64 lo, .int .i64 ke, .int .i64 sc, .int .i64 m2, .bool (!iv)] := by rw [hqp22]; first | exact Fq_23 | simpa using Fq_23
  have yp22 : Gr w1 u4 := by rw [hqp22]; exact z23
  rw [← hqp22]
  clear hqp22
  have cq0 := CellsAt.cell (Yq_p22) 0
  have cq1 := CellsAt.cell (Yq_p22) 1
  have cq2 := CellsAt.cell (Yq_p22) 2
  have cq3 := CellsAt.cell (Yq_p22) 3
  have cq4 := CellsAt.cell (Yq_p22) 4
  have cq5 := CellsAt.cell (Yq_p22) 5
  simp only [List.getElem?_toArray, List.getElem?_cons_zero, List.getElem?_cons_succ] at cq0 cq1 cq2 cq3 cq4 cq5
  go_wp2_with fail
  clear cq0 cq1 cq2 cq3 cq4 cq5
  have N4 := N1.gr yp22
  refine (HOQ.out _ _ _ N4).mono ?_
  rintro e' w5 ⟨rfl, g5⟩
  have R5 := Yp_p22.gr g5
  have z5 := yp22.trans g5
  have N5 := N1.gr z5
  have y5 := y1.trans z5
  have l5 := R5.lt
  clear N1 N4 g5 y1
  have c0 := CellsAt.cell R5 0
  have c1 := CellsAt.cell R5 1
  have c2 := CellsAt.cell R5 2
  have c3 := CellsAt.cell R5 3
  have c4 := CellsAt.cell R5 4
  have c5 := CellsAt.cell R5 5
  simp only [List.getElem?_toArray, List.getElem?_cons_zero, List.getElem?_cons_succ] at c0 c1 c2 c3 c4 c5
  go_wp2_with fail
  refine (AL.out _).mono ?_
  rintro e' w6 ⟨rfl, g6⟩
  have R6 := R5.gr g6
  have N6 := N5.gr g6
  have y6 := y5.trans g6
  have l6 := R6.lt
  clear c0 c1 c2 c3 c4 c5 R5 N5 y5 g6
  have hn0 : ((ls.length : Int) == 0) = false := by have := hne.out; simp; exact this
  go_wp2_with fail
  obtain ⟨b, o, cap2, hsl, _, _, _⟩ := N6.at hne.out
  cases hsl
  refine (clone_c b o cap ls hne.out (by omega) _ N6).mono ?_
  rintro e' w7 ⟨v, rfl, hown, g7⟩
  have hlpos : 0 < ls.length := by have := hne.out; cases ls with | nil => exact absurd rfl this | cons _ _ => simp
  obtain ⟨g, cap3, cur, rfl, hgb, hgc, hgn, hgm⟩ : ∃ g cap3 cur, v = .slice (some ⟨g, 0, none⟩) ls.length cap3 ∧ w6.heap.size ≤ g ∧ CellsAt w7 g 3 cur ∧ ls.length ≤ cap3 ∧ cap3 ≤ maxLen := by
    rcases hown.2 with ⟨_, h0⟩ | ⟨g, cap3, cur, rfl, hb, hg, hn, hm, _⟩
    · omega
    · exact ⟨g, cap3, cur, rfl, hb, hg, hn, hm⟩
  have hcu : ∀ (j : Nat) y, ls[j]? = some y → cur[j]? = some (.int .i64 y) := fun j y hj => by
    have := hown.cells (g := g) rfl j (.int .i64 y) (by rw [List.getElem?_map, hj]; rfl)
    rw [addr_plus, Nat.zero_add, hgc.cell] at this
    exact this
  have R7 := R6.gr g7
  have y7 := y6.trans g7
  have l7 := R7.lt
  have l8 := hgc.lt
  obtain ⟨hK, hx0, hx1⟩ := HX.out
  obtain ⟨i1, ⟨i2, i3⟩, i4, i5⟩ := HIX.out
  have hgK : w7.cell? ⟨g, K, none⟩ = some (.int .i64 x) := (hgc.cell K).trans (hcu K x hK)
  have hgF := hgc.frozen K
  have hnz : ¬ (ls.length : Int) = 0 := by omega
  have hKI : (K : Int) < (ls.length : Int) := by omega
  have h10I : (ls.length : Int) ≤ 10 := by omega
  have hne2 : w.heap.size ≠ g := by omega
  have hwg : w.heap.size ≤ g := by omega
  clear N6 R6 y6 g7 l6 hown hn0
  have c0 := CellsAt.cell R7 0
  have c1 := CellsAt.cell R7 1
  have c2 := CellsAt.cell R7 2
  have c3 := CellsAt.cell R7 3
  have c4 := CellsAt.cell R7 4
  have c5 := CellsAt.cell R7 5
  simp only [List.getElem?_toArray, List.getElem?_cons_zero, List.getElem?_cons_succ] at c0 c1 c2 c3 c4 c5
  go_wp2_with fail
  have R8 := R7.other hne2 K (.int .i64 (x + 1))
  have N8 : NumsAt (w7.setCell ⟨g, K, none⟩ (.int .i64 (x + 1))) (.slice (some ⟨g, 0, none⟩) ls.length cap3) (ls.set K (x + 1)) := by
    have := nums_of_cells (cap := cap3) (ls := ls.set K (x + 1)) (hgc.set K (.int .i64 (x + 1))) (fun j y hj => by
      rw [List.getElem?_set] at hj
      by_cases e : K = j
      · subst e
        rw [if_pos rfl, if_pos i5] at hj
        cases hj
        have hs : K < cur.size := (Array.getElem?_eq_some_iff.1 (hcu K x hK)).1
        exact Array.getElem?_setIfInBounds_self_of_lt hs
      · rw [if_neg e] at hj
        rw [Array.getElem?_setIfInBounds_ne e]
        exact hcu j y hj) (by simpa using hgn) hgm
    rw [List.length_set] at this
    exact this
  have y8 := y7.setCell (a := ⟨g, K, none⟩) hwg (.int .i64 (x + 1))
  obtain ⟨u8, hu⟩ : ∃ uu, uu = w7.setCell ⟨g, K, none⟩ (.int .i64 (x + 1)) := ⟨_, rfl⟩
  rw [← hu] at R8 N8 y8 ⊢
  clear hu
  refine (HOM.out _ _ _ N8).mono ?_
  rintro e' w9 ⟨rfl, g9⟩
  go_wp2_with fail
  go_ret
  exact ⟨by first | rfl | simp, y8.trans g9⟩


set_option maxHeartbeats 4000000 in
theorem budgetLeast_no0 (p : Option Addr) (len cap K : Nat) (ls : List Int) (fo lo ke sc mo ix md r r3 m2 n x z er j0 : Int) (iv : Bool) (hmin : (if (10 : Int) < (len : Int) then 10 else (len : Int)) = (ls.length : Int)) (hcap : ls.length ≤ cap) (hne : Hid (ls ≠ [])) (h10 : ls.length ≤ 10) (hsc : (sc == 0) = true)
    (HIX : Hid (ix.tmod (ls.length : Int) = j0 ∧ (-10 ≤ j0 ∧ j0 ≤ 10) ∧ (j0 + (ls.length : Int)).tmod (ls.length : Int) = (K : Int) ∧ K < ls.length)) (HX : Hid (ls[K]? = some x ∧ 0 ≤ x ∧ x ≤ 1000))
    (HMM : Hid (md.tmod 3 = r ∧ IntKind.i64.wrap (r + 3) = r3 ∧ r3.tmod 3 = m2)) (n0 : 0 ≤ n) (hlo0 : 0 ≤ lo) (hlo : lo ≤ 100) (hhalf : sc = 0 → n ≤ 64 * (6 * lo + 4))
    (HO : Hid (∀ sp cl W, NumsAt W (.slice sp ls.length cl) ls → Calls Try.prog 14 #[.agg #[.int .i64 fo, .int .i64 lo, .int .i64 ke, .int .i64 sc, .int .i64 mo, .bool iv], .slice sp ls.length cl] W fun e w' => e = .returned (.tuple #[.int .i64 n, .int .i64 0]) ∧ Gr W w')) (HOQ : Hid (∀ sp cl W, NumsAt W (.slice sp ls.length cl) ls → Calls Try.prog 14 #[.agg #[.int .i64 fo, .int .i64 lo, .int .i64 ke, .int .i64 sc, .int .i64 m2, .bool (!iv)], .slice sp ls.length cl] W fun e w' => e = .returned (.tuple #[.int .i64 n, .int .i64 0]) ∧ Gr W w'))
    (HOM : Hid (∀ sp cl W, NumsAt W (.slice sp ls.length cl) (ls.set K (x + 1)) → Calls Try.prog 14 #[.agg #[.int .i64 fo, .int .i64 lo, .int .i64 ke, .int .i64 sc, .int .i64 mo, .bool iv], .slice sp ls.length cl] W fun e w' => e = .returned (.tuple #[.int .i64 0, .int .i64 er]) ∧ Gr W w')) (her : (er != 0) = true) (AL : Hid (∀ W, Calls Try.prog 11 #[] W fun e w' => e = .returned (.bool true) ∧ Gr W w')) (w : World) (hl : NumsAt w (.slice p ls.length cap) ls) :
    Calls Try.prog 5 #[.agg #[.int .i64 fo, .int .i64 lo, .int .i64 ke, .int .i64 sc, .int .i64 mo, .bool iv], .slice p len cap, .int .i64 ix, .int .i64 md] w fun e w' => e = .returned (.bool true) ∧ Gr w w' := by
  have hh := fun h => hhalf h
  clear hhalf
  have hh2 := hh (by simpa using hsc)
  clear hh
  have hcut := run_cut_int p len cap ls.length hcap
  go_enter Try.func5, Try.ntmps5
  go_wp2_with fail
  obtain ⟨u0, hu⟩ : ∃ uu, uu = w.alloc (.cells #[.int .i64 fo, .int .i64 lo, .int .i64 ke, .int .i64 sc, .int .i64 mo, .bool iv] 23) := ⟨_, rfl⟩
  have R0 : CellsAt u0 w.heap.size 23 #[.int .i64 fo, .int .i64 lo, .int .i64 ke, .int .i64 sc, .int .i64 mo, .bool iv] := by rw [hu]; exact CellsAt.new w 23 #[.int .i64 fo, .int .i64 lo, .int .i64 ke, .int .i64 sc, .int .i64 mo, .bool iv]
  have y0 : Gr w u0 := by rw [hu]; exact (Gr.refl w).alloc _ _
  have N0 := hl.gr y0
  rw [← hu]
  clear hu hl hcap
  refine (HO.out _ _ _ N0).mono ?_
  rintro e' w1 ⟨rfl, g1⟩
  have R1 := R0.gr g1
  have y1 := y0.trans g1
  have l1 := R1.lt
  have N1 := N0.gr g1
  clear R0 y0 g1 N0
  have c0 := CellsAt.cell R1 0
  have c1 := CellsAt.cell R1 1
  have c2 := CellsAt.cell R1 2
  have c3 := CellsAt.cell R1 3
  have c4 := CellsAt.cell R1 4
  have c5 := CellsAt.cell R1 5
  simp only [List.getElem?_toArray, List.getElem?_cons_zero, List.getElem?_cons_succ] at c0 c1 c2 c3 c4 c5
  go_wp2_with fail
  clear c0 c1 c2 c3 c4 c5
  obtain ⟨u2, hu⟩ : ∃ uu, uu = w1.alloc (.cells #[.int .i64 fo, .int .i64 lo, .int .i64 ke, .int .i64 sc, .int .i64 mo, .bool iv] 23) := ⟨_, rfl⟩
  have Q2 : CellsAt u2 w1.heap.size 23 #[.int .i64 fo, .int .i64 lo, .int .i64 ke, .int .i64 sc, .int .i64 mo, .bool iv] := by rw [hu]; exact CellsAt.new w1 23 #[.int .i64 fo, .int .i64 lo, .int .i64 ke, .int .i64 sc, .int .i64 mo, .bool iv]
  have P2 : CellsAt u2 w.heap.size 23 #[.int .i64 fo, .int .i64 lo, .int .i64 ke, .int .i64 sc, .int .i64 mo, .bool iv] := by rw [hu]; exact R1.alloc _
  have k2 : Gr w1 u2 := by rw [hu]; exact (Gr.refl w1).alloc _ _
  rw [← hu]
  clear hu
  have y2 : Gr w1 u2 := k2
  clear k2
  obtain ⟨hm1, hm2, hm3⟩ := HMM.out
  obtain ⟨u3, hqp21⟩ : ∃ zz, zz = u2 := ⟨_, rfl⟩
  have Yp_p21 : CellsAt u3 (w.heap.size) 23 #[.int .i64 fo, .int .i64 lo, .int .i64 ke, .int .i64 sc, .int .i64 mo, .bool iv] := by rw [hqp21]; first | exact P2 | simpa using P2
  have Yq_p21 : CellsAt u3 (w1.heap.size) 23 #[.int .i64 fo, .int .i64 lo, .int .i64 ke, .int .i64 sc, .int .i64 mo, .bool iv] := by rw [hqp21]; first | exact Q2 | simpa using Q2
  have yp21 : Gr w1 u3 := by rw [hqp21]; exact y2
  rw [← hqp21]
  clear hqp21
  have KS : ∀ W, GB (w1.heap.size) u3 W → (W.cell? ⟨w.heap.size, 0, none⟩ = some (.int .i64 fo) ∧ W.cell? ⟨w.heap.size, 1, none⟩ = some (.int .i64 lo) ∧ W.cell? ⟨w.heap.size, 2, none⟩ = some (.int .i64 ke) ∧ W.cell? ⟨w.heap.size, 3, none⟩ = some (.int .i64 sc) ∧ W.cell? ⟨w.heap.size, 4, none⟩ = some (.int .i64 mo) ∧ W.cell? ⟨w.heap.size, 5, none⟩ = some (.bool iv)) := fun W hG => ⟨(GB.cellsAt hG Yp_p21 (by omega)).cell 0, (GB.cellsAt hG Yp_p21 (by omega)).cell 1, (GB.cellsAt hG Yp_p21 (by omega)).cell 2, (GB.cellsAt hG Yp_p21 (by omega)).cell 3, (GB.cellsAt hG Yp_p21 (by omega)).cell 4, (GB.cellsAt hG Yp_p21 (by omega)).cell 5⟩
  have hclG := gb_closed (w1.heap.size) u3
  try simp only [List.append_eq, List.cons_append, List.nil_append]
  refine wp_region_grow (S := GB (w1.heap.size) u3) rfl (GB.drew (GB.refl _ _)) ?_
  refine wpG_take (i := 0) (v := ?_) hclG rfl (by kernel_rfl) (by kernel_rfl) (by kernel_rfl) (fun _ _ _ h => h) (by rfl) ?_ ?_
  rotate_left
  · (intro w' hSw; go_simp; try with_reducible rfl)
  try simp only [Act.put, List.setIfInBounds_toArray, List.set_cons_zero, List.set_cons_succ, List.getElem_toArray, List.getElem_cons_zero, List.getElem_cons_succ]
  refine wpG_take (i := 1) (v := ?_) hclG rfl (by kernel_rfl) (by kernel_rfl) (by kernel_rfl) (fun _ _ _ h => h) (by rfl) ?_ ?_
  rotate_left
  · (intro w' hSw; go_simp; try with_reducible rfl)
  try simp only [Act.put, List.setIfInBounds_toArray, List.set_cons_zero, List.set_cons_succ, List.getElem_toArray, List.getElem_cons_zero, List.getElem_cons_succ]
  refine wpG_take (i := 2) (v := ?_) hclG rfl (by kernel_rfl) (by kernel_rfl) (by kernel_rfl) (fun _ _ _ h => h) (by rfl) ?_ ?_
  rotate_left
  · (intro w' hSw; go_simp; try with_reducible rfl)
  try simp only [Act.put, List.setIfInBounds_toArray, List.set_cons_zero, List.set_cons_succ, List.getElem_toArray, List.getElem_cons_zero, List.getElem_cons_succ]
  refine wpG_take (i := 3) (v := ?_) hclG rfl (by kernel_rfl) (by kernel_rfl) (by kernel_rfl) (fun _ _ _ h => h) (by rfl) ?_ ?_
  rotate_left
  · (intro w' hSw; go_simp; try with_reducible rfl)
  try simp only [Act.put, List.setIfInBounds_toArray, List.set_cons_zero, List.set_cons_succ, List.getElem_toArray, List.getElem_cons_zero, List.getElem_cons_succ]
  refine wpG_take (i := 4) (v := ?_) hclG rfl (by kernel_rfl) (by kernel_rfl) (by kernel_rfl) (fun _ _ _ h => h) (by rfl) ?_ ?_
  rotate_left
  · (intro w' hSw; go_simp; try with_reducible rfl)
  try simp only [Act.put, List.setIfInBounds_toArray, List.set_cons_zero, List.set_cons_succ, List.getElem_toArray, List.getElem_cons_zero, List.getElem_cons_succ]
  refine wpG_take (i := 5) (v := ?_) hclG rfl (by kernel_rfl) (by kernel_rfl) (by kernel_rfl) (fun _ _ _ h => h) (by rfl) ?_ ?_
  rotate_left
  · (intro w' hSw; have hk := KS w' hSw; go_split_ands; go_simp; try with_reducible rfl)
  try simp only [Act.put, List.setIfInBounds_toArray, List.set_cons_zero, List.set_cons_succ, List.getElem_toArray, List.getElem_cons_zero, List.getElem_cons_succ]
  refine wpG_take (i := 6) (v := ?_) hclG rfl (by kernel_rfl) (by kernel_rfl) (by kernel_rfl) (fun _ _ _ h => h) (by rfl) ?_ ?_
  rotate_left
  · (intro w' hSw; go_simp; try with_reducible rfl)
  try simp only [Act.put, List.setIfInBounds_toArray, List.set_cons_zero, List.set_cons_succ, List.getElem_toArray, List.getElem_cons_zero, List.getElem_cons_succ]
  refine wpG_take (i := 7) (v := ?_) hclG rfl (by kernel_rfl) (by kernel_rfl) (by kernel_rfl) (fun _ _ _ h => h) (by rfl) ?_ ?_
  rotate_left
  · (intro w' hSw; go_simp; try with_reducible rfl)
  try simp only [Act.put, List.setIfInBounds_toArray, List.set_cons_zero, List.set_cons_succ, List.getElem_toArray, List.getElem_cons_zero, List.getElem_cons_succ]
  refine wpG_ready (rs := [8]) (by kernel_rfl) (by simp) (fun w21 g21 s21 => ?_)
  refine AllG.cons rfl (fun K hK => ?_) AllG.nil
  replace g21 := (Gr.drew (Gr.refl u3)).trans g21
  have Fp_21 := CellsAt.gr (Yp_p21) g21
  have lp_21 := CellsAt.lt (Fp_21)
  have Fq_21 := CellsAt.gr (Yq_p21) g21
  have lq_21 := CellsAt.lt (Fq_21)
  have z21 := (yp21).trans g21
  clear Yp_p21 Yq_p21 yp21 g21
  have mq0 := CellsAt.frozen (Fq_21) 0
  have cq0 := CellsAt.cell (Fq_21) 0
  simp only [List.getElem?_toArray, List.getElem?_cons_zero, List.getElem?_cons_succ] at cq0
  have mq1 := CellsAt.frozen (Fq_21) 1
  have cq1 := CellsAt.cell (Fq_21) 1
  simp only [List.getElem?_toArray, List.getElem?_cons_zero, List.getElem?_cons_succ] at cq1
  have mq2 := CellsAt.frozen (Fq_21) 2
  have cq2 := CellsAt.cell (Fq_21) 2
  simp only [List.getElem?_toArray, List.getElem?_cons_zero, List.getElem?_cons_succ] at cq2
  have mq3 := CellsAt.frozen (Fq_21) 3
  have cq3 := CellsAt.cell (Fq_21) 3
  simp only [List.getElem?_toArray, List.getElem?_cons_zero, List.getElem?_cons_succ] at cq3
  have mq4 := CellsAt.frozen (Fq_21) 4
  have cq4 := CellsAt.cell (Fq_21) 4
  simp only [List.getElem?_toArray, List.getElem?_cons_zero, List.getElem?_cons_succ] at cq4
  have mq5 := CellsAt.frozen (Fq_21) 5
  have cq5 := CellsAt.cell (Fq_21) 5
  simp only [List.getElem?_toArray, List.getElem?_cons_zero, List.getElem?_cons_succ] at cq5
  go_simp
  clear mq0 cq0 mq1 cq1 mq2 cq2 mq3 cq3 mq4 cq4 mq5 cq5
  refine hK.out _ _ ?_ ?_
  · exact (GB.set s21 _ _)
  clear hK K
  try simp only [Act.put, List.setIfInBounds_toArray, List.set_cons_zero, List.set_cons_succ, List.getElem_toArray, List.getElem_cons_zero, List.getElem_cons_succ]
  refine wpG_take (i := 9) (v := ?_) hclG rfl (by kernel_rfl) (by kernel_rfl) (by kernel_rfl) (fun _ _ _ h => h) (by rfl) ?_ ?_
  rotate_left
  · (intro w' hSw; go_simp; try with_reducible rfl)
  try simp only [Act.put, List.setIfInBounds_toArray, List.set_cons_zero, List.set_cons_succ, List.getElem_toArray, List.getElem_cons_zero, List.getElem_cons_succ]
  refine wpG_ready (rs := [10]) (by kernel_rfl) (by simp) (fun w22 g22 s22 => ?_)
  refine AllG.cons rfl (fun K hK => ?_) AllG.nil
  have Fp_22 := CellsAt.gr ((Fp_21).other (by omega) _ _) g22
  have lp_22 := CellsAt.lt (Fp_22)
  have Fq_22 : CellsAt w22 (w1.heap.size) 23 #[.int .i64 fo, .int .i64 lo, .int .i64 ke, .int .i64 sc, .int .i64 m2, .bool iv] := CellsAt.gr (CellsAt.set (Fq_21) 4 (.int .i64 m2)) g22
  have lq_22 := CellsAt.lt (Fq_22)
  have z22 := ((z21).setCell (by first | omega | (simp only; omega)) _).trans g22
  clear g22
  have mq0 := CellsAt.frozen (Fq_22) 0
  have cq0 := CellsAt.cell (Fq_22) 0
  simp only [List.getElem?_toArray, List.getElem?_cons_zero, List.getElem?_cons_succ] at cq0
  have mq1 := CellsAt.frozen (Fq_22) 1
  have cq1 := CellsAt.cell (Fq_22) 1
  simp only [List.getElem?_toArray, List.getElem?_cons_zero, List.getElem?_cons_succ] at cq1
  have mq2 := CellsAt.frozen (Fq_22) 2
  have cq2 := CellsAt.cell (Fq_22) 2
  simp only [List.getElem?_toArray, List.getElem?_cons_zero, List.getElem?_cons_succ] at cq2
  have mq3 := CellsAt.frozen (Fq_22) 3
  have cq3 := CellsAt.cell (Fq_22) 3
  simp only [List.getElem?_toArray, List.getElem?_cons_zero, List.getElem?_cons_succ] at cq3
  have mq4 := CellsAt.frozen (Fq_22) 4
  have cq4 := CellsAt.cell (Fq_22) 4
  simp only [List.getElem?_toArray, List.getElem?_cons_zero, List.getElem?_cons_succ] at cq4
  have mq5 := CellsAt.frozen (Fq_22) 5
  have cq5 := CellsAt.cell (Fq_22) 5
  simp only [List.getElem?_toArray, List.getElem?_cons_zero, List.getElem?_cons_succ] at cq5
  go_simp
  clear mq0 cq0 mq1 cq1 mq2 cq2 mq3 cq3 mq4 cq4 mq5 cq5
  refine hK.out _ _ ?_ ?_
  · exact (GB.set s22 _ _)
  clear hK K
  try simp only [Act.put, List.setIfInBounds_toArray, List.set_cons_zero, List.set_cons_succ, List.getElem_toArray, List.getElem_cons_zero, List.getElem_cons_succ]
  refine wpG_done (by kernel_rfl) (fun w23 g23 => ?_) _
  have Fp_23 := CellsAt.gr ((Fp_22).other (by omega) _ _) g23
  have lp_23 := CellsAt.lt (Fp_23)
  have Fq_23 : CellsAt w23 (w1.heap.size) 23 #[.int .i64 fo, .int .i64 lo, .int .i64 ke, .int .i64 sc, .int .i64 m2, .bool (!iv)] := CellsAt.gr (CellsAt.set (Fq_22) 5 (.bool (!iv))) g23
  have lq_23 := CellsAt.lt (Fq_23)
  have z23 := ((z22).setCell (by first | omega | (simp only; omega)) _).trans g23
  clear g23
  clear hclG KS
  clear hm1 hm2 hm3
  obtain ⟨u4, hqp22⟩ : ∃ zz, zz = w23 := ⟨_, rfl⟩
  have Yp_p22 : CellsAt u4 (w.heap.size) 23 #[.int .i64 fo, .int .i64 lo, .int .i64 ke, .int .i64 sc, .int .i64 mo, .bool iv] := by rw [hqp22]; first | exact Fp_23 | simpa using Fp_23
  have Yq_p22 : CellsAt u4 (w1.heap.size) 23 #[.int .i64 fo, .int .i64 lo, .int .i64 ke, .int .i64 sc, .int .i64 m2, .bool (!iv)] := by rw [hqp22]; first | exact Fq_23 | simpa using Fq_23
  have yp22 : Gr w1 u4 := by rw [hqp22]; exact z23
  rw [← hqp22]
  clear hqp22
  have cq0 := CellsAt.cell (Yq_p22) 0
  have cq1 := CellsAt.cell (Yq_p22) 1
  have cq2 := CellsAt.cell (Yq_p22) 2
  have cq3 := CellsAt.cell (Yq_p22) 3
  have cq4 := CellsAt.cell (Yq_p22) 4
  have cq5 := CellsAt.cell (Yq_p22) 5
  simp only [List.getElem?_toArray, List.getElem?_cons_zero, List.getElem?_cons_succ] at cq0 cq1 cq2 cq3 cq4 cq5
  go_wp2_with fail
  clear cq0 cq1 cq2 cq3 cq4 cq5
  have N4 := N1.gr yp22
  refine (HOQ.out _ _ _ N4).mono ?_
  rintro e' w5 ⟨rfl, g5⟩
  have R5 := Yp_p22.gr g5
  have z5 := yp22.trans g5
  have N5 := N1.gr z5
  have y5 := y1.trans z5
  have l5 := R5.lt
  clear N1 N4 g5 y1
  have c0 := CellsAt.cell R5 0
  have c1 := CellsAt.cell R5 1
  have c2 := CellsAt.cell R5 2
  have c3 := CellsAt.cell R5 3
  have c4 := CellsAt.cell R5 4
  have c5 := CellsAt.cell R5 5
  simp only [List.getElem?_toArray, List.getElem?_cons_zero, List.getElem?_cons_succ] at c0 c1 c2 c3 c4 c5
  go_wp2_with fail
  refine (AL.out _).mono ?_
  rintro e' w6 ⟨rfl, g6⟩
  have R6 := R5.gr g6
  have N6 := N5.gr g6
  have y6 := y5.trans g6
  have l6 := R6.lt
  clear c0 c1 c2 c3 c4 c5 R5 N5 y5 g6
  have hn0 : ((ls.length : Int) == 0) = false := by have := hne.out; simp; exact this
  go_wp2_with fail
  obtain ⟨b, o, cap2, hsl, _, _, _⟩ := N6.at hne.out
  cases hsl
  refine (clone_c b o cap ls hne.out (by omega) _ N6).mono ?_
  rintro e' w7 ⟨v, rfl, hown, g7⟩
  have hlpos : 0 < ls.length := by have := hne.out; cases ls with | nil => exact absurd rfl this | cons _ _ => simp
  obtain ⟨g, cap3, cur, rfl, hgb, hgc, hgn, hgm⟩ : ∃ g cap3 cur, v = .slice (some ⟨g, 0, none⟩) ls.length cap3 ∧ w6.heap.size ≤ g ∧ CellsAt w7 g 3 cur ∧ ls.length ≤ cap3 ∧ cap3 ≤ maxLen := by
    rcases hown.2 with ⟨_, h0⟩ | ⟨g, cap3, cur, rfl, hb, hg, hn, hm, _⟩
    · omega
    · exact ⟨g, cap3, cur, rfl, hb, hg, hn, hm⟩
  have hcu : ∀ (j : Nat) y, ls[j]? = some y → cur[j]? = some (.int .i64 y) := fun j y hj => by
    have := hown.cells (g := g) rfl j (.int .i64 y) (by rw [List.getElem?_map, hj]; rfl)
    rw [addr_plus, Nat.zero_add, hgc.cell] at this
    exact this
  have R7 := R6.gr g7
  have y7 := y6.trans g7
  have l7 := R7.lt
  have l8 := hgc.lt
  obtain ⟨hK, hx0, hx1⟩ := HX.out
  obtain ⟨i1, ⟨i2, i3⟩, i4, i5⟩ := HIX.out
  have hgK : w7.cell? ⟨g, K, none⟩ = some (.int .i64 x) := (hgc.cell K).trans (hcu K x hK)
  have hgF := hgc.frozen K
  have hnz : ¬ (ls.length : Int) = 0 := by omega
  have hKI : (K : Int) < (ls.length : Int) := by omega
  have h10I : (ls.length : Int) ≤ 10 := by omega
  have hne2 : w.heap.size ≠ g := by omega
  have hwg : w.heap.size ≤ g := by omega
  clear N6 R6 y6 g7 l6 hown hn0
  have c0 := CellsAt.cell R7 0
  have c1 := CellsAt.cell R7 1
  have c2 := CellsAt.cell R7 2
  have c3 := CellsAt.cell R7 3
  have c4 := CellsAt.cell R7 4
  have c5 := CellsAt.cell R7 5
  simp only [List.getElem?_toArray, List.getElem?_cons_zero, List.getElem?_cons_succ] at c0 c1 c2 c3 c4 c5
  go_wp2_with fail
  have R8 := R7.other hne2 K (.int .i64 (x + 1))
  have N8 : NumsAt (w7.setCell ⟨g, K, none⟩ (.int .i64 (x + 1))) (.slice (some ⟨g, 0, none⟩) ls.length cap3) (ls.set K (x + 1)) := by
    have := nums_of_cells (cap := cap3) (ls := ls.set K (x + 1)) (hgc.set K (.int .i64 (x + 1))) (fun j y hj => by
      rw [List.getElem?_set] at hj
      by_cases e : K = j
      · subst e
        rw [if_pos rfl, if_pos i5] at hj
        cases hj
        have hs : K < cur.size := (Array.getElem?_eq_some_iff.1 (hcu K x hK)).1
        exact Array.getElem?_setIfInBounds_self_of_lt hs
      · rw [if_neg e] at hj
        rw [Array.getElem?_setIfInBounds_ne e]
        exact hcu j y hj) (by simpa using hgn) hgm
    rw [List.length_set] at this
    exact this
  have y8 := y7.setCell (a := ⟨g, K, none⟩) hwg (.int .i64 (x + 1))
  obtain ⟨u8, hu⟩ : ∃ uu, uu = w7.setCell ⟨g, K, none⟩ (.int .i64 (x + 1)) := ⟨_, rfl⟩
  rw [← hu] at R8 N8 y8 ⊢
  clear hu
  refine (HOM.out _ _ _ N8).mono ?_
  rintro e' w9 ⟨rfl, g9⟩
  go_wp2_with fail
  go_ret
  exact ⟨by first | rfl | simp, y8.trans g9⟩


set_option maxHeartbeats 4000000 in
theorem budgetLeast_ok (p : Option Addr) (len cap K : Nat) (ls : List Int) (fo lo ke sc mo ix md r r3 m2 n x z er j0 : Int) (iv : Bool) (hmin : (if (10 : Int) < (len : Int) then 10 else (len : Int)) = (ls.length : Int)) (hcap : ls.length ≤ cap) (hne : Hid (ls ≠ [])) (h10 : ls.length ≤ 10) (hsc : (sc == 0) = false)
    (HIX : Hid (ix.tmod (ls.length : Int) = j0 ∧ (-10 ≤ j0 ∧ j0 ≤ 10) ∧ (j0 + (ls.length : Int)).tmod (ls.length : Int) = (K : Int) ∧ K < ls.length)) (HX : Hid (ls[K]? = some x ∧ 0 ≤ x ∧ x ≤ 1000))
    (HMM : Hid (md.tmod 3 = r ∧ IntKind.i64.wrap (r + 3) = r3 ∧ r3.tmod 3 = m2)) (n0 : 0 ≤ n) (hlo0 : 0 ≤ lo) (hlo : lo ≤ 100) (hhalf : sc = 0 → n ≤ 64 * (6 * lo + 4))
    (HO : Hid (∀ sp cl W, NumsAt W (.slice sp ls.length cl) ls → Calls Try.prog 14 #[.agg #[.int .i64 fo, .int .i64 lo, .int .i64 ke, .int .i64 sc, .int .i64 mo, .bool iv], .slice sp ls.length cl] W fun e w' => e = .returned (.tuple #[.int .i64 n, .int .i64 0]) ∧ Gr W w')) (HOQ : Hid (∀ sp cl W, NumsAt W (.slice sp ls.length cl) ls → Calls Try.prog 14 #[.agg #[.int .i64 fo, .int .i64 lo, .int .i64 ke, .int .i64 sc, .int .i64 m2, .bool (!iv)], .slice sp ls.length cl] W fun e w' => e = .returned (.tuple #[.int .i64 n, .int .i64 0]) ∧ Gr W w'))
    (HOM : Hid (∀ sp cl W, NumsAt W (.slice sp ls.length cl) (ls.set K (x + 1)) → Calls Try.prog 14 #[.agg #[.int .i64 fo, .int .i64 lo, .int .i64 ke, .int .i64 sc, .int .i64 mo, .bool iv], .slice sp ls.length cl] W fun e w' => e = .returned (.tuple #[.int .i64 z, .int .i64 0]) ∧ Gr W w')) (hz : z ≤ n) (AL : Hid (∀ W, Calls Try.prog 11 #[] W fun e w' => e = .returned (.bool true) ∧ Gr W w')) (w : World) (hl : NumsAt w (.slice p ls.length cap) ls) :
    Calls Try.prog 5 #[.agg #[.int .i64 fo, .int .i64 lo, .int .i64 ke, .int .i64 sc, .int .i64 mo, .bool iv], .slice p len cap, .int .i64 ix, .int .i64 md] w fun e w' => e = .returned (.bool true) ∧ Gr w w' := by
  have hh := fun h => hhalf h
  clear hhalf
  skip
  clear hh
  have hcut := run_cut_int p len cap ls.length hcap
  go_enter Try.func5, Try.ntmps5
  go_wp2_with fail
  obtain ⟨u0, hu⟩ : ∃ uu, uu = w.alloc (.cells #[.int .i64 fo, .int .i64 lo, .int .i64 ke, .int .i64 sc, .int .i64 mo, .bool iv] 23) := ⟨_, rfl⟩
  have R0 : CellsAt u0 w.heap.size 23 #[.int .i64 fo, .int .i64 lo, .int .i64 ke, .int .i64 sc, .int .i64 mo, .bool iv] := by rw [hu]; exact CellsAt.new w 23 #[.int .i64 fo, .int .i64 lo, .int .i64 ke, .int .i64 sc, .int .i64 mo, .bool iv]
  have y0 : Gr w u0 := by rw [hu]; exact (Gr.refl w).alloc _ _
  have N0 := hl.gr y0
  rw [← hu]
  clear hu hl hcap
  refine (HO.out _ _ _ N0).mono ?_
  rintro e' w1 ⟨rfl, g1⟩
  have R1 := R0.gr g1
  have y1 := y0.trans g1
  have l1 := R1.lt
  have N1 := N0.gr g1
  clear R0 y0 g1 N0
  have c0 := CellsAt.cell R1 0
  have c1 := CellsAt.cell R1 1
  have c2 := CellsAt.cell R1 2
  have c3 := CellsAt.cell R1 3
  have c4 := CellsAt.cell R1 4
  have c5 := CellsAt.cell R1 5
  simp only [List.getElem?_toArray, List.getElem?_cons_zero, List.getElem?_cons_succ] at c0 c1 c2 c3 c4 c5
  go_wp2_with fail
  clear c0 c1 c2 c3 c4 c5
  obtain ⟨u2, hu⟩ : ∃ uu, uu = w1.alloc (.cells #[.int .i64 fo, .int .i64 lo, .int .i64 ke, .int .i64 sc, .int .i64 mo, .bool iv] 23) := ⟨_, rfl⟩
  have Q2 : CellsAt u2 w1.heap.size 23 #[.int .i64 fo, .int .i64 lo, .int .i64 ke, .int .i64 sc, .int .i64 mo, .bool iv] := by rw [hu]; exact CellsAt.new w1 23 #[.int .i64 fo, .int .i64 lo, .int .i64 ke, .int .i64 sc, .int .i64 mo, .bool iv]
  have P2 : CellsAt u2 w.heap.size 23 #[.int .i64 fo, .int .i64 lo, .int .i64 ke, .int .i64 sc, .int .i64 mo, .bool iv] := by rw [hu]; exact R1.alloc _
  have k2 : Gr w1 u2 := by rw [hu]; exact (Gr.refl w1).alloc _ _
  rw [← hu]
  clear hu
  have y2 : Gr w1 u2 := k2
  clear k2
  obtain ⟨hm1, hm2, hm3⟩ := HMM.out
  obtain ⟨u3, hqp21⟩ : ∃ zz, zz = u2 := ⟨_, rfl⟩
  have Yp_p21 : CellsAt u3 (w.heap.size) 23 #[.int .i64 fo, .int .i64 lo, .int .i64 ke, .int .i64 sc, .int .i64 mo, .bool iv] := by rw [hqp21]; first | exact P2 | simpa using P2
  have Yq_p21 : CellsAt u3 (w1.heap.size) 23 #[.int .i64 fo, .int .i64 lo, .int .i64 ke, .int .i64 sc, .int .i64 mo, .bool iv] := by rw [hqp21]; first | exact Q2 | simpa using Q2
  have yp21 : Gr w1 u3 := by rw [hqp21]; exact y2
  rw [← hqp21]
  clear hqp21
  have KS : ∀ W, GB (w1.heap.size) u3 W → (W.cell? ⟨w.heap.size, 0, none⟩ = some (.int .i64 fo) ∧ W.cell? ⟨w.heap.size, 1, none⟩ = some (.int .i64 lo) ∧ W.cell? ⟨w.heap.size, 2, none⟩ = some (.int .i64 ke) ∧ W.cell? ⟨w.heap.size, 3, none⟩ = some (.int .i64 sc) ∧ W.cell? ⟨w.heap.size, 4, none⟩ = some (.int .i64 mo) ∧ W.cell? ⟨w.heap.size, 5, none⟩ = some (.bool iv)) := fun W hG => ⟨(GB.cellsAt hG Yp_p21 (by omega)).cell 0, (GB.cellsAt hG Yp_p21 (by omega)).cell 1, (GB.cellsAt hG Yp_p21 (by omega)).cell 2, (GB.cellsAt hG Yp_p21 (by omega)).cell 3, (GB.cellsAt hG Yp_p21 (by omega)).cell 4, (GB.cellsAt hG Yp_p21 (by omega)).cell 5⟩
  have hclG := gb_closed (w1.heap.size) u3
  try simp only [List.append_eq, List.cons_append, List.nil_append]
  refine wp_region_grow (S := GB (w1.heap.size) u3) rfl (GB.drew (GB.refl _ _)) ?_
  refine wpG_take (i := 0) (v := ?_) hclG rfl (by kernel_rfl) (by kernel_rfl) (by kernel_rfl) (fun _ _ _ h => h) (by rfl) ?_ ?_
  rotate_left
  · (intro w' hSw; go_simp; try with_reducible rfl)
  try simp only [Act.put, List.setIfInBounds_toArray, List.set_cons_zero, List.set_cons_succ, List.getElem_toArray, List.getElem_cons_zero, List.getElem_cons_succ]
  refine wpG_take (i := 1) (v := ?_) hclG rfl (by kernel_rfl) (by kernel_rfl) (by kernel_rfl) (fun _ _ _ h => h) (by rfl) ?_ ?_
  rotate_left
  · (intro w' hSw; go_simp; try with_reducible rfl)
  try simp only [Act.put, List.setIfInBounds_toArray, List.set_cons_zero, List.set_cons_succ, List.getElem_toArray, List.getElem_cons_zero, List.getElem_cons_succ]
  refine wpG_take (i := 2) (v := ?_) hclG rfl (by kernel_rfl) (by kernel_rfl) (by kernel_rfl) (fun _ _ _ h => h) (by rfl) ?_ ?_
  rotate_left
  · (intro w' hSw; go_simp; try with_reducible rfl)
  try simp only [Act.put, List.setIfInBounds_toArray, List.set_cons_zero, List.set_cons_succ, List.getElem_toArray, List.getElem_cons_zero, List.getElem_cons_succ]
  refine wpG_take (i := 3) (v := ?_) hclG rfl (by kernel_rfl) (by kernel_rfl) (by kernel_rfl) (fun _ _ _ h => h) (by rfl) ?_ ?_
  rotate_left
  · (intro w' hSw; go_simp; try with_reducible rfl)
  try simp only [Act.put, List.setIfInBounds_toArray, List.set_cons_zero, List.set_cons_succ, List.getElem_toArray, List.getElem_cons_zero, List.getElem_cons_succ]
  refine wpG_take (i := 4) (v := ?_) hclG rfl (by kernel_rfl) (by kernel_rfl) (by kernel_rfl) (fun _ _ _ h => h) (by rfl) ?_ ?_
  rotate_left
  · (intro w' hSw; go_simp; try with_reducible rfl)
  try simp only [Act.put, List.setIfInBounds_toArray, List.set_cons_zero, List.set_cons_succ, List.getElem_toArray, List.getElem_cons_zero, List.getElem_cons_succ]
  refine wpG_take (i := 5) (v := ?_) hclG rfl (by kernel_rfl) (by kernel_rfl) (by kernel_rfl) (fun _ _ _ h => h) (by rfl) ?_ ?_
  rotate_left
  · (intro w' hSw; have hk := KS w' hSw; go_split_ands; go_simp; try with_reducible rfl)
  try simp only [Act.put, List.setIfInBounds_toArray, List.set_cons_zero, List.set_cons_succ, List.getElem_toArray, List.getElem_cons_zero, List.getElem_cons_succ]
  refine wpG_take (i := 6) (v := ?_) hclG rfl (by kernel_rfl) (by kernel_rfl) (by kernel_rfl) (fun _ _ _ h => h) (by rfl) ?_ ?_
  rotate_left
  · (intro w' hSw; go_simp; try with_reducible rfl)
  try simp only [Act.put, List.setIfInBounds_toArray, List.set_cons_zero, List.set_cons_succ, List.getElem_toArray, List.getElem_cons_zero, List.getElem_cons_succ]
  refine wpG_take (i := 7) (v := ?_) hclG rfl (by kernel_rfl) (by kernel_rfl) (by kernel_rfl) (fun _ _ _ h => h) (by rfl) ?_ ?_
  rotate_left
  · (intro w' hSw; go_simp; try with_reducible rfl)
  try simp only [Act.put, List.setIfInBounds_toArray, List.set_cons_zero, List.set_cons_succ, List.getElem_toArray, List.getElem_cons_zero, List.getElem_cons_succ]
  refine wpG_ready (rs := [8]) (by kernel_rfl) (by simp) (fun w21 g21 s21 => ?_)
  refine AllG.cons rfl (fun K hK => ?_) AllG.nil
  replace g21 := (Gr.drew (Gr.refl u3)).trans g21
  have Fp_21 := CellsAt.gr (Yp_p21) g21
  have lp_21 := CellsAt.lt (Fp_21)
  have Fq_21 := CellsAt.gr (Yq_p21) g21
  have lq_21 := CellsAt.lt (Fq_21)
  have z21 := (yp21).trans g21
  clear Yp_p21 Yq_p21 yp21 g21
  have mq0 := CellsAt.frozen (Fq_21) 0
  have cq0 := CellsAt.cell (Fq_21) 0
  simp only [List.getElem?_toArray, List.getElem?_cons_zero, List.getElem?_cons_succ] at cq0
  have mq1 := CellsAt.frozen (Fq_21) 1
  have cq1 := CellsAt.cell (Fq_21) 1
  simp only [List.getElem?_toArray, List.getElem?_cons_zero, List.getElem?_cons_succ] at cq1
  have mq2 := CellsAt.frozen (Fq_21) 2
  have cq2 := CellsAt.cell (Fq_21) 2
  simp only [List.getElem?_toArray, List.getElem?_cons_zero, List.getElem?_cons_succ] at cq2
  have mq3 := CellsAt.frozen (Fq_21) 3
  have cq3 := CellsAt.cell (Fq_21) 3
  simp only [List.getElem?_toArray, List.getElem?_cons_zero, List.getElem?_cons_succ] at cq3
  have mq4 := CellsAt.frozen (Fq_21) 4
  have cq4 := CellsAt.cell (Fq_21) 4
  simp only [List.getElem?_toArray, List.getElem?_cons_zero, List.getElem?_cons_succ] at cq4
  have mq5 := CellsAt.frozen (Fq_21) 5
  have cq5 := CellsAt.cell (Fq_21) 5
  simp only [List.getElem?_toArray, List.getElem?_cons_zero, List.getElem?_cons_succ] at cq5
  go_simp
  clear mq0 cq0 mq1 cq1 mq2 cq2 mq3 cq3 mq4 cq4 mq5 cq5
  refine hK.out _ _ ?_ ?_
  · exact (GB.set s21 _ _)
  clear hK K
  try simp only [Act.put, List.setIfInBounds_toArray, List.set_cons_zero, List.set_cons_succ, List.getElem_toArray, List.getElem_cons_zero, List.getElem_cons_succ]
  refine wpG_take (i := 9) (v := ?_) hclG rfl (by kernel_rfl) (by kernel_rfl) (by kernel_rfl) (fun _ _ _ h => h) (by rfl) ?_ ?_
  rotate_left
  · (intro w' hSw; go_simp; try with_reducible rfl)
  try simp only [Act.put, List.setIfInBounds_toArray, List.set_cons_zero, List.set_cons_succ, List.getElem_toArray, List.getElem_cons_zero, List.getElem_cons_succ]
  refine wpG_ready (rs := [10]) (by kernel_rfl) (by simp) (fun w22 g22 s22 => ?_)
  refine AllG.cons rfl (fun K hK => ?_) AllG.nil
  have Fp_22 := CellsAt.gr ((Fp_21).other (by omega) _ _) g22
  have lp_22 := CellsAt.lt (Fp_22)
  have Fq_22 : CellsAt w22 (w1.heap.size) 23 #[.int .i64 fo, .int .i64 lo, .int .i64 ke, .int .i64 sc, .int .i64 m2, .bool iv] := CellsAt.gr (CellsAt.set (Fq_21) 4 (.int .i64 m2)) g22
  have lq_22 := CellsAt.lt (Fq_22)
  have z22 := ((z21).setCell (by first | omega | (simp only; omega)) _).trans g22
  clear g22
  have mq0 := CellsAt.frozen (Fq_22) 0
  have cq0 := CellsAt.cell (Fq_22) 0
  simp only [List.getElem?_toArray, List.getElem?_cons_zero, List.getElem?_cons_succ] at cq0
  have mq1 := CellsAt.frozen (Fq_22) 1
  have cq1 := CellsAt.cell (Fq_22) 1
  simp only [List.getElem?_toArray, List.getElem?_cons_zero, List.getElem?_cons_succ] at cq1
  have mq2 := CellsAt.frozen (Fq_22) 2
  have cq2 := CellsAt.cell (Fq_22) 2
  simp only [List.getElem?_toArray, List.getElem?_cons_zero, List.getElem?_cons_succ] at cq2
  have mq3 := CellsAt.frozen (Fq_22) 3
  have cq3 := CellsAt.cell (Fq_22) 3
  simp only [List.getElem?_toArray, List.getElem?_cons_zero, List.getElem?_cons_succ] at cq3
  have mq4 := CellsAt.frozen (Fq_22) 4
  have cq4 := CellsAt.cell (Fq_22) 4
  simp only [List.getElem?_toArray, List.getElem?_cons_zero, List.getElem?_cons_succ] at cq4
  have mq5 := CellsAt.frozen (Fq_22) 5
  have cq5 := CellsAt.cell (Fq_22) 5
  simp only [List.getElem?_toArray, List.getElem?_cons_zero, List.getElem?_cons_succ] at cq5
  go_simp
  clear mq0 cq0 mq1 cq1 mq2 cq2 mq3 cq3 mq4 cq4 mq5 cq5
  refine hK.out _ _ ?_ ?_
  · exact (GB.set s22 _ _)
  clear hK K
  try simp only [Act.put, List.setIfInBounds_toArray, List.set_cons_zero, List.set_cons_succ, List.getElem_toArray, List.getElem_cons_zero, List.getElem_cons_succ]
  refine wpG_done (by kernel_rfl) (fun w23 g23 => ?_) _
  have Fp_23 := CellsAt.gr ((Fp_22).other (by omega) _ _) g23
  have lp_23 := CellsAt.lt (Fp_23)
  have Fq_23 : CellsAt w23 (w1.heap.size) 23 #[.int .i64 fo, .int .i64 lo, .int .i64 ke, .int .i64 sc, .int .i64 m2, .bool (!iv)] := CellsAt.gr (CellsAt.set (Fq_22) 5 (.bool (!iv))) g23
  have lq_23 := CellsAt.lt (Fq_23)
  have z23 := ((z22).setCell (by first | omega | (simp only; omega)) _).trans g23
  clear g23
  clear hclG KS
  clear hm1 hm2 hm3
  obtain ⟨u4, hqp22⟩ : ∃ zz, zz = w23 := ⟨_, rfl⟩
  have Yp_p22 : CellsAt u4 (w.heap.size) 23 #[.int .i64 fo, .int .i64 lo, .int .i64 ke, .int .i64 sc, .int .i64 mo, .bool iv] := by rw [hqp22]; first | exact Fp_23 | simpa using Fp_23
  have Yq_p22 : CellsAt u4 (w1.heap.size) 23 #[.int .i64 fo, .int .i64 lo, .int .i64 ke, .int .i64 sc, .int .i64 m2, .bool (!iv)] := by rw [hqp22]; first | exact Fq_23 | simpa using Fq_23
  have yp22 : Gr w1 u4 := by rw [hqp22]; exact z23
  rw [← hqp22]
  clear hqp22
  have cq0 := CellsAt.cell (Yq_p22) 0
  have cq1 := CellsAt.cell (Yq_p22) 1
  have cq2 := CellsAt.cell (Yq_p22) 2
  have cq3 := CellsAt.cell (Yq_p22) 3
  have cq4 := CellsAt.cell (Yq_p22) 4
  have cq5 := CellsAt.cell (Yq_p22) 5
  simp only [List.getElem?_toArray, List.getElem?_cons_zero, List.getElem?_cons_succ] at cq0 cq1 cq2 cq3 cq4 cq5
  go_wp2_with fail
  clear cq0 cq1 cq2 cq3 cq4 cq5
  have N4 := N1.gr yp22
  refine (HOQ.out _ _ _ N4).mono ?_
  rintro e' w5 ⟨rfl, g5⟩
  have R5 := Yp_p22.gr g5
  have z5 := yp22.trans g5
  have N5 := N1.gr z5
  have y5 := y1.trans z5
  have l5 := R5.lt
  clear N1 N4 g5 y1
  have c0 := CellsAt.cell R5 0
  have c1 := CellsAt.cell R5 1
  have c2 := CellsAt.cell R5 2
  have c3 := CellsAt.cell R5 3
  have c4 := CellsAt.cell R5 4
  have c5 := CellsAt.cell R5 5
  simp only [List.getElem?_toArray, List.getElem?_cons_zero, List.getElem?_cons_succ] at c0 c1 c2 c3 c4 c5
  go_wp2_with fail
  refine (AL.out _).mono ?_
  rintro e' w6 ⟨rfl, g6⟩
  have R6 := R5.gr g6
  have N6 := N5.gr g6
  have y6 := y5.trans g6
  have l6 := R6.lt
  clear c0 c1 c2 c3 c4 c5 R5 N5 y5 g6
  have hn0 : ((ls.length : Int) == 0) = false := by have := hne.out; simp; exact this
  go_wp2_with fail
  obtain ⟨b, o, cap2, hsl, _, _, _⟩ := N6.at hne.out
  cases hsl
  refine (clone_c b o cap ls hne.out (by omega) _ N6).mono ?_
  rintro e' w7 ⟨v, rfl, hown, g7⟩
  have hlpos : 0 < ls.length := by have := hne.out; cases ls with | nil => exact absurd rfl this | cons _ _ => simp
  obtain ⟨g, cap3, cur, rfl, hgb, hgc, hgn, hgm⟩ : ∃ g cap3 cur, v = .slice (some ⟨g, 0, none⟩) ls.length cap3 ∧ w6.heap.size ≤ g ∧ CellsAt w7 g 3 cur ∧ ls.length ≤ cap3 ∧ cap3 ≤ maxLen := by
    rcases hown.2 with ⟨_, h0⟩ | ⟨g, cap3, cur, rfl, hb, hg, hn, hm, _⟩
    · omega
    · exact ⟨g, cap3, cur, rfl, hb, hg, hn, hm⟩
  have hcu : ∀ (j : Nat) y, ls[j]? = some y → cur[j]? = some (.int .i64 y) := fun j y hj => by
    have := hown.cells (g := g) rfl j (.int .i64 y) (by rw [List.getElem?_map, hj]; rfl)
    rw [addr_plus, Nat.zero_add, hgc.cell] at this
    exact this
  have R7 := R6.gr g7
  have y7 := y6.trans g7
  have l7 := R7.lt
  have l8 := hgc.lt
  obtain ⟨hK, hx0, hx1⟩ := HX.out
  obtain ⟨i1, ⟨i2, i3⟩, i4, i5⟩ := HIX.out
  have hgK : w7.cell? ⟨g, K, none⟩ = some (.int .i64 x) := (hgc.cell K).trans (hcu K x hK)
  have hgF := hgc.frozen K
  have hnz : ¬ (ls.length : Int) = 0 := by omega
  have hKI : (K : Int) < (ls.length : Int) := by omega
  have h10I : (ls.length : Int) ≤ 10 := by omega
  have hne2 : w.heap.size ≠ g := by omega
  have hwg : w.heap.size ≤ g := by omega
  clear N6 R6 y6 g7 l6 hown hn0
  have c0 := CellsAt.cell R7 0
  have c1 := CellsAt.cell R7 1
  have c2 := CellsAt.cell R7 2
  have c3 := CellsAt.cell R7 3
  have c4 := CellsAt.cell R7 4
  have c5 := CellsAt.cell R7 5
  simp only [List.getElem?_toArray, List.getElem?_cons_zero, List.getElem?_cons_succ] at c0 c1 c2 c3 c4 c5
  go_wp2_with fail
  have R8 := R7.other hne2 K (.int .i64 (x + 1))
  have N8 : NumsAt (w7.setCell ⟨g, K, none⟩ (.int .i64 (x + 1))) (.slice (some ⟨g, 0, none⟩) ls.length cap3) (ls.set K (x + 1)) := by
    have := nums_of_cells (cap := cap3) (ls := ls.set K (x + 1)) (hgc.set K (.int .i64 (x + 1))) (fun j y hj => by
      rw [List.getElem?_set] at hj
      by_cases e : K = j
      · subst e
        rw [if_pos rfl, if_pos i5] at hj
        cases hj
        have hs : K < cur.size := (Array.getElem?_eq_some_iff.1 (hcu K x hK)).1
        exact Array.getElem?_setIfInBounds_self_of_lt hs
      · rw [if_neg e] at hj
        rw [Array.getElem?_setIfInBounds_ne e]
        exact hcu j y hj) (by simpa using hgn) hgm
    rw [List.length_set] at this
    exact this
  have y8 := y7.setCell (a := ⟨g, K, none⟩) hwg (.int .i64 (x + 1))
  obtain ⟨u8, hu⟩ : ∃ uu, uu = w7.setCell ⟨g, K, none⟩ (.int .i64 (x + 1)) := ⟨_, rfl⟩
  rw [← hu] at R8 N8 y8 ⊢
  clear hu
  refine (HOM.out _ _ _ N8).mono ?_
  rintro e' w9 ⟨rfl, g9⟩
  go_wp2_with fail
  go_ret
  exact ⟨by first | rfl | simp, y8.trans g9⟩


set_option maxHeartbeats 4000000 in
theorem budgetLeast_no (p : Option Addr) (len cap K : Nat) (ls : List Int) (fo lo ke sc mo ix md r r3 m2 n x z er j0 : Int) (iv : Bool) (hmin : (if (10 : Int) < (len : Int) then 10 else (len : Int)) = (ls.length : Int)) (hcap : ls.length ≤ cap) (hne : Hid (ls ≠ [])) (h10 : ls.length ≤ 10) (hsc : (sc == 0) = false)
    (HIX : Hid (ix.tmod (ls.length : Int) = j0 ∧ (-10 ≤ j0 ∧ j0 ≤ 10) ∧ (j0 + (ls.length : Int)).tmod (ls.length : Int) = (K : Int) ∧ K < ls.length)) (HX : Hid (ls[K]? = some x ∧ 0 ≤ x ∧ x ≤ 1000))
    (HMM : Hid (md.tmod 3 = r ∧ IntKind.i64.wrap (r + 3) = r3 ∧ r3.tmod 3 = m2)) (n0 : 0 ≤ n) (hlo0 : 0 ≤ lo) (hlo : lo ≤ 100) (hhalf : sc = 0 → n ≤ 64 * (6 * lo + 4))
    (HO : Hid (∀ sp cl W, NumsAt W (.slice sp ls.length cl) ls → Calls Try.prog 14 #[.agg #[.int .i64 fo, .int .i64 lo, .int .i64 ke, .int .i64 sc, .int .i64 mo, .bool iv], .slice sp ls.length cl] W fun e w' => e = .returned (.tuple #[.int .i64 n, .int .i64 0]) ∧ Gr W w')) (HOQ : Hid (∀ sp cl W, NumsAt W (.slice sp ls.length cl) ls → Calls Try.prog 14 #[.agg #[.int .i64 fo, .int .i64 lo, .int .i64 ke, .int .i64 sc, .int .i64 m2, .bool (!iv)], .slice sp ls.length cl] W fun e w' => e = .returned (.tuple #[.int .i64 n, .int .i64 0]) ∧ Gr W w'))
    (HOM : Hid (∀ sp cl W, NumsAt W (.slice sp ls.length cl) (ls.set K (x + 1)) → Calls Try.prog 14 #[.agg #[.int .i64 fo, .int .i64 lo, .int .i64 ke, .int .i64 sc, .int .i64 mo, .bool iv], .slice sp ls.length cl] W fun e w' => e = .returned (.tuple #[.int .i64 0, .int .i64 er]) ∧ Gr W w')) (her : (er != 0) = true) (AL : Hid (∀ W, Calls Try.prog 11 #[] W fun e w' => e = .returned (.bool true) ∧ Gr W w')) (w : World) (hl : NumsAt w (.slice p ls.length cap) ls) :
    Calls Try.prog 5 #[.agg #[.int .i64 fo, .int .i64 lo, .int .i64 ke, .int .i64 sc, .int .i64 mo, .bool iv], .slice p len cap, .int .i64 ix, .int .i64 md] w fun e w' => e = .returned (.bool true) ∧ Gr w w' := by
  have hh := fun h => hhalf h
  clear hhalf
  skip
  clear hh
  have hcut := run_cut_int p len cap ls.length hcap
  go_enter Try.func5, Try.ntmps5
  go_wp2_with fail
  obtain ⟨u0, hu⟩ : ∃ uu, uu = w.alloc (.cells #[.int .i64 fo, .int .i64 lo, .int .i64 ke, .int .i64 sc, .int .i64 mo, .bool iv] 23) := ⟨_, rfl⟩
  have R0 : CellsAt u0 w.heap.size 23 #[.int .i64 fo, .int .i64 lo, .int .i64 ke, .int .i64 sc, .int .i64 mo, .bool iv] := by rw [hu]; exact CellsAt.new w 23 #[.int .i64 fo, .int .i64 lo, .int .i64 ke, .int .i64 sc, .int .i64 mo, .bool iv]
  have y0 : Gr w u0 := by rw [hu]; exact (Gr.refl w).alloc _ _
  have N0 := hl.gr y0
  rw [← hu]
  clear hu hl hcap
  refine (HO.out _ _ _ N0).mono ?_
  rintro e' w1 ⟨rfl, g1⟩
  have R1 := R0.gr g1
  have y1 := y0.trans g1
  have l1 := R1.lt
  have N1 := N0.gr g1
  clear R0 y0 g1 N0
  have c0 := CellsAt.cell R1 0
  have c1 := CellsAt.cell R1 1
  have c2 := CellsAt.cell R1 2
  have c3 := CellsAt.cell R1 3
  have c4 := CellsAt.cell R1 4
  have c5 := CellsAt.cell R1 5
  simp only [List.getElem?_toArray, List.getElem?_cons_zero, List.getElem?_cons_succ] at c0 c1 c2 c3 c4 c5
  go_wp2_with fail
  clear c0 c1 c2 c3 c4 c5
  obtain ⟨u2, hu⟩ : ∃ uu, uu = w1.alloc (.cells #[.int .i64 fo, .int .i64 lo, .int .i64 ke, .int .i64 sc, .int .i64 mo, .bool iv] 23) := ⟨_, rfl⟩
  have Q2 : CellsAt u2 w1.heap.size 23 #[.int .i64 fo, .int .i64 lo, .int .i64 ke, .int .i64 sc, .int .i64 mo, .bool iv] := by rw [hu]; exact CellsAt.new w1 23 #[.int .i64 fo, .int .i64 lo, .int .i64 ke, .int .i64 sc, .int .i64 mo, .bool iv]
  have P2 : CellsAt u2 w.heap.size 23 #[.int .i64 fo, .int .i64 lo, .int .i64 ke, .int .i64 sc, .int .i64 mo, .bool iv] := by rw [hu]; exact R1.alloc _
  have k2 : Gr w1 u2 := by rw [hu]; exact (Gr.refl w1).alloc _ _
  rw [← hu]
  clear hu
  have y2 : Gr w1 u2 := k2
  clear k2
  obtain ⟨hm1, hm2, hm3⟩ := HMM.out
  obtain ⟨u3, hqp21⟩ : ∃ zz, zz = u2 := ⟨_, rfl⟩
  have Yp_p21 : CellsAt u3 (w.heap.size) 23 #[.int .i64 fo, .int .i64 lo, .int .i64 ke, .int .i64 sc, .int .i64 mo, .bool iv] := by rw [hqp21]; first | exact P2 | simpa using P2
  have Yq_p21 : CellsAt u3 (w1.heap.size) 23 #[.int .i64 fo, .int .i64 lo, .int .i64 ke, .int .i64 sc, .int .i64 mo, .bool iv] := by rw [hqp21]; first | exact Q2 | simpa using Q2
  have yp21 : Gr w1 u3 := by rw [hqp21]; exact y2
  rw [← hqp21]
  clear hqp21
  have KS : ∀ W, GB (w1.heap.size) u3 W → (W.cell? ⟨w.heap.size, 0, none⟩ = some (.int .i64 fo) ∧ W.cell? ⟨w.heap.size, 1, none⟩ = some (.int .i64 lo) ∧ W.cell? ⟨w.heap.size, 2, none⟩ = some (.int .i64 ke) ∧ W.cell? ⟨w.heap.size, 3, none⟩ = some (.int .i64 sc) ∧ W.cell? ⟨w.heap.size, 4, none⟩ = some (.int .i64 mo) ∧ W.cell? ⟨w.heap.size, 5, none⟩ = some (.bool iv)) := fun W hG => ⟨(GB.cellsAt hG Yp_p21 (by omega)).cell 0, (GB.cellsAt hG Yp_p21 (by omega)).cell 1, (GB.cellsAt hG Yp_p21 (by omega)).cell 2, (GB.cellsAt hG Yp_p21 (by omega)).cell 3, (GB.cellsAt hG Yp_p21 (by omega)).cell 4, (GB.cellsAt hG Yp_p21 (by omega)).cell 5⟩
  have hclG := gb_closed (w1.heap.size) u3
  try simp only [List.append_eq, List.cons_append, List.nil_append]
  refine wp_region_grow (S := GB (w1.heap.size) u3) rfl (GB.drew (GB.refl _ _)) ?_
  refine wpG_take (i := 0) (v := ?_) hclG rfl (by kernel_rfl) (by kernel_rfl) (by kernel_rfl) (fun _ _ _ h => h) (by rfl) ?_ ?_
  rotate_left
  · (intro w' hSw; go_simp; try with_reducible rfl)
  try simp only [Act.put, List.setIfInBounds_toArray, List.set_cons_zero, List.set_cons_succ, List.getElem_toArray, List.getElem_cons_zero, List.getElem_cons_succ]
  refine wpG_take (i := 1) (v := ?_) hclG rfl (by kernel_rfl) (by kernel_rfl) (by kernel_rfl) (fun _ _ _ h => h) (by rfl) ?_ ?_
  rotate_left
  · (intro w' hSw; go_simp; try with_reducible rfl)
  try simp only [Act.put, List.setIfInBounds_toArray, List.set_cons_zero, List.set_cons_succ, List.getElem_toArray, List.getElem_cons_zero, List.getElem_cons_succ]
  refine wpG_take (i := 2) (v := ?_) hclG rfl (by kernel_rfl) (by kernel_rfl) (by kernel_rfl) (fun _ _ _ h => h) (by rfl) ?_ ?_
  rotate_left
  · (intro w' hSw; go_simp; try with_reducible rfl)
  try simp only [Act.put, List.setIfInBounds_toArray, List.set_cons_zero, List.set_cons_succ, List.getElem_toArray, List.getElem_cons_zero, List.getElem_cons_succ]
  refine wpG_take (i := 3) (v := ?_) hclG rfl (by kernel_rfl) (by kernel_rfl) (by kernel_rfl) (fun _ _ _ h => h) (by rfl) ?_ ?_
  rotate_left
  · (intro w' hSw; go_simp; try with_reducible rfl)
  try simp only [Act.put, List.setIfInBounds_toArray, List.set_cons_zero, List.set_cons_succ, List.getElem_toArray, List.getElem_cons_zero, List.getElem_cons_succ]
  refine wpG_take (i := 4) (v := ?_) hclG rfl (by kernel_rfl) (by kernel_rfl) (by kernel_rfl) (fun _ _ _ h => h) (by rfl) ?_ ?_
  rotate_left
  · (intro w' hSw; go_simp; try with_reducible rfl)
  try simp only [Act.put, List.setIfInBounds_toArray, List.set_cons_zero, List.set_cons_succ, List.getElem_toArray, List.getElem_cons_zero, List.getElem_cons_succ]
  refine wpG_take (i := 5) (v := ?_) hclG rfl (by kernel_rfl) (by kernel_rfl) (by kernel_rfl) (fun _ _ _ h => h) (by rfl) ?_ ?_
  rotate_left
  · (intro w' hSw; have hk := KS w' hSw; go_split_ands; go_simp; try with_reducible rfl)
  try simp only [Act.put, List.setIfInBounds_toArray, List.set_cons_zero, List.set_cons_succ, List.getElem_toArray, List.getElem_cons_zero, List.getElem_cons_succ]
  refine wpG_take (i := 6) (v := ?_) hclG rfl (by kernel_rfl) (by kernel_rfl) (by kernel_rfl) (fun _ _ _ h => h) (by rfl) ?_ ?_
  rotate_left
  · (intro w' hSw; go_simp; try with_reducible rfl)
  try simp only [Act.put, List.setIfInBounds_toArray, List.set_cons_zero, List.set_cons_succ, List.getElem_toArray, List.getElem_cons_zero, List.getElem_cons_succ]
  refine wpG_take (i := 7) (v := ?_) hclG rfl (by kernel_rfl) (by kernel_rfl) (by kernel_rfl) (fun _ _ _ h => h) (by rfl) ?_ ?_
  rotate_left
  · (intro w' hSw; go_simp; try with_reducible rfl)
  try simp only [Act.put, List.setIfInBounds_toArray, List.set_cons_zero, List.set_cons_succ, List.getElem_toArray, List.getElem_cons_zero, List.getElem_cons_succ]
  refine wpG_ready (rs := [8]) (by kernel_rfl) (by simp) (fun w21 g21 s21 => ?_)
  refine AllG.cons rfl (fun K hK => ?_) AllG.nil
  replace g21 := (Gr.drew (Gr.refl u3)).trans g21
  have Fp_21 := CellsAt.gr (Yp_p21) g21
  have lp_21 := CellsAt.lt (Fp_21)
  have Fq_21 := CellsAt.gr (Yq_p21) g21
  have lq_21 := CellsAt.lt (Fq_21)
  have z21 := (yp21).trans g21
  clear Yp_p21 Yq_p21 yp21 g21
  have mq0 := CellsAt.frozen (Fq_21) 0
  have cq0 := CellsAt.cell (Fq_21) 0
  simp only [List.getElem?_toArray, List.getElem?_cons_zero, List.getElem?_cons_succ] at cq0
  have mq1 := CellsAt.frozen (Fq_21) 1
  have cq1 := CellsAt.cell (Fq_21) 1
  simp only [List.getElem?_toArray, List.getElem?_cons_zero, List.getElem?_cons_succ] at cq1
  have mq2 := CellsAt.frozen (Fq_21) 2
  have cq2 := CellsAt.cell (Fq_21) 2
  simp only [List.getElem?_toArray, List.getElem?_cons_zero, List.getElem?_cons_succ] at cq2
  have mq3 := CellsAt.frozen (Fq_21) 3
  have cq3 := CellsAt.cell (Fq_21) 3
  simp only [List.getElem?_toArray, List.getElem?_cons_zero, List.getElem?_cons_succ] at cq3
  have mq4 := CellsAt.frozen (Fq_21) 4
  have cq4 := CellsAt.cell (Fq_21) 4
  simp only [List.getElem?_toArray, List.getElem?_cons_zero, List.getElem?_cons_succ] at cq4
  have mq5 := CellsAt.frozen (Fq_21) 5
  have cq5 := CellsAt.cell (Fq_21) 5
  simp only [List.getElem?_toArray, List.getElem?_cons_zero, List.getElem?_cons_succ] at cq5
  go_simp
  clear mq0 cq0 mq1 cq1 mq2 cq2 mq3 cq3 mq4 cq4 mq5 cq5
  refine hK.out _ _ ?_ ?_
  · exact (GB.set s21 _ _)
  clear hK K
  try simp only [Act.put, List.setIfInBounds_toArray, List.set_cons_zero, List.set_cons_succ, List.getElem_toArray, List.getElem_cons_zero, List.getElem_cons_succ]
  refine wpG_take (i := 9) (v := ?_) hclG rfl (by kernel_rfl) (by kernel_rfl) (by kernel_rfl) (fun _ _ _ h => h) (by rfl) ?_ ?_
  rotate_left
  · (intro w' hSw; go_simp; try with_reducible rfl)
  try simp only [Act.put, List.setIfInBounds_toArray, List.set_cons_zero, List.set_cons_succ, List.getElem_toArray, List.getElem_cons_zero, List.getElem_cons_succ]
  refine wpG_ready (rs := [10]) (by kernel_rfl) (by simp) (fun w22 g22 s22 => ?_)
  refine AllG.cons rfl (fun K hK => ?_) AllG.nil
  have Fp_22 := CellsAt.gr ((Fp_21).other (by omega) _ _) g22
  have lp_22 := CellsAt.lt (Fp_22)
  have Fq_22 : CellsAt w22 (w1.heap.size) 23 #[.int .i64 fo, .int .i64 lo, .int .i64 ke, .int .i64 sc, .int .i64 m2, .bool iv] := CellsAt.gr (CellsAt.set (Fq_21) 4 (.int .i64 m2)) g22
  have lq_22 := CellsAt.lt (Fq_22)
  have z22 := ((z21).setCell (by first | omega | (simp only; omega)) _).trans g22
  clear g22
  have mq0 := CellsAt.frozen (Fq_22) 0
  have cq0 := CellsAt.cell (Fq_22) 0
  simp only [List.getElem?_toArray, List.getElem?_cons_zero, List.getElem?_cons_succ] at cq0
  have mq1 := CellsAt.frozen (Fq_22) 1
  have cq1 := CellsAt.cell (Fq_22) 1
  simp only [List.getElem?_toArray, List.getElem?_cons_zero, List.getElem?_cons_succ] at cq1
  have mq2 := CellsAt.frozen (Fq_22) 2
  have cq2 := CellsAt.cell (Fq_22) 2
  simp only [List.getElem?_toArray, List.getElem?_cons_zero, List.getElem?_cons_succ] at cq2
  have mq3 := CellsAt.frozen (Fq_22) 3
  have cq3 := CellsAt.cell (Fq_22) 3
  simp only [List.getElem?_toArray, List.getElem?_cons_zero, List.getElem?_cons_succ] at cq3
  have mq4 := CellsAt.frozen (Fq_22) 4
  have cq4 := CellsAt.cell (Fq_22) 4
  simp only [List.getElem?_toArray, List.getElem?_cons_zero, List.getElem?_cons_succ] at cq4
  have mq5 := CellsAt.frozen (Fq_22) 5
  have cq5 := CellsAt.cell (Fq_22) 5
  simp only [List.getElem?_toArray, List.getElem?_cons_zero, List.getElem?_cons_succ] at cq5
  go_simp
  clear mq0 cq0 mq1 cq1 mq2 cq2 mq3 cq3 mq4 cq4 mq5 cq5
  refine hK.out _ _ ?_ ?_
  · exact (GB.set s22 _ _)
  clear hK K
  try simp only [Act.put, List.setIfInBounds_toArray, List.set_cons_zero, List.set_cons_succ, List.getElem_toArray, List.getElem_cons_zero, List.getElem_cons_succ]
  refine wpG_done (by kernel_rfl) (fun w23 g23 => ?_) _
  have Fp_23 := CellsAt.gr ((Fp_22).other (by omega) _ _) g23
  have lp_23 := CellsAt.lt (Fp_23)
  have Fq_23 : CellsAt w23 (w1.heap.size) 23 #[.int .i64 fo, .int .i64 lo, .int .i64 ke, .int .i64 sc, .int .i64 m2, .bool (!iv)] := CellsAt.gr (CellsAt.set (Fq_22) 5 (.bool (!iv))) g23
  have lq_23 := CellsAt.lt (Fq_23)
  have z23 := ((z22).setCell (by first | omega | (simp only; omega)) _).trans g23
  clear g23
  clear hclG KS
  clear hm1 hm2 hm3
  obtain ⟨u4, hqp22⟩ : ∃ zz, zz = w23 := ⟨_, rfl⟩
  have Yp_p22 : CellsAt u4 (w.heap.size) 23 #[.int .i64 fo, .int .i64 lo, .int .i64 ke, .int .i64 sc, .int .i64 mo, .bool iv] := by rw [hqp22]; first | exact Fp_23 | simpa using Fp_23
  have Yq_p22 : CellsAt u4 (w1.heap.size) 23 #[.int .i64 fo, .int .i64 lo, .int .i64 ke, .int .i64 sc, .int .i64 m2, .bool (!iv)] := by rw [hqp22]; first | exact Fq_23 | simpa using Fq_23
  have yp22 : Gr w1 u4 := by rw [hqp22]; exact z23
  rw [← hqp22]
  clear hqp22
  have cq0 := CellsAt.cell (Yq_p22) 0
  have cq1 := CellsAt.cell (Yq_p22) 1
  have cq2 := CellsAt.cell (Yq_p22) 2
  have cq3 := CellsAt.cell (Yq_p22) 3
  have cq4 := CellsAt.cell (Yq_p22) 4
  have cq5 := CellsAt.cell (Yq_p22) 5
  simp only [List.getElem?_toArray, List.getElem?_cons_zero, List.getElem?_cons_succ] at cq0 cq1 cq2 cq3 cq4 cq5
  go_wp2_with fail
  clear cq0 cq1 cq2 cq3 cq4 cq5
  have N4 := N1.gr yp22
  refine (HOQ.out _ _ _ N4).mono ?_
  rintro e' w5 ⟨rfl, g5⟩
  have R5 := Yp_p22.gr g5
  have z5 := yp22.trans g5
  have N5 := N1.gr z5
  have y5 := y1.trans z5
  have l5 := R5.lt
  clear N1 N4 g5 y1
  have c0 := CellsAt.cell R5 0
  have c1 := CellsAt.cell R5 1
  have c2 := CellsAt.cell R5 2
  have c3 := CellsAt.cell R5 3
  have c4 := CellsAt.cell R5 4
  have c5 := CellsAt.cell R5 5
  simp only [List.getElem?_toArray, List.getElem?_cons_zero, List.getElem?_cons_succ] at c0 c1 c2 c3 c4 c5
  go_wp2_with fail
  refine (AL.out _).mono ?_
  rintro e' w6 ⟨rfl, g6⟩
  have R6 := R5.gr g6
  have N6 := N5.gr g6
  have y6 := y5.trans g6
  have l6 := R6.lt
  clear c0 c1 c2 c3 c4 c5 R5 N5 y5 g6
  have hn0 : ((ls.length : Int) == 0) = false := by have := hne.out; simp; exact this
  go_wp2_with fail
  obtain ⟨b, o, cap2, hsl, _, _, _⟩ := N6.at hne.out
  cases hsl
  refine (clone_c b o cap ls hne.out (by omega) _ N6).mono ?_
  rintro e' w7 ⟨v, rfl, hown, g7⟩
  have hlpos : 0 < ls.length := by have := hne.out; cases ls with | nil => exact absurd rfl this | cons _ _ => simp
  obtain ⟨g, cap3, cur, rfl, hgb, hgc, hgn, hgm⟩ : ∃ g cap3 cur, v = .slice (some ⟨g, 0, none⟩) ls.length cap3 ∧ w6.heap.size ≤ g ∧ CellsAt w7 g 3 cur ∧ ls.length ≤ cap3 ∧ cap3 ≤ maxLen := by
    rcases hown.2 with ⟨_, h0⟩ | ⟨g, cap3, cur, rfl, hb, hg, hn, hm, _⟩
    · omega
    · exact ⟨g, cap3, cur, rfl, hb, hg, hn, hm⟩
  have hcu : ∀ (j : Nat) y, ls[j]? = some y → cur[j]? = some (.int .i64 y) := fun j y hj => by
    have := hown.cells (g := g) rfl j (.int .i64 y) (by rw [List.getElem?_map, hj]; rfl)
    rw [addr_plus, Nat.zero_add, hgc.cell] at this
    exact this
  have R7 := R6.gr g7
  have y7 := y6.trans g7
  have l7 := R7.lt
  have l8 := hgc.lt
  obtain ⟨hK, hx0, hx1⟩ := HX.out
  obtain ⟨i1, ⟨i2, i3⟩, i4, i5⟩ := HIX.out
  have hgK : w7.cell? ⟨g, K, none⟩ = some (.int .i64 x) := (hgc.cell K).trans (hcu K x hK)
  have hgF := hgc.frozen K
  have hnz : ¬ (ls.length : Int) = 0 := by omega
  have hKI : (K : Int) < (ls.length : Int) := by omega
  have h10I : (ls.length : Int) ≤ 10 := by omega
  have hne2 : w.heap.size ≠ g := by omega
  have hwg : w.heap.size ≤ g := by omega
  clear N6 R6 y6 g7 l6 hown hn0
  have c0 := CellsAt.cell R7 0
  have c1 := CellsAt.cell R7 1
  have c2 := CellsAt.cell R7 2
  have c3 := CellsAt.cell R7 3
  have c4 := CellsAt.cell R7 4
  have c5 := CellsAt.cell R7 5
  simp only [List.getElem?_toArray, List.getElem?_cons_zero, List.getElem?_cons_succ] at c0 c1 c2 c3 c4 c5
  go_wp2_with fail
  have R8 := R7.other hne2 K (.int .i64 (x + 1))
  have N8 : NumsAt (w7.setCell ⟨g, K, none⟩ (.int .i64 (x + 1))) (.slice (some ⟨g, 0, none⟩) ls.length cap3) (ls.set K (x + 1)) := by
    have := nums_of_cells (cap := cap3) (ls := ls.set K (x + 1)) (hgc.set K (.int .i64 (x + 1))) (fun j y hj => by
      rw [List.getElem?_set] at hj
      by_cases e : K = j
      · subst e
        rw [if_pos rfl, if_pos i5] at hj
        cases hj
        have hs : K < cur.size := (Array.getElem?_eq_some_iff.1 (hcu K x hK)).1
        exact Array.getElem?_setIfInBounds_self_of_lt hs
      · rw [if_neg e] at hj
        rw [Array.getElem?_setIfInBounds_ne e]
        exact hcu j y hj) (by simpa using hgn) hgm
    rw [List.length_set] at this
    exact this
  have y8 := y7.setCell (a := ⟨g, K, none⟩) hwg (.int .i64 (x + 1))
  obtain ⟨u8, hu⟩ : ∃ uu, uu = w7.setCell ⟨g, K, none⟩ (.int .i64 (x + 1)) := ⟨_, rfl⟩
  rw [← hu] at R8 N8 y8 ⊢
  clear hu
  refine (HOM.out _ _ _ N8).mono ?_
  rintro e' w9 ⟨rfl, g9⟩
  go_wp2_with fail
  go_ret
  exact ⟨by first | rfl | simp, y8.trans g9⟩


end Go.Proofs.Ytmjghakodgihiaa
