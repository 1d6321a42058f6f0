import Derived.Test.YtablflakcaimmaaGreatFftRunsS36
namespace Go.Proofs.YtablflakcaimmaaGreat
section
open Go.ChangeShapes Go.WideShapes Go.ChangeAt Go.RowKit
set_option linter.unusedVariables false
set_option maxRecDepth 100000
set_option linter.unusedSimpArgs false
set_option maxHeartbeats 8000000 in
theorem out11_true (p q0 r z y1 y2 y3 y4 b1 c1' d1 : Gi) (q bits s n mo : Int) (q0' : 0 ≤ q) (q3 : q ≤ 3) (hn : wrap64 (bits + s) = n)
 (HT1 : CR 97 #[.agg #[.int .i64 (q0).re, .int .i64 (q0).im], .int .i64 q] (.agg #[.int .i64 (b1).re, .int .i64 (b1).im]))
 (HS1 : CR 64 #[.agg #[.int .i64 (p).re, .int .i64 (p).im], .agg #[.int .i64 (b1).re, .int .i64 (b1).im]] (.agg #[.int .i64 (y1).re, .int .i64 (y1).im]))
 (HT2 : CR 97 #[.agg #[.int .i64 (r).re, .int .i64 (r).im], .int .i64 (2 * q)] (.agg #[.int .i64 (c1').re, .int .i64 (c1').im]))
 (HS2 : CR 64 #[.agg #[.int .i64 (y1).re, .int .i64 (y1).im], .agg #[.int .i64 (c1').re, .int .i64 (c1').im]] (.agg #[.int .i64 (y2).re, .int .i64 (y2).im]))
 (HT3 : CR 97 #[.agg #[.int .i64 (z).re, .int .i64 (z).im], .int .i64 (-q)] (.agg #[.int .i64 (d1).re, .int .i64 (d1).im]))
 (HS3 : CR 64 #[.agg #[.int .i64 (y2).re, .int .i64 (y2).im], .agg #[.int .i64 (d1).re, .int .i64 (d1).im]] (.agg #[.int .i64 (y3).re, .int .i64 (y3).im]))
 (HF : CR 63 #[.agg #[.int .i64 (y3).re, .int .i64 (y3).im], .int .i64 n, .int .i64 mo] (.agg #[.int .i64 (y4).re, .int .i64 (y4).im])) (w : World) :
 CW 81 #[.agg #[.int .i64 (p).re, .int .i64 (p).im, .int .i64 (q0).re, .int .i64 (q0).im, .int .i64 (r).re, .int .i64 (r).im, .int .i64 (z).re, .int .i64 (z).im], .int .i64 q, .int .i64 bits, .int .i64 s, .int .i64 mo, .bool true] w (.agg #[.int .i64 (y4).re, .int .i64 (y4).im]) :=by
 delta CW
 have hw2 : IntKind.i64.wrap (2 * q) = 2 * q := IntWalk.i64_in _ ⟨by omega, by omega⟩
 have hw3 : IntKind.i64.wrap (-q) = -q := IntWalk.i64_in _ ⟨by omega, by omega⟩
 have hw4 : IntKind.i64.wrap q = q := IntWalk.i64_in _ ⟨by omega, by omega⟩
 go_enter Tryz.func81, Tryz.ntmps81
 go_wp2_with fail
 obtain ⟨u0, hU⟩ : ∃ uu, uu = ((w.alloc (.cells #[.int .i64 (p).re, .int .i64 (p).im, .int .i64 (q0).re, .int .i64 (q0).im, .int .i64 (r).re, .int .i64 (r).im, .int .i64 (z).re, .int .i64 (z).im] 116)).alloc (.cells #[.int .i64 0, .int .i64 0] 55)) := ⟨_, rfl⟩
 have ⟨gu, R0, R1⟩ := lay2 hU
 rw [← hU]
 clear hU
 have KS : ∀ W, Gr u0 W → (W.cell? ⟨w.heap.size, 0, none⟩ = some (.int .i64 (p).re) ∧ W.cell? ⟨w.heap.size, 1, none⟩ = some (.int .i64 (p).im) ∧ W.cell? ⟨w.heap.size, 2, none⟩ = some (.int .i64 (q0).re) ∧ W.cell? ⟨w.heap.size, 3, none⟩ = some (.int .i64 (q0).im) ∧ W.cell? ⟨w.heap.size, 4, none⟩ = some (.int .i64 (r).re) ∧ W.cell? ⟨w.heap.size, 5, none⟩ = some (.int .i64 (r).im) ∧ W.cell? ⟨w.heap.size, 6, none⟩ = some (.int .i64 (z).re) ∧ W.cell? ⟨w.heap.size, 7, none⟩ = some (.int .i64 (z).im) ∧ w.heap.size < W.heap.size) := fun W hG => ⟨(R0.gr hG).cell 0, (R0.gr hG).cell 1, (R0.gr hG).cell 2, (R0.gr hG).cell 3, (R0.gr hG).cell 4, (R0.gr hG).cell 5, (R0.gr hG).cell 6, (R0.gr hG).cell 7, Nat.lt_of_lt_of_le R0.lt hG.size⟩
 go_cut [14] from 19 to 25 (fun pv wx' => ∃ B : Nat, pv = .pointer (some ⟨B, 0, none⟩) ∧ u0.heap.size ≤ B ∧ CellsAt wx' B 55 #[.int .i64 (y1).re, .int .i64 (y1).im] ∧ Gr u0 wx')
 case first =>
  refine wp_region_held_drew (S := fun W => W.cell? ⟨w.heap.size, 0, none⟩ = some (.int .i64 (p).re) ∧ W.cell? ⟨w.heap.size, 1, none⟩ = some (.int .i64 (p).im) ∧ W.cell? ⟨w.heap.size, 2, none⟩ = some (.int .i64 (q0).re) ∧ W.cell? ⟨w.heap.size, 3, none⟩ = some (.int .i64 (q0).im) ∧ W.cell? ⟨w.heap.size, 4, none⟩ = some (.int .i64 (r).re) ∧ W.cell? ⟨w.heap.size, 5, none⟩ = some (.int .i64 (r).im) ∧ W.cell? ⟨w.heap.size, 6, none⟩ = some (.int .i64 (z).re) ∧ W.cell? ⟨w.heap.size, 7, none⟩ = some (.int .i64 (z).im) ∧ w.heap.size < W.heap.size) rfl (KS _ (Gr.drew (Gr.refl _))) (fun hS => ?_)
  refine hT 0 ?_
  refine hT 1 ?_
  refine hT 2 ?_
  refine hT 3 ?_
  refine hT 4 ?_
  refine wpAnyH_ready (rs := [5, 7]) (by kernel_rfl) (by simp) ?_
  refine AllReadyH.cons rfl (fun K hK => ?_) (AllReadyH.cons rfl (fun K hK => ?_) AllReadyH.nil)
  ·go_simp
   go_at_call 97
   refine (HT1.out _).mono ?_
   rintro e w1 ⟨rfl, g1⟩
   have x1 := (Gr.drew (Gr.refl u0)).trans g1
   refine hK.out _ _ ?_ (fun hHeld => ?_)
   ·(exact KS _ x1)
   clear hK K hS
   have hS := hHeld
   clear hHeld
   try simp only [Act.put, putS]
   refine wpAnyH_ready (rs := [6, 7]) (by kernel_rfl) (by simp) ?_
   refine AllReadyH.cons rfl (fun K hK => ?_) (AllReadyH.cons rfl (fun K hK => ?_) AllReadyH.nil)
   ·go_simp
    go_at_call 64
    refine (HS1.out _).mono ?_
    rintro e w2 ⟨rfl, g2⟩
    have x2 := x1.trans g2
    refine hK.out _ _ ?_ (fun hHeld => ?_)
    ·(exact KS _ x2)
    clear hK K hS
    have hS := hHeld
    clear hHeld
    try simp only [Act.put, putS]
    refine hR 7 fun K hK => ?_
    go_simp
    have x3 := Gr.alloc (x2) #[.int .i64 0, .int .i64 0] 55
    have C3 : CellsAt (w2.alloc (.cells #[.int .i64 0, .int .i64 0] 55)) (w2.heap.size) 55 #[.int .i64 0, .int .i64 0] := CellsAt.new (w2) 55 #[.int .i64 0, .int .i64 0]
    refine hK.out _ _ ?_ (fun hHeld => ?_)
    ·(exact KS _ x3)
    clear hK K hS
    have hS := hHeld
    clear hHeld
    try simp only [Act.put, putS]
    have hBs : u0.heap.size ≤ w2.heap.size := by have hq := Gr.size (x2); exact hq
    refine hR 8 fun K hK => ?_
    go_simp
    have x4 := Gr.alloc (x2) #[.int .i64 (y1).re, .int .i64 (y1).im] 55
    refine hK.out _ _ ?_ (fun hHeld => ?_)
    ·(exact KS _ x4)
    clear hK K hS
    have hS := hHeld
    clear hHeld
    try simp only [Act.put, putS]
    refine wpAnyH_done (by kernel_rfl) ?_ _
    go_wp2_with fail
    go_meet
    case rel => exact ⟨_, rfl, hBs, CellsAt.new (w2) 55 #[.int .i64 (y1).re, .int .i64 (y1).im], x4⟩
   ·go_simp
    have x2 := Gr.alloc (x1) #[.int .i64 0, .int .i64 0] 55
    have C2 : CellsAt (w1.alloc (.cells #[.int .i64 0, .int .i64 0] 55)) (w1.heap.size) 55 #[.int .i64 0, .int .i64 0] := CellsAt.new (w1) 55 #[.int .i64 0, .int .i64 0]
    refine hK.out _ _ ?_ (fun hHeld => ?_)
    ·(exact KS _ x2)
    clear hK K hS
    have hS := hHeld
    clear hHeld
    try simp only [Act.put, putS]
    refine hR 6 fun K hK => ?_
    go_simp
    go_at_call 64
    refine (HS1.out _).mono ?_
    rintro e w3 ⟨rfl, g3⟩
    have x3 := x2.trans g3
    have C3 := C2.gr g3
    refine hK.out _ _ ?_ (fun hHeld => ?_)
    ·(exact KS _ x3)
    clear hK K hS
    have hS := hHeld
    clear hHeld
    try simp only [Act.put, putS]
    have lC := C3.lt
    obtain ⟨fm0, fm1⟩ := C3.f2
    obtain ⟨fc0, fc1⟩ := C3.t2
    refine hR 8 fun K hK => ?_
    go_simp
    have hBs : u0.heap.size ≤ w1.heap.size := by have hq := Gr.size (x1); exact hq
    have x4 := Gr.setCell (Gr.setCell (x3) (a := ⟨w1.heap.size, 0, none⟩) hBs (.int .i64 (y1).re)) (a := ⟨w1.heap.size, 1, none⟩) hBs (.int .i64 (y1).im)
    have C4 := CellsAt.set2 (C3) (.int .i64 (y1).re) (.int .i64 (y1).im)
    refine hK.out _ _ ?_ (fun hHeld => ?_)
    ·(exact KS _ x4)
    clear hK K hS
    have hS := hHeld
    clear hHeld
    try simp only [Act.put, putS]
    refine wpAnyH_done (by kernel_rfl) ?_ _
    go_wp2_with fail
    go_meet
    case rel => exact ⟨_, rfl, hBs, C4, x4⟩
  ·go_simp
   have x1 := Gr.alloc (Gr.drew (Gr.refl u0)) #[.int .i64 0, .int .i64 0] 55
   have C1 : CellsAt ((u0.drew).alloc (.cells #[.int .i64 0, .int .i64 0] 55)) (u0.heap.size) 55 #[.int .i64 0, .int .i64 0] := CellsAt.new (u0.drew) 55 #[.int .i64 0, .int .i64 0]
   refine hK.out _ _ ?_ (fun hHeld => ?_)
   ·(exact KS _ x1)
   clear hK K hS
   have hS := hHeld
   clear hHeld
   try simp only [Act.put, putS]
   refine hR 5 fun K hK => ?_
   go_simp
   go_at_call 97
   refine (HT1.out _).mono ?_
   rintro e w2 ⟨rfl, g2⟩
   have x2 := x1.trans g2
   have C2 := C1.gr g2
   refine hK.out _ _ ?_ (fun hHeld => ?_)
   ·(exact KS _ x2)
   clear hK K hS
   have hS := hHeld
   clear hHeld
   try simp only [Act.put, putS]
   refine hR 6 fun K hK => ?_
   go_simp
   go_at_call 64
   refine (HS1.out _).mono ?_
   rintro e w3 ⟨rfl, g3⟩
   have x3 := x2.trans g3
   have C3 := C2.gr g3
   refine hK.out _ _ ?_ (fun hHeld => ?_)
   ·(exact KS _ x3)
   clear hK K hS
   have hS := hHeld
   clear hHeld
   try simp only [Act.put, putS]
   have lC := C3.lt
   obtain ⟨fm0, fm1⟩ := C3.f2
   obtain ⟨fc0, fc1⟩ := C3.t2
   refine hR 8 fun K hK => ?_
   go_simp
   have hBs : u0.heap.size ≤ u0.heap.size := by have hq := Gr.size (Gr.drew (Gr.refl u0)); exact hq
   have x4 := Gr.setCell (Gr.setCell (x3) (a := ⟨u0.heap.size, 0, none⟩) hBs (.int .i64 (y1).re)) (a := ⟨u0.heap.size, 1, none⟩) hBs (.int .i64 (y1).im)
   have C4 := CellsAt.set2 (C3) (.int .i64 (y1).re) (.int .i64 (y1).im)
   refine hK.out _ _ ?_ (fun hHeld => ?_)
   ·(exact KS _ x4)
   clear hK K hS
   have hS := hHeld
   clear hHeld
   try simp only [Act.put, putS]
   refine wpAnyH_done (by kernel_rfl) ?_ _
   go_wp2_with fail
   go_meet
   case rel => exact ⟨_, rfl, hBs, C4, x4⟩
 case rest =>
  obtain ⟨B, rfl, hB, D0, gw0⟩ := hcut
  go_wp2_with fail
  go_cut [] from 26 to 32 (fun wx' => CellsAt wx' B 55 #[.int .i64 (y2).re, .int .i64 (y2).im] ∧ Gr u0 wx')
  case first =>
   have c0 := D0.cell 0
   have c1 := D0.cell 1
   have lB := D0.lt
   simp only [getS] at c0 c1
   refine wp_region_held_drew (S := fun W => W.cell? ⟨w.heap.size, 0, none⟩ = some (.int .i64 (p).re) ∧ W.cell? ⟨w.heap.size, 1, none⟩ = some (.int .i64 (p).im) ∧ W.cell? ⟨w.heap.size, 2, none⟩ = some (.int .i64 (q0).re) ∧ W.cell? ⟨w.heap.size, 3, none⟩ = some (.int .i64 (q0).im) ∧ W.cell? ⟨w.heap.size, 4, none⟩ = some (.int .i64 (r).re) ∧ W.cell? ⟨w.heap.size, 5, none⟩ = some (.int .i64 (r).im) ∧ W.cell? ⟨w.heap.size, 6, none⟩ = some (.int .i64 (z).re) ∧ W.cell? ⟨w.heap.size, 7, none⟩ = some (.int .i64 (z).im) ∧ w.heap.size < W.heap.size) rfl (KS _ (Gr.drew gw0)) (fun hS => ?_)
   refine hT 1 ?_
   refine hT 2 ?_
   refine hT 3 ?_
   refine hT 4 ?_
   refine wpAnyH_ready (rs := [0, 5]) (by kernel_rfl) (by simp) ?_
   refine AllReadyH.cons rfl (fun K hK => ?_) (AllReadyH.cons rfl (fun K hK => ?_) AllReadyH.nil)
   ·go_simp
    clear c0 c1 lB
    refine hK.out _ _ ?_ (fun hHeld => ?_)
    ·(exact hS)
    clear hK K hS
    have hS := hHeld
    clear hHeld
    try simp only [Act.put, putS]
    refine hR 5 fun K hK => ?_
    go_simp
    go_at_call 97
    with_reducible refine (HT2.out _).mono ?_
    rintro e w3 ⟨rfl, g3⟩
    have x3 := ((Gr.refl wc).drew).trans g3
    refine hK.out _ _ ?_ (fun hHeld => ?_)
    ·(exact KS _ (gw0.trans x3))
    clear hK K hS
    have hS := hHeld
    clear hHeld
    try simp only [Act.put, putS]
    refine hR 6 fun K hK => ?_
    go_simp
    go_at_call 64
    with_reducible refine (HS2.out _).mono ?_
    rintro e w4 ⟨rfl, g4⟩
    have x4 := x3.trans g4
    have D4 := D0.gr x4
    refine hK.out _ _ ?_ (fun hHeld => ?_)
    ·(exact KS _ (gw0.trans x4))
    clear hK K hS
    have hS := hHeld
    clear hHeld
    try simp only [Act.put, putS]
    have c0 := D4.cell 0
    have c1 := D4.cell 1
    have f0 := D4.frozen 0
    have f1 := D4.frozen 1
    have lB := D4.lt
    simp only [getS] at c0 c1
    refine hR 7 fun K hK => ?_
    go_simp
    have D5 := CellsAt.set2 D4 (.int .i64 (y2).re) (.int .i64 (y2).im)
    have x5 := ((gw0.trans x4).setCell (a := ⟨B, 0, none⟩) hB (.int .i64 (y2).re)).setCell (a := ⟨B, 1, none⟩) hB (.int .i64 (y2).im)
    refine hK.out _ _ ?_ (fun hHeld => ?_)
    ·(exact KS _ x5)
    clear hK K hS
    have hS := hHeld
    clear hHeld
    try simp only [Act.put, putS]
    refine wpAnyH_done (by kernel_rfl) ?_ _
    go_wp2_with fail
    go_meet
    case rel => exact ⟨D5, x5⟩
   ·go_simp
    go_at_call 97
    with_reducible refine (HT2.out _).mono ?_
    rintro e w3 ⟨rfl, g3⟩
    have x3 := ((Gr.refl wc).drew).trans g3
    refine hK.out _ _ ?_ (fun hHeld => ?_)
    ·(exact KS _ (gw0.trans x3))
    clear hK K hS
    have hS := hHeld
    clear hHeld
    try simp only [Act.put, putS]
    clear c0 c1 lB
    have c0 := (D0.gr x3).cell 0
    have c1 := (D0.gr x3).cell 1
    have lB := (D0.gr x3).lt
    simp only [getS] at c0 c1
    refine hR 0 fun K hK => ?_
    go_simp
    refine hK.out _ _ ?_ (fun hHeld => ?_)
    ·(exact hS)
    clear hK K hS
    have hS := hHeld
    clear hHeld
    try simp only [Act.put, putS]
    clear c0 c1 lB
    refine hR 6 fun K hK => ?_
    go_simp
    go_at_call 64
    with_reducible refine (HS2.out _).mono ?_
    rintro e w4 ⟨rfl, g4⟩
    have x4 := x3.trans g4
    have D4 := D0.gr x4
    refine hK.out _ _ ?_ (fun hHeld => ?_)
    ·(exact KS _ (gw0.trans x4))
    clear hK K hS
    have hS := hHeld
    clear hHeld
    try simp only [Act.put, putS]
    have c0 := D4.cell 0
    have c1 := D4.cell 1
    have f0 := D4.frozen 0
    have f1 := D4.frozen 1
    have lB := D4.lt
    simp only [getS] at c0 c1
    refine hR 7 fun K hK => ?_
    go_simp
    have D5 := CellsAt.set2 D4 (.int .i64 (y2).re) (.int .i64 (y2).im)
    have x5 := ((gw0.trans x4).setCell (a := ⟨B, 0, none⟩) hB (.int .i64 (y2).re)).setCell (a := ⟨B, 1, none⟩) hB (.int .i64 (y2).im)
    refine hK.out _ _ ?_ (fun hHeld => ?_)
    ·(exact KS _ x5)
    clear hK K hS
    have hS := hHeld
    clear hHeld
    try simp only [Act.put, putS]
    refine wpAnyH_done (by kernel_rfl) ?_ _
    go_wp2_with fail
    go_meet
    case rel => exact ⟨D5, x5⟩
  obtain ⟨D0, gw0⟩ := (show CellsAt wc B 55 #[.int .i64 (y2).re, .int .i64 (y2).im] ∧ Gr u0 wc from hcut)
  go_wp2_with fail
  go_cut [] from 33 to 39 (fun wx' => CellsAt wx' B 55 #[.int .i64 (y3).re, .int .i64 (y3).im] ∧ Gr u0 wx')
  case first =>
   have c0 := D0.cell 0
   have c1 := D0.cell 1
   have lB := D0.lt
   simp only [getS] at c0 c1
   refine wp_region_held_drew (S := fun W => W.cell? ⟨w.heap.size, 0, none⟩ = some (.int .i64 (p).re) ∧ W.cell? ⟨w.heap.size, 1, none⟩ = some (.int .i64 (p).im) ∧ W.cell? ⟨w.heap.size, 2, none⟩ = some (.int .i64 (q0).re) ∧ W.cell? ⟨w.heap.size, 3, none⟩ = some (.int .i64 (q0).im) ∧ W.cell? ⟨w.heap.size, 4, none⟩ = some (.int .i64 (r).re) ∧ W.cell? ⟨w.heap.size, 5, none⟩ = some (.int .i64 (r).im) ∧ W.cell? ⟨w.heap.size, 6, none⟩ = some (.int .i64 (z).re) ∧ W.cell? ⟨w.heap.size, 7, none⟩ = some (.int .i64 (z).im) ∧ w.heap.size < W.heap.size) rfl (KS _ (Gr.drew gw0)) (fun hS => ?_)
   refine hT 1 ?_
   refine hT 2 ?_
   refine hT 3 ?_
   refine hT 4 ?_
   refine wpAnyH_ready (rs := [0, 5]) (by kernel_rfl) (by simp) ?_
   refine AllReadyH.cons rfl (fun K hK => ?_) (AllReadyH.cons rfl (fun K hK => ?_) AllReadyH.nil)
   ·go_simp
    clear c0 c1 lB
    refine hK.out _ _ ?_ (fun hHeld => ?_)
    ·(exact hS)
    clear hK K hS
    have hS := hHeld
    clear hHeld
    try simp only [Act.put, putS]
    refine hR 5 fun K hK => ?_
    go_simp
    go_at_call 97
    with_reducible refine (HT3.out _).mono ?_
    rintro e w3 ⟨rfl, g3⟩
    have x3 := ((Gr.refl wc).drew).trans g3
    refine hK.out _ _ ?_ (fun hHeld => ?_)
    ·(exact KS _ (gw0.trans x3))
    clear hK K hS
    have hS := hHeld
    clear hHeld
    try simp only [Act.put, putS]
    refine hR 6 fun K hK => ?_
    go_simp
    go_at_call 64
    with_reducible refine (HS3.out _).mono ?_
    rintro e w4 ⟨rfl, g4⟩
    have x4 := x3.trans g4
    have D4 := D0.gr x4
    refine hK.out _ _ ?_ (fun hHeld => ?_)
    ·(exact KS _ (gw0.trans x4))
    clear hK K hS
    have hS := hHeld
    clear hHeld
    try simp only [Act.put, putS]
    have c0 := D4.cell 0
    have c1 := D4.cell 1
    have f0 := D4.frozen 0
    have f1 := D4.frozen 1
    have lB := D4.lt
    simp only [getS] at c0 c1
    refine hR 7 fun K hK => ?_
    go_simp
    have D5 := CellsAt.set2 D4 (.int .i64 (y3).re) (.int .i64 (y3).im)
    have x5 := ((gw0.trans x4).setCell (a := ⟨B, 0, none⟩) hB (.int .i64 (y3).re)).setCell (a := ⟨B, 1, none⟩) hB (.int .i64 (y3).im)
    refine hK.out _ _ ?_ (fun hHeld => ?_)
    ·(exact KS _ x5)
    clear hK K hS
    have hS := hHeld
    clear hHeld
    try simp only [Act.put, putS]
    refine wpAnyH_done (by kernel_rfl) ?_ _
    go_wp2_with fail
    go_meet
    case rel => exact ⟨D5, x5⟩
   ·go_simp
    go_at_call 97
    with_reducible refine (HT3.out _).mono ?_
    rintro e w3 ⟨rfl, g3⟩
    have x3 := ((Gr.refl wc).drew).trans g3
    refine hK.out _ _ ?_ (fun hHeld => ?_)
    ·(exact KS _ (gw0.trans x3))
    clear hK K hS
    have hS := hHeld
    clear hHeld
    try simp only [Act.put, putS]
    clear c0 c1 lB
    have c0 := (D0.gr x3).cell 0
    have c1 := (D0.gr x3).cell 1
    have lB := (D0.gr x3).lt
    simp only [getS] at c0 c1
    refine hR 0 fun K hK => ?_
    go_simp
    refine hK.out _ _ ?_ (fun hHeld => ?_)
    ·(exact hS)
    clear hK K hS
    have hS := hHeld
    clear hHeld
    try simp only [Act.put, putS]
    clear c0 c1 lB
    refine hR 6 fun K hK => ?_
    go_simp
    go_at_call 64
    with_reducible refine (HS3.out _).mono ?_
    rintro e w4 ⟨rfl, g4⟩
    have x4 := x3.trans g4
    have D4 := D0.gr x4
    refine hK.out _ _ ?_ (fun hHeld => ?_)
    ·(exact KS _ (gw0.trans x4))
    clear hK K hS
    have hS := hHeld
    clear hHeld
    try simp only [Act.put, putS]
    have c0 := D4.cell 0
    have c1 := D4.cell 1
    have f0 := D4.frozen 0
    have f1 := D4.frozen 1
    have lB := D4.lt
    simp only [getS] at c0 c1
    refine hR 7 fun K hK => ?_
    go_simp
    have D5 := CellsAt.set2 D4 (.int .i64 (y3).re) (.int .i64 (y3).im)
    have x5 := ((gw0.trans x4).setCell (a := ⟨B, 0, none⟩) hB (.int .i64 (y3).re)).setCell (a := ⟨B, 1, none⟩) hB (.int .i64 (y3).im)
    refine hK.out _ _ ?_ (fun hHeld => ?_)
    ·(exact KS _ x5)
    clear hK K hS
    have hS := hHeld
    clear hHeld
    try simp only [Act.put, putS]
    refine wpAnyH_done (by kernel_rfl) ?_ _
    go_wp2_with fail
    go_meet
    case rel => exact ⟨D5, x5⟩
  obtain ⟨D0, gw0⟩ := (show CellsAt wc B 55 #[.int .i64 (y3).re, .int .i64 (y3).im] ∧ Gr u0 wc from hcut)
  have c0 := D0.cell 0
  have c1 := D0.cell 1
  have lB := D0.lt
  simp only [getS] at c0 c1
  have Q1 := R1.gr gw0
  have gz := gu.trans gw0
  clear R0 R1 KS HT1 HS1 HT2 HS2 HT3 HS3 gw0 gu D0 hB hw2 hw3 hw4
  go_wp2_with fail
  refine (HF.out _).mono ?_
  rintro e w9 ⟨rfl, g9⟩
  have Q9 := Q1.gr g9
  have d0 := Q9.cell 0
  have d1 := Q9.cell 1
  have m0 := Q9.frozen 0
  have m1 := Q9.frozen 1
  have l9 := Q9.lt
  simp only [getS] at d0 d1
  have gy := gz.trans g9
  clear c0 c1 lB Q1 Q9 g9 gz HF
  go_wp2_with fail
  refine bodyPost_ret (v := .agg #[.int .i64 (y4).re, .int .i64 (y4).im]) ?_ rfl ⟨rfl, ?_⟩
  ·simp [results, Tryz.f81, go_sem, d0, d1]
  ·exact (gy.setCell (by first | (simp; done) | (simp; omega)) _).setCell (by first | (simp; done) | (simp; omega)) _
set_option maxHeartbeats 8000000 in
theorem out11_false (p q0 r z y1 y2 y3 y4 b1 c1' d1 : Gi) (q bits s n mo : Int) (q0' : 0 ≤ q) (q3 : q ≤ 3) (hn : wrap64 (bits + s) = n)
 (HT1 : CR 97 #[.agg #[.int .i64 (q0).re, .int .i64 (q0).im], .int .i64 (-q)] (.agg #[.int .i64 (b1).re, .int .i64 (b1).im]))
 (HS1 : CR 64 #[.agg #[.int .i64 (p).re, .int .i64 (p).im], .agg #[.int .i64 (b1).re, .int .i64 (b1).im]] (.agg #[.int .i64 (y1).re, .int .i64 (y1).im]))
 (HT2 : CR 97 #[.agg #[.int .i64 (r).re, .int .i64 (r).im], .int .i64 (2 * q)] (.agg #[.int .i64 (c1').re, .int .i64 (c1').im]))
 (HS2 : CR 64 #[.agg #[.int .i64 (y1).re, .int .i64 (y1).im], .agg #[.int .i64 (c1').re, .int .i64 (c1').im]] (.agg #[.int .i64 (y2).re, .int .i64 (y2).im]))
 (HT3 : CR 97 #[.agg #[.int .i64 (z).re, .int .i64 (z).im], .int .i64 q] (.agg #[.int .i64 (d1).re, .int .i64 (d1).im]))
 (HS3 : CR 64 #[.agg #[.int .i64 (y2).re, .int .i64 (y2).im], .agg #[.int .i64 (d1).re, .int .i64 (d1).im]] (.agg #[.int .i64 (y3).re, .int .i64 (y3).im]))
 (HF : CR 63 #[.agg #[.int .i64 (y3).re, .int .i64 (y3).im], .int .i64 n, .int .i64 mo] (.agg #[.int .i64 (y4).re, .int .i64 (y4).im])) (w : World) :
 CW 81 #[.agg #[.int .i64 (p).re, .int .i64 (p).im, .int .i64 (q0).re, .int .i64 (q0).im, .int .i64 (r).re, .int .i64 (r).im, .int .i64 (z).re, .int .i64 (z).im], .int .i64 q, .int .i64 bits, .int .i64 s, .int .i64 mo, .bool false] w (.agg #[.int .i64 (y4).re, .int .i64 (y4).im]) :=by
 delta CW
 have hw2 : IntKind.i64.wrap (2 * q) = 2 * q := IntWalk.i64_in _ ⟨by omega, by omega⟩
 have hw3 : IntKind.i64.wrap (-q) = -q := IntWalk.i64_in _ ⟨by omega, by omega⟩
 have hw4 : IntKind.i64.wrap q = q := IntWalk.i64_in _ ⟨by omega, by omega⟩
 go_enter Tryz.func81, Tryz.ntmps81
 go_wp2_with fail
 obtain ⟨u0, hU⟩ : ∃ uu, uu = ((w.alloc (.cells #[.int .i64 (p).re, .int .i64 (p).im, .int .i64 (q0).re, .int .i64 (q0).im, .int .i64 (r).re, .int .i64 (r).im, .int .i64 (z).re, .int .i64 (z).im] 116)).alloc (.cells #[.int .i64 0, .int .i64 0] 55)) := ⟨_, rfl⟩
 have ⟨gu, R0, R1⟩ := lay2 hU
 rw [← hU]
 clear hU
 have KS : ∀ W, Gr u0 W → (W.cell? ⟨w.heap.size, 0, none⟩ = some (.int .i64 (p).re) ∧ W.cell? ⟨w.heap.size, 1, none⟩ = some (.int .i64 (p).im) ∧ W.cell? ⟨w.heap.size, 2, none⟩ = some (.int .i64 (q0).re) ∧ W.cell? ⟨w.heap.size, 3, none⟩ = some (.int .i64 (q0).im) ∧ W.cell? ⟨w.heap.size, 4, none⟩ = some (.int .i64 (r).re) ∧ W.cell? ⟨w.heap.size, 5, none⟩ = some (.int .i64 (r).im) ∧ W.cell? ⟨w.heap.size, 6, none⟩ = some (.int .i64 (z).re) ∧ W.cell? ⟨w.heap.size, 7, none⟩ = some (.int .i64 (z).im) ∧ w.heap.size < W.heap.size) := fun W hG => ⟨(R0.gr hG).cell 0, (R0.gr hG).cell 1, (R0.gr hG).cell 2, (R0.gr hG).cell 3, (R0.gr hG).cell 4, (R0.gr hG).cell 5, (R0.gr hG).cell 6, (R0.gr hG).cell 7, Nat.lt_of_lt_of_le R0.lt hG.size⟩
 go_cut [14] from 19 to 25 (fun pv wx' => ∃ B : Nat, pv = .pointer (some ⟨B, 0, none⟩) ∧ u0.heap.size ≤ B ∧ CellsAt wx' B 55 #[.int .i64 (y1).re, .int .i64 (y1).im] ∧ Gr u0 wx')
 case first =>
  refine wp_region_held_drew (S := fun W => W.cell? ⟨w.heap.size, 0, none⟩ = some (.int .i64 (p).re) ∧ W.cell? ⟨w.heap.size, 1, none⟩ = some (.int .i64 (p).im) ∧ W.cell? ⟨w.heap.size, 2, none⟩ = some (.int .i64 (q0).re) ∧ W.cell? ⟨w.heap.size, 3, none⟩ = some (.int .i64 (q0).im) ∧ W.cell? ⟨w.heap.size, 4, none⟩ = some (.int .i64 (r).re) ∧ W.cell? ⟨w.heap.size, 5, none⟩ = some (.int .i64 (r).im) ∧ W.cell? ⟨w.heap.size, 6, none⟩ = some (.int .i64 (z).re) ∧ W.cell? ⟨w.heap.size, 7, none⟩ = some (.int .i64 (z).im) ∧ w.heap.size < W.heap.size) rfl (KS _ (Gr.drew (Gr.refl _))) (fun hS => ?_)
  refine hT 0 ?_
  refine hT 1 ?_
  refine hT 2 ?_
  refine hT 3 ?_
  refine hT 4 ?_
  refine wpAnyH_ready (rs := [5, 7]) (by kernel_rfl) (by simp) ?_
  refine AllReadyH.cons rfl (fun K hK => ?_) (AllReadyH.cons rfl (fun K hK => ?_) AllReadyH.nil)
  ·go_simp
   go_at_call 97
   refine (HT1.out _).mono ?_
   rintro e w1 ⟨rfl, g1⟩
   have x1 := (Gr.drew (Gr.refl u0)).trans g1
   refine hK.out _ _ ?_ (fun hHeld => ?_)
   ·(exact KS _ x1)
   clear hK K hS
   have hS := hHeld
   clear hHeld
   try simp only [Act.put, putS]
   refine wpAnyH_ready (rs := [6, 7]) (by kernel_rfl) (by simp) ?_
   refine AllReadyH.cons rfl (fun K hK => ?_) (AllReadyH.cons rfl (fun K hK => ?_) AllReadyH.nil)
   ·go_simp
    go_at_call 64
    refine (HS1.out _).mono ?_
    rintro e w2 ⟨rfl, g2⟩
    have x2 := x1.trans g2
    refine hK.out _ _ ?_ (fun hHeld => ?_)
    ·(exact KS _ x2)
    clear hK K hS
    have hS := hHeld
    clear hHeld
    try simp only [Act.put, putS]
    refine hR 7 fun K hK => ?_
    go_simp
    have x3 := Gr.alloc (x2) #[.int .i64 0, .int .i64 0] 55
    have C3 : CellsAt (w2.alloc (.cells #[.int .i64 0, .int .i64 0] 55)) (w2.heap.size) 55 #[.int .i64 0, .int .i64 0] := CellsAt.new (w2) 55 #[.int .i64 0, .int .i64 0]
    refine hK.out _ _ ?_ (fun hHeld => ?_)
    ·(exact KS _ x3)
    clear hK K hS
    have hS := hHeld
    clear hHeld
    try simp only [Act.put, putS]
    have hBs : u0.heap.size ≤ w2.heap.size := by have hq := Gr.size (x2); exact hq
    refine hR 8 fun K hK => ?_
    go_simp
    have x4 := Gr.alloc (x2) #[.int .i64 (y1).re, .int .i64 (y1).im] 55
    refine hK.out _ _ ?_ (fun hHeld => ?_)
    ·(exact KS _ x4)
    clear hK K hS
    have hS := hHeld
    clear hHeld
    try simp only [Act.put, putS]
    refine wpAnyH_done (by kernel_rfl) ?_ _
    go_wp2_with fail
    go_meet
    case rel => exact ⟨_, rfl, hBs, CellsAt.new (w2) 55 #[.int .i64 (y1).re, .int .i64 (y1).im], x4⟩
   ·go_simp
    have x2 := Gr.alloc (x1) #[.int .i64 0, .int .i64 0] 55
    have C2 : CellsAt (w1.alloc (.cells #[.int .i64 0, .int .i64 0] 55)) (w1.heap.size) 55 #[.int .i64 0, .int .i64 0] := CellsAt.new (w1) 55 #[.int .i64 0, .int .i64 0]
    refine hK.out _ _ ?_ (fun hHeld => ?_)
    ·(exact KS _ x2)
    clear hK K hS
    have hS := hHeld
    clear hHeld
    try simp only [Act.put, putS]
    refine hR 6 fun K hK => ?_
    go_simp
    go_at_call 64
    refine (HS1.out _).mono ?_
    rintro e w3 ⟨rfl, g3⟩
    have x3 := x2.trans g3
    have C3 := C2.gr g3
    refine hK.out _ _ ?_ (fun hHeld => ?_)
    ·(exact KS _ x3)
    clear hK K hS
    have hS := hHeld
    clear hHeld
    try simp only [Act.put, putS]
    have lC := C3.lt
    obtain ⟨fm0, fm1⟩ := C3.f2
    obtain ⟨fc0, fc1⟩ := C3.t2
    refine hR 8 fun K hK => ?_
    go_simp
    have hBs : u0.heap.size ≤ w1.heap.size := by have hq := Gr.size (x1); exact hq
    have x4 := Gr.setCell (Gr.setCell (x3) (a := ⟨w1.heap.size, 0, none⟩) hBs (.int .i64 (y1).re)) (a := ⟨w1.heap.size, 1, none⟩) hBs (.int .i64 (y1).im)
    have C4 := CellsAt.set2 (C3) (.int .i64 (y1).re) (.int .i64 (y1).im)
    refine hK.out _ _ ?_ (fun hHeld => ?_)
    ·(exact KS _ x4)
    clear hK K hS
    have hS := hHeld
    clear hHeld
    try simp only [Act.put, putS]
    refine wpAnyH_done (by kernel_rfl) ?_ _
    go_wp2_with fail
    go_meet
    case rel => exact ⟨_, rfl, hBs, C4, x4⟩
  ·go_simp
   have x1 := Gr.alloc (Gr.drew (Gr.refl u0)) #[.int .i64 0, .int .i64 0] 55
   have C1 : CellsAt ((u0.drew).alloc (.cells #[.int .i64 0, .int .i64 0] 55)) (u0.heap.size) 55 #[.int .i64 0, .int .i64 0] := CellsAt.new (u0.drew) 55 #[.int .i64 0, .int .i64 0]
   refine hK.out _ _ ?_ (fun hHeld => ?_)
   ·(exact KS _ x1)
   clear hK K hS
   have hS := hHeld
   clear hHeld
   try simp only [Act.put, putS]
   refine hR 5 fun K hK => ?_
   go_simp
   go_at_call 97
   refine (HT1.out _).mono ?_
   rintro e w2 ⟨rfl, g2⟩
   have x2 := x1.trans g2
   have C2 := C1.gr g2
   refine hK.out _ _ ?_ (fun hHeld => ?_)
   ·(exact KS _ x2)
   clear hK K hS
   have hS := hHeld
   clear hHeld
   try simp only [Act.put, putS]
   refine hR 6 fun K hK => ?_
   go_simp
   go_at_call 64
   refine (HS1.out _).mono ?_
   rintro e w3 ⟨rfl, g3⟩
   have x3 := x2.trans g3
   have C3 := C2.gr g3
   refine hK.out _ _ ?_ (fun hHeld => ?_)
   ·(exact KS _ x3)
   clear hK K hS
   have hS := hHeld
   clear hHeld
   try simp only [Act.put, putS]
   have lC := C3.lt
   obtain ⟨fm0, fm1⟩ := C3.f2
   obtain ⟨fc0, fc1⟩ := C3.t2
   refine hR 8 fun K hK => ?_
   go_simp
   have hBs : u0.heap.size ≤ u0.heap.size := by have hq := Gr.size (Gr.drew (Gr.refl u0)); exact hq
   have x4 := Gr.setCell (Gr.setCell (x3) (a := ⟨u0.heap.size, 0, none⟩) hBs (.int .i64 (y1).re)) (a := ⟨u0.heap.size, 1, none⟩) hBs (.int .i64 (y1).im)
   have C4 := CellsAt.set2 (C3) (.int .i64 (y1).re) (.int .i64 (y1).im)
   refine hK.out _ _ ?_ (fun hHeld => ?_)
   ·(exact KS _ x4)
   clear hK K hS
   have hS := hHeld
   clear hHeld
   try simp only [Act.put, putS]
   refine wpAnyH_done (by kernel_rfl) ?_ _
   go_wp2_with fail
   go_meet
   case rel => exact ⟨_, rfl, hBs, C4, x4⟩
 case rest =>
  obtain ⟨B, rfl, hB, D0, gw0⟩ := hcut
  go_wp2_with fail
  go_cut [] from 26 to 32 (fun wx' => CellsAt wx' B 55 #[.int .i64 (y2).re, .int .i64 (y2).im] ∧ Gr u0 wx')
  case first =>
   have c0 := D0.cell 0
   have c1 := D0.cell 1
   have lB := D0.lt
   simp only [getS] at c0 c1
   refine wp_region_held_drew (S := fun W => W.cell? ⟨w.heap.size, 0, none⟩ = some (.int .i64 (p).re) ∧ W.cell? ⟨w.heap.size, 1, none⟩ = some (.int .i64 (p).im) ∧ W.cell? ⟨w.heap.size, 2, none⟩ = some (.int .i64 (q0).re) ∧ W.cell? ⟨w.heap.size, 3, none⟩ = some (.int .i64 (q0).im) ∧ W.cell? ⟨w.heap.size, 4, none⟩ = some (.int .i64 (r).re) ∧ W.cell? ⟨w.heap.size, 5, none⟩ = some (.int .i64 (r).im) ∧ W.cell? ⟨w.heap.size, 6, none⟩ = some (.int .i64 (z).re) ∧ W.cell? ⟨w.heap.size, 7, none⟩ = some (.int .i64 (z).im) ∧ w.heap.size < W.heap.size) rfl (KS _ (Gr.drew gw0)) (fun hS => ?_)
   refine hT 1 ?_
   refine hT 2 ?_
   refine hT 3 ?_
   refine hT 4 ?_
   refine wpAnyH_ready (rs := [0, 5]) (by kernel_rfl) (by simp) ?_
   refine AllReadyH.cons rfl (fun K hK => ?_) (AllReadyH.cons rfl (fun K hK => ?_) AllReadyH.nil)
   ·go_simp
    clear c0 c1 lB
    refine hK.out _ _ ?_ (fun hHeld => ?_)
    ·(exact hS)
    clear hK K hS
    have hS := hHeld
    clear hHeld
    try simp only [Act.put, putS]
    refine hR 5 fun K hK => ?_
    go_simp
    go_at_call 97
    with_reducible refine (HT2.out _).mono ?_
    rintro e w3 ⟨rfl, g3⟩
    have x3 := ((Gr.refl wc).drew).trans g3
    refine hK.out _ _ ?_ (fun hHeld => ?_)
    ·(exact KS _ (gw0.trans x3))
    clear hK K hS
    have hS := hHeld
    clear hHeld
    try simp only [Act.put, putS]
    refine hR 6 fun K hK => ?_
    go_simp
    go_at_call 64
    with_reducible refine (HS2.out _).mono ?_
    rintro e w4 ⟨rfl, g4⟩
    have x4 := x3.trans g4
    have D4 := D0.gr x4
    refine hK.out _ _ ?_ (fun hHeld => ?_)
    ·(exact KS _ (gw0.trans x4))
    clear hK K hS
    have hS := hHeld
    clear hHeld
    try simp only [Act.put, putS]
    have c0 := D4.cell 0
    have c1 := D4.cell 1
    have f0 := D4.frozen 0
    have f1 := D4.frozen 1
    have lB := D4.lt
    simp only [getS] at c0 c1
    refine hR 7 fun K hK => ?_
    go_simp
    have D5 := CellsAt.set2 D4 (.int .i64 (y2).re) (.int .i64 (y2).im)
    have x5 := ((gw0.trans x4).setCell (a := ⟨B, 0, none⟩) hB (.int .i64 (y2).re)).setCell (a := ⟨B, 1, none⟩) hB (.int .i64 (y2).im)
    refine hK.out _ _ ?_ (fun hHeld => ?_)
    ·(exact KS _ x5)
    clear hK K hS
    have hS := hHeld
    clear hHeld
    try simp only [Act.put, putS]
    refine wpAnyH_done (by kernel_rfl) ?_ _
    go_wp2_with fail
    go_meet
    case rel => exact ⟨D5, x5⟩
   ·go_simp
    go_at_call 97
    with_reducible refine (HT2.out _).mono ?_
    rintro e w3 ⟨rfl, g3⟩
    have x3 := ((Gr.refl wc).drew).trans g3
    refine hK.out _ _ ?_ (fun hHeld => ?_)
    ·(exact KS _ (gw0.trans x3))
    clear hK K hS
    have hS := hHeld
    clear hHeld
    try simp only [Act.put, putS]
    clear c0 c1 lB
    have c0 := (D0.gr x3).cell 0
    have c1 := (D0.gr x3).cell 1
    have lB := (D0.gr x3).lt
    simp only [getS] at c0 c1
    refine hR 0 fun K hK => ?_
    go_simp
    refine hK.out _ _ ?_ (fun hHeld => ?_)
    ·(exact hS)
    clear hK K hS
    have hS := hHeld
    clear hHeld
    try simp only [Act.put, putS]
    clear c0 c1 lB
    refine hR 6 fun K hK => ?_
    go_simp
    go_at_call 64
    with_reducible refine (HS2.out _).mono ?_
    rintro e w4 ⟨rfl, g4⟩
    have x4 := x3.trans g4
    have D4 := D0.gr x4
    refine hK.out _ _ ?_ (fun hHeld => ?_)
    ·(exact KS _ (gw0.trans x4))
    clear hK K hS
    have hS := hHeld
    clear hHeld
    try simp only [Act.put, putS]
    have c0 := D4.cell 0
    have c1 := D4.cell 1
    have f0 := D4.frozen 0
    have f1 := D4.frozen 1
    have lB := D4.lt
    simp only [getS] at c0 c1
    refine hR 7 fun K hK => ?_
    go_simp
    have D5 := CellsAt.set2 D4 (.int .i64 (y2).re) (.int .i64 (y2).im)
    have x5 := ((gw0.trans x4).setCell (a := ⟨B, 0, none⟩) hB (.int .i64 (y2).re)).setCell (a := ⟨B, 1, none⟩) hB (.int .i64 (y2).im)
    refine hK.out _ _ ?_ (fun hHeld => ?_)
    ·(exact KS _ x5)
    clear hK K hS
    have hS := hHeld
    clear hHeld
    try simp only [Act.put, putS]
    refine wpAnyH_done (by kernel_rfl) ?_ _
    go_wp2_with fail
    go_meet
    case rel => exact ⟨D5, x5⟩
  obtain ⟨D0, gw0⟩ := (show CellsAt wc B 55 #[.int .i64 (y2).re, .int .i64 (y2).im] ∧ Gr u0 wc from hcut)
  go_wp2_with fail
  go_cut [] from 33 to 39 (fun wx' => CellsAt wx' B 55 #[.int .i64 (y3).re, .int .i64 (y3).im] ∧ Gr u0 wx')
  case first =>
   have c0 := D0.cell 0
   have c1 := D0.cell 1
   have lB := D0.lt
   simp only [getS] at c0 c1
   refine wp_region_held_drew (S := fun W => W.cell? ⟨w.heap.size, 0, none⟩ = some (.int .i64 (p).re) ∧ W.cell? ⟨w.heap.size, 1, none⟩ = some (.int .i64 (p).im) ∧ W.cell? ⟨w.heap.size, 2, none⟩ = some (.int .i64 (q0).re) ∧ W.cell? ⟨w.heap.size, 3, none⟩ = some (.int .i64 (q0).im) ∧ W.cell? ⟨w.heap.size, 4, none⟩ = some (.int .i64 (r).re) ∧ W.cell? ⟨w.heap.size, 5, none⟩ = some (.int .i64 (r).im) ∧ W.cell? ⟨w.heap.size, 6, none⟩ = some (.int .i64 (z).re) ∧ W.cell? ⟨w.heap.size, 7, none⟩ = some (.int .i64 (z).im) ∧ w.heap.size < W.heap.size) rfl (KS _ (Gr.drew gw0)) (fun hS => ?_)
   refine hT 1 ?_
   refine hT 2 ?_
   refine hT 3 ?_
   refine hT 4 ?_
   refine wpAnyH_ready (rs := [0, 5]) (by kernel_rfl) (by simp) ?_
   refine AllReadyH.cons rfl (fun K hK => ?_) (AllReadyH.cons rfl (fun K hK => ?_) AllReadyH.nil)
   ·go_simp
    clear c0 c1 lB
    refine hK.out _ _ ?_ (fun hHeld => ?_)
    ·(exact hS)
    clear hK K hS
    have hS := hHeld
    clear hHeld
    try simp only [Act.put, putS]
    refine hR 5 fun K hK => ?_
    go_simp
    go_at_call 97
    with_reducible refine (HT3.out _).mono ?_
    rintro e w3 ⟨rfl, g3⟩
    have x3 := ((Gr.refl wc).drew).trans g3
    refine hK.out _ _ ?_ (fun hHeld => ?_)
    ·(exact KS _ (gw0.trans x3))
    clear hK K hS
    have hS := hHeld
    clear hHeld
    try simp only [Act.put, putS]
    refine hR 6 fun K hK => ?_
    go_simp
    go_at_call 64
    with_reducible refine (HS3.out _).mono ?_
    rintro e w4 ⟨rfl, g4⟩
    have x4 := x3.trans g4
    have D4 := D0.gr x4
    refine hK.out _ _ ?_ (fun hHeld => ?_)
    ·(exact KS _ (gw0.trans x4))
    clear hK K hS
    have hS := hHeld
    clear hHeld
    try simp only [Act.put, putS]
    have c0 := D4.cell 0
    have c1 := D4.cell 1
    have f0 := D4.frozen 0
    have f1 := D4.frozen 1
    have lB := D4.lt
    simp only [getS] at c0 c1
    refine hR 7 fun K hK => ?_
    go_simp
    have D5 := CellsAt.set2 D4 (.int .i64 (y3).re) (.int .i64 (y3).im)
    have x5 := ((gw0.trans x4).setCell (a := ⟨B, 0, none⟩) hB (.int .i64 (y3).re)).setCell (a := ⟨B, 1, none⟩) hB (.int .i64 (y3).im)
    refine hK.out _ _ ?_ (fun hHeld => ?_)
    ·(exact KS _ x5)
    clear hK K hS
    have hS := hHeld
    clear hHeld
    try simp only [Act.put, putS]
    refine wpAnyH_done (by kernel_rfl) ?_ _
    go_wp2_with fail
    go_meet
    case rel => exact ⟨D5, x5⟩
   ·go_simp
    go_at_call 97
    with_reducible refine (HT3.out _).mono ?_
    rintro e w3 ⟨rfl, g3⟩
    have x3 := ((Gr.refl wc).drew).trans g3
    refine hK.out _ _ ?_ (fun hHeld => ?_)
    ·(exact KS _ (gw0.trans x3))
    clear hK K hS
    have hS := hHeld
    clear hHeld
    try simp only [Act.put, putS]
    clear c0 c1 lB
    have c0 := (D0.gr x3).cell 0
    have c1 := (D0.gr x3).cell 1
    have lB := (D0.gr x3).lt
    simp only [getS] at c0 c1
    refine hR 0 fun K hK => ?_
    go_simp
    refine hK.out _ _ ?_ (fun hHeld => ?_)
    ·(exact hS)
    clear hK K hS
    have hS := hHeld
    clear hHeld
    try simp only [Act.put, putS]
    clear c0 c1 lB
    refine hR 6 fun K hK => ?_
    go_simp
    go_at_call 64
    with_reducible refine (HS3.out _).mono ?_
    rintro e w4 ⟨rfl, g4⟩
    have x4 := x3.trans g4
    have D4 := D0.gr x4
    refine hK.out _ _ ?_ (fun hHeld => ?_)
    ·(exact KS _ (gw0.trans x4))
    clear hK K hS
    have hS := hHeld
    clear hHeld
    try simp only [Act.put, putS]
    have c0 := D4.cell 0
    have c1 := D4.cell 1
    have f0 := D4.frozen 0
    have f1 := D4.frozen 1
    have lB := D4.lt
    simp only [getS] at c0 c1
    refine hR 7 fun K hK => ?_
    go_simp
    have D5 := CellsAt.set2 D4 (.int .i64 (y3).re) (.int .i64 (y3).im)
    have x5 := ((gw0.trans x4).setCell (a := ⟨B, 0, none⟩) hB (.int .i64 (y3).re)).setCell (a := ⟨B, 1, none⟩) hB (.int .i64 (y3).im)
    refine hK.out _ _ ?_ (fun hHeld => ?_)
    ·(exact KS _ x5)
    clear hK K hS
    have hS := hHeld
    clear hHeld
    try simp only [Act.put, putS]
    refine wpAnyH_done (by kernel_rfl) ?_ _
    go_wp2_with fail
    go_meet
    case rel => exact ⟨D5, x5⟩
  obtain ⟨D0, gw0⟩ := (show CellsAt wc B 55 #[.int .i64 (y3).re, .int .i64 (y3).im] ∧ Gr u0 wc from hcut)
  have c0 := D0.cell 0
  have c1 := D0.cell 1
  have lB := D0.lt
  simp only [getS] at c0 c1
  have Q1 := R1.gr gw0
  have gz := gu.trans gw0
  clear R0 R1 KS HT1 HS1 HT2 HS2 HT3 HS3 gw0 gu D0 hB hw2 hw3 hw4
  go_wp2_with fail
  refine (HF.out _).mono ?_
  rintro e w9 ⟨rfl, g9⟩
  have Q9 := Q1.gr g9
  have d0 := Q9.cell 0
  have d1 := Q9.cell 1
  have m0 := Q9.frozen 0
  have m1 := Q9.frozen 1
  have l9 := Q9.lt
  simp only [getS] at d0 d1
  have gy := gz.trans g9
  clear c0 c1 lB Q1 Q9 g9 gz HF
  go_wp2_with fail
  refine bodyPost_ret (v := .agg #[.int .i64 (y4).re, .int .i64 (y4).im]) ?_ rfl ⟨rfl, ?_⟩
  ·simp [results, Tryz.f81, go_sem, d0, d1]
  ·exact (gy.setCell (by first | (simp; done) | (simp; omega)) _).setCell (by first | (simp; done) | (simp; omega)) _
end
end Go.Proofs.YtablflakcaimmaaGreat
