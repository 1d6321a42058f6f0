import Derived.Test.YtdignnmpfkgkoaaGreatRealBinsS33
namespace Go.Proofs.YtdignnmpfkgkoaaGreat
set_option maxHeartbeats 16000000
section
open Go.ChangeShapes Go.WideShapes Go.ChangeAt Go.RowKit
set_option linter.unusedVariables false
set_option maxRecDepth 100000
set_option linter.unusedSimpArgs false
set_option maxHeartbeats 16000000
theorem out11_trueA : (∀ (p q0 r z y1 y2 y3 y4 b1 c1' d1 : Gi) (q bits s n mo : Int) (q0' : 0 ≤ q) (q3 : q ≤ 3) (hn : wrap64 (bits + s) = n) (HT1 : CR 80 #[.agg #[q0.re, q0.im], q] (.agg #[b1.re, b1.im])) (HS1 : CR 82 #[.agg #[p.re, p.im], .agg #[b1.re, b1.im]] (.agg #[y1.re, y1.im])) (HT2 : CR 80 #[.agg #[r.re, r.im], .int .i64 (2 * q)] (.agg #[c1'.re, c1'.im])) (HS2 : CR 82 #[.agg #[y1.re, y1.im], .agg #[c1'.re, c1'.im]] (.agg #[y2.re, y2.im])) (HT3 : CR 80 #[.agg #[z.re, z.im], .int .i64 (-q)] (.agg #[d1.re, d1.im])) (HS3 : CR 82 #[.agg #[y2.re, y2.im], .agg #[d1.re, d1.im]] (.agg #[y3.re, y3.im])) (HF : CR 85 #[.agg #[y3.re, y3.im], n, mo] (.agg #[y4.re, y4.im])) (w : World), CW 142 #[.agg #[p.re, p.im, q0.re, q0.im, r.re, r.im, z.re, z.im], q, bits, s, mo, true] w (.agg #[y4.re, y4.im])) ∧ (∀ (p q0 r z y1 y2 y3 y4 b1 c1' d1 : Gi) (q bits s n mo : Int) (q0' : 0 ≤ q) (q3 : q ≤ 3) (hn : wrap64 (bits + s) = n) (HT1 : CR 80 #[.agg #[q0.re, q0.im], .int .i64 (-q)] (.agg #[b1.re, b1.im])) (HS1 : CR 82 #[.agg #[p.re, p.im], .agg #[b1.re, b1.im]] (.agg #[y1.re, y1.im])) (HT2 : CR 80 #[.agg #[r.re, r.im], .int .i64 (2 * q)] (.agg #[c1'.re, c1'.im])) (HS2 : CR 82 #[.agg #[y1.re, y1.im], .agg #[c1'.re, c1'.im]] (.agg #[y2.re, y2.im])) (HT3 : CR 80 #[.agg #[z.re, z.im], q] (.agg #[d1.re, d1.im])) (HS3 : CR 82 #[.agg #[y2.re, y2.im], .agg #[d1.re, d1.im]] (.agg #[y3.re, y3.im])) (HF : CR 85 #[.agg #[y3.re, y3.im], n, mo] (.agg #[y4.re, y4.im])) (w : World), CW 142 #[.agg #[p.re, p.im, q0.re, q0.im, r.re, r.im, z.re, z.im], q, bits, s, mo, false] w (.agg #[y4.re, y4.im])) := by
 refine ⟨@fun p q0 r z y1 y2 y3 y4 b1 c1' d1 q bits s n mo q0' q3 hn HT1 HS1 HT2 HS2 HT3 HS3 HF w => ?_, @fun p q0 r z y1 y2 y3 y4 b1 c1' d1 q bits s n mo q0' q3 hn HT1 HS1 HT2 HS2 HT3 HS3 HF w => ?_⟩
 all_goals
  delta CW
  have hw2 : IntKind.i64.wrap (2 * q) = 2 * q := IntWalk.i64_in _ ⟨by omega, by omega⟩
  have hw3 : IntKind.i64.wrap (-q) = -q := IntWalk.i64_in _ ⟨by omega, by omega⟩
  have hw4 : IntKind.i64.wrap q = q := IntWalk.i64_in _ ⟨by omega, by omega⟩
  go_in;go_wp2_with fail
  obtain ⟨u0, hU⟩ : ∃ uu, uu = ((w.alloc (.cells #[p.re, p.im, q0.re, q0.im, r.re, r.im, z.re, z.im] 167)).alloc (.cells #[.int .i64 0, .int .i64 0] 50)) := ⟨_, rfl⟩
  have ⟨gu, R0, R1⟩ := lay2 hU;rw [← hU];clear hU
  have KS : ∀ W, Gr u0 W → (W.cell? ⟨w.heap.size, 0, none⟩ = some (.int .i64 (p).re) ∧ W.cell? ⟨w.heap.size, 1, none⟩ = some (.int .i64 (p).im) ∧ W.cell? ⟨w.heap.size, 2, none⟩ = some (.int .i64 (q0).re) ∧ W.cell? ⟨w.heap.size, 3, none⟩ = some (.int .i64 (q0).im) ∧ W.cell? ⟨w.heap.size, 4, none⟩ = some (.int .i64 (r).re) ∧ W.cell? ⟨w.heap.size, 5, none⟩ = some (.int .i64 (r).im) ∧ W.cell? ⟨w.heap.size, 6, none⟩ = some (.int .i64 (z).re) ∧ W.cell? ⟨w.heap.size, 7, none⟩ = some (.int .i64 (z).im) ∧ w.heap.size < W.heap.size) := fun W hG => ⟨(R0.gr hG).cell 0, (R0.gr hG).cell 1, (R0.gr hG).cell 2, (R0.gr hG).cell 3, (R0.gr hG).cell 4, (R0.gr hG).cell 5, (R0.gr hG).cell 6, (R0.gr hG).cell 7, Nat.lt_of_lt_of_le R0.lt hG.size⟩
  go_cut [14] from 19 to 25 (fun pv wx' => ∃ B : Nat, pv = .pointer (some ⟨B, 0, none⟩) ∧ u0.heap.size ≤ B ∧ CellsAt wx' B 50 #[y1.re, y1.im] ∧ Gr u0 wx')
  case first =>
   refine wp_region_held_drew (S := fun W => W.cell? ⟨w.heap.size, 0, none⟩ = some (.int .i64 (p).re) ∧ W.cell? ⟨w.heap.size, 1, none⟩ = some (.int .i64 (p).im) ∧ W.cell? ⟨w.heap.size, 2, none⟩ = some (.int .i64 (q0).re) ∧ W.cell? ⟨w.heap.size, 3, none⟩ = some (.int .i64 (q0).im) ∧ W.cell? ⟨w.heap.size, 4, none⟩ = some (.int .i64 (r).re) ∧ W.cell? ⟨w.heap.size, 5, none⟩ = some (.int .i64 (r).im) ∧ W.cell? ⟨w.heap.size, 6, none⟩ = some (.int .i64 (z).re) ∧ W.cell? ⟨w.heap.size, 7, none⟩ = some (.int .i64 (z).im) ∧ w.heap.size < W.heap.size) rfl (KS _ (Gr.drew (Gr.refl _))) (fun hS => ?_);refine hT 0 ?_;refine hT 1 ?_;refine hT 2 ?_;refine hT 3 ?_;refine hT 4 ?_;refine wpAnyH_ready (rs := [5, 7]) (by kernel_rfl) (by simp) ?_;refine AllReadyH.cons rfl (fun K hK => ?_) (AllReadyH.cons rfl (fun K hK => ?_) AllReadyH.nil)
   ·go_simp
    go_at_call 80
    refine (HT1.out _).mono ?_;rintro e w1 ⟨rfl, g1⟩;have x1 := (Gr.drew (Gr.refl u0)).trans g1;refine hK.out _ _ ?_ (fun hHeld => ?_)
    ·(exact KS _ x1)
    clear hK K hS;have hS := hHeld;clear hHeld
    try simp only [Act.put, putS]
    refine wpAnyH_ready (rs := [6, 7]) (by kernel_rfl) (by simp) ?_;refine AllReadyH.cons rfl (fun K hK => ?_) (AllReadyH.cons rfl (fun K hK => ?_) AllReadyH.nil)
    ·go_simp
     go_at_call 82
     refine (HS1.out _).mono ?_;rintro e w2 ⟨rfl, g2⟩;have x2 := x1.trans g2;refine hK.out _ _ ?_ (fun hHeld => ?_)
     ·(exact KS _ x2)
     clear hK K hS;have hS := hHeld;clear hHeld
     try simp only [Act.put, putS]
     refine hR 7 fun K hK => ?_
     go_simp
     have x3 := Gr.alloc (x2) #[.int .i64 0, .int .i64 0] 50
     have C3 : CellsAt (w2.alloc (.cells #[.int .i64 0, .int .i64 0] 50)) (w2.heap.size) 50 #[.int .i64 0, .int .i64 0] := CellsAt.new (w2) 50 #[.int .i64 0, .int .i64 0]
     refine hK.out _ _ ?_ (fun hHeld => ?_)
     ·(exact KS _ x3)
     clear hK K hS;have hS := hHeld;clear hHeld
     try simp only [Act.put, putS]
     have hBs : u0.heap.size ≤ w2.heap.size := by have hq := Gr.size (x2); exact hq
     refine hR 8 fun K hK => ?_
     go_simp
     have x4 := Gr.alloc (x2) #[y1.re, y1.im] 50;refine hK.out _ _ ?_ (fun hHeld => ?_)
     ·(exact KS _ x4)
     clear hK K hS;have hS := hHeld;clear hHeld
     try simp only [Act.put, putS]
     refine wpAnyH_done (by kernel_rfl) ?_ _;go_wp2_with fail
     go_meet
     case rel => exact ⟨_, rfl, hBs, CellsAt.new (w2) 50 #[y1.re, y1.im], x4⟩
    ·go_simp
     have x2 := Gr.alloc (x1) #[.int .i64 0, .int .i64 0] 50
     have C2 : CellsAt (w1.alloc (.cells #[.int .i64 0, .int .i64 0] 50)) (w1.heap.size) 50 #[.int .i64 0, .int .i64 0] := CellsAt.new (w1) 50 #[.int .i64 0, .int .i64 0]
     refine hK.out _ _ ?_ (fun hHeld => ?_)
     ·(exact KS _ x2)
     clear hK K hS;have hS := hHeld;clear hHeld
     try simp only [Act.put, putS]
     refine hR 6 fun K hK => ?_
     go_simp
     go_at_call 82
     refine (HS1.out _).mono ?_;rintro e w3 ⟨rfl, g3⟩;have x3 := x2.trans g3;have C3 := C2.gr g3;refine hK.out _ _ ?_ (fun hHeld => ?_)
     ·(exact KS _ x3)
     clear hK K hS;have hS := hHeld;clear hHeld
     try simp only [Act.put, putS]
     have lC := C3.lt;obtain ⟨fm0, fm1⟩ := C3.f2;obtain ⟨fc0, fc1⟩ := C3.t2;refine hR 8 fun K hK => ?_
     go_simp
     have hBs : u0.heap.size ≤ w1.heap.size := by have hq := Gr.size (x1); exact hq
     have x4 := Gr.setCell (Gr.setCell (x3) (a := ⟨w1.heap.size, 0, none⟩) hBs (.int .i64 (y1).re)) (a := ⟨w1.heap.size, 1, none⟩) hBs (.int .i64 (y1).im);have C4 := CellsAt.set2 (C3) (.int .i64 (y1).re) (.int .i64 (y1).im);refine hK.out _ _ ?_ (fun hHeld => ?_)
     ·(exact KS _ x4)
     clear hK K hS;have hS := hHeld;clear hHeld
     try simp only [Act.put, putS]
     refine wpAnyH_done (by kernel_rfl) ?_ _;go_wp2_with fail
     go_meet
     case rel => exact ⟨_, rfl, hBs, C4, x4⟩
   ·go_simp
    have x1 := Gr.alloc (Gr.drew (Gr.refl u0)) #[.int .i64 0, .int .i64 0] 50
    have C1 : CellsAt ((u0.drew).alloc (.cells #[.int .i64 0, .int .i64 0] 50)) (u0.heap.size) 50 #[.int .i64 0, .int .i64 0] := CellsAt.new (u0.drew) 50 #[.int .i64 0, .int .i64 0]
    refine hK.out _ _ ?_ (fun hHeld => ?_)
    ·(exact KS _ x1)
    clear hK K hS;have hS := hHeld;clear hHeld
    try simp only [Act.put, putS]
    refine hR 5 fun K hK => ?_
    go_simp
    go_at_call 80
    refine (HT1.out _).mono ?_;rintro e w2 ⟨rfl, g2⟩;have x2 := x1.trans g2;have C2 := C1.gr g2;refine hK.out _ _ ?_ (fun hHeld => ?_)
    ·(exact KS _ x2)
    clear hK K hS;have hS := hHeld;clear hHeld
    try simp only [Act.put, putS]
    refine hR 6 fun K hK => ?_
    go_simp
    go_at_call 82
    refine (HS1.out _).mono ?_;rintro e w3 ⟨rfl, g3⟩;have x3 := x2.trans g3;have C3 := C2.gr g3;refine hK.out _ _ ?_ (fun hHeld => ?_)
    ·(exact KS _ x3)
    clear hK K hS;have hS := hHeld;clear hHeld
    try simp only [Act.put, putS]
    have lC := C3.lt;obtain ⟨fm0, fm1⟩ := C3.f2;obtain ⟨fc0, fc1⟩ := C3.t2;refine hR 8 fun K hK => ?_
    go_simp
    have hBs : u0.heap.size ≤ u0.heap.size := by have hq := Gr.size (Gr.drew (Gr.refl u0)); exact hq
    have x4 := Gr.setCell (Gr.setCell (x3) (a := ⟨u0.heap.size, 0, none⟩) hBs (.int .i64 (y1).re)) (a := ⟨u0.heap.size, 1, none⟩) hBs (.int .i64 (y1).im);have C4 := CellsAt.set2 (C3) (.int .i64 (y1).re) (.int .i64 (y1).im);refine hK.out _ _ ?_ (fun hHeld => ?_)
    ·(exact KS _ x4)
    clear hK K hS;have hS := hHeld;clear hHeld
    try simp only [Act.put, putS]
    refine wpAnyH_done (by kernel_rfl) ?_ _;go_wp2_with fail
    go_meet
    case rel => exact ⟨_, rfl, hBs, C4, x4⟩
  case rest =>
   obtain ⟨B, rfl, hB, D0, gw0⟩ := hcut;go_wp2_with fail
   go_cut [] from 26 to 32 (fun wx' => CellsAt wx' B 50 #[y2.re, y2.im] ∧ Gr u0 wx')
   case first =>
    have c0 := D0.cell 0;have c1 := D0.cell 1;have lB := D0.lt;simp only [getS] at c0 c1;refine wp_region_held_drew (S := fun W => W.cell? ⟨w.heap.size, 0, none⟩ = some (.int .i64 (p).re) ∧ W.cell? ⟨w.heap.size, 1, none⟩ = some (.int .i64 (p).im) ∧ W.cell? ⟨w.heap.size, 2, none⟩ = some (.int .i64 (q0).re) ∧ W.cell? ⟨w.heap.size, 3, none⟩ = some (.int .i64 (q0).im) ∧ W.cell? ⟨w.heap.size, 4, none⟩ = some (.int .i64 (r).re) ∧ W.cell? ⟨w.heap.size, 5, none⟩ = some (.int .i64 (r).im) ∧ W.cell? ⟨w.heap.size, 6, none⟩ = some (.int .i64 (z).re) ∧ W.cell? ⟨w.heap.size, 7, none⟩ = some (.int .i64 (z).im) ∧ w.heap.size < W.heap.size) rfl (KS _ (Gr.drew gw0)) (fun hS => ?_);refine hT 1 ?_;refine hT 2 ?_;refine hT 3 ?_;refine hT 4 ?_;refine wpAnyH_ready (rs := [0, 5]) (by kernel_rfl) (by simp) ?_;refine AllReadyH.cons rfl (fun K hK => ?_) (AllReadyH.cons rfl (fun K hK => ?_) AllReadyH.nil)
    ·go_simp
     clear c0 c1 lB;refine hK.out _ _ ?_ (fun hHeld => ?_)
     ·(exact hS)
     clear hK K hS;have hS := hHeld;clear hHeld
     try simp only [Act.put, putS]
     refine hR 5 fun K hK => ?_
     go_simp
     go_at_call 80
     with_reducible refine (HT2.out _).mono ?_
     rintro e w3 ⟨rfl, g3⟩;have x3 := ((Gr.refl wc).drew).trans g3;refine hK.out _ _ ?_ (fun hHeld => ?_)
     ·(exact KS _ (gw0.trans x3))
     clear hK K hS;have hS := hHeld;clear hHeld
     try simp only [Act.put, putS]
     refine hR 6 fun K hK => ?_
     go_simp
     go_at_call 82
     with_reducible refine (HS2.out _).mono ?_
     rintro e w4 ⟨rfl, g4⟩;have x4 := x3.trans g4;have D4 := D0.gr x4;refine hK.out _ _ ?_ (fun hHeld => ?_)
     ·(exact KS _ (gw0.trans x4))
     clear hK K hS;have hS := hHeld;clear hHeld
     try simp only [Act.put, putS]
     have c0 := D4.cell 0;have c1 := D4.cell 1;obtain ⟨f0, f1⟩ := D4.f2;have lB := D4.lt;simp only [getS] at c0 c1;refine hR 7 fun K hK => ?_
     go_simp
     have D5 := CellsAt.set2 D4 (.int .i64 (y2).re) (.int .i64 (y2).im);have x5 := ((gw0.trans x4).setCell (a := ⟨B, 0, none⟩) hB (.int .i64 (y2).re)).setCell (a := ⟨B, 1, none⟩) hB (.int .i64 (y2).im);refine hK.out _ _ ?_ (fun hHeld => ?_)
     ·(exact KS _ x5)
     clear hK K hS;have hS := hHeld;clear hHeld
     try simp only [Act.put, putS]
     refine wpAnyH_done (by kernel_rfl) ?_ _;go_wp2_with fail
     go_meet
     case rel => exact ⟨D5, x5⟩
    ·go_simp
     go_at_call 80
     with_reducible refine (HT2.out _).mono ?_
     rintro e w3 ⟨rfl, g3⟩;have x3 := ((Gr.refl wc).drew).trans g3;refine hK.out _ _ ?_ (fun hHeld => ?_)
     ·(exact KS _ (gw0.trans x3))
     clear hK K hS;have hS := hHeld;clear hHeld
     try simp only [Act.put, putS]
     clear c0 c1 lB;have c0 := (D0.gr x3).cell 0;have c1 := (D0.gr x3).cell 1;have lB := (D0.gr x3).lt;simp only [getS] at c0 c1;refine hR 0 fun K hK => ?_
     go_simp
     refine hK.out _ _ ?_ (fun hHeld => ?_)
     ·(exact hS)
     clear hK K hS;have hS := hHeld;clear hHeld
     try simp only [Act.put, putS]
     clear c0 c1 lB;refine hR 6 fun K hK => ?_
     go_simp
     go_at_call 82
     with_reducible refine (HS2.out _).mono ?_
     rintro e w4 ⟨rfl, g4⟩;have x4 := x3.trans g4;have D4 := D0.gr x4;refine hK.out _ _ ?_ (fun hHeld => ?_)
     ·(exact KS _ (gw0.trans x4))
     clear hK K hS;have hS := hHeld;clear hHeld
     try simp only [Act.put, putS]
     have c0 := D4.cell 0;have c1 := D4.cell 1;obtain ⟨f0, f1⟩ := D4.f2;have lB := D4.lt;simp only [getS] at c0 c1;refine hR 7 fun K hK => ?_
     go_simp
     have D5 := CellsAt.set2 D4 (.int .i64 (y2).re) (.int .i64 (y2).im);have x5 := ((gw0.trans x4).setCell (a := ⟨B, 0, none⟩) hB (.int .i64 (y2).re)).setCell (a := ⟨B, 1, none⟩) hB (.int .i64 (y2).im);refine hK.out _ _ ?_ (fun hHeld => ?_)
     ·(exact KS _ x5)
     clear hK K hS;have hS := hHeld;clear hHeld
     try simp only [Act.put, putS]
     refine wpAnyH_done (by kernel_rfl) ?_ _;go_wp2_with fail
     go_meet
     case rel => exact ⟨D5, x5⟩
   obtain ⟨D0, gw0⟩ := (show CellsAt wc B 50 #[y2.re, y2.im] ∧ Gr u0 wc from hcut);go_wp2_with fail
   go_cut [] from 33 to 39 (fun wx' => CellsAt wx' B 50 #[y3.re, y3.im] ∧ Gr u0 wx')
   case first =>
    have c0 := D0.cell 0;have c1 := D0.cell 1;have lB := D0.lt;simp only [getS] at c0 c1;refine wp_region_held_drew (S := fun W => W.cell? ⟨w.heap.size, 0, none⟩ = some (.int .i64 (p).re) ∧ W.cell? ⟨w.heap.size, 1, none⟩ = some (.int .i64 (p).im) ∧ W.cell? ⟨w.heap.size, 2, none⟩ = some (.int .i64 (q0).re) ∧ W.cell? ⟨w.heap.size, 3, none⟩ = some (.int .i64 (q0).im) ∧ W.cell? ⟨w.heap.size, 4, none⟩ = some (.int .i64 (r).re) ∧ W.cell? ⟨w.heap.size, 5, none⟩ = some (.int .i64 (r).im) ∧ W.cell? ⟨w.heap.size, 6, none⟩ = some (.int .i64 (z).re) ∧ W.cell? ⟨w.heap.size, 7, none⟩ = some (.int .i64 (z).im) ∧ w.heap.size < W.heap.size) rfl (KS _ (Gr.drew gw0)) (fun hS => ?_);refine hT 1 ?_;refine hT 2 ?_;refine hT 3 ?_;refine hT 4 ?_;refine wpAnyH_ready (rs := [0, 5]) (by kernel_rfl) (by simp) ?_;refine AllReadyH.cons rfl (fun K hK => ?_) (AllReadyH.cons rfl (fun K hK => ?_) AllReadyH.nil)
    ·go_simp
     clear c0 c1 lB;refine hK.out _ _ ?_ (fun hHeld => ?_)
     ·(exact hS)
     clear hK K hS;have hS := hHeld;clear hHeld
     try simp only [Act.put, putS]
     refine hR 5 fun K hK => ?_
     go_simp
     go_at_call 80
     with_reducible refine (HT3.out _).mono ?_
     rintro e w3 ⟨rfl, g3⟩;have x3 := ((Gr.refl wc).drew).trans g3;refine hK.out _ _ ?_ (fun hHeld => ?_)
     ·(exact KS _ (gw0.trans x3))
     clear hK K hS;have hS := hHeld;clear hHeld
     try simp only [Act.put, putS]
     refine hR 6 fun K hK => ?_
     go_simp
     go_at_call 82
     with_reducible refine (HS3.out _).mono ?_
     rintro e w4 ⟨rfl, g4⟩;have x4 := x3.trans g4;have D4 := D0.gr x4;refine hK.out _ _ ?_ (fun hHeld => ?_)
     ·(exact KS _ (gw0.trans x4))
     clear hK K hS;have hS := hHeld;clear hHeld
     try simp only [Act.put, putS]
     have c0 := D4.cell 0;have c1 := D4.cell 1;obtain ⟨f0, f1⟩ := D4.f2;have lB := D4.lt;simp only [getS] at c0 c1;refine hR 7 fun K hK => ?_
     go_simp
     have D5 := CellsAt.set2 D4 (.int .i64 (y3).re) (.int .i64 (y3).im);have x5 := ((gw0.trans x4).setCell (a := ⟨B, 0, none⟩) hB (.int .i64 (y3).re)).setCell (a := ⟨B, 1, none⟩) hB (.int .i64 (y3).im);refine hK.out _ _ ?_ (fun hHeld => ?_)
     ·(exact KS _ x5)
     clear hK K hS;have hS := hHeld;clear hHeld
     try simp only [Act.put, putS]
     refine wpAnyH_done (by kernel_rfl) ?_ _;go_wp2_with fail
     go_meet
     case rel => exact ⟨D5, x5⟩
    ·go_simp
     go_at_call 80
     with_reducible refine (HT3.out _).mono ?_
     rintro e w3 ⟨rfl, g3⟩;have x3 := ((Gr.refl wc).drew).trans g3;refine hK.out _ _ ?_ (fun hHeld => ?_)
     ·(exact KS _ (gw0.trans x3))
     clear hK K hS;have hS := hHeld;clear hHeld
     try simp only [Act.put, putS]
     clear c0 c1 lB;have c0 := (D0.gr x3).cell 0;have c1 := (D0.gr x3).cell 1;have lB := (D0.gr x3).lt;simp only [getS] at c0 c1;refine hR 0 fun K hK => ?_
     go_simp
     refine hK.out _ _ ?_ (fun hHeld => ?_)
     ·(exact hS)
     clear hK K hS;have hS := hHeld;clear hHeld
     try simp only [Act.put, putS]
     clear c0 c1 lB;refine hR 6 fun K hK => ?_
     go_simp
     go_at_call 82
     with_reducible refine (HS3.out _).mono ?_
     rintro e w4 ⟨rfl, g4⟩;have x4 := x3.trans g4;have D4 := D0.gr x4;refine hK.out _ _ ?_ (fun hHeld => ?_)
     ·(exact KS _ (gw0.trans x4))
     clear hK K hS;have hS := hHeld;clear hHeld
     try simp only [Act.put, putS]
     have c0 := D4.cell 0;have c1 := D4.cell 1;obtain ⟨f0, f1⟩ := D4.f2;have lB := D4.lt;simp only [getS] at c0 c1;refine hR 7 fun K hK => ?_
     go_simp
     have D5 := CellsAt.set2 D4 (.int .i64 (y3).re) (.int .i64 (y3).im);have x5 := ((gw0.trans x4).setCell (a := ⟨B, 0, none⟩) hB (.int .i64 (y3).re)).setCell (a := ⟨B, 1, none⟩) hB (.int .i64 (y3).im);refine hK.out _ _ ?_ (fun hHeld => ?_)
     ·(exact KS _ x5)
     clear hK K hS;have hS := hHeld;clear hHeld
     try simp only [Act.put, putS]
     refine wpAnyH_done (by kernel_rfl) ?_ _;go_wp2_with fail
     go_meet
     case rel => exact ⟨D5, x5⟩
   obtain ⟨D0, gw0⟩ := (show CellsAt wc B 50 #[y3.re, y3.im] ∧ Gr u0 wc from hcut);have c0 := D0.cell 0;have c1 := D0.cell 1;have lB := D0.lt;simp only [getS] at c0 c1;have Q1 := R1.gr gw0;have gz := gu.trans gw0;clear R0 R1 KS HT1 HS1 HT2 HS2 HT3 HS3 gw0 gu D0 hB hw2 hw3 hw4;go_wp2_with fail;refine (HF.out _).mono ?_;rintro e w9 ⟨rfl, g9⟩;have Q9 := Q1.gr g9;have d0 := Q9.cell 0;have d1 := Q9.cell 1;obtain ⟨m0, m1⟩ := Q9.f2;have l9 := Q9.lt;simp only [getS] at d0 d1;have gy := gz.trans g9;clear c0 c1 lB Q1 Q9 g9 gz HF;go_wp2_with fail;refine bodyPost_ret (v := .agg #[y4.re, y4.im]) ?_ rfl ⟨rfl, ?_⟩
   ·simp [results, Tryz.f142, go_sem, d0, d1]
   ·exact (gy.setCell (by first | (simp; done) | (simp; omega)) _).setCell (by first | (simp; done) | (simp; omega)) _
theorem prods11_c (a b c d u v x : Gi) (bits : Nat) (hb : bits ≤ 29) (ha : Bd 2147483648 a) (hbb : Bd 2147483648 b) (hc : Bd 2147483648 c) (hd : Bd 2147483648 d) (hu : Bd (2 ^ bits) u) (hv : Bd (2 ^ bits) v) (hx : Bd (2 ^ bits) x) (w : World) :
 CW 141 #[.agg #[a.re, a.im], .agg #[b.re, b.im], .agg #[c.re, c.im], .agg #[d.re, d.im], .agg #[u.re, u.im], .agg #[v.re, v.im], .agg #[x.re, x.im], bits] w (.agg #[(gscale bits a).re, (gscale bits a).im, (gmul b u).re, (gmul b u).im, (gmul c v).re, (gmul c v).im, (gmul d x).re, (gmul d x).im]) :=by
 delta CW
 have l : ∀ y, Bd (2 ^ bits) y → absI y.re ≤ 1073741824 ∧ absI y.im ≤ 1073741824 := by
  intro y hy
  have h1 : (2 : Nat) ^ bits ≤ 2 ^ 29 := Nat.pow_le_pow_right (by decide) hb
  have h2 : ((2 ^ bits : Nat) : Int) ≤ ((2 ^ 29 : Nat) : Int) := Int.ofNat_le.2 h1
  rw [Int.natCast_pow] at h2
  simp at h2
  exact hy.mono (by omega)
 have hs := (ha.scale bits).le
 have h1 : (2 : Nat) ^ bits ≤ 2 ^ 29 := Nat.pow_le_pow_right (by decide) hb
 have h2 : ((2 ^ bits : Nat) : Int) ≤ ((2 ^ 29 : Nat) : Int) := Int.ofNat_le.2 h1
 rw [Int.natCast_pow] at h2
 simp at h2
 have hs' : (-1152921504606846976 ≤ a.re * 2 ^ bits ∧ a.re * 2 ^ bits ≤ 1152921504606846976) ∧ -1152921504606846976 ≤ a.im * 2 ^ bits ∧ a.im * 2 ^ bits ≤ 1152921504606846976 := by
  unfold gscale at hs
  simp only at hs
  omega
 exact prods11_of a b c d u v x (gscale bits a) (gmul b u) (gmul c v) (gmul d x) bits
  (kh (scale10_c a.re a.im bits _ _ _ hb rfl (IntWalk.wrap64_in _ (by omega)) (IntWalk.wrap64_in _ (by omega))))
  (kh (rtimes_gi b u hbb (l u hu))) (kh (rtimes_gi c v hc (l v hv))) (kh (rtimes_gi d x hd (l x hx))) w
theorem out11_c (t0 t1 t2 t3 : Gi) (q bits s : Nat) (mo : Int) (inv : Bool) (hq : q < 4) (hb : bits ≤ 29) (hs : s ≤ 3) (m0 : 0 ≤ mo) (m1 : mo ≤ 2) (h0 : Bd 1152921504606846976 t0) (h1 : Bd 2305843009213693952 t1) (h2 : Bd 2305843009213693952 t2) (h3 : Bd 2305843009213693952 t3) (w : World) :
 CW 142 #[.agg #[t0.re, t0.im, t1.re, t1.im, t2.re, t2.im, t3.re, t3.im], (q : Int), bits, s, mo, inv] w (.agg #[(grnd (bits + s) mo (quadSum inv q t0 t1 t2 t3)).re, (grnd (bits + s) mo (quadSum inv q t0 t1 t2 t3)).im]) :=by
 delta CW
 have hn : wrap64 ((bits : Int) + s) = ((bits + s : Nat) : Int) := by rw [IntWalk.wrap64_in _ (by omega)]; omega
 have HT : ∀ (t : Gi) (k : Int), Bd 2305843009213693952 t → ∀ W, Calls Tryz.prog 80 #[.agg #[t.re, t.im], k] W fun e w' => e = .returned (.agg #[(Gi.turn k t).re, (Gi.turn k t).im]) ∧ Gr W w' := fun t k h W => by
  have := h.le
  exact rturn_gi t k (by omega) W
 have b1 := h0.add (h1.turn (turns1 inv q))
 have b2 := b1.add (h2.turn (2 * q))
 have b3 := b2.add (h3.turn (-(turns1 inv q)))
 have HS : ∀ (a b : Gi) (l : Int), Bd l (gadd a b) → l ≤ 9223372036854775807 → ∀ W, Calls Tryz.prog 82 #[.agg #[a.re, a.im], .agg #[b.re, b.im]] W fun e w' => e = .returned (.agg #[(gadd a b).re, (gadd a b).im]) ∧ Gr W w' := fun a b l h hl W => by
  have := h.le
  exact rsum_gi a b (by unfold gadd at this; simp only at this; omega) (by unfold gadd at this; simp only at this; omega) W
 have HF := fun W => rshift03_gi (quadSum inv q t0 t1 t2 t3) (bits + s) mo (by have := Bd.le b3; unfold quadSum; omega) (by omega) m0 m1 W
 cases inv
 ·refine out11_trueA.2 t0 t1 t2 t3 (gadd t0 (Gi.turn (-(q : Int)) t1)) (gadd (gadd t0 (Gi.turn (-(q : Int)) t1)) (Gi.turn (2 * q) t2)) (gadd (gadd (gadd t0 (Gi.turn (-(q : Int)) t1)) (Gi.turn (2 * q) t2)) (Gi.turn q t3)) _ (Gi.turn (-(q : Int)) t1) (Gi.turn (2 * q) t2) (Gi.turn q t3) q bits s _ mo (by omega) (by omega) hn
   (kh (HT t1 _ h1)) (kh (HS _ _ _ b1 (by omega))) (kh (HT t2 _ h2)) (kh (HS _ _ _ b2 (by omega))) (kh (HT t3 _ h3)) (kh (HS _ _ _ ?_ (Int.le_refl _))) (kh ?_) w
  ·simp only [turns1, Bool.false_eq_true, if_false, Int.neg_neg] at b3
   exact Bd.mono b3 (by omega)
  ·have := HF
   simp only [quadSum, turns1, Bool.false_eq_true, if_false, Int.neg_neg] at this ⊢
   exact this
 ·refine out11_trueA.1 t0 t1 t2 t3 (gadd t0 (Gi.turn (q : Int) t1)) (gadd (gadd t0 (Gi.turn (q : Int) t1)) (Gi.turn (2 * q) t2)) (gadd (gadd (gadd t0 (Gi.turn (q : Int) t1)) (Gi.turn (2 * q) t2)) (Gi.turn (-(q : Int)) t3)) _ (Gi.turn (q : Int) t1) (Gi.turn (2 * q) t2) (Gi.turn (-(q : Int)) t3) q bits s _ mo (by omega) (by omega) hn
   (kh (HT t1 _ h1)) (kh (HS _ _ _ b1 (by omega))) (kh (HT t2 _ h2)) (kh (HS _ _ _ b2 (by omega))) (kh (HT t3 _ h3)) (kh (HS _ _ _ b3 (by omega))) (kh HF) w
end
end Go.Proofs.YtdignnmpfkgkoaaGreat
