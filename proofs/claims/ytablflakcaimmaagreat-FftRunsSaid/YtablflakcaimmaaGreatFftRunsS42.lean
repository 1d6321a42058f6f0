import Derived.Deep.Cut
import Derived.Deep.CutRange
import Derived.Test.YtablflakcaimmaaGreatFftRunsS14
namespace Go.Proofs.YtablflakcaimmaaGreat
section
open Go.ChangeShapes Go.WideShapes Go.ChangeAt Go.RowKit
set_option linter.unusedVariables false
set_option maxRecDepth 100000
set_option maxHeartbeats 8000000 in
theorem tPair_of (ax ay bx by0 wx wy b s mo P n p0 p1 q0 q1 t0 t1 d0 d1 r0 r1 z0 z1 : Int) (hP : IntKind.i64.wrap (2 ^ min b.toNat 64) = P) (hb0 : 0 ≤ b)
 (HD : CR 147 #[.agg #[.int .i64 b, .int .i64 s, .int .i64 mo]] (.int .i64 n))
 (HM : CR 146 #[.agg #[.int .i64 ax, .int .i64 ay], .agg #[.int .i64 P, .int .i64 0]] (.tuple #[.agg #[.int .i64 p0, .int .i64 p1], .int .i64 0]))
 (HT : CR 146 #[.agg #[.int .i64 bx, .int .i64 by0], .agg #[.int .i64 wx, .int .i64 wy]] (.tuple #[.agg #[.int .i64 q0, .int .i64 q1], .int .i64 0]))
 (HU : CR 134 #[.agg #[.int .i64 p0, .int .i64 p1], .agg #[.int .i64 q0, .int .i64 q1]] (.tuple #[.agg #[.int .i64 t0, .int .i64 t1], .int .i64 0]))
 (HL : CR 135 #[.agg #[.int .i64 p0, .int .i64 p1], .agg #[.int .i64 q0, .int .i64 q1]] (.tuple #[.agg #[.int .i64 d0, .int .i64 d1], .int .i64 0]))
 (HF : CR 86 #[.agg #[.int .i64 t0, .int .i64 t1], .int .i64 n, .int .i64 mo] (.tuple #[.agg #[.int .i64 r0, .int .i64 r1], .int .i64 0]))
 (HG : CR 86 #[.agg #[.int .i64 d0, .int .i64 d1], .int .i64 n, .int .i64 mo] (.tuple #[.agg #[.int .i64 z0, .int .i64 z1], .int .i64 0])) (w : World) :
 CW 119 #[.agg #[.int .i64 b, .int .i64 s, .int .i64 mo], .agg #[.int .i64 ax, .int .i64 ay], .agg #[.int .i64 bx, .int .i64 by0], .agg #[.int .i64 wx, .int .i64 wy]] w (.tuple #[.agg #[.int .i64 r0, .int .i64 r1], .agg #[.int .i64 z0, .int .i64 z1]]) :=by
 delta CW
 go_enter Tryz.func119, Tryz.ntmps119
 go_wp2_with fail
 obtain ⟨u0, hU⟩ : ∃ u, u = ((((((w.alloc (.cells #[.int .i64 b, .int .i64 s, .int .i64 mo] 158)).alloc (.cells #[.int .i64 ax, .int .i64 ay] 55)).alloc (.cells #[.int .i64 bx, .int .i64 by0] 55)).alloc (.cells #[.int .i64 wx, .int .i64 wy] 55)).alloc (.cells #[.int .i64 0, .int .i64 0] 55)).alloc (.cells #[.int .i64 0, .int .i64 0] 55)) := ⟨_, rfl⟩
 have gu : Gr w u0 := by rw [hU]; exact ((((((Gr.refl w).alloc _ _).alloc _ _).alloc _ _).alloc _ _).alloc _ _).alloc _ _
 have zu : w.heap.size + 1 + 1 + 1 + 1 + 1 < u0.heap.size := by rw [hU]; simp
 have R0 : CellsAt u0 (w.heap.size) 158 #[.int .i64 b, .int .i64 s, .int .i64 mo] := by
  rw [hU]
  have := ((((((CellsAt.new w 158 #[.int .i64 b, .int .i64 s, .int .i64 mo]).alloc (.cells #[.int .i64 ax, .int .i64 ay] 55)).alloc (.cells #[.int .i64 bx, .int .i64 by0] 55)).alloc (.cells #[.int .i64 wx, .int .i64 wy] 55)).alloc (.cells #[.int .i64 0, .int .i64 0] 55)).alloc (.cells #[.int .i64 0, .int .i64 0] 55))
  simpa only [World.size_alloc] using this
 have R1 : CellsAt u0 (w.heap.size + 1) 55 #[.int .i64 ax, .int .i64 ay] := by
  rw [hU]
  have := (((((CellsAt.new (w.alloc (.cells #[.int .i64 b, .int .i64 s, .int .i64 mo] 158)) 55 #[.int .i64 ax, .int .i64 ay]).alloc (.cells #[.int .i64 bx, .int .i64 by0] 55)).alloc (.cells #[.int .i64 wx, .int .i64 wy] 55)).alloc (.cells #[.int .i64 0, .int .i64 0] 55)).alloc (.cells #[.int .i64 0, .int .i64 0] 55))
  simpa only [World.size_alloc] using this
 have R2 : CellsAt u0 (w.heap.size + 1 + 1) 55 #[.int .i64 bx, .int .i64 by0] := by
  rw [hU]
  have := ((((CellsAt.new ((w.alloc (.cells #[.int .i64 b, .int .i64 s, .int .i64 mo] 158)).alloc (.cells #[.int .i64 ax, .int .i64 ay] 55)) 55 #[.int .i64 bx, .int .i64 by0]).alloc (.cells #[.int .i64 wx, .int .i64 wy] 55)).alloc (.cells #[.int .i64 0, .int .i64 0] 55)).alloc (.cells #[.int .i64 0, .int .i64 0] 55))
  simpa only [World.size_alloc] using this
 have R3 : CellsAt u0 (w.heap.size + 1 + 1 + 1) 55 #[.int .i64 wx, .int .i64 wy] := by
  rw [hU]
  have := (((CellsAt.new (((w.alloc (.cells #[.int .i64 b, .int .i64 s, .int .i64 mo] 158)).alloc (.cells #[.int .i64 ax, .int .i64 ay] 55)).alloc (.cells #[.int .i64 bx, .int .i64 by0] 55)) 55 #[.int .i64 wx, .int .i64 wy]).alloc (.cells #[.int .i64 0, .int .i64 0] 55)).alloc (.cells #[.int .i64 0, .int .i64 0] 55))
  simpa only [World.size_alloc] using this
 have R4 : CellsAt u0 (w.heap.size + 1 + 1 + 1 + 1) 55 #[.int .i64 0, .int .i64 0] := by
  rw [hU]
  have := ((CellsAt.new ((((w.alloc (.cells #[.int .i64 b, .int .i64 s, .int .i64 mo] 158)).alloc (.cells #[.int .i64 ax, .int .i64 ay] 55)).alloc (.cells #[.int .i64 bx, .int .i64 by0] 55)).alloc (.cells #[.int .i64 wx, .int .i64 wy] 55)) 55 #[.int .i64 0, .int .i64 0]).alloc (.cells #[.int .i64 0, .int .i64 0] 55))
  simpa only [World.size_alloc] using this
 have R5 : CellsAt u0 (w.heap.size + 1 + 1 + 1 + 1 + 1) 55 #[.int .i64 0, .int .i64 0] := by
  rw [hU]
  have := (CellsAt.new (((((w.alloc (.cells #[.int .i64 b, .int .i64 s, .int .i64 mo] 158)).alloc (.cells #[.int .i64 ax, .int .i64 ay] 55)).alloc (.cells #[.int .i64 bx, .int .i64 by0] 55)).alloc (.cells #[.int .i64 wx, .int .i64 wy] 55)).alloc (.cells #[.int .i64 0, .int .i64 0] 55)) 55 #[.int .i64 0, .int .i64 0])
  simpa only [World.size_alloc] using this
 rw [← hU]
 clear hU
 have zz0 : w.heap.size < u0.heap.size := by omega
 have zz1 : w.heap.size + 1 < u0.heap.size := by omega
 have zz2 : w.heap.size + 1 + 1 < u0.heap.size := by omega
 have zz3 : w.heap.size + 1 + 1 + 1 < u0.heap.size := by omega
 have zz4 : w.heap.size + 1 + 1 + 1 + 1 < u0.heap.size := by omega
 have zz5 : w.heap.size + 1 + 1 + 1 + 1 + 1 < u0.heap.size := by omega
 have e0 := R0.cell 0
 have e1 := R0.cell 1
 have e2 := R0.cell 2
 have e3 := R1.cell 0
 have e4 := R1.cell 1
 simp only [getS] at e0 e1 e2 e3 e4
 have KS : ∀ W, Gr u0 W → (W.cell? ⟨w.heap.size, 0, none⟩ = some (.int .i64 b) ∧ W.cell? ⟨w.heap.size + 1, 0, none⟩ = some (.int .i64 ax) ∧ W.cell? ⟨w.heap.size + 1, 1, none⟩ = some (.int .i64 ay) ∧ Gr u0 W) := fun W hG => ⟨(hG.cell (p := ⟨w.heap.size, 0, none⟩) zz0).trans e0, (hG.cell (p := ⟨w.heap.size + 1, 0, none⟩) zz1).trans e3, (hG.cell (p := ⟨w.heap.size + 1, 1, none⟩) zz1).trans e4, hG⟩
 have H0 := Lib.hid R0
 have H1 := Lib.hid R1
 have H2 := Lib.hid R2
 have H3 := Lib.hid R3
 have H4 := Lib.hid R4
 have H5 := Lib.hid R5
 clear R0 R1 R2 R3 R4 R5
 go_cut [10] from 11 to 26 (fun pv wx1 => ∃ B : Nat, pv = .pointer (some ⟨B, 0, none⟩) ∧ u0.heap.size ≤ B ∧ CellsAt wx1 B 55 #[.int .i64 p0, .int .i64 p1] ∧ Gr u0 wx1)
 case first =>
  go_region_held3 (fun W => W.cell? ⟨w.heap.size, 0, none⟩ = some (.int .i64 b) ∧ W.cell? ⟨w.heap.size + 1, 0, none⟩ = some (.int .i64 ax) ∧ W.cell? ⟨w.heap.size + 1, 1, none⟩ = some (.int .i64 ay) ∧ Gr u0 W)
   (first | ((try go_split_ands); refine KS _ ?_; (first | assumption | exact Gr.refl _ | exact Gr.drew (Gr.refl _) | exact Gr.drew (by assumption) | exact Gr.alloc (by assumption) _ _ | exact Gr.alloc (Gr.refl _) _ _ | exact Gr.alloc (Gr.drew (Gr.refl _)) _ _ | exact Gr.drew (Gr.alloc (Gr.refl _) _ _) | exact Gr.drew (Gr.alloc (by assumption) _ _) | (exact Gr.setCell (Gr.setCell (by assumption) (by exact Gr.size (by assumption)) _) (by exact Gr.size (by assumption)) _) | (exact Gr.setCell (Gr.setCell (by assumption) (by exact Nat.le_refl _) _) (by exact Nat.le_refl _) _) | (exact Gr.setCell (Gr.setCell (Gr.alloc (by assumption) _ _) (by exact Gr.size (by assumption)) _) (by exact Gr.size (by assumption)) _))))
   (first | (go_at_call 146; go_split_ands; ((with_reducible refine (HM.out _).mono ?_); rintro e w' ⟨rfl, hg⟩; have hgw : Gr u0 w' := Gr.trans (by first | assumption | exact Gr.refl _ | exact Gr.drew (Gr.refl _) | exact Gr.drew (by assumption) | exact Gr.alloc (by assumption) _ _ | exact Gr.alloc (Gr.refl _) _ _ | exact Gr.alloc (Gr.drew (Gr.refl _)) _ _ | exact Gr.drew (Gr.alloc (Gr.refl _) _ _) | exact Gr.drew (Gr.alloc (by assumption) _ _)) hg; (first | (have hbk := CxBlock.gr (CxBlock.new _ _ _) hg; obtain ⟨x, y, r2⟩ := hbk.out; have c0 := r2.cell 0; have c1 := r2.cell 1; have f0 := r2.frozen 0; have f1 := r2.frozen 1; simp only [getS] at c0 c1) | (have hbk := CxBlock.gr (CxBlock.drew (CxBlock.new _ _ _)) hg; obtain ⟨x, y, r2⟩ := hbk.out; have c0 := r2.cell 0; have c1 := r2.cell 1; have f0 := r2.frozen 0; have f1 := r2.frozen 1; simp only [getS] at c0 c1) | (have hbk := CxBlock.gr ‹CxBlock _ _› hg; obtain ⟨x, y, r2⟩ := hbk.out; have c0 := r2.cell 0; have c1 := r2.cell 1; have f0 := r2.frozen 0; have f1 := r2.frozen 1; simp only [getS] at c0 c1) | (have hbk := CxBlock.gr (CxBlock.drew ‹CxBlock _ _›) hg; obtain ⟨x, y, r2⟩ := hbk.out; have c0 := r2.cell 0; have c1 := r2.cell 1; have f0 := r2.frozen 0; have f1 := r2.frozen 1; simp only [getS] at c0 c1) | skip))))
  all_goals
   go_wp2_with fail
   go_meet
   case rel =>
    refine ⟨_, rfl, ?_, ?_, ?_⟩
    ·first | exact Nat.le_refl _ | exact Gr.size (by assumption)
    ·first | exact CellsAt.new _ _ _ | exact (CellsAt.set (CellsAt.set (by assumption) 0 _) 1 _) | exact (CellsAt.set (CellsAt.set (CellsAt.new _ _ _) 0 _) 1 _)
    ·(try go_split_ands); assumption
 case rest =>
  obtain ⟨B, rfl, hB, hC, hG⟩ := hcut
  clear KS e0 e1 e2 e3 e4 HM hP
  have c2 := (H2.out.gr hG).cell 0
  have c3 := (H2.out.gr hG).cell 1
  have c4 := (H3.out.gr hG).cell 0
  have c5 := (H3.out.gr hG).cell 1
  have zG := hG.size
  simp only [getS] at c2 c3 c4 c5
  go_wp2_with fail
  refine (HT.out _).mono ?_
  rintro e w2 ⟨rfl, g2⟩
  have hC2 := hC.gr g2
  have hG2 := hG.trans g2
  have b0 := hC2.cell 0
  have b1 := hC2.cell 1
  have bl := hC2.lt
  simp only [getS] at b0 b1
  clear hC c2 c3 c4 c5 hG g2
  go_wp2_with fail
  have hD3 := CellsAt.new w2 55 #[.int .i64 q0, .int .i64 q1]
  have hC3 := hC2.alloc (.cells #[.int .i64 q0, .int .i64 q1] 55)
  have hG3 := hG2.alloc #[.int .i64 q0, .int .i64 q1] 55
  refine (HU.out _).mono ?_
  rintro e w4 ⟨rfl, g4⟩
  have hD4 := hD3.gr g4
  have hC4 := hC3.gr g4
  have hG4 := hG3.trans g4
  have b0' := hC4.cell 0
  have b1' := hC4.cell 1
  have bl' := hC4.lt
  have a0 := hD4.cell 0
  have a1 := hD4.cell 1
  have al := hD4.lt
  simp only [getS] at b0' b1' a0 a1
  clear hC2 hG2 hD3 hC3 hG3 g4 b0 b1 bl
  go_wp2_with fail
  have hE5 := CellsAt.new w4 55 #[.int .i64 t0, .int .i64 t1]
  have hG5 := hG4.alloc #[.int .i64 t0, .int .i64 t1] 55
  refine (HL.out _).mono ?_
  rintro e w6 ⟨rfl, g6⟩
  have hE6 := hE5.gr g6
  have hG6 := hG5.trans g6
  obtain ⟨B4, hB4⟩ : ∃ B, w4.heap.size = B := ⟨_, rfl⟩
  have zq4 := hG4.size
  have zq6 := hG6.size
  have B4l := hE6.lt
  have g7 := (gu.trans hG6).alloc #[.int .i64 d0, .int .i64 d1] 55
  have hE7 := hE6.alloc (.cells #[.int .i64 d0, .int .i64 d1] 55)
  have hF7 := CellsAt.new w6 55 #[.int .i64 d0, .int .i64 d1]
  have HSa := Lib.hid ((H0.out.gr hG6).alloc (.cells #[.int .i64 d0, .int .i64 d1] 55))
  have H4a := Lib.hid ((H4.out.gr hG6).alloc (.cells #[.int .i64 d0, .int .i64 d1] 55))
  have H5a := Lib.hid ((H5.out.gr hG6).alloc (.cells #[.int .i64 d0, .int .i64 d1] 55))
  clear hE5 hG5 g6 hC4 hD4 hG4 b0' b1' a0 a1 al bl' hE6 hG6 HT HU HL H0 H1 H2 H3 H4 H5
  go_wp2_with fail
  obtain ⟨B6, hB6⟩ : ∃ B, w6.heap.size = B := ⟨_, rfl⟩
  have hB46 : B4 < B6 := by rw [← hB4, ← hB6]; exact B4l
  have hBw : u0.heap.size ≤ B4 := by rw [← hB4]; exact zq4
  rw [hB4] at hE7
  rw [hB6] at hF7
  clear B4l zq4 zq6
  try rw [hB4]
  try rw [hB6]
  generalize w6.alloc (.cells #[.int .i64 d0, .int .i64 d1] 55) = ua at *
  clear hB4 hB6
  have f0 := hE7.cell 0
  have f1 := hE7.cell 1
  have fl := hE7.lt
  have s0 := HSa.out.cell 0
  have s1 := HSa.out.cell 1
  have s2 := HSa.out.cell 2
  simp only [getS] at f0 f1 s0 s1 s2
  have HE := Lib.hid hE7
  have HO := Lib.hid hF7
  go_cut [] from 45 to 53 (fun wx => CellsAt wx B4 55 #[.int .i64 r0, .int .i64 r1] ∧ CellsAt wx B6 55 #[.int .i64 d0, .int .i64 d1] ∧ CellsAt wx w.heap.size 158 #[.int .i64 b, .int .i64 s, .int .i64 mo] ∧ CellsAt wx (w.heap.size + 1 + 1 + 1 + 1) 55 #[.int .i64 0, .int .i64 0] ∧ CellsAt wx (w.heap.size + 1 + 1 + 1 + 1 + 1) 55 #[.int .i64 0, .int .i64 0] ∧ Gr w wx)
  case first =>
   go_region_with (first | (go_at_call 147; refine (HD.out _).mono ?_; rintro e w' ⟨rfl, hg⟩; have hgw : Gr ua w' := Gr.trans (Gr.drew (Gr.refl _)) hg; have q0 := (hgw.cell (p := ⟨B4, 0, none⟩) fl).trans f0; have q1 := (hgw.cell (p := ⟨B4, 1, none⟩) fl).trans f1; have q2 := (hgw.cell (p := ⟨w.heap.size, 2, none⟩) HSa.out.lt).trans s2) | (go_at_call 86; refine (HF.out _).mono ?_; rintro e w' ⟨rfl, hg⟩; have hgw2 : Gr ua w' := Gr.trans (by assumption) hg; have hbk := HE.out.gr hgw2; have c0 := hbk.cell 0; have c1 := hbk.cell 1; have m0 := hbk.frozen 0; have m1 := hbk.frozen 1; have ml := hbk.lt; simp only [getS] at c0 c1))
   all_goals
    go_wp2_with fail
    go_meet
    case rel =>
     exact ⟨CellsAt.set (CellsAt.set (HE.out.gr hgw2) 0 _) 1 _, CellsAt.other (CellsAt.other (HO.out.gr hgw2) (by omega) 0 _) (by omega) 1 _, CellsAt.other (CellsAt.other (HSa.out.gr hgw2) (by omega) 0 _) (by omega) 1 _, CellsAt.other (CellsAt.other (H4a.out.gr hgw2) (by omega) 0 _) (by omega) 1 _, CellsAt.other (CellsAt.other (H5a.out.gr hgw2) (by omega) 0 _) (by omega) 1 _, Gr.setCell (Gr.setCell (g7.trans hgw2) (by simp; omega) _) (by simp; omega) _⟩
  case rest =>
   clear HE HO HSa H4a H5a s0 s1 s2 f0 f1 fl hE7 hF7 HF g7
   obtain ⟨hE8, hF8, hS8, h48, h58, g8⟩ := hcut
   have HSb := Lib.hid hS8
   have H4b := Lib.hid h48
   have H5b := Lib.hid h58
   clear hS8 h48 h58
   go_wp2_with fail
   have f0 := hF8.cell 0
   have f1 := hF8.cell 1
   have fl := hF8.lt
   have s0 := HSb.out.cell 0
   have s1 := HSb.out.cell 1
   have s2 := HSb.out.cell 2
   simp only [getS] at f0 f1 s0 s1 s2
   have HE := Lib.hid hF8
   have HO := Lib.hid hE8
   go_cut [] from 54 to 62 (fun wx => CellsAt wx B6 55 #[.int .i64 z0, .int .i64 z1] ∧ CellsAt wx B4 55 #[.int .i64 r0, .int .i64 r1] ∧ CellsAt wx w.heap.size 158 #[.int .i64 b, .int .i64 s, .int .i64 mo] ∧ CellsAt wx (w.heap.size + 1 + 1 + 1 + 1) 55 #[.int .i64 0, .int .i64 0] ∧ CellsAt wx (w.heap.size + 1 + 1 + 1 + 1 + 1) 55 #[.int .i64 0, .int .i64 0] ∧ Gr w wx)
   case first =>
    go_region_with (first | (go_at_call 147; refine (HD.out _).mono ?_; rintro e w' ⟨rfl, hg⟩; have hgw : Gr wc w' := Gr.trans (Gr.drew (Gr.refl _)) hg; have q0 := (hgw.cell (p := ⟨B6, 0, none⟩) fl).trans f0; have q1 := (hgw.cell (p := ⟨B6, 1, none⟩) fl).trans f1; have q2 := (hgw.cell (p := ⟨w.heap.size, 2, none⟩) HSb.out.lt).trans s2) | (go_at_call 86; refine (HG.out _).mono ?_; rintro e w' ⟨rfl, hg⟩; have hgw2 : Gr wc w' := Gr.trans (by assumption) hg; have hbk := HE.out.gr hgw2; have c0 := hbk.cell 0; have c1 := hbk.cell 1; have m0 := hbk.frozen 0; have m1 := hbk.frozen 1; have ml := hbk.lt; simp only [getS] at c0 c1))
    all_goals
     go_wp2_with fail
     go_meet
     case rel =>
      exact ⟨CellsAt.set (CellsAt.set (HE.out.gr hgw2) 0 _) 1 _, CellsAt.other (CellsAt.other (HO.out.gr hgw2) (by omega) 0 _) (by omega) 1 _, CellsAt.other (CellsAt.other (HSb.out.gr hgw2) (by omega) 0 _) (by omega) 1 _, CellsAt.other (CellsAt.other (H4b.out.gr hgw2) (by omega) 0 _) (by omega) 1 _, CellsAt.other (CellsAt.other (H5b.out.gr hgw2) (by omega) 0 _) (by omega) 1 _, Gr.setCell (Gr.setCell (g8.trans hgw2) (by simp; omega) _) (by simp; omega) _⟩
   case rest =>
    clear HE HO HSb H4b H5b s0 s1 s2 f0 f1 fl hE8 hF8 HG g8
    obtain ⟨hF9, hE9, hS9, h49, h59, g9⟩ := hcut
    have k0 := hF9.cell 0
    have k1 := hF9.cell 1
    have k2 := hE9.cell 0
    have k3 := hE9.cell 1
    have k4 := h49.cell 0
    have k5 := h49.cell 1
    have k6 := h59.cell 0
    have k7 := h59.cell 1
    have m4 := h49.frozen 0
    have m5 := h49.frozen 1
    have m6 := h59.frozen 0
    have m7 := h59.frozen 1
    have l4 := h49.lt
    have l5 := h59.lt
    simp only [getS] at k0 k1 k2 k3 k4 k5 k6 k7
    have ne1 : ¬ B6 = w.heap.size + 1 + 1 + 1 + 1 := by omega
    have ne2 : ¬ B6 = w.heap.size + 1 + 1 + 1 + 1 + 1 := by omega
    have ne3 : ¬ B4 = w.heap.size + 1 + 1 + 1 + 1 := by omega
    have ne4 : ¬ B4 = w.heap.size + 1 + 1 + 1 + 1 + 1 := by omega
    clear hF9 hE9 hS9 zu zz0 zz1 zz2 zz3 zz4 zz5 hB zG hB46 hBw
    go_wp2_with fail
    go_region
    all_goals
     go_wp2_with fail
     refine bodyPost_ret (v := .tuple #[.agg #[.int .i64 r0, .int .i64 r1], .agg #[.int .i64 z0, .int .i64 z1]]) ?_ rfl ⟨rfl, ?_⟩
     ·simp [results, Tryz.f119, go_sem, k4, k5, k6, k7]
     ·exact by repeat (first | exact Gr.refl _ | assumption | apply Gr.drew | apply Gr.drewN | (refine Gr.setCell ?_ (by first | (simp; done) | (simp; omega)) _))
end
end Go.Proofs.YtablflakcaimmaaGreat
