import Derived.Deep.Cut
import Derived.Deep.CutRange
import Derived.Test.YtdignnmpfkgkoaaGreatRealBinsS29
namespace Go.Proofs.YtdignnmpfkgkoaaGreat
section
open Go.ChangeShapes Go.WideShapes Go.ChangeAt Go.RowKit
set_option linter.unusedVariables false
set_option maxRecDepth 100000
set_option maxHeartbeats 16000000
def SetsOk (b s mo : Int) : Prop := (0 ≤ b ∧ b ≤ 29) ∧ (0 ≤ s ∧ s ≤ 3) ∧ 0 ≤ mo ∧ mo ≤ 2
theorem pow08_c' (k : Nat) (p : Int) (h : (2 : Int) ^ k = p) (h1 : k ≤ 62) (w : World) :
 Calls Tryz.prog 38 #[(k : Int)] w fun e w' => e = .returned (.int .i64 p) ∧ w' = w := by
 have := pow_c (k : Int) (by omega) (by omega) w
 rwa [Int.toNat_natCast, h] at this
theorem scale10_c (x y : Int) (bits : Nat) (P r0 r1 : Int) (hb : bits ≤ 29) (hP : (2 : Int) ^ bits = P) (h0 : wrap64 (x * P) = r0) (h1 : wrap64 (y * P) = r1) (w : World) :
 CW 83 #[.agg #[x, y], bits] w (.agg #[r0, r1]) :=by
 delta CW
 have HP := kh (pow08_c' bits P hP (by omega))
 clear hP hb
 go_in
 go_wp2_with (go_at_call 38; refine (HP.out _).mono ?_; rintro e wz ⟨rfl, rfl⟩)
 refine bodyPost_ret (v := .agg #[r0, r1]) ?_ rfl ⟨rfl, ?_⟩
 ·simp [results, Tryz.results83, go_sem]
 ·exact by repeat (first | exact Gr.refl _ | assumption | apply Gr.drew | apply Gr.alloc | (refine Gr.setCell ?_ (by first | (simp; done) | (simp; omega)) _))
end
section
open Go.ChangeShapes Go.WideShapes Go.ChangeAt Go.RowKit
set_option linter.unusedVariables false
theorem up10_of (ax ay bx by0 wx wy bits s n mo p0 p1 q0 q1 t0 t1 r0 r1 : Int) (hn : wrap64 (bits + s) = n)
 (HS : CR 83 #[.agg #[ax, ay], bits] (.agg #[p0, p1]))
 (HT : CR 84 #[.agg #[bx, by0], .agg #[wx, wy]] (.agg #[q0, q1]))
 (HU : CR 82 #[.agg #[p0, p1], .agg #[q0, q1]] (.agg #[t0, t1]))
 (HF : CR 85 #[.agg #[t0, t1], n, mo] (.agg #[r0, r1])) (w : World) :
 CW 139 #[.agg #[ax, ay], .agg #[bx, by0], .agg #[wx, wy], bits, s, mo] w (.agg #[r0, r1]) :=by
 delta CW
 go_in
 go_wp2_with fail
 obtain ⟨u0, hU⟩ : ∃ u, u = (((w.alloc (.cells #[ax, ay] 50)).alloc (.cells #[bx, by0] 50)).alloc (.cells #[wx, wy] 50)).alloc (.cells #[.int .i64 0, .int .i64 0] 50) := ⟨_, rfl⟩
 have gu : Gr w u0 := by rw [hU]; exact ((((Gr.refl w).alloc _ _).alloc _ _).alloc _ _).alloc _ _
 have zu : w.heap.size + 1 + 1 + 1 < u0.heap.size := by rw [hU]; simp
 have d0 : u0.cell? ⟨w.heap.size, 0, none⟩ = some (.int .i64 ax) := by rw [hU]; go_simp
 have d1 : u0.cell? ⟨w.heap.size, 1, none⟩ = some (.int .i64 ay) := by rw [hU]; go_simp
 have d2 : u0.cell? ⟨w.heap.size + 1, 0, none⟩ = some (.int .i64 bx) := by rw [hU]; go_simp
 have d3 : u0.cell? ⟨w.heap.size + 1, 1, none⟩ = some (.int .i64 by0) := by rw [hU]; go_simp
 have d4 : u0.cell? ⟨w.heap.size + 1 + 1, 0, none⟩ = some (.int .i64 wx) := by rw [hU]; go_simp
 have d5 : u0.cell? ⟨w.heap.size + 1 + 1, 1, none⟩ = some (.int .i64 wy) := by rw [hU]; go_simp
 have R0 : CxBlock u0 (w.heap.size + 1 + 1 + 1) := by
  rw [hU]
  have := CxBlock.new (((w.alloc (.cells #[ax, ay] 50)).alloc (.cells #[bx, by0] 50)).alloc (.cells #[wx, wy] 50)) 0 0
  simpa only [World.size_alloc] using this
 rw [← hU]
 clear hU
 have z0 : w.heap.size < u0.heap.size := by omega
 have z1 : w.heap.size + 1 < u0.heap.size := by omega
 have z2 : w.heap.size + 1 + 1 < u0.heap.size := by omega
 have KS : ∀ W, Gr u0 W → (W.cell? ⟨w.heap.size, 0, none⟩ = some (.int .i64 ax) ∧ W.cell? ⟨w.heap.size, 1, none⟩ = some (.int .i64 ay) ∧ W.cell? ⟨w.heap.size + 1, 0, none⟩ = some (.int .i64 bx) ∧ W.cell? ⟨w.heap.size + 1, 1, none⟩ = some (.int .i64 by0) ∧ W.cell? ⟨w.heap.size + 1 + 1, 0, none⟩ = some (.int .i64 wx) ∧ W.cell? ⟨w.heap.size + 1 + 1, 1, none⟩ = some (.int .i64 wy) ∧ Gr u0 W) := fun W hG => ⟨(hG.cell (p := ⟨w.heap.size, 0, none⟩) z0).trans d0, (hG.cell (p := ⟨w.heap.size, 1, none⟩) z0).trans d1, (hG.cell (p := ⟨w.heap.size + 1, 0, none⟩) z1).trans d2, (hG.cell (p := ⟨w.heap.size + 1, 1, none⟩) z1).trans d3, (hG.cell (p := ⟨w.heap.size + 1 + 1, 0, none⟩) z2).trans d4, (hG.cell (p := ⟨w.heap.size + 1 + 1, 1, none⟩) z2).trans d5, hG⟩
 have RH := kh R0
 clear R0
 go_cut [13] from 14 to 20 (fun pv wx' => ∃ B : Nat, pv = .pointer (some ⟨B, 0, none⟩) ∧ u0.heap.size ≤ B ∧ CellsAt wx' B 50 #[t0, t1] ∧ Gr u0 wx')
 case first =>
  go_region_held3 (fun W => W.cell? ⟨w.heap.size, 0, none⟩ = some (.int .i64 ax) ∧ W.cell? ⟨w.heap.size, 1, none⟩ = some (.int .i64 ay) ∧ W.cell? ⟨w.heap.size + 1, 0, none⟩ = some (.int .i64 bx) ∧ W.cell? ⟨w.heap.size + 1, 1, none⟩ = some (.int .i64 by0) ∧ W.cell? ⟨w.heap.size + 1 + 1, 0, none⟩ = some (.int .i64 wx) ∧ W.cell? ⟨w.heap.size + 1 + 1, 1, none⟩ = some (.int .i64 wy) ∧ Gr u0 W)
   (first | ((try go_split_ands); refine KS _ ?_; (first | assumption | exact Gr.refl _ | exact Gr.drew (Gr.refl _) | exact Gr.drew (by assumption) | exact Gr.alloc (by assumption) _ _ | exact Gr.alloc (Gr.refl _) _ _ | exact Gr.alloc (Gr.drew (Gr.refl _)) _ _ | exact Gr.drew (Gr.alloc (Gr.refl _) _ _) | exact Gr.drew (Gr.alloc (by assumption) _ _) | (exact Gr.setCell (Gr.setCell (by assumption) (by exact Gr.size (by assumption)) _) (by exact Gr.size (by assumption)) _) | (exact Gr.setCell (Gr.setCell (by assumption) (by exact Nat.le_refl _) _) (by exact Nat.le_refl _) _))))
   (first | (go_at_call 83; go_split_ands; ((with_reducible refine (HS.out _).mono ?_); rintro e w' ⟨rfl, hg⟩; have hgw : Gr u0 w' := Gr.trans (by first | assumption | exact Gr.refl _ | exact Gr.drew (Gr.refl _) | exact Gr.drew (by assumption) | exact Gr.alloc (by assumption) _ _ | exact Gr.alloc (Gr.refl _) _ _ | exact Gr.alloc (Gr.drew (Gr.refl _)) _ _ | exact Gr.drew (Gr.alloc (Gr.refl _) _ _) | exact Gr.drew (Gr.alloc (by assumption) _ _)) hg; (first | (have hbk := CxBlock.gr (CxBlock.new _ _ _) hg) | (have hbk := CxBlock.gr (CxBlock.drew (CxBlock.new _ _ _)) hg) | (have hbk := CxBlock.gr ‹CxBlock _ _› hg) | (have hbk := CxBlock.gr (CxBlock.drew ‹CxBlock _ _›) hg) | skip))) | (go_at_call 84; go_split_ands; ((with_reducible refine (HT.out _).mono ?_); rintro e w' ⟨rfl, hg⟩; have hgw : Gr u0 w' := Gr.trans (by first | assumption | exact Gr.refl _ | exact Gr.drew (Gr.refl _) | exact Gr.drew (by assumption) | exact Gr.alloc (by assumption) _ _ | exact Gr.alloc (Gr.refl _) _ _ | exact Gr.alloc (Gr.drew (Gr.refl _)) _ _ | exact Gr.drew (Gr.alloc (Gr.refl _) _ _) | exact Gr.drew (Gr.alloc (by assumption) _ _)) hg; (first | (have hbk := CxBlock.gr (CxBlock.new _ _ _) hg) | (have hbk := CxBlock.gr (CxBlock.drew (CxBlock.new _ _ _)) hg) | (have hbk := CxBlock.gr ‹CxBlock _ _› hg) | (have hbk := CxBlock.gr (CxBlock.drew ‹CxBlock _ _›) hg) | skip))) | (go_at_call 82; go_split_ands; ((with_reducible refine (HU.out _).mono ?_); rintro e w' ⟨rfl, hg⟩; have hgw : Gr u0 w' := Gr.trans (by first | assumption | exact Gr.refl _ | exact Gr.drew (Gr.refl _) | exact Gr.drew (by assumption) | exact Gr.alloc (by assumption) _ _ | exact Gr.alloc (Gr.refl _) _ _ | exact Gr.alloc (Gr.drew (Gr.refl _)) _ _ | exact Gr.drew (Gr.alloc (Gr.refl _) _ _) | exact Gr.drew (Gr.alloc (by assumption) _ _)) hg; (first | (have hbk := CxBlock.gr (CxBlock.new _ _ _) hg; obtain ⟨x, y, r2⟩ := hbk.out; have c0 := r2.cell 0; have c1 := r2.cell 1; have f0 := r2.frozen 0; have f1 := r2.frozen 1; simp only [getS] at c0 c1) | (have hbk := CxBlock.gr (CxBlock.drew (CxBlock.new _ _ _)) hg; obtain ⟨x, y, r2⟩ := hbk.out; have c0 := r2.cell 0; have c1 := r2.cell 1; have f0 := r2.frozen 0; have f1 := r2.frozen 1; simp only [getS] at c0 c1) | (have hbk := CxBlock.gr ‹CxBlock _ _› hg; obtain ⟨x, y, r2⟩ := hbk.out; have c0 := r2.cell 0; have c1 := r2.cell 1; have f0 := r2.frozen 0; have f1 := r2.frozen 1; simp only [getS] at c0 c1) | (have hbk := CxBlock.gr (CxBlock.drew ‹CxBlock _ _›) hg; obtain ⟨x, y, r2⟩ := hbk.out; have c0 := r2.cell 0; have c1 := r2.cell 1; have f0 := r2.frozen 0; have f1 := r2.frozen 1; simp only [getS] at c0 c1) | skip))))
  all_goals
   go_wp2_with fail
   go_meet
   case rel =>
    refine ⟨_, rfl, ?_, ?_, ?_⟩
    ·first | exact Nat.le_refl _ | exact Gr.size (by assumption)
    ·first | exact CellsAt.new _ _ _ | exact (CellsAt.set (CellsAt.set (by assumption) 0 _) 1 _)
    ·(try go_split_ands); assumption
 case rest =>
  obtain ⟨B, rfl, hB, hC, hG⟩ := hcut;have e0 := hC.cell 0;have e1 := hC.cell 1;have hlt := hC.lt;simp only [getS] at e0 e1;have gw := gu.trans hG;have RB := kh (RH.out.gr hG);clear KS HS HT HU hC hG gu d0 d1 d2 d3 d4 d5 RH;go_wp2_with fail;refine (HF.out _).mono ?_;rintro e w5 ⟨rfl, g5⟩;have RC := RB.out.gr g5;obtain ⟨x, y, r2⟩ := RC;have c0 := r2.cell 0;have c1 := r2.cell 1;obtain ⟨f0, f1⟩ := r2.f2;have hlt2 := r2.lt;simp only [getS] at c0 c1;clear r2;go_wp2_with fail;refine bodyPost_ret (v := .agg #[r0, r1]) ?_ rfl ⟨rfl, ?_⟩
  ·simp [results, Tryz.f139, go_sem, c0, c1]
  ·exact Gr.setCell (Gr.setCell (gw.trans g5) (by simp; omega) _) (by simp; omega) _
theorem down10_of (ax ay bx by0 wx wy bits s n mo p0 p1 q0 q1 t0 t1 r0 r1 : Int) (hn : wrap64 (bits + s) = n)
 (HS : CR 83 #[.agg #[ax, ay], bits] (.agg #[p0, p1]))
 (HT : CR 84 #[.agg #[bx, by0], .agg #[wx, wy]] (.agg #[q0, q1]))
 (HU : CR 81 #[.agg #[p0, p1], .agg #[q0, q1]] (.agg #[t0, t1]))
 (HF : CR 85 #[.agg #[t0, t1], n, mo] (.agg #[r0, r1])) (w : World) :
 CW 140 #[.agg #[ax, ay], .agg #[bx, by0], .agg #[wx, wy], bits, s, mo] w (.agg #[r0, r1]) :=by
 delta CW
 go_in
 go_wp2_with fail
 obtain ⟨u0, hU⟩ : ∃ u, u = (((w.alloc (.cells #[ax, ay] 50)).alloc (.cells #[bx, by0] 50)).alloc (.cells #[wx, wy] 50)).alloc (.cells #[.int .i64 0, .int .i64 0] 50) := ⟨_, rfl⟩
 have gu : Gr w u0 := by rw [hU]; exact ((((Gr.refl w).alloc _ _).alloc _ _).alloc _ _).alloc _ _
 have zu : w.heap.size + 1 + 1 + 1 < u0.heap.size := by rw [hU]; simp
 have d0 : u0.cell? ⟨w.heap.size, 0, none⟩ = some (.int .i64 ax) := by rw [hU]; go_simp
 have d1 : u0.cell? ⟨w.heap.size, 1, none⟩ = some (.int .i64 ay) := by rw [hU]; go_simp
 have d2 : u0.cell? ⟨w.heap.size + 1, 0, none⟩ = some (.int .i64 bx) := by rw [hU]; go_simp
 have d3 : u0.cell? ⟨w.heap.size + 1, 1, none⟩ = some (.int .i64 by0) := by rw [hU]; go_simp
 have d4 : u0.cell? ⟨w.heap.size + 1 + 1, 0, none⟩ = some (.int .i64 wx) := by rw [hU]; go_simp
 have d5 : u0.cell? ⟨w.heap.size + 1 + 1, 1, none⟩ = some (.int .i64 wy) := by rw [hU]; go_simp
 have R0 : CxBlock u0 (w.heap.size + 1 + 1 + 1) := by
  rw [hU]
  have := CxBlock.new (((w.alloc (.cells #[ax, ay] 50)).alloc (.cells #[bx, by0] 50)).alloc (.cells #[wx, wy] 50)) 0 0
  simpa only [World.size_alloc] using this
 rw [← hU]
 clear hU
 have z0 : w.heap.size < u0.heap.size := by omega
 have z1 : w.heap.size + 1 < u0.heap.size := by omega
 have z2 : w.heap.size + 1 + 1 < u0.heap.size := by omega
 have KS : ∀ W, Gr u0 W → (W.cell? ⟨w.heap.size, 0, none⟩ = some (.int .i64 ax) ∧ W.cell? ⟨w.heap.size, 1, none⟩ = some (.int .i64 ay) ∧ W.cell? ⟨w.heap.size + 1, 0, none⟩ = some (.int .i64 bx) ∧ W.cell? ⟨w.heap.size + 1, 1, none⟩ = some (.int .i64 by0) ∧ W.cell? ⟨w.heap.size + 1 + 1, 0, none⟩ = some (.int .i64 wx) ∧ W.cell? ⟨w.heap.size + 1 + 1, 1, none⟩ = some (.int .i64 wy) ∧ Gr u0 W) := fun W hG => ⟨(hG.cell (p := ⟨w.heap.size, 0, none⟩) z0).trans d0, (hG.cell (p := ⟨w.heap.size, 1, none⟩) z0).trans d1, (hG.cell (p := ⟨w.heap.size + 1, 0, none⟩) z1).trans d2, (hG.cell (p := ⟨w.heap.size + 1, 1, none⟩) z1).trans d3, (hG.cell (p := ⟨w.heap.size + 1 + 1, 0, none⟩) z2).trans d4, (hG.cell (p := ⟨w.heap.size + 1 + 1, 1, none⟩) z2).trans d5, hG⟩
 have RH := kh R0
 clear R0
 go_cut [13] from 14 to 20 (fun pv wx' => ∃ B : Nat, pv = .pointer (some ⟨B, 0, none⟩) ∧ u0.heap.size ≤ B ∧ CellsAt wx' B 50 #[t0, t1] ∧ Gr u0 wx')
 case first =>
  go_region_held3 (fun W => W.cell? ⟨w.heap.size, 0, none⟩ = some (.int .i64 ax) ∧ W.cell? ⟨w.heap.size, 1, none⟩ = some (.int .i64 ay) ∧ W.cell? ⟨w.heap.size + 1, 0, none⟩ = some (.int .i64 bx) ∧ W.cell? ⟨w.heap.size + 1, 1, none⟩ = some (.int .i64 by0) ∧ W.cell? ⟨w.heap.size + 1 + 1, 0, none⟩ = some (.int .i64 wx) ∧ W.cell? ⟨w.heap.size + 1 + 1, 1, none⟩ = some (.int .i64 wy) ∧ Gr u0 W)
   (first | ((try go_split_ands); refine KS _ ?_; (first | assumption | exact Gr.refl _ | exact Gr.drew (Gr.refl _) | exact Gr.drew (by assumption) | exact Gr.alloc (by assumption) _ _ | exact Gr.alloc (Gr.refl _) _ _ | exact Gr.alloc (Gr.drew (Gr.refl _)) _ _ | exact Gr.drew (Gr.alloc (Gr.refl _) _ _) | exact Gr.drew (Gr.alloc (by assumption) _ _) | (exact Gr.setCell (Gr.setCell (by assumption) (by exact Gr.size (by assumption)) _) (by exact Gr.size (by assumption)) _) | (exact Gr.setCell (Gr.setCell (by assumption) (by exact Nat.le_refl _) _) (by exact Nat.le_refl _) _))))
   (first | (go_at_call 83; go_split_ands; ((with_reducible refine (HS.out _).mono ?_); rintro e w' ⟨rfl, hg⟩; have hgw : Gr u0 w' := Gr.trans (by first | assumption | exact Gr.refl _ | exact Gr.drew (Gr.refl _) | exact Gr.drew (by assumption) | exact Gr.alloc (by assumption) _ _ | exact Gr.alloc (Gr.refl _) _ _ | exact Gr.alloc (Gr.drew (Gr.refl _)) _ _ | exact Gr.drew (Gr.alloc (Gr.refl _) _ _) | exact Gr.drew (Gr.alloc (by assumption) _ _)) hg; (first | (have hbk := CxBlock.gr (CxBlock.new _ _ _) hg) | (have hbk := CxBlock.gr (CxBlock.drew (CxBlock.new _ _ _)) hg) | (have hbk := CxBlock.gr ‹CxBlock _ _› hg) | (have hbk := CxBlock.gr (CxBlock.drew ‹CxBlock _ _›) hg) | skip))) | (go_at_call 84; go_split_ands; ((with_reducible refine (HT.out _).mono ?_); rintro e w' ⟨rfl, hg⟩; have hgw : Gr u0 w' := Gr.trans (by first | assumption | exact Gr.refl _ | exact Gr.drew (Gr.refl _) | exact Gr.drew (by assumption) | exact Gr.alloc (by assumption) _ _ | exact Gr.alloc (Gr.refl _) _ _ | exact Gr.alloc (Gr.drew (Gr.refl _)) _ _ | exact Gr.drew (Gr.alloc (Gr.refl _) _ _) | exact Gr.drew (Gr.alloc (by assumption) _ _)) hg; (first | (have hbk := CxBlock.gr (CxBlock.new _ _ _) hg) | (have hbk := CxBlock.gr (CxBlock.drew (CxBlock.new _ _ _)) hg) | (have hbk := CxBlock.gr ‹CxBlock _ _› hg) | (have hbk := CxBlock.gr (CxBlock.drew ‹CxBlock _ _›) hg) | skip))) | (go_at_call 81; go_split_ands; ((with_reducible refine (HU.out _).mono ?_); rintro e w' ⟨rfl, hg⟩; have hgw : Gr u0 w' := Gr.trans (by first | assumption | exact Gr.refl _ | exact Gr.drew (Gr.refl _) | exact Gr.drew (by assumption) | exact Gr.alloc (by assumption) _ _ | exact Gr.alloc (Gr.refl _) _ _ | exact Gr.alloc (Gr.drew (Gr.refl _)) _ _ | exact Gr.drew (Gr.alloc (Gr.refl _) _ _) | exact Gr.drew (Gr.alloc (by assumption) _ _)) hg; (first | (have hbk := CxBlock.gr (CxBlock.new _ _ _) hg; obtain ⟨x, y, r2⟩ := hbk.out; have c0 := r2.cell 0; have c1 := r2.cell 1; have f0 := r2.frozen 0; have f1 := r2.frozen 1; simp only [getS] at c0 c1) | (have hbk := CxBlock.gr (CxBlock.drew (CxBlock.new _ _ _)) hg; obtain ⟨x, y, r2⟩ := hbk.out; have c0 := r2.cell 0; have c1 := r2.cell 1; have f0 := r2.frozen 0; have f1 := r2.frozen 1; simp only [getS] at c0 c1) | (have hbk := CxBlock.gr ‹CxBlock _ _› hg; obtain ⟨x, y, r2⟩ := hbk.out; have c0 := r2.cell 0; have c1 := r2.cell 1; have f0 := r2.frozen 0; have f1 := r2.frozen 1; simp only [getS] at c0 c1) | (have hbk := CxBlock.gr (CxBlock.drew ‹CxBlock _ _›) hg; obtain ⟨x, y, r2⟩ := hbk.out; have c0 := r2.cell 0; have c1 := r2.cell 1; have f0 := r2.frozen 0; have f1 := r2.frozen 1; simp only [getS] at c0 c1) | skip))))
  all_goals
   go_wp2_with fail
   go_meet
   case rel =>
    refine ⟨_, rfl, ?_, ?_, ?_⟩
    ·first | exact Nat.le_refl _ | exact Gr.size (by assumption)
    ·first | exact CellsAt.new _ _ _ | exact (CellsAt.set (CellsAt.set (by assumption) 0 _) 1 _)
    ·(try go_split_ands); assumption
 case rest =>
  obtain ⟨B, rfl, hB, hC, hG⟩ := hcut;have e0 := hC.cell 0;have e1 := hC.cell 1;have hlt := hC.lt;simp only [getS] at e0 e1;have gw := gu.trans hG;have RB := kh (RH.out.gr hG);clear KS HS HT HU hC hG gu d0 d1 d2 d3 d4 d5 RH;go_wp2_with fail;refine (HF.out _).mono ?_;rintro e w5 ⟨rfl, g5⟩;have RC := RB.out.gr g5;obtain ⟨x, y, r2⟩ := RC;have c0 := r2.cell 0;have c1 := r2.cell 1;obtain ⟨f0, f1⟩ := r2.f2;have hlt2 := r2.lt;simp only [getS] at c0 c1;clear r2;go_wp2_with fail;refine bodyPost_ret (v := .agg #[r0, r1]) ?_ rfl ⟨rfl, ?_⟩
  ·simp [results, Tryz.f140, go_sem, c0, c1]
  ·exact Gr.setCell (Gr.setCell (gw.trans g5) (by simp; omega) _) (by simp; omega) _
end
section
open Go.ChangeShapes Go.WideShapes Go.ChangeAt Go.RowKit
set_option linter.unusedVariables false
theorem pair_nums (a b w : Gi) (bits : Nat) (hb : bits ≤ 29) (ha : absI a.re ≤ 2147483648 ∧ absI a.im ≤ 2147483648) (hbb : absI b.re ≤ 2147483648 ∧ absI b.im ≤ 2147483648) (hw : absI w.re ≤ 2 ^ bits ∧ absI w.im ≤ 2 ^ bits) :
 (∀ x y : Int, (x = b.re ∨ x = b.im) → (y = w.re ∨ y = w.im) → -1152921504606846976 ≤ x * y ∧ x * y ≤ 1152921504606846976) ∧
 (-1152921504606846976 ≤ a.re * 2 ^ bits ∧ a.re * 2 ^ bits ≤ 1152921504606846976) ∧ (-1152921504606846976 ≤ a.im * 2 ^ bits ∧ a.im * 2 ^ bits ≤ 1152921504606846976) ∧ (2 : Int) ^ bits ≤ 536870912 ∧ 0 < (2 : Int) ^ bits := by
 have hp := pow_pos2 bits
 have hp2 : (2 : Int) ^ bits ≤ 536870912 := by
  have h1 : (2 : Nat) ^ bits ≤ 2 ^ 29 := Nat.pow_le_pow_right (by decide) hb
  have h2 : ((2 ^ bits : Nat) : Int) ≤ ((2 ^ 29 : Nat) : Int) := Int.ofNat_le.2 h1
  rw [Int.natCast_pow] at h2
  simpa using h2
 have hq : (2147483648 : Int) * 2 ^ bits ≤ 1152921504606846976 := by omega
 have a1 := absI_le.1 ha.1
 have a2 := absI_le.1 ha.2
 have b1 := absI_le.1 hbb.1
 have b2 := absI_le.1 hbb.2
 have w1 := absI_le.1 hw.1
 have w2 := absI_le.1 hw.2
 have m1 := mulG_bd a.re (2 ^ bits) 2147483648 (2 ^ bits) (by omega) a1 (by omega)
 have m2 := mulG_bd a.im (2 ^ bits) 2147483648 (2 ^ bits) (by omega) a2 (by omega)
 refine ⟨fun x y hx hy => ?_, by omega, by omega, hp2, hp⟩
 have hx2 : -2147483648 ≤ x ∧ x ≤ 2147483648 := by rcases hx with rfl | rfl <;> assumption
 have hy2 : -(2 ^ bits) ≤ y ∧ y ≤ 2 ^ bits := by rcases hy with rfl | rfl <;> assumption
 have m3 := mulG_bd x y 2147483648 (2 ^ bits) (by omega) hx2 hy2
 generalize x * y = t at *
 omega
theorem up10_c (a b w : Gi) (bits s : Nat) (mo : Int) (hb : bits ≤ 29) (hs : s ≤ 3) (m0 : 0 ≤ mo) (m1 : mo ≤ 2) (ha : absI a.re ≤ 2147483648 ∧ absI a.im ≤ 2147483648) (hbb : absI b.re ≤ 2147483648 ∧ absI b.im ≤ 2147483648) (hw : absI w.re ≤ 2 ^ bits ∧ absI w.im ≤ 2 ^ bits) (W : World) :
 Calls Tryz.prog 139 #[.agg #[a.re, a.im], .agg #[b.re, b.im], .agg #[w.re, w.im], bits, s, mo] W fun e w' => e = .returned (.agg #[(pairUp bits s mo a b w).re, (pairUp bits s mo a b w).im]) ∧ Gr W w' := by
 obtain ⟨hm, h1, h2, h3, h4⟩ := pair_nums a b w bits hb ha hbb hw
 have m1' := hm b.re w.re (.inl rfl) (.inl rfl)
 have m2' := hm b.im w.im (.inr rfl) (.inr rfl)
 have m3' := hm b.re w.im (.inl rfl) (.inr rfl)
 have m4' := hm b.im w.re (.inr rfl) (.inl rfl)
 exact up10_of a.re a.im b.re b.im w.re w.im bits s ((bits + s : Nat) : Int) mo (a.re * 2 ^ bits) (a.im * 2 ^ bits) (gmul b w).re (gmul b w).im (a.re * 2 ^ bits + (gmul b w).re) (a.im * 2 ^ bits + (gmul b w).im) _ _
  (by rw [IntWalk.wrap64_in _ (by omega)]; omega)
  (kh (scale10_c a.re a.im bits (2 ^ bits) _ _ hb rfl (IntWalk.wrap64_in _ (by omega)) (IntWalk.wrap64_in _ (by omega))))
  (kh (rtimes_c b.re b.im w.re w.im _ _ _ _ _ _ (IntWalk.wrap64_in _ (by omega)) (IntWalk.wrap64_in _ (by omega)) (IntWalk.wrap64_in _ (by omega)) (IntWalk.wrap64_in _ (by omega)) (IntWalk.wrap64_in _ (by omega)) (IntWalk.wrap64_in _ (by omega))))
  (kh (rsum_c _ _ _ _ _ _ (IntWalk.wrap64_in _ (by unfold gmul; simp only; omega)) (IntWalk.wrap64_in _ (by unfold gmul; simp only; omega))))
  (kh (by
   have := rshift03_c (a.re * 2 ^ bits + (gmul b w).re) (a.im * 2 ^ bits + (gmul b w).im) ((bits + s : Nat) : Int) mo (by unfold gmul; simp only; omega) (by unfold gmul; simp only; omega) (by omega) (by omega) m0 m1
   rwa [Int.toNat_natCast] at this)) W
theorem down10_c (a b w : Gi) (bits s : Nat) (mo : Int) (hb : bits ≤ 29) (hs : s ≤ 3) (m0 : 0 ≤ mo) (m1 : mo ≤ 2) (ha : absI a.re ≤ 2147483648 ∧ absI a.im ≤ 2147483648) (hbb : absI b.re ≤ 2147483648 ∧ absI b.im ≤ 2147483648) (hw : absI w.re ≤ 2 ^ bits ∧ absI w.im ≤ 2 ^ bits) (W : World) :
 Calls Tryz.prog 140 #[.agg #[a.re, a.im], .agg #[b.re, b.im], .agg #[w.re, w.im], bits, s, mo] W fun e w' => e = .returned (.agg #[(pairDown bits s mo a b w).re, (pairDown bits s mo a b w).im]) ∧ Gr W w' := by
 obtain ⟨hm, h1, h2, h3, h4⟩ := pair_nums a b w bits hb ha hbb hw
 have m1' := hm b.re w.re (.inl rfl) (.inl rfl)
 have m2' := hm b.im w.im (.inr rfl) (.inr rfl)
 have m3' := hm b.re w.im (.inl rfl) (.inr rfl)
 have m4' := hm b.im w.re (.inr rfl) (.inl rfl)
 exact down10_of a.re a.im b.re b.im w.re w.im bits s ((bits + s : Nat) : Int) mo (a.re * 2 ^ bits) (a.im * 2 ^ bits) (gmul b w).re (gmul b w).im (a.re * 2 ^ bits - (gmul b w).re) (a.im * 2 ^ bits - (gmul b w).im) _ _
  (by rw [IntWalk.wrap64_in _ (by omega)]; omega)
  (kh (scale10_c a.re a.im bits (2 ^ bits) _ _ hb rfl (IntWalk.wrap64_in _ (by omega)) (IntWalk.wrap64_in _ (by omega))))
  (kh (rtimes_c b.re b.im w.re w.im _ _ _ _ _ _ (IntWalk.wrap64_in _ (by omega)) (IntWalk.wrap64_in _ (by omega)) (IntWalk.wrap64_in _ (by omega)) (IntWalk.wrap64_in _ (by omega)) (IntWalk.wrap64_in _ (by omega)) (IntWalk.wrap64_in _ (by omega))))
  (kh (rless_c _ _ _ _ _ _ (IntWalk.wrap64_in _ (by unfold gmul; simp only; omega)) (IntWalk.wrap64_in _ (by unfold gmul; simp only; omega))))
  (kh (by
   have := rshift03_c (a.re * 2 ^ bits - (gmul b w).re) (a.im * 2 ^ bits - (gmul b w).im) ((bits + s : Nat) : Int) mo (by unfold gmul; simp only; omega) (by unfold gmul; simp only; omega) (by omega) (by omega) m0 m1
   rwa [Int.toNat_natCast] at this)) W
theorem root10_c (v : Value) (ws : List Gi) (k : Nat) (inv : Bool) (hk : k < ws.length) (hb : ∀ a ∈ ws, absI a.im ≤ 4611686018427387904) (w : World) (hv : CxsAt w v ws) :
 CW 92 #[v, k, inv] w (.agg #[(rootOf ws inv k).re, (rootOf ws inv k).im]) :=by
 delta CW
 obtain ⟨x, hx⟩ := get_of_lt hk
 obtain ⟨b, o, cap, rfl, hlen, hbl, hc⟩ := hv.at (by intro e; rw [e] at hk; simp at hk)
 have h1 := (hc k x hx).1
 have h2 := (hc k x hx).2
 have hbd := absI_le.1 (hb x (List.mem_of_getElem? hx))
 have hg : ws.getD k ⟨0, 0⟩ = x := by rw [List.getD_eq_getElem?_getD, hx]; rfl
 have HC := kh (rconj_c x.re x.im (-x.im) (IntWalk.wrap64_in _ (by omega)))
 have hki : (k : Int) < ws.length := by omega
 unfold rootOf
 rw [hg]
 obtain ⟨re, im⟩ := x
 simp only at h1 h2 HC
 clear hc hv hb hbd hx hg
 cases inv
 ·simp only [Bool.false_eq_true, if_false]
  go_in;go_wp2_with fail;refine bodyPost_ret (v := .agg #[re, im]) ?_ rfl ⟨rfl, ?_⟩
  ·simp [results, Tryz.results92, go_sem]
  ·exact by repeat (first | exact Gr.refl _ | assumption | apply Gr.drew | apply Gr.alloc | (refine Gr.setCell ?_ (by first | (simp; done) | (simp; omega)) _))
 ·simp only [if_true, Gi.conj]
  go_in;go_wp2_with fail;have R0 := CellsAt.new w 50 #[.int .i64 0, .int .i64 0];have g0 := (Gr.refl w).alloc #[.int .i64 0, .int .i64 0] 50;refine (HC.out _).mono ?_;rintro e w2 ⟨rfl, g2⟩;have R2 := R0.gr g2;have gw := g0.trans g2;have c0 := R2.cell 0;have c1 := R2.cell 1;obtain ⟨f0, f1⟩ := R2.f2;have hl2 := R2.lt;simp only [getS] at c0 c1;clear R0 g0 R2 g2;go_wp2_with fail;refine bodyPost_ret (v := .agg #[re, .int .i64 (-im)]) ?_ rfl ⟨rfl, ?_⟩
  ·simp [results, Tryz.f92, go_sem, c0, c1]
  ·exact Gr.setCell (Gr.setCell gw (by simp) _) (by simp) _
end
section
open Go.ChangeShapes Go.WideShapes Go.ChangeAt Go.RowKit
set_option linter.unusedVariables false
def WhyIs (n m : Nat) (part : Bool) (b s mo : Int) (inx inw : Bool) (e : Int) : Prop :=
 ((¬ ∃ L, IsLog (n : Int) L) ∧ e = 3) ∨
 ((∃ L, IsLog (n : Int) L) ∧ m ≠ n ∧ e = 5) ∨
 ((∃ L, IsLog (n : Int) L) ∧ m = n ∧ (part = false ∨ ¬ SetsOk b s mo) ∧ e = 1) ∨
 ((∃ L, IsLog (n : Int) L) ∧ m = n ∧ part = true ∧ SetsOk b s mo ∧ (inx && inw) = false ∧ e = 2) ∨
 ((∃ L, IsLog (n : Int) L) ∧ m = n ∧ part = true ∧ SetsOk b s mo ∧ inx = true ∧ inw = true ∧ e = 0)
theorem rlog08_none (n : Nat) (h : ¬ ∃ L, IsLog (n : Int) L) (w : World) : Calls Tryz.prog 35 #[n] w fun e w' => e = .returned (.int .i64 (-1)) ∧ w' = w := by
 have h4 : (n : Int) ≠ 4 := fun e => h ⟨2, by omega, by omega, by rw [e]; try rfl⟩
 have h8 : (n : Int) ≠ 8 := fun e => h ⟨3, by omega, by omega, by rw [e]; try rfl⟩
 have h16 : (n : Int) ≠ 16 := fun e => h ⟨4, by omega, by omega, by rw [e]; try rfl⟩
 have h32 : (n : Int) ≠ 32 := fun e => h ⟨5, by omega, by omega, by rw [e]; try rfl⟩
 have h64 : (n : Int) ≠ 64 := fun e => h ⟨6, by omega, by omega, by rw [e]; try rfl⟩
 exact rlog08_no n h4 h8 h16 h32 h64 w
end
end Go.Proofs.YtdignnmpfkgkoaaGreat
