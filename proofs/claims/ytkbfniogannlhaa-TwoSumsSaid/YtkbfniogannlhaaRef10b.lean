/- What reference 10's Up and Down answer. -/
import Derived.Test.YtkbfniogannlhaaRef10
import Derived.Test.YtkbfniogannlhaaCxBlock
import Derived.Deep.Cut
import Derived.Deep.CutRange
namespace Go.Proofs.Ytkbfniogannlhaa
open Go.ChangeShapes Go.WideShapes Go.ChangeAt Go.RowKit
set_option linter.unusedVariables false

set_option maxHeartbeats 8000000 in
theorem up10_of (ax ay bx by0 wx wy bits s n mo p0 p1 q0 q1 t0 t1 r0 r1 : Int) (hn : wrap64 (bits + s) = n)
    (HS : Hid (∀ W, Calls Try.prog 25 #[.agg #[.int .i64 ax, .int .i64 ay], .int .i64 bits] W fun e w' => e = .returned (.agg #[.int .i64 p0, .int .i64 p1]) ∧ Gr W w'))
    (HT : Hid (∀ W, Calls Try.prog 26 #[.agg #[.int .i64 bx, .int .i64 by0], .agg #[.int .i64 wx, .int .i64 wy]] W fun e w' => e = .returned (.agg #[.int .i64 q0, .int .i64 q1]) ∧ Gr W w'))
    (HU : Hid (∀ W, Calls Try.prog 24 #[.agg #[.int .i64 p0, .int .i64 p1], .agg #[.int .i64 q0, .int .i64 q1]] W fun e w' => e = .returned (.agg #[.int .i64 t0, .int .i64 t1]) ∧ Gr W w'))
    (HF : Hid (∀ W, Calls Try.prog 27 #[.agg #[.int .i64 t0, .int .i64 t1], .int .i64 n, .int .i64 mo] W fun e w' => e = .returned (.agg #[.int .i64 r0, .int .i64 r1]) ∧ Gr W w')) (w : World) :
    Calls Try.prog 12 #[.agg #[.int .i64 ax, .int .i64 ay], .agg #[.int .i64 bx, .int .i64 by0], .agg #[.int .i64 wx, .int .i64 wy], .int .i64 bits, .int .i64 s, .int .i64 mo] w fun e w' => e = .returned (.agg #[.int .i64 r0, .int .i64 r1]) ∧ Gr w w' := by
  go_enter Try.func12, Try.ntmps12
  go_wp2_with fail
  obtain ⟨u0, hU⟩ : ∃ u, u = (((w.alloc (.cells #[.int .i64 ax, .int .i64 ay] 23)).alloc (.cells #[.int .i64 bx, .int .i64 by0] 23)).alloc (.cells #[.int .i64 wx, .int .i64 wy] 23)).alloc (.cells #[.int .i64 0, .int .i64 0] 23) := ⟨_, rfl⟩
  have gu : Gr w u0 := by rw [hU]; exact ((((Gr.refl w).alloc _ _).alloc _ _).alloc _ _).alloc _ _
  have zu : w.heap.size + 1 + 1 + 1 < u0.heap.size := by rw [hU]; simp
  have d0 : u0.cell? ⟨w.heap.size, 0, none⟩ = some (.int .i64 ax) := by rw [hU]; go_simp
  have d1 : u0.cell? ⟨w.heap.size, 1, none⟩ = some (.int .i64 ay) := by rw [hU]; go_simp
  have d2 : u0.cell? ⟨w.heap.size + 1, 0, none⟩ = some (.int .i64 bx) := by rw [hU]; go_simp
  have d3 : u0.cell? ⟨w.heap.size + 1, 1, none⟩ = some (.int .i64 by0) := by rw [hU]; go_simp
  have d4 : u0.cell? ⟨w.heap.size + 1 + 1, 0, none⟩ = some (.int .i64 wx) := by rw [hU]; go_simp
  have d5 : u0.cell? ⟨w.heap.size + 1 + 1, 1, none⟩ = some (.int .i64 wy) := by rw [hU]; go_simp
  have R0 : CxBlock u0 (w.heap.size + 1 + 1 + 1) := by
    rw [hU]
    have := CxBlock.new (((w.alloc (.cells #[.int .i64 ax, .int .i64 ay] 23)).alloc (.cells #[.int .i64 bx, .int .i64 by0] 23)).alloc (.cells #[.int .i64 wx, .int .i64 wy] 23)) 0 0
    simpa only [World.size_alloc] using this
  rw [← hU]
  clear hU
  have z0 : w.heap.size < u0.heap.size := by omega
  have z1 : w.heap.size + 1 < u0.heap.size := by omega
  have z2 : w.heap.size + 1 + 1 < u0.heap.size := by omega
  have KS : ∀ W, Gr u0 W → (W.cell? ⟨w.heap.size, 0, none⟩ = some (.int .i64 ax) ∧ W.cell? ⟨w.heap.size, 1, none⟩ = some (.int .i64 ay) ∧ W.cell? ⟨w.heap.size + 1, 0, none⟩ = some (.int .i64 bx) ∧ W.cell? ⟨w.heap.size + 1, 1, none⟩ = some (.int .i64 by0) ∧ W.cell? ⟨w.heap.size + 1 + 1, 0, none⟩ = some (.int .i64 wx) ∧ W.cell? ⟨w.heap.size + 1 + 1, 1, none⟩ = some (.int .i64 wy) ∧ Gr u0 W) := fun W hG => ⟨(hG.cell (p := ⟨w.heap.size, 0, none⟩) z0).trans d0, (hG.cell (p := ⟨w.heap.size, 1, none⟩) z0).trans d1, (hG.cell (p := ⟨w.heap.size + 1, 0, none⟩) z1).trans d2, (hG.cell (p := ⟨w.heap.size + 1, 1, none⟩) z1).trans d3, (hG.cell (p := ⟨w.heap.size + 1 + 1, 0, none⟩) z2).trans d4, (hG.cell (p := ⟨w.heap.size + 1 + 1, 1, none⟩) z2).trans d5, hG⟩
  have RH := Lib.hid R0
  clear R0
  go_cut [13] from 14 to 20 (fun pv wx' => ∃ B : Nat, pv = .pointer (some ⟨B, 0, none⟩) ∧ u0.heap.size ≤ B ∧ CellsAt wx' B 23 #[.int .i64 t0, .int .i64 t1] ∧ Gr u0 wx')
  case first =>
    go_region_held3 (fun W => W.cell? ⟨w.heap.size, 0, none⟩ = some (.int .i64 ax) ∧ W.cell? ⟨w.heap.size, 1, none⟩ = some (.int .i64 ay) ∧ W.cell? ⟨w.heap.size + 1, 0, none⟩ = some (.int .i64 bx) ∧ W.cell? ⟨w.heap.size + 1, 1, none⟩ = some (.int .i64 by0) ∧ W.cell? ⟨w.heap.size + 1 + 1, 0, none⟩ = some (.int .i64 wx) ∧ W.cell? ⟨w.heap.size + 1 + 1, 1, none⟩ = some (.int .i64 wy) ∧ Gr u0 W)
      (first | ((try go_split_ands); refine KS _ ?_; (first | assumption | exact Gr.refl _ | exact Gr.drew (Gr.refl _) | exact Gr.drew (by assumption) | exact Gr.alloc (by assumption) _ _ | exact Gr.alloc (Gr.refl _) _ _ | exact Gr.alloc (Gr.drew (Gr.refl _)) _ _ | exact Gr.drew (Gr.alloc (Gr.refl _) _ _) | exact Gr.drew (Gr.alloc (by assumption) _ _) | (exact Gr.setCell (Gr.setCell (by assumption) (by exact Gr.size (by assumption)) _) (by exact Gr.size (by assumption)) _) | (exact Gr.setCell (Gr.setCell (by assumption) (by exact Nat.le_refl _) _) (by exact Nat.le_refl _) _))))
      (first | (go_at_call 25; go_split_ands; ((with_reducible refine (HS.out _).mono ?_); rintro e w' ⟨rfl, hg⟩; have hgw : Gr u0 w' := Gr.trans (by first | assumption | exact Gr.refl _ | exact Gr.drew (Gr.refl _) | exact Gr.drew (by assumption) | exact Gr.alloc (by assumption) _ _ | exact Gr.alloc (Gr.refl _) _ _ | exact Gr.alloc (Gr.drew (Gr.refl _)) _ _ | exact Gr.drew (Gr.alloc (Gr.refl _) _ _) | exact Gr.drew (Gr.alloc (by assumption) _ _)) hg; (first | (have hbk := CxBlock.gr (CxBlock.new _ _ _) hg) | (have hbk := CxBlock.gr (CxBlock.drew (CxBlock.new _ _ _)) hg) | (have hbk := CxBlock.gr ‹CxBlock _ _› hg) | (have hbk := CxBlock.gr (CxBlock.drew ‹CxBlock _ _›) hg) | skip))) | (go_at_call 26; go_split_ands; ((with_reducible refine (HT.out _).mono ?_); rintro e w' ⟨rfl, hg⟩; have hgw : Gr u0 w' := Gr.trans (by first | assumption | exact Gr.refl _ | exact Gr.drew (Gr.refl _) | exact Gr.drew (by assumption) | exact Gr.alloc (by assumption) _ _ | exact Gr.alloc (Gr.refl _) _ _ | exact Gr.alloc (Gr.drew (Gr.refl _)) _ _ | exact Gr.drew (Gr.alloc (Gr.refl _) _ _) | exact Gr.drew (Gr.alloc (by assumption) _ _)) hg; (first | (have hbk := CxBlock.gr (CxBlock.new _ _ _) hg) | (have hbk := CxBlock.gr (CxBlock.drew (CxBlock.new _ _ _)) hg) | (have hbk := CxBlock.gr ‹CxBlock _ _› hg) | (have hbk := CxBlock.gr (CxBlock.drew ‹CxBlock _ _›) hg) | skip))) | (go_at_call 24; go_split_ands; ((with_reducible refine (HU.out _).mono ?_); rintro e w' ⟨rfl, hg⟩; have hgw : Gr u0 w' := Gr.trans (by first | assumption | exact Gr.refl _ | exact Gr.drew (Gr.refl _) | exact Gr.drew (by assumption) | exact Gr.alloc (by assumption) _ _ | exact Gr.alloc (Gr.refl _) _ _ | exact Gr.alloc (Gr.drew (Gr.refl _)) _ _ | exact Gr.drew (Gr.alloc (Gr.refl _) _ _) | exact Gr.drew (Gr.alloc (by assumption) _ _)) hg; (first | (have hbk := CxBlock.gr (CxBlock.new _ _ _) hg; obtain ⟨x, y, r2⟩ := hbk.out; have c0 := r2.cell 0; have c1 := r2.cell 1; have f0 := r2.frozen 0; have f1 := r2.frozen 1; simp only [List.getElem?_toArray, List.getElem?_cons_zero, List.getElem?_cons_succ] at c0 c1) | (have hbk := CxBlock.gr (CxBlock.drew (CxBlock.new _ _ _)) hg; obtain ⟨x, y, r2⟩ := hbk.out; have c0 := r2.cell 0; have c1 := r2.cell 1; have f0 := r2.frozen 0; have f1 := r2.frozen 1; simp only [List.getElem?_toArray, List.getElem?_cons_zero, List.getElem?_cons_succ] at c0 c1) | (have hbk := CxBlock.gr ‹CxBlock _ _› hg; obtain ⟨x, y, r2⟩ := hbk.out; have c0 := r2.cell 0; have c1 := r2.cell 1; have f0 := r2.frozen 0; have f1 := r2.frozen 1; simp only [List.getElem?_toArray, List.getElem?_cons_zero, List.getElem?_cons_succ] at c0 c1) | (have hbk := CxBlock.gr (CxBlock.drew ‹CxBlock _ _›) hg; obtain ⟨x, y, r2⟩ := hbk.out; have c0 := r2.cell 0; have c1 := r2.cell 1; have f0 := r2.frozen 0; have f1 := r2.frozen 1; simp only [List.getElem?_toArray, List.getElem?_cons_zero, List.getElem?_cons_succ] at c0 c1) | skip))))
    all_goals
      go_wp2_with fail
      go_meet
      case rel =>
        refine ⟨_, rfl, ?_, ?_, ?_⟩
        · first | exact Nat.le_refl _ | exact Gr.size (by assumption)
        · first | exact CellsAt.new _ _ _ | exact (CellsAt.set (CellsAt.set (by assumption) 0 _) 1 _)
        · (try go_split_ands); assumption
  case rest =>
    obtain ⟨B, rfl, hB, hC, hG⟩ := hcut
    have e0 := hC.cell 0
    have e1 := hC.cell 1
    have hlt := hC.lt
    simp only [List.getElem?_toArray, List.getElem?_cons_zero, List.getElem?_cons_succ] at e0 e1
    have gw := gu.trans hG
    have RB := Lib.hid (RH.out.gr hG)
    clear KS HS HT HU hC hG gu d0 d1 d2 d3 d4 d5 RH
    go_wp2_with fail
    refine (HF.out _).mono ?_
    rintro e w5 ⟨rfl, g5⟩
    have RC := RB.out.gr g5
    obtain ⟨x, y, r2⟩ := RC
    have c0 := r2.cell 0
    have c1 := r2.cell 1
    have f0 := r2.frozen 0
    have f1 := r2.frozen 1
    have hlt2 := r2.lt
    simp only [List.getElem?_toArray, List.getElem?_cons_zero, List.getElem?_cons_succ] at c0 c1
    clear r2
    go_wp2_with fail
    refine bodyPost_ret (v := .agg #[.int .i64 r0, .int .i64 r1]) ?_ rfl ⟨rfl, ?_⟩
    · simp [results, Try.f12, go_sem, c0, c1]
    · exact Gr.setCell (Gr.setCell (gw.trans g5) (by simp; omega) _) (by simp; omega) _

set_option maxHeartbeats 8000000 in
theorem down10_of (ax ay bx by0 wx wy bits s n mo p0 p1 q0 q1 t0 t1 r0 r1 : Int) (hn : wrap64 (bits + s) = n)
    (HS : Hid (∀ W, Calls Try.prog 25 #[.agg #[.int .i64 ax, .int .i64 ay], .int .i64 bits] W fun e w' => e = .returned (.agg #[.int .i64 p0, .int .i64 p1]) ∧ Gr W w'))
    (HT : Hid (∀ W, Calls Try.prog 26 #[.agg #[.int .i64 bx, .int .i64 by0], .agg #[.int .i64 wx, .int .i64 wy]] W fun e w' => e = .returned (.agg #[.int .i64 q0, .int .i64 q1]) ∧ Gr W w'))
    (HU : Hid (∀ W, Calls Try.prog 28 #[.agg #[.int .i64 p0, .int .i64 p1], .agg #[.int .i64 q0, .int .i64 q1]] W fun e w' => e = .returned (.agg #[.int .i64 t0, .int .i64 t1]) ∧ Gr W w'))
    (HF : Hid (∀ W, Calls Try.prog 27 #[.agg #[.int .i64 t0, .int .i64 t1], .int .i64 n, .int .i64 mo] W fun e w' => e = .returned (.agg #[.int .i64 r0, .int .i64 r1]) ∧ Gr W w')) (w : World) :
    Calls Try.prog 13 #[.agg #[.int .i64 ax, .int .i64 ay], .agg #[.int .i64 bx, .int .i64 by0], .agg #[.int .i64 wx, .int .i64 wy], .int .i64 bits, .int .i64 s, .int .i64 mo] w fun e w' => e = .returned (.agg #[.int .i64 r0, .int .i64 r1]) ∧ Gr w w' := by
  go_enter Try.func13, Try.ntmps13
  go_wp2_with fail
  obtain ⟨u0, hU⟩ : ∃ u, u = (((w.alloc (.cells #[.int .i64 ax, .int .i64 ay] 23)).alloc (.cells #[.int .i64 bx, .int .i64 by0] 23)).alloc (.cells #[.int .i64 wx, .int .i64 wy] 23)).alloc (.cells #[.int .i64 0, .int .i64 0] 23) := ⟨_, rfl⟩
  have gu : Gr w u0 := by rw [hU]; exact ((((Gr.refl w).alloc _ _).alloc _ _).alloc _ _).alloc _ _
  have zu : w.heap.size + 1 + 1 + 1 < u0.heap.size := by rw [hU]; simp
  have d0 : u0.cell? ⟨w.heap.size, 0, none⟩ = some (.int .i64 ax) := by rw [hU]; go_simp
  have d1 : u0.cell? ⟨w.heap.size, 1, none⟩ = some (.int .i64 ay) := by rw [hU]; go_simp
  have d2 : u0.cell? ⟨w.heap.size + 1, 0, none⟩ = some (.int .i64 bx) := by rw [hU]; go_simp
  have d3 : u0.cell? ⟨w.heap.size + 1, 1, none⟩ = some (.int .i64 by0) := by rw [hU]; go_simp
  have d4 : u0.cell? ⟨w.heap.size + 1 + 1, 0, none⟩ = some (.int .i64 wx) := by rw [hU]; go_simp
  have d5 : u0.cell? ⟨w.heap.size + 1 + 1, 1, none⟩ = some (.int .i64 wy) := by rw [hU]; go_simp
  have R0 : CxBlock u0 (w.heap.size + 1 + 1 + 1) := by
    rw [hU]
    have := CxBlock.new (((w.alloc (.cells #[.int .i64 ax, .int .i64 ay] 23)).alloc (.cells #[.int .i64 bx, .int .i64 by0] 23)).alloc (.cells #[.int .i64 wx, .int .i64 wy] 23)) 0 0
    simpa only [World.size_alloc] using this
  rw [← hU]
  clear hU
  have z0 : w.heap.size < u0.heap.size := by omega
  have z1 : w.heap.size + 1 < u0.heap.size := by omega
  have z2 : w.heap.size + 1 + 1 < u0.heap.size := by omega
  have KS : ∀ W, Gr u0 W → (W.cell? ⟨w.heap.size, 0, none⟩ = some (.int .i64 ax) ∧ W.cell? ⟨w.heap.size, 1, none⟩ = some (.int .i64 ay) ∧ W.cell? ⟨w.heap.size + 1, 0, none⟩ = some (.int .i64 bx) ∧ W.cell? ⟨w.heap.size + 1, 1, none⟩ = some (.int .i64 by0) ∧ W.cell? ⟨w.heap.size + 1 + 1, 0, none⟩ = some (.int .i64 wx) ∧ W.cell? ⟨w.heap.size + 1 + 1, 1, none⟩ = some (.int .i64 wy) ∧ Gr u0 W) := fun W hG => ⟨(hG.cell (p := ⟨w.heap.size, 0, none⟩) z0).trans d0, (hG.cell (p := ⟨w.heap.size, 1, none⟩) z0).trans d1, (hG.cell (p := ⟨w.heap.size + 1, 0, none⟩) z1).trans d2, (hG.cell (p := ⟨w.heap.size + 1, 1, none⟩) z1).trans d3, (hG.cell (p := ⟨w.heap.size + 1 + 1, 0, none⟩) z2).trans d4, (hG.cell (p := ⟨w.heap.size + 1 + 1, 1, none⟩) z2).trans d5, hG⟩
  have RH := Lib.hid R0
  clear R0
  go_cut [13] from 14 to 20 (fun pv wx' => ∃ B : Nat, pv = .pointer (some ⟨B, 0, none⟩) ∧ u0.heap.size ≤ B ∧ CellsAt wx' B 23 #[.int .i64 t0, .int .i64 t1] ∧ Gr u0 wx')
  case first =>
    go_region_held3 (fun W => W.cell? ⟨w.heap.size, 0, none⟩ = some (.int .i64 ax) ∧ W.cell? ⟨w.heap.size, 1, none⟩ = some (.int .i64 ay) ∧ W.cell? ⟨w.heap.size + 1, 0, none⟩ = some (.int .i64 bx) ∧ W.cell? ⟨w.heap.size + 1, 1, none⟩ = some (.int .i64 by0) ∧ W.cell? ⟨w.heap.size + 1 + 1, 0, none⟩ = some (.int .i64 wx) ∧ W.cell? ⟨w.heap.size + 1 + 1, 1, none⟩ = some (.int .i64 wy) ∧ Gr u0 W)
      (first | ((try go_split_ands); refine KS _ ?_; (first | assumption | exact Gr.refl _ | exact Gr.drew (Gr.refl _) | exact Gr.drew (by assumption) | exact Gr.alloc (by assumption) _ _ | exact Gr.alloc (Gr.refl _) _ _ | exact Gr.alloc (Gr.drew (Gr.refl _)) _ _ | exact Gr.drew (Gr.alloc (Gr.refl _) _ _) | exact Gr.drew (Gr.alloc (by assumption) _ _) | (exact Gr.setCell (Gr.setCell (by assumption) (by exact Gr.size (by assumption)) _) (by exact Gr.size (by assumption)) _) | (exact Gr.setCell (Gr.setCell (by assumption) (by exact Nat.le_refl _) _) (by exact Nat.le_refl _) _))))
      (first | (go_at_call 25; go_split_ands; ((with_reducible refine (HS.out _).mono ?_); rintro e w' ⟨rfl, hg⟩; have hgw : Gr u0 w' := Gr.trans (by first | assumption | exact Gr.refl _ | exact Gr.drew (Gr.refl _) | exact Gr.drew (by assumption) | exact Gr.alloc (by assumption) _ _ | exact Gr.alloc (Gr.refl _) _ _ | exact Gr.alloc (Gr.drew (Gr.refl _)) _ _ | exact Gr.drew (Gr.alloc (Gr.refl _) _ _) | exact Gr.drew (Gr.alloc (by assumption) _ _)) hg; (first | (have hbk := CxBlock.gr (CxBlock.new _ _ _) hg) | (have hbk := CxBlock.gr (CxBlock.drew (CxBlock.new _ _ _)) hg) | (have hbk := CxBlock.gr ‹CxBlock _ _› hg) | (have hbk := CxBlock.gr (CxBlock.drew ‹CxBlock _ _›) hg) | skip))) | (go_at_call 26; go_split_ands; ((with_reducible refine (HT.out _).mono ?_); rintro e w' ⟨rfl, hg⟩; have hgw : Gr u0 w' := Gr.trans (by first | assumption | exact Gr.refl _ | exact Gr.drew (Gr.refl _) | exact Gr.drew (by assumption) | exact Gr.alloc (by assumption) _ _ | exact Gr.alloc (Gr.refl _) _ _ | exact Gr.alloc (Gr.drew (Gr.refl _)) _ _ | exact Gr.drew (Gr.alloc (Gr.refl _) _ _) | exact Gr.drew (Gr.alloc (by assumption) _ _)) hg; (first | (have hbk := CxBlock.gr (CxBlock.new _ _ _) hg) | (have hbk := CxBlock.gr (CxBlock.drew (CxBlock.new _ _ _)) hg) | (have hbk := CxBlock.gr ‹CxBlock _ _› hg) | (have hbk := CxBlock.gr (CxBlock.drew ‹CxBlock _ _›) hg) | skip))) | (go_at_call 28; go_split_ands; ((with_reducible refine (HU.out _).mono ?_); rintro e w' ⟨rfl, hg⟩; have hgw : Gr u0 w' := Gr.trans (by first | assumption | exact Gr.refl _ | exact Gr.drew (Gr.refl _) | exact Gr.drew (by assumption) | exact Gr.alloc (by assumption) _ _ | exact Gr.alloc (Gr.refl _) _ _ | exact Gr.alloc (Gr.drew (Gr.refl _)) _ _ | exact Gr.drew (Gr.alloc (Gr.refl _) _ _) | exact Gr.drew (Gr.alloc (by assumption) _ _)) hg; (first | (have hbk := CxBlock.gr (CxBlock.new _ _ _) hg; obtain ⟨x, y, r2⟩ := hbk.out; have c0 := r2.cell 0; have c1 := r2.cell 1; have f0 := r2.frozen 0; have f1 := r2.frozen 1; simp only [List.getElem?_toArray, List.getElem?_cons_zero, List.getElem?_cons_succ] at c0 c1) | (have hbk := CxBlock.gr (CxBlock.drew (CxBlock.new _ _ _)) hg; obtain ⟨x, y, r2⟩ := hbk.out; have c0 := r2.cell 0; have c1 := r2.cell 1; have f0 := r2.frozen 0; have f1 := r2.frozen 1; simp only [List.getElem?_toArray, List.getElem?_cons_zero, List.getElem?_cons_succ] at c0 c1) | (have hbk := CxBlock.gr ‹CxBlock _ _› hg; obtain ⟨x, y, r2⟩ := hbk.out; have c0 := r2.cell 0; have c1 := r2.cell 1; have f0 := r2.frozen 0; have f1 := r2.frozen 1; simp only [List.getElem?_toArray, List.getElem?_cons_zero, List.getElem?_cons_succ] at c0 c1) | (have hbk := CxBlock.gr (CxBlock.drew ‹CxBlock _ _›) hg; obtain ⟨x, y, r2⟩ := hbk.out; have c0 := r2.cell 0; have c1 := r2.cell 1; have f0 := r2.frozen 0; have f1 := r2.frozen 1; simp only [List.getElem?_toArray, List.getElem?_cons_zero, List.getElem?_cons_succ] at c0 c1) | skip))))
    all_goals
      go_wp2_with fail
      go_meet
      case rel =>
        refine ⟨_, rfl, ?_, ?_, ?_⟩
        · first | exact Nat.le_refl _ | exact Gr.size (by assumption)
        · first | exact CellsAt.new _ _ _ | exact (CellsAt.set (CellsAt.set (by assumption) 0 _) 1 _)
        · (try go_split_ands); assumption
  case rest =>
    obtain ⟨B, rfl, hB, hC, hG⟩ := hcut
    have e0 := hC.cell 0
    have e1 := hC.cell 1
    have hlt := hC.lt
    simp only [List.getElem?_toArray, List.getElem?_cons_zero, List.getElem?_cons_succ] at e0 e1
    have gw := gu.trans hG
    have RB := Lib.hid (RH.out.gr hG)
    clear KS HS HT HU hC hG gu d0 d1 d2 d3 d4 d5 RH
    go_wp2_with fail
    refine (HF.out _).mono ?_
    rintro e w5 ⟨rfl, g5⟩
    have RC := RB.out.gr g5
    obtain ⟨x, y, r2⟩ := RC
    have c0 := r2.cell 0
    have c1 := r2.cell 1
    have f0 := r2.frozen 0
    have f1 := r2.frozen 1
    have hlt2 := r2.lt
    simp only [List.getElem?_toArray, List.getElem?_cons_zero, List.getElem?_cons_succ] at c0 c1
    clear r2
    go_wp2_with fail
    refine bodyPost_ret (v := .agg #[.int .i64 r0, .int .i64 r1]) ?_ rfl ⟨rfl, ?_⟩
    · simp [results, Try.f13, go_sem, c0, c1]
    · exact Gr.setCell (Gr.setCell (gw.trans g5) (by simp; omega) _) (by simp; omega) _

end Go.Proofs.Ytkbfniogannlhaa
