/- What package two's Pair answers. -/
import Derived.Test.YtkbfniogannlhaaTwoCode3
namespace Go.Proofs.Ytkbfniogannlhaa
open Go.ChangeShapes Go.WideShapes Go.ChangeAt Go.RowKit
set_option linter.unusedVariables false

theorem cxs_of_two {W : World} {B : Nat} {a0 a1 b0 b1 : Int} (h : CellsAt W B 23 #[.int .i64 a0, .int .i64 a1, .int .i64 b0, .int .i64 b1]) : CxsAt W (.slice (some ⟨B, 0, none⟩) 2 2) [⟨a0, a1⟩, ⟨b0, b1⟩] := by
  refine ⟨some ⟨B, 0, none⟩, 2, rfl, Nat.le_refl _, by unfold maxLen; omega, fun _ => ⟨B, 0, rfl, h.lt, fun j x hj => ?_⟩⟩
  have h0 := h.cell 0
  have h1 := h.cell 1
  have h2 := h.cell 2
  have h3 := h.cell 3
  match j, hj with
  | 0, hj => cases hj; exact ⟨h0, h1⟩
  | 1, hj => cases hj; exact ⟨h2, h3⟩

theorem cxs_of_one {W : World} {B : Nat} {a0 a1 : Int} (h : CellsAt W B 23 #[.int .i64 a0, .int .i64 a1]) : CxsAt W (.slice (some ⟨B, 0, none⟩) 1 1) [⟨a0, a1⟩] := by
  refine ⟨some ⟨B, 0, none⟩, 1, rfl, Nat.le_refl _, by unfold maxLen; omega, fun _ => ⟨B, 0, rfl, h.lt, fun j x hj => ?_⟩⟩
  have h0 := h.cell 0
  have h1 := h.cell 1
  match j, hj with
  | 0, hj => cases hj; exact ⟨h0, h1⟩

set_option maxHeartbeats 4000000 in
theorem twoPair_arg_of (ax ay bx by0 wx wy b s mo : Int)
    (HS : Hid (∀ W, Calls Try.prog 21 #[.agg #[.int .i64 b, .int .i64 s, .int .i64 mo]] W fun e w' => e = .returned (.bool false) ∧ Gr W w')) (w : World) :
    Calls Try.prog 7 #[.agg #[.int .i64 ax, .int .i64 ay], .agg #[.int .i64 bx, .int .i64 by0], .agg #[.int .i64 wx, .int .i64 wy], .int .i64 b, .int .i64 s, .int .i64 mo] w fun e w' => e = .returned (.tuple #[.agg #[.int .i64 0, .int .i64 0], .agg #[.int .i64 0, .int .i64 0], .int .i64 1]) ∧ Gr w w' := by
  go_enter Try.func7, Try.ntmps7
  go_wp2_with fail
  obtain ⟨u0, hU⟩ : ∃ u, u = ((((((w.alloc (.cells #[.int .i64 ax, .int .i64 ay] 23)).alloc (.cells #[.int .i64 bx, .int .i64 by0] 23)).alloc (.cells #[.int .i64 wx, .int .i64 wy] 23)).alloc (.cells #[.int .i64 0, .int .i64 0] 23)).alloc (.cells #[.int .i64 0, .int .i64 0] 23)).alloc (.cells #[.int .i64 b, .int .i64 s, .int .i64 mo] 44)) := ⟨_, rfl⟩
  have gu : Gr w u0 := by rw [hU]; exact ((((((Gr.refl w).alloc _ _).alloc _ _).alloc _ _).alloc _ _).alloc _ _).alloc _ _
  have R0 : CellsAt u0 (w.heap.size) 23 #[.int .i64 ax, .int .i64 ay] := by
    rw [hU]
    have := ((((((CellsAt.new w 23 #[.int .i64 ax, .int .i64 ay]).alloc (.cells #[.int .i64 bx, .int .i64 by0] 23)).alloc (.cells #[.int .i64 wx, .int .i64 wy] 23)).alloc (.cells #[.int .i64 0, .int .i64 0] 23)).alloc (.cells #[.int .i64 0, .int .i64 0] 23)).alloc (.cells #[.int .i64 b, .int .i64 s, .int .i64 mo] 44))
    simpa only [World.size_alloc] using this
  have R1 : CellsAt u0 (w.heap.size + 1) 23 #[.int .i64 bx, .int .i64 by0] := by
    rw [hU]
    have := (((((CellsAt.new (w.alloc (.cells #[.int .i64 ax, .int .i64 ay] 23)) 23 #[.int .i64 bx, .int .i64 by0]).alloc (.cells #[.int .i64 wx, .int .i64 wy] 23)).alloc (.cells #[.int .i64 0, .int .i64 0] 23)).alloc (.cells #[.int .i64 0, .int .i64 0] 23)).alloc (.cells #[.int .i64 b, .int .i64 s, .int .i64 mo] 44))
    simpa only [World.size_alloc] using this
  have R2 : CellsAt u0 (w.heap.size + 1 + 1) 23 #[.int .i64 wx, .int .i64 wy] := by
    rw [hU]
    have := ((((CellsAt.new ((w.alloc (.cells #[.int .i64 ax, .int .i64 ay] 23)).alloc (.cells #[.int .i64 bx, .int .i64 by0] 23)) 23 #[.int .i64 wx, .int .i64 wy]).alloc (.cells #[.int .i64 0, .int .i64 0] 23)).alloc (.cells #[.int .i64 0, .int .i64 0] 23)).alloc (.cells #[.int .i64 b, .int .i64 s, .int .i64 mo] 44))
    simpa only [World.size_alloc] using this
  have R3 : CellsAt u0 (w.heap.size + 1 + 1 + 1) 23 #[.int .i64 0, .int .i64 0] := by
    rw [hU]
    have := (((CellsAt.new (((w.alloc (.cells #[.int .i64 ax, .int .i64 ay] 23)).alloc (.cells #[.int .i64 bx, .int .i64 by0] 23)).alloc (.cells #[.int .i64 wx, .int .i64 wy] 23)) 23 #[.int .i64 0, .int .i64 0]).alloc (.cells #[.int .i64 0, .int .i64 0] 23)).alloc (.cells #[.int .i64 b, .int .i64 s, .int .i64 mo] 44))
    simpa only [World.size_alloc] using this
  have R4 : CellsAt u0 (w.heap.size + 1 + 1 + 1 + 1) 23 #[.int .i64 0, .int .i64 0] := by
    rw [hU]
    have := ((CellsAt.new ((((w.alloc (.cells #[.int .i64 ax, .int .i64 ay] 23)).alloc (.cells #[.int .i64 bx, .int .i64 by0] 23)).alloc (.cells #[.int .i64 wx, .int .i64 wy] 23)).alloc (.cells #[.int .i64 0, .int .i64 0] 23)) 23 #[.int .i64 0, .int .i64 0]).alloc (.cells #[.int .i64 b, .int .i64 s, .int .i64 mo] 44))
    simpa only [World.size_alloc] using this
  rw [← hU]
  clear hU
  refine (HS.out _).mono ?_
  rintro e u1 ⟨rfl, g1⟩
  have gw1 := gu.trans g1
  have q3 := R3.gr g1
  have c30 := q3.cell 0
  have f30 := q3.frozen 0
  have c31 := q3.cell 1
  have f31 := q3.frozen 1
  have l3 := q3.lt
  have q4 := R4.gr g1
  have c40 := q4.cell 0
  have f40 := q4.frozen 0
  have c41 := q4.cell 1
  have f41 := q4.frozen 1
  have l4 := q4.lt
  simp only [List.getElem?_toArray, List.getElem?_cons_zero, List.getElem?_cons_succ] at c30 c31 c40 c41
  clear R0 R1 R2 R3 R4 q3 q4 g1 gu
  go_wp2_with fail
  refine bodyPost_ret (v := .tuple #[.agg #[.int .i64 0, .int .i64 0], .agg #[.int .i64 0, .int .i64 0], .int .i64 1]) ?_ rfl ⟨rfl, ?_⟩
  · simp [results, Try.f7, go_sem, c30, c31, c40, c41]
  · exact by repeat (first | exact Gr.refl _ | assumption | apply Gr.drew | apply Gr.drewN | (refine Gr.setCell ?_ (by first | (simp; done) | (simp; omega)) _))

set_option maxHeartbeats 4000000 in
theorem twoPair_r1_of (ax ay bx by0 wx wy b s mo : Int)
    (HS : Hid (∀ W, Calls Try.prog 21 #[.agg #[.int .i64 b, .int .i64 s, .int .i64 mo]] W fun e w' => e = .returned (.bool true) ∧ Gr W w'))
    (HN : Hid (∀ v W, CxsAt W v [⟨ax, ay⟩, ⟨bx, by0⟩] → Calls Try.prog 22 #[.int .i64 2147483648, v] W fun e w' => e = .returned (.bool false) ∧ Gr W w')) (w : World) :
    Calls Try.prog 7 #[.agg #[.int .i64 ax, .int .i64 ay], .agg #[.int .i64 bx, .int .i64 by0], .agg #[.int .i64 wx, .int .i64 wy], .int .i64 b, .int .i64 s, .int .i64 mo] w fun e w' => e = .returned (.tuple #[.agg #[.int .i64 0, .int .i64 0], .agg #[.int .i64 0, .int .i64 0], .int .i64 2]) ∧ Gr w w' := by
  go_enter Try.func7, Try.ntmps7
  go_wp2_with fail
  obtain ⟨u0, hU⟩ : ∃ u, u = ((((((w.alloc (.cells #[.int .i64 ax, .int .i64 ay] 23)).alloc (.cells #[.int .i64 bx, .int .i64 by0] 23)).alloc (.cells #[.int .i64 wx, .int .i64 wy] 23)).alloc (.cells #[.int .i64 0, .int .i64 0] 23)).alloc (.cells #[.int .i64 0, .int .i64 0] 23)).alloc (.cells #[.int .i64 b, .int .i64 s, .int .i64 mo] 44)) := ⟨_, rfl⟩
  have gu : Gr w u0 := by rw [hU]; exact ((((((Gr.refl w).alloc _ _).alloc _ _).alloc _ _).alloc _ _).alloc _ _).alloc _ _
  have R0 : CellsAt u0 (w.heap.size) 23 #[.int .i64 ax, .int .i64 ay] := by
    rw [hU]
    have := ((((((CellsAt.new w 23 #[.int .i64 ax, .int .i64 ay]).alloc (.cells #[.int .i64 bx, .int .i64 by0] 23)).alloc (.cells #[.int .i64 wx, .int .i64 wy] 23)).alloc (.cells #[.int .i64 0, .int .i64 0] 23)).alloc (.cells #[.int .i64 0, .int .i64 0] 23)).alloc (.cells #[.int .i64 b, .int .i64 s, .int .i64 mo] 44))
    simpa only [World.size_alloc] using this
  have R1 : CellsAt u0 (w.heap.size + 1) 23 #[.int .i64 bx, .int .i64 by0] := by
    rw [hU]
    have := (((((CellsAt.new (w.alloc (.cells #[.int .i64 ax, .int .i64 ay] 23)) 23 #[.int .i64 bx, .int .i64 by0]).alloc (.cells #[.int .i64 wx, .int .i64 wy] 23)).alloc (.cells #[.int .i64 0, .int .i64 0] 23)).alloc (.cells #[.int .i64 0, .int .i64 0] 23)).alloc (.cells #[.int .i64 b, .int .i64 s, .int .i64 mo] 44))
    simpa only [World.size_alloc] using this
  have R2 : CellsAt u0 (w.heap.size + 1 + 1) 23 #[.int .i64 wx, .int .i64 wy] := by
    rw [hU]
    have := ((((CellsAt.new ((w.alloc (.cells #[.int .i64 ax, .int .i64 ay] 23)).alloc (.cells #[.int .i64 bx, .int .i64 by0] 23)) 23 #[.int .i64 wx, .int .i64 wy]).alloc (.cells #[.int .i64 0, .int .i64 0] 23)).alloc (.cells #[.int .i64 0, .int .i64 0] 23)).alloc (.cells #[.int .i64 b, .int .i64 s, .int .i64 mo] 44))
    simpa only [World.size_alloc] using this
  have R3 : CellsAt u0 (w.heap.size + 1 + 1 + 1) 23 #[.int .i64 0, .int .i64 0] := by
    rw [hU]
    have := (((CellsAt.new (((w.alloc (.cells #[.int .i64 ax, .int .i64 ay] 23)).alloc (.cells #[.int .i64 bx, .int .i64 by0] 23)).alloc (.cells #[.int .i64 wx, .int .i64 wy] 23)) 23 #[.int .i64 0, .int .i64 0]).alloc (.cells #[.int .i64 0, .int .i64 0] 23)).alloc (.cells #[.int .i64 b, .int .i64 s, .int .i64 mo] 44))
    simpa only [World.size_alloc] using this
  have R4 : CellsAt u0 (w.heap.size + 1 + 1 + 1 + 1) 23 #[.int .i64 0, .int .i64 0] := by
    rw [hU]
    have := ((CellsAt.new ((((w.alloc (.cells #[.int .i64 ax, .int .i64 ay] 23)).alloc (.cells #[.int .i64 bx, .int .i64 by0] 23)).alloc (.cells #[.int .i64 wx, .int .i64 wy] 23)).alloc (.cells #[.int .i64 0, .int .i64 0] 23)) 23 #[.int .i64 0, .int .i64 0]).alloc (.cells #[.int .i64 b, .int .i64 s, .int .i64 mo] 44))
    simpa only [World.size_alloc] using this
  rw [← hU]
  clear hU
  refine (HS.out _).mono ?_
  rintro e u1 ⟨rfl, g1⟩
  have gw1 := gu.trans g1
  have e00 := R0.cell 0
  have e01 := R0.cell 1
  have e10 := R1.cell 0
  have e11 := R1.cell 1
  have e20 := R2.cell 0
  have e21 := R2.cell 1
  simp only [List.getElem?_toArray, List.getElem?_cons_zero, List.getElem?_cons_succ] at e00 e01 e10 e11 e20 e21
  have lz0 := R0.lt
  have lz1 := R1.lt
  have lz2 := R2.lt
  have KS : ∀ W, Gr u0 W → (W.cell? ⟨w.heap.size, 0, none⟩ = some (.int .i64 ax) ∧ W.cell? ⟨w.heap.size, 1, none⟩ = some (.int .i64 ay) ∧ W.cell? ⟨w.heap.size + 1, 0, none⟩ = some (.int .i64 bx) ∧ W.cell? ⟨w.heap.size + 1, 1, none⟩ = some (.int .i64 by0) ∧ W.cell? ⟨w.heap.size + 1 + 1, 0, none⟩ = some (.int .i64 wx) ∧ W.cell? ⟨w.heap.size + 1 + 1, 1, none⟩ = some (.int .i64 wy) ∧ Gr u0 W) := fun W hG => ⟨(hG.cell (p := ⟨w.heap.size, 0, none⟩) lz0).trans e00, (hG.cell (p := ⟨w.heap.size, 1, none⟩) lz0).trans e01, (hG.cell (p := ⟨w.heap.size + 1, 0, none⟩) lz1).trans e10, (hG.cell (p := ⟨w.heap.size + 1, 1, none⟩) lz1).trans e11, (hG.cell (p := ⟨w.heap.size + 1 + 1, 0, none⟩) lz2).trans e20, (hG.cell (p := ⟨w.heap.size + 1 + 1, 1, none⟩) lz2).trans e21, hG⟩
  clear e00 e01 e10 e11 e20 e21
  go_wp2_with fail
  refine wp_region_held_drew (S := fun W => W.cell? ⟨w.heap.size, 0, none⟩ = some (.int .i64 ax) ∧ W.cell? ⟨w.heap.size, 1, none⟩ = some (.int .i64 ay) ∧ W.cell? ⟨w.heap.size + 1, 0, none⟩ = some (.int .i64 bx) ∧ W.cell? ⟨w.heap.size + 1, 1, none⟩ = some (.int .i64 by0) ∧ W.cell? ⟨w.heap.size + 1 + 1, 0, none⟩ = some (.int .i64 wx) ∧ W.cell? ⟨w.heap.size + 1 + 1, 1, none⟩ = some (.int .i64 wy) ∧ Gr u0 W) rfl (KS _ (Gr.drew g1)) (fun hS => ?_)
  refine wpAnyH_take (i := 0) (v := ?_) rfl (by kernel_rfl) (by kernel_rfl) (by kernel_rfl) (fun _ _ _ h => h) (Or.inl ⟨by rfl, ?_⟩) (by assumption) ?_
  rotate_left
  · (intro w hSw; (try dsimp only at hSw); go_split_ands; go_simp; try with_reducible rfl)
  try simp only [Act.put, List.setIfInBounds_toArray, List.set_cons_zero, List.set_cons_succ, List.getElem_toArray, List.getElem_cons_zero]
  refine wpAnyH_take (i := 1) (v := ?_) rfl (by kernel_rfl) (by kernel_rfl) (by kernel_rfl) (fun _ _ _ h => h) (Or.inl ⟨by rfl, ?_⟩) (by assumption) ?_
  rotate_left
  · (intro w hSw; (try dsimp only at hSw); go_split_ands; go_simp; try with_reducible rfl)
  try simp only [Act.put, List.setIfInBounds_toArray, List.set_cons_zero, List.set_cons_succ, List.getElem_toArray, List.getElem_cons_zero, List.getElem_cons_succ]
  refine wpAnyH_ready (rs := [2]) (by kernel_rfl) (by simp) ?_
  refine AllReadyH.cons rfl (fun K hK => ?_) AllReadyH.nil
  go_simp
  have hK3 := cxs_of_two (CellsAt.new u1.drew 23 #[.int .i64 ax, .int .i64 ay, .int .i64 bx, .int .i64 by0])
  have g3 : Gr u0 (u1.drew.alloc (.cells #[.int .i64 ax, .int .i64 ay, .int .i64 bx, .int .i64 by0] 23)) := (Gr.drew g1).alloc _ _
  refine hK.out _ _ ?_ (fun hHeld => ?_)
  · (exact KS _ g3)
  clear hK K
  try simp only [Act.put, List.setIfInBounds_toArray, List.set_cons_zero, List.set_cons_succ, List.getElem_toArray, List.getElem_cons_zero, List.getElem_cons_succ]
  refine wpAnyH_ready (rs := [3]) (by kernel_rfl) (by simp) ?_
  refine AllReadyH.cons rfl (fun K hK => ?_) AllReadyH.nil
  go_simp
  go_at_call 22
  refine (HN.out _ _ hK3).mono ?_
  rintro e u4 ⟨rfl, g4⟩
  have gu4 := g3.trans g4
  refine hK.out _ _ ?_ (fun hHeld => ?_)
  · (exact KS _ gu4)
  clear hK K
  try simp only [Act.put, List.setIfInBounds_toArray, List.set_cons_zero, List.set_cons_succ, List.getElem_toArray, List.getElem_cons_zero, List.getElem_cons_succ]
  refine wpAnyH_take (i := 4) (v := ?_) rfl (by kernel_rfl) (by kernel_rfl) (by kernel_rfl) (fun _ _ _ h => h) (Or.inl ⟨by rfl, ?_⟩) (by assumption) ?_
  rotate_left
  · (intro w hSw; (try dsimp only at hSw); go_split_ands; go_simp; try with_reducible rfl)
  try simp only [Act.put, List.setIfInBounds_toArray, List.set_cons_zero, List.set_cons_succ, List.getElem_toArray, List.getElem_cons_zero, List.getElem_cons_succ]
  refine wpAnyH_take (i := 5) (v := ?_) rfl (by kernel_rfl) (by kernel_rfl) (by kernel_rfl) (fun _ _ _ h => h) (Or.inl ⟨by rfl, ?_⟩) (by assumption) ?_
  rotate_left
  · (intro w hSw; (try dsimp only at hSw); go_split_ands; go_simp; try with_reducible rfl)
  try simp only [Act.put, List.setIfInBounds_toArray, List.set_cons_zero, List.set_cons_succ, List.getElem_toArray, List.getElem_cons_zero, List.getElem_cons_succ]
  refine wpAnyH_take (i := 6) (v := undef) rfl (by kernel_rfl) (by kernel_rfl) (by kernel_rfl) (fun _ _ _ h => h) (Or.inr ⟨by rfl, rfl⟩) (by assumption) ?_
  try simp only [Act.put, List.setIfInBounds_toArray, List.set_cons_zero, List.set_cons_succ, List.getElem_toArray, List.getElem_cons_zero, List.getElem_cons_succ]
  refine wpAnyH_take (i := 7) (v := undef) rfl (by kernel_rfl) (by kernel_rfl) (by kernel_rfl) (fun _ _ _ h => h) (Or.inr ⟨by rfl, rfl⟩) (by assumption) ?_
  try simp only [Act.put, List.setIfInBounds_toArray, List.set_cons_zero, List.set_cons_succ, List.getElem_toArray, List.getElem_cons_zero, List.getElem_cons_succ]
  refine wpAnyH_take (i := 8) (v := undef) rfl (by kernel_rfl) (by kernel_rfl) (by kernel_rfl) (fun _ _ _ h => h) (Or.inr ⟨by rfl, rfl⟩) (by assumption) ?_
  try simp only [Act.put, List.setIfInBounds_toArray, List.set_cons_zero, List.set_cons_succ, List.getElem_toArray, List.getElem_cons_zero, List.getElem_cons_succ]
  refine wpAnyH_take (i := 9) (v := undef) rfl (by kernel_rfl) (by kernel_rfl) (by kernel_rfl) (fun _ _ _ h => h) (Or.inr ⟨by rfl, rfl⟩) (by assumption) ?_
  try simp only [Act.put, List.setIfInBounds_toArray, List.set_cons_zero, List.set_cons_succ, List.getElem_toArray, List.getElem_cons_zero, List.getElem_cons_succ]
  refine wpAnyH_take (i := 10) (v := undef) rfl (by kernel_rfl) (by kernel_rfl) (by kernel_rfl) (fun _ _ _ h => h) (Or.inr ⟨by rfl, rfl⟩) (by assumption) ?_
  try simp only [Act.put, List.setIfInBounds_toArray, List.set_cons_zero, List.set_cons_succ, List.getElem_toArray, List.getElem_cons_zero, List.getElem_cons_succ]
  refine wpAnyH_take (i := 11) (v := undef) rfl (by kernel_rfl) (by kernel_rfl) (by kernel_rfl) (fun _ _ _ h => h) (Or.inr ⟨by rfl, rfl⟩) (by assumption) ?_
  try simp only [Act.put, List.setIfInBounds_toArray, List.set_cons_zero, List.set_cons_succ, List.getElem_toArray, List.getElem_cons_zero, List.getElem_cons_succ]
  refine wpAnyH_take (i := 12) (v := ?_) rfl (by kernel_rfl) (by kernel_rfl) (by kernel_rfl) (fun _ _ _ h => h) (Or.inl ⟨by rfl, ?_⟩) (by assumption) ?_
  rotate_left
  · (intro w hSw; (try dsimp only at hSw); go_split_ands; go_simp; try with_reducible rfl)
  try simp only [Act.put, List.setIfInBounds_toArray, List.set_cons_zero, List.set_cons_succ, List.getElem_toArray, List.getElem_cons_zero, List.getElem_cons_succ]
  refine wpAnyH_done (by kernel_rfl) ?_ _
  have gwl := gu.trans gu4
  have q3 := R3.gr gu4
  have c30 := q3.cell 0
  have f30 := q3.frozen 0
  have c31 := q3.cell 1
  have f31 := q3.frozen 1
  have l3 := q3.lt
  have q4 := R4.gr gu4
  have c40 := q4.cell 0
  have f40 := q4.frozen 0
  have c41 := q4.cell 1
  have f41 := q4.frozen 1
  have l4 := q4.lt
  simp only [List.getElem?_toArray, List.getElem?_cons_zero, List.getElem?_cons_succ] at c30 c31 c40 c41
  clear R0 R1 R2 R3 R4 q3 q4 KS HS HN gu g1 gw1
  go_wp2_with fail
  refine bodyPost_ret (v := .tuple #[.agg #[.int .i64 0, .int .i64 0], .agg #[.int .i64 0, .int .i64 0], .int .i64 2]) ?_ rfl ⟨rfl, ?_⟩
  · simp [results, Try.f7, go_sem, c30, c31, c40, c41]
  · exact by repeat (first | exact Gr.refl _ | assumption | apply Gr.drew | apply Gr.drewN | (refine Gr.setCell ?_ (by first | (simp; done) | (simp; omega)) _))

set_option maxHeartbeats 4000000 in
theorem twoPair_r2_of (ax ay bx by0 wx wy b s mo P : Int)
    (HS : Hid (∀ W, Calls Try.prog 21 #[.agg #[.int .i64 b, .int .i64 s, .int .i64 mo]] W fun e w' => e = .returned (.bool true) ∧ Gr W w'))
    (HN : Hid (∀ v W, CxsAt W v [⟨ax, ay⟩, ⟨bx, by0⟩] → Calls Try.prog 22 #[.int .i64 2147483648, v] W fun e w' => e = .returned (.bool true) ∧ Gr W w'))
    (hP : IntKind.i64.wrap (2 ^ min b.toNat 64) = P) (hb0 : 0 ≤ b) (HR : Hid (∀ v W, CxsAt W v [⟨wx, wy⟩] → Calls Try.prog 22 #[.int .i64 P, v] W fun e w' => e = .returned (.bool false) ∧ Gr W w')) (w : World) :
    Calls Try.prog 7 #[.agg #[.int .i64 ax, .int .i64 ay], .agg #[.int .i64 bx, .int .i64 by0], .agg #[.int .i64 wx, .int .i64 wy], .int .i64 b, .int .i64 s, .int .i64 mo] w fun e w' => e = .returned (.tuple #[.agg #[.int .i64 0, .int .i64 0], .agg #[.int .i64 0, .int .i64 0], .int .i64 2]) ∧ Gr w w' := by
  go_enter Try.func7, Try.ntmps7
  go_wp2_with fail
  obtain ⟨u0, hU⟩ : ∃ u, u = ((((((w.alloc (.cells #[.int .i64 ax, .int .i64 ay] 23)).alloc (.cells #[.int .i64 bx, .int .i64 by0] 23)).alloc (.cells #[.int .i64 wx, .int .i64 wy] 23)).alloc (.cells #[.int .i64 0, .int .i64 0] 23)).alloc (.cells #[.int .i64 0, .int .i64 0] 23)).alloc (.cells #[.int .i64 b, .int .i64 s, .int .i64 mo] 44)) := ⟨_, rfl⟩
  have gu : Gr w u0 := by rw [hU]; exact ((((((Gr.refl w).alloc _ _).alloc _ _).alloc _ _).alloc _ _).alloc _ _).alloc _ _
  have R0 : CellsAt u0 (w.heap.size) 23 #[.int .i64 ax, .int .i64 ay] := by
    rw [hU]
    have := ((((((CellsAt.new w 23 #[.int .i64 ax, .int .i64 ay]).alloc (.cells #[.int .i64 bx, .int .i64 by0] 23)).alloc (.cells #[.int .i64 wx, .int .i64 wy] 23)).alloc (.cells #[.int .i64 0, .int .i64 0] 23)).alloc (.cells #[.int .i64 0, .int .i64 0] 23)).alloc (.cells #[.int .i64 b, .int .i64 s, .int .i64 mo] 44))
    simpa only [World.size_alloc] using this
  have R1 : CellsAt u0 (w.heap.size + 1) 23 #[.int .i64 bx, .int .i64 by0] := by
    rw [hU]
    have := (((((CellsAt.new (w.alloc (.cells #[.int .i64 ax, .int .i64 ay] 23)) 23 #[.int .i64 bx, .int .i64 by0]).alloc (.cells #[.int .i64 wx, .int .i64 wy] 23)).alloc (.cells #[.int .i64 0, .int .i64 0] 23)).alloc (.cells #[.int .i64 0, .int .i64 0] 23)).alloc (.cells #[.int .i64 b, .int .i64 s, .int .i64 mo] 44))
    simpa only [World.size_alloc] using this
  have R2 : CellsAt u0 (w.heap.size + 1 + 1) 23 #[.int .i64 wx, .int .i64 wy] := by
    rw [hU]
    have := ((((CellsAt.new ((w.alloc (.cells #[.int .i64 ax, .int .i64 ay] 23)).alloc (.cells #[.int .i64 bx, .int .i64 by0] 23)) 23 #[.int .i64 wx, .int .i64 wy]).alloc (.cells #[.int .i64 0, .int .i64 0] 23)).alloc (.cells #[.int .i64 0, .int .i64 0] 23)).alloc (.cells #[.int .i64 b, .int .i64 s, .int .i64 mo] 44))
    simpa only [World.size_alloc] using this
  have R3 : CellsAt u0 (w.heap.size + 1 + 1 + 1) 23 #[.int .i64 0, .int .i64 0] := by
    rw [hU]
    have := (((CellsAt.new (((w.alloc (.cells #[.int .i64 ax, .int .i64 ay] 23)).alloc (.cells #[.int .i64 bx, .int .i64 by0] 23)).alloc (.cells #[.int .i64 wx, .int .i64 wy] 23)) 23 #[.int .i64 0, .int .i64 0]).alloc (.cells #[.int .i64 0, .int .i64 0] 23)).alloc (.cells #[.int .i64 b, .int .i64 s, .int .i64 mo] 44))
    simpa only [World.size_alloc] using this
  have R4 : CellsAt u0 (w.heap.size + 1 + 1 + 1 + 1) 23 #[.int .i64 0, .int .i64 0] := by
    rw [hU]
    have := ((CellsAt.new ((((w.alloc (.cells #[.int .i64 ax, .int .i64 ay] 23)).alloc (.cells #[.int .i64 bx, .int .i64 by0] 23)).alloc (.cells #[.int .i64 wx, .int .i64 wy] 23)).alloc (.cells #[.int .i64 0, .int .i64 0] 23)) 23 #[.int .i64 0, .int .i64 0]).alloc (.cells #[.int .i64 b, .int .i64 s, .int .i64 mo] 44))
    simpa only [World.size_alloc] using this
  rw [← hU]
  clear hU
  refine (HS.out _).mono ?_
  rintro e u1 ⟨rfl, g1⟩
  have gw1 := gu.trans g1
  have e00 := R0.cell 0
  have e01 := R0.cell 1
  have e10 := R1.cell 0
  have e11 := R1.cell 1
  have e20 := R2.cell 0
  have e21 := R2.cell 1
  simp only [List.getElem?_toArray, List.getElem?_cons_zero, List.getElem?_cons_succ] at e00 e01 e10 e11 e20 e21
  have lz0 := R0.lt
  have lz1 := R1.lt
  have lz2 := R2.lt
  have KS : ∀ W, Gr u0 W → (W.cell? ⟨w.heap.size, 0, none⟩ = some (.int .i64 ax) ∧ W.cell? ⟨w.heap.size, 1, none⟩ = some (.int .i64 ay) ∧ W.cell? ⟨w.heap.size + 1, 0, none⟩ = some (.int .i64 bx) ∧ W.cell? ⟨w.heap.size + 1, 1, none⟩ = some (.int .i64 by0) ∧ W.cell? ⟨w.heap.size + 1 + 1, 0, none⟩ = some (.int .i64 wx) ∧ W.cell? ⟨w.heap.size + 1 + 1, 1, none⟩ = some (.int .i64 wy) ∧ Gr u0 W) := fun W hG => ⟨(hG.cell (p := ⟨w.heap.size, 0, none⟩) lz0).trans e00, (hG.cell (p := ⟨w.heap.size, 1, none⟩) lz0).trans e01, (hG.cell (p := ⟨w.heap.size + 1, 0, none⟩) lz1).trans e10, (hG.cell (p := ⟨w.heap.size + 1, 1, none⟩) lz1).trans e11, (hG.cell (p := ⟨w.heap.size + 1 + 1, 0, none⟩) lz2).trans e20, (hG.cell (p := ⟨w.heap.size + 1 + 1, 1, none⟩) lz2).trans e21, hG⟩
  clear e00 e01 e10 e11 e20 e21
  go_wp2_with fail
  refine wp_region_held_drew (S := fun W => W.cell? ⟨w.heap.size, 0, none⟩ = some (.int .i64 ax) ∧ W.cell? ⟨w.heap.size, 1, none⟩ = some (.int .i64 ay) ∧ W.cell? ⟨w.heap.size + 1, 0, none⟩ = some (.int .i64 bx) ∧ W.cell? ⟨w.heap.size + 1, 1, none⟩ = some (.int .i64 by0) ∧ W.cell? ⟨w.heap.size + 1 + 1, 0, none⟩ = some (.int .i64 wx) ∧ W.cell? ⟨w.heap.size + 1 + 1, 1, none⟩ = some (.int .i64 wy) ∧ Gr u0 W) rfl (KS _ (Gr.drew g1)) (fun hS => ?_)
  refine wpAnyH_take (i := 0) (v := ?_) rfl (by kernel_rfl) (by kernel_rfl) (by kernel_rfl) (fun _ _ _ h => h) (Or.inl ⟨by rfl, ?_⟩) (by assumption) ?_
  rotate_left
  · (intro w hSw; (try dsimp only at hSw); go_split_ands; go_simp; try with_reducible rfl)
  try simp only [Act.put, List.setIfInBounds_toArray, List.set_cons_zero, List.set_cons_succ, List.getElem_toArray, List.getElem_cons_zero]
  refine wpAnyH_take (i := 1) (v := ?_) rfl (by kernel_rfl) (by kernel_rfl) (by kernel_rfl) (fun _ _ _ h => h) (Or.inl ⟨by rfl, ?_⟩) (by assumption) ?_
  rotate_left
  · (intro w hSw; (try dsimp only at hSw); go_split_ands; go_simp; try with_reducible rfl)
  try simp only [Act.put, List.setIfInBounds_toArray, List.set_cons_zero, List.set_cons_succ, List.getElem_toArray, List.getElem_cons_zero, List.getElem_cons_succ]
  refine wpAnyH_ready (rs := [2]) (by kernel_rfl) (by simp) ?_
  refine AllReadyH.cons rfl (fun K hK => ?_) AllReadyH.nil
  go_simp
  have hK3 := cxs_of_two (CellsAt.new u1.drew 23 #[.int .i64 ax, .int .i64 ay, .int .i64 bx, .int .i64 by0])
  have g3 : Gr u0 (u1.drew.alloc (.cells #[.int .i64 ax, .int .i64 ay, .int .i64 bx, .int .i64 by0] 23)) := (Gr.drew g1).alloc _ _
  refine hK.out _ _ ?_ (fun hHeld => ?_)
  · (exact KS _ g3)
  clear hK K
  try simp only [Act.put, List.setIfInBounds_toArray, List.set_cons_zero, List.set_cons_succ, List.getElem_toArray, List.getElem_cons_zero, List.getElem_cons_succ]
  refine wpAnyH_ready (rs := [3]) (by kernel_rfl) (by simp) ?_
  refine AllReadyH.cons rfl (fun K hK => ?_) AllReadyH.nil
  go_simp
  go_at_call 22
  refine (HN.out _ _ hK3).mono ?_
  rintro e u4 ⟨rfl, g4⟩
  have gu4 := g3.trans g4
  refine hK.out _ _ ?_ (fun hHeld => ?_)
  · (exact KS _ gu4)
  clear hK K
  try simp only [Act.put, List.setIfInBounds_toArray, List.set_cons_zero, List.set_cons_succ, List.getElem_toArray, List.getElem_cons_zero, List.getElem_cons_succ]
  refine wpAnyH_take (i := 4) (v := ?_) rfl (by kernel_rfl) (by kernel_rfl) (by kernel_rfl) (fun _ _ _ h => h) (Or.inl ⟨by rfl, ?_⟩) (by assumption) ?_
  rotate_left
  · (intro w hSw; (try dsimp only at hSw); go_split_ands; go_simp; try with_reducible rfl)
  try simp only [Act.put, List.setIfInBounds_toArray, List.set_cons_zero, List.set_cons_succ, List.getElem_toArray, List.getElem_cons_zero, List.getElem_cons_succ]
  refine wpAnyH_take (i := 5) (v := ?_) rfl (by kernel_rfl) (by kernel_rfl) (by kernel_rfl) (fun _ _ _ h => h) (Or.inl ⟨by rfl, ?_⟩) (by assumption) ?_
  rotate_left
  · (intro w hSw; (try dsimp only at hSw); go_split_ands; go_simp; try with_reducible rfl)
  try simp only [Act.put, List.setIfInBounds_toArray, List.set_cons_zero, List.set_cons_succ, List.getElem_toArray, List.getElem_cons_zero, List.getElem_cons_succ]
  refine wpAnyH_take (i := 6) (v := ?_) rfl (by kernel_rfl) (by kernel_rfl) (by kernel_rfl) (fun _ _ _ h => h) (Or.inl ⟨by rfl, ?_⟩) (by assumption) ?_
  rotate_left
  · (intro w hSw; (try dsimp only at hSw); go_split_ands; go_simp; try with_reducible rfl)
  try simp only [Act.put, List.setIfInBounds_toArray, List.set_cons_zero, List.set_cons_succ, List.getElem_toArray, List.getElem_cons_zero, List.getElem_cons_succ]
  refine wpAnyH_take (i := 7) (v := ?_) rfl (by kernel_rfl) (by kernel_rfl) (by kernel_rfl) (fun _ _ _ h => h) (Or.inl ⟨by rfl, ?_⟩) (by assumption) ?_
  rotate_left
  · (intro w hSw; (try dsimp only at hSw); go_split_ands; go_simp; try with_reducible rfl)
  try simp only [Act.put, List.setIfInBounds_toArray, List.set_cons_zero, List.set_cons_succ, List.getElem_toArray, List.getElem_cons_zero, List.getElem_cons_succ]
  refine wpAnyH_take (i := 8) (v := ?_) rfl (by kernel_rfl) (by kernel_rfl) (by kernel_rfl) (fun _ _ _ h => h) (Or.inl ⟨by rfl, ?_⟩) (by assumption) ?_
  rotate_left
  · (intro w hSw; (try dsimp only at hSw); go_split_ands; go_simp; try with_reducible rfl)
  try simp only [Act.put, List.setIfInBounds_toArray, List.set_cons_zero, List.set_cons_succ, List.getElem_toArray, List.getElem_cons_zero, List.getElem_cons_succ]
  refine wpAnyH_ready (rs := [9]) (by kernel_rfl) (by simp) ?_
  refine AllReadyH.cons rfl (fun K hK => ?_) AllReadyH.nil
  go_simp
  have hK5 := cxs_of_one (CellsAt.new u4 23 #[.int .i64 wx, .int .i64 wy])
  have g5 : Gr u0 (u4.alloc (.cells #[.int .i64 wx, .int .i64 wy] 23)) := gu4.alloc _ _
  refine hK.out _ _ ?_ (fun hHeld => ?_)
  · (exact KS _ g5)
  clear hK K
  try simp only [Act.put, List.setIfInBounds_toArray, List.set_cons_zero, List.set_cons_succ, List.getElem_toArray, List.getElem_cons_zero, List.getElem_cons_succ]
  refine wpAnyH_ready (rs := [10]) (by kernel_rfl) (by simp) ?_
  refine AllReadyH.cons rfl (fun K hK => ?_) AllReadyH.nil
  go_simp
  go_at_call 22
  refine (HR.out _ _ hK5).mono ?_
  rintro e u6 ⟨rfl, g6⟩
  have gu6 := g5.trans g6
  refine hK.out _ _ ?_ (fun hHeld => ?_)
  · (exact KS _ gu6)
  clear hK K
  try simp only [Act.put, List.setIfInBounds_toArray, List.set_cons_zero, List.set_cons_succ, List.getElem_toArray, List.getElem_cons_zero, List.getElem_cons_succ]
  refine wpAnyH_take (i := 11) (v := ?_) rfl (by kernel_rfl) (by kernel_rfl) (by kernel_rfl) (fun _ _ _ h => h) (Or.inl ⟨by rfl, ?_⟩) (by assumption) ?_
  rotate_left
  · (intro w hSw; (try dsimp only at hSw); go_split_ands; go_simp; try with_reducible rfl)
  try simp only [Act.put, List.setIfInBounds_toArray, List.set_cons_zero, List.set_cons_succ, List.getElem_toArray, List.getElem_cons_zero, List.getElem_cons_succ]
  refine wpAnyH_take (i := 12) (v := ?_) rfl (by kernel_rfl) (by kernel_rfl) (by kernel_rfl) (fun _ _ _ h => h) (Or.inl ⟨by rfl, ?_⟩) (by assumption) ?_
  rotate_left
  · (intro w hSw; (try dsimp only at hSw); go_split_ands; go_simp; try with_reducible rfl)
  try simp only [Act.put, List.setIfInBounds_toArray, List.set_cons_zero, List.set_cons_succ, List.getElem_toArray, List.getElem_cons_zero, List.getElem_cons_succ]
  refine wpAnyH_done (by kernel_rfl) ?_ _
  have gwl := gu.trans gu6
  have q3 := R3.gr gu6
  have c30 := q3.cell 0
  have f30 := q3.frozen 0
  have c31 := q3.cell 1
  have f31 := q3.frozen 1
  have l3 := q3.lt
  have q4 := R4.gr gu6
  have c40 := q4.cell 0
  have f40 := q4.frozen 0
  have c41 := q4.cell 1
  have f41 := q4.frozen 1
  have l4 := q4.lt
  simp only [List.getElem?_toArray, List.getElem?_cons_zero, List.getElem?_cons_succ] at c30 c31 c40 c41
  clear R0 R1 R2 R3 R4 q3 q4 KS HS HN gu g1 gw1 HR
  go_wp2_with fail
  refine bodyPost_ret (v := .tuple #[.agg #[.int .i64 0, .int .i64 0], .agg #[.int .i64 0, .int .i64 0], .int .i64 2]) ?_ rfl ⟨rfl, ?_⟩
  · simp [results, Try.f7, go_sem, c30, c31, c40, c41]
  · exact by repeat (first | exact Gr.refl _ | assumption | apply Gr.drew | apply Gr.drewN | (refine Gr.setCell ?_ (by first | (simp; done) | (simp; omega)) _))

set_option maxHeartbeats 4000000 in
theorem twoPair_ok_of (ax ay bx by0 wx wy b s mo P r0 r1 z0 z1 : Int)
    (HS : Hid (∀ W, Calls Try.prog 21 #[.agg #[.int .i64 b, .int .i64 s, .int .i64 mo]] W fun e w' => e = .returned (.bool true) ∧ Gr W w'))
    (HN : Hid (∀ v W, CxsAt W v [⟨ax, ay⟩, ⟨bx, by0⟩] → Calls Try.prog 22 #[.int .i64 2147483648, v] W fun e w' => e = .returned (.bool true) ∧ Gr W w'))
    (hP : IntKind.i64.wrap (2 ^ min b.toNat 64) = P) (hb0 : 0 ≤ b) (HR : Hid (∀ v W, CxsAt W v [⟨wx, wy⟩] → Calls Try.prog 22 #[.int .i64 P, v] W fun e w' => e = .returned (.bool true) ∧ Gr W w'))
    (HA : Hid (∀ W, Calls Try.prog 23 #[.agg #[.int .i64 b, .int .i64 s, .int .i64 mo], .agg #[.int .i64 ax, .int .i64 ay], .agg #[.int .i64 bx, .int .i64 by0], .agg #[.int .i64 wx, .int .i64 wy]] W fun e w' => e = .returned (.tuple #[.agg #[.int .i64 r0, .int .i64 r1], .agg #[.int .i64 z0, .int .i64 z1]]) ∧ Gr W w')) (w : World) :
    Calls Try.prog 7 #[.agg #[.int .i64 ax, .int .i64 ay], .agg #[.int .i64 bx, .int .i64 by0], .agg #[.int .i64 wx, .int .i64 wy], .int .i64 b, .int .i64 s, .int .i64 mo] w fun e w' => e = .returned (.tuple #[.agg #[.int .i64 r0, .int .i64 r1], .agg #[.int .i64 z0, .int .i64 z1], .int .i64 0]) ∧ Gr w w' := by
  go_enter Try.func7, Try.ntmps7
  go_wp2_with fail
  obtain ⟨u0, hU⟩ : ∃ u, u = ((((((w.alloc (.cells #[.int .i64 ax, .int .i64 ay] 23)).alloc (.cells #[.int .i64 bx, .int .i64 by0] 23)).alloc (.cells #[.int .i64 wx, .int .i64 wy] 23)).alloc (.cells #[.int .i64 0, .int .i64 0] 23)).alloc (.cells #[.int .i64 0, .int .i64 0] 23)).alloc (.cells #[.int .i64 b, .int .i64 s, .int .i64 mo] 44)) := ⟨_, rfl⟩
  have gu : Gr w u0 := by rw [hU]; exact ((((((Gr.refl w).alloc _ _).alloc _ _).alloc _ _).alloc _ _).alloc _ _).alloc _ _
  have R0 : CellsAt u0 (w.heap.size) 23 #[.int .i64 ax, .int .i64 ay] := by
    rw [hU]
    have := ((((((CellsAt.new w 23 #[.int .i64 ax, .int .i64 ay]).alloc (.cells #[.int .i64 bx, .int .i64 by0] 23)).alloc (.cells #[.int .i64 wx, .int .i64 wy] 23)).alloc (.cells #[.int .i64 0, .int .i64 0] 23)).alloc (.cells #[.int .i64 0, .int .i64 0] 23)).alloc (.cells #[.int .i64 b, .int .i64 s, .int .i64 mo] 44))
    simpa only [World.size_alloc] using this
  have R1 : CellsAt u0 (w.heap.size + 1) 23 #[.int .i64 bx, .int .i64 by0] := by
    rw [hU]
    have := (((((CellsAt.new (w.alloc (.cells #[.int .i64 ax, .int .i64 ay] 23)) 23 #[.int .i64 bx, .int .i64 by0]).alloc (.cells #[.int .i64 wx, .int .i64 wy] 23)).alloc (.cells #[.int .i64 0, .int .i64 0] 23)).alloc (.cells #[.int .i64 0, .int .i64 0] 23)).alloc (.cells #[.int .i64 b, .int .i64 s, .int .i64 mo] 44))
    simpa only [World.size_alloc] using this
  have R2 : CellsAt u0 (w.heap.size + 1 + 1) 23 #[.int .i64 wx, .int .i64 wy] := by
    rw [hU]
    have := ((((CellsAt.new ((w.alloc (.cells #[.int .i64 ax, .int .i64 ay] 23)).alloc (.cells #[.int .i64 bx, .int .i64 by0] 23)) 23 #[.int .i64 wx, .int .i64 wy]).alloc (.cells #[.int .i64 0, .int .i64 0] 23)).alloc (.cells #[.int .i64 0, .int .i64 0] 23)).alloc (.cells #[.int .i64 b, .int .i64 s, .int .i64 mo] 44))
    simpa only [World.size_alloc] using this
  have R3 : CellsAt u0 (w.heap.size + 1 + 1 + 1) 23 #[.int .i64 0, .int .i64 0] := by
    rw [hU]
    have := (((CellsAt.new (((w.alloc (.cells #[.int .i64 ax, .int .i64 ay] 23)).alloc (.cells #[.int .i64 bx, .int .i64 by0] 23)).alloc (.cells #[.int .i64 wx, .int .i64 wy] 23)) 23 #[.int .i64 0, .int .i64 0]).alloc (.cells #[.int .i64 0, .int .i64 0] 23)).alloc (.cells #[.int .i64 b, .int .i64 s, .int .i64 mo] 44))
    simpa only [World.size_alloc] using this
  have R4 : CellsAt u0 (w.heap.size + 1 + 1 + 1 + 1) 23 #[.int .i64 0, .int .i64 0] := by
    rw [hU]
    have := ((CellsAt.new ((((w.alloc (.cells #[.int .i64 ax, .int .i64 ay] 23)).alloc (.cells #[.int .i64 bx, .int .i64 by0] 23)).alloc (.cells #[.int .i64 wx, .int .i64 wy] 23)).alloc (.cells #[.int .i64 0, .int .i64 0] 23)) 23 #[.int .i64 0, .int .i64 0]).alloc (.cells #[.int .i64 b, .int .i64 s, .int .i64 mo] 44))
    simpa only [World.size_alloc] using this
  have R5 : CellsAt u0 (w.heap.size + 1 + 1 + 1 + 1 + 1) 44 #[.int .i64 b, .int .i64 s, .int .i64 mo] := by
    rw [hU]
    have := (CellsAt.new (((((w.alloc (.cells #[.int .i64 ax, .int .i64 ay] 23)).alloc (.cells #[.int .i64 bx, .int .i64 by0] 23)).alloc (.cells #[.int .i64 wx, .int .i64 wy] 23)).alloc (.cells #[.int .i64 0, .int .i64 0] 23)).alloc (.cells #[.int .i64 0, .int .i64 0] 23)) 44 #[.int .i64 b, .int .i64 s, .int .i64 mo])
    simpa only [World.size_alloc] using this
  rw [← hU]
  clear hU
  refine (HS.out _).mono ?_
  rintro e u1 ⟨rfl, g1⟩
  have gw1 := gu.trans g1
  have e00 := R0.cell 0
  have e01 := R0.cell 1
  have e10 := R1.cell 0
  have e11 := R1.cell 1
  have e20 := R2.cell 0
  have e21 := R2.cell 1
  simp only [List.getElem?_toArray, List.getElem?_cons_zero, List.getElem?_cons_succ] at e00 e01 e10 e11 e20 e21
  have lz0 := R0.lt
  have lz1 := R1.lt
  have lz2 := R2.lt
  have KS : ∀ W, Gr u0 W → (W.cell? ⟨w.heap.size, 0, none⟩ = some (.int .i64 ax) ∧ W.cell? ⟨w.heap.size, 1, none⟩ = some (.int .i64 ay) ∧ W.cell? ⟨w.heap.size + 1, 0, none⟩ = some (.int .i64 bx) ∧ W.cell? ⟨w.heap.size + 1, 1, none⟩ = some (.int .i64 by0) ∧ W.cell? ⟨w.heap.size + 1 + 1, 0, none⟩ = some (.int .i64 wx) ∧ W.cell? ⟨w.heap.size + 1 + 1, 1, none⟩ = some (.int .i64 wy) ∧ Gr u0 W) := fun W hG => ⟨(hG.cell (p := ⟨w.heap.size, 0, none⟩) lz0).trans e00, (hG.cell (p := ⟨w.heap.size, 1, none⟩) lz0).trans e01, (hG.cell (p := ⟨w.heap.size + 1, 0, none⟩) lz1).trans e10, (hG.cell (p := ⟨w.heap.size + 1, 1, none⟩) lz1).trans e11, (hG.cell (p := ⟨w.heap.size + 1 + 1, 0, none⟩) lz2).trans e20, (hG.cell (p := ⟨w.heap.size + 1 + 1, 1, none⟩) lz2).trans e21, hG⟩
  clear e00 e01 e10 e11 e20 e21
  go_wp2_with fail
  refine wp_region_held_drew (S := fun W => W.cell? ⟨w.heap.size, 0, none⟩ = some (.int .i64 ax) ∧ W.cell? ⟨w.heap.size, 1, none⟩ = some (.int .i64 ay) ∧ W.cell? ⟨w.heap.size + 1, 0, none⟩ = some (.int .i64 bx) ∧ W.cell? ⟨w.heap.size + 1, 1, none⟩ = some (.int .i64 by0) ∧ W.cell? ⟨w.heap.size + 1 + 1, 0, none⟩ = some (.int .i64 wx) ∧ W.cell? ⟨w.heap.size + 1 + 1, 1, none⟩ = some (.int .i64 wy) ∧ Gr u0 W) rfl (KS _ (Gr.drew g1)) (fun hS => ?_)
  refine wpAnyH_take (i := 0) (v := ?_) rfl (by kernel_rfl) (by kernel_rfl) (by kernel_rfl) (fun _ _ _ h => h) (Or.inl ⟨by rfl, ?_⟩) (by assumption) ?_
  rotate_left
  · (intro w hSw; (try dsimp only at hSw); go_split_ands; go_simp; try with_reducible rfl)
  try simp only [Act.put, List.setIfInBounds_toArray, List.set_cons_zero, List.set_cons_succ, List.getElem_toArray, List.getElem_cons_zero]
  refine wpAnyH_take (i := 1) (v := ?_) rfl (by kernel_rfl) (by kernel_rfl) (by kernel_rfl) (fun _ _ _ h => h) (Or.inl ⟨by rfl, ?_⟩) (by assumption) ?_
  rotate_left
  · (intro w hSw; (try dsimp only at hSw); go_split_ands; go_simp; try with_reducible rfl)
  try simp only [Act.put, List.setIfInBounds_toArray, List.set_cons_zero, List.set_cons_succ, List.getElem_toArray, List.getElem_cons_zero, List.getElem_cons_succ]
  refine wpAnyH_ready (rs := [2]) (by kernel_rfl) (by simp) ?_
  refine AllReadyH.cons rfl (fun K hK => ?_) AllReadyH.nil
  go_simp
  have hK3 := cxs_of_two (CellsAt.new u1.drew 23 #[.int .i64 ax, .int .i64 ay, .int .i64 bx, .int .i64 by0])
  have g3 : Gr u0 (u1.drew.alloc (.cells #[.int .i64 ax, .int .i64 ay, .int .i64 bx, .int .i64 by0] 23)) := (Gr.drew g1).alloc _ _
  refine hK.out _ _ ?_ (fun hHeld => ?_)
  · (exact KS _ g3)
  clear hK K
  try simp only [Act.put, List.setIfInBounds_toArray, List.set_cons_zero, List.set_cons_succ, List.getElem_toArray, List.getElem_cons_zero, List.getElem_cons_succ]
  refine wpAnyH_ready (rs := [3]) (by kernel_rfl) (by simp) ?_
  refine AllReadyH.cons rfl (fun K hK => ?_) AllReadyH.nil
  go_simp
  go_at_call 22
  refine (HN.out _ _ hK3).mono ?_
  rintro e u4 ⟨rfl, g4⟩
  have gu4 := g3.trans g4
  refine hK.out _ _ ?_ (fun hHeld => ?_)
  · (exact KS _ gu4)
  clear hK K
  try simp only [Act.put, List.setIfInBounds_toArray, List.set_cons_zero, List.set_cons_succ, List.getElem_toArray, List.getElem_cons_zero, List.getElem_cons_succ]
  refine wpAnyH_take (i := 4) (v := ?_) rfl (by kernel_rfl) (by kernel_rfl) (by kernel_rfl) (fun _ _ _ h => h) (Or.inl ⟨by rfl, ?_⟩) (by assumption) ?_
  rotate_left
  · (intro w hSw; (try dsimp only at hSw); go_split_ands; go_simp; try with_reducible rfl)
  try simp only [Act.put, List.setIfInBounds_toArray, List.set_cons_zero, List.set_cons_succ, List.getElem_toArray, List.getElem_cons_zero, List.getElem_cons_succ]
  refine wpAnyH_take (i := 5) (v := ?_) rfl (by kernel_rfl) (by kernel_rfl) (by kernel_rfl) (fun _ _ _ h => h) (Or.inl ⟨by rfl, ?_⟩) (by assumption) ?_
  rotate_left
  · (intro w hSw; (try dsimp only at hSw); go_split_ands; go_simp; try with_reducible rfl)
  try simp only [Act.put, List.setIfInBounds_toArray, List.set_cons_zero, List.set_cons_succ, List.getElem_toArray, List.getElem_cons_zero, List.getElem_cons_succ]
  refine wpAnyH_take (i := 6) (v := ?_) rfl (by kernel_rfl) (by kernel_rfl) (by kernel_rfl) (fun _ _ _ h => h) (Or.inl ⟨by rfl, ?_⟩) (by assumption) ?_
  rotate_left
  · (intro w hSw; (try dsimp only at hSw); go_split_ands; go_simp; try with_reducible rfl)
  try simp only [Act.put, List.setIfInBounds_toArray, List.set_cons_zero, List.set_cons_succ, List.getElem_toArray, List.getElem_cons_zero, List.getElem_cons_succ]
  refine wpAnyH_take (i := 7) (v := ?_) rfl (by kernel_rfl) (by kernel_rfl) (by kernel_rfl) (fun _ _ _ h => h) (Or.inl ⟨by rfl, ?_⟩) (by assumption) ?_
  rotate_left
  · (intro w hSw; (try dsimp only at hSw); go_split_ands; go_simp; try with_reducible rfl)
  try simp only [Act.put, List.setIfInBounds_toArray, List.set_cons_zero, List.set_cons_succ, List.getElem_toArray, List.getElem_cons_zero, List.getElem_cons_succ]
  refine wpAnyH_take (i := 8) (v := ?_) rfl (by kernel_rfl) (by kernel_rfl) (by kernel_rfl) (fun _ _ _ h => h) (Or.inl ⟨by rfl, ?_⟩) (by assumption) ?_
  rotate_left
  · (intro w hSw; (try dsimp only at hSw); go_split_ands; go_simp; try with_reducible rfl)
  try simp only [Act.put, List.setIfInBounds_toArray, List.set_cons_zero, List.set_cons_succ, List.getElem_toArray, List.getElem_cons_zero, List.getElem_cons_succ]
  refine wpAnyH_ready (rs := [9]) (by kernel_rfl) (by simp) ?_
  refine AllReadyH.cons rfl (fun K hK => ?_) AllReadyH.nil
  go_simp
  have hK5 := cxs_of_one (CellsAt.new u4 23 #[.int .i64 wx, .int .i64 wy])
  have g5 : Gr u0 (u4.alloc (.cells #[.int .i64 wx, .int .i64 wy] 23)) := gu4.alloc _ _
  refine hK.out _ _ ?_ (fun hHeld => ?_)
  · (exact KS _ g5)
  clear hK K
  try simp only [Act.put, List.setIfInBounds_toArray, List.set_cons_zero, List.set_cons_succ, List.getElem_toArray, List.getElem_cons_zero, List.getElem_cons_succ]
  refine wpAnyH_ready (rs := [10]) (by kernel_rfl) (by simp) ?_
  refine AllReadyH.cons rfl (fun K hK => ?_) AllReadyH.nil
  go_simp
  go_at_call 22
  refine (HR.out _ _ hK5).mono ?_
  rintro e u6 ⟨rfl, g6⟩
  have gu6 := g5.trans g6
  refine hK.out _ _ ?_ (fun hHeld => ?_)
  · (exact KS _ gu6)
  clear hK K
  try simp only [Act.put, List.setIfInBounds_toArray, List.set_cons_zero, List.set_cons_succ, List.getElem_toArray, List.getElem_cons_zero, List.getElem_cons_succ]
  refine wpAnyH_take (i := 11) (v := ?_) rfl (by kernel_rfl) (by kernel_rfl) (by kernel_rfl) (fun _ _ _ h => h) (Or.inl ⟨by rfl, ?_⟩) (by assumption) ?_
  rotate_left
  · (intro w hSw; (try dsimp only at hSw); go_split_ands; go_simp; try with_reducible rfl)
  try simp only [Act.put, List.setIfInBounds_toArray, List.set_cons_zero, List.set_cons_succ, List.getElem_toArray, List.getElem_cons_zero, List.getElem_cons_succ]
  refine wpAnyH_take (i := 12) (v := ?_) rfl (by kernel_rfl) (by kernel_rfl) (by kernel_rfl) (fun _ _ _ h => h) (Or.inl ⟨by rfl, ?_⟩) (by assumption) ?_
  rotate_left
  · (intro w hSw; (try dsimp only at hSw); go_split_ands; go_simp; try with_reducible rfl)
  try simp only [Act.put, List.setIfInBounds_toArray, List.set_cons_zero, List.set_cons_succ, List.getElem_toArray, List.getElem_cons_zero, List.getElem_cons_succ]
  refine wpAnyH_done (by kernel_rfl) ?_ _
  have R5b := R5.gr gu6
  have H3 := Lib.hid (R3.gr gu6)
  have H4 := Lib.hid (R4.gr gu6)
  have gwl := gu.trans gu6
  have d0 := R5b.cell 0
  have d1 := R5b.cell 1
  have d2 := R5b.cell 2
  simp only [List.getElem?_toArray, List.getElem?_cons_zero, List.getElem?_cons_succ] at d0 d1 d2
  obtain ⟨e0, e1, e2, e3, e4, e5, _⟩ := KS _ gu6
  clear R0 R1 R2 R3 R4 R5 R5b KS HS HN HR gu g1 gw1 hP
  go_wp2_with fail
  refine (HA.out _).mono ?_
  rintro e u7 ⟨rfl, g7⟩
  have gw7 := gwl.trans g7
  have q3 := H3.out.gr g7
  have q4 := H4.out.gr g7
  clear d0 d1 d2 e0 e1 e2 e3 e4 e5 H3 H4 HA g7
  have HR4 := Lib.hid ((CellsAt.new u7 23 #[.int .i64 r0, .int .i64 r1]).alloc (.cells #[.int .i64 z0, .int .i64 z1] 23))
  have HR5 := Lib.hid (CellsAt.new (u7.alloc (.cells #[.int .i64 r0, .int .i64 r1] 23)) 23 #[.int .i64 z0, .int .i64 z1])
  have q3a := (q3.alloc (.cells #[.int .i64 r0, .int .i64 r1] 23)).alloc (.cells #[.int .i64 z0, .int .i64 z1] 23)
  have q4a := (q4.alloc (.cells #[.int .i64 r0, .int .i64 r1] 23)).alloc (.cells #[.int .i64 z0, .int .i64 z1] 23)
  have gw9 := (gw7.alloc #[.int .i64 r0, .int .i64 r1] 23).alloc #[.int .i64 z0, .int .i64 z1] 23
  have hlt3 := q3.lt
  have hlt4 := q4.lt
  clear q3 q4
  go_wp2_with fail
  have R6 := HR4.out
  have R7 := HR5.out
  rw [World.size_alloc] at R7
  generalize (u7.alloc (.cells #[.int .i64 r0, .int .i64 r1] 23)).alloc (.cells #[.int .i64 z0, .int .i64 z1] 23) = u9 at *
  generalize u7.heap.size = B6 at *
  have k0 := R6.cell 0
  have k1 := R6.cell 1
  have k2 := R7.cell 0
  have k3 := R7.cell 1
  have c30 := q3a.cell 0
  have c31 := q3a.cell 1
  have c40 := q4a.cell 0
  have c41 := q4a.cell 1
  have m4 := q3a.frozen 0
  have m5 := q3a.frozen 1
  have m6 := q4a.frozen 0
  have m7 := q4a.frozen 1
  have l4 := q3a.lt
  have l5 := q4a.lt
  simp only [List.getElem?_toArray, List.getElem?_cons_zero, List.getElem?_cons_succ] at k0 k1 k2 k3 c30 c31 c40 c41
  have ne1 : ¬ B6 = w.heap.size + 1 + 1 + 1 := by omega
  have ne2 : ¬ B6 = w.heap.size + 1 + 1 + 1 + 1 := by omega
  have ne3 : ¬ B6 + 1 = w.heap.size + 1 + 1 + 1 := by omega
  have ne4 : ¬ B6 + 1 = w.heap.size + 1 + 1 + 1 + 1 := by omega
  clear HR4 HR5 R6 R7 q3a q4a hlt3 hlt4 gwl gw7
  go_wp2_with fail
  go_region
  all_goals
    go_wp2_with fail
    refine bodyPost_ret (v := .tuple #[.agg #[.int .i64 r0, .int .i64 r1], .agg #[.int .i64 z0, .int .i64 z1], .int .i64 0]) ?_ rfl ⟨rfl, ?_⟩
    · simp [results, Try.f7, go_sem, c30, c31, c40, c41]
    · exact by repeat (first | exact Gr.refl _ | assumption | apply Gr.drew | apply Gr.drewN | (refine Gr.setCell ?_ (by first | (simp; done) | (simp; omega)) _))

theorem twoPair_arg (a b w : Gi) (bits s mo : Int) (h : ¬ SetsOk2 bits s mo) (W : World) :
    Calls Try.prog 7 #[.agg #[.int .i64 a.re, .int .i64 a.im], .agg #[.int .i64 b.re, .int .i64 b.im], .agg #[.int .i64 w.re, .int .i64 w.im], .int .i64 bits, .int .i64 s, .int .i64 mo] W fun e w' => e = .returned (.tuple #[.agg #[.int .i64 0, .int .i64 0], .agg #[.int .i64 0, .int .i64 0], .int .i64 1]) ∧ Gr W w' :=
  twoPair_arg_of _ _ _ _ _ _ bits s mo (Lib.hid (tMayBe_no bits s mo h)) W

theorem twoPair_range (a b w : Gi) (bits : Nat) (s mo : Int) (h : SetsOk2 bits s mo) (hr : (allIn 2147483648 [a, b] && allIn (2 ^ bits) [w]) = false) (W : World) :
    Calls Try.prog 7 #[.agg #[.int .i64 a.re, .int .i64 a.im], .agg #[.int .i64 b.re, .int .i64 b.im], .agg #[.int .i64 w.re, .int .i64 w.im], .int .i64 bits, .int .i64 s, .int .i64 mo] W fun e w' => e = .returned (.tuple #[.agg #[.int .i64 0, .int .i64 0], .agg #[.int .i64 0, .int .i64 0], .int .i64 2]) ∧ Gr W w' := by
  have HS := Lib.hid (tMayBe_yes bits s mo h)
  have hb : bits ≤ 29 := by have := h.1.2; omega
  have hp : (2 : Int) ^ bits ≤ 2147483648 := pow_le31 _ (by omega)
  have hp0 := pow_pos2 bits
  have HN := Lib.hid fun v V hV => tWithin_c v [a, b] 2147483648 (by omega) (by omega) V hV
  have HR := Lib.hid fun v V hV => tWithin_c v [w] (2 ^ bits) (by omega) hp V hV
  rw [Bool.and_eq_false_iff] at hr
  by_cases h1 : allIn 2147483648 [a, b] = false
  · rw [h1] at HN
    exact twoPair_r1_of _ _ _ _ _ _ bits s mo HS HN W
  · have h2 : allIn 2147483648 [a, b] = true := by simpa using h1
    rw [h2] at HN
    rw [hr.resolve_left h1] at HR
    exact twoPair_r2_of _ _ _ _ _ _ bits s mo (2 ^ bits) HS HN (by rw [Int.toNat_natCast, show min bits 64 = bits by omega]; exact IntWalk.i64_in _ ⟨by omega, by omega⟩) (by omega) HR W

theorem twoPair_ok (a b w : Gi) (bits s : Nat) (mo : Int) (h : SetsOk2 bits s mo) (h1 : allIn 2147483648 [a, b] = true) (h2 : allIn (2 ^ bits) [w] = true) (W : World) :
    Calls Try.prog 7 #[.agg #[.int .i64 a.re, .int .i64 a.im], .agg #[.int .i64 b.re, .int .i64 b.im], .agg #[.int .i64 w.re, .int .i64 w.im], .int .i64 bits, .int .i64 s, .int .i64 mo] W fun e w' => e = .returned (.tuple #[.agg #[.int .i64 (pairUp bits s mo a b w).re, .int .i64 (pairUp bits s mo a b w).im], .agg #[.int .i64 (pairDown bits s mo a b w).re, .int .i64 (pairDown bits s mo a b w).im], .int .i64 0]) ∧ Gr W w' := by
  have HS := Lib.hid (tMayBe_yes bits s mo h)
  have hb : bits ≤ 29 := by have := h.1.2; omega
  have hp : (2 : Int) ^ bits ≤ 2147483648 := pow_le31 _ (by omega)
  have hp0 := pow_pos2 bits
  have HN := Lib.hid fun v V hV => tWithin_c v [a, b] 2147483648 (by omega) (by omega) V hV
  have HR := Lib.hid fun v V hV => tWithin_c v [w] (2 ^ bits) (by omega) hp V hV
  rw [h1] at HN
  rw [h2] at HR
  have b1 := (allIn_iff _ _).1 h1
  have b2 := (allIn_iff _ _).1 h2
  exact twoPair_ok_of _ _ _ _ _ _ bits s mo (2 ^ bits) _ _ _ _ HS HN (by rw [Int.toNat_natCast, show min bits 64 = bits by omega]; exact IntWalk.i64_in _ ⟨by omega, by omega⟩) (by omega) HR
    (Lib.hid (tPair_c a b w bits s mo hb (by have := h.2.1.2; omega) h.2.2.1 h.2.2.2 (b1 a (by simp)) (b1 b (by simp)) (b2 w (by simp)))) W

end Go.Proofs.Ytkbfniogannlhaa
