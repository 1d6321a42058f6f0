/- What reference 11's functions answer. -/
import Derived.Test.YtomjldaonpjloaaGiCalls
import Derived.Test.YtomjldaonpjloaaRef10
import Derived.Test.YtomjldaonpjloaaRow
import Derived.Deep.Cut
import Derived.Deep.CutRange
namespace Go.Proofs.Ytomjldaonpjloaa
open Go.ChangeShapes Go.WideShapes Go.ChangeAt Go.RowKit
set_option linter.unusedVariables false
set_option maxRecDepth 100000
set_option linter.unusedSimpArgs false


set_option maxHeartbeats 8000000 in
theorem prods11_of (a b c d u v x p q r z : Gi) (bits : Int)
    (HA : Hid (∀ W, Calls Try.prog 35 #[.agg #[.int .i64 (a).re, .int .i64 (a).im], .int .i64 bits] W fun e w' => e = .returned (.agg #[.int .i64 (p).re, .int .i64 (p).im]) ∧ Gr W w'))
    (HB : Hid (∀ W, Calls Try.prog 36 #[.agg #[.int .i64 (b).re, .int .i64 (b).im], .agg #[.int .i64 (u).re, .int .i64 (u).im]] W fun e w' => e = .returned (.agg #[.int .i64 (q).re, .int .i64 (q).im]) ∧ Gr W w'))
    (HC : Hid (∀ W, Calls Try.prog 36 #[.agg #[.int .i64 (c).re, .int .i64 (c).im], .agg #[.int .i64 (v).re, .int .i64 (v).im]] W fun e w' => e = .returned (.agg #[.int .i64 (r).re, .int .i64 (r).im]) ∧ Gr W w'))
    (HD : Hid (∀ W, Calls Try.prog 36 #[.agg #[.int .i64 (d).re, .int .i64 (d).im], .agg #[.int .i64 (x).re, .int .i64 (x).im]] W fun e w' => e = .returned (.agg #[.int .i64 (z).re, .int .i64 (z).im]) ∧ Gr W w')) (w : World) :
    Calls Try.prog 22 #[.agg #[.int .i64 (a).re, .int .i64 (a).im], .agg #[.int .i64 (b).re, .int .i64 (b).im], .agg #[.int .i64 (c).re, .int .i64 (c).im], .agg #[.int .i64 (d).re, .int .i64 (d).im], .agg #[.int .i64 (u).re, .int .i64 (u).im], .agg #[.int .i64 (v).re, .int .i64 (v).im], .agg #[.int .i64 (x).re, .int .i64 (x).im], .int .i64 bits] w fun e w' => e = .returned (.agg #[.int .i64 (p).re, .int .i64 (p).im, .int .i64 (q).re, .int .i64 (q).im, .int .i64 (r).re, .int .i64 (r).im, .int .i64 (z).re, .int .i64 (z).im]) ∧ Gr w w' := by
  go_enter Try.func22, Try.ntmps22
  go_wp2_with fail
  obtain ⟨u0, hU⟩ : ∃ uu, uu = ((((((((w.alloc (.cells #[.int .i64 (a).re, .int .i64 (a).im] 39)).alloc (.cells #[.int .i64 (b).re, .int .i64 (b).im] 39)).alloc (.cells #[.int .i64 (c).re, .int .i64 (c).im] 39)).alloc (.cells #[.int .i64 (d).re, .int .i64 (d).im] 39)).alloc (.cells #[.int .i64 (u).re, .int .i64 (u).im] 39)).alloc (.cells #[.int .i64 (v).re, .int .i64 (v).im] 39)).alloc (.cells #[.int .i64 (x).re, .int .i64 (x).im] 39)).alloc (.cells #[.int .i64 0, .int .i64 0, .int .i64 0, .int .i64 0, .int .i64 0, .int .i64 0, .int .i64 0, .int .i64 0] 47)) := ⟨_, rfl⟩
  have gu : Gr w u0 := by rw [hU]; exact ((((((((Gr.refl w).alloc _ _).alloc _ _).alloc _ _).alloc _ _).alloc _ _).alloc _ _).alloc _ _).alloc _ _
  have R0 : CellsAt u0 (w.heap.size) 39 #[.int .i64 (a).re, .int .i64 (a).im] := by
    rw [hU]
    have := ((((((((CellsAt.new w 39 #[.int .i64 (a).re, .int .i64 (a).im]).alloc (.cells #[.int .i64 (b).re, .int .i64 (b).im] 39)).alloc (.cells #[.int .i64 (c).re, .int .i64 (c).im] 39)).alloc (.cells #[.int .i64 (d).re, .int .i64 (d).im] 39)).alloc (.cells #[.int .i64 (u).re, .int .i64 (u).im] 39)).alloc (.cells #[.int .i64 (v).re, .int .i64 (v).im] 39)).alloc (.cells #[.int .i64 (x).re, .int .i64 (x).im] 39)).alloc (.cells #[.int .i64 0, .int .i64 0, .int .i64 0, .int .i64 0, .int .i64 0, .int .i64 0, .int .i64 0, .int .i64 0] 47))
    simpa only [World.size_alloc] using this
  have R1 : CellsAt u0 (w.heap.size + 1) 39 #[.int .i64 (b).re, .int .i64 (b).im] := by
    rw [hU]
    have := (((((((CellsAt.new (w.alloc (.cells #[.int .i64 (a).re, .int .i64 (a).im] 39)) 39 #[.int .i64 (b).re, .int .i64 (b).im]).alloc (.cells #[.int .i64 (c).re, .int .i64 (c).im] 39)).alloc (.cells #[.int .i64 (d).re, .int .i64 (d).im] 39)).alloc (.cells #[.int .i64 (u).re, .int .i64 (u).im] 39)).alloc (.cells #[.int .i64 (v).re, .int .i64 (v).im] 39)).alloc (.cells #[.int .i64 (x).re, .int .i64 (x).im] 39)).alloc (.cells #[.int .i64 0, .int .i64 0, .int .i64 0, .int .i64 0, .int .i64 0, .int .i64 0, .int .i64 0, .int .i64 0] 47))
    simpa only [World.size_alloc] using this
  have R2 : CellsAt u0 (w.heap.size + 1 + 1) 39 #[.int .i64 (c).re, .int .i64 (c).im] := by
    rw [hU]
    have := ((((((CellsAt.new ((w.alloc (.cells #[.int .i64 (a).re, .int .i64 (a).im] 39)).alloc (.cells #[.int .i64 (b).re, .int .i64 (b).im] 39)) 39 #[.int .i64 (c).re, .int .i64 (c).im]).alloc (.cells #[.int .i64 (d).re, .int .i64 (d).im] 39)).alloc (.cells #[.int .i64 (u).re, .int .i64 (u).im] 39)).alloc (.cells #[.int .i64 (v).re, .int .i64 (v).im] 39)).alloc (.cells #[.int .i64 (x).re, .int .i64 (x).im] 39)).alloc (.cells #[.int .i64 0, .int .i64 0, .int .i64 0, .int .i64 0, .int .i64 0, .int .i64 0, .int .i64 0, .int .i64 0] 47))
    simpa only [World.size_alloc] using this
  have R3 : CellsAt u0 (w.heap.size + 1 + 1 + 1) 39 #[.int .i64 (d).re, .int .i64 (d).im] := by
    rw [hU]
    have := (((((CellsAt.new (((w.alloc (.cells #[.int .i64 (a).re, .int .i64 (a).im] 39)).alloc (.cells #[.int .i64 (b).re, .int .i64 (b).im] 39)).alloc (.cells #[.int .i64 (c).re, .int .i64 (c).im] 39)) 39 #[.int .i64 (d).re, .int .i64 (d).im]).alloc (.cells #[.int .i64 (u).re, .int .i64 (u).im] 39)).alloc (.cells #[.int .i64 (v).re, .int .i64 (v).im] 39)).alloc (.cells #[.int .i64 (x).re, .int .i64 (x).im] 39)).alloc (.cells #[.int .i64 0, .int .i64 0, .int .i64 0, .int .i64 0, .int .i64 0, .int .i64 0, .int .i64 0, .int .i64 0] 47))
    simpa only [World.size_alloc] using this
  have R4 : CellsAt u0 (w.heap.size + 1 + 1 + 1 + 1) 39 #[.int .i64 (u).re, .int .i64 (u).im] := by
    rw [hU]
    have := ((((CellsAt.new ((((w.alloc (.cells #[.int .i64 (a).re, .int .i64 (a).im] 39)).alloc (.cells #[.int .i64 (b).re, .int .i64 (b).im] 39)).alloc (.cells #[.int .i64 (c).re, .int .i64 (c).im] 39)).alloc (.cells #[.int .i64 (d).re, .int .i64 (d).im] 39)) 39 #[.int .i64 (u).re, .int .i64 (u).im]).alloc (.cells #[.int .i64 (v).re, .int .i64 (v).im] 39)).alloc (.cells #[.int .i64 (x).re, .int .i64 (x).im] 39)).alloc (.cells #[.int .i64 0, .int .i64 0, .int .i64 0, .int .i64 0, .int .i64 0, .int .i64 0, .int .i64 0, .int .i64 0] 47))
    simpa only [World.size_alloc] using this
  have R5 : CellsAt u0 (w.heap.size + 1 + 1 + 1 + 1 + 1) 39 #[.int .i64 (v).re, .int .i64 (v).im] := by
    rw [hU]
    have := (((CellsAt.new (((((w.alloc (.cells #[.int .i64 (a).re, .int .i64 (a).im] 39)).alloc (.cells #[.int .i64 (b).re, .int .i64 (b).im] 39)).alloc (.cells #[.int .i64 (c).re, .int .i64 (c).im] 39)).alloc (.cells #[.int .i64 (d).re, .int .i64 (d).im] 39)).alloc (.cells #[.int .i64 (u).re, .int .i64 (u).im] 39)) 39 #[.int .i64 (v).re, .int .i64 (v).im]).alloc (.cells #[.int .i64 (x).re, .int .i64 (x).im] 39)).alloc (.cells #[.int .i64 0, .int .i64 0, .int .i64 0, .int .i64 0, .int .i64 0, .int .i64 0, .int .i64 0, .int .i64 0] 47))
    simpa only [World.size_alloc] using this
  have R6 : CellsAt u0 (w.heap.size + 1 + 1 + 1 + 1 + 1 + 1) 39 #[.int .i64 (x).re, .int .i64 (x).im] := by
    rw [hU]
    have := ((CellsAt.new ((((((w.alloc (.cells #[.int .i64 (a).re, .int .i64 (a).im] 39)).alloc (.cells #[.int .i64 (b).re, .int .i64 (b).im] 39)).alloc (.cells #[.int .i64 (c).re, .int .i64 (c).im] 39)).alloc (.cells #[.int .i64 (d).re, .int .i64 (d).im] 39)).alloc (.cells #[.int .i64 (u).re, .int .i64 (u).im] 39)).alloc (.cells #[.int .i64 (v).re, .int .i64 (v).im] 39)) 39 #[.int .i64 (x).re, .int .i64 (x).im]).alloc (.cells #[.int .i64 0, .int .i64 0, .int .i64 0, .int .i64 0, .int .i64 0, .int .i64 0, .int .i64 0, .int .i64 0] 47))
    simpa only [World.size_alloc] using this
  have R7 : CellsAt u0 (w.heap.size + 1 + 1 + 1 + 1 + 1 + 1 + 1) 47 #[.int .i64 0, .int .i64 0, .int .i64 0, .int .i64 0, .int .i64 0, .int .i64 0, .int .i64 0, .int .i64 0] := by
    rw [hU]
    have := (CellsAt.new (((((((w.alloc (.cells #[.int .i64 (a).re, .int .i64 (a).im] 39)).alloc (.cells #[.int .i64 (b).re, .int .i64 (b).im] 39)).alloc (.cells #[.int .i64 (c).re, .int .i64 (c).im] 39)).alloc (.cells #[.int .i64 (d).re, .int .i64 (d).im] 39)).alloc (.cells #[.int .i64 (u).re, .int .i64 (u).im] 39)).alloc (.cells #[.int .i64 (v).re, .int .i64 (v).im] 39)).alloc (.cells #[.int .i64 (x).re, .int .i64 (x).im] 39)) 47 #[.int .i64 0, .int .i64 0, .int .i64 0, .int .i64 0, .int .i64 0, .int .i64 0, .int .i64 0, .int .i64 0])
    simpa only [World.size_alloc] using this
  rw [← hU]
  clear hU
  have KS : ∀ W, Gr u0 W → (W.cell? ⟨w.heap.size, 0, none⟩ = some (.int .i64 (a).re) ∧ W.cell? ⟨w.heap.size, 1, none⟩ = some (.int .i64 (a).im) ∧ W.cell? ⟨w.heap.size + 1, 0, none⟩ = some (.int .i64 (b).re) ∧ W.cell? ⟨w.heap.size + 1, 1, none⟩ = some (.int .i64 (b).im) ∧ W.cell? ⟨w.heap.size + 1 + 1 + 1 + 1, 0, none⟩ = some (.int .i64 (u).re) ∧ W.cell? ⟨w.heap.size + 1 + 1 + 1 + 1, 1, none⟩ = some (.int .i64 (u).im) ∧ w.heap.size < W.heap.size ∧ w.heap.size + 1 < W.heap.size ∧ w.heap.size + 1 + 1 + 1 + 1 < W.heap.size) := fun W hG => ⟨(R0.gr hG).cell 0, (R0.gr hG).cell 1, (R1.gr hG).cell 0, (R1.gr hG).cell 1, (R4.gr hG).cell 0, (R4.gr hG).cell 1, Nat.lt_of_lt_of_le R0.lt hG.size, Nat.lt_of_lt_of_le R1.lt hG.size, Nat.lt_of_lt_of_le R4.lt hG.size⟩
  go_cut [17] from 18 to 24 (fun pv wx' => ∃ B : Nat, pv = .pointer (some ⟨B, 0, none⟩) ∧ u0.heap.size ≤ B ∧ CellsAt wx' B 47 #[.int .i64 (p).re, .int .i64 (p).im, .int .i64 (q).re, .int .i64 (q).im, .int .i64 0, .int .i64 0, .int .i64 0, .int .i64 0] ∧ Gr u0 wx')
  case first =>
    refine wp_region_held_drew (S := fun W => W.cell? ⟨w.heap.size, 0, none⟩ = some (.int .i64 (a).re) ∧ W.cell? ⟨w.heap.size, 1, none⟩ = some (.int .i64 (a).im) ∧ W.cell? ⟨w.heap.size + 1, 0, none⟩ = some (.int .i64 (b).re) ∧ W.cell? ⟨w.heap.size + 1, 1, none⟩ = some (.int .i64 (b).im) ∧ W.cell? ⟨w.heap.size + 1 + 1 + 1 + 1, 0, none⟩ = some (.int .i64 (u).re) ∧ W.cell? ⟨w.heap.size + 1 + 1 + 1 + 1, 1, none⟩ = some (.int .i64 (u).im) ∧ w.heap.size < W.heap.size ∧ w.heap.size + 1 < W.heap.size ∧ w.heap.size + 1 + 1 + 1 + 1 < W.heap.size) rfl (KS _ (Gr.drew (Gr.refl _))) (fun hS => ?_)
    refine wpAnyH_take (i := 0) (v := ?_) rfl (by kernel_rfl) (by kernel_rfl) (by kernel_rfl) (fun _ _ _ h => h) (Or.inl ⟨by rfl, ?_⟩) (by assumption) ?_
    rotate_left
    · (intro w hSw; (try dsimp only at hSw); go_split_ands; go_simp; try with_reducible rfl)
    try simp only [Act.put, List.setIfInBounds_toArray, List.set_cons_zero, List.set_cons_succ, List.getElem_toArray, List.getElem_cons_zero]
    refine wpAnyH_take (i := 1) (v := ?_) rfl (by kernel_rfl) (by kernel_rfl) (by kernel_rfl) (fun _ _ _ h => h) (Or.inl ⟨by rfl, ?_⟩) (by assumption) ?_
    rotate_left
    · (intro w hSw; (try dsimp only at hSw); go_split_ands; go_simp; try with_reducible rfl)
    try simp only [Act.put, List.setIfInBounds_toArray, List.set_cons_zero, List.set_cons_succ, List.getElem_toArray, List.getElem_cons_zero, List.getElem_cons_succ]
    refine wpAnyH_take (i := 3) (v := ?_) rfl (by kernel_rfl) (by kernel_rfl) (by kernel_rfl) (fun _ _ _ h => h) (Or.inl ⟨by rfl, ?_⟩) (by assumption) ?_
    rotate_left
    · (intro w hSw; (try dsimp only at hSw); go_split_ands; go_simp; try with_reducible rfl)
    try simp only [Act.put, List.setIfInBounds_toArray, List.set_cons_zero, List.set_cons_succ, List.getElem_toArray, List.getElem_cons_zero, List.getElem_cons_succ]
    refine wpAnyH_take (i := 4) (v := ?_) rfl (by kernel_rfl) (by kernel_rfl) (by kernel_rfl) (fun _ _ _ h => h) (Or.inl ⟨by rfl, ?_⟩) (by assumption) ?_
    rotate_left
    · (intro w hSw; (try dsimp only at hSw); go_split_ands; go_simp; try with_reducible rfl)
    try simp only [Act.put, List.setIfInBounds_toArray, List.set_cons_zero, List.set_cons_succ, List.getElem_toArray, List.getElem_cons_zero, List.getElem_cons_succ]
    refine wpAnyH_ready (rs := [2, 7]) (by kernel_rfl) (by simp) ?_
    refine AllReadyH.cons rfl (fun K hK => ?_) (AllReadyH.cons rfl (fun K hK => ?_) AllReadyH.nil)
    · go_simp
      go_at_call 35
      refine (HA.out _).mono ?_
      rintro e w1 ⟨rfl, g1⟩
      have x1 := (Gr.drew (Gr.refl u0)).trans g1
      refine hK.out _ _ ?_ (fun hHeld => ?_)
      · (exact KS _ x1)
      clear hK K hS
      have hS := hHeld
      clear hHeld
      try simp only [Act.put, List.setIfInBounds_toArray, List.set_cons_zero, List.set_cons_succ, List.getElem_toArray, List.getElem_cons_zero, List.getElem_cons_succ]
      refine wpAnyH_ready (rs := [5, 7]) (by kernel_rfl) (by simp) ?_
      refine AllReadyH.cons rfl (fun K hK => ?_) (AllReadyH.cons rfl (fun K hK => ?_) AllReadyH.nil)
      · go_simp
        go_at_call 36
        refine (HB.out _).mono ?_
        rintro e w2 ⟨rfl, g2⟩
        have x2 := (x1).trans g2
        refine hK.out _ _ ?_ (fun hHeld => ?_)
        · (exact KS _ x2)
        clear hK K hS
        have hS := hHeld
        clear hHeld
        try simp only [Act.put, List.setIfInBounds_toArray, List.set_cons_zero, List.set_cons_succ, List.getElem_toArray, List.getElem_cons_zero, List.getElem_cons_succ]
        refine wpAnyH_take (i := 6) (v := ?_) rfl (by kernel_rfl) (by kernel_rfl) (by kernel_rfl) (fun _ _ _ h => h) (Or.inl ⟨by rfl, ?_⟩) (by assumption) ?_
        rotate_left
        · (intro w hSw; (try dsimp only at hSw); go_split_ands; go_simp; try with_reducible rfl)
        try simp only [Act.put, List.setIfInBounds_toArray, List.set_cons_zero, List.set_cons_succ, List.getElem_toArray, List.getElem_cons_zero, List.getElem_cons_succ]
        refine wpAnyH_ready (rs := [7]) (by kernel_rfl) (by simp) ?_
        refine AllReadyH.cons rfl (fun K hK => ?_) AllReadyH.nil
        go_simp
        have x3 := Gr.alloc (x2) #[.int .i64 0, .int .i64 0, .int .i64 0, .int .i64 0, .int .i64 0, .int .i64 0, .int .i64 0, .int .i64 0] 47
        have C3 : CellsAt ((w2).alloc (.cells #[.int .i64 0, .int .i64 0, .int .i64 0, .int .i64 0, .int .i64 0, .int .i64 0, .int .i64 0, .int .i64 0] 47)) (w2.heap.size) 47 #[.int .i64 0, .int .i64 0, .int .i64 0, .int .i64 0, .int .i64 0, .int .i64 0, .int .i64 0, .int .i64 0] := CellsAt.new (w2) 47 #[.int .i64 0, .int .i64 0, .int .i64 0, .int .i64 0, .int .i64 0, .int .i64 0, .int .i64 0, .int .i64 0]
        refine hK.out _ _ ?_ (fun hHeld => ?_)
        · (exact KS _ x3)
        clear hK K hS
        have hS := hHeld
        clear hHeld
        try simp only [Act.put, List.setIfInBounds_toArray, List.set_cons_zero, List.set_cons_succ, List.getElem_toArray, List.getElem_cons_zero, List.getElem_cons_succ]
        have hBs : u0.heap.size ≤ w2.heap.size := by have hq := Gr.size (x2); exact hq
        refine wpAnyH_ready (rs := [8]) (by kernel_rfl) (by simp) ?_
        refine AllReadyH.cons rfl (fun K hK => ?_) AllReadyH.nil
        go_simp
        have x4 := Gr.alloc (x2) #[.int .i64 (p).re, .int .i64 (p).im, .int .i64 (q).re, .int .i64 (q).im, .int .i64 0, .int .i64 0, .int .i64 0, .int .i64 0] 47
        refine hK.out _ _ ?_ (fun hHeld => ?_)
        · (exact KS _ x4)
        clear hK K hS
        have hS := hHeld
        clear hHeld
        try simp only [Act.put, List.setIfInBounds_toArray, List.set_cons_zero, List.set_cons_succ, List.getElem_toArray, List.getElem_cons_zero, List.getElem_cons_succ]
        refine wpAnyH_done (by kernel_rfl) ?_ _
        go_wp2_with fail
        go_meet
        case rel => exact ⟨_, rfl, hBs, CellsAt.new (w2) 47 #[.int .i64 (p).re, .int .i64 (p).im, .int .i64 (q).re, .int .i64 (q).im, .int .i64 0, .int .i64 0, .int .i64 0, .int .i64 0], x4⟩
      · go_simp
        have x2 := Gr.alloc (x1) #[.int .i64 0, .int .i64 0, .int .i64 0, .int .i64 0, .int .i64 0, .int .i64 0, .int .i64 0, .int .i64 0] 47
        have C2 : CellsAt ((w1).alloc (.cells #[.int .i64 0, .int .i64 0, .int .i64 0, .int .i64 0, .int .i64 0, .int .i64 0, .int .i64 0, .int .i64 0] 47)) (w1.heap.size) 47 #[.int .i64 0, .int .i64 0, .int .i64 0, .int .i64 0, .int .i64 0, .int .i64 0, .int .i64 0, .int .i64 0] := CellsAt.new (w1) 47 #[.int .i64 0, .int .i64 0, .int .i64 0, .int .i64 0, .int .i64 0, .int .i64 0, .int .i64 0, .int .i64 0]
        refine hK.out _ _ ?_ (fun hHeld => ?_)
        · (exact KS _ x2)
        clear hK K hS
        have hS := hHeld
        clear hHeld
        try simp only [Act.put, List.setIfInBounds_toArray, List.set_cons_zero, List.set_cons_succ, List.getElem_toArray, List.getElem_cons_zero, List.getElem_cons_succ]
        refine wpAnyH_ready (rs := [5]) (by kernel_rfl) (by simp) ?_
        refine AllReadyH.cons rfl (fun K hK => ?_) AllReadyH.nil
        go_simp
        go_at_call 36
        refine (HB.out _).mono ?_
        rintro e w3 ⟨rfl, g3⟩
        have x3 := (x2).trans g3
        have C3 := CellsAt.gr (C2) g3
        refine hK.out _ _ ?_ (fun hHeld => ?_)
        · (exact KS _ x3)
        clear hK K hS
        have hS := hHeld
        clear hHeld
        try simp only [Act.put, List.setIfInBounds_toArray, List.set_cons_zero, List.set_cons_succ, List.getElem_toArray, List.getElem_cons_zero, List.getElem_cons_succ]
        refine wpAnyH_take (i := 6) (v := ?_) rfl (by kernel_rfl) (by kernel_rfl) (by kernel_rfl) (fun _ _ _ h => h) (Or.inl ⟨by rfl, ?_⟩) (by assumption) ?_
        rotate_left
        · (intro w hSw; (try dsimp only at hSw); go_split_ands; go_simp; try with_reducible rfl)
        try simp only [Act.put, List.setIfInBounds_toArray, List.set_cons_zero, List.set_cons_succ, List.getElem_toArray, List.getElem_cons_zero, List.getElem_cons_succ]
        have lC := CellsAt.lt (C3)
        have fc0 := CellsAt.cell (C3) 0
        have fm0 := CellsAt.frozen (C3) 0
        have fc1 := CellsAt.cell (C3) 1
        have fm1 := CellsAt.frozen (C3) 1
        have fc2 := CellsAt.cell (C3) 2
        have fm2 := CellsAt.frozen (C3) 2
        have fc3 := CellsAt.cell (C3) 3
        have fm3 := CellsAt.frozen (C3) 3
        have fc4 := CellsAt.cell (C3) 4
        have fm4 := CellsAt.frozen (C3) 4
        have fc5 := CellsAt.cell (C3) 5
        have fm5 := CellsAt.frozen (C3) 5
        have fc6 := CellsAt.cell (C3) 6
        have fm6 := CellsAt.frozen (C3) 6
        have fc7 := CellsAt.cell (C3) 7
        have fm7 := CellsAt.frozen (C3) 7
        simp only [List.getElem?_toArray, List.getElem?_cons_zero, List.getElem?_cons_succ] at fc0 fc1 fc2 fc3 fc4 fc5 fc6 fc7
        refine wpAnyH_ready (rs := [8]) (by kernel_rfl) (by simp) ?_
        refine AllReadyH.cons rfl (fun K hK => ?_) AllReadyH.nil
        go_simp
        have hBs : u0.heap.size ≤ w1.heap.size := by have hq := Gr.size (x1); exact hq
        have x4 := Gr.setCell (Gr.setCell (Gr.setCell (Gr.setCell (Gr.setCell (Gr.setCell (Gr.setCell (Gr.setCell (x3) (a := ⟨w1.heap.size, 0, none⟩) hBs (.int .i64 (p).re)) (a := ⟨w1.heap.size, 1, none⟩) hBs (.int .i64 (p).im)) (a := ⟨w1.heap.size, 2, none⟩) hBs (.int .i64 (q).re)) (a := ⟨w1.heap.size, 3, none⟩) hBs (.int .i64 (q).im)) (a := ⟨w1.heap.size, 4, none⟩) hBs (.int .i64 0)) (a := ⟨w1.heap.size, 5, none⟩) hBs (.int .i64 0)) (a := ⟨w1.heap.size, 6, none⟩) hBs (.int .i64 0)) (a := ⟨w1.heap.size, 7, none⟩) hBs (.int .i64 0)
        have C4 := CellsAt.set8 (C3) (.int .i64 (p).re) (.int .i64 (p).im) (.int .i64 (q).re) (.int .i64 (q).im) (.int .i64 0) (.int .i64 0) (.int .i64 0) (.int .i64 0)
        refine hK.out _ _ ?_ (fun hHeld => ?_)
        · (exact KS _ x4)
        clear hK K hS
        have hS := hHeld
        clear hHeld
        try simp only [Act.put, List.setIfInBounds_toArray, List.set_cons_zero, List.set_cons_succ, List.getElem_toArray, List.getElem_cons_zero, List.getElem_cons_succ]
        refine wpAnyH_done (by kernel_rfl) ?_ _
        go_wp2_with fail
        go_meet
        case rel => exact ⟨_, rfl, hBs, C4, x4⟩
    · go_simp
      have x1 := Gr.alloc (Gr.drew (Gr.refl u0)) #[.int .i64 0, .int .i64 0, .int .i64 0, .int .i64 0, .int .i64 0, .int .i64 0, .int .i64 0, .int .i64 0] 47
      have C1 : CellsAt ((u0.drew).alloc (.cells #[.int .i64 0, .int .i64 0, .int .i64 0, .int .i64 0, .int .i64 0, .int .i64 0, .int .i64 0, .int .i64 0] 47)) (u0.heap.size) 47 #[.int .i64 0, .int .i64 0, .int .i64 0, .int .i64 0, .int .i64 0, .int .i64 0, .int .i64 0, .int .i64 0] := CellsAt.new (u0.drew) 47 #[.int .i64 0, .int .i64 0, .int .i64 0, .int .i64 0, .int .i64 0, .int .i64 0, .int .i64 0, .int .i64 0]
      refine hK.out _ _ ?_ (fun hHeld => ?_)
      · (exact KS _ x1)
      clear hK K hS
      have hS := hHeld
      clear hHeld
      try simp only [Act.put, List.setIfInBounds_toArray, List.set_cons_zero, List.set_cons_succ, List.getElem_toArray, List.getElem_cons_zero, List.getElem_cons_succ]
      refine wpAnyH_ready (rs := [2]) (by kernel_rfl) (by simp) ?_
      refine AllReadyH.cons rfl (fun K hK => ?_) AllReadyH.nil
      go_simp
      go_at_call 35
      refine (HA.out _).mono ?_
      rintro e w2 ⟨rfl, g2⟩
      have x2 := (x1).trans g2
      have C2 := CellsAt.gr (C1) g2
      refine hK.out _ _ ?_ (fun hHeld => ?_)
      · (exact KS _ x2)
      clear hK K hS
      have hS := hHeld
      clear hHeld
      try simp only [Act.put, List.setIfInBounds_toArray, List.set_cons_zero, List.set_cons_succ, List.getElem_toArray, List.getElem_cons_zero, List.getElem_cons_succ]
      refine wpAnyH_ready (rs := [5]) (by kernel_rfl) (by simp) ?_
      refine AllReadyH.cons rfl (fun K hK => ?_) AllReadyH.nil
      go_simp
      go_at_call 36
      refine (HB.out _).mono ?_
      rintro e w3 ⟨rfl, g3⟩
      have x3 := (x2).trans g3
      have C3 := CellsAt.gr (C2) g3
      refine hK.out _ _ ?_ (fun hHeld => ?_)
      · (exact KS _ x3)
      clear hK K hS
      have hS := hHeld
      clear hHeld
      try simp only [Act.put, List.setIfInBounds_toArray, List.set_cons_zero, List.set_cons_succ, List.getElem_toArray, List.getElem_cons_zero, List.getElem_cons_succ]
      refine wpAnyH_take (i := 6) (v := ?_) rfl (by kernel_rfl) (by kernel_rfl) (by kernel_rfl) (fun _ _ _ h => h) (Or.inl ⟨by rfl, ?_⟩) (by assumption) ?_
      rotate_left
      · (intro w hSw; (try dsimp only at hSw); go_split_ands; go_simp; try with_reducible rfl)
      try simp only [Act.put, List.setIfInBounds_toArray, List.set_cons_zero, List.set_cons_succ, List.getElem_toArray, List.getElem_cons_zero, List.getElem_cons_succ]
      have lC := CellsAt.lt (C3)
      have fc0 := CellsAt.cell (C3) 0
      have fm0 := CellsAt.frozen (C3) 0
      have fc1 := CellsAt.cell (C3) 1
      have fm1 := CellsAt.frozen (C3) 1
      have fc2 := CellsAt.cell (C3) 2
      have fm2 := CellsAt.frozen (C3) 2
      have fc3 := CellsAt.cell (C3) 3
      have fm3 := CellsAt.frozen (C3) 3
      have fc4 := CellsAt.cell (C3) 4
      have fm4 := CellsAt.frozen (C3) 4
      have fc5 := CellsAt.cell (C3) 5
      have fm5 := CellsAt.frozen (C3) 5
      have fc6 := CellsAt.cell (C3) 6
      have fm6 := CellsAt.frozen (C3) 6
      have fc7 := CellsAt.cell (C3) 7
      have fm7 := CellsAt.frozen (C3) 7
      simp only [List.getElem?_toArray, List.getElem?_cons_zero, List.getElem?_cons_succ] at fc0 fc1 fc2 fc3 fc4 fc5 fc6 fc7
      refine wpAnyH_ready (rs := [8]) (by kernel_rfl) (by simp) ?_
      refine AllReadyH.cons rfl (fun K hK => ?_) AllReadyH.nil
      go_simp
      have hBs : u0.heap.size ≤ u0.heap.size := by have hq := Gr.size (Gr.drew (Gr.refl u0)); exact hq
      have x4 := Gr.setCell (Gr.setCell (Gr.setCell (Gr.setCell (Gr.setCell (Gr.setCell (Gr.setCell (Gr.setCell (x3) (a := ⟨u0.heap.size, 0, none⟩) hBs (.int .i64 (p).re)) (a := ⟨u0.heap.size, 1, none⟩) hBs (.int .i64 (p).im)) (a := ⟨u0.heap.size, 2, none⟩) hBs (.int .i64 (q).re)) (a := ⟨u0.heap.size, 3, none⟩) hBs (.int .i64 (q).im)) (a := ⟨u0.heap.size, 4, none⟩) hBs (.int .i64 0)) (a := ⟨u0.heap.size, 5, none⟩) hBs (.int .i64 0)) (a := ⟨u0.heap.size, 6, none⟩) hBs (.int .i64 0)) (a := ⟨u0.heap.size, 7, none⟩) hBs (.int .i64 0)
      have C4 := CellsAt.set8 (C3) (.int .i64 (p).re) (.int .i64 (p).im) (.int .i64 (q).re) (.int .i64 (q).im) (.int .i64 0) (.int .i64 0) (.int .i64 0) (.int .i64 0)
      refine hK.out _ _ ?_ (fun hHeld => ?_)
      · (exact KS _ x4)
      clear hK K hS
      have hS := hHeld
      clear hHeld
      try simp only [Act.put, List.setIfInBounds_toArray, List.set_cons_zero, List.set_cons_succ, List.getElem_toArray, List.getElem_cons_zero, List.getElem_cons_succ]
      refine wpAnyH_done (by kernel_rfl) ?_ _
      go_wp2_with fail
      go_meet
      case rel => exact ⟨_, rfl, hBs, C4, x4⟩
  case rest =>
    obtain ⟨B, rfl, hB, hC, hG⟩ := hcut
    have gw := gu.trans hG
    have Q2 := R2.gr hG
    have Q3 := R3.gr hG
    have Q5 := R5.gr hG
    have Q6 := R6.gr hG
    have Q7 := R7.gr hG
    have hB7 : w.heap.size + 1 + 1 + 1 + 1 + 1 + 1 + 1 < B := Nat.lt_of_lt_of_le R7.lt hB
    have hBw : w.heap.size ≤ B := Nat.le_trans gu.size hB
    clear R0 R1 R2 R3 R4 R5 R6 R7 KS HA HB hB gu hG
    have e0 := Q2.cell 0
    have e1 := Q2.cell 1
    have e2 := Q5.cell 0
    have e3 := Q5.cell 1
    have l2 := Q2.lt
    have l5 := Q5.lt
    simp only [List.getElem?_toArray, List.getElem?_cons_zero, List.getElem?_cons_succ] at e0 e1 e2 e3
    go_wp2_with fail
    refine (HC.out _).mono ?_
    rintro e w4 ⟨rfl, g4⟩
    replace hC := hC.gr g4
    replace Q3 := Q3.gr g4
    replace Q6 := Q6.gr g4
    replace Q7 := Q7.gr g4
    replace gw := gw.trans g4
    clear e0 e1 e2 e3 l2 l5 Q2 Q5 g4 HC
    have c4 := hC.cell 4
    have c5 := hC.cell 5
    have f4 := hC.frozen 4
    have f5 := hC.frozen 5
    have lB := hC.lt
    simp only [List.getElem?_toArray, List.getElem?_cons_zero, List.getElem?_cons_succ] at c4 c5
    have hC5 : CellsAt ((w4.setCell ⟨B, 4, none⟩ (.int .i64 r.re)).setCell ⟨B, 5, none⟩ (.int .i64 r.im)) B 47 #[.int .i64 (p).re, .int .i64 (p).im, .int .i64 (q).re, .int .i64 (q).im, .int .i64 (r).re, .int .i64 (r).im, .int .i64 0, .int .i64 0] := by
      have := (hC.set 4 (.int .i64 r.re)).set 5 (.int .i64 r.im)
      simpa using this
    have S3 := (Q3.other (B' := B) (by omega) 4 (.int .i64 r.re)).other (B' := B) (by omega) 5 (.int .i64 r.im)
    have S6 := (Q6.other (B' := B) (by omega) 4 (.int .i64 r.re)).other (B' := B) (by omega) 5 (.int .i64 r.im)
    have S7 := (Q7.other (B' := B) (by omega) 4 (.int .i64 r.re)).other (B' := B) (by omega) 5 (.int .i64 r.im)
    have gw5 := (gw.setCell (a := ⟨B, 4, none⟩) hBw (.int .i64 r.re)).setCell (a := ⟨B, 5, none⟩) hBw (.int .i64 r.im)
    clear hC Q3 Q6 Q7 gw
    have e0 := S3.cell 0
    have e1 := S3.cell 1
    have e2 := S6.cell 0
    have e3 := S6.cell 1
    have l2 := S3.lt
    have l5 := S6.lt
    simp only [List.getElem?_toArray, List.getElem?_cons_zero, List.getElem?_cons_succ] at e0 e1 e2 e3
    go_wp2_with fail
    refine (HD.out _).mono ?_
    rintro e w6 ⟨rfl, g6⟩
    replace hC5 := hC5.gr g6
    replace S7 := S7.gr g6
    replace gw5 := gw5.trans g6
    clear e0 e1 e2 e3 l2 l5 S3 S6 g6 HD c4 c5 f4 f5 lB
    have c4 := hC5.cell 6
    have c5 := hC5.cell 7
    have f4 := hC5.frozen 6
    have f5 := hC5.frozen 7
    have lB := hC5.lt
    simp only [List.getElem?_toArray, List.getElem?_cons_zero, List.getElem?_cons_succ] at c4 c5
    have hC7 : CellsAt ((w6.setCell ⟨B, 6, none⟩ (.int .i64 z.re)).setCell ⟨B, 7, none⟩ (.int .i64 z.im)) B 47 #[.int .i64 (p).re, .int .i64 (p).im, .int .i64 (q).re, .int .i64 (q).im, .int .i64 (r).re, .int .i64 (r).im, .int .i64 (z).re, .int .i64 (z).im] := by
      have := (hC5.set 6 (.int .i64 z.re)).set 7 (.int .i64 z.im)
      simpa using this
    have U7 := (S7.other (B' := B) (by omega) 6 (.int .i64 z.re)).other (B' := B) (by omega) 7 (.int .i64 z.im)
    have gw7 := (gw5.setCell (a := ⟨B, 6, none⟩) hBw (.int .i64 z.re)).setCell (a := ⟨B, 7, none⟩) hBw (.int .i64 z.im)
    clear hC5 S7 gw5
    go_wp2_with (first | (refine wpList_load_row rfl 47 _ rfl (B) rfl 47 _ (0, 0) _ hC7 Try.underlying47 rfl (by kernel_rfl) ?_) | (refine wpList_store_row rfl 47 _ _ rfl (w.heap.size + 1 + 1 + 1 + 1 + 1 + 1 + 1) _ rfl rfl 47 _ U7 (by kernel_rfl) (by kernel_rfl) (by kernel_rfl) ?_))
    have R9 := U7.setRow #[.int .i64 (p).re, .int .i64 (p).im, .int .i64 (q).re, .int .i64 (q).im, .int .i64 (r).re, .int .i64 (r).im, .int .i64 (z).re, .int .i64 (z).im]
    refine bodyPost_ret (v := .agg #[.int .i64 (p).re, .int .i64 (p).im, .int .i64 (q).re, .int .i64 (q).im, .int .i64 (r).re, .int .i64 (r).im, .int .i64 (z).re, .int .i64 (z).im]) ?_ rfl ⟨rfl, gw7.setRow (by omega) _⟩
    exact results_cell_row rfl _ _ _ _ _ (0, 0) _ rfl R9 Try.underlying47 rfl (by kernel_rfl)

end Go.Proofs.Ytomjldaonpjloaa
