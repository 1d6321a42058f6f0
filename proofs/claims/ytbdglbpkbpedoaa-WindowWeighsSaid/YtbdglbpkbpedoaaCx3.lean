/- What package cx's within answers: whether one number's parts, or two numbers', are within a limit. -/
import Derived.Test.YtbdglbpkbpedoaaCx
namespace Go.Proofs.Ytbdglbpkbpedoaa
open Go.ChangeShapes Go.WideShapes Go.ChangeAt Go.RowKit
set_option linter.unusedVariables false
set_option maxRecDepth 100000

theorem within1_1_o (p : Nat) (HE : Enters p) (pn pl k : Nat) (l : Int) (x00 x01 v0 : Int) (w : World) (HP0 : Hid (∀ W, Calls Try.prog p #[.agg #[.int .i64 x00, .int .i64 x01]] W fun e w' => e = .returned (.int .i64 v0) ∧ Gr W w')) (hn : w.cell? ⟨pn, 0, none⟩ = some (.slice (some ⟨k, 0, none⟩) 1 1)) (ln : pn < w.heap.size) (hlw : w.cell? ⟨pl, 0, none⟩ = some (.int .i64 l)) (llw : pl < w.heap.size)
    (lk : k < w.heap.size) (c00 : w.cell? ⟨k, 0, none⟩ = some (.int .i64 x00)) (c01 : w.cell? ⟨k, 1, none⟩ = some (.int .i64 x01)) (l0 : 0 ≤ l) (l1 : l ≤ 4611686018427387904) (h00 : decide (v0 < -l) = false) (h01 : decide (l < v0) = false) :
    Calls Try.prog 84 #[.func (.func p) #[] #[], .pointer (some ⟨pn, 0, none⟩), .pointer (some ⟨pl, 0, none⟩)] w fun e w' => e = .returned (.bool true) ∧ Gr w w' := by
  unfold Enters at HE
  have hw : IntKind.i64.wrap (-l) = -l := IntWalk.i64_in _ (by omega)
  go_enter Try.func84, Try.ntmps84
  go_wp2_with fail
  refine wp_loop_rounds 2 ?_
  rw [rounds_succ]
  go_wp2_with fail
  obtain ⟨a0, hW⟩ : ∃ u, u = w.alloc (.cells #[.int .i64 x00, .int .i64 x01] 57) := ⟨_, rfl⟩
  have ga0 : Gr w a0 := by rw [hW]; exact (Gr.refl w).alloc _ _
  have za0 : w.heap.size < a0.heap.size := by rw [hW]; simp
  have d0a0 : a0.cell? ⟨w.heap.size, 0, none⟩ = some (.int .i64 x00) := by rw [hW]; go_simp
  have d1a0 : a0.cell? ⟨w.heap.size, 1, none⟩ = some (.int .i64 x01) := by rw [hW]; go_simp
  have hla0 := (ga0.cell (p := ⟨pl, 0, none⟩) llw).trans hlw
  have lla0 := Nat.lt_trans llw za0
  rw [← hW]
  clear hW
  go_region_held3 (fun W => W.cell? ⟨w.heap.size, 0, none⟩ = some (.int .i64 x00) ∧ W.cell? ⟨w.heap.size, 1, none⟩ = some (.int .i64 x01) ∧ W.cell? ⟨pl, 0, none⟩ = some (.int .i64 l) ∧ Gr a0 W)
    (first | (go_split_ands; refine ⟨?_, ?_, ?_, ?_⟩; (all_goals (first | assumption | exact Gr.refl _ | exact Gr.drew (Gr.refl _) | exact Gr.drew (by assumption) | (go_keep; done) | ((refine (Gr.cell (by assumption) ?_).trans ?_ <;> (first | assumption)); done)))))
    (first | (go_split_ands; refine (HP0.out _).mono ?_; rintro e w' ⟨rfl, hg⟩; have hgw : Gr a0 w' := Gr.trans (by first | assumption | exact Gr.drew (Gr.refl _)) hg))
  obtain ⟨b0, hB⟩ : ∃ u, u = w' := ⟨_, rfl⟩
  subst hB
  have gb0 : Gr w b0 := (ga0.trans hgw)
  have llb0 : pl < b0.heap.size := Nat.lt_of_lt_of_le llw gb0.size
  have hlb0 := (gb0.cell (p := ⟨pl, 0, none⟩) llw).trans hlw
  go_wp2_with fail
  rw [rounds_succ]
  go_wp2_with fail
  go_ret
  exact ⟨rfl, gb0⟩

theorem within1_1_l (p : Nat) (HE : Enters p) (pn pl k : Nat) (l : Int) (x00 x01 v0 : Int) (w : World) (HP0 : Hid (∀ W, Calls Try.prog p #[.agg #[.int .i64 x00, .int .i64 x01]] W fun e w' => e = .returned (.int .i64 v0) ∧ Gr W w')) (hn : w.cell? ⟨pn, 0, none⟩ = some (.slice (some ⟨k, 0, none⟩) 1 1)) (ln : pn < w.heap.size) (hlw : w.cell? ⟨pl, 0, none⟩ = some (.int .i64 l)) (llw : pl < w.heap.size)
    (lk : k < w.heap.size) (c00 : w.cell? ⟨k, 0, none⟩ = some (.int .i64 x00)) (c01 : w.cell? ⟨k, 1, none⟩ = some (.int .i64 x01)) (l0 : 0 ≤ l) (l1 : l ≤ 4611686018427387904) (h00 : decide (v0 < -l) = true) :
    Calls Try.prog 84 #[.func (.func p) #[] #[], .pointer (some ⟨pn, 0, none⟩), .pointer (some ⟨pl, 0, none⟩)] w fun e w' => e = .returned (.bool false) ∧ Gr w w' := by
  unfold Enters at HE
  have hw : IntKind.i64.wrap (-l) = -l := IntWalk.i64_in _ (by omega)
  go_enter Try.func84, Try.ntmps84
  go_wp2_with fail
  refine wp_loop_rounds 2 ?_
  rw [rounds_succ]
  go_wp2_with fail
  obtain ⟨a0, hW⟩ : ∃ u, u = w.alloc (.cells #[.int .i64 x00, .int .i64 x01] 57) := ⟨_, rfl⟩
  have ga0 : Gr w a0 := by rw [hW]; exact (Gr.refl w).alloc _ _
  have za0 : w.heap.size < a0.heap.size := by rw [hW]; simp
  have d0a0 : a0.cell? ⟨w.heap.size, 0, none⟩ = some (.int .i64 x00) := by rw [hW]; go_simp
  have d1a0 : a0.cell? ⟨w.heap.size, 1, none⟩ = some (.int .i64 x01) := by rw [hW]; go_simp
  have hla0 := (ga0.cell (p := ⟨pl, 0, none⟩) llw).trans hlw
  have lla0 := Nat.lt_trans llw za0
  rw [← hW]
  clear hW
  refine wp_region_held_drew (S := fun W => W.cell? ⟨w.heap.size, 0, none⟩ = some (.int .i64 x00) ∧ W.cell? ⟨w.heap.size, 1, none⟩ = some (.int .i64 x01) ∧ W.cell? ⟨pl, 0, none⟩ = some (.int .i64 l) ∧ Gr a0 W) rfl (⟨d0a0, d1a0, hla0, (Gr.refl a0).drew⟩) (fun hS => ?_)
  refine wpAnyH_take (i := 0) (v := ?_) rfl (by kernel_rfl) (by kernel_rfl) (by kernel_rfl) (fun _ _ _ h => h) (Or.inl ⟨by rfl, ?_⟩) (by assumption) ?_
  rotate_left
  · (intro w hSw; (try dsimp only at hSw); go_split_ands; go_simp; try with_reducible rfl)
  try simp only [Act.put, List.setIfInBounds_toArray, List.set_cons_zero, List.set_cons_succ, List.getElem_toArray, List.getElem_cons_zero]
  refine wpAnyH_take (i := 1) (v := ?_) rfl (by kernel_rfl) (by kernel_rfl) (by kernel_rfl) (fun _ _ _ h => h) (Or.inl ⟨by rfl, ?_⟩) (by assumption) ?_
  rotate_left
  · (intro w hSw; (try dsimp only at hSw); go_split_ands; go_simp; try with_reducible rfl)
  try simp only [Act.put, List.setIfInBounds_toArray, List.set_cons_zero, List.set_cons_succ, List.getElem_toArray, List.getElem_cons_zero, List.getElem_cons_succ]
  refine wpAnyH_take (i := 3) (v := ?_) rfl (by kernel_rfl) (by kernel_rfl) (by kernel_rfl) (fun _ _ _ h => h) (Or.inl ⟨by rfl, ?_⟩) (by assumption) ?_
  rotate_left
  · (intro w hSw; (try dsimp only at hSw); go_split_ands; go_simp; try with_reducible rfl)
  try simp only [Act.put, List.setIfInBounds_toArray, List.set_cons_zero, List.set_cons_succ, List.getElem_toArray, List.getElem_cons_zero, List.getElem_cons_succ]
  refine wpAnyH_take (i := 4) (v := ?_) rfl (by kernel_rfl) (by kernel_rfl) (by kernel_rfl) (fun _ _ _ h => h) (Or.inl ⟨by rfl, ?_⟩) (by assumption) ?_
  rotate_left
  · (intro w hSw; (try dsimp only at hSw); go_split_ands; go_simp; try with_reducible rfl)
  try simp only [Act.put, List.setIfInBounds_toArray, List.set_cons_zero, List.set_cons_succ, List.getElem_toArray, List.getElem_cons_zero, List.getElem_cons_succ]
  refine wpAnyH_ready (rs := [2]) (by kernel_rfl) (by simp) ?_
  refine AllReadyH.cons rfl (fun K hK => ?_) AllReadyH.nil
  go_simp
  (go_split_ands; refine (HP0.out _).mono ?_; rintro e w' ⟨rfl, hg⟩; have hgw : Gr a0 w' := Gr.trans (by first | assumption | exact Gr.drew (Gr.refl _)) hg)
  refine hK.out _ _ ?_ (fun hHeld => ?_)
  · exact ⟨(hgw.cell (p := ⟨w.heap.size, 0, none⟩) za0).trans d0a0, (hgw.cell (p := ⟨w.heap.size, 1, none⟩) za0).trans d1a0, (hgw.cell (p := ⟨pl, 0, none⟩) lla0).trans hla0, hgw⟩
  clear hK K
  try simp only [Act.put, List.setIfInBounds_toArray, List.set_cons_zero, List.set_cons_succ, List.getElem_toArray, List.getElem_cons_zero, List.getElem_cons_succ]
  refine wpAnyH_take (i := 5) (v := ?_) rfl (by kernel_rfl) (by kernel_rfl) (by kernel_rfl) (fun _ _ _ h => h) (Or.inl ⟨by rfl, ?_⟩) (by assumption) ?_
  rotate_left
  · (intro w hSw; (try dsimp only at hSw); go_split_ands; go_simp; try with_reducible rfl)
  try simp only [Act.put, List.setIfInBounds_toArray, List.set_cons_zero, List.set_cons_succ, List.getElem_toArray, List.getElem_cons_zero, List.getElem_cons_succ]
  refine wpAnyH_take (i := 6) (v := ?_) rfl (by kernel_rfl) (by kernel_rfl) (by kernel_rfl) (fun _ _ _ h => h) (Or.inl ⟨by rfl, ?_⟩) (by assumption) ?_
  rotate_left
  · (intro w hSw; (try dsimp only at hSw); go_split_ands; go_simp; try with_reducible rfl)
  try simp only [Act.put, List.setIfInBounds_toArray, List.set_cons_zero, List.set_cons_succ, List.getElem_toArray, List.getElem_cons_zero, List.getElem_cons_succ]
  refine wpAnyH_take (i := 7) (v := undef) rfl (by kernel_rfl) (by kernel_rfl) (by kernel_rfl) (fun _ _ _ h => h) (Or.inr ⟨by rfl, rfl⟩) (by assumption) ?_
  try simp only [Act.put, List.setIfInBounds_toArray, List.set_cons_zero, List.set_cons_succ, List.getElem_toArray, List.getElem_cons_zero, List.getElem_cons_succ]
  refine wpAnyH_take (i := 8) (v := undef) rfl (by kernel_rfl) (by kernel_rfl) (by kernel_rfl) (fun _ _ _ h => h) (Or.inr ⟨by rfl, rfl⟩) (by assumption) ?_
  try simp only [Act.put, List.setIfInBounds_toArray, List.set_cons_zero, List.set_cons_succ, List.getElem_toArray, List.getElem_cons_zero, List.getElem_cons_succ]
  refine wpAnyH_take (i := 9) (v := undef) rfl (by kernel_rfl) (by kernel_rfl) (by kernel_rfl) (fun _ _ _ h => h) (Or.inr ⟨by rfl, rfl⟩) (by assumption) ?_
  try simp only [Act.put, List.setIfInBounds_toArray, List.set_cons_zero, List.set_cons_succ, List.getElem_toArray, List.getElem_cons_zero, List.getElem_cons_succ]
  refine wpAnyH_take (i := 10) (v := undef) rfl (by kernel_rfl) (by kernel_rfl) (by kernel_rfl) (fun _ _ _ h => h) (Or.inr ⟨by rfl, rfl⟩) (by assumption) ?_
  try simp only [Act.put, List.setIfInBounds_toArray, List.set_cons_zero, List.set_cons_succ, List.getElem_toArray, List.getElem_cons_zero, List.getElem_cons_succ]
  refine wpAnyH_take (i := 11) (v := undef) rfl (by kernel_rfl) (by kernel_rfl) (by kernel_rfl) (fun _ _ _ h => h) (Or.inr ⟨by rfl, rfl⟩) (by assumption) ?_
  try simp only [Act.put, List.setIfInBounds_toArray, List.set_cons_zero, List.set_cons_succ, List.getElem_toArray, List.getElem_cons_zero, List.getElem_cons_succ]
  refine wpAnyH_take (i := 12) (v := ?_) rfl (by kernel_rfl) (by kernel_rfl) (by kernel_rfl) (fun _ _ _ h => h) (Or.inl ⟨by rfl, ?_⟩) (by assumption) ?_
  rotate_left
  · (intro w hSw; (try dsimp only at hSw); go_split_ands; go_simp; try with_reducible rfl)
  try simp only [Act.put, List.setIfInBounds_toArray, List.set_cons_zero, List.set_cons_succ, List.getElem_toArray, List.getElem_cons_zero, List.getElem_cons_succ]
  refine wpAnyH_done (by kernel_rfl) ?_ _
  obtain ⟨b0, hB⟩ : ∃ u, u = w' := ⟨_, rfl⟩
  subst hB
  have gb0 : Gr w b0 := (ga0.trans hgw)
  have llb0 : pl < b0.heap.size := Nat.lt_of_lt_of_le llw gb0.size
  have hlb0 := (gb0.cell (p := ⟨pl, 0, none⟩) llw).trans hlw
  go_wp2_with fail
  go_ret
  exact ⟨rfl, gb0⟩

theorem within1_1_h (p : Nat) (HE : Enters p) (pn pl k : Nat) (l : Int) (x00 x01 v0 : Int) (w : World) (HP0 : Hid (∀ W, Calls Try.prog p #[.agg #[.int .i64 x00, .int .i64 x01]] W fun e w' => e = .returned (.int .i64 v0) ∧ Gr W w')) (hn : w.cell? ⟨pn, 0, none⟩ = some (.slice (some ⟨k, 0, none⟩) 1 1)) (ln : pn < w.heap.size) (hlw : w.cell? ⟨pl, 0, none⟩ = some (.int .i64 l)) (llw : pl < w.heap.size)
    (lk : k < w.heap.size) (c00 : w.cell? ⟨k, 0, none⟩ = some (.int .i64 x00)) (c01 : w.cell? ⟨k, 1, none⟩ = some (.int .i64 x01)) (l0 : 0 ≤ l) (l1 : l ≤ 4611686018427387904) (h00 : decide (v0 < -l) = false) (h01 : decide (l < v0) = true) :
    Calls Try.prog 84 #[.func (.func p) #[] #[], .pointer (some ⟨pn, 0, none⟩), .pointer (some ⟨pl, 0, none⟩)] w fun e w' => e = .returned (.bool false) ∧ Gr w w' := by
  unfold Enters at HE
  have hw : IntKind.i64.wrap (-l) = -l := IntWalk.i64_in _ (by omega)
  go_enter Try.func84, Try.ntmps84
  go_wp2_with fail
  refine wp_loop_rounds 2 ?_
  rw [rounds_succ]
  go_wp2_with fail
  obtain ⟨a0, hW⟩ : ∃ u, u = w.alloc (.cells #[.int .i64 x00, .int .i64 x01] 57) := ⟨_, rfl⟩
  have ga0 : Gr w a0 := by rw [hW]; exact (Gr.refl w).alloc _ _
  have za0 : w.heap.size < a0.heap.size := by rw [hW]; simp
  have d0a0 : a0.cell? ⟨w.heap.size, 0, none⟩ = some (.int .i64 x00) := by rw [hW]; go_simp
  have d1a0 : a0.cell? ⟨w.heap.size, 1, none⟩ = some (.int .i64 x01) := by rw [hW]; go_simp
  have hla0 := (ga0.cell (p := ⟨pl, 0, none⟩) llw).trans hlw
  have lla0 := Nat.lt_trans llw za0
  rw [← hW]
  clear hW
  go_region_held3 (fun W => W.cell? ⟨w.heap.size, 0, none⟩ = some (.int .i64 x00) ∧ W.cell? ⟨w.heap.size, 1, none⟩ = some (.int .i64 x01) ∧ W.cell? ⟨pl, 0, none⟩ = some (.int .i64 l) ∧ Gr a0 W)
    (first | (go_split_ands; refine ⟨?_, ?_, ?_, ?_⟩; (all_goals (first | assumption | exact Gr.refl _ | exact Gr.drew (Gr.refl _) | exact Gr.drew (by assumption) | (go_keep; done) | ((refine (Gr.cell (by assumption) ?_).trans ?_ <;> (first | assumption)); done)))))
    (first | (go_split_ands; refine (HP0.out _).mono ?_; rintro e w' ⟨rfl, hg⟩; have hgw : Gr a0 w' := Gr.trans (by first | assumption | exact Gr.drew (Gr.refl _)) hg))
  obtain ⟨b0, hB⟩ : ∃ u, u = w' := ⟨_, rfl⟩
  subst hB
  have gb0 : Gr w b0 := (ga0.trans hgw)
  have llb0 : pl < b0.heap.size := Nat.lt_of_lt_of_le llw gb0.size
  have hlb0 := (gb0.cell (p := ⟨pl, 0, none⟩) llw).trans hlw
  go_wp2_with fail
  go_ret
  exact ⟨rfl, gb0⟩

theorem within1_2_l (p : Nat) (HE : Enters p) (pn pl k : Nat) (l : Int) (x00 x01 v0 : Int) (x10 x11 v1 : Int) (w : World) (HP0 : Hid (∀ W, Calls Try.prog p #[.agg #[.int .i64 x00, .int .i64 x01]] W fun e w' => e = .returned (.int .i64 v0) ∧ Gr W w')) (HP1 : Hid (∀ W, Calls Try.prog p #[.agg #[.int .i64 x10, .int .i64 x11]] W fun e w' => e = .returned (.int .i64 v1) ∧ Gr W w')) (hn : w.cell? ⟨pn, 0, none⟩ = some (.slice (some ⟨k, 0, none⟩) 2 2)) (ln : pn < w.heap.size) (hlw : w.cell? ⟨pl, 0, none⟩ = some (.int .i64 l)) (llw : pl < w.heap.size)
    (lk : k < w.heap.size) (c00 : w.cell? ⟨k, 0, none⟩ = some (.int .i64 x00)) (c01 : w.cell? ⟨k, 1, none⟩ = some (.int .i64 x01)) (c10 : w.cell? ⟨k, 2, none⟩ = some (.int .i64 x10)) (c11 : w.cell? ⟨k, 3, none⟩ = some (.int .i64 x11)) (l0 : 0 ≤ l) (l1 : l ≤ 4611686018427387904) (h00 : decide (v0 < -l) = true) :
    Calls Try.prog 84 #[.func (.func p) #[] #[], .pointer (some ⟨pn, 0, none⟩), .pointer (some ⟨pl, 0, none⟩)] w fun e w' => e = .returned (.bool false) ∧ Gr w w' := by
  unfold Enters at HE
  have hw : IntKind.i64.wrap (-l) = -l := IntWalk.i64_in _ (by omega)
  go_enter Try.func84, Try.ntmps84
  go_wp2_with fail
  refine wp_loop_rounds 3 ?_
  rw [rounds_succ]
  go_wp2_with fail
  obtain ⟨a0, hW⟩ : ∃ u, u = w.alloc (.cells #[.int .i64 x00, .int .i64 x01] 57) := ⟨_, rfl⟩
  have ga0 : Gr w a0 := by rw [hW]; exact (Gr.refl w).alloc _ _
  have za0 : w.heap.size < a0.heap.size := by rw [hW]; simp
  have d0a0 : a0.cell? ⟨w.heap.size, 0, none⟩ = some (.int .i64 x00) := by rw [hW]; go_simp
  have d1a0 : a0.cell? ⟨w.heap.size, 1, none⟩ = some (.int .i64 x01) := by rw [hW]; go_simp
  have hla0 := (ga0.cell (p := ⟨pl, 0, none⟩) llw).trans hlw
  have lla0 := Nat.lt_trans llw za0
  rw [← hW]
  clear hW
  refine wp_region_held_drew (S := fun W => W.cell? ⟨w.heap.size, 0, none⟩ = some (.int .i64 x00) ∧ W.cell? ⟨w.heap.size, 1, none⟩ = some (.int .i64 x01) ∧ W.cell? ⟨pl, 0, none⟩ = some (.int .i64 l) ∧ Gr a0 W) rfl (⟨d0a0, d1a0, hla0, (Gr.refl a0).drew⟩) (fun hS => ?_)
  refine wpAnyH_take (i := 0) (v := ?_) rfl (by kernel_rfl) (by kernel_rfl) (by kernel_rfl) (fun _ _ _ h => h) (Or.inl ⟨by rfl, ?_⟩) (by assumption) ?_
  rotate_left
  · (intro w hSw; (try dsimp only at hSw); go_split_ands; go_simp; try with_reducible rfl)
  try simp only [Act.put, List.setIfInBounds_toArray, List.set_cons_zero, List.set_cons_succ, List.getElem_toArray, List.getElem_cons_zero]
  refine wpAnyH_take (i := 1) (v := ?_) rfl (by kernel_rfl) (by kernel_rfl) (by kernel_rfl) (fun _ _ _ h => h) (Or.inl ⟨by rfl, ?_⟩) (by assumption) ?_
  rotate_left
  · (intro w hSw; (try dsimp only at hSw); go_split_ands; go_simp; try with_reducible rfl)
  try simp only [Act.put, List.setIfInBounds_toArray, List.set_cons_zero, List.set_cons_succ, List.getElem_toArray, List.getElem_cons_zero, List.getElem_cons_succ]
  refine wpAnyH_take (i := 3) (v := ?_) rfl (by kernel_rfl) (by kernel_rfl) (by kernel_rfl) (fun _ _ _ h => h) (Or.inl ⟨by rfl, ?_⟩) (by assumption) ?_
  rotate_left
  · (intro w hSw; (try dsimp only at hSw); go_split_ands; go_simp; try with_reducible rfl)
  try simp only [Act.put, List.setIfInBounds_toArray, List.set_cons_zero, List.set_cons_succ, List.getElem_toArray, List.getElem_cons_zero, List.getElem_cons_succ]
  refine wpAnyH_take (i := 4) (v := ?_) rfl (by kernel_rfl) (by kernel_rfl) (by kernel_rfl) (fun _ _ _ h => h) (Or.inl ⟨by rfl, ?_⟩) (by assumption) ?_
  rotate_left
  · (intro w hSw; (try dsimp only at hSw); go_split_ands; go_simp; try with_reducible rfl)
  try simp only [Act.put, List.setIfInBounds_toArray, List.set_cons_zero, List.set_cons_succ, List.getElem_toArray, List.getElem_cons_zero, List.getElem_cons_succ]
  refine wpAnyH_ready (rs := [2]) (by kernel_rfl) (by simp) ?_
  refine AllReadyH.cons rfl (fun K hK => ?_) AllReadyH.nil
  go_simp
  (go_split_ands; refine (HP0.out _).mono ?_; rintro e w' ⟨rfl, hg⟩; have hgw : Gr a0 w' := Gr.trans (by first | assumption | exact Gr.drew (Gr.refl _)) hg)
  refine hK.out _ _ ?_ (fun hHeld => ?_)
  · exact ⟨(hgw.cell (p := ⟨w.heap.size, 0, none⟩) za0).trans d0a0, (hgw.cell (p := ⟨w.heap.size, 1, none⟩) za0).trans d1a0, (hgw.cell (p := ⟨pl, 0, none⟩) lla0).trans hla0, hgw⟩
  clear hK K
  try simp only [Act.put, List.setIfInBounds_toArray, List.set_cons_zero, List.set_cons_succ, List.getElem_toArray, List.getElem_cons_zero, List.getElem_cons_succ]
  refine wpAnyH_take (i := 5) (v := ?_) rfl (by kernel_rfl) (by kernel_rfl) (by kernel_rfl) (fun _ _ _ h => h) (Or.inl ⟨by rfl, ?_⟩) (by assumption) ?_
  rotate_left
  · (intro w hSw; (try dsimp only at hSw); go_split_ands; go_simp; try with_reducible rfl)
  try simp only [Act.put, List.setIfInBounds_toArray, List.set_cons_zero, List.set_cons_succ, List.getElem_toArray, List.getElem_cons_zero, List.getElem_cons_succ]
  refine wpAnyH_take (i := 6) (v := ?_) rfl (by kernel_rfl) (by kernel_rfl) (by kernel_rfl) (fun _ _ _ h => h) (Or.inl ⟨by rfl, ?_⟩) (by assumption) ?_
  rotate_left
  · (intro w hSw; (try dsimp only at hSw); go_split_ands; go_simp; try with_reducible rfl)
  try simp only [Act.put, List.setIfInBounds_toArray, List.set_cons_zero, List.set_cons_succ, List.getElem_toArray, List.getElem_cons_zero, List.getElem_cons_succ]
  refine wpAnyH_take (i := 7) (v := undef) rfl (by kernel_rfl) (by kernel_rfl) (by kernel_rfl) (fun _ _ _ h => h) (Or.inr ⟨by rfl, rfl⟩) (by assumption) ?_
  try simp only [Act.put, List.setIfInBounds_toArray, List.set_cons_zero, List.set_cons_succ, List.getElem_toArray, List.getElem_cons_zero, List.getElem_cons_succ]
  refine wpAnyH_take (i := 8) (v := undef) rfl (by kernel_rfl) (by kernel_rfl) (by kernel_rfl) (fun _ _ _ h => h) (Or.inr ⟨by rfl, rfl⟩) (by assumption) ?_
  try simp only [Act.put, List.setIfInBounds_toArray, List.set_cons_zero, List.set_cons_succ, List.getElem_toArray, List.getElem_cons_zero, List.getElem_cons_succ]
  refine wpAnyH_take (i := 9) (v := undef) rfl (by kernel_rfl) (by kernel_rfl) (by kernel_rfl) (fun _ _ _ h => h) (Or.inr ⟨by rfl, rfl⟩) (by assumption) ?_
  try simp only [Act.put, List.setIfInBounds_toArray, List.set_cons_zero, List.set_cons_succ, List.getElem_toArray, List.getElem_cons_zero, List.getElem_cons_succ]
  refine wpAnyH_take (i := 10) (v := undef) rfl (by kernel_rfl) (by kernel_rfl) (by kernel_rfl) (fun _ _ _ h => h) (Or.inr ⟨by rfl, rfl⟩) (by assumption) ?_
  try simp only [Act.put, List.setIfInBounds_toArray, List.set_cons_zero, List.set_cons_succ, List.getElem_toArray, List.getElem_cons_zero, List.getElem_cons_succ]
  refine wpAnyH_take (i := 11) (v := undef) rfl (by kernel_rfl) (by kernel_rfl) (by kernel_rfl) (fun _ _ _ h => h) (Or.inr ⟨by rfl, rfl⟩) (by assumption) ?_
  try simp only [Act.put, List.setIfInBounds_toArray, List.set_cons_zero, List.set_cons_succ, List.getElem_toArray, List.getElem_cons_zero, List.getElem_cons_succ]
  refine wpAnyH_take (i := 12) (v := ?_) rfl (by kernel_rfl) (by kernel_rfl) (by kernel_rfl) (fun _ _ _ h => h) (Or.inl ⟨by rfl, ?_⟩) (by assumption) ?_
  rotate_left
  · (intro w hSw; (try dsimp only at hSw); go_split_ands; go_simp; try with_reducible rfl)
  try simp only [Act.put, List.setIfInBounds_toArray, List.set_cons_zero, List.set_cons_succ, List.getElem_toArray, List.getElem_cons_zero, List.getElem_cons_succ]
  refine wpAnyH_done (by kernel_rfl) ?_ _
  obtain ⟨b0, hB⟩ : ∃ u, u = w' := ⟨_, rfl⟩
  subst hB
  have gb0 : Gr w b0 := (ga0.trans hgw)
  have llb0 : pl < b0.heap.size := Nat.lt_of_lt_of_le llw gb0.size
  have hlb0 := (gb0.cell (p := ⟨pl, 0, none⟩) llw).trans hlw
  go_wp2_with fail
  go_ret
  exact ⟨rfl, gb0⟩

theorem within1_2_h (p : Nat) (HE : Enters p) (pn pl k : Nat) (l : Int) (x00 x01 v0 : Int) (x10 x11 v1 : Int) (w : World) (HP0 : Hid (∀ W, Calls Try.prog p #[.agg #[.int .i64 x00, .int .i64 x01]] W fun e w' => e = .returned (.int .i64 v0) ∧ Gr W w')) (HP1 : Hid (∀ W, Calls Try.prog p #[.agg #[.int .i64 x10, .int .i64 x11]] W fun e w' => e = .returned (.int .i64 v1) ∧ Gr W w')) (hn : w.cell? ⟨pn, 0, none⟩ = some (.slice (some ⟨k, 0, none⟩) 2 2)) (ln : pn < w.heap.size) (hlw : w.cell? ⟨pl, 0, none⟩ = some (.int .i64 l)) (llw : pl < w.heap.size)
    (lk : k < w.heap.size) (c00 : w.cell? ⟨k, 0, none⟩ = some (.int .i64 x00)) (c01 : w.cell? ⟨k, 1, none⟩ = some (.int .i64 x01)) (c10 : w.cell? ⟨k, 2, none⟩ = some (.int .i64 x10)) (c11 : w.cell? ⟨k, 3, none⟩ = some (.int .i64 x11)) (l0 : 0 ≤ l) (l1 : l ≤ 4611686018427387904) (h00 : decide (v0 < -l) = false) (h01 : decide (l < v0) = true) :
    Calls Try.prog 84 #[.func (.func p) #[] #[], .pointer (some ⟨pn, 0, none⟩), .pointer (some ⟨pl, 0, none⟩)] w fun e w' => e = .returned (.bool false) ∧ Gr w w' := by
  unfold Enters at HE
  have hw : IntKind.i64.wrap (-l) = -l := IntWalk.i64_in _ (by omega)
  go_enter Try.func84, Try.ntmps84
  go_wp2_with fail
  refine wp_loop_rounds 3 ?_
  rw [rounds_succ]
  go_wp2_with fail
  obtain ⟨a0, hW⟩ : ∃ u, u = w.alloc (.cells #[.int .i64 x00, .int .i64 x01] 57) := ⟨_, rfl⟩
  have ga0 : Gr w a0 := by rw [hW]; exact (Gr.refl w).alloc _ _
  have za0 : w.heap.size < a0.heap.size := by rw [hW]; simp
  have d0a0 : a0.cell? ⟨w.heap.size, 0, none⟩ = some (.int .i64 x00) := by rw [hW]; go_simp
  have d1a0 : a0.cell? ⟨w.heap.size, 1, none⟩ = some (.int .i64 x01) := by rw [hW]; go_simp
  have hla0 := (ga0.cell (p := ⟨pl, 0, none⟩) llw).trans hlw
  have lla0 := Nat.lt_trans llw za0
  rw [← hW]
  clear hW
  go_region_held3 (fun W => W.cell? ⟨w.heap.size, 0, none⟩ = some (.int .i64 x00) ∧ W.cell? ⟨w.heap.size, 1, none⟩ = some (.int .i64 x01) ∧ W.cell? ⟨pl, 0, none⟩ = some (.int .i64 l) ∧ Gr a0 W)
    (first | (go_split_ands; refine ⟨?_, ?_, ?_, ?_⟩; (all_goals (first | assumption | exact Gr.refl _ | exact Gr.drew (Gr.refl _) | exact Gr.drew (by assumption) | (go_keep; done) | ((refine (Gr.cell (by assumption) ?_).trans ?_ <;> (first | assumption)); done)))))
    (first | (go_split_ands; refine (HP0.out _).mono ?_; rintro e w' ⟨rfl, hg⟩; have hgw : Gr a0 w' := Gr.trans (by first | assumption | exact Gr.drew (Gr.refl _)) hg))
  obtain ⟨b0, hB⟩ : ∃ u, u = w' := ⟨_, rfl⟩
  subst hB
  have gb0 : Gr w b0 := (ga0.trans hgw)
  have llb0 : pl < b0.heap.size := Nat.lt_of_lt_of_le llw gb0.size
  have hlb0 := (gb0.cell (p := ⟨pl, 0, none⟩) llw).trans hlw
  go_wp2_with fail
  go_ret
  exact ⟨rfl, gb0⟩

theorem within1_2_ol (p : Nat) (HE : Enters p) (pn pl k : Nat) (l : Int) (x00 x01 v0 : Int) (x10 x11 v1 : Int) (w : World) (HP0 : Hid (∀ W, Calls Try.prog p #[.agg #[.int .i64 x00, .int .i64 x01]] W fun e w' => e = .returned (.int .i64 v0) ∧ Gr W w')) (HP1 : Hid (∀ W, Calls Try.prog p #[.agg #[.int .i64 x10, .int .i64 x11]] W fun e w' => e = .returned (.int .i64 v1) ∧ Gr W w')) (hn : w.cell? ⟨pn, 0, none⟩ = some (.slice (some ⟨k, 0, none⟩) 2 2)) (ln : pn < w.heap.size) (hlw : w.cell? ⟨pl, 0, none⟩ = some (.int .i64 l)) (llw : pl < w.heap.size)
    (lk : k < w.heap.size) (c00 : w.cell? ⟨k, 0, none⟩ = some (.int .i64 x00)) (c01 : w.cell? ⟨k, 1, none⟩ = some (.int .i64 x01)) (c10 : w.cell? ⟨k, 2, none⟩ = some (.int .i64 x10)) (c11 : w.cell? ⟨k, 3, none⟩ = some (.int .i64 x11)) (l0 : 0 ≤ l) (l1 : l ≤ 4611686018427387904) (h00 : decide (v0 < -l) = false) (h01 : decide (l < v0) = false) (h10 : decide (v1 < -l) = true) :
    Calls Try.prog 84 #[.func (.func p) #[] #[], .pointer (some ⟨pn, 0, none⟩), .pointer (some ⟨pl, 0, none⟩)] w fun e w' => e = .returned (.bool false) ∧ Gr w w' := by
  unfold Enters at HE
  have hw : IntKind.i64.wrap (-l) = -l := IntWalk.i64_in _ (by omega)
  go_enter Try.func84, Try.ntmps84
  go_wp2_with fail
  refine wp_loop_rounds 3 ?_
  rw [rounds_succ]
  go_wp2_with fail
  obtain ⟨a0, hW⟩ : ∃ u, u = w.alloc (.cells #[.int .i64 x00, .int .i64 x01] 57) := ⟨_, rfl⟩
  have ga0 : Gr w a0 := by rw [hW]; exact (Gr.refl w).alloc _ _
  have za0 : w.heap.size < a0.heap.size := by rw [hW]; simp
  have d0a0 : a0.cell? ⟨w.heap.size, 0, none⟩ = some (.int .i64 x00) := by rw [hW]; go_simp
  have d1a0 : a0.cell? ⟨w.heap.size, 1, none⟩ = some (.int .i64 x01) := by rw [hW]; go_simp
  have hla0 := (ga0.cell (p := ⟨pl, 0, none⟩) llw).trans hlw
  have lla0 := Nat.lt_trans llw za0
  rw [← hW]
  clear hW
  go_region_held3 (fun W => W.cell? ⟨w.heap.size, 0, none⟩ = some (.int .i64 x00) ∧ W.cell? ⟨w.heap.size, 1, none⟩ = some (.int .i64 x01) ∧ W.cell? ⟨pl, 0, none⟩ = some (.int .i64 l) ∧ Gr a0 W)
    (first | (go_split_ands; refine ⟨?_, ?_, ?_, ?_⟩; (all_goals (first | assumption | exact Gr.refl _ | exact Gr.drew (Gr.refl _) | exact Gr.drew (by assumption) | (go_keep; done) | ((refine (Gr.cell (by assumption) ?_).trans ?_ <;> (first | assumption)); done)))))
    (first | (go_split_ands; refine (HP0.out _).mono ?_; rintro e w' ⟨rfl, hg⟩; have hgw : Gr a0 w' := Gr.trans (by first | assumption | exact Gr.drew (Gr.refl _)) hg))
  obtain ⟨b0, hB⟩ : ∃ u, u = w' := ⟨_, rfl⟩
  subst hB
  have gb0 : Gr w b0 := (ga0.trans hgw)
  have llb0 : pl < b0.heap.size := Nat.lt_of_lt_of_le llw gb0.size
  have hlb0 := (gb0.cell (p := ⟨pl, 0, none⟩) llw).trans hlw
  have c10b := (gb0.cell (p := ⟨k, 2, none⟩) lk).trans c10
  have c11b := (gb0.cell (p := ⟨k, 3, none⟩) lk).trans c11
  go_wp2_with fail
  rw [rounds_succ]
  go_wp2_with fail
  obtain ⟨a1, hW⟩ : ∃ u, u = b0.alloc (.cells #[.int .i64 x10, .int .i64 x11] 57) := ⟨_, rfl⟩
  have ga1 : Gr b0 a1 := by rw [hW]; exact (Gr.refl b0).alloc _ _
  have za1 : b0.heap.size < a1.heap.size := by rw [hW]; simp
  have d0a1 : a1.cell? ⟨b0.heap.size, 0, none⟩ = some (.int .i64 x10) := by rw [hW]; go_simp
  have d1a1 : a1.cell? ⟨b0.heap.size, 1, none⟩ = some (.int .i64 x11) := by rw [hW]; go_simp
  have hla1 := (ga1.cell (p := ⟨pl, 0, none⟩) llb0).trans hlb0
  have lla1 := Nat.lt_trans llb0 za1
  rw [← hW]
  clear hW
  refine wp_region_held_drew (S := fun W => W.cell? ⟨b0.heap.size, 0, none⟩ = some (.int .i64 x10) ∧ W.cell? ⟨b0.heap.size, 1, none⟩ = some (.int .i64 x11) ∧ W.cell? ⟨pl, 0, none⟩ = some (.int .i64 l) ∧ Gr a1 W) rfl (⟨d0a1, d1a1, hla1, (Gr.refl a1).drew⟩) (fun hS => ?_)
  refine wpAnyH_take (i := 0) (v := ?_) rfl (by kernel_rfl) (by kernel_rfl) (by kernel_rfl) (fun _ _ _ h => h) (Or.inl ⟨by rfl, ?_⟩) (by assumption) ?_
  rotate_left
  · (intro w hSw; (try dsimp only at hSw); go_split_ands; go_simp; try with_reducible rfl)
  try simp only [Act.put, List.setIfInBounds_toArray, List.set_cons_zero, List.set_cons_succ, List.getElem_toArray, List.getElem_cons_zero]
  refine wpAnyH_take (i := 1) (v := ?_) rfl (by kernel_rfl) (by kernel_rfl) (by kernel_rfl) (fun _ _ _ h => h) (Or.inl ⟨by rfl, ?_⟩) (by assumption) ?_
  rotate_left
  · (intro w hSw; (try dsimp only at hSw); go_split_ands; go_simp; try with_reducible rfl)
  try simp only [Act.put, List.setIfInBounds_toArray, List.set_cons_zero, List.set_cons_succ, List.getElem_toArray, List.getElem_cons_zero, List.getElem_cons_succ]
  refine wpAnyH_take (i := 3) (v := ?_) rfl (by kernel_rfl) (by kernel_rfl) (by kernel_rfl) (fun _ _ _ h => h) (Or.inl ⟨by rfl, ?_⟩) (by assumption) ?_
  rotate_left
  · (intro w hSw; (try dsimp only at hSw); go_split_ands; go_simp; try with_reducible rfl)
  try simp only [Act.put, List.setIfInBounds_toArray, List.set_cons_zero, List.set_cons_succ, List.getElem_toArray, List.getElem_cons_zero, List.getElem_cons_succ]
  refine wpAnyH_take (i := 4) (v := ?_) rfl (by kernel_rfl) (by kernel_rfl) (by kernel_rfl) (fun _ _ _ h => h) (Or.inl ⟨by rfl, ?_⟩) (by assumption) ?_
  rotate_left
  · (intro w hSw; (try dsimp only at hSw); go_split_ands; go_simp; try with_reducible rfl)
  try simp only [Act.put, List.setIfInBounds_toArray, List.set_cons_zero, List.set_cons_succ, List.getElem_toArray, List.getElem_cons_zero, List.getElem_cons_succ]
  refine wpAnyH_ready (rs := [2]) (by kernel_rfl) (by simp) ?_
  refine AllReadyH.cons rfl (fun K hK => ?_) AllReadyH.nil
  go_simp
  (go_split_ands; refine (HP1.out _).mono ?_; rintro e w' ⟨rfl, hg⟩; have hgw : Gr a1 w' := Gr.trans (by first | assumption | exact Gr.drew (Gr.refl _)) hg)
  refine hK.out _ _ ?_ (fun hHeld => ?_)
  · exact ⟨(hgw.cell (p := ⟨b0.heap.size, 0, none⟩) za1).trans d0a1, (hgw.cell (p := ⟨b0.heap.size, 1, none⟩) za1).trans d1a1, (hgw.cell (p := ⟨pl, 0, none⟩) lla1).trans hla1, hgw⟩
  clear hK K
  try simp only [Act.put, List.setIfInBounds_toArray, List.set_cons_zero, List.set_cons_succ, List.getElem_toArray, List.getElem_cons_zero, List.getElem_cons_succ]
  refine wpAnyH_take (i := 5) (v := ?_) rfl (by kernel_rfl) (by kernel_rfl) (by kernel_rfl) (fun _ _ _ h => h) (Or.inl ⟨by rfl, ?_⟩) (by assumption) ?_
  rotate_left
  · (intro w hSw; (try dsimp only at hSw); go_split_ands; go_simp; try with_reducible rfl)
  try simp only [Act.put, List.setIfInBounds_toArray, List.set_cons_zero, List.set_cons_succ, List.getElem_toArray, List.getElem_cons_zero, List.getElem_cons_succ]
  refine wpAnyH_take (i := 6) (v := ?_) rfl (by kernel_rfl) (by kernel_rfl) (by kernel_rfl) (fun _ _ _ h => h) (Or.inl ⟨by rfl, ?_⟩) (by assumption) ?_
  rotate_left
  · (intro w hSw; (try dsimp only at hSw); go_split_ands; go_simp; try with_reducible rfl)
  try simp only [Act.put, List.setIfInBounds_toArray, List.set_cons_zero, List.set_cons_succ, List.getElem_toArray, List.getElem_cons_zero, List.getElem_cons_succ]
  refine wpAnyH_take (i := 7) (v := undef) rfl (by kernel_rfl) (by kernel_rfl) (by kernel_rfl) (fun _ _ _ h => h) (Or.inr ⟨by rfl, rfl⟩) (by assumption) ?_
  try simp only [Act.put, List.setIfInBounds_toArray, List.set_cons_zero, List.set_cons_succ, List.getElem_toArray, List.getElem_cons_zero, List.getElem_cons_succ]
  refine wpAnyH_take (i := 8) (v := undef) rfl (by kernel_rfl) (by kernel_rfl) (by kernel_rfl) (fun _ _ _ h => h) (Or.inr ⟨by rfl, rfl⟩) (by assumption) ?_
  try simp only [Act.put, List.setIfInBounds_toArray, List.set_cons_zero, List.set_cons_succ, List.getElem_toArray, List.getElem_cons_zero, List.getElem_cons_succ]
  refine wpAnyH_take (i := 9) (v := undef) rfl (by kernel_rfl) (by kernel_rfl) (by kernel_rfl) (fun _ _ _ h => h) (Or.inr ⟨by rfl, rfl⟩) (by assumption) ?_
  try simp only [Act.put, List.setIfInBounds_toArray, List.set_cons_zero, List.set_cons_succ, List.getElem_toArray, List.getElem_cons_zero, List.getElem_cons_succ]
  refine wpAnyH_take (i := 10) (v := undef) rfl (by kernel_rfl) (by kernel_rfl) (by kernel_rfl) (fun _ _ _ h => h) (Or.inr ⟨by rfl, rfl⟩) (by assumption) ?_
  try simp only [Act.put, List.setIfInBounds_toArray, List.set_cons_zero, List.set_cons_succ, List.getElem_toArray, List.getElem_cons_zero, List.getElem_cons_succ]
  refine wpAnyH_take (i := 11) (v := undef) rfl (by kernel_rfl) (by kernel_rfl) (by kernel_rfl) (fun _ _ _ h => h) (Or.inr ⟨by rfl, rfl⟩) (by assumption) ?_
  try simp only [Act.put, List.setIfInBounds_toArray, List.set_cons_zero, List.set_cons_succ, List.getElem_toArray, List.getElem_cons_zero, List.getElem_cons_succ]
  refine wpAnyH_take (i := 12) (v := ?_) rfl (by kernel_rfl) (by kernel_rfl) (by kernel_rfl) (fun _ _ _ h => h) (Or.inl ⟨by rfl, ?_⟩) (by assumption) ?_
  rotate_left
  · (intro w hSw; (try dsimp only at hSw); go_split_ands; go_simp; try with_reducible rfl)
  try simp only [Act.put, List.setIfInBounds_toArray, List.set_cons_zero, List.set_cons_succ, List.getElem_toArray, List.getElem_cons_zero, List.getElem_cons_succ]
  refine wpAnyH_done (by kernel_rfl) ?_ _
  obtain ⟨b1, hB⟩ : ∃ u, u = w' := ⟨_, rfl⟩
  subst hB
  have gb1 : Gr w b1 := gb0.trans (ga1.trans hgw)
  have llb1 : pl < b1.heap.size := Nat.lt_of_lt_of_le llw gb1.size
  have hlb1 := (gb1.cell (p := ⟨pl, 0, none⟩) llw).trans hlw
  go_wp2_with fail
  go_ret
  exact ⟨rfl, gb1⟩

theorem within1_2_oh (p : Nat) (HE : Enters p) (pn pl k : Nat) (l : Int) (x00 x01 v0 : Int) (x10 x11 v1 : Int) (w : World) (HP0 : Hid (∀ W, Calls Try.prog p #[.agg #[.int .i64 x00, .int .i64 x01]] W fun e w' => e = .returned (.int .i64 v0) ∧ Gr W w')) (HP1 : Hid (∀ W, Calls Try.prog p #[.agg #[.int .i64 x10, .int .i64 x11]] W fun e w' => e = .returned (.int .i64 v1) ∧ Gr W w')) (hn : w.cell? ⟨pn, 0, none⟩ = some (.slice (some ⟨k, 0, none⟩) 2 2)) (ln : pn < w.heap.size) (hlw : w.cell? ⟨pl, 0, none⟩ = some (.int .i64 l)) (llw : pl < w.heap.size)
    (lk : k < w.heap.size) (c00 : w.cell? ⟨k, 0, none⟩ = some (.int .i64 x00)) (c01 : w.cell? ⟨k, 1, none⟩ = some (.int .i64 x01)) (c10 : w.cell? ⟨k, 2, none⟩ = some (.int .i64 x10)) (c11 : w.cell? ⟨k, 3, none⟩ = some (.int .i64 x11)) (l0 : 0 ≤ l) (l1 : l ≤ 4611686018427387904) (h00 : decide (v0 < -l) = false) (h01 : decide (l < v0) = false) (h10 : decide (v1 < -l) = false) (h11 : decide (l < v1) = true) :
    Calls Try.prog 84 #[.func (.func p) #[] #[], .pointer (some ⟨pn, 0, none⟩), .pointer (some ⟨pl, 0, none⟩)] w fun e w' => e = .returned (.bool false) ∧ Gr w w' := by
  unfold Enters at HE
  have hw : IntKind.i64.wrap (-l) = -l := IntWalk.i64_in _ (by omega)
  go_enter Try.func84, Try.ntmps84
  go_wp2_with fail
  refine wp_loop_rounds 3 ?_
  rw [rounds_succ]
  go_wp2_with fail
  obtain ⟨a0, hW⟩ : ∃ u, u = w.alloc (.cells #[.int .i64 x00, .int .i64 x01] 57) := ⟨_, rfl⟩
  have ga0 : Gr w a0 := by rw [hW]; exact (Gr.refl w).alloc _ _
  have za0 : w.heap.size < a0.heap.size := by rw [hW]; simp
  have d0a0 : a0.cell? ⟨w.heap.size, 0, none⟩ = some (.int .i64 x00) := by rw [hW]; go_simp
  have d1a0 : a0.cell? ⟨w.heap.size, 1, none⟩ = some (.int .i64 x01) := by rw [hW]; go_simp
  have hla0 := (ga0.cell (p := ⟨pl, 0, none⟩) llw).trans hlw
  have lla0 := Nat.lt_trans llw za0
  rw [← hW]
  clear hW
  go_region_held3 (fun W => W.cell? ⟨w.heap.size, 0, none⟩ = some (.int .i64 x00) ∧ W.cell? ⟨w.heap.size, 1, none⟩ = some (.int .i64 x01) ∧ W.cell? ⟨pl, 0, none⟩ = some (.int .i64 l) ∧ Gr a0 W)
    (first | (go_split_ands; refine ⟨?_, ?_, ?_, ?_⟩; (all_goals (first | assumption | exact Gr.refl _ | exact Gr.drew (Gr.refl _) | exact Gr.drew (by assumption) | (go_keep; done) | ((refine (Gr.cell (by assumption) ?_).trans ?_ <;> (first | assumption)); done)))))
    (first | (go_split_ands; refine (HP0.out _).mono ?_; rintro e w' ⟨rfl, hg⟩; have hgw : Gr a0 w' := Gr.trans (by first | assumption | exact Gr.drew (Gr.refl _)) hg))
  obtain ⟨b0, hB⟩ : ∃ u, u = w' := ⟨_, rfl⟩
  subst hB
  have gb0 : Gr w b0 := (ga0.trans hgw)
  have llb0 : pl < b0.heap.size := Nat.lt_of_lt_of_le llw gb0.size
  have hlb0 := (gb0.cell (p := ⟨pl, 0, none⟩) llw).trans hlw
  have c10b := (gb0.cell (p := ⟨k, 2, none⟩) lk).trans c10
  have c11b := (gb0.cell (p := ⟨k, 3, none⟩) lk).trans c11
  go_wp2_with fail
  rw [rounds_succ]
  go_wp2_with fail
  obtain ⟨a1, hW⟩ : ∃ u, u = b0.alloc (.cells #[.int .i64 x10, .int .i64 x11] 57) := ⟨_, rfl⟩
  have ga1 : Gr b0 a1 := by rw [hW]; exact (Gr.refl b0).alloc _ _
  have za1 : b0.heap.size < a1.heap.size := by rw [hW]; simp
  have d0a1 : a1.cell? ⟨b0.heap.size, 0, none⟩ = some (.int .i64 x10) := by rw [hW]; go_simp
  have d1a1 : a1.cell? ⟨b0.heap.size, 1, none⟩ = some (.int .i64 x11) := by rw [hW]; go_simp
  have hla1 := (ga1.cell (p := ⟨pl, 0, none⟩) llb0).trans hlb0
  have lla1 := Nat.lt_trans llb0 za1
  rw [← hW]
  clear hW
  go_region_held3 (fun W => W.cell? ⟨b0.heap.size, 0, none⟩ = some (.int .i64 x10) ∧ W.cell? ⟨b0.heap.size, 1, none⟩ = some (.int .i64 x11) ∧ W.cell? ⟨pl, 0, none⟩ = some (.int .i64 l) ∧ Gr a1 W)
    (first | (go_split_ands; refine ⟨?_, ?_, ?_, ?_⟩; (all_goals (first | assumption | exact Gr.refl _ | exact Gr.drew (Gr.refl _) | exact Gr.drew (by assumption) | (go_keep; done) | ((refine (Gr.cell (by assumption) ?_).trans ?_ <;> (first | assumption)); done)))))
    (first | (go_split_ands; refine (HP1.out _).mono ?_; rintro e w' ⟨rfl, hg⟩; have hgw : Gr a1 w' := Gr.trans (by first | assumption | exact Gr.drew (Gr.refl _)) hg))
  obtain ⟨b1, hB⟩ : ∃ u, u = w' := ⟨_, rfl⟩
  subst hB
  have gb1 : Gr w b1 := gb0.trans (ga1.trans hgw)
  have llb1 : pl < b1.heap.size := Nat.lt_of_lt_of_le llw gb1.size
  have hlb1 := (gb1.cell (p := ⟨pl, 0, none⟩) llw).trans hlw
  go_wp2_with fail
  go_ret
  exact ⟨rfl, gb1⟩

theorem within1_2_oo (p : Nat) (HE : Enters p) (pn pl k : Nat) (l : Int) (x00 x01 v0 : Int) (x10 x11 v1 : Int) (w : World) (HP0 : Hid (∀ W, Calls Try.prog p #[.agg #[.int .i64 x00, .int .i64 x01]] W fun e w' => e = .returned (.int .i64 v0) ∧ Gr W w')) (HP1 : Hid (∀ W, Calls Try.prog p #[.agg #[.int .i64 x10, .int .i64 x11]] W fun e w' => e = .returned (.int .i64 v1) ∧ Gr W w')) (hn : w.cell? ⟨pn, 0, none⟩ = some (.slice (some ⟨k, 0, none⟩) 2 2)) (ln : pn < w.heap.size) (hlw : w.cell? ⟨pl, 0, none⟩ = some (.int .i64 l)) (llw : pl < w.heap.size)
    (lk : k < w.heap.size) (c00 : w.cell? ⟨k, 0, none⟩ = some (.int .i64 x00)) (c01 : w.cell? ⟨k, 1, none⟩ = some (.int .i64 x01)) (c10 : w.cell? ⟨k, 2, none⟩ = some (.int .i64 x10)) (c11 : w.cell? ⟨k, 3, none⟩ = some (.int .i64 x11)) (l0 : 0 ≤ l) (l1 : l ≤ 4611686018427387904) (h00 : decide (v0 < -l) = false) (h01 : decide (l < v0) = false) (h10 : decide (v1 < -l) = false) (h11 : decide (l < v1) = false) :
    Calls Try.prog 84 #[.func (.func p) #[] #[], .pointer (some ⟨pn, 0, none⟩), .pointer (some ⟨pl, 0, none⟩)] w fun e w' => e = .returned (.bool true) ∧ Gr w w' := by
  unfold Enters at HE
  have hw : IntKind.i64.wrap (-l) = -l := IntWalk.i64_in _ (by omega)
  go_enter Try.func84, Try.ntmps84
  go_wp2_with fail
  refine wp_loop_rounds 3 ?_
  rw [rounds_succ]
  go_wp2_with fail
  obtain ⟨a0, hW⟩ : ∃ u, u = w.alloc (.cells #[.int .i64 x00, .int .i64 x01] 57) := ⟨_, rfl⟩
  have ga0 : Gr w a0 := by rw [hW]; exact (Gr.refl w).alloc _ _
  have za0 : w.heap.size < a0.heap.size := by rw [hW]; simp
  have d0a0 : a0.cell? ⟨w.heap.size, 0, none⟩ = some (.int .i64 x00) := by rw [hW]; go_simp
  have d1a0 : a0.cell? ⟨w.heap.size, 1, none⟩ = some (.int .i64 x01) := by rw [hW]; go_simp
  have hla0 := (ga0.cell (p := ⟨pl, 0, none⟩) llw).trans hlw
  have lla0 := Nat.lt_trans llw za0
  rw [← hW]
  clear hW
  go_region_held3 (fun W => W.cell? ⟨w.heap.size, 0, none⟩ = some (.int .i64 x00) ∧ W.cell? ⟨w.heap.size, 1, none⟩ = some (.int .i64 x01) ∧ W.cell? ⟨pl, 0, none⟩ = some (.int .i64 l) ∧ Gr a0 W)
    (first | (go_split_ands; refine ⟨?_, ?_, ?_, ?_⟩; (all_goals (first | assumption | exact Gr.refl _ | exact Gr.drew (Gr.refl _) | exact Gr.drew (by assumption) | (go_keep; done) | ((refine (Gr.cell (by assumption) ?_).trans ?_ <;> (first | assumption)); done)))))
    (first | (go_split_ands; refine (HP0.out _).mono ?_; rintro e w' ⟨rfl, hg⟩; have hgw : Gr a0 w' := Gr.trans (by first | assumption | exact Gr.drew (Gr.refl _)) hg))
  obtain ⟨b0, hB⟩ : ∃ u, u = w' := ⟨_, rfl⟩
  subst hB
  have gb0 : Gr w b0 := (ga0.trans hgw)
  have llb0 : pl < b0.heap.size := Nat.lt_of_lt_of_le llw gb0.size
  have hlb0 := (gb0.cell (p := ⟨pl, 0, none⟩) llw).trans hlw
  have c10b := (gb0.cell (p := ⟨k, 2, none⟩) lk).trans c10
  have c11b := (gb0.cell (p := ⟨k, 3, none⟩) lk).trans c11
  go_wp2_with fail
  rw [rounds_succ]
  go_wp2_with fail
  obtain ⟨a1, hW⟩ : ∃ u, u = b0.alloc (.cells #[.int .i64 x10, .int .i64 x11] 57) := ⟨_, rfl⟩
  have ga1 : Gr b0 a1 := by rw [hW]; exact (Gr.refl b0).alloc _ _
  have za1 : b0.heap.size < a1.heap.size := by rw [hW]; simp
  have d0a1 : a1.cell? ⟨b0.heap.size, 0, none⟩ = some (.int .i64 x10) := by rw [hW]; go_simp
  have d1a1 : a1.cell? ⟨b0.heap.size, 1, none⟩ = some (.int .i64 x11) := by rw [hW]; go_simp
  have hla1 := (ga1.cell (p := ⟨pl, 0, none⟩) llb0).trans hlb0
  have lla1 := Nat.lt_trans llb0 za1
  rw [← hW]
  clear hW
  go_region_held3 (fun W => W.cell? ⟨b0.heap.size, 0, none⟩ = some (.int .i64 x10) ∧ W.cell? ⟨b0.heap.size, 1, none⟩ = some (.int .i64 x11) ∧ W.cell? ⟨pl, 0, none⟩ = some (.int .i64 l) ∧ Gr a1 W)
    (first | (go_split_ands; refine ⟨?_, ?_, ?_, ?_⟩; (all_goals (first | assumption | exact Gr.refl _ | exact Gr.drew (Gr.refl _) | exact Gr.drew (by assumption) | (go_keep; done) | ((refine (Gr.cell (by assumption) ?_).trans ?_ <;> (first | assumption)); done)))))
    (first | (go_split_ands; refine (HP1.out _).mono ?_; rintro e w' ⟨rfl, hg⟩; have hgw : Gr a1 w' := Gr.trans (by first | assumption | exact Gr.drew (Gr.refl _)) hg))
  obtain ⟨b1, hB⟩ : ∃ u, u = w' := ⟨_, rfl⟩
  subst hB
  have gb1 : Gr w b1 := gb0.trans (ga1.trans hgw)
  have llb1 : pl < b1.heap.size := Nat.lt_of_lt_of_le llw gb1.size
  have hlb1 := (gb1.cell (p := ⟨pl, 0, none⟩) llw).trans hlw
  go_wp2_with fail
  rw [rounds_succ]
  go_wp2_with fail
  go_ret
  exact ⟨rfl, gb1⟩

end Go.Proofs.Ytbdglbpkbpedoaa
