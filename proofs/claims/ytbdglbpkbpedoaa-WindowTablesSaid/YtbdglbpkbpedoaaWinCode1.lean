/- Package window: weights' formulas as closures in a map. -/
import Derived.Test.YtbdglbpkbpedoaaNums
import Derived.Test.YtbdglbpkbpedoaaGrow
import Derived.MapKept
import Derived.Carry
import Derived.BigQuiet
namespace Go.Proofs.Ytbdglbpkbpedoaa
open Go.ChangeShapes Go.WideShapes Go.ChangeAt Go.RowKit Go.MapKept
set_option linter.unusedVariables false
set_option linter.unusedSimpArgs false
set_option maxRecDepth 100000

theorem whHalved_c (x r : Int) (HS : Hid (∀ W, Calls Try.prog 24 #[.int .i64 x, .int .i64 1, .int .i64 1] W fun e w' => e = .returned (.tuple #[.int .i64 r, .int .i64 0]) ∧ Gr W w')) (w : World) : Calls Try.prog 38 #[.int .i64 x] w fun e w' => e = .returned (.int .i64 r) ∧ Gr w w' := by
  go_enter Try.func38, Try.ntmps38
  go_wp2_with fail
  refine (HS.out _).mono ?_
  rintro e w1 ⟨rfl, g1⟩
  go_wp2_with fail
  go_ret
  exact ⟨rfl, g1⟩

theorem whDivided_c (x d r : Int) (HS : Hid (∀ W, Calls Try.prog 60 #[.int .i64 x, .int .i64 d] W fun e w' => e = .returned (.tuple #[.int .i64 r, .int .i64 0]) ∧ Gr W w')) (w : World) : Calls Try.prog 40 #[.int .i64 x, .int .i64 d] w fun e w' => e = .returned (.int .i64 r) ∧ Gr w w' := by
  go_enter Try.func40, Try.ntmps40
  go_wp2_with fail
  refine (HS.out _).mono ?_
  rintro e w1 ⟨rfl, g1⟩
  go_wp2_with fail
  go_ret
  exact ⟨rfl, g1⟩

/-- Root k of all, round and round. -/
theorem whRoot_c (pa yb yo cap n k m : Nat) (c : Int) (hmn : (m : Int) < (n : Int)) (h0 : ¬ (n : Int) = 0) (emod : (k : Int).tmod (n : Int) = (m : Int)) (ew : IntKind.i64.wrap (m : Int) = (m : Int)) (w : World)
    (hp : w.cell? ⟨pa, 0, none⟩ = some (.slice (some ⟨yb, yo, none⟩) n cap)) (lp : pa < w.heap.size) (lb : yb < w.heap.size) (h1 : w.cell? ⟨yb, yo + m * 2, none⟩ = some (.int .i64 c)) :
    Calls Try.prog 35 #[.int .i64 k, .pointer (some ⟨pa, 0, none⟩)] w fun e w' => e = .returned (.int .i64 c) ∧ Gr w w' := by
  go_enter Try.func35, Try.ntmps35
  go_wp2_with fail
  go_quiet (fail)
  go_wp2_with fail
  go_ret
  exact ⟨by first | rfl | (simp; done), by first | exact Gr.refl _ | exact (Gr.refl _).drew | exact (Gr.refl _).drewN _⟩

theorem whOne_c (po : Nat) (k O : Int) (w : World) (hp : w.cell? ⟨po, 0, none⟩ = some (.int .i64 O)) (lp : po < w.heap.size) :
    Calls Try.prog 36 #[.int .i64 k, .pointer (some ⟨po, 0, none⟩)] w fun e w' => e = .returned (.int .i64 O) ∧ Gr w w' := by
  go_enter Try.func36, Try.ntmps36
  go_wp2_with fail
  go_ret
  exact ⟨rfl, Gr.refl _⟩

set_option maxHeartbeats 1000000 in
theorem whForm_3 (po pc pa : Nat) (k O c x r : Int) (w : World) (hO : CellsAt w po 3 #[.int .i64 O]) (hC : CellsAt w pc 40 #[.func (.func 35) #[] #[.pointer (some ⟨pa, 0, none⟩)]])
    (ex : IntKind.i64.wrap (O - c) = x) (HC : Hid (∀ W, Gr w W → Calls Try.prog 35 #[.int .i64 k, .pointer (some ⟨pa, 0, none⟩)] W fun e w' => e = .returned (.int .i64 c) ∧ Gr W w')) (HS : Hid (∀ W, Calls Try.prog 38 #[.int .i64 x] W fun e w' => e = .returned (.int .i64 r) ∧ Gr W w')) :
    Calls Try.prog 37 #[.int .i64 k, .pointer (some ⟨po, 0, none⟩), .pointer (some ⟨pc, 0, none⟩)] w fun e w' => e = .returned (.int .i64 r) ∧ Gr w w' := by
  go_enter Try.func37, Try.ntmps37
  have lo := hO.lt
  have lc := hC.lt
  go_wp2_with fail
  have KS : ∀ W, Gr w W → (W.cell? ⟨po, 0, none⟩ = some (.int .i64 O) ∧ W.cell? ⟨pc, 0, none⟩ = some (.func (.func 35) #[] #[.pointer (some ⟨pa, 0, none⟩)])) := fun W hG => ⟨(CellsAt.gr hO hG).cell 0, (CellsAt.gr hC hG).cell 0⟩
  have hclG := gr_closed w
  try simp only [List.append_eq, List.cons_append, List.nil_append]
  refine wp_region_grow (S := Gr w) rfl (Gr.drew (Gr.refl _)) ?_
  refine wpG_take (i := 0) (v := ?_) hclG rfl (by kernel_rfl) (by kernel_rfl) (by kernel_rfl) (fun _ _ _ h => h) (by rfl) ?_ ?_
  rotate_left
  · (intro w' hSw; have hk := KS w' hSw; go_split_ands; go_simp; try with_reducible rfl)
  try simp only [Act.put, List.setIfInBounds_toArray, List.set_cons_zero, List.set_cons_succ, List.getElem_toArray, List.getElem_cons_zero, List.getElem_cons_succ]
  refine wpG_take (i := 1) (v := ?_) hclG rfl (by kernel_rfl) (by kernel_rfl) (by kernel_rfl) (fun _ _ _ h => h) (by rfl) ?_ ?_
  rotate_left
  · (intro w' hSw; have hk := KS w' hSw; go_split_ands; go_simp; try with_reducible rfl)
  try simp only [Act.put, List.setIfInBounds_toArray, List.set_cons_zero, List.set_cons_succ, List.getElem_toArray, List.getElem_cons_zero, List.getElem_cons_succ]
  refine wpG_take (i := 2) (v := ?_) hclG rfl (by kernel_rfl) (by kernel_rfl) (by kernel_rfl) (fun _ _ _ h => h) (by rfl) ?_ ?_
  rotate_left
  · (intro w' hSw; go_simp; try with_reducible rfl)
  try simp only [Act.put, List.setIfInBounds_toArray, List.set_cons_zero, List.set_cons_succ, List.getElem_toArray, List.getElem_cons_zero, List.getElem_cons_succ]
  refine wpG_call (i := 3) hclG rfl (by kernel_rfl) (by kernel_rfl) (by kernel_rfl) (fun _ _ _ h => h) (fun W g => HC.out W g) (by rfl) ?_ ?_
  · (intro w' hSw; go_simp; try with_reducible rfl)
  try simp only [Act.put, List.setIfInBounds_toArray, List.set_cons_zero, List.set_cons_succ, List.getElem_toArray, List.getElem_cons_zero, List.getElem_cons_succ]
  refine wpG_take (i := 4) (v := ?_) hclG rfl (by kernel_rfl) (by kernel_rfl) (by kernel_rfl) (fun _ _ _ h => h) (by rfl) ?_ ?_
  rotate_left
  · (intro w' hSw; go_simp; try with_reducible rfl)
  try simp only [Act.put, List.setIfInBounds_toArray, List.set_cons_zero, List.set_cons_succ, List.getElem_toArray, List.getElem_cons_zero, List.getElem_cons_succ]
  refine wpG_call (i := 5) hclG rfl (by kernel_rfl) (by kernel_rfl) (by kernel_rfl) (fun _ _ _ h => h) (fun W _ => HS.out W) (by rfl) ?_ ?_
  · (intro w' hSw; go_simp; try with_reducible rfl)
  try simp only [Act.put, List.setIfInBounds_toArray, List.set_cons_zero, List.set_cons_succ, List.getElem_toArray, List.getElem_cons_zero, List.getElem_cons_succ]
  refine wpG_take (i := 6) (v := ?_) hclG rfl (by kernel_rfl) (by kernel_rfl) (by kernel_rfl) (fun _ _ _ h => h) (by rfl) ?_ ?_
  rotate_left
  · (intro w' hSw; go_simp; try with_reducible rfl)
  try simp only [Act.put, List.setIfInBounds_toArray, List.set_cons_zero, List.set_cons_succ, List.getElem_toArray, List.getElem_cons_zero, List.getElem_cons_succ]
  refine wpG_done (by kernel_rfl) (fun w1 g1 => ?_) _
  replace g1 := (Gr.drew (Gr.refl w)).trans g1
  have Fo_1 := CellsAt.gr (hO) g1
  have lo_1 := CellsAt.lt (Fo_1)
  have Fc_1 := CellsAt.gr (hC) g1
  have lc_1 := CellsAt.lt (Fc_1)
  have z1 := (Gr.refl w).trans g1
  clear hO hC g1
  clear hclG KS
  go_wp2_with fail
  go_ret
  exact ⟨by first | rfl | (simp; done), z1⟩

set_option maxHeartbeats 1000000 in
theorem whForm_4 (po pc pa : Nat) (k O c p q x r : Int) (w : World) (hO : CellsAt w po 3 #[.int .i64 O]) (hC : CellsAt w pc 40 #[.func (.func 35) #[] #[.pointer (some ⟨pa, 0, none⟩)]])
    (e1 : IntKind.i64.wrap (25 * O) = p) (e2 : IntKind.i64.wrap (21 * c) = q) (ex : IntKind.i64.wrap (p - q) = x) (HC : Hid (∀ W, Gr w W → Calls Try.prog 35 #[.int .i64 k, .pointer (some ⟨pa, 0, none⟩)] W fun e w' => e = .returned (.int .i64 c) ∧ Gr W w')) (HS : Hid (∀ W, Calls Try.prog 40 #[.int .i64 x, .int .i64 46] W fun e w' => e = .returned (.int .i64 r) ∧ Gr W w')) :
    Calls Try.prog 39 #[.int .i64 k, .pointer (some ⟨po, 0, none⟩), .pointer (some ⟨pc, 0, none⟩)] w fun e w' => e = .returned (.int .i64 r) ∧ Gr w w' := by
  go_enter Try.func39, Try.ntmps39
  have lo := hO.lt
  have lc := hC.lt
  go_wp2_with fail
  have KS : ∀ W, Gr w W → (W.cell? ⟨po, 0, none⟩ = some (.int .i64 O) ∧ W.cell? ⟨pc, 0, none⟩ = some (.func (.func 35) #[] #[.pointer (some ⟨pa, 0, none⟩)])) := fun W hG => ⟨(CellsAt.gr hO hG).cell 0, (CellsAt.gr hC hG).cell 0⟩
  have hclG := gr_closed w
  try simp only [List.append_eq, List.cons_append, List.nil_append]
  refine wp_region_grow (S := Gr w) rfl (Gr.drew (Gr.refl _)) ?_
  refine wpG_take (i := 0) (v := ?_) hclG rfl (by kernel_rfl) (by kernel_rfl) (by kernel_rfl) (fun _ _ _ h => h) (by rfl) ?_ ?_
  rotate_left
  · (intro w' hSw; have hk := KS w' hSw; go_split_ands; go_simp; try with_reducible rfl)
  try simp only [Act.put, List.setIfInBounds_toArray, List.set_cons_zero, List.set_cons_succ, List.getElem_toArray, List.getElem_cons_zero, List.getElem_cons_succ]
  refine wpG_take (i := 1) (v := ?_) hclG rfl (by kernel_rfl) (by kernel_rfl) (by kernel_rfl) (fun _ _ _ h => h) (by rfl) ?_ ?_
  rotate_left
  · (intro w' hSw; go_simp; try with_reducible rfl)
  try simp only [Act.put, List.setIfInBounds_toArray, List.set_cons_zero, List.set_cons_succ, List.getElem_toArray, List.getElem_cons_zero, List.getElem_cons_succ]
  refine wpG_take (i := 2) (v := ?_) hclG rfl (by kernel_rfl) (by kernel_rfl) (by kernel_rfl) (fun _ _ _ h => h) (by rfl) ?_ ?_
  rotate_left
  · (intro w' hSw; have hk := KS w' hSw; go_split_ands; go_simp; try with_reducible rfl)
  try simp only [Act.put, List.setIfInBounds_toArray, List.set_cons_zero, List.set_cons_succ, List.getElem_toArray, List.getElem_cons_zero, List.getElem_cons_succ]
  refine wpG_take (i := 3) (v := ?_) hclG rfl (by kernel_rfl) (by kernel_rfl) (by kernel_rfl) (fun _ _ _ h => h) (by rfl) ?_ ?_
  rotate_left
  · (intro w' hSw; go_simp; try with_reducible rfl)
  try simp only [Act.put, List.setIfInBounds_toArray, List.set_cons_zero, List.set_cons_succ, List.getElem_toArray, List.getElem_cons_zero, List.getElem_cons_succ]
  refine wpG_call (i := 4) hclG rfl (by kernel_rfl) (by kernel_rfl) (by kernel_rfl) (fun _ _ _ h => h) (fun W g => HC.out W g) (by rfl) ?_ ?_
  · (intro w' hSw; go_simp; try with_reducible rfl)
  try simp only [Act.put, List.setIfInBounds_toArray, List.set_cons_zero, List.set_cons_succ, List.getElem_toArray, List.getElem_cons_zero, List.getElem_cons_succ]
  refine wpG_take (i := 5) (v := ?_) hclG rfl (by kernel_rfl) (by kernel_rfl) (by kernel_rfl) (fun _ _ _ h => h) (by rfl) ?_ ?_
  rotate_left
  · (intro w' hSw; go_simp; try with_reducible rfl)
  try simp only [Act.put, List.setIfInBounds_toArray, List.set_cons_zero, List.set_cons_succ, List.getElem_toArray, List.getElem_cons_zero, List.getElem_cons_succ]
  refine wpG_take (i := 6) (v := ?_) hclG rfl (by kernel_rfl) (by kernel_rfl) (by kernel_rfl) (fun _ _ _ h => h) (by rfl) ?_ ?_
  rotate_left
  · (intro w' hSw; go_simp; try with_reducible rfl)
  try simp only [Act.put, List.setIfInBounds_toArray, List.set_cons_zero, List.set_cons_succ, List.getElem_toArray, List.getElem_cons_zero, List.getElem_cons_succ]
  refine wpG_call (i := 7) hclG rfl (by kernel_rfl) (by kernel_rfl) (by kernel_rfl) (fun _ _ _ h => h) (fun W _ => HS.out W) (by rfl) ?_ ?_
  · (intro w' hSw; go_simp; try with_reducible rfl)
  try simp only [Act.put, List.setIfInBounds_toArray, List.set_cons_zero, List.set_cons_succ, List.getElem_toArray, List.getElem_cons_zero, List.getElem_cons_succ]
  refine wpG_take (i := 8) (v := ?_) hclG rfl (by kernel_rfl) (by kernel_rfl) (by kernel_rfl) (fun _ _ _ h => h) (by rfl) ?_ ?_
  rotate_left
  · (intro w' hSw; go_simp; try with_reducible rfl)
  try simp only [Act.put, List.setIfInBounds_toArray, List.set_cons_zero, List.set_cons_succ, List.getElem_toArray, List.getElem_cons_zero, List.getElem_cons_succ]
  refine wpG_done (by kernel_rfl) (fun w1 g1 => ?_) _
  replace g1 := (Gr.drew (Gr.refl w)).trans g1
  have Fo_1 := CellsAt.gr (hO) g1
  have lo_1 := CellsAt.lt (Fo_1)
  have Fc_1 := CellsAt.gr (hC) g1
  have lc_1 := CellsAt.lt (Fc_1)
  have z1 := (Gr.refl w).trans g1
  clear hO hC g1
  clear hclG KS
  go_wp2_with fail
  go_ret
  exact ⟨by first | rfl | (simp; done), z1⟩

set_option maxHeartbeats 1000000 in
theorem whForm_5 (po pc pa : Nat) (k k2 O c d p q t u x r : Int) (w : World) (hO : CellsAt w po 3 #[.int .i64 O]) (hC : CellsAt w pc 40 #[.func (.func 35) #[] #[.pointer (some ⟨pa, 0, none⟩)]])
    (e1 : IntKind.i64.wrap (21 * O) = p) (e2 : IntKind.i64.wrap (25 * c) = q) (e3 : IntKind.i64.wrap (p - q) = t) (ek : IntKind.i64.wrap (2 * k) = k2) (e4 : IntKind.i64.wrap (4 * d) = u) (ex : IntKind.i64.wrap (t + u) = x) (HC : Hid (∀ W, Gr w W → Calls Try.prog 35 #[.int .i64 k, .pointer (some ⟨pa, 0, none⟩)] W fun e w' => e = .returned (.int .i64 c) ∧ Gr W w')) (HC2 : Hid (∀ W, Gr w W → Calls Try.prog 35 #[.int .i64 k2, .pointer (some ⟨pa, 0, none⟩)] W fun e w' => e = .returned (.int .i64 d) ∧ Gr W w')) (HS : Hid (∀ W, Calls Try.prog 40 #[.int .i64 x, .int .i64 50] W fun e w' => e = .returned (.int .i64 r) ∧ Gr W w')) :
    Calls Try.prog 41 #[.int .i64 k, .pointer (some ⟨po, 0, none⟩), .pointer (some ⟨pc, 0, none⟩)] w fun e w' => e = .returned (.int .i64 r) ∧ Gr w w' := by
  go_enter Try.func41, Try.ntmps41
  have lo := hO.lt
  have lc := hC.lt
  go_wp2_with fail
  have KS : ∀ W, Gr w W → (W.cell? ⟨po, 0, none⟩ = some (.int .i64 O) ∧ W.cell? ⟨pc, 0, none⟩ = some (.func (.func 35) #[] #[.pointer (some ⟨pa, 0, none⟩)])) := fun W hG => ⟨(CellsAt.gr hO hG).cell 0, (CellsAt.gr hC hG).cell 0⟩
  have hclG := gr_closed w
  try simp only [List.append_eq, List.cons_append, List.nil_append]
  refine wp_region_grow (S := Gr w) rfl (Gr.drew (Gr.refl _)) ?_
  refine wpG_take (i := 0) (v := ?_) hclG rfl (by kernel_rfl) (by kernel_rfl) (by kernel_rfl) (fun _ _ _ h => h) (by rfl) ?_ ?_
  rotate_left
  · (intro w' hSw; have hk := KS w' hSw; go_split_ands; go_simp; try with_reducible rfl)
  try simp only [Act.put, List.setIfInBounds_toArray, List.set_cons_zero, List.set_cons_succ, List.getElem_toArray, List.getElem_cons_zero, List.getElem_cons_succ]
  refine wpG_take (i := 1) (v := ?_) hclG rfl (by kernel_rfl) (by kernel_rfl) (by kernel_rfl) (fun _ _ _ h => h) (by rfl) ?_ ?_
  rotate_left
  · (intro w' hSw; go_simp; try with_reducible rfl)
  try simp only [Act.put, List.setIfInBounds_toArray, List.set_cons_zero, List.set_cons_succ, List.getElem_toArray, List.getElem_cons_zero, List.getElem_cons_succ]
  refine wpG_take (i := 2) (v := ?_) hclG rfl (by kernel_rfl) (by kernel_rfl) (by kernel_rfl) (fun _ _ _ h => h) (by rfl) ?_ ?_
  rotate_left
  · (intro w' hSw; have hk := KS w' hSw; go_split_ands; go_simp; try with_reducible rfl)
  try simp only [Act.put, List.setIfInBounds_toArray, List.set_cons_zero, List.set_cons_succ, List.getElem_toArray, List.getElem_cons_zero, List.getElem_cons_succ]
  refine wpG_take (i := 3) (v := ?_) hclG rfl (by kernel_rfl) (by kernel_rfl) (by kernel_rfl) (fun _ _ _ h => h) (by rfl) ?_ ?_
  rotate_left
  · (intro w' hSw; go_simp; try with_reducible rfl)
  try simp only [Act.put, List.setIfInBounds_toArray, List.set_cons_zero, List.set_cons_succ, List.getElem_toArray, List.getElem_cons_zero, List.getElem_cons_succ]
  refine wpG_call (i := 4) hclG rfl (by kernel_rfl) (by kernel_rfl) (by kernel_rfl) (fun _ _ _ h => h) (fun W g => HC.out W g) (by rfl) ?_ ?_
  · (intro w' hSw; go_simp; try with_reducible rfl)
  try simp only [Act.put, List.setIfInBounds_toArray, List.set_cons_zero, List.set_cons_succ, List.getElem_toArray, List.getElem_cons_zero, List.getElem_cons_succ]
  refine wpG_take (i := 5) (v := ?_) hclG rfl (by kernel_rfl) (by kernel_rfl) (by kernel_rfl) (fun _ _ _ h => h) (by rfl) ?_ ?_
  rotate_left
  · (intro w' hSw; go_simp; try with_reducible rfl)
  try simp only [Act.put, List.setIfInBounds_toArray, List.set_cons_zero, List.set_cons_succ, List.getElem_toArray, List.getElem_cons_zero, List.getElem_cons_succ]
  refine wpG_take (i := 6) (v := ?_) hclG rfl (by kernel_rfl) (by kernel_rfl) (by kernel_rfl) (fun _ _ _ h => h) (by rfl) ?_ ?_
  rotate_left
  · (intro w' hSw; go_simp; try with_reducible rfl)
  try simp only [Act.put, List.setIfInBounds_toArray, List.set_cons_zero, List.set_cons_succ, List.getElem_toArray, List.getElem_cons_zero, List.getElem_cons_succ]
  refine wpG_take (i := 7) (v := ?_) hclG rfl (by kernel_rfl) (by kernel_rfl) (by kernel_rfl) (fun _ _ _ h => h) (by rfl) ?_ ?_
  rotate_left
  · (intro w' hSw; have hk := KS w' hSw; go_split_ands; go_simp; try with_reducible rfl)
  try simp only [Act.put, List.setIfInBounds_toArray, List.set_cons_zero, List.set_cons_succ, List.getElem_toArray, List.getElem_cons_zero, List.getElem_cons_succ]
  refine wpG_take (i := 8) (v := ?_) hclG rfl (by kernel_rfl) (by kernel_rfl) (by kernel_rfl) (fun _ _ _ h => h) (by rfl) ?_ ?_
  rotate_left
  · (intro w' hSw; go_simp; try with_reducible rfl)
  try simp only [Act.put, List.setIfInBounds_toArray, List.set_cons_zero, List.set_cons_succ, List.getElem_toArray, List.getElem_cons_zero, List.getElem_cons_succ]
  refine wpG_take (i := 9) (v := ?_) hclG rfl (by kernel_rfl) (by kernel_rfl) (by kernel_rfl) (fun _ _ _ h => h) (by rfl) ?_ ?_
  rotate_left
  · (intro w' hSw; go_simp; try with_reducible rfl)
  try simp only [Act.put, List.setIfInBounds_toArray, List.set_cons_zero, List.set_cons_succ, List.getElem_toArray, List.getElem_cons_zero, List.getElem_cons_succ]
  refine wpG_call (i := 10) hclG rfl (by kernel_rfl) (by kernel_rfl) (by kernel_rfl) (fun _ _ _ h => h) (fun W g => HC2.out W g) (by rfl) ?_ ?_
  · (intro w' hSw; go_simp; try with_reducible rfl)
  try simp only [Act.put, List.setIfInBounds_toArray, List.set_cons_zero, List.set_cons_succ, List.getElem_toArray, List.getElem_cons_zero, List.getElem_cons_succ]
  refine wpG_take (i := 11) (v := ?_) hclG rfl (by kernel_rfl) (by kernel_rfl) (by kernel_rfl) (fun _ _ _ h => h) (by rfl) ?_ ?_
  rotate_left
  · (intro w' hSw; go_simp; try with_reducible rfl)
  try simp only [Act.put, List.setIfInBounds_toArray, List.set_cons_zero, List.set_cons_succ, List.getElem_toArray, List.getElem_cons_zero, List.getElem_cons_succ]
  refine wpG_take (i := 12) (v := ?_) hclG rfl (by kernel_rfl) (by kernel_rfl) (by kernel_rfl) (fun _ _ _ h => h) (by rfl) ?_ ?_
  rotate_left
  · (intro w' hSw; go_simp; try with_reducible rfl)
  try simp only [Act.put, List.setIfInBounds_toArray, List.set_cons_zero, List.set_cons_succ, List.getElem_toArray, List.getElem_cons_zero, List.getElem_cons_succ]
  refine wpG_call (i := 13) hclG rfl (by kernel_rfl) (by kernel_rfl) (by kernel_rfl) (fun _ _ _ h => h) (fun W _ => HS.out W) (by rfl) ?_ ?_
  · (intro w' hSw; go_simp; try with_reducible rfl)
  try simp only [Act.put, List.setIfInBounds_toArray, List.set_cons_zero, List.set_cons_succ, List.getElem_toArray, List.getElem_cons_zero, List.getElem_cons_succ]
  refine wpG_take (i := 14) (v := ?_) hclG rfl (by kernel_rfl) (by kernel_rfl) (by kernel_rfl) (fun _ _ _ h => h) (by rfl) ?_ ?_
  rotate_left
  · (intro w' hSw; go_simp; try with_reducible rfl)
  try simp only [Act.put, List.setIfInBounds_toArray, List.set_cons_zero, List.set_cons_succ, List.getElem_toArray, List.getElem_cons_zero, List.getElem_cons_succ]
  refine wpG_done (by kernel_rfl) (fun w1 g1 => ?_) _
  replace g1 := (Gr.drew (Gr.refl w)).trans g1
  have Fo_1 := CellsAt.gr (hO) g1
  have lo_1 := CellsAt.lt (Fo_1)
  have Fc_1 := CellsAt.gr (hC) g1
  have lc_1 := CellsAt.lt (Fc_1)
  have z1 := (Gr.refl w).trans g1
  clear hO hC g1
  clear hclG KS
  go_wp2_with fail
  go_ret
  exact ⟨by first | rfl | (simp; done), z1⟩

theorem und_wmap : ∃ k e, Try.prog.underlying 43 = some (.map k e) ∧ k = 3 ∧ e = 41 := ⟨_, _, by kernel_rfl, rfl, rfl⟩
theorem wkey_check (e : Bool) (x : Int) (w : World) : (Instr.checkKey e 10000 3 (.int .i64 x)).run Try.prog w = .ok () w := by kernel_rfl
theorem wund_int : Try.prog.underlying 3 = some (.int .i64) := by kernel_rfl
/-- Block B holds a map of four. -/
def WMap (W : World) (B : Nat) (a b c d : Value) : Prop := W.heap[B]? = some (.map #[⟨.int .i64 0, a, 0⟩, ⟨.int .i64 1, b, 1⟩, ⟨.int .i64 2, c, 2⟩, ⟨.int .i64 3, d, 3⟩] 4)
theorem WMap.gr {W W' : World} {B : Nat} {a b c d : Value} (h : WMap W B a b c d) (g : Gr W W') : WMap W' B a b c d := (g.block (Array.getElem?_eq_some_iff.1 h).1).trans h
theorem WMap.look {W : World} {B : Nat} {a b c d : Value} (h : WMap W B a b c d) (k : Int) (f : Value) (hk : (k = 0 ∧ f = a) ∨ (k = 1 ∧ f = b) ∨ (k = 2 ∧ f = c) ∨ (k = 3 ∧ f = d)) : (Instr.lookup 43 (.map (some B)) (.int .i64 k) true).run Try.prog W = .ok (.tuple #[f, .bool true]) W := by
  obtain ⟨kt, e, hu, rfl, rfl⟩ := und_wmap
  rcases hk with ⟨rfl, rfl⟩ | ⟨rfl, rfl⟩ | ⟨rfl, rfl⟩ | ⟨rfl, rfl⟩ <;> simp [Instr.lookup, run_underlying hu, MapKept.run_getObj_map h, wkey_check, Instr.findKey, run_underlying wund_int, Instr.findNow, Instr.sameNow, Result.andThen]
theorem wzero (w : World) : (zeroValue 41).run Try.prog w = .ok (.nilFunc) w := by kernel_rfl
theorem WMap.none {W : World} {B : Nat} {a b c d : Value} (h : WMap W B a b c d) (k : Int) (hk : k < 0 ∨ 3 < k) : ∃ z, (Instr.lookup 43 (.map (some B)) (.int .i64 k) true).run Try.prog W = .ok (.tuple #[z, .bool false]) W := by
  obtain ⟨kt, e, hu, rfl, rfl⟩ := und_wmap
  have hz := wzero W
  have n0 : (k == 0) = false := by simp; omega
  have n1 : (k == 1) = false := by simp; omega
  have n2 : (k == 2) = false := by simp; omega
  have n3 : (k == 3) = false := by simp; omega
  exact ⟨.nilFunc, by simp [Instr.lookup, run_underlying hu, MapKept.run_getObj_map h, wkey_check, Instr.findKey, run_underlying wund_int, Instr.findNow, Instr.sameNow, Result.andThen, n0, n1, n2, n3, hz]⟩
theorem wmap_ins (W : World) (B : Nat) (es : Array MapEntry) (n : Nat) (k : Int) (v : Value) (h : W.heap[B]? = some (.map es n)) (hf : (Instr.findKey 3 (.int .i64 k) es.toList).run Try.prog W = .ok none W) :
    ∃ W', (Instr.mapUpdate 43 (.map (some B)) (.int .i64 k) v).run Try.prog W = .ok () W' ∧ W'.heap[B]? = some (.map (es.push ⟨.int .i64 k, v, n⟩) (n + 1)) ∧ (∀ u, Gr u W → u.heap.size ≤ B → Gr u W') ∧ (∀ j t c, j ≠ B → CellsAt W j t c → CellsAt W' j t c) ∧ W'.heap.size = W.heap.size := by
  obtain ⟨kt, e, hu, rfl, rfl⟩ := und_wmap
  refine ⟨{ W with heap := W.heap.setIfInBounds B (.map (es.push ⟨.int .i64 k, v, n⟩) (n + 1)) }, by simp [Instr.mapUpdate, run_underlying hu, MapKept.run_getObj_map h, wkey_check, hf, MapKept.run_setObj_map _ h, Result.andThen], (MapKept.heap_set h).1, ?_, ?_, by simp⟩
  · intro u g hB
    exact ⟨g.out.os, g.out.tape, g.out.output, by have := g.out.size; simpa using this, fun j hj => ((MapKept.heap_set h).2 j (by omega)).trans (g.out.block j hj)⟩
  · intro j t c hj hc
    exact ((MapKept.heap_set h).2 j hj).trans hc
theorem wfind (k : Int) (es : List MapEntry) (W : World) (h : ∀ e ∈ es, ∃ x : Int, e.key = .int .i64 x ∧ ¬ x = k) : (Instr.findKey 3 (.int .i64 k) es).run Try.prog W = .ok none W := by
  have hn : ∀ (l : List MapEntry) (i : Nat), (∀ e ∈ l, ∃ x : Int, e.key = .int .i64 x ∧ ¬ x = k) → Instr.findNow (.int .i64) (.int .i64 k) l i = some none := by
    intro l
    induction l with
    | nil => intro i _; simp [Instr.findNow]
    | cons e l ih =>
      intro i h
      obtain ⟨x, hx, hne⟩ := h e List.mem_cons_self
      have := ih (i + 1) (fun e he => h e (List.mem_cons_of_mem _ he))
      have hne2 : (k == x) = false := by simp; exact fun e => hne e.symm
      simp [Instr.findNow, Instr.sameNow, hx, hne2, this]
  cases es with
  | nil => simp [Instr.findKey, run_underlying wund_int, Instr.findNow, Result.andThen]
  | cons e l => simp [Instr.findKey, run_underlying wund_int, hn (e :: l) 0 h, Result.andThen]
theorem shl_one (U K : Int) (h0 : 0 ≤ U) (h1 : U ≤ 40) (hK : IntKind.i64.wrap (1 * 2 ^ U.toNat) = K) (W : World) : (Op.shift .shl .i64 1 .i64 U).run Try.prog W = .ok (.int .i64 K) W := by
  subst hK
  go_simp

set_option maxHeartbeats 2000000 in
theorem whForms_c (p : Option Addr) (n cap : Nat) (bits O : Int) (b0 : 0 ≤ bits) (b1 : bits ≤ 40) (hO : IntKind.i64.wrap (1 * 2 ^ bits.toNat) = O) (w : World) :
    Calls Try.prog 18 #[.slice p n cap, .int .i64 bits] w fun e w' => ∃ B pa po pc, e = .returned (.map (some B)) ∧ CellsAt w' pa 37 #[.slice p n cap] ∧ CellsAt w' po 3 #[.int .i64 O] ∧ CellsAt w' pc 40 #[.func (.func 35) #[] #[.pointer (some ⟨pa, 0, none⟩)]] ∧
      WMap w' B (.func (.func 36) #[] #[.pointer (some ⟨po, 0, none⟩)]) (.func (.func 37) #[] #[.pointer (some ⟨po, 0, none⟩), .pointer (some ⟨pc, 0, none⟩)]) (.func (.func 39) #[] #[.pointer (some ⟨po, 0, none⟩), .pointer (some ⟨pc, 0, none⟩)]) (.func (.func 41) #[] #[.pointer (some ⟨po, 0, none⟩), .pointer (some ⟨pc, 0, none⟩)]) ∧ Gr w w' := by
  have hsh := shl_one bits O b0 b1 hO
  clear hO b0 b1
  have hmm := @run_makeMap Try.prog
  go_enter Try.func18, Try.ntmps18
  go_wp2_with fail
  obtain ⟨u0, hU⟩ : ∃ uu, uu = (((w.alloc (.cells #[.slice p n cap] 37)).alloc (.cells #[.int .i64 O] 3)).alloc (.cells #[.func (.func 35) #[] #[.pointer (some ⟨w.heap.size, 0, none⟩)]] 40)) := ⟨_, rfl⟩
  have gu : Gr w u0 := by rw [hU]; exact (((Gr.refl w).alloc _ _).alloc _ _).alloc _ _
  have R0 : CellsAt u0 (w.heap.size) 37 #[.slice p n cap] := by
    rw [hU]
    have := (((CellsAt.new w 37 #[.slice p n cap]).alloc (.cells #[.int .i64 O] 3)).alloc (.cells #[.func (.func 35) #[] #[.pointer (some ⟨w.heap.size, 0, none⟩)]] 40))
    simpa only [World.size_alloc] using this
  have R1 : CellsAt u0 (w.heap.size + 1) 3 #[.int .i64 O] := by
    rw [hU]
    have := ((CellsAt.new (w.alloc (.cells #[.slice p n cap] 37)) 3 #[.int .i64 O]).alloc (.cells #[.func (.func 35) #[] #[.pointer (some ⟨w.heap.size, 0, none⟩)]] 40))
    simpa only [World.size_alloc] using this
  have R2 : CellsAt u0 (w.heap.size + 1 + 1) 40 #[.func (.func 35) #[] #[.pointer (some ⟨w.heap.size, 0, none⟩)]] := by
    rw [hU]
    have := (CellsAt.new ((w.alloc (.cells #[.slice p n cap] 37)).alloc (.cells #[.int .i64 O] 3)) 40 #[.func (.func 35) #[] #[.pointer (some ⟨w.heap.size, 0, none⟩)]])
    simpa only [World.size_alloc] using this
  have hU0 := hU
  rw [← hU]
  clear hU
  have hz : u0.heap.size = w.heap.size + 1 + 1 + 1 := by rw [hU0]; simp
  have h0 : (u0.alloc (.map #[] 0)).heap[w.heap.size + 1 + 1 + 1]? = some (.map #[] 0) := by rw [← hz]; exact (MapKept.heap_alloc u0 _).1
  have gx : Gr w (u0.alloc (.map #[] 0)) := gu.allocO _
  have A0 := R0.alloc (.map #[] 0)
  have A1 := R1.alloc (.map #[] 0)
  have A2 := R2.alloc (.map #[] 0)
  clear hU0
  obtain ⟨x1, q1, m1, n1, c1, _⟩ := wmap_ins (u0.alloc (.map #[] 0)) (w.heap.size + 1 + 1 + 1) #[] 0 0 (.func (.func 36) #[] #[.pointer (some ⟨w.heap.size + 1, 0, none⟩)]) h0 (wfind 0 [] _ (by intro e he; cases he))
  obtain ⟨x2, q2, m2, n2, c2, _⟩ := wmap_ins x1 (w.heap.size + 1 + 1 + 1) #[⟨.int .i64 0, (.func (.func 36) #[] #[.pointer (some ⟨w.heap.size + 1, 0, none⟩)]), 0⟩] 1 1 (.func (.func 37) #[] #[.pointer (some ⟨w.heap.size + 1, 0, none⟩), .pointer (some ⟨w.heap.size + 1 + 1, 0, none⟩)]) m1 (wfind 1 [⟨.int .i64 0, (.func (.func 36) #[] #[.pointer (some ⟨w.heap.size + 1, 0, none⟩)]), 0⟩] _ (by intro e he; simp only [List.mem_cons, List.not_mem_nil, or_false] at he; rcases he with rfl <;> exact ⟨_, rfl, by decide⟩))
  obtain ⟨x3, q3, m3, n3, c3, _⟩ := wmap_ins x2 (w.heap.size + 1 + 1 + 1) #[⟨.int .i64 0, (.func (.func 36) #[] #[.pointer (some ⟨w.heap.size + 1, 0, none⟩)]), 0⟩, ⟨.int .i64 1, (.func (.func 37) #[] #[.pointer (some ⟨w.heap.size + 1, 0, none⟩), .pointer (some ⟨w.heap.size + 1 + 1, 0, none⟩)]), 1⟩] 2 2 (.func (.func 39) #[] #[.pointer (some ⟨w.heap.size + 1, 0, none⟩), .pointer (some ⟨w.heap.size + 1 + 1, 0, none⟩)]) m2 (wfind 2 [⟨.int .i64 0, (.func (.func 36) #[] #[.pointer (some ⟨w.heap.size + 1, 0, none⟩)]), 0⟩, ⟨.int .i64 1, (.func (.func 37) #[] #[.pointer (some ⟨w.heap.size + 1, 0, none⟩), .pointer (some ⟨w.heap.size + 1 + 1, 0, none⟩)]), 1⟩] _ (by intro e he; simp only [List.mem_cons, List.not_mem_nil, or_false] at he; rcases he with rfl | rfl <;> exact ⟨_, rfl, by decide⟩))
  obtain ⟨x4, q4, m4, n4, c4, _⟩ := wmap_ins x3 (w.heap.size + 1 + 1 + 1) #[⟨.int .i64 0, (.func (.func 36) #[] #[.pointer (some ⟨w.heap.size + 1, 0, none⟩)]), 0⟩, ⟨.int .i64 1, (.func (.func 37) #[] #[.pointer (some ⟨w.heap.size + 1, 0, none⟩), .pointer (some ⟨w.heap.size + 1 + 1, 0, none⟩)]), 1⟩, ⟨.int .i64 2, (.func (.func 39) #[] #[.pointer (some ⟨w.heap.size + 1, 0, none⟩), .pointer (some ⟨w.heap.size + 1 + 1, 0, none⟩)]), 2⟩] 3 3 (.func (.func 41) #[] #[.pointer (some ⟨w.heap.size + 1, 0, none⟩), .pointer (some ⟨w.heap.size + 1 + 1, 0, none⟩)]) m3 (wfind 3 [⟨.int .i64 0, (.func (.func 36) #[] #[.pointer (some ⟨w.heap.size + 1, 0, none⟩)]), 0⟩, ⟨.int .i64 1, (.func (.func 37) #[] #[.pointer (some ⟨w.heap.size + 1, 0, none⟩), .pointer (some ⟨w.heap.size + 1 + 1, 0, none⟩)]), 1⟩, ⟨.int .i64 2, (.func (.func 39) #[] #[.pointer (some ⟨w.heap.size + 1, 0, none⟩), .pointer (some ⟨w.heap.size + 1 + 1, 0, none⟩)]), 2⟩] _ (by intro e he; simp only [List.mem_cons, List.not_mem_nil, or_false] at he; rcases he with rfl | rfl | rfl <;> exact ⟨_, rfl, by decide⟩))
  have gf := n4 w (n3 w (n2 w (n1 w gx (by omega)) (by omega)) (by omega)) (by omega)
  have C0 := c4 _ _ _ (by omega) (c3 _ _ _ (by omega) (c2 _ _ _ (by omega) (c1 _ _ _ (by omega) A0)))
  have C1 := c4 _ _ _ (by omega) (c3 _ _ _ (by omega) (c2 _ _ _ (by omega) (c1 _ _ _ (by omega) A1)))
  have C2 := c4 _ _ _ (by omega) (c3 _ _ _ (by omega) (c2 _ _ _ (by omega) (c1 _ _ _ (by omega) A2)))
  clear n1 n2 n3 n4 c1 c2 c3 c4 m1 m2 m3 h0 gx A0 A1 A2 R0 R1 R2 hz gu
  go_simp
  go_wp2_with fail
  go_ret
  exact ⟨_, _, _, _, rfl, C0, C1, C2, m4, gf⟩

end Go.Proofs.Ytbdglbpkbpedoaa
