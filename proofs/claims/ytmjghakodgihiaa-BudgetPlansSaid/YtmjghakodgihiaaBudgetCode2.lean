/- Package budget's steps. -/
import Derived.Test.YtmjghakodgihiaaBudgetCode1
import Derived.Test.YtmjghakodgihiaaGrow
namespace Go.Proofs.Ytmjghakodgihiaa
open Go.ChangeShapes Go.WideShapes Go.ChangeAt Go.RowKit
set_option linter.unusedVariables false
set_option linter.unusedSimpArgs false
set_option maxRecDepth 100000

theorem shiftedUp_c (x s : Int) (x0 : 0 ≤ x) (x1 : x ≤ 17592186044416) (s0 : 0 ≤ s) (s3 : s ≤ 3) (w : World) : Calls Try.prog 32 #[.int .i64 x, .int .i64 s] w fun e w' => e = .returned (.int .i64 (upB x s.toNat)) ∧ w' = w := by
  have hs : s = 0 ∨ s = 1 ∨ s = 2 ∨ s = 3 := by omega
  rcases hs with rfl | rfl | rfl | rfl
  · go_enter Try.func32, Try.ntmps32
    go_wp2_with fail
    go_ret
    refine ⟨congrArg (fun z => Ending.returned (.int .i64 z)) ?_, rfl⟩
    unfold upB
    simp
  · go_enter Try.func32, Try.ntmps32
    go_wp2_with fail
    go_ret
    refine ⟨congrArg (fun z => Ending.returned (.int .i64 z)) ?_, rfl⟩
    unfold upB
    simp
    omega
  · go_enter Try.func32, Try.ntmps32
    go_wp2_with fail
    go_ret
    refine ⟨congrArg (fun z => Ending.returned (.int .i64 z)) ?_, rfl⟩
    unfold upB
    simp
    omega
  · go_enter Try.func32, Try.ntmps32
    go_wp2_with fail
    go_ret
    refine ⟨congrArg (fun z => Ending.returned (.int .i64 z)) ?_, rfl⟩
    unfold upB
    simp
    omega

theorem atFirst_c (fo lo ke sc mo : Int) (iv : Bool) (w : World) : Calls Try.prog 24 #[.agg #[.int .i64 fo, .int .i64 lo, .int .i64 ke, .int .i64 sc, .int .i64 mo, .bool iv]] w fun e' w' => e' = .returned (.int .i64 (startB sc)) ∧ Gr w w' := by
  by_cases h : sc = 0
  · subst h
    go_enter Try.func24, Try.ntmps24
    go_wp2_with fail
    go_ret
    exact ⟨rfl, (Gr.refl w).alloc _ _⟩
  · have hs : startB sc = 0 := if_neg h
    rw [hs]
    go_enter Try.func24, Try.ntmps24
    go_wp2_with fail
    go_ret
    exact ⟨rfl, (Gr.refl w).alloc _ _⟩


set_option maxHeartbeats 1000000 in
theorem behind_g (t a l m e s q : Int) (b : Int) (hq : b = q + a) (q0 : 0 ≤ q) (q1 : q ≤ 17592186044416) (t0 : 0 ≤ t) (t4 : t ≤ 4) (a0 : 0 ≤ a) (a1 : a ≤ 2000) (te : Int) (hte : t * e = te) (e0 : 0 ≤ te) (e1 : te ≤ 17592186044416) (s' : Int) (hs : s' = if m = 0 then 0 else s)
    (H : Hid (∀ W, Calls Try.prog 32 #[.int .i64 te, .int .i64 s'] W fun e w' => e = .returned (.int .i64 q) ∧ w' = W)) (w : World) :
    Calls Try.prog 22 #[.agg #[.int .i64 t, .int .i64 a, .int .i64 l, .int .i64 m], .int .i64 e, .int .i64 s] w fun e' w' => e' = .returned (.int .i64 b) ∧ Gr w w' := by
  have hw : wrap64 (t * e) = te := by rw [hte]; exact IntWalk.wrap64_in _ (by omega)
  have hw' : IntKind.i64.wrap (t * e) = te := by rw [hte]; exact IntWalk.i64_in _ (by omega)
  have hw2 : IntKind.i64.wrap (q + a) = b := by rw [hq]; exact IntWalk.i64_in _ (by omega)
  clear hte e0 e1 t0 t4 q0 q1 hq
  by_cases hm : m = 0
  · subst hm
    rw [if_pos rfl] at hs
    subst hs
    go_enter Try.func22, Try.ntmps22
    go_wp2_with fail
    obtain ⟨u, hu⟩ : ∃ uu, uu = w.alloc (.cells #[.int .i64 t, .int .i64 a, .int .i64 l, .int .i64 0] 47) := ⟨_, rfl⟩
    have R0 : CellsAt u w.heap.size 47 #[.int .i64 t, .int .i64 a, .int .i64 l, .int .i64 0] := by rw [hu]; exact CellsAt.new w 47 _
    have gu : Gr w u := by rw [hu]; exact (Gr.refl w).alloc _ _
    rw [← hu]
    clear hu
    have KS : ∀ W, Gr u W → W.cell? ⟨w.heap.size, 0, none⟩ = some (.int .i64 t) ∧ W.cell? ⟨w.heap.size, 1, none⟩ = some (.int .i64 a) := fun W hG => ⟨(R0.gr hG).cell 0, (R0.gr hG).cell 1⟩
    have hclG := gr_closed u
    try simp only [List.append_eq, List.cons_append, List.nil_append]
    refine wp_region_grow (S := Gr u) rfl (Gr.drew (Gr.refl _)) ?_
    refine wpG_take (i := 0) (v := ?_) hclG rfl (by kernel_rfl) (by kernel_rfl) (by kernel_rfl) (fun _ _ _ h => h) (by rfl) ?_ ?_
    rotate_left
    · (intro w' hSw; have hk := KS w' hSw; go_split_ands; go_simp; try with_reducible rfl)
    try simp only [Act.put, List.setIfInBounds_toArray, List.set_cons_zero, List.set_cons_succ, List.getElem_toArray, List.getElem_cons_zero, List.getElem_cons_succ]
    refine wpG_take (i := 1) (v := ?_) hclG rfl (by kernel_rfl) (by kernel_rfl) (by kernel_rfl) (fun _ _ _ h => h) (by rfl) ?_ ?_
    rotate_left
    · (intro w' hSw; have hk := KS w' hSw; go_split_ands; go_simp; try with_reducible rfl)
    try simp only [Act.put, List.setIfInBounds_toArray, List.set_cons_zero, List.set_cons_succ, List.getElem_toArray, List.getElem_cons_zero, List.getElem_cons_succ]
    refine wpG_take (i := 2) (v := ?_) hclG rfl (by kernel_rfl) (by kernel_rfl) (by kernel_rfl) (fun _ _ _ h => h) (by rfl) ?_ ?_
    rotate_left
    · (intro w' hSw; have hk := KS w' hSw; go_split_ands; go_simp; try with_reducible rfl)
    try simp only [Act.put, List.setIfInBounds_toArray, List.set_cons_zero, List.set_cons_succ, List.getElem_toArray, List.getElem_cons_zero, List.getElem_cons_succ]
    refine wpG_take (i := 3) (v := ?_) hclG rfl (by kernel_rfl) (by kernel_rfl) (by kernel_rfl) (fun _ _ _ h => h) (by rfl) ?_ ?_
    rotate_left
    · (intro w' hSw; have hk := KS w' hSw; go_split_ands; go_simp; try with_reducible rfl)
    try simp only [Act.put, List.setIfInBounds_toArray, List.set_cons_zero, List.set_cons_succ, List.getElem_toArray, List.getElem_cons_zero, List.getElem_cons_succ]
    refine wpG_take (i := 4) (v := ?_) hclG rfl (by kernel_rfl) (by kernel_rfl) (by kernel_rfl) (fun _ _ _ h => h) (by rfl) ?_ ?_
    rotate_left
    · (intro w' hSw; have hk := KS w' hSw; go_split_ands; go_simp; try with_reducible rfl)
    try simp only [Act.put, List.setIfInBounds_toArray, List.set_cons_zero, List.set_cons_succ, List.getElem_toArray, List.getElem_cons_zero, List.getElem_cons_succ]
    refine wpG_call (i := 5) hclG rfl (by kernel_rfl) (by kernel_rfl) (by kernel_rfl) (fun _ _ _ h => h) (fun W hS => calls_gr (H.out W)) (by rfl) ?_ ?_
    · (intro w' hSw; go_simp; try with_reducible rfl)
    try simp only [Act.put, List.setIfInBounds_toArray, List.set_cons_zero, List.set_cons_succ, List.getElem_toArray, List.getElem_cons_zero, List.getElem_cons_succ]
    refine wpG_take (i := 6) (v := ?_) hclG rfl (by kernel_rfl) (by kernel_rfl) (by kernel_rfl) (fun _ _ _ h => h) (by rfl) ?_ ?_
    rotate_left
    · (intro w' hSw; have hk := KS w' hSw; go_split_ands; go_simp; try with_reducible rfl)
    try simp only [Act.put, List.setIfInBounds_toArray, List.set_cons_zero, List.set_cons_succ, List.getElem_toArray, List.getElem_cons_zero, List.getElem_cons_succ]
    refine wpG_take (i := 7) (v := ?_) hclG rfl (by kernel_rfl) (by kernel_rfl) (by kernel_rfl) (fun _ _ _ h => h) (by rfl) ?_ ?_
    rotate_left
    · (intro w' hSw; have hk := KS w' hSw; go_split_ands; go_simp; try with_reducible rfl)
    try simp only [Act.put, List.setIfInBounds_toArray, List.set_cons_zero, List.set_cons_succ, List.getElem_toArray, List.getElem_cons_zero, List.getElem_cons_succ]
    refine wpG_take (i := 8) (v := ?_) hclG rfl (by kernel_rfl) (by kernel_rfl) (by kernel_rfl) (fun _ _ _ h => h) (by rfl) ?_ ?_
    rotate_left
    · (intro w' hSw; have hk := KS w' hSw; go_split_ands; go_simp; try with_reducible rfl)
    try simp only [Act.put, List.setIfInBounds_toArray, List.set_cons_zero, List.set_cons_succ, List.getElem_toArray, List.getElem_cons_zero, List.getElem_cons_succ]
    refine wpG_take (i := 9) (v := ?_) hclG rfl (by kernel_rfl) (by kernel_rfl) (by kernel_rfl) (fun _ _ _ h => h) (by rfl) ?_ ?_
    rotate_left
    · (intro w' hSw; have hk := KS w' hSw; go_split_ands; go_simp; try with_reducible rfl)
    try simp only [Act.put, List.setIfInBounds_toArray, List.set_cons_zero, List.set_cons_succ, List.getElem_toArray, List.getElem_cons_zero, List.getElem_cons_succ]
    refine wpG_done (by kernel_rfl) (fun w1 g1 => ?_) _
    replace g1 := (Gr.drew (Gr.refl u)).trans g1
    clear hclG KS
    go_wp2_with fail
    go_ret
    exact ⟨rfl, gu.trans g1⟩
  · rw [if_neg hm] at hs
    subst hs
    have hm2 : (m == 0) = false := by simp [hm]
    go_enter Try.func22, Try.ntmps22
    go_wp2_with fail
    obtain ⟨u, hu⟩ : ∃ uu, uu = w.alloc (.cells #[.int .i64 t, .int .i64 a, .int .i64 l, .int .i64 m] 47) := ⟨_, rfl⟩
    have R0 : CellsAt u w.heap.size 47 #[.int .i64 t, .int .i64 a, .int .i64 l, .int .i64 m] := by rw [hu]; exact CellsAt.new w 47 _
    have gu : Gr w u := by rw [hu]; exact (Gr.refl w).alloc _ _
    rw [← hu]
    clear hu
    have KS : ∀ W, Gr u W → W.cell? ⟨w.heap.size, 0, none⟩ = some (.int .i64 t) ∧ W.cell? ⟨w.heap.size, 1, none⟩ = some (.int .i64 a) := fun W hG => ⟨(R0.gr hG).cell 0, (R0.gr hG).cell 1⟩
    have hclG := gr_closed u
    try simp only [List.append_eq, List.cons_append, List.nil_append]
    refine wp_region_grow (S := Gr u) rfl (Gr.drew (Gr.refl _)) ?_
    refine wpG_take (i := 0) (v := ?_) hclG rfl (by kernel_rfl) (by kernel_rfl) (by kernel_rfl) (fun _ _ _ h => h) (by rfl) ?_ ?_
    rotate_left
    · (intro w' hSw; have hk := KS w' hSw; go_split_ands; go_simp; try with_reducible rfl)
    try simp only [Act.put, List.setIfInBounds_toArray, List.set_cons_zero, List.set_cons_succ, List.getElem_toArray, List.getElem_cons_zero, List.getElem_cons_succ]
    refine wpG_take (i := 1) (v := ?_) hclG rfl (by kernel_rfl) (by kernel_rfl) (by kernel_rfl) (fun _ _ _ h => h) (by rfl) ?_ ?_
    rotate_left
    · (intro w' hSw; have hk := KS w' hSw; go_split_ands; go_simp; try with_reducible rfl)
    try simp only [Act.put, List.setIfInBounds_toArray, List.set_cons_zero, List.set_cons_succ, List.getElem_toArray, List.getElem_cons_zero, List.getElem_cons_succ]
    refine wpG_take (i := 2) (v := ?_) hclG rfl (by kernel_rfl) (by kernel_rfl) (by kernel_rfl) (fun _ _ _ h => h) (by rfl) ?_ ?_
    rotate_left
    · (intro w' hSw; have hk := KS w' hSw; go_split_ands; go_simp; try with_reducible rfl)
    try simp only [Act.put, List.setIfInBounds_toArray, List.set_cons_zero, List.set_cons_succ, List.getElem_toArray, List.getElem_cons_zero, List.getElem_cons_succ]
    refine wpG_take (i := 3) (v := ?_) hclG rfl (by kernel_rfl) (by kernel_rfl) (by kernel_rfl) (fun _ _ _ h => h) (by rfl) ?_ ?_
    rotate_left
    · (intro w' hSw; have hk := KS w' hSw; go_split_ands; go_simp; try with_reducible rfl)
    try simp only [Act.put, List.setIfInBounds_toArray, List.set_cons_zero, List.set_cons_succ, List.getElem_toArray, List.getElem_cons_zero, List.getElem_cons_succ]
    refine wpG_take (i := 4) (v := ?_) hclG rfl (by kernel_rfl) (by kernel_rfl) (by kernel_rfl) (fun _ _ _ h => h) (by rfl) ?_ ?_
    rotate_left
    · (intro w' hSw; have hk := KS w' hSw; go_split_ands; go_simp; try with_reducible rfl)
    try simp only [Act.put, List.setIfInBounds_toArray, List.set_cons_zero, List.set_cons_succ, List.getElem_toArray, List.getElem_cons_zero, List.getElem_cons_succ]
    refine wpG_call (i := 5) hclG rfl (by kernel_rfl) (by kernel_rfl) (by kernel_rfl) (fun _ _ _ h => h) (fun W hS => calls_gr (H.out W)) (by rfl) ?_ ?_
    · (intro w' hSw; go_simp; try with_reducible rfl)
    try simp only [Act.put, List.setIfInBounds_toArray, List.set_cons_zero, List.set_cons_succ, List.getElem_toArray, List.getElem_cons_zero, List.getElem_cons_succ]
    refine wpG_take (i := 6) (v := ?_) hclG rfl (by kernel_rfl) (by kernel_rfl) (by kernel_rfl) (fun _ _ _ h => h) (by rfl) ?_ ?_
    rotate_left
    · (intro w' hSw; have hk := KS w' hSw; go_split_ands; go_simp; try with_reducible rfl)
    try simp only [Act.put, List.setIfInBounds_toArray, List.set_cons_zero, List.set_cons_succ, List.getElem_toArray, List.getElem_cons_zero, List.getElem_cons_succ]
    refine wpG_take (i := 7) (v := ?_) hclG rfl (by kernel_rfl) (by kernel_rfl) (by kernel_rfl) (fun _ _ _ h => h) (by rfl) ?_ ?_
    rotate_left
    · (intro w' hSw; have hk := KS w' hSw; go_split_ands; go_simp; try with_reducible rfl)
    try simp only [Act.put, List.setIfInBounds_toArray, List.set_cons_zero, List.set_cons_succ, List.getElem_toArray, List.getElem_cons_zero, List.getElem_cons_succ]
    refine wpG_take (i := 8) (v := ?_) hclG rfl (by kernel_rfl) (by kernel_rfl) (by kernel_rfl) (fun _ _ _ h => h) (by rfl) ?_ ?_
    rotate_left
    · (intro w' hSw; have hk := KS w' hSw; go_split_ands; go_simp; try with_reducible rfl)
    try simp only [Act.put, List.setIfInBounds_toArray, List.set_cons_zero, List.set_cons_succ, List.getElem_toArray, List.getElem_cons_zero, List.getElem_cons_succ]
    refine wpG_take (i := 9) (v := ?_) hclG rfl (by kernel_rfl) (by kernel_rfl) (by kernel_rfl) (fun _ _ _ h => h) (by rfl) ?_ ?_
    rotate_left
    · (intro w' hSw; have hk := KS w' hSw; go_split_ands; go_simp; try with_reducible rfl)
    try simp only [Act.put, List.setIfInBounds_toArray, List.set_cons_zero, List.set_cons_succ, List.getElem_toArray, List.getElem_cons_zero, List.getElem_cons_succ]
    refine wpG_done (by kernel_rfl) (fun w1 g1 => ?_) _
    replace g1 := (Gr.drew (Gr.refl u)).trans g1
    clear hclG KS
    go_wp2_with fail
    go_ret
    exact ⟨rfl, gu.trans g1⟩

/-- The rule of passes of a kernel and a scale. -/
def ruleT (k sc : Int) : Int × Int × Int × Int := (k, if sc = 2 then (if k = 2 then 608 else 1632) else baseB k, if sc = 1 then 0 else topB sc k, topB sc k)
theorem ruleOf_yes (k sc : Int) (hk : k = 2 ∨ k = 4) (h0 : 0 ≤ sc) (h2 : sc ≤ 2) : ruleOf (k, sc) = some (ruleT k sc) := by
  have hs : sc = 0 ∨ sc = 1 ∨ sc = 2 := by omega
  rcases hk with rfl | rfl <;> rcases hs with rfl | rfl | rfl <;> decide +kernel
theorem ruleOf_no (k sc : Int) (h : ¬ ((k = 2 ∨ k = 4) ∧ 0 ≤ sc ∧ sc ≤ 2)) : ruleOf (k, sc) = none := by
  unfold ruleOf
  rw [Option.map_eq_none_iff, List.find?_eq_none]
  intro p hp e
  have e := beq_iff_eq.1 e
  simp only [rulesN, List.mem_cons, List.not_mem_nil, or_false] at hp
  rcases hp with rfl | rfl | rfl | rfl | rfl | rfl <;> (simp only [Prod.mk.injEq] at e; omega)
theorem topB_none (sc k : Int) (hk : k = 2 ∨ k = 4) (h0 : 0 ≤ sc) (h2 : sc ≤ 2) : topB sc k = 0 ↔ sc = 2 := by
  have hs : sc = 0 ∨ sc = 1 ∨ sc = 2 := by omega
  rcases hk with rfl | rfl <;> rcases hs with rfl | rfl | rfl <;> decide +kernel

theorem behind_c (k sc e s : Int) (h : mayB e k sc s = true) (w : World) :
    Calls Try.prog 22 #[ruleR (ruleT k sc), .int .i64 e, .int .i64 s] w fun e' w' => e' = .returned (.int .i64 (stepB e k sc s)) ∧ Gr w w' := by
  obtain ⟨⟨e0, e1⟩, hk, ⟨h0, h2⟩, s0, s3⟩ := mayB_iff.1 h
  obtain ⟨s', hs⟩ : ∃ s', s' = if topB sc k = 0 then 0 else s := ⟨_, rfl⟩
  have hs' : 0 ≤ s' ∧ s' ≤ 3 := by rw [hs]; split <;> omega
  have hk' : 2 ≤ k ∧ k ≤ 4 := by omega
  obtain ⟨te, hte⟩ : ∃ te, k * e = te := ⟨_, rfl⟩
  have ht : 0 ≤ te ∧ te ≤ 4398046511104 := by rcases hk with rfl | rfl <;> omega
  have hp := upB_pos te s'.toNat ht.1 (by omega)
  have hb : 0 ≤ (ruleT k sc).2.1 ∧ (ruleT k sc).2.1 ≤ 2000 := by
    simp only [ruleT, baseB]
    repeat' split
    all_goals omega
  refine behind_g k _ _ _ e s (upB te s'.toNat) (stepB e k sc s) ?_ hp.1 (by omega) (by omega) (by omega) hb.1 hb.2 te hte ht.1 (by omega) s' hs (Lib.hid fun W => shiftedUp_c te s' ht.1 (by omega) hs'.1 hs'.2 W) w
  have hz := topB_none sc k hk h0 h2
  simp only [ruleT, baseB, stepB]
  by_cases hsc : sc = 2
  · rw [if_pos (hz.2 hsc)] at hs
    subst hs
    rw [if_pos hsc, if_pos hsc]
    have : upB te (Int.toNat 0) = te := by simp [upB]
    rw [this, ← hte]
    rcases hk with rfl | rfl <;> simp
  · rw [if_neg (fun h => hsc (hz.1 h))] at hs
    subst hs
    rw [if_neg hsc, if_neg hsc, ← hte]
    rcases hk with rfl | rfl <;> simp

set_option maxHeartbeats 1000000 in
theorem budgetStart_ok (fo lo ke sc mo : Int) (iv : Bool) (hok : okF fo lo ke sc mo = true) (w : World) : Calls Try.prog 8 #[.agg #[.int .i64 fo, .int .i64 lo, .int .i64 ke, .int .i64 sc, .int .i64 mo, .bool iv]] w fun e' w' => e' = .returned (.tuple #[.int .i64 (startB sc), .int .i64 0]) ∧ Gr w w' := by
  have HC := Lib.hid (check_c fo lo ke sc mo iv 0 (by rw [if_pos hok]))
  have HA := Lib.hid fun W => atFirst_c fo lo ke sc mo iv W
  clear hok
  generalize startB sc = z at *
  go_enter Try.func8, Try.ntmps8
  go_wp2_with fail
  obtain ⟨u, hu⟩ : ∃ uu, uu = w.alloc (.cells #[.int .i64 fo, .int .i64 lo, .int .i64 ke, .int .i64 sc, .int .i64 mo, .bool iv] 23) := ⟨_, rfl⟩
  have R0 : CellsAt u w.heap.size 23 #[.int .i64 fo, .int .i64 lo, .int .i64 ke, .int .i64 sc, .int .i64 mo, .bool iv] := by rw [hu]; exact CellsAt.new w 23 _
  have gu : Gr w u := by rw [hu]; exact (Gr.refl w).alloc _ _
  rw [← hu]
  clear hu
  refine (HC.out _).mono ?_
  rintro e w1 ⟨rfl, g1⟩
  have R1 := R0.gr g1
  have c0 := CellsAt.cell R1 0
  have c1 := CellsAt.cell R1 1
  have c2 := CellsAt.cell R1 2
  have c3 := CellsAt.cell R1 3
  have c4 := CellsAt.cell R1 4
  have c5 := CellsAt.cell R1 5
  simp only [List.getElem?_toArray, List.getElem?_cons_zero, List.getElem?_cons_succ] at c0 c1 c2 c3 c4 c5
  go_wp2_with fail
  refine (HA.out _).mono ?_
  rintro e w2 ⟨rfl, g2⟩
  go_wp2_with fail
  go_ret2
  exact ⟨rfl, (gu.trans g1).trans g2⟩

set_option maxHeartbeats 1000000 in
theorem budgetStart_bad (fo lo ke sc mo : Int) (iv : Bool) (hok : okF fo lo ke sc mo = false) (w : World) : Calls Try.prog 8 #[.agg #[.int .i64 fo, .int .i64 lo, .int .i64 ke, .int .i64 sc, .int .i64 mo, .bool iv]] w fun e' w' => e' = .returned (.tuple #[.int .i64 0, .int .i64 4]) ∧ Gr w w' := by
  have HC := Lib.hid (check_c fo lo ke sc mo iv 4 (by rw [hok]; rfl))
  go_enter Try.func8, Try.ntmps8
  go_wp2_with fail
  refine (HC.out _).mono ?_
  rintro e w1 ⟨rfl, g1⟩
  go_wp2_with fail
  go_ret2
  exact ⟨rfl, ((Gr.refl w).alloc _ _).trans g1⟩

set_option maxHeartbeats 2000000 in
theorem step_ok (e k sc s t a l m n : Int) (h0 : 0 ≤ e) (h1 : e ≤ 1099511627776) (s0 : 0 ≤ s) (s3 : s ≤ 3)
    (HL : Hid (∀ W B, RulesAt W B → (Instr.lookup 49 (.map (some B)) (.agg #[.int .i64 k, .int .i64 sc]) true).run Try.prog W = .ok (.tuple #[.agg #[.int .i64 t, .int .i64 a, .int .i64 l, .int .i64 m], .bool true]) W))
    (HB : Hid (∀ W, Calls Try.prog 22 #[.agg #[.int .i64 t, .int .i64 a, .int .i64 l, .int .i64 m], .int .i64 e, .int .i64 s] W fun e' w' => e' = .returned (.int .i64 n) ∧ Gr W w')) (w : World) :
    Calls Try.prog 7 #[.int .i64 e, .int .i64 k, .int .i64 sc, .int .i64 s] w fun e' w' => e' = .returned (.tuple #[.int .i64 n, .int .i64 0]) ∧ Gr w w' := by
  have HR := Lib.hid rules_c
  go_enter Try.func7, Try.ntmps7
  go_wp2_with fail
  refine (HR.out _).mono ?_
  rintro e' w1 ⟨B, rfl, hR, g1⟩
  have hL := HL.out w1 B hR
  go_wp2_with fail
  refine (HB.out _).mono ?_
  rintro e' w2 ⟨rfl, g2⟩
  go_wp2_with fail
  go_ret2
  exact ⟨rfl, (g1.trans ((Gr.refl _).alloc _ _)).trans g2⟩

set_option maxHeartbeats 4000000 in
theorem step_no (e k sc s t a l m : Int) (ok : Bool) (h : ok = false ∨ e < 0 ∨ 1099511627776 < e ∨ s < 0 ∨ 3 < s)
    (HL : Hid (∀ W B, RulesAt W B → (Instr.lookup 49 (.map (some B)) (.agg #[.int .i64 k, .int .i64 sc]) true).run Try.prog W = .ok (.tuple #[.agg #[.int .i64 t, .int .i64 a, .int .i64 l, .int .i64 m], .bool ok]) W)) (w : World) :
    Calls Try.prog 7 #[.int .i64 e, .int .i64 k, .int .i64 sc, .int .i64 s] w fun e' w' => e' = .returned (.tuple #[.int .i64 0, .int .i64 1]) ∧ Gr w w' := by
  have HR := Lib.hid rules_c
  have hc : ok = false ∨ (ok = true ∧ e < 0) ∨ (ok = true ∧ 0 ≤ e ∧ 1099511627776 < e) ∨ (ok = true ∧ 0 ≤ e ∧ e ≤ 1099511627776 ∧ s < 0) ∨ (ok = true ∧ 0 ≤ e ∧ e ≤ 1099511627776 ∧ 0 ≤ s ∧ 3 < s) := by
    cases ok
    · exact .inl rfl
    · simp only [Bool.true_eq_false, false_or] at h
      simp only [Bool.true_eq_false, false_or, true_and]
      omega
  clear h
  rcases hc with rfl | ⟨rfl, h1⟩ | ⟨rfl, h1, h2⟩ | ⟨rfl, h1, h2, h3⟩ | ⟨rfl, h1, h2, h3, h4⟩
  · go_enter Try.func7, Try.ntmps7
    go_wp2_with fail
    refine (HR.out _).mono ?_
    rintro e' w1 ⟨B, rfl, hR, g1⟩
    have hL := HL.out w1 B hR
    go_wp2_with fail
    go_ret2
    exact ⟨rfl, g1.trans ((Gr.refl _).alloc _ _)⟩
  · go_enter Try.func7, Try.ntmps7
    go_wp2_with fail
    refine (HR.out _).mono ?_
    rintro e' w1 ⟨B, rfl, hR, g1⟩
    have hL := HL.out w1 B hR
    go_wp2_with fail
    go_ret2
    exact ⟨rfl, g1.trans ((Gr.refl _).alloc _ _)⟩
  · go_enter Try.func7, Try.ntmps7
    go_wp2_with fail
    refine (HR.out _).mono ?_
    rintro e' w1 ⟨B, rfl, hR, g1⟩
    have hL := HL.out w1 B hR
    go_wp2_with fail
    go_ret2
    exact ⟨rfl, g1.trans ((Gr.refl _).alloc _ _)⟩
  · go_enter Try.func7, Try.ntmps7
    go_wp2_with fail
    refine (HR.out _).mono ?_
    rintro e' w1 ⟨B, rfl, hR, g1⟩
    have hL := HL.out w1 B hR
    go_wp2_with fail
    go_ret2
    exact ⟨rfl, g1.trans ((Gr.refl _).alloc _ _)⟩
  · go_enter Try.func7, Try.ntmps7
    go_wp2_with fail
    refine (HR.out _).mono ?_
    rintro e' w1 ⟨B, rfl, hR, g1⟩
    have hL := HL.out w1 B hR
    go_wp2_with fail
    go_ret2
    exact ⟨rfl, g1.trans ((Gr.refl _).alloc _ _)⟩

theorem budgetStep_ok (e k sc s : Int) (h : mayB e k sc s = true) (w : World) : Calls Try.prog 7 #[.int .i64 e, .int .i64 k, .int .i64 sc, .int .i64 s] w fun e' w' => e' = .returned (.tuple #[.int .i64 (stepB e k sc s), .int .i64 0]) ∧ Gr w w' := by
  obtain ⟨⟨e0, e1⟩, hk, ⟨h0, h2⟩, s0, s3⟩ := mayB_iff.1 h
  refine step_ok e k sc s _ _ _ _ _ e0 e1 s0 s3 (Lib.hid fun W B hR => ?_) (Lib.hid fun W => behind_c k sc e s h W) w
  have := hR.look k sc true
  rw [ruleOf_yes k sc hk h0 h2] at this
  exact this

theorem budgetStep_arg (e k sc s : Int) (h : mayB e k sc s = false) (w : World) : Calls Try.prog 7 #[.int .i64 e, .int .i64 k, .int .i64 sc, .int .i64 s] w fun e' w' => e' = .returned (.tuple #[.int .i64 0, .int .i64 1]) ∧ Gr w w' := by
  rw [Bool.eq_false_iff, Ne, mayB_iff] at h
  by_cases hv : (k = 2 ∨ k = 4) ∧ 0 ≤ sc ∧ sc ≤ 2
  · refine step_no e k sc s (ruleT k sc).1 (ruleT k sc).2.1 (ruleT k sc).2.2.1 (ruleT k sc).2.2.2 true (by omega) (Lib.hid fun W B hR => ?_) w
    have := hR.look k sc true
    rw [ruleOf_yes k sc hv.1 hv.2.1 hv.2.2] at this
    exact this
  · refine step_no e k sc s 0 0 0 0 false (.inl rfl) (Lib.hid fun W B hR => ?_) w
    have := hR.look k sc true
    rw [ruleOf_no k sc hv] at this
    exact this

end Go.Proofs.Ytmjghakodgihiaa
