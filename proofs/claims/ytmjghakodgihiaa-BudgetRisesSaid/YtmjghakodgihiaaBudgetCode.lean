/- Package budget's losses and shifts of a plan. -/
import Derived.Test.YtmjghakodgihiaaBudgetCode3
import Derived.Test.YtmjghakodgihiaaLaw14
namespace Go.Proofs.Ytmjghakodgihiaa
open Go.ChangeShapes Go.WideShapes Go.ChangeAt Go.RowKit
set_option linter.unusedVariables false
set_option linter.unusedSimpArgs false
set_option maxRecDepth 100000

theorem fitB_rule (sc k l : Int) (hk : k = 2 ∨ k = 4) (h0 : 0 ≤ sc) (h2 : sc ≤ 2) : fitB sc k l = (decide ((ruleT k sc).2.2.1 ≤ l) && decide (l ≤ (ruleT k sc).2.2.2)) := by
  have ht := topB_le sc k
  by_cases hs : sc = 1
  · subst hs
    simp only [fitB, ruleT, if_true, decide_true, Bool.true_or, Bool.and_true]
    by_cases h1 : 0 ≤ l <;> by_cases h3 : l ≤ topB 1 k <;> simp [h1, h3]
  · simp only [fitB, ruleT, if_neg hs, hs, decide_false, Bool.false_or]
    by_cases h1 : l = topB sc k
    · subst h1; simp; omega
    · have : ¬ (topB sc k ≤ l ∧ l ≤ topB sc k) := by omega
      by_cases h3 : topB sc k ≤ l <;> by_cases h4 : l ≤ topB sc k <;> simp [h1, h3, h4]
      omega

set_option maxHeartbeats 4000000 in
theorem budgetFixed_of (fo lo ke sc mo : Int) (iv : Bool) (rs : List (Int × Int × Int × Int)) (hL : rs.length ≤ 6)
    (HP : Hid (∀ W, Calls Try.prog 28 #[.agg #[.int .i64 fo, .int .i64 lo, .int .i64 ke, .int .i64 sc, .int .i64 mo, .bool iv]] W fun e w' => ∃ v, e = .returned (.tuple #[v, .int .i64 0]) ∧ RlsAt w' v rs ∧ Gr W w')) (w : World) :
    Calls Try.prog 15 #[.agg #[.int .i64 fo, .int .i64 lo, .int .i64 ke, .int .i64 sc, .int .i64 mo, .bool iv]] w fun e w' => ∃ v, e = .returned (.tuple #[v, .int .i64 0]) ∧ NumsAt w' v (rs.map fun r => r.2.2.2) ∧ Gr w w' := by
  have hmk := run_make_row' (P := Try.prog) 34 3 (.int .i64 0) 8 Try.underlying34 info_int rfl .i64 .i64 rs.length (by omega) (by omega)
  go_enter Try.func15, Try.ntmps15
  go_wp2_with fail
  obtain ⟨u0, hu⟩ : ∃ uu, uu = w.alloc (.cells #[.int .i64 fo, .int .i64 lo, .int .i64 ke, .int .i64 sc, .int .i64 mo, .bool iv] 23) := ⟨_, rfl⟩
  have R0 : CellsAt u0 w.heap.size 23 #[.int .i64 fo, .int .i64 lo, .int .i64 ke, .int .i64 sc, .int .i64 mo, .bool iv] := by rw [hu]; exact CellsAt.new w 23 _
  have gu : Gr w u0 := by rw [hu]; exact (Gr.refl w).alloc _ _
  rw [← hu]
  clear hu
  refine (HP.out _).mono ?_
  rintro e w2 ⟨vp, rfl, ⟨B, rfl, hB, hc0⟩, g1⟩
  have HC := Lib.hid hc0
  have y2 := gu.trans g1
  clear R0 gu g1 HP hc0
  go_wp2_with fail
  have M0 := MadeAt.start w2 (.int .i64 0) rs.length 3
  go_loopw [22] (fun i wr => ∃ k : Nat, ∃ c : Array Value, k ≤ rs.length ∧ i = .int .i64 k ∧ CellsAt wr w2.heap.size 3 c ∧ c.size = rs.length ∧ (∀ j r, j < k → rs[j]? = some r → c[j]? = some (.int .i64 r.2.2.2)) ∧ Gr w2 wr)
    (fun i _ => rs.length - (intOf i).toNat)
  case atStart => exact ⟨0, _, by omega, rfl, M0.1, M0.2, fun j r hj => absurd hj (Nat.not_lt_zero _), (Gr.refl _).alloc _ _⟩
  case round =>
    clear M0 hmk
    obtain ⟨k, c, hk, rfl, hC, hs, hj, hg⟩ := hrel
    by_cases hlt : k < rs.length
    · obtain ⟨r, hr⟩ := get_of_lt hlt
      have hlI : (k : Int) < (rs.length : Int) := by omega
      have hl6 : (rs.length : Int) ≤ 6 := by omega
      obtain ⟨a0, a1, a2, a3⟩ := HC.out k r hr
      replace a0 := (hg.cell (p := ⟨B, _, none⟩) hB).trans a0
      replace a1 := (hg.cell (p := ⟨B, _, none⟩) hB).trans a1
      replace a2 := (hg.cell (p := ⟨B, _, none⟩) hB).trans a2
      replace a3 := (hg.cell (p := ⟨B, _, none⟩) hB).trans a3
      have hBr : B < wr.heap.size := Nat.lt_of_lt_of_le hB hg.size
      have HX := Lib.hid hr
      have HS := Lib.hid hs
      have HJ := Lib.hid hj
      clear hs hj hr
      obtain ⟨rt, ra, rl, rm⟩ := r
      simp only at a0 a1 a2 a3
      have lC := hC.lt
      have q0 := hC.cell k
      rw [Array.getElem?_eq_getElem (show k < c.size by rw [HS.out]; omega)] at q0
      have f0 := hC.frozen k
      go_wp2_with fail
      have hC3 := hC.set k (.int .i64 rm)
      have hg4 := hg.setCell (a := ⟨w2.heap.size, k, none⟩) (by simp) (.int .i64 rm)
      go_roundw
      case rel =>
        refine ⟨k + 1, _, by omega, by go_num, hC3.alloc _, by simpa using HS.out, fun j r hj hr => ?_, hg4.alloc _ _⟩
        by_cases e : j = k
        · subst e
          rw [HX.out] at hr
          cases hr
          rw [Array.getElem?_setIfInBounds, if_pos rfl, if_pos (by rw [HS.out]; omega)]
        · rw [Array.getElem?_setIfInBounds, if_neg (by omega)]
          exact HJ.out j r (by omega) hr
      case measure => simp [intOf]; omega
    · obtain rfl : k = rs.length := by omega
      have hlI : ¬ (rs.length : Int) < (rs.length : Int) := by omega
      go_wp2_with fail
      go_ret2
      refine ⟨_, rfl, ?_, y2.trans hg⟩
      have := nums_of_cells (cap := rs.length) (ls := rs.map fun r => r.2.2.2) hC (fun j x hx => by
        rw [List.getElem?_map] at hx
        obtain ⟨r, hr, rfl⟩ := Option.map_eq_some_iff.1 hx
        exact hj j r (List.getElem?_eq_some_iff.1 hr).1 hr) (by simp) (by unfold maxLen; omega)
      rw [List.length_map] at this
      exact this

theorem budgetFixed_ok (fo lo ke sc mo : Int) (iv : Bool) (hok : okF fo lo ke sc mo = true) (w : World) : Calls Try.prog 15 #[.agg #[.int .i64 fo, .int .i64 lo, .int .i64 ke, .int .i64 sc, .int .i64 mo, .bool iv]] w fun e w' => ∃ v, e = .returned (.tuple #[v, .int .i64 0]) ∧ NumsAt w' v ((passL ke lo).map fun x => topB sc x.re) ∧ Gr w w' := by
  have hf := okF_iff.1 hok
  have h := budgetFixed_of fo lo ke sc mo iv ((passL ke lo).map fun x => ruleT x.re sc) (by rw [List.length_map]; exact passL_len6 ke lo (by omega) (by omega) (by omega) (by omega)) (Lib.hid fun W => passRules_ok fo lo ke sc mo iv hok W) w
  rw [List.map_map] at h
  exact h

set_option maxHeartbeats 1000000 in
theorem budgetFixed_bad (fo lo ke sc mo : Int) (iv : Bool) (hok : okF fo lo ke sc mo = false) (w : World) : Calls Try.prog 15 #[.agg #[.int .i64 fo, .int .i64 lo, .int .i64 ke, .int .i64 sc, .int .i64 mo, .bool iv]] w fun e' w' => e' = .returned (.tuple #[.slice none 0 0, .int .i64 4]) ∧ Gr w w' := by
  have HC := Lib.hid fun W => passRules_bad fo lo ke sc mo iv hok W
  go_enter Try.func15, Try.ntmps15
  go_wp2_with fail
  refine (HC.out _).mono ?_
  rintro e w1 ⟨rfl, g1⟩
  go_wp2_with fail
  go_ret2
  exact ⟨rfl, ((Gr.refl w).alloc _ _).trans g1⟩

set_option maxHeartbeats 1000000 in
theorem budgetOf_bad (fo lo ke sc mo : Int) (iv : Bool) (hok : okF fo lo ke sc mo = false) (sp : Option Addr) (cl : Nat) (ls : List Int) (w : World) (hl : NumsAt w (.slice sp ls.length cl) ls) : Calls Try.prog 14 #[.agg #[.int .i64 fo, .int .i64 lo, .int .i64 ke, .int .i64 sc, .int .i64 mo, .bool iv], .slice sp ls.length cl] w fun e' w' => e' = .returned (.tuple #[.int .i64 0, .int .i64 4]) ∧ Gr w w' := by
  have HC := Lib.hid fun W => passRules_bad fo lo ke sc mo iv hok W
  clear hl
  go_enter Try.func14, Try.ntmps14
  go_wp2_with fail
  refine (HC.out _).mono ?_
  rintro e w1 ⟨rfl, g1⟩
  go_wp2_with fail
  go_ret2
  exact ⟨rfl, ((Gr.refl w).alloc _ _).trans g1⟩

set_option maxHeartbeats 4000000 in
theorem budgetOf_of (fo lo ke sc mo st z : Int) (iv : Bool) (rs : List (Int × Int × Int × Int)) (hL : rs.length ≤ 6) (sp : Option Addr) (cl : Nat) (ls : List Int) (E : Nat → Int) (hlen : ls.length = rs.length)
    (HP : Hid (∀ W, Calls Try.prog 28 #[.agg #[.int .i64 fo, .int .i64 lo, .int .i64 ke, .int .i64 sc, .int .i64 mo, .bool iv]] W fun e w' => ∃ v, e = .returned (.tuple #[v, .int .i64 0]) ∧ RlsAt w' v rs ∧ Gr W w'))
    (HM : Hid (∀ R W, RlsAt W R rs → NumsAt W (.slice sp ls.length cl) ls → Calls Try.prog 29 #[R, .slice sp ls.length cl] W fun e w' => e = .returned (.bool true) ∧ Gr W w'))
    (HA : Hid (∀ W, Calls Try.prog 24 #[.agg #[.int .i64 fo, .int .i64 lo, .int .i64 ke, .int .i64 sc, .int .i64 mo, .bool iv]] W fun e w' => e = .returned (.int .i64 (E 0)) ∧ Gr W w'))
    (HB : Hid (∀ (j : Nat) r l, rs[j]? = some r → ls[j]? = some l → ∀ W, Calls Try.prog 22 #[ruleR r, .int .i64 (E j), .int .i64 l] W fun e w' => e = .returned (.int .i64 (E (j + 1))) ∧ Gr W w'))
    (hz : if ke = 2 then wrap64 (224 * lo) = st ∧ wrap64 (E 0 + st) = z else E rs.length = z) (w : World) (hl : NumsAt w (.slice sp ls.length cl) ls) :
    Calls Try.prog 14 #[.agg #[.int .i64 fo, .int .i64 lo, .int .i64 ke, .int .i64 sc, .int .i64 mo, .bool iv], .slice sp ls.length cl] w fun e w' => e = .returned (.tuple #[.int .i64 z, .int .i64 0]) ∧ Gr w w' := by
  have HZ := Lib.hid hz
  have HLEN := Lib.hid hlen
  clear hz hlen
  go_enter Try.func14, Try.ntmps14
  go_wp2_with fail
  obtain ⟨u0, hu⟩ : ∃ uu, uu = w.alloc (.cells #[.int .i64 fo, .int .i64 lo, .int .i64 ke, .int .i64 sc, .int .i64 mo, .bool iv] 23) := ⟨_, rfl⟩
  have R0 : CellsAt u0 w.heap.size 23 #[.int .i64 fo, .int .i64 lo, .int .i64 ke, .int .i64 sc, .int .i64 mo, .bool iv] := by rw [hu]; exact CellsAt.new w 23 _
  have gu : Gr w u0 := by rw [hu]; exact (Gr.refl w).alloc _ _
  have N0 := hl.gr gu
  try rw [← hu]
  clear hu hl
  refine (HP.out _).mono ?_
  rintro e w1 ⟨vp, rfl, hR1, g1⟩
  have R1 := R0.gr g1
  have N1 := N0.gr g1
  have y1 := gu.trans g1
  have HM1 := Lib.hid (HM.out vp w1 hR1 N1)
  clear R0 N0 gu g1 HP
  go_wp2_with fail
  refine (HM1.out).mono ?_
  rintro e w2 ⟨rfl, g2⟩
  have R9 := R1.gr g2
  have N2 := N1.gr g2
  have hR2 := hR1.gr g2
  have y2 := y1.trans g2
  have lR := R9.lt
  clear R1 N1 y1 g2 HM hR1 HM1
  have c0 := CellsAt.cell R9 0
  have c1 := CellsAt.cell R9 1
  have c2 := CellsAt.cell R9 2
  have c3 := CellsAt.cell R9 3
  have c4 := CellsAt.cell R9 4
  have c5 := CellsAt.cell R9 5
  simp only [List.getElem?_toArray, List.getElem?_cons_zero, List.getElem?_cons_succ] at c0 c1 c2 c3 c4 c5
  go_wp2_with fail
  refine (HA.out _).mono ?_
  rintro e w3 ⟨rfl, g3⟩
  replace R9 := R9.gr g3
  have N3 := N2.gr g3
  have hR3 := hR2.gr g3
  have y3 := y2.trans g3
  replace lR := R9.lt
  clear c0 c1 c2 c3 c4 c5 N2 y2 g3 hR2 HA
  have c0 := CellsAt.cell R9 0
  have c1 := CellsAt.cell R9 1
  have c2 := CellsAt.cell R9 2
  have c3 := CellsAt.cell R9 3
  have c4 := CellsAt.cell R9 4
  have c5 := CellsAt.cell R9 5
  simp only [List.getElem?_toArray, List.getElem?_cons_zero, List.getElem?_cons_succ] at c0 c1 c2 c3 c4 c5
  by_cases hke : ke = 2
  · have hke2 : (ke == 2) = true := by simp [hke]
    have HZ' := HZ.out
    rw [if_pos hke] at HZ'
    obtain ⟨z1, z2⟩ := HZ'
    go_wp2_with fail
    go_ret2
    exact ⟨by simp [*], y3⟩
  · have hke2 : (ke == 2) = false := by simp [hke]
    obtain ⟨B, rfl, hB, hc0⟩ := hR3
    have HC := Lib.hid hc0
    clear hc0
    go_wp2_with fail
    clear c0 c1 c2 c3 c4 c5 lR
    go_loopw [8, 35] (fun v i wr => ∃ j : Nat, j ≤ rs.length ∧ i = .int .i64 j ∧ v = .int .i64 (E j) ∧ Gr w3 wr)
      (fun _ i _ => rs.length - (intOf i).toNat)
    case atStart => exact ⟨0, by omega, rfl, rfl, Gr.refl _⟩
    case round =>
      obtain ⟨j, hj, rfl, rfl, hg⟩ := hrel
      by_cases hlt : j < rs.length
      · obtain ⟨r, hr⟩ := get_of_lt hlt
        obtain ⟨l, hll⟩ := get_of_lt (show j < ls.length by rw [HLEN.out]; exact hlt)
        have hlI : (j : Int) < (rs.length : Int) := by omega
        have hlS : (j : Int) < (ls.length : Int) := by rw [HLEN.out]; exact hlI
        have hl6 : (rs.length : Int) ≤ 6 := by omega
        obtain ⟨b2, o2, cap2, hsl, _, hb2, hc2⟩ := (N3.gr hg).at (by intro e; have := HLEN.out; rw [e] at this; simp at this; omega)
        cases hsl
        have kl := hc2 j l hll
        obtain ⟨a0, a1, a2, a3⟩ := HC.out j r hr
        replace a0 := (hg.cell (p := ⟨B, _, none⟩) hB).trans a0
        replace a1 := (hg.cell (p := ⟨B, _, none⟩) hB).trans a1
        replace a2 := (hg.cell (p := ⟨B, _, none⟩) hB).trans a2
        replace a3 := (hg.cell (p := ⟨B, _, none⟩) hB).trans a3
        have HBX := Lib.hid (HB.out j r l hr hll)
        obtain ⟨rt, ra, rl, rm⟩ := r
        unfold ruleR at HBX
        simp only at a0 a1 a2 a3 HBX
        have hBr : B < wr.heap.size := Nat.lt_of_lt_of_le hB hg.size
        generalize hE1 : E (j + 1) = E1 at HBX
        have HE := Lib.hid hE1
        clear hE1
        clear hc2 hr hll
        go_wp2_with fail
        obtain ⟨u3, hu⟩ : ∃ uu, uu = wr.alloc (.cells #[.int .i64 rt, .int .i64 ra, .int .i64 rl, .int .i64 rm] 47) := ⟨_, rfl⟩
        have X3 : CellsAt u3 wr.heap.size 47 #[.int .i64 rt, .int .i64 ra, .int .i64 rl, .int .i64 rm] := by rw [hu]; exact CellsAt.new wr 47 _
        have y4 : Gr wr u3 := by rw [hu]; exact (Gr.refl wr).alloc _ _
        have hb3 : b2 < u3.heap.size := Nat.lt_of_lt_of_le hb2 y4.size
        have kl3 := (y4.cell (p := ⟨b2, o2 + j, none⟩) hb2).trans kl
        try rw [← hu]
        clear hu a0 a1 a2 a3 kl
        have KS : ∀ W, Gr u3 W → (W.cell? ⟨wr.heap.size, 0, none⟩ = some (.int .i64 rt) ∧ W.cell? ⟨wr.heap.size, 1, none⟩ = some (.int .i64 ra) ∧ W.cell? ⟨wr.heap.size, 2, none⟩ = some (.int .i64 rl) ∧ W.cell? ⟨wr.heap.size, 3, none⟩ = some (.int .i64 rm) ∧ W.cell? ⟨b2, o2 + j, none⟩ = some (.int .i64 l)) := fun W hG =>
          ⟨(X3.gr hG).cell 0, (X3.gr hG).cell 1, (X3.gr hG).cell 2, (X3.gr hG).cell 3, (hG.cell (p := ⟨b2, o2 + j, none⟩) hb3).trans kl3⟩
        have hclG := gr_closed u3
        try simp only [List.append_eq, List.cons_append, List.nil_append]
        refine wp_region_grow (S := Gr u3) rfl (Gr.drew (Gr.refl _)) ?_
        refine wpG_take (i := 0) (v := ?_) hclG rfl (by kernel_rfl) (by kernel_rfl) (by kernel_rfl) (fun _ _ _ h => h) (by rfl) ?_ ?_
        rotate_left
        · (intro w' hSw; have hk := KS w' hSw; go_split_ands; go_simp; try with_reducible rfl)
        try simp only [Act.put, List.setIfInBounds_toArray, List.set_cons_zero, List.set_cons_succ, List.getElem_toArray, List.getElem_cons_zero, List.getElem_cons_succ]
        refine wpG_take (i := 1) (v := ?_) hclG rfl (by kernel_rfl) (by kernel_rfl) (by kernel_rfl) (fun _ _ _ h => h) (by rfl) ?_ ?_
        rotate_left
        · (intro w' hSw; have hk := KS w' hSw; go_split_ands; go_simp; try with_reducible rfl)
        try simp only [Act.put, List.setIfInBounds_toArray, List.set_cons_zero, List.set_cons_succ, List.getElem_toArray, List.getElem_cons_zero, List.getElem_cons_succ]
        refine wpG_take (i := 2) (v := ?_) hclG rfl (by kernel_rfl) (by kernel_rfl) (by kernel_rfl) (fun _ _ _ h => h) (by rfl) ?_ ?_
        rotate_left
        · (intro w' hSw; have hk := KS w' hSw; go_split_ands; go_simp; try with_reducible rfl)
        try simp only [Act.put, List.setIfInBounds_toArray, List.set_cons_zero, List.set_cons_succ, List.getElem_toArray, List.getElem_cons_zero, List.getElem_cons_succ]
        refine wpG_take (i := 3) (v := ?_) hclG rfl (by kernel_rfl) (by kernel_rfl) (by kernel_rfl) (fun _ _ _ h => h) (by rfl) ?_ ?_
        rotate_left
        · (intro w' hSw; have hk := KS w' hSw; go_split_ands; go_simp; try with_reducible rfl)
        try simp only [Act.put, List.setIfInBounds_toArray, List.set_cons_zero, List.set_cons_succ, List.getElem_toArray, List.getElem_cons_zero, List.getElem_cons_succ]
        refine wpG_take (i := 4) (v := ?_) hclG rfl (by kernel_rfl) (by kernel_rfl) (by kernel_rfl) (fun _ _ _ h => h) (by rfl) ?_ ?_
        rotate_left
        · (intro w' hSw; have hk := KS w' hSw; go_split_ands; go_simp; try with_reducible rfl)
        try simp only [Act.put, List.setIfInBounds_toArray, List.set_cons_zero, List.set_cons_succ, List.getElem_toArray, List.getElem_cons_zero, List.getElem_cons_succ]
        refine wpG_take (i := 5) (v := ?_) hclG rfl (by kernel_rfl) (by kernel_rfl) (by kernel_rfl) (fun _ _ _ h => h) (by rfl) ?_ ?_
        rotate_left
        · (intro w' hSw; have hk := KS w' hSw; go_split_ands; go_simp; try with_reducible rfl)
        try simp only [Act.put, List.setIfInBounds_toArray, List.set_cons_zero, List.set_cons_succ, List.getElem_toArray, List.getElem_cons_zero, List.getElem_cons_succ]
        refine wpG_call (i := 6) hclG rfl (by kernel_rfl) (by kernel_rfl) (by kernel_rfl) (fun _ _ _ h => h) (fun W hS => HBX.out W) (by rfl) ?_ ?_
        · (intro w' hSw; go_simp; try with_reducible rfl)
        try simp only [Act.put, List.setIfInBounds_toArray, List.set_cons_zero, List.set_cons_succ, List.getElem_toArray, List.getElem_cons_zero, List.getElem_cons_succ]
        refine wpG_take (i := 7) (v := ?_) hclG rfl (by kernel_rfl) (by kernel_rfl) (by kernel_rfl) (fun _ _ _ h => h) (by rfl) ?_ ?_
        rotate_left
        · (intro w' hSw; have hk := KS w' hSw; go_split_ands; go_simp; try with_reducible rfl)
        try simp only [Act.put, List.setIfInBounds_toArray, List.set_cons_zero, List.set_cons_succ, List.getElem_toArray, List.getElem_cons_zero, List.getElem_cons_succ]
        refine wpG_done (by kernel_rfl) (fun w8 g8 => ?_) _
        replace g8 := (Gr.drew (Gr.refl u3)).trans g8
        clear hclG KS
        have y8 := y4.trans g8
        go_wp2_with fail
        go_roundw
        case rel => exact ⟨j + 1, by omega, by go_num, by rw [HE.out], hg.trans y8⟩
        case measure => simp [intOf]; omega
      · obtain rfl : j = rs.length := by omega
        have hlI : ¬ (rs.length : Int) < (rs.length : Int) := by omega
        have HZ' := HZ.out
        rw [if_neg hke] at HZ'
        go_wp2_with fail
        go_ret2
        exact ⟨by simp [HZ'], y3.trans hg⟩

theorem budgetOf_ok (fo lo ke sc mo : Int) (iv : Bool) (hok : okF fo lo ke sc mo = true) (sp : Option Addr) (cl : Nat) (ls : List Int) (hf : fitsB sc (passL ke lo) ls = true) (w : World) (hl : NumsAt w (.slice sp ls.length cl) ls) : Calls Try.prog 14 #[.agg #[.int .i64 fo, .int .i64 lo, .int .i64 ke, .int .i64 sc, .int .i64 mo, .bool iv], .slice sp ls.length cl] w fun e' w' => e' = .returned (.tuple #[.int .i64 (ofB sc ke lo ls), .int .i64 0]) ∧ Gr w w' := by
  have ho := okF_iff.1 hok
  have hlen := fitsB_len sc _ ls hf
  have h6 := passL_len6 ke lo (by omega) (by omega) (by omega) (by omega)
  have hn := fun j => lostB_nums sc ke lo ls j (by omega) (by omega) (by omega) (by omega) hf
  refine budgetOf_of fo lo ke sc mo (224 * lo) (ofB sc ke lo ls) iv ((passL ke lo).map fun x => ruleT x.re sc) (by rw [List.length_map]; exact h6) sp cl ls (lostB sc ke lo ls) (by rw [List.length_map]; exact hlen)
    (Lib.hid fun W => passRules_ok fo lo ke sc mo iv hok W) (Lib.hid fun R W hR hN => ?_) (Lib.hid fun W => atFirst_c fo lo ke sc mo iv W) (Lib.hid fun j r l hr hll W => ?_) ?_ w hl
  · have := mayShiftB_of sc (passL ke lo) h6 R sp cl ls (by omega) (fun k => ruleT k sc) (Lib.hid fun x hx l => fitB_rule sc x.re l (passL_kern ke lo x hx) (by omega) (by omega)) W hR hN
    rw [hf] at this
    exact this
  · rw [List.getElem?_map] at hr
    obtain ⟨x, hx, rfl⟩ := Option.map_eq_some_iff.1 hr
    have hfit := fitB_iff.1 (fitsB_at sc _ ls j x l hf hx hll)
    have ht := topB_le sc x.re
    have hk := passL_kern ke lo x (List.mem_of_getElem? hx)
    have hb := hn j
    rw [lostB_next sc ke lo ls j x l hx hll]
    exact behind_c x.re sc _ l (mayB_iff.2 ⟨by omega, hk, by omega, by omega⟩) W
  · have ha := lostB_all sc ke lo ls hlen
    rw [List.length_map]
    by_cases hk : ke = 2
    · have hb := hn 0
      have hp : (passL ke lo).length = 0 := by rw [hk]; rfl
      rw [if_pos hk] at ha ⊢
      rw [ha, hp]
      exact ⟨IntWalk.wrap64_in _ ⟨by omega, by omega⟩, IntWalk.wrap64_in _ ⟨by omega, by omega⟩⟩
    · rw [if_neg hk] at ha ⊢
      omega

set_option maxHeartbeats 2000000 in
theorem budgetOf_no (fo lo ke sc mo : Int) (iv : Bool) (rs : List (Int × Int × Int × Int)) (sp : Option Addr) (cl : Nat) (ls : List Int)
    (HP : Hid (∀ W, Calls Try.prog 28 #[.agg #[.int .i64 fo, .int .i64 lo, .int .i64 ke, .int .i64 sc, .int .i64 mo, .bool iv]] W fun e w' => ∃ v, e = .returned (.tuple #[v, .int .i64 0]) ∧ RlsAt w' v rs ∧ Gr W w'))
    (HM : Hid (∀ R W, RlsAt W R rs → NumsAt W (.slice sp ls.length cl) ls → Calls Try.prog 29 #[R, .slice sp ls.length cl] W fun e w' => e = .returned (.bool false) ∧ Gr W w')) (w : World) (hl : NumsAt w (.slice sp ls.length cl) ls) :
    Calls Try.prog 14 #[.agg #[.int .i64 fo, .int .i64 lo, .int .i64 ke, .int .i64 sc, .int .i64 mo, .bool iv], .slice sp ls.length cl] w fun e w' => e = .returned (.tuple #[.int .i64 0, .int .i64 1]) ∧ Gr w w' := by
  go_enter Try.func14, Try.ntmps14
  go_wp2_with fail
  obtain ⟨u0, hu⟩ : ∃ uu, uu = w.alloc (.cells #[.int .i64 fo, .int .i64 lo, .int .i64 ke, .int .i64 sc, .int .i64 mo, .bool iv] 23) := ⟨_, rfl⟩
  have gu : Gr w u0 := by rw [hu]; exact (Gr.refl w).alloc _ _
  have N0 := hl.gr gu
  try rw [← hu]
  clear hu hl
  refine (HP.out _).mono ?_
  rintro e w1 ⟨vp, rfl, hR1, g1⟩
  have HM1 := Lib.hid (HM.out vp w1 hR1 (N0.gr g1))
  have y1 := gu.trans g1
  clear N0 gu g1 HP hR1
  go_wp2_with fail
  refine (HM1.out).mono ?_
  rintro e w2 ⟨rfl, g2⟩
  go_wp2_with fail
  go_ret2
  exact ⟨rfl, y1.trans g2⟩

theorem budgetOf_arg (fo lo ke sc mo : Int) (iv : Bool) (hok : okF fo lo ke sc mo = true) (sp : Option Addr) (cl : Nat) (ls : List Int) (hls : ls.length ≤ 10) (hf : fitsB sc (passL ke lo) ls = false) (w : World) (hl : NumsAt w (.slice sp ls.length cl) ls) : Calls Try.prog 14 #[.agg #[.int .i64 fo, .int .i64 lo, .int .i64 ke, .int .i64 sc, .int .i64 mo, .bool iv], .slice sp ls.length cl] w fun e' w' => e' = .returned (.tuple #[.int .i64 0, .int .i64 1]) ∧ Gr w w' := by
  have ho := okF_iff.1 hok
  have h6 := passL_len6 ke lo (by omega) (by omega) (by omega) (by omega)
  refine budgetOf_no fo lo ke sc mo iv ((passL ke lo).map fun x => ruleT x.re sc) sp cl ls (Lib.hid fun W => passRules_ok fo lo ke sc mo iv hok W) (Lib.hid fun R W hR hN => ?_) w hl
  have := mayShiftB_of sc (passL ke lo) h6 R sp cl ls hls (fun k => ruleT k sc) (Lib.hid fun x hx l => fitB_rule sc x.re l (passL_kern ke lo x hx) (by omega) (by omega)) W hR hN
  rw [hf] at this
  exact this

/-- What is lost by four numbers' plan. -/
theorem alive14_c (w : World) : Calls Try.prog 11 #[] w fun e w' => e = .returned (.bool true) ∧ Gr w w' :=
  alive14_of (Lib.hid fun sp cl W hN => by
    have h := budgetOf_ok 0 2 0 0 0 false (by decide +kernel) sp cl [1, 1] (by decide +kernel) W hN
    rw [show ofB 0 0 2 [1, 1] = 539 by decide +kernel] at h
    exact h) w

end Go.Proofs.Ytmjghakodgihiaa
