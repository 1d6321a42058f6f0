/- What package plan's small functions answer, and the reference's. -/
import Derived.Test.YtmjghakodgihiaaPlanMath
import Derived.Test.YtmjghakodgihiaaCxs
import Derived.Test.YtmjghakodgihiaaGrow
namespace Go.Proofs.Ytmjghakodgihiaa
open Go.ChangeShapes Go.WideShapes Go.ChangeAt Go.RowKit
set_option linter.unusedVariables false
set_option linter.unusedSimpArgs false
set_option maxRecDepth 100000


theorem isOneOf_c (v f m l : Int) (hl : wrap64 (f + m) = l) (b : Bool) (hb : decide (f ≤ v ∧ v < l) = b) (w : World) :
    Calls Try.prog 36 #[.int .i64 v, .int .i64 f, .int .i64 m] w fun e w' => e = .returned (.bool b) ∧ w' = w := by
  subst hb
  by_cases h1 : f ≤ v
  · by_cases h2 : v < l
    · have e : decide (f ≤ v ∧ v < l) = true := by simp [h1, h2]
      rw [e]
      go_enter Try.func36, Try.ntmps36
      go_wp2_with fail
      go_ret
      exact ⟨rfl, rfl⟩
    · have e : decide (f ≤ v ∧ v < l) = false := by simp [h2]
      rw [e]
      go_enter Try.func36, Try.ntmps36
      go_wp2_with fail
      go_ret
      exact ⟨rfl, rfl⟩
  · have e : decide (f ≤ v ∧ v < l) = false := by simp [h1]
    rw [e]
    go_enter Try.func36, Try.ntmps36
    go_wp2_with fail
    go_ret
    exact ⟨rfl, rfl⟩


theorem one_c (v m : Int) (b : Bool) (hb : decide (0 ≤ v ∧ v < m + 1) = b) (w : World) :
    Calls Try.prog 25 #[.int .i64 v, .int .i64 m] w fun e w' => e = .returned (.bool b) ∧ w' = w := by
  subst hb
  by_cases h1 : 0 ≤ v
  · by_cases h2 : v ≤ m
    · have e : decide (0 ≤ v ∧ v < m + 1) = true := by simp [h1]; omega
      rw [e]
      go_enter Try.func25, Try.ntmps25
      go_wp2_with fail
      go_ret
      exact ⟨rfl, rfl⟩
    · have e : decide (0 ≤ v ∧ v < m + 1) = false := by simp; omega
      rw [e]
      go_enter Try.func25, Try.ntmps25
      go_wp2_with fail
      go_ret
      exact ⟨rfl, rfl⟩
  · have e : decide (0 ≤ v ∧ v < m + 1) = false := by simp [h1]
    rw [e]
    go_enter Try.func25, Try.ntmps25
    go_wp2_with fail
    go_ret
    exact ⟨rfl, rfl⟩


set_option maxHeartbeats 2000000 in
theorem fieldsMayBe_g (fo lo ke sc mo : Int) (iv b0 b1 b2 b3 b4 : Bool) (H0 : Hid (∀ W, Calls Try.prog 36 #[.int .i64 fo, .int .i64 0, .int .i64 2] W fun e w' => e = .returned (.bool b0) ∧ w' = W)) (H1 : Hid (∀ W, Calls Try.prog 36 #[.int .i64 lo, .int .i64 2, .int .i64 5] W fun e w' => e = .returned (.bool b1) ∧ w' = W)) (H2 : Hid (∀ W, Calls Try.prog 36 #[.int .i64 ke, .int .i64 0, .int .i64 3] W fun e w' => e = .returned (.bool b2) ∧ w' = W)) (H3 : Hid (∀ W, Calls Try.prog 36 #[.int .i64 sc, .int .i64 0, .int .i64 3] W fun e w' => e = .returned (.bool b3) ∧ w' = W)) (H4 : Hid (∀ W, Calls Try.prog 36 #[.int .i64 mo, .int .i64 0, .int .i64 3] W fun e w' => e = .returned (.bool b4) ∧ w' = W)) (w : World) :
    Calls Try.prog 33 #[.agg #[.int .i64 fo, .int .i64 lo, .int .i64 ke, .int .i64 sc, .int .i64 mo, .bool iv]] w fun e w' => e = .returned (.bool (b0 && (b1 && (b2 && (b3 && b4))))) ∧ Gr w w' := by
  cases b0
  · skip
    go_enter Try.func33, Try.ntmps33
    go_wp2_with (go_at_call 36; (first | with_reducible refine (H0.out _).mono ?_ | with_reducible refine (H1.out _).mono ?_ | with_reducible refine (H2.out _).mono ?_ | with_reducible refine (H3.out _).mono ?_ | with_reducible refine (H4.out _).mono ?_); rintro e w1 ⟨rfl, rfl⟩)
    go_ret
    exact ⟨rfl, by repeat (first | exact Gr.refl _ | apply Gr.drew | apply Gr.alloc)⟩
  · skip
    cases b1
    · skip
      go_enter Try.func33, Try.ntmps33
      go_wp2_with (go_at_call 36; (first | with_reducible refine (H0.out _).mono ?_ | with_reducible refine (H1.out _).mono ?_ | with_reducible refine (H2.out _).mono ?_ | with_reducible refine (H3.out _).mono ?_ | with_reducible refine (H4.out _).mono ?_); rintro e w1 ⟨rfl, rfl⟩)
      go_ret
      exact ⟨rfl, by repeat (first | exact Gr.refl _ | apply Gr.drew | apply Gr.alloc)⟩
    · skip
      cases b2
      · skip
        go_enter Try.func33, Try.ntmps33
        go_wp2_with (go_at_call 36; (first | with_reducible refine (H0.out _).mono ?_ | with_reducible refine (H1.out _).mono ?_ | with_reducible refine (H2.out _).mono ?_ | with_reducible refine (H3.out _).mono ?_ | with_reducible refine (H4.out _).mono ?_); rintro e w1 ⟨rfl, rfl⟩)
        go_ret
        exact ⟨rfl, by repeat (first | exact Gr.refl _ | apply Gr.drew | apply Gr.alloc)⟩
      · skip
        cases b3
        · skip
          go_enter Try.func33, Try.ntmps33
          go_wp2_with (go_at_call 36; (first | with_reducible refine (H0.out _).mono ?_ | with_reducible refine (H1.out _).mono ?_ | with_reducible refine (H2.out _).mono ?_ | with_reducible refine (H3.out _).mono ?_ | with_reducible refine (H4.out _).mono ?_); rintro e w1 ⟨rfl, rfl⟩)
          go_ret
          exact ⟨rfl, by repeat (first | exact Gr.refl _ | apply Gr.drew | apply Gr.alloc)⟩
        · skip
          cases b4
          · skip
            go_enter Try.func33, Try.ntmps33
            go_wp2_with (go_at_call 36; (first | with_reducible refine (H0.out _).mono ?_ | with_reducible refine (H1.out _).mono ?_ | with_reducible refine (H2.out _).mono ?_ | with_reducible refine (H3.out _).mono ?_ | with_reducible refine (H4.out _).mono ?_); rintro e w1 ⟨rfl, rfl⟩)
            go_ret
            exact ⟨rfl, by repeat (first | exact Gr.refl _ | apply Gr.drew | apply Gr.alloc)⟩
          · skip
            go_enter Try.func33, Try.ntmps33
            go_wp2_with (go_at_call 36; (first | with_reducible refine (H0.out _).mono ?_ | with_reducible refine (H1.out _).mono ?_ | with_reducible refine (H2.out _).mono ?_ | with_reducible refine (H3.out _).mono ?_ | with_reducible refine (H4.out _).mono ?_); rintro e w1 ⟨rfl, rfl⟩)
            go_ret
            exact ⟨rfl, by repeat (first | exact Gr.refl _ | apply Gr.drew | apply Gr.alloc)⟩


theorem fieldsMayBe_c (fo lo ke sc mo : Int) (iv : Bool) (w : World) :
    Calls Try.prog 33 #[.agg #[.int .i64 fo, .int .i64 lo, .int .i64 ke, .int .i64 sc, .int .i64 mo, .bool iv]] w fun e w' => e = .returned (.bool (fieldsOk fo lo ke sc mo)) ∧ Gr w w' :=
  fieldsMayBe_g fo lo ke sc mo iv _ _ _ _ _ (Lib.hid fun W => isOneOf_c fo 0 2 2 (by rw [IntWalk.wrap64_in _ ⟨by omega, by omega⟩]; rfl) _ rfl W) (Lib.hid fun W => isOneOf_c lo 2 5 7 (by rw [IntWalk.wrap64_in _ ⟨by omega, by omega⟩]; rfl) _ rfl W) (Lib.hid fun W => isOneOf_c ke 0 3 3 (by rw [IntWalk.wrap64_in _ ⟨by omega, by omega⟩]; rfl) _ rfl W) (Lib.hid fun W => isOneOf_c sc 0 3 3 (by rw [IntWalk.wrap64_in _ ⟨by omega, by omega⟩]; rfl) _ rfl W) (Lib.hid fun W => isOneOf_c mo 0 3 3 (by rw [IntWalk.wrap64_in _ ⟨by omega, by omega⟩]; rfl) _ rfl W) w


set_option maxHeartbeats 1000000 in
theorem check_g (fo lo ke sc mo : Int) (iv b : Bool) (HF : Hid (∀ W, Calls Try.prog 33 #[.agg #[.int .i64 fo, .int .i64 lo, .int .i64 ke, .int .i64 sc, .int .i64 mo, .bool iv]] W fun e w' => e = .returned (.bool b) ∧ Gr W w')) (w : World) :
    Calls Try.prog 23 #[.agg #[.int .i64 fo, .int .i64 lo, .int .i64 ke, .int .i64 sc, .int .i64 mo, .bool iv]] w fun e w' => e = .returned (.int .i64 (if (b && !(decide (ke = 2) && !decide (sc = 0))) = true then 0 else 4)) ∧ Gr w w' := by
  cases b
  · skip
    go_enter Try.func23, Try.ntmps23
    go_wp2_with fail
    obtain ⟨u0, hu⟩ : ∃ uu, uu = w.alloc (.cells #[.int .i64 fo, .int .i64 lo, .int .i64 ke, .int .i64 sc, .int .i64 mo, .bool iv] 23) := ⟨_, rfl⟩
    have R0 : CellsAt u0 w.heap.size 23 #[.int .i64 fo, .int .i64 lo, .int .i64 ke, .int .i64 sc, .int .i64 mo, .bool iv] := by rw [hu]; exact CellsAt.new w 23 #[.int .i64 fo, .int .i64 lo, .int .i64 ke, .int .i64 sc, .int .i64 mo, .bool iv]
    have gu : Gr w u0 := by rw [hu]; exact (Gr.refl w).alloc _ _
    rw [← hu]
    clear hu
    refine (HF.out _).mono ?_
    rintro e w1 ⟨rfl, g1⟩
    have R1 := R0.gr g1
    have l1 := R1.lt
    have c2 := R1.cell 2
    have c3 := R1.cell 3
    simp only [List.getElem?_toArray, List.getElem?_cons_zero, List.getElem?_cons_succ] at c2 c3
    go_wp2_with fail
    go_ret
    exact ⟨rfl, by repeat (first | exact gu.trans g1 | apply Gr.drew | apply Gr.alloc)⟩
  by_cases hk : ke = 2
  · subst hk
    by_cases hs : sc = 0
    · subst hs
      go_enter Try.func23, Try.ntmps23
      go_wp2_with fail
      obtain ⟨u0, hu⟩ : ∃ uu, uu = w.alloc (.cells #[.int .i64 fo, .int .i64 lo, .int .i64 2, .int .i64 0, .int .i64 mo, .bool iv] 23) := ⟨_, rfl⟩
      have R0 : CellsAt u0 w.heap.size 23 #[.int .i64 fo, .int .i64 lo, .int .i64 2, .int .i64 0, .int .i64 mo, .bool iv] := by rw [hu]; exact CellsAt.new w 23 #[.int .i64 fo, .int .i64 lo, .int .i64 2, .int .i64 0, .int .i64 mo, .bool iv]
      have gu : Gr w u0 := by rw [hu]; exact (Gr.refl w).alloc _ _
      rw [← hu]
      clear hu
      refine (HF.out _).mono ?_
      rintro e w1 ⟨rfl, g1⟩
      have R1 := R0.gr g1
      have l1 := R1.lt
      have c2 := R1.cell 2
      have c3 := R1.cell 3
      simp only [List.getElem?_toArray, List.getElem?_cons_zero, List.getElem?_cons_succ] at c2 c3
      go_wp2_with fail
      go_ret
      exact ⟨rfl, by repeat (first | exact gu.trans g1 | apply Gr.drew | apply Gr.alloc)⟩
    · have hs' : (sc != 0) = true := by simp [hs]
      have e : (if (true && !(decide ((2 : Int) = 2) && !decide (sc = 0))) = true then (0 : Int) else 4) = 4 := by simp [hs]
      rw [e]
      go_enter Try.func23, Try.ntmps23
      go_wp2_with fail
      obtain ⟨u0, hu⟩ : ∃ uu, uu = w.alloc (.cells #[.int .i64 fo, .int .i64 lo, .int .i64 2, .int .i64 sc, .int .i64 mo, .bool iv] 23) := ⟨_, rfl⟩
      have R0 : CellsAt u0 w.heap.size 23 #[.int .i64 fo, .int .i64 lo, .int .i64 2, .int .i64 sc, .int .i64 mo, .bool iv] := by rw [hu]; exact CellsAt.new w 23 #[.int .i64 fo, .int .i64 lo, .int .i64 2, .int .i64 sc, .int .i64 mo, .bool iv]
      have gu : Gr w u0 := by rw [hu]; exact (Gr.refl w).alloc _ _
      rw [← hu]
      clear hu
      refine (HF.out _).mono ?_
      rintro e w1 ⟨rfl, g1⟩
      have R1 := R0.gr g1
      have l1 := R1.lt
      have c2 := R1.cell 2
      have c3 := R1.cell 3
      simp only [List.getElem?_toArray, List.getElem?_cons_zero, List.getElem?_cons_succ] at c2 c3
      go_wp2_with fail
      go_ret
      exact ⟨rfl, by repeat (first | exact gu.trans g1 | apply Gr.drew | apply Gr.alloc)⟩
  · have hk' : (ke == 2) = false := by simp [hk]
    have e : (if (true && !(decide (ke = 2) && !decide (sc = 0))) = true then (0 : Int) else 4) = 0 := by simp [hk]
    rw [e]
    go_enter Try.func23, Try.ntmps23
    go_wp2_with fail
    obtain ⟨u0, hu⟩ : ∃ uu, uu = w.alloc (.cells #[.int .i64 fo, .int .i64 lo, .int .i64 ke, .int .i64 sc, .int .i64 mo, .bool iv] 23) := ⟨_, rfl⟩
    have R0 : CellsAt u0 w.heap.size 23 #[.int .i64 fo, .int .i64 lo, .int .i64 ke, .int .i64 sc, .int .i64 mo, .bool iv] := by rw [hu]; exact CellsAt.new w 23 #[.int .i64 fo, .int .i64 lo, .int .i64 ke, .int .i64 sc, .int .i64 mo, .bool iv]
    have gu : Gr w u0 := by rw [hu]; exact (Gr.refl w).alloc _ _
    rw [← hu]
    clear hu
    refine (HF.out _).mono ?_
    rintro e w1 ⟨rfl, g1⟩
    have R1 := R0.gr g1
    have l1 := R1.lt
    have c2 := R1.cell 2
    have c3 := R1.cell 3
    simp only [List.getElem?_toArray, List.getElem?_cons_zero, List.getElem?_cons_succ] at c2 c3
    go_wp2_with fail
    go_ret
    exact ⟨rfl, by repeat (first | exact gu.trans g1 | apply Gr.drew | apply Gr.alloc)⟩


theorem check_c (fo lo ke sc mo : Int) (iv : Bool) (er : Int) (he : (if okF fo lo ke sc mo = true then 0 else 4) = er) (w : World) :
    Calls Try.prog 23 #[.agg #[.int .i64 fo, .int .i64 lo, .int .i64 ke, .int .i64 sc, .int .i64 mo, .bool iv]] w fun e w' => e = .returned (.int .i64 er) ∧ Gr w w' := by
  subst he
  exact check_g fo lo ke sc mo iv _ (Lib.hid fun W => fieldsMayBe_c fo lo ke sc mo iv W) w


set_option maxHeartbeats 4000000 in
theorem refCheck_g (fo lo ke sc mo : Int) (iv b0 b1 b2 b3 : Bool) (hk : ¬ (ke = 2 ∧ ¬ sc = 0)) (H0 : Hid (∀ W, Calls Try.prog 25 #[.int .i64 fo, .int .i64 1] W fun e w' => e = .returned (.bool b0) ∧ w' = W)) (H1 : Hid (∀ W, Calls Try.prog 25 #[.int .i64 ke, .int .i64 2] W fun e w' => e = .returned (.bool b1) ∧ w' = W)) (H2 : Hid (∀ W, Calls Try.prog 25 #[.int .i64 sc, .int .i64 2] W fun e w' => e = .returned (.bool b2) ∧ w' = W)) (H3 : Hid (∀ W, Calls Try.prog 25 #[.int .i64 mo, .int .i64 2] W fun e w' => e = .returned (.bool b3) ∧ w' = W)) (w : World) :
    Calls Try.prog 9 #[.agg #[.int .i64 fo, .int .i64 lo, .int .i64 ke, .int .i64 sc, .int .i64 mo, .bool iv]] w fun e w' => e = .returned (.bool (b0 && (decide (2 ≤ lo) && (decide (lo ≤ 6) && (b1 && (b2 && b3)))))) ∧ Gr w w' := by
  have hc : (ke = 2 ∧ sc = 0) ∨ ((ke == 2) = false ∧ ¬ ke = 2) := by
    by_cases k : ke = 2
    · exact .inl ⟨k, Decidable.byContradiction fun s => hk ⟨k, s⟩⟩
    · exact .inr ⟨by simp [k], k⟩
  clear hk
  rcases hc with ⟨rfl, rfl⟩ | ⟨hk1, hk2⟩
  · skip
    cases b0
    · skip
      go_enter Try.func9, Try.ntmps9
      go_wp2_with (go_at_call 25; (first | with_reducible refine (H0.out _).mono ?_ | with_reducible refine (H1.out _).mono ?_ | with_reducible refine (H2.out _).mono ?_ | with_reducible refine (H3.out _).mono ?_); rintro e w1 ⟨rfl, rfl⟩)
      go_ret
      exact ⟨rfl, by repeat (first | exact Gr.refl _ | apply Gr.drew | apply Gr.alloc)⟩
    · skip
      by_cases h1 : 2 ≤ lo
      · skip
        simp only [h1, decide_true, Bool.true_and, Bool.and_true]
        by_cases h2 : lo ≤ 6
        · skip
          simp only [h2, decide_true, Bool.true_and, Bool.and_true]
          cases b1
          · skip
            go_enter Try.func9, Try.ntmps9
            go_wp2_with (go_at_call 25; (first | with_reducible refine (H0.out _).mono ?_ | with_reducible refine (H1.out _).mono ?_ | with_reducible refine (H2.out _).mono ?_ | with_reducible refine (H3.out _).mono ?_); rintro e w1 ⟨rfl, rfl⟩)
            go_ret
            exact ⟨rfl, by repeat (first | exact Gr.refl _ | apply Gr.drew | apply Gr.alloc)⟩
          · skip
            cases b2
            · skip
              go_enter Try.func9, Try.ntmps9
              go_wp2_with (go_at_call 25; (first | with_reducible refine (H0.out _).mono ?_ | with_reducible refine (H1.out _).mono ?_ | with_reducible refine (H2.out _).mono ?_ | with_reducible refine (H3.out _).mono ?_); rintro e w1 ⟨rfl, rfl⟩)
              go_ret
              exact ⟨rfl, by repeat (first | exact Gr.refl _ | apply Gr.drew | apply Gr.alloc)⟩
            · skip
              cases b3
              · skip
                go_enter Try.func9, Try.ntmps9
                go_wp2_with (go_at_call 25; (first | with_reducible refine (H0.out _).mono ?_ | with_reducible refine (H1.out _).mono ?_ | with_reducible refine (H2.out _).mono ?_ | with_reducible refine (H3.out _).mono ?_); rintro e w1 ⟨rfl, rfl⟩)
                go_ret
                exact ⟨rfl, by repeat (first | exact Gr.refl _ | apply Gr.drew | apply Gr.alloc)⟩
              · skip
                go_enter Try.func9, Try.ntmps9
                go_wp2_with (go_at_call 25; (first | with_reducible refine (H0.out _).mono ?_ | with_reducible refine (H1.out _).mono ?_ | with_reducible refine (H2.out _).mono ?_ | with_reducible refine (H3.out _).mono ?_); rintro e w1 ⟨rfl, rfl⟩)
                go_ret
                exact ⟨rfl, by repeat (first | exact Gr.refl _ | apply Gr.drew | apply Gr.alloc)⟩
        · skip
          simp only [h2, decide_false, Bool.false_and, Bool.and_false]
          go_enter Try.func9, Try.ntmps9
          go_wp2_with (go_at_call 25; (first | with_reducible refine (H0.out _).mono ?_ | with_reducible refine (H1.out _).mono ?_ | with_reducible refine (H2.out _).mono ?_ | with_reducible refine (H3.out _).mono ?_); rintro e w1 ⟨rfl, rfl⟩)
          go_ret
          exact ⟨rfl, by repeat (first | exact Gr.refl _ | apply Gr.drew | apply Gr.alloc)⟩
      · skip
        simp only [h1, decide_false, Bool.false_and, Bool.and_false]
        go_enter Try.func9, Try.ntmps9
        go_wp2_with (go_at_call 25; (first | with_reducible refine (H0.out _).mono ?_ | with_reducible refine (H1.out _).mono ?_ | with_reducible refine (H2.out _).mono ?_ | with_reducible refine (H3.out _).mono ?_); rintro e w1 ⟨rfl, rfl⟩)
        go_ret
        exact ⟨rfl, by repeat (first | exact Gr.refl _ | apply Gr.drew | apply Gr.alloc)⟩
  · skip
    cases b0
    · skip
      go_enter Try.func9, Try.ntmps9
      go_wp2_with (go_at_call 25; (first | with_reducible refine (H0.out _).mono ?_ | with_reducible refine (H1.out _).mono ?_ | with_reducible refine (H2.out _).mono ?_ | with_reducible refine (H3.out _).mono ?_); rintro e w1 ⟨rfl, rfl⟩)
      go_ret
      exact ⟨rfl, by repeat (first | exact Gr.refl _ | apply Gr.drew | apply Gr.alloc)⟩
    · skip
      by_cases h1 : 2 ≤ lo
      · skip
        simp only [h1, decide_true, Bool.true_and, Bool.and_true]
        by_cases h2 : lo ≤ 6
        · skip
          simp only [h2, decide_true, Bool.true_and, Bool.and_true]
          cases b1
          · skip
            go_enter Try.func9, Try.ntmps9
            go_wp2_with (go_at_call 25; (first | with_reducible refine (H0.out _).mono ?_ | with_reducible refine (H1.out _).mono ?_ | with_reducible refine (H2.out _).mono ?_ | with_reducible refine (H3.out _).mono ?_); rintro e w1 ⟨rfl, rfl⟩)
            go_ret
            exact ⟨rfl, by repeat (first | exact Gr.refl _ | apply Gr.drew | apply Gr.alloc)⟩
          · skip
            cases b2
            · skip
              go_enter Try.func9, Try.ntmps9
              go_wp2_with (go_at_call 25; (first | with_reducible refine (H0.out _).mono ?_ | with_reducible refine (H1.out _).mono ?_ | with_reducible refine (H2.out _).mono ?_ | with_reducible refine (H3.out _).mono ?_); rintro e w1 ⟨rfl, rfl⟩)
              go_ret
              exact ⟨rfl, by repeat (first | exact Gr.refl _ | apply Gr.drew | apply Gr.alloc)⟩
            · skip
              cases b3
              · skip
                go_enter Try.func9, Try.ntmps9
                go_wp2_with (go_at_call 25; (first | with_reducible refine (H0.out _).mono ?_ | with_reducible refine (H1.out _).mono ?_ | with_reducible refine (H2.out _).mono ?_ | with_reducible refine (H3.out _).mono ?_); rintro e w1 ⟨rfl, rfl⟩)
                go_ret
                exact ⟨rfl, by repeat (first | exact Gr.refl _ | apply Gr.drew | apply Gr.alloc)⟩
              · skip
                go_enter Try.func9, Try.ntmps9
                go_wp2_with (go_at_call 25; (first | with_reducible refine (H0.out _).mono ?_ | with_reducible refine (H1.out _).mono ?_ | with_reducible refine (H2.out _).mono ?_ | with_reducible refine (H3.out _).mono ?_); rintro e w1 ⟨rfl, rfl⟩)
                go_ret
                exact ⟨rfl, by repeat (first | exact Gr.refl _ | apply Gr.drew | apply Gr.alloc)⟩
        · skip
          simp only [h2, decide_false, Bool.false_and, Bool.and_false]
          go_enter Try.func9, Try.ntmps9
          go_wp2_with (go_at_call 25; (first | with_reducible refine (H0.out _).mono ?_ | with_reducible refine (H1.out _).mono ?_ | with_reducible refine (H2.out _).mono ?_ | with_reducible refine (H3.out _).mono ?_); rintro e w1 ⟨rfl, rfl⟩)
          go_ret
          exact ⟨rfl, by repeat (first | exact Gr.refl _ | apply Gr.drew | apply Gr.alloc)⟩
      · skip
        simp only [h1, decide_false, Bool.false_and, Bool.and_false]
        go_enter Try.func9, Try.ntmps9
        go_wp2_with (go_at_call 25; (first | with_reducible refine (H0.out _).mono ?_ | with_reducible refine (H1.out _).mono ?_ | with_reducible refine (H2.out _).mono ?_ | with_reducible refine (H3.out _).mono ?_); rintro e w1 ⟨rfl, rfl⟩)
        go_ret
        exact ⟨rfl, by repeat (first | exact Gr.refl _ | apply Gr.drew | apply Gr.alloc)⟩


set_option maxHeartbeats 1000000 in
theorem refCheck_s (fo lo sc mo : Int) (iv : Bool) (hs : ¬ sc = 0) (w : World) :
    Calls Try.prog 9 #[.agg #[.int .i64 fo, .int .i64 lo, .int .i64 2, .int .i64 sc, .int .i64 mo, .bool iv]] w fun e w' => e = .returned (.bool false) ∧ Gr w w' := by
  have hs' : (sc != 0) = true := by simp [hs]
  go_enter Try.func9, Try.ntmps9
  go_wp2_with (fail)
  go_ret
  exact ⟨rfl, by repeat (first | exact Gr.refl _ | apply Gr.drew | apply Gr.alloc)⟩


theorem refCheck_c (fo lo ke sc mo : Int) (iv b : Bool) (hb : okF fo lo ke sc mo = b) (w : World) :
    Calls Try.prog 9 #[.agg #[.int .i64 fo, .int .i64 lo, .int .i64 ke, .int .i64 sc, .int .i64 mo, .bool iv]] w fun e w' => e = .returned (.bool b) ∧ Gr w w' := by
  by_cases hk : ke = 2 ∧ ¬ sc = 0
  · obtain ⟨rfl, hs⟩ := hk
    have e : b = false := by rw [← hb]; simp [okF, hs]
    rw [e]
    exact refCheck_s fo lo sc mo iv hs w
  · have H := refCheck_g fo lo ke sc mo iv _ _ _ _ hk (Lib.hid fun W => one_c fo 1 _ rfl W) (Lib.hid fun W => one_c ke 2 _ rfl W) (Lib.hid fun W => one_c sc 2 _ rfl W) (Lib.hid fun W => one_c mo 2 _ rfl W) w
    have e : b = (decide (0 ≤ fo ∧ fo < 1 + 1) && (decide (2 ≤ lo) && (decide (lo ≤ 6) && (decide (0 ≤ ke ∧ ke < 2 + 1) && (decide (0 ≤ sc ∧ sc < 2 + 1) && decide (0 ≤ mo ∧ mo < 2 + 1)))))) := by
      rw [← hb, Bool.eq_iff_iff, okF_iff]
      simp only [Bool.and_eq_true, decide_eq_true_eq]
      omega
    rw [e]
    exact H


end Go.Proofs.Ytmjghakodgihiaa
