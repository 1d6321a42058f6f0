/- The small law that all of layer 14 call; a slice of whole numbers cloned, one of them stored anew. -/
import Derived.Test.YtmjghakodgihiaaRef14b
import Derived.Lib.SliceRun
namespace Go.Proofs.Ytmjghakodgihiaa
open Go.ChangeShapes Go.WideShapes Go.ChangeAt Go.RowKit
set_option linter.unusedVariables false
set_option linter.unusedSimpArgs false
set_option maxRecDepth 100000


theorem addr_plus (b o j : Nat) : (⟨b, o, none⟩ : Addr).add j = ⟨b, o + j, none⟩ := by unfold Addr.add; split <;> simp_all
theorem nums_of_cells {W : World} {B cap : Nat} {t : TypeId} {c : Array Value} {ls : List Int} (h : CellsAt W B t c) (hc : ∀ (j : Nat) x, ls[j]? = some x → c[j]? = some (.int .i64 x)) (h1 : ls.length ≤ cap) (h2 : cap ≤ maxLen) : NumsAt W (.slice (some ⟨B, 0, none⟩) ls.length cap) ls := by
  refine ⟨_, cap, rfl, h1, h2, fun _ => ⟨B, 0, rfl, h.lt, fun j x hj => ?_⟩⟩
  rw [Nat.zero_add, h.cell]
  exact hc j x hj

set_option maxHeartbeats 1000000 in
theorem alive14_of (HO : Hid (∀ sp cl W, NumsAt W (.slice sp 2 cl) [1, 1] → Calls Try.prog 14 #[.agg #[.int .i64 0, .int .i64 2, .int .i64 0, .int .i64 0, .int .i64 0, .bool false], .slice sp 2 cl] W fun e w' => e = .returned (.tuple #[.int .i64 539, .int .i64 0]) ∧ Gr W w')) (w : World) : Calls Try.prog 11 #[] w fun e w' => e = .returned (.bool true) ∧ Gr w w' := by
  go_enter Try.func11, Try.ntmps11
  go_wp2_with fail
  obtain ⟨u1, hu⟩ : ∃ uu, uu = w.alloc (.cells #[.int .i64 1, .int .i64 1] 3) := ⟨_, rfl⟩
  have N1 : NumsAt u1 (.slice (some ⟨w.heap.size, 0, none⟩) 2 2) [1, 1] := by
    rw [hu]
    exact nums_of_cells (ls := [1, 1]) (CellsAt.new w 3 #[.int .i64 1, .int .i64 1]) (fun j x hj => by
      match j, hj with
      | 0, hj => cases hj; rfl
      | 1, hj => cases hj; rfl) (Nat.le_refl _) (by unfold maxLen; simp)
  have g1 : Gr w u1 := by rw [hu]; exact (Gr.refl w).alloc _ _
  rw [← hu]
  clear hu
  refine (HO.out _ _ _ N1).mono ?_
  rintro e w2 ⟨rfl, g2⟩
  go_wp2_with fail
  go_ret
  exact ⟨rfl, g1.trans g2⟩

set_option maxHeartbeats 2000000 in
/-- A slice that is not empty, cloned: a row of its own. -/
theorem clone_c (b o cap : Nat) (ls : List Int) (hne : ls ≠ []) (hl : ls.length ≤ 1000) (w : World) (hN : NumsAt w (.slice (some ⟨b, o, none⟩) ls.length cap) ls) :
    Calls Try.prog 20 #[.slice (some ⟨b, o, none⟩) ls.length cap] w fun e w' => ∃ v, e = .returned v ∧ w'.ownsRow w.heap.size 3 1 v ls.length (ls.map (Value.int .i64)) ∧ Gr w w' := by
  obtain ⟨i0, hi, hz0, hz1, hz2⟩ := info_parts info_int
  obtain ⟨b', o', cap', hsl, _, hb, hc⟩ := hN.at hne
  cases hsl
  have qT : ∀ (w : World) (a : Option Addr) (n c n' c' : Nat), (binOp .eql 34 (.slice a n c) (.slice none n' c')).run Try.prog w = .ok (.bool a.isNone) w := fun w a n c n' c' => Lib.run_eql_slice_nil w _ _ a n c n' c' Try.underlying34
  have hlen : 1 ≤ ls.length := by cases ls with | nil => exact absurd rfl hne | cons _ _ => simp
  have hnews : ∀ j u, (ls.map (Value.int .i64))[j]? = some u → (w.alloc (.cells #[] 3)).cell? ((⟨b, o, none⟩ : Addr).add j) = some u := by
    intro j u hj
    rw [List.getElem?_map] at hj
    cases hx : ls[j]? with
    | none => rw [hx] at hj; cases hj
    | some x =>
      rw [hx] at hj
      cases hj
      rw [addr_plus]
      exact (((Gr.refl w).alloc #[] 3).cell (p := ⟨b, o + j, none⟩) hb).trans (hc j x hx)
  have HN := Lib.hid hnews
  clear hc hN hnews
  go_enter Try.func20, Try.ntmps20
  go_wp2_with (at_builtin; refine wpList_append_own_at _ rfl (.tmp 5) (.tmp 6) 34 rfl w.heap.size 3 i0 (.int .i64 0) 1 8 Try.underlying34 hi hz0 hz1 hz2 rfl (by decide) _ _ _ rfl (World.ownsRow_made w #[] 0 (Nat.le_refl _) (by unfold maxLen; omega) (by simp)) ⟨b, o, none⟩ _ _ (ls.map (Value.int .i64)) rfl (by simp) HN.out (fun u hu => by obtain ⟨x, _, rfl⟩ := List.mem_map.1 hu; rfl) (by unfold maxLen; omega) (by omega) (by simp) ?_; intro v1 W1 hown1 hgrow1 _ _)
  go_ret
  refine ⟨v1, rfl, by simpa using hown1, ((Gr.refl w).alloc _ _).grown hgrow1 (fun k e => ?_)⟩
  have : some w.heap.size = some k := e
  cases this
  exact Nat.le_refl _


set_option maxHeartbeats 2000000 in
theorem budgetSteps_yy (e k kc s fo lo ke sc mo n m : Int) (iv : Bool)
    (HT : Hid (∀ W, Calls Try.prog 7 #[.int .i64 e, .int .i64 k, .int .i64 kc, .int .i64 s] W fun e' w' => e' = .returned (.tuple #[.int .i64 n, .int .i64 0]) ∧ Gr W w')) (HS : Hid (∀ W, Calls Try.prog 8 #[.agg #[.int .i64 fo, .int .i64 lo, .int .i64 ke, .int .i64 sc, .int .i64 mo, .bool iv]] W fun e w' => e = .returned (.tuple #[.int .i64 m, .int .i64 0]) ∧ Gr W w')) (HC : Hid (∀ W, Calls Try.prog 9 #[.agg #[.int .i64 fo, .int .i64 lo, .int .i64 ke, .int .i64 sc, .int .i64 mo, .bool iv]] W fun e w' => e = .returned (.bool true) ∧ Gr W w'))
    (HRS : Hid (∀ W, Calls Try.prog 10 #[.agg #[.int .i64 fo, .int .i64 lo, .int .i64 ke, .int .i64 sc, .int .i64 mo, .bool iv]] W fun e w' => e = .returned (.int .i64 m) ∧ Gr W w')) (HM : Hid (∀ W, Calls Try.prog 12 #[.int .i64 e, .int .i64 k, .int .i64 kc, .int .i64 s] W fun e' w' => e' = .returned (.bool true) ∧ Gr W w')) (HRT : Hid (∀ W, Calls Try.prog 13 #[.int .i64 e, .int .i64 k, .int .i64 kc, .int .i64 s] W fun e' w' => e' = .returned (.int .i64 n) ∧ Gr W w')) (AL : Hid (∀ W, Calls Try.prog 11 #[] W fun e w' => e = .returned (.bool true) ∧ Gr W w')) (w : World) :
    Calls Try.prog 3 #[.int .i64 e, .int .i64 k, .int .i64 kc, .int .i64 s, .agg #[.int .i64 fo, .int .i64 lo, .int .i64 ke, .int .i64 sc, .int .i64 mo, .bool iv]] w fun e' w' => e' = .returned (.bool true) ∧ Gr w w' := by
  go_enter Try.func3, Try.ntmps3
  go_wp2_with fail
  obtain ⟨u0, hu⟩ : ∃ uu, uu = w.alloc (.cells #[.int .i64 fo, .int .i64 lo, .int .i64 ke, .int .i64 sc, .int .i64 mo, .bool iv] 23) := ⟨_, rfl⟩
  have R0 : CellsAt u0 w.heap.size 23 #[.int .i64 fo, .int .i64 lo, .int .i64 ke, .int .i64 sc, .int .i64 mo, .bool iv] := by rw [hu]; exact CellsAt.new w 23 #[.int .i64 fo, .int .i64 lo, .int .i64 ke, .int .i64 sc, .int .i64 mo, .bool iv]
  have y0 : Gr w u0 := by rw [hu]; exact (Gr.refl w).alloc _ _
  rw [← hu]
  clear hu
  refine (HT.out _).mono ?_
  rintro e' w1 ⟨rfl, g1⟩
  have R1 := R0.gr g1
  have y1 := y0.trans g1
  have l1 := R1.lt
  clear R0 y0 g1
  have c0 := CellsAt.cell R1 0
  have c1 := CellsAt.cell R1 1
  have c2 := CellsAt.cell R1 2
  have c3 := CellsAt.cell R1 3
  have c4 := CellsAt.cell R1 4
  have c5 := CellsAt.cell R1 5
  simp only [List.getElem?_toArray, List.getElem?_cons_zero, List.getElem?_cons_succ] at c0 c1 c2 c3 c4 c5
  go_wp2_with fail
  clear c0 c1 c2 c3 c4 c5
  refine (HS.out _).mono ?_
  rintro e' w2 ⟨rfl, g2⟩
  have R2 := R1.gr g2
  have y2 := y1.trans g2
  have l2 := R2.lt
  clear R1 y1 g2 l1
  have c0 := CellsAt.cell R2 0
  have c1 := CellsAt.cell R2 1
  have c2 := CellsAt.cell R2 2
  have c3 := CellsAt.cell R2 3
  have c4 := CellsAt.cell R2 4
  have c5 := CellsAt.cell R2 5
  simp only [List.getElem?_toArray, List.getElem?_cons_zero, List.getElem?_cons_succ] at c0 c1 c2 c3 c4 c5
  go_wp2_with fail
  clear c0 c1 c2 c3 c4 c5
  refine (HC.out _).mono ?_
  rintro e' w3 ⟨rfl, g3⟩
  have R3 := R2.gr g3
  have y3 := y2.trans g3
  have l3 := R3.lt
  clear R2 y2 g3 l2
  have c0 := CellsAt.cell R3 0
  have c1 := CellsAt.cell R3 1
  have c2 := CellsAt.cell R3 2
  have c3 := CellsAt.cell R3 3
  have c4 := CellsAt.cell R3 4
  have c5 := CellsAt.cell R3 5
  simp only [List.getElem?_toArray, List.getElem?_cons_zero, List.getElem?_cons_succ] at c0 c1 c2 c3 c4 c5
  go_wp2_with fail
  clear c0 c1 c2 c3 c4 c5
  refine (HRS.out _).mono ?_
  rintro e' w4 ⟨rfl, g4⟩
  have R4 := R3.gr g4
  have y4 := y3.trans g4
  have l4 := R4.lt
  clear R3 y3 g4 l3
  go_wp2_with fail
  refine (AL.out _).mono ?_
  rintro e' w5 ⟨rfl, g5⟩
  have R5 := R4.gr g5
  have y5 := y4.trans g5
  have l5 := R5.lt
  clear R4 y4 g5 l4
  go_wp2_with fail
  refine (HM.out _).mono ?_
  rintro e' w6 ⟨rfl, g6⟩
  have R6 := R5.gr g6
  have y6 := y5.trans g6
  have l6 := R6.lt
  clear R5 y5 g6 l5
  go_wp2_with fail
  refine (HRT.out _).mono ?_
  rintro e' w7 ⟨rfl, g7⟩
  have R7 := R6.gr g7
  have y7 := y6.trans g7
  have l7 := R7.lt
  clear R6 y6 g7 l6
  go_wp2_with fail
  go_ret
  exact ⟨rfl, y7⟩


set_option maxHeartbeats 2000000 in
theorem budgetSteps_yn (e k kc s fo lo ke sc mo m : Int) (iv : Bool)
    (HT : Hid (∀ W, Calls Try.prog 7 #[.int .i64 e, .int .i64 k, .int .i64 kc, .int .i64 s] W fun e' w' => e' = .returned (.tuple #[.int .i64 0, .int .i64 1]) ∧ Gr W w')) (HS : Hid (∀ W, Calls Try.prog 8 #[.agg #[.int .i64 fo, .int .i64 lo, .int .i64 ke, .int .i64 sc, .int .i64 mo, .bool iv]] W fun e w' => e = .returned (.tuple #[.int .i64 m, .int .i64 0]) ∧ Gr W w')) (HC : Hid (∀ W, Calls Try.prog 9 #[.agg #[.int .i64 fo, .int .i64 lo, .int .i64 ke, .int .i64 sc, .int .i64 mo, .bool iv]] W fun e w' => e = .returned (.bool true) ∧ Gr W w'))
    (HRS : Hid (∀ W, Calls Try.prog 10 #[.agg #[.int .i64 fo, .int .i64 lo, .int .i64 ke, .int .i64 sc, .int .i64 mo, .bool iv]] W fun e w' => e = .returned (.int .i64 m) ∧ Gr W w')) (HM : Hid (∀ W, Calls Try.prog 12 #[.int .i64 e, .int .i64 k, .int .i64 kc, .int .i64 s] W fun e' w' => e' = .returned (.bool false) ∧ Gr W w')) (AL : Hid (∀ W, Calls Try.prog 11 #[] W fun e w' => e = .returned (.bool true) ∧ Gr W w')) (w : World) :
    Calls Try.prog 3 #[.int .i64 e, .int .i64 k, .int .i64 kc, .int .i64 s, .agg #[.int .i64 fo, .int .i64 lo, .int .i64 ke, .int .i64 sc, .int .i64 mo, .bool iv]] w fun e' w' => e' = .returned (.bool true) ∧ Gr w w' := by
  go_enter Try.func3, Try.ntmps3
  go_wp2_with fail
  obtain ⟨u0, hu⟩ : ∃ uu, uu = w.alloc (.cells #[.int .i64 fo, .int .i64 lo, .int .i64 ke, .int .i64 sc, .int .i64 mo, .bool iv] 23) := ⟨_, rfl⟩
  have R0 : CellsAt u0 w.heap.size 23 #[.int .i64 fo, .int .i64 lo, .int .i64 ke, .int .i64 sc, .int .i64 mo, .bool iv] := by rw [hu]; exact CellsAt.new w 23 #[.int .i64 fo, .int .i64 lo, .int .i64 ke, .int .i64 sc, .int .i64 mo, .bool iv]
  have y0 : Gr w u0 := by rw [hu]; exact (Gr.refl w).alloc _ _
  rw [← hu]
  clear hu
  refine (HT.out _).mono ?_
  rintro e' w1 ⟨rfl, g1⟩
  have R1 := R0.gr g1
  have y1 := y0.trans g1
  have l1 := R1.lt
  clear R0 y0 g1
  have c0 := CellsAt.cell R1 0
  have c1 := CellsAt.cell R1 1
  have c2 := CellsAt.cell R1 2
  have c3 := CellsAt.cell R1 3
  have c4 := CellsAt.cell R1 4
  have c5 := CellsAt.cell R1 5
  simp only [List.getElem?_toArray, List.getElem?_cons_zero, List.getElem?_cons_succ] at c0 c1 c2 c3 c4 c5
  go_wp2_with fail
  clear c0 c1 c2 c3 c4 c5
  refine (HS.out _).mono ?_
  rintro e' w2 ⟨rfl, g2⟩
  have R2 := R1.gr g2
  have y2 := y1.trans g2
  have l2 := R2.lt
  clear R1 y1 g2 l1
  have c0 := CellsAt.cell R2 0
  have c1 := CellsAt.cell R2 1
  have c2 := CellsAt.cell R2 2
  have c3 := CellsAt.cell R2 3
  have c4 := CellsAt.cell R2 4
  have c5 := CellsAt.cell R2 5
  simp only [List.getElem?_toArray, List.getElem?_cons_zero, List.getElem?_cons_succ] at c0 c1 c2 c3 c4 c5
  go_wp2_with fail
  clear c0 c1 c2 c3 c4 c5
  refine (HC.out _).mono ?_
  rintro e' w3 ⟨rfl, g3⟩
  have R3 := R2.gr g3
  have y3 := y2.trans g3
  have l3 := R3.lt
  clear R2 y2 g3 l2
  have c0 := CellsAt.cell R3 0
  have c1 := CellsAt.cell R3 1
  have c2 := CellsAt.cell R3 2
  have c3 := CellsAt.cell R3 3
  have c4 := CellsAt.cell R3 4
  have c5 := CellsAt.cell R3 5
  simp only [List.getElem?_toArray, List.getElem?_cons_zero, List.getElem?_cons_succ] at c0 c1 c2 c3 c4 c5
  go_wp2_with fail
  clear c0 c1 c2 c3 c4 c5
  refine (HRS.out _).mono ?_
  rintro e' w4 ⟨rfl, g4⟩
  have R4 := R3.gr g4
  have y4 := y3.trans g4
  have l4 := R4.lt
  clear R3 y3 g4 l3
  go_wp2_with fail
  refine (AL.out _).mono ?_
  rintro e' w5 ⟨rfl, g5⟩
  have R5 := R4.gr g5
  have y5 := y4.trans g5
  have l5 := R5.lt
  clear R4 y4 g5 l4
  go_wp2_with fail
  refine (HM.out _).mono ?_
  rintro e' w6 ⟨rfl, g6⟩
  have R6 := R5.gr g6
  have y6 := y5.trans g6
  have l6 := R6.lt
  clear R5 y5 g6 l5
  go_wp2_with fail
  go_ret
  exact ⟨rfl, y6⟩


set_option maxHeartbeats 2000000 in
theorem budgetSteps_ny (e k kc s fo lo ke sc mo n : Int) (iv : Bool)
    (HT : Hid (∀ W, Calls Try.prog 7 #[.int .i64 e, .int .i64 k, .int .i64 kc, .int .i64 s] W fun e' w' => e' = .returned (.tuple #[.int .i64 n, .int .i64 0]) ∧ Gr W w')) (HS : Hid (∀ W, Calls Try.prog 8 #[.agg #[.int .i64 fo, .int .i64 lo, .int .i64 ke, .int .i64 sc, .int .i64 mo, .bool iv]] W fun e w' => e = .returned (.tuple #[.int .i64 0, .int .i64 4]) ∧ Gr W w')) (HC : Hid (∀ W, Calls Try.prog 9 #[.agg #[.int .i64 fo, .int .i64 lo, .int .i64 ke, .int .i64 sc, .int .i64 mo, .bool iv]] W fun e w' => e = .returned (.bool false) ∧ Gr W w'))
    (HM : Hid (∀ W, Calls Try.prog 12 #[.int .i64 e, .int .i64 k, .int .i64 kc, .int .i64 s] W fun e' w' => e' = .returned (.bool true) ∧ Gr W w')) (HRT : Hid (∀ W, Calls Try.prog 13 #[.int .i64 e, .int .i64 k, .int .i64 kc, .int .i64 s] W fun e' w' => e' = .returned (.int .i64 n) ∧ Gr W w')) (AL : Hid (∀ W, Calls Try.prog 11 #[] W fun e w' => e = .returned (.bool true) ∧ Gr W w')) (w : World) :
    Calls Try.prog 3 #[.int .i64 e, .int .i64 k, .int .i64 kc, .int .i64 s, .agg #[.int .i64 fo, .int .i64 lo, .int .i64 ke, .int .i64 sc, .int .i64 mo, .bool iv]] w fun e' w' => e' = .returned (.bool true) ∧ Gr w w' := by
  go_enter Try.func3, Try.ntmps3
  go_wp2_with fail
  obtain ⟨u0, hu⟩ : ∃ uu, uu = w.alloc (.cells #[.int .i64 fo, .int .i64 lo, .int .i64 ke, .int .i64 sc, .int .i64 mo, .bool iv] 23) := ⟨_, rfl⟩
  have R0 : CellsAt u0 w.heap.size 23 #[.int .i64 fo, .int .i64 lo, .int .i64 ke, .int .i64 sc, .int .i64 mo, .bool iv] := by rw [hu]; exact CellsAt.new w 23 #[.int .i64 fo, .int .i64 lo, .int .i64 ke, .int .i64 sc, .int .i64 mo, .bool iv]
  have y0 : Gr w u0 := by rw [hu]; exact (Gr.refl w).alloc _ _
  rw [← hu]
  clear hu
  refine (HT.out _).mono ?_
  rintro e' w1 ⟨rfl, g1⟩
  have R1 := R0.gr g1
  have y1 := y0.trans g1
  have l1 := R1.lt
  clear R0 y0 g1
  have c0 := CellsAt.cell R1 0
  have c1 := CellsAt.cell R1 1
  have c2 := CellsAt.cell R1 2
  have c3 := CellsAt.cell R1 3
  have c4 := CellsAt.cell R1 4
  have c5 := CellsAt.cell R1 5
  simp only [List.getElem?_toArray, List.getElem?_cons_zero, List.getElem?_cons_succ] at c0 c1 c2 c3 c4 c5
  go_wp2_with fail
  clear c0 c1 c2 c3 c4 c5
  refine (HS.out _).mono ?_
  rintro e' w2 ⟨rfl, g2⟩
  have R2 := R1.gr g2
  have y2 := y1.trans g2
  have l2 := R2.lt
  clear R1 y1 g2 l1
  have c0 := CellsAt.cell R2 0
  have c1 := CellsAt.cell R2 1
  have c2 := CellsAt.cell R2 2
  have c3 := CellsAt.cell R2 3
  have c4 := CellsAt.cell R2 4
  have c5 := CellsAt.cell R2 5
  simp only [List.getElem?_toArray, List.getElem?_cons_zero, List.getElem?_cons_succ] at c0 c1 c2 c3 c4 c5
  go_wp2_with fail
  clear c0 c1 c2 c3 c4 c5
  refine (HC.out _).mono ?_
  rintro e' w3 ⟨rfl, g3⟩
  have R3 := R2.gr g3
  have y3 := y2.trans g3
  have l3 := R3.lt
  clear R2 y2 g3 l2
  have c0 := CellsAt.cell R3 0
  have c1 := CellsAt.cell R3 1
  have c2 := CellsAt.cell R3 2
  have c3 := CellsAt.cell R3 3
  have c4 := CellsAt.cell R3 4
  have c5 := CellsAt.cell R3 5
  simp only [List.getElem?_toArray, List.getElem?_cons_zero, List.getElem?_cons_succ] at c0 c1 c2 c3 c4 c5
  go_wp2_with fail
  clear c0 c1 c2 c3 c4 c5
  refine (AL.out _).mono ?_
  rintro e' w4 ⟨rfl, g4⟩
  have R4 := R3.gr g4
  have y4 := y3.trans g4
  have l4 := R4.lt
  clear R3 y3 g4 l3
  go_wp2_with fail
  refine (HM.out _).mono ?_
  rintro e' w5 ⟨rfl, g5⟩
  have R5 := R4.gr g5
  have y5 := y4.trans g5
  have l5 := R5.lt
  clear R4 y4 g5 l4
  go_wp2_with fail
  refine (HRT.out _).mono ?_
  rintro e' w6 ⟨rfl, g6⟩
  have R6 := R5.gr g6
  have y6 := y5.trans g6
  have l6 := R6.lt
  clear R5 y5 g6 l5
  go_wp2_with fail
  go_ret
  exact ⟨rfl, y6⟩


set_option maxHeartbeats 2000000 in
theorem budgetSteps_nn (e k kc s fo lo ke sc mo : Int) (iv : Bool)
    (HT : Hid (∀ W, Calls Try.prog 7 #[.int .i64 e, .int .i64 k, .int .i64 kc, .int .i64 s] W fun e' w' => e' = .returned (.tuple #[.int .i64 0, .int .i64 1]) ∧ Gr W w')) (HS : Hid (∀ W, Calls Try.prog 8 #[.agg #[.int .i64 fo, .int .i64 lo, .int .i64 ke, .int .i64 sc, .int .i64 mo, .bool iv]] W fun e w' => e = .returned (.tuple #[.int .i64 0, .int .i64 4]) ∧ Gr W w')) (HC : Hid (∀ W, Calls Try.prog 9 #[.agg #[.int .i64 fo, .int .i64 lo, .int .i64 ke, .int .i64 sc, .int .i64 mo, .bool iv]] W fun e w' => e = .returned (.bool false) ∧ Gr W w'))
    (HM : Hid (∀ W, Calls Try.prog 12 #[.int .i64 e, .int .i64 k, .int .i64 kc, .int .i64 s] W fun e' w' => e' = .returned (.bool false) ∧ Gr W w')) (AL : Hid (∀ W, Calls Try.prog 11 #[] W fun e w' => e = .returned (.bool true) ∧ Gr W w')) (w : World) :
    Calls Try.prog 3 #[.int .i64 e, .int .i64 k, .int .i64 kc, .int .i64 s, .agg #[.int .i64 fo, .int .i64 lo, .int .i64 ke, .int .i64 sc, .int .i64 mo, .bool iv]] w fun e' w' => e' = .returned (.bool true) ∧ Gr w w' := by
  go_enter Try.func3, Try.ntmps3
  go_wp2_with fail
  obtain ⟨u0, hu⟩ : ∃ uu, uu = w.alloc (.cells #[.int .i64 fo, .int .i64 lo, .int .i64 ke, .int .i64 sc, .int .i64 mo, .bool iv] 23) := ⟨_, rfl⟩
  have R0 : CellsAt u0 w.heap.size 23 #[.int .i64 fo, .int .i64 lo, .int .i64 ke, .int .i64 sc, .int .i64 mo, .bool iv] := by rw [hu]; exact CellsAt.new w 23 #[.int .i64 fo, .int .i64 lo, .int .i64 ke, .int .i64 sc, .int .i64 mo, .bool iv]
  have y0 : Gr w u0 := by rw [hu]; exact (Gr.refl w).alloc _ _
  rw [← hu]
  clear hu
  refine (HT.out _).mono ?_
  rintro e' w1 ⟨rfl, g1⟩
  have R1 := R0.gr g1
  have y1 := y0.trans g1
  have l1 := R1.lt
  clear R0 y0 g1
  have c0 := CellsAt.cell R1 0
  have c1 := CellsAt.cell R1 1
  have c2 := CellsAt.cell R1 2
  have c3 := CellsAt.cell R1 3
  have c4 := CellsAt.cell R1 4
  have c5 := CellsAt.cell R1 5
  simp only [List.getElem?_toArray, List.getElem?_cons_zero, List.getElem?_cons_succ] at c0 c1 c2 c3 c4 c5
  go_wp2_with fail
  clear c0 c1 c2 c3 c4 c5
  refine (HS.out _).mono ?_
  rintro e' w2 ⟨rfl, g2⟩
  have R2 := R1.gr g2
  have y2 := y1.trans g2
  have l2 := R2.lt
  clear R1 y1 g2 l1
  have c0 := CellsAt.cell R2 0
  have c1 := CellsAt.cell R2 1
  have c2 := CellsAt.cell R2 2
  have c3 := CellsAt.cell R2 3
  have c4 := CellsAt.cell R2 4
  have c5 := CellsAt.cell R2 5
  simp only [List.getElem?_toArray, List.getElem?_cons_zero, List.getElem?_cons_succ] at c0 c1 c2 c3 c4 c5
  go_wp2_with fail
  clear c0 c1 c2 c3 c4 c5
  refine (HC.out _).mono ?_
  rintro e' w3 ⟨rfl, g3⟩
  have R3 := R2.gr g3
  have y3 := y2.trans g3
  have l3 := R3.lt
  clear R2 y2 g3 l2
  have c0 := CellsAt.cell R3 0
  have c1 := CellsAt.cell R3 1
  have c2 := CellsAt.cell R3 2
  have c3 := CellsAt.cell R3 3
  have c4 := CellsAt.cell R3 4
  have c5 := CellsAt.cell R3 5
  simp only [List.getElem?_toArray, List.getElem?_cons_zero, List.getElem?_cons_succ] at c0 c1 c2 c3 c4 c5
  go_wp2_with fail
  clear c0 c1 c2 c3 c4 c5
  refine (AL.out _).mono ?_
  rintro e' w4 ⟨rfl, g4⟩
  have R4 := R3.gr g4
  have y4 := y3.trans g4
  have l4 := R4.lt
  clear R3 y3 g4 l3
  go_wp2_with fail
  refine (HM.out _).mono ?_
  rintro e' w5 ⟨rfl, g5⟩
  have R5 := R4.gr g5
  have y5 := y4.trans g5
  have l5 := R5.lt
  clear R4 y4 g5 l4
  go_wp2_with fail
  go_ret
  exact ⟨rfl, y5⟩


end Go.Proofs.Ytmjghakodgihiaa
