/- PlanGoes: all cases. -/
import Derived.Test.YtomjldaonpjloaaLaw13
import Derived.Test.YtomjldaonpjloaaGrow
namespace Go.Proofs.Ytomjldaonpjloaa
open Go.ChangeShapes Go.WideShapes Go.ChangeAt Go.RowKit
set_option linter.unusedVariables false
set_option linter.unusedSimpArgs false
set_option maxRecDepth 100000


/-- The kernels' product. -/
def prodK (l : List Gi) : Int := l.foldl (fun h x => h * x.re) 1
theorem prodK_snoc (l : List Gi) (x : Gi) : prodK (l ++ [x]) = prodK l * x.re := by simp [prodK]
/-- Passes that go from blocks of 1 on. -/
def Goes (L : List Gi) : Prop := ∀ (j : Nat) x, L[j]? = some x → x.im = prodK (L.take j) ∧ (x.re = 2 ∨ x.re = 4) ∧ 1 ≤ x.im ∧ x.im ≤ 64
def goesB (L : List Gi) : Bool := (List.range L.length).all fun j => match L[j]? with | some x => decide (x.im = prodK (L.take j)) && ((decide (x.re = 2) || decide (x.re = 4)) && (decide (1 ≤ x.im) && decide (x.im ≤ 64))) | none => true
theorem goes_of {L : List Gi} (h : goesB L = true) : Goes L := by
  intro j x hx
  have hj : j < L.length := (List.getElem?_eq_some_iff.1 hx).1
  have := List.all_eq_true.1 h j (List.mem_range.2 hj)
  rw [hx] at this
  simpa [and_assoc] using this
theorem passL_goes (ke lo : Int) (k0 : 0 ≤ ke) (k1 : ke < 3) (h0 : 2 ≤ lo) (h1 : lo < 7) : Goes (passL ke lo) ∧ (ke ≠ 2 → prodK (passL ke lo) = 2 ^ lo.toNat) ∧ (ke = 2 → passL ke lo = []) := by
  have hk : ke = 0 ∨ ke = 1 ∨ ke = 2 := by omega
  have hl : lo = 2 ∨ lo = 3 ∨ lo = 4 ∨ lo = 5 ∨ lo = 6 := by omega
  refine ⟨goes_of ?_, fun hn => ?_, fun hn => ?_⟩
  · rcases hk with rfl | rfl | rfl <;> rcases hl with rfl | rfl | rfl | rfl | rfl <;> decide +kernel
  · rcases hk with rfl | rfl | rfl <;> rcases hl with rfl | rfl | rfl | rfl | rfl <;> first | decide +kernel | exact absurd rfl hn
  · subst hn
    unfold passL
    rw [if_pos rfl]


theorem passL_nums (ke lo : Int) (k0 : 0 ≤ ke) (k1 : ke < 3) (h0 : 2 ≤ lo) (h1 : lo < 7) : (passL ke lo).length ≤ 8 ∧ ∀ j, j ≤ (passL ke lo).length → 1 ≤ prodK ((passL ke lo).take j) ∧ prodK ((passL ke lo).take j) ≤ 64 := by
  have hk : ke = 0 ∨ ke = 1 ∨ ke = 2 := by omega
  have hl : lo = 2 ∨ lo = 3 ∨ lo = 4 ∨ lo = 5 ∨ lo = 6 := by omega
  have hlen : (passL ke lo).length ≤ 8 := by rcases hk with rfl | rfl | rfl <;> rcases hl with rfl | rfl | rfl | rfl | rfl <;> decide +kernel
  have hall : ((List.range 9).all fun j => decide (1 ≤ prodK ((passL ke lo).take j) ∧ prodK ((passL ke lo).take j) ≤ 64)) = true := by
    rcases hk with rfl | rfl | rfl <;> rcases hl with rfl | rfl | rfl | rfl | rfl <;> decide +kernel
  exact ⟨hlen, fun j hj => of_decide_eq_true (List.all_eq_true.1 hall j (List.mem_range.2 (by omega)))⟩


set_option maxHeartbeats 2000000 in
theorem planGoes_bad (fo lo ke sc mo sc2 mo2 : Int) (iv : Bool)
    (HP : Hid (∀ W, Calls Try.prog 8 #[.agg #[.int .i64 fo, .int .i64 lo, .int .i64 ke, .int .i64 sc, .int .i64 mo, .bool iv]] W fun e w' => e = .returned (.tuple #[.slice none 0 0, .int .i64 4]) ∧ Gr W w')) (AL : Hid (∀ W, Calls Try.prog 10 #[] W fun e w' => e = .returned (.bool true) ∧ Gr W w')) (w : World) :
    Calls Try.prog 5 #[.agg #[.int .i64 fo, .int .i64 lo, .int .i64 ke, .int .i64 sc, .int .i64 mo, .bool iv], .int .i64 sc2, .int .i64 mo2] w fun e w' => e = .returned (.bool true) ∧ Gr w w' := by
  go_enter Try.func5, Try.ntmps5
  go_wp2_with fail
  obtain ⟨u0, hu⟩ : ∃ uu, uu = w.alloc (.cells #[.int .i64 fo, .int .i64 lo, .int .i64 ke, .int .i64 sc, .int .i64 mo, .bool iv] 23) := ⟨_, rfl⟩
  have R0 : CellsAt u0 w.heap.size 23 #[.int .i64 fo, .int .i64 lo, .int .i64 ke, .int .i64 sc, .int .i64 mo, .bool iv] := by rw [hu]; exact CellsAt.new w 23 #[.int .i64 fo, .int .i64 lo, .int .i64 ke, .int .i64 sc, .int .i64 mo, .bool iv]
  have gu : Gr w u0 := by rw [hu]; exact (Gr.refl w).alloc _ _
  rw [← hu]
  clear hu
  refine (HP.out _).mono ?_
  rintro e w1 ⟨rfl, g1⟩
  go_wp2_with fail
  refine (AL.out _).mono ?_
  rintro e w2 ⟨rfl, g2⟩
  go_wp2_with fail
  go_ret
  exact ⟨rfl, (gu.trans g1).trans g2⟩


set_option maxHeartbeats 4000000 in
theorem planGoes_ok (fo lo ke sc mo sc2 mo2 n : Int) (iv : Bool) (L : List Gi) (hL : L.length ≤ 8) (hG : Hid (Goes L)) (hp : (∀ j, j ≤ L.length → 1 ≤ prodK (L.take j) ∧ prodK (L.take j) ≤ 64))
    (hn : wrap64 (2 ^ min lo.toNat 64) = n) (hlo : ¬ lo < 0) (hend : (prodK L == n) = true ∨ ((prodK L == n) = false ∧ (ke == 2) = true ∧ ((L.length : Int) == 0) = true))
    (hQ : Hid (∀ W, Calls Try.prog 8 #[.agg #[.int .i64 fo, .int .i64 lo, .int .i64 ke, .int .i64 sc2, .int .i64 mo2, .bool (!iv)]] W fun e w' => ∃ v, e = .returned (.tuple #[v, .int .i64 0]) ∧ CxsAt w' v L ∧ Gr W w') ∨ Hid (∀ W, Calls Try.prog 8 #[.agg #[.int .i64 fo, .int .i64 lo, .int .i64 ke, .int .i64 sc2, .int .i64 mo2, .bool (!iv)]] W fun e w' => e = .returned (.tuple #[.slice none 0 0, .int .i64 4]) ∧ Gr W w'))
    (HP : Hid (∀ W, Calls Try.prog 8 #[.agg #[.int .i64 fo, .int .i64 lo, .int .i64 ke, .int .i64 sc, .int .i64 mo, .bool iv]] W fun e w' => ∃ v, e = .returned (.tuple #[v, .int .i64 0]) ∧ CxsAt w' v L ∧ Gr W w')) (AL : Hid (∀ W, Calls Try.prog 10 #[] W fun e w' => e = .returned (.bool true) ∧ Gr W w')) (w : World) :
    Calls Try.prog 5 #[.agg #[.int .i64 fo, .int .i64 lo, .int .i64 ke, .int .i64 sc, .int .i64 mo, .bool iv], .int .i64 sc2, .int .i64 mo2] w fun e w' => e = .returned (.bool true) ∧ Gr w w' := by
  have HN := Lib.hid hn
  have HPP := Lib.hid hp
  clear hn hp
  go_enter Try.func5, Try.ntmps5
  go_wp2_with fail
  obtain ⟨u0, hu⟩ : ∃ uu, uu = w.alloc (.cells #[.int .i64 fo, .int .i64 lo, .int .i64 ke, .int .i64 sc, .int .i64 mo, .bool iv] 23) := ⟨_, rfl⟩
  have R0 : CellsAt u0 w.heap.size 23 #[.int .i64 fo, .int .i64 lo, .int .i64 ke, .int .i64 sc, .int .i64 mo, .bool iv] := by rw [hu]; exact CellsAt.new w 23 #[.int .i64 fo, .int .i64 lo, .int .i64 ke, .int .i64 sc, .int .i64 mo, .bool iv]
  have gu : Gr w u0 := by rw [hu]; exact (Gr.refl w).alloc _ _
  rw [← hu]
  clear hu
  refine (HP.out _).mono ?_
  rintro e w1 ⟨v, rfl, hv, g1⟩
  have R1 := R0.gr g1
  have y1 := gu.trans g1
  obtain ⟨p, cap, rfl⟩ := hv.len
  clear R0 gu g1 HP
  go_wp2_with fail
  go_loopw [9, 30] (fun hh i wr => ∃ j : Nat, j ≤ L.length ∧ i = .int .i64 j ∧ hh = .int .i64 (prodK (L.take j)) ∧ CellsAt wr w.heap.size 23 #[.int .i64 fo, .int .i64 lo, .int .i64 ke, .int .i64 sc, .int .i64 mo, .bool iv] ∧ CxsAt wr (.slice p L.length cap) L ∧ Gr w wr)
    (fun _ i _ => L.length - (intOf i).toNat)
  case atStart => exact ⟨0, by omega, rfl, rfl, R1, hv, y1⟩
  case round =>
    clear R1 hv y1
    obtain ⟨j, hj, rfl, rfl, hP, hv, hg⟩ := hrel
    by_cases hlt : j < L.length
    · obtain ⟨x, hx⟩ := get_of_lt hlt
      obtain ⟨x1, x2, x3, x4⟩ := hG.out j x hx
      have hnx := HPP.out (j + 1) hlt
      have hlI : (j : Int) < (L.length : Int) := by omega
      have hl64 : (L.length : Int) ≤ 8 := by omega
      rw [take_snoc hx, prodK_snoc] at hnx
      have HT : Hid (prodK (L.take (j + 1)) = prodK (L.take j) * x.re) := Lib.hid (by rw [take_snoc hx, prodK_snoc])
      rw [← x1] at hnx HT ⊢
      obtain ⟨b, o, cap', hsl, hln, hb, hc⟩ := hv.at (by intro e; rw [e] at hlt; simp at hlt)
      cases hsl
      obtain ⟨k1, k2⟩ := hc j x hx
      have hw : wrap64 (x.im * x.re) = x.im * x.re := IntWalk.wrap64_in _ ⟨by omega, by omega⟩
      clear hc hx x1
      obtain ⟨re, im⟩ := x
      simp only at *
      rcases x2 with rfl | rfl
      · go_wp2_with fail
        go_roundw
        case rel => exact ⟨j + 1, by omega, by go_num, by rw [HT.out], hP.alloc _, hv.gr ((Gr.refl wr).alloc _ _), hg.alloc _ _⟩
        case measure => simp [intOf]; omega
      · go_wp2_with fail
        go_roundw
        case rel => exact ⟨j + 1, by omega, by go_num, by rw [HT.out], hP.alloc _, hv.gr ((Gr.refl wr).alloc _ _), hg.alloc _ _⟩
        case measure => simp [intOf]; omega
    · obtain rfl : j = L.length := by omega
      have hlI : ¬ (L.length : Int) < (L.length : Int) := by omega
      have hn := HN.out
      rw [List.take_length]
      have l1 := hP.lt
      have c0 := hP.cell 0
      have c1 := hP.cell 1
      have c2 := hP.cell 2
      have c3 := hP.cell 3
      have c4 := hP.cell 4
      have c5 := hP.cell 5
      simp only [List.getElem?_toArray, List.getElem?_cons_zero, List.getElem?_cons_succ] at c0 c1 c2 c3 c4 c5
      go_wp2_with fail
      clear c0 c1 c2 c3 c4 c5 l1
      obtain ⟨u2, hu⟩ : ∃ uu, uu = wr.alloc (.cells #[.int .i64 fo, .int .i64 lo, .int .i64 ke, .int .i64 sc, .int .i64 mo, .bool iv] 23) := ⟨_, rfl⟩
      have Q2 : CellsAt u2 wr.heap.size 23 #[.int .i64 fo, .int .i64 lo, .int .i64 ke, .int .i64 sc, .int .i64 mo, .bool iv] := by rw [hu]; exact CellsAt.new wr 23 #[.int .i64 fo, .int .i64 lo, .int .i64 ke, .int .i64 sc, .int .i64 mo, .bool iv]
      have P2 : CellsAt u2 w.heap.size 23 #[.int .i64 fo, .int .i64 lo, .int .i64 ke, .int .i64 sc, .int .i64 mo, .bool iv] := by rw [hu]; exact hP.alloc _
      have y2 : Gr wr u2 := by rw [hu]; exact (Gr.refl wr).alloc _ _
      have hsz := hP.lt
      rw [← hu]
      clear hu
      obtain ⟨u3, hqp1⟩ : ∃ zz, zz = u2 := ⟨_, rfl⟩
      have Yp_p1 : CellsAt u3 (w.heap.size) 23 #[.int .i64 fo, .int .i64 lo, .int .i64 ke, .int .i64 sc, .int .i64 mo, .bool iv] := by rw [hqp1]; first | exact P2 | simpa using P2
      have Yq_p1 : CellsAt u3 (wr.heap.size) 23 #[.int .i64 fo, .int .i64 lo, .int .i64 ke, .int .i64 sc, .int .i64 mo, .bool iv] := by rw [hqp1]; first | exact Q2 | simpa using Q2
      have yp1 : Gr wr u3 := by rw [hqp1]; exact y2
      rw [← hqp1]
      clear hqp1
      have KS : ∀ W, GB (wr.heap.size) u3 W → (W.cell? ⟨w.heap.size, 0, none⟩ = some (.int .i64 fo) ∧ W.cell? ⟨w.heap.size, 1, none⟩ = some (.int .i64 lo) ∧ W.cell? ⟨w.heap.size, 2, none⟩ = some (.int .i64 ke) ∧ W.cell? ⟨w.heap.size, 3, none⟩ = some (.int .i64 sc) ∧ W.cell? ⟨w.heap.size, 4, none⟩ = some (.int .i64 mo) ∧ W.cell? ⟨w.heap.size, 5, none⟩ = some (.bool iv)) := fun W hG => ⟨(GB.cellsAt hG Yp_p1 (by omega)).cell 0, (GB.cellsAt hG Yp_p1 (by omega)).cell 1, (GB.cellsAt hG Yp_p1 (by omega)).cell 2, (GB.cellsAt hG Yp_p1 (by omega)).cell 3, (GB.cellsAt hG Yp_p1 (by omega)).cell 4, (GB.cellsAt hG Yp_p1 (by omega)).cell 5⟩
      have hclG := gb_closed (wr.heap.size) u3
      try simp only [List.append_eq, List.cons_append, List.nil_append]
      refine wp_region_grow (S := GB (wr.heap.size) u3) rfl (GB.drew (GB.refl _ _)) ?_
      refine wpG_take (i := 0) (v := ?_) hclG rfl (by kernel_rfl) (by kernel_rfl) (by kernel_rfl) (fun _ _ _ h => h) (by rfl) ?_ ?_
      rotate_left
      · (intro w' hSw; go_simp; try with_reducible rfl)
      try simp only [Act.put, List.setIfInBounds_toArray, List.set_cons_zero, List.set_cons_succ, List.getElem_toArray, List.getElem_cons_zero, List.getElem_cons_succ]
      refine wpG_take (i := 1) (v := ?_) hclG rfl (by kernel_rfl) (by kernel_rfl) (by kernel_rfl) (fun _ _ _ h => h) (by rfl) ?_ ?_
      rotate_left
      · (intro w' hSw; go_simp; try with_reducible rfl)
      try simp only [Act.put, List.setIfInBounds_toArray, List.set_cons_zero, List.set_cons_succ, List.getElem_toArray, List.getElem_cons_zero, List.getElem_cons_succ]
      refine wpG_take (i := 2) (v := ?_) hclG rfl (by kernel_rfl) (by kernel_rfl) (by kernel_rfl) (fun _ _ _ h => h) (by rfl) ?_ ?_
      rotate_left
      · (intro w' hSw; go_simp; try with_reducible rfl)
      try simp only [Act.put, List.setIfInBounds_toArray, List.set_cons_zero, List.set_cons_succ, List.getElem_toArray, List.getElem_cons_zero, List.getElem_cons_succ]
      refine wpG_take (i := 3) (v := ?_) hclG rfl (by kernel_rfl) (by kernel_rfl) (by kernel_rfl) (fun _ _ _ h => h) (by rfl) ?_ ?_
      rotate_left
      · (intro w' hSw; have hk := KS w' hSw; go_split_ands; go_simp; try with_reducible rfl)
      try simp only [Act.put, List.setIfInBounds_toArray, List.set_cons_zero, List.set_cons_succ, List.getElem_toArray, List.getElem_cons_zero, List.getElem_cons_succ]
      refine wpG_take (i := 4) (v := ?_) hclG rfl (by kernel_rfl) (by kernel_rfl) (by kernel_rfl) (fun _ _ _ h => h) (by rfl) ?_ ?_
      rotate_left
      · (intro w' hSw; go_simp; try with_reducible rfl)
      try simp only [Act.put, List.setIfInBounds_toArray, List.set_cons_zero, List.set_cons_succ, List.getElem_toArray, List.getElem_cons_zero, List.getElem_cons_succ]
      refine wpG_take (i := 5) (v := ?_) hclG rfl (by kernel_rfl) (by kernel_rfl) (by kernel_rfl) (fun _ _ _ h => h) (by rfl) ?_ ?_
      rotate_left
      · (intro w' hSw; go_simp; try with_reducible rfl)
      try simp only [Act.put, List.setIfInBounds_toArray, List.set_cons_zero, List.set_cons_succ, List.getElem_toArray, List.getElem_cons_zero, List.getElem_cons_succ]
      refine wpG_ready (rs := [6]) (by kernel_rfl) (by simp) (fun w1 g1 s1 => ?_)
      refine AllG.cons rfl (fun K hK => ?_) AllG.nil
      replace g1 := (Gr.drew (Gr.refl u3)).trans g1
      have Fp_1 := CellsAt.gr (Yp_p1) g1
      have lp_1 := CellsAt.lt (Fp_1)
      have Fq_1 := CellsAt.gr (Yq_p1) g1
      have lq_1 := CellsAt.lt (Fq_1)
      have z1 := (yp1).trans g1
      clear Yp_p1 Yq_p1 yp1 g1
      have mq0 := CellsAt.frozen (Fq_1) 0
      have cq0 := CellsAt.cell (Fq_1) 0
      simp only [List.getElem?_toArray, List.getElem?_cons_zero, List.getElem?_cons_succ] at cq0
      have mq1 := CellsAt.frozen (Fq_1) 1
      have cq1 := CellsAt.cell (Fq_1) 1
      simp only [List.getElem?_toArray, List.getElem?_cons_zero, List.getElem?_cons_succ] at cq1
      have mq2 := CellsAt.frozen (Fq_1) 2
      have cq2 := CellsAt.cell (Fq_1) 2
      simp only [List.getElem?_toArray, List.getElem?_cons_zero, List.getElem?_cons_succ] at cq2
      have mq3 := CellsAt.frozen (Fq_1) 3
      have cq3 := CellsAt.cell (Fq_1) 3
      simp only [List.getElem?_toArray, List.getElem?_cons_zero, List.getElem?_cons_succ] at cq3
      have mq4 := CellsAt.frozen (Fq_1) 4
      have cq4 := CellsAt.cell (Fq_1) 4
      simp only [List.getElem?_toArray, List.getElem?_cons_zero, List.getElem?_cons_succ] at cq4
      have mq5 := CellsAt.frozen (Fq_1) 5
      have cq5 := CellsAt.cell (Fq_1) 5
      simp only [List.getElem?_toArray, List.getElem?_cons_zero, List.getElem?_cons_succ] at cq5
      go_simp
      clear mq0 cq0 mq1 cq1 mq2 cq2 mq3 cq3 mq4 cq4 mq5 cq5
      refine hK.out _ _ ?_ ?_
      · exact (GB.set s1 _ _)
      clear hK K
      try simp only [Act.put, List.setIfInBounds_toArray, List.set_cons_zero, List.set_cons_succ, List.getElem_toArray, List.getElem_cons_zero, List.getElem_cons_succ]
      refine wpG_take (i := 7) (v := ?_) hclG rfl (by kernel_rfl) (by kernel_rfl) (by kernel_rfl) (fun _ _ _ h => h) (by rfl) ?_ ?_
      rotate_left
      · (intro w' hSw; go_simp; try with_reducible rfl)
      try simp only [Act.put, List.setIfInBounds_toArray, List.set_cons_zero, List.set_cons_succ, List.getElem_toArray, List.getElem_cons_zero, List.getElem_cons_succ]
      refine wpG_ready (rs := [8]) (by kernel_rfl) (by simp) (fun w2 g2 s2 => ?_)
      refine AllG.cons rfl (fun K hK => ?_) AllG.nil
      have Fp_2 := CellsAt.gr ((Fp_1).other (by omega) _ _) g2
      have lp_2 := CellsAt.lt (Fp_2)
      have Fq_2 : CellsAt w2 (wr.heap.size) 23 #[.int .i64 fo, .int .i64 lo, .int .i64 ke, .int .i64 sc2, .int .i64 mo, .bool iv] := CellsAt.gr (CellsAt.set (Fq_1) 3 (.int .i64 sc2)) g2
      have lq_2 := CellsAt.lt (Fq_2)
      have z2 := ((z1).setCell (by first | omega | (simp only; omega)) _).trans g2
      clear g2
      have mq0 := CellsAt.frozen (Fq_2) 0
      have cq0 := CellsAt.cell (Fq_2) 0
      simp only [List.getElem?_toArray, List.getElem?_cons_zero, List.getElem?_cons_succ] at cq0
      have mq1 := CellsAt.frozen (Fq_2) 1
      have cq1 := CellsAt.cell (Fq_2) 1
      simp only [List.getElem?_toArray, List.getElem?_cons_zero, List.getElem?_cons_succ] at cq1
      have mq2 := CellsAt.frozen (Fq_2) 2
      have cq2 := CellsAt.cell (Fq_2) 2
      simp only [List.getElem?_toArray, List.getElem?_cons_zero, List.getElem?_cons_succ] at cq2
      have mq3 := CellsAt.frozen (Fq_2) 3
      have cq3 := CellsAt.cell (Fq_2) 3
      simp only [List.getElem?_toArray, List.getElem?_cons_zero, List.getElem?_cons_succ] at cq3
      have mq4 := CellsAt.frozen (Fq_2) 4
      have cq4 := CellsAt.cell (Fq_2) 4
      simp only [List.getElem?_toArray, List.getElem?_cons_zero, List.getElem?_cons_succ] at cq4
      have mq5 := CellsAt.frozen (Fq_2) 5
      have cq5 := CellsAt.cell (Fq_2) 5
      simp only [List.getElem?_toArray, List.getElem?_cons_zero, List.getElem?_cons_succ] at cq5
      go_simp
      clear mq0 cq0 mq1 cq1 mq2 cq2 mq3 cq3 mq4 cq4 mq5 cq5
      refine hK.out _ _ ?_ ?_
      · exact (GB.set s2 _ _)
      clear hK K
      try simp only [Act.put, List.setIfInBounds_toArray, List.set_cons_zero, List.set_cons_succ, List.getElem_toArray, List.getElem_cons_zero, List.getElem_cons_succ]
      refine wpG_take (i := 9) (v := ?_) hclG rfl (by kernel_rfl) (by kernel_rfl) (by kernel_rfl) (fun _ _ _ h => h) (by rfl) ?_ ?_
      rotate_left
      · (intro w' hSw; go_simp; try with_reducible rfl)
      try simp only [Act.put, List.setIfInBounds_toArray, List.set_cons_zero, List.set_cons_succ, List.getElem_toArray, List.getElem_cons_zero, List.getElem_cons_succ]
      refine wpG_ready (rs := [10]) (by kernel_rfl) (by simp) (fun w3 g3 s3 => ?_)
      refine AllG.cons rfl (fun K hK => ?_) AllG.nil
      have Fp_3 := CellsAt.gr ((Fp_2).other (by omega) _ _) g3
      have lp_3 := CellsAt.lt (Fp_3)
      have Fq_3 : CellsAt w3 (wr.heap.size) 23 #[.int .i64 fo, .int .i64 lo, .int .i64 ke, .int .i64 sc2, .int .i64 mo2, .bool iv] := CellsAt.gr (CellsAt.set (Fq_2) 4 (.int .i64 mo2)) g3
      have lq_3 := CellsAt.lt (Fq_3)
      have z3 := ((z2).setCell (by first | omega | (simp only; omega)) _).trans g3
      clear g3
      have mq0 := CellsAt.frozen (Fq_3) 0
      have cq0 := CellsAt.cell (Fq_3) 0
      simp only [List.getElem?_toArray, List.getElem?_cons_zero, List.getElem?_cons_succ] at cq0
      have mq1 := CellsAt.frozen (Fq_3) 1
      have cq1 := CellsAt.cell (Fq_3) 1
      simp only [List.getElem?_toArray, List.getElem?_cons_zero, List.getElem?_cons_succ] at cq1
      have mq2 := CellsAt.frozen (Fq_3) 2
      have cq2 := CellsAt.cell (Fq_3) 2
      simp only [List.getElem?_toArray, List.getElem?_cons_zero, List.getElem?_cons_succ] at cq2
      have mq3 := CellsAt.frozen (Fq_3) 3
      have cq3 := CellsAt.cell (Fq_3) 3
      simp only [List.getElem?_toArray, List.getElem?_cons_zero, List.getElem?_cons_succ] at cq3
      have mq4 := CellsAt.frozen (Fq_3) 4
      have cq4 := CellsAt.cell (Fq_3) 4
      simp only [List.getElem?_toArray, List.getElem?_cons_zero, List.getElem?_cons_succ] at cq4
      have mq5 := CellsAt.frozen (Fq_3) 5
      have cq5 := CellsAt.cell (Fq_3) 5
      simp only [List.getElem?_toArray, List.getElem?_cons_zero, List.getElem?_cons_succ] at cq5
      go_simp
      clear mq0 cq0 mq1 cq1 mq2 cq2 mq3 cq3 mq4 cq4 mq5 cq5
      refine hK.out _ _ ?_ ?_
      · exact (GB.set s3 _ _)
      clear hK K
      try simp only [Act.put, List.setIfInBounds_toArray, List.set_cons_zero, List.set_cons_succ, List.getElem_toArray, List.getElem_cons_zero, List.getElem_cons_succ]
      refine wpG_done (by kernel_rfl) (fun w4 g4 => ?_) _
      have Fp_4 := CellsAt.gr ((Fp_3).other (by omega) _ _) g4
      have lp_4 := CellsAt.lt (Fp_4)
      have Fq_4 : CellsAt w4 (wr.heap.size) 23 #[.int .i64 fo, .int .i64 lo, .int .i64 ke, .int .i64 sc2, .int .i64 mo2, .bool (!iv)] := CellsAt.gr (CellsAt.set (Fq_3) 5 (.bool (!iv))) g4
      have lq_4 := CellsAt.lt (Fq_4)
      have z4 := ((z3).setCell (by first | omega | (simp only; omega)) _).trans g4
      clear g4
      clear hclG KS
      obtain ⟨u4, hqp2⟩ : ∃ zz, zz = w4 := ⟨_, rfl⟩
      have Yp_p2 : CellsAt u4 (w.heap.size) 23 #[.int .i64 fo, .int .i64 lo, .int .i64 ke, .int .i64 sc, .int .i64 mo, .bool iv] := by rw [hqp2]; first | exact Fp_4 | simpa using Fp_4
      have Yq_p2 : CellsAt u4 (wr.heap.size) 23 #[.int .i64 fo, .int .i64 lo, .int .i64 ke, .int .i64 sc2, .int .i64 mo2, .bool (!iv)] := by rw [hqp2]; first | exact Fq_4 | simpa using Fq_4
      have yp2 : Gr wr u4 := by rw [hqp2]; exact z4
      rw [← hqp2]
      clear hqp2
      have cq0 := CellsAt.cell (Yq_p2) 0
      have cq1 := CellsAt.cell (Yq_p2) 1
      have cq2 := CellsAt.cell (Yq_p2) 2
      have cq3 := CellsAt.cell (Yq_p2) 3
      have cq4 := CellsAt.cell (Yq_p2) 4
      have cq5 := CellsAt.cell (Yq_p2) 5
      simp only [List.getElem?_toArray, List.getElem?_cons_zero, List.getElem?_cons_succ] at cq0 cq1 cq2 cq3 cq4 cq5
      go_wp2_with fail
      clear cq0 cq1 cq2 cq3 cq4 cq5
      clear hn
      rcases hQ with HQ | HQ
      · skip
        refine (HQ.out _).mono ?_
        rintro e w5 ⟨v5, rfl, hv5, g5⟩
        have P5 := Yp_p2.gr g5
        have z5 := (yp2).trans g5
        have c0 := P5.cell 0
        have c1 := P5.cell 1
        have c2 := P5.cell 2
        have c3 := P5.cell 3
        have c4 := P5.cell 4
        have c5 := P5.cell 5
        simp only [List.getElem?_toArray, List.getElem?_cons_zero, List.getElem?_cons_succ] at c0 c1 c2 c3 c4 c5
        have l5 := P5.lt
        go_wp2_with fail
        clear c0 c1 c2 c3 c4 c5
        refine (AL.out _).mono ?_
        rintro e w6 ⟨rfl, g6⟩
        have P6 := P5.gr g6
        have z6 := z5.trans g6
        have hv6 := hv.gr z6
        have hv7 := hv5.gr g6
        have c0 := P6.cell 0
        have c1 := P6.cell 1
        have c2 := P6.cell 2
        have c3 := P6.cell 3
        have c4 := P6.cell 4
        have c5 := P6.cell 5
        simp only [List.getElem?_toArray, List.getElem?_cons_zero, List.getElem?_cons_succ] at c0 c1 c2 c3 c4 c5
        have l6 := P6.lt
        have hn := HN.out
        rcases hend with h1 | ⟨h1, h2, h3⟩
        · go_wp2_with fail
          refine (equalPass_c _ _ L w6 hv6 hv7).mono ?_
          rintro e w7 ⟨rfl, g7⟩
          go_wp2_with fail
          go_ret
          exact ⟨rfl, hg.trans (z6.trans g7)⟩
        · go_wp2_with fail
          refine (equalPass_c _ _ L w6 hv6 hv7).mono ?_
          rintro e w7 ⟨rfl, g7⟩
          go_wp2_with fail
          go_ret
          exact ⟨rfl, hg.trans (z6.trans g7)⟩
      · skip
        refine (HQ.out _).mono ?_
        rintro e w5 ⟨rfl, g5⟩
        have P5 := Yp_p2.gr g5
        have z5 := (yp2).trans g5
        have c0 := P5.cell 0
        have c1 := P5.cell 1
        have c2 := P5.cell 2
        have c3 := P5.cell 3
        have c4 := P5.cell 4
        have c5 := P5.cell 5
        simp only [List.getElem?_toArray, List.getElem?_cons_zero, List.getElem?_cons_succ] at c0 c1 c2 c3 c4 c5
        have l5 := P5.lt
        go_wp2_with fail
        clear c0 c1 c2 c3 c4 c5
        refine (AL.out _).mono ?_
        rintro e w6 ⟨rfl, g6⟩
        have P6 := P5.gr g6
        have z6 := z5.trans g6
        have hv6 := hv.gr z6
        have c0 := P6.cell 0
        have c1 := P6.cell 1
        have c2 := P6.cell 2
        have c3 := P6.cell 3
        have c4 := P6.cell 4
        have c5 := P6.cell 5
        simp only [List.getElem?_toArray, List.getElem?_cons_zero, List.getElem?_cons_succ] at c0 c1 c2 c3 c4 c5
        have l6 := P6.lt
        have hn := HN.out
        rcases hend with h1 | ⟨h1, h2, h3⟩
        · go_wp2_with fail
          go_ret
          exact ⟨rfl, hg.trans z6⟩
        · go_wp2_with fail
          go_ret
          exact ⟨rfl, hg.trans z6⟩
end Go.Proofs.Ytomjldaonpjloaa
