/- PlanEvery, from what Every answers, and the reference. -/
import Derived.Test.YtomjldaonpjloaaLaw13
import Derived.Test.YtomjldaonpjloaaPlanCode5
import Derived.Test.YtomjldaonpjloaaGrow
namespace Go.Proofs.Ytomjldaonpjloaa
open Go.ChangeShapes Go.WideShapes Go.ChangeAt Go.RowKit
set_option linter.unusedVariables false
set_option linter.unusedSimpArgs false
set_option maxRecDepth 100000


/-- How often a plan is among some. -/
def cntP (p : PlanV) (l : List PlanV) : Nat := (l.map fun q => if q = p then 1 else 0).sum
theorem cntP_snoc (p q : PlanV) (l : List PlanV) : cntP p (l ++ [q]) = cntP p l + if q = p then 1 else 0 := by simp [cntP]
theorem cntP_le (p : PlanV) (l : List PlanV) : cntP p l ≤ l.length := by
  induction l with
  | nil => exact Nat.le_refl _
  | cons q l ih =>
    unfold cntP at *
    simp only [List.map_cons, List.sum_cons, List.length_cons]
    split <;> omega


set_option maxHeartbeats 4000000 in
theorem planEvery_of (fo lo ke sc mo er : Int) (iv : Bool) (L : List PlanV) (hl : L.length ≤ 1000) (hne : L ≠ []) (hok : Hid (∀ (j : Nat) q, L[j]? = some q → okP q = true))
    (HE : Hid (∀ W, Calls Try.prog 14 #[] W fun e w' => ∃ v, e = .returned v ∧ PlansAt w' v L ∧ Gr W w')) (HR : Hid (∀ W, Calls Try.prog 15 #[] W fun e w' => ∃ v, e = .returned v ∧ PlansAt w' v L ∧ Gr W w')) (HC : Hid (∀ W, Calls Try.prog 11 #[.agg #[.int .i64 fo, .int .i64 lo, .int .i64 ke, .int .i64 sc, .int .i64 mo, .bool iv]] W fun e w' => e = .returned (.int .i64 er) ∧ Gr W w'))
    (hend : (cntP ⟨fo, lo, ke, sc, mo, iv⟩ L = 1 ∧ er = 0) ∨ (cntP ⟨fo, lo, ke, sc, mo, iv⟩ L = 0 ∧ er = 4)) (AL : Hid (∀ W, Calls Try.prog 10 #[] W fun e w' => e = .returned (.bool true) ∧ Gr W w')) (w : World) :
    Calls Try.prog 4 #[.agg #[.int .i64 fo, .int .i64 lo, .int .i64 ke, .int .i64 sc, .int .i64 mo, .bool iv]] w fun e w' => e = .returned (.bool true) ∧ Gr w w' := by
  obtain ⟨p, hp⟩ : ∃ p : PlanV, p = ⟨fo, lo, ke, sc, mo, iv⟩ := ⟨_, rfl⟩
  have HEND := Lib.hid hend
  clear hend
  rw [← hp] at HEND
  have HP := Lib.hid hp
  clear hp
  go_enter Try.func4, Try.ntmps4
  go_wp2_with fail
  obtain ⟨u0, hu⟩ : ∃ uu, uu = w.alloc (.cells #[.int .i64 fo, .int .i64 lo, .int .i64 ke, .int .i64 sc, .int .i64 mo, .bool iv] 23) := ⟨_, rfl⟩
  have R0 : CellsAt u0 w.heap.size 23 #[.int .i64 fo, .int .i64 lo, .int .i64 ke, .int .i64 sc, .int .i64 mo, .bool iv] := by rw [hu]; exact CellsAt.new w 23 #[.int .i64 fo, .int .i64 lo, .int .i64 ke, .int .i64 sc, .int .i64 mo, .bool iv]
  have gu : Gr w u0 := by rw [hu]; exact (Gr.refl w).alloc _ _
  rw [← hu]
  clear hu
  refine (HE.out _).mono ?_
  rintro e w1 ⟨v1, rfl, hv1, g1⟩
  go_wp2_with fail
  refine (HR.out _).mono ?_
  rintro e w2 ⟨v2, rfl, hv2, g2⟩
  obtain ⟨b1, o1, cap1, rfl, hl1, _⟩ := hv1.at hne
  obtain ⟨b2, o2, cap2, rfl, _⟩ := hv2.at hne
  go_wp2_with fail
  refine (AL.out _).mono ?_
  rintro e w3 ⟨rfl, g3⟩
  have R3 := ((R0.gr g1).gr g2).gr g3
  have V1 := (hv1.gr g2).gr g3
  have V2 := hv2.gr g3
  have z3 := ((gu.trans g1).trans g2).trans g3
  clear R0 gu g1 g2 g3 hv1 hv2 hl1 HE HR
  go_wp2_with fail
  go_loopw [5, 21] (fun t i wr => ∃ j : Nat, j ≤ L.length ∧ i = .int .i64 j ∧ t = .int .i64 (cntP p (L.take j) : Nat) ∧ CellsAt wr w.heap.size 23 #[.int .i64 fo, .int .i64 lo, .int .i64 ke, .int .i64 sc, .int .i64 mo, .bool iv] ∧ PlansAt wr (.slice (some ⟨b1, o1, none⟩) L.length cap1) L ∧ PlansAt wr (.slice (some ⟨b2, o2, none⟩) L.length cap2) L ∧ Gr w wr)
    (fun _ i _ => L.length - (intOf i).toNat)
  case atStart => exact ⟨0, by omega, rfl, rfl, R3, V1, V2, z3⟩
  case round =>
    clear R3 V1 V2 z3
    obtain ⟨j, hj, rfl, rfl, hP, V1, V2, hg⟩ := hrel
    by_cases hlt : j < L.length
    · obtain ⟨q, hq⟩ := get_of_lt hlt
      have HQ := Lib.hid (fun W => check_c q.fo q.lo q.ke q.sc q.mo q.iv 0 (by rw [if_pos (show okF q.fo q.lo q.ke q.sc q.mo = true from hok.out j q hq)]) W)
      have HT := Lib.hid (show cntP p (L.take (j + 1)) = cntP p (L.take j) + if q = p then 1 else 0 by rw [take_snoc hq, cntP_snoc])
      have hcl : cntP p (L.take j) ≤ 1000 := Nat.le_trans (cntP_le p _) (by simp; omega)
      obtain ⟨b, o, cap', hsl, hln, hb1, _, hc1⟩ := V1.at hne
      cases hsl
      obtain ⟨b, o, cap', hsl, _, hb2, _, hc2⟩ := V2.at hne
      cases hsl
      obtain ⟨k0, k1, k2, k3, k4, k5⟩ := hc1 j q hq
      have hk := hc2 j q hq
      have hlI : (j : Int) < (L.length : Int) := by omega
      clear hc1 hc2 hq
      generalize cntP p (L.take j) = t at *
      go_wp2_with fail
      clear k0 k1 k2 k3 k4 k5
      obtain ⟨u2, hu⟩ : ∃ uu, uu = wr.alloc (.cells #[.int .i64 (q).fo, .int .i64 (q).lo, .int .i64 (q).ke, .int .i64 (q).sc, .int .i64 (q).mo, .bool (q).iv] 23) := ⟨_, rfl⟩
      have X2 : CellsAt u2 wr.heap.size 23 #[.int .i64 (q).fo, .int .i64 (q).lo, .int .i64 (q).ke, .int .i64 (q).sc, .int .i64 (q).mo, .bool (q).iv] := by rw [hu]; exact CellsAt.new wr 23 #[.int .i64 (q).fo, .int .i64 (q).lo, .int .i64 (q).ke, .int .i64 (q).sc, .int .i64 (q).mo, .bool (q).iv]
      have y2 : Gr wr u2 := by rw [hu]; exact (Gr.refl wr).alloc _ _
      rw [← hu]
      clear hu
      have KS : ∀ W, Gr u2 W → (W.cell? ⟨wr.heap.size, 0, none⟩ = some (.int .i64 q.fo) ∧ W.cell? ⟨wr.heap.size, 1, none⟩ = some (.int .i64 q.lo) ∧ W.cell? ⟨wr.heap.size, 2, none⟩ = some (.int .i64 q.ke) ∧ W.cell? ⟨wr.heap.size, 3, none⟩ = some (.int .i64 q.sc) ∧ W.cell? ⟨wr.heap.size, 4, none⟩ = some (.int .i64 q.mo) ∧ W.cell? ⟨wr.heap.size, 5, none⟩ = some (.bool q.iv) ∧ W.cell? ⟨b2, o2 + j * 6, none⟩ = some (.int .i64 q.fo) ∧ W.cell? ⟨b2, o2 + j * 6 + 1, none⟩ = some (.int .i64 q.lo) ∧ W.cell? ⟨b2, o2 + j * 6 + 2, none⟩ = some (.int .i64 q.ke) ∧ W.cell? ⟨b2, o2 + j * 6 + 3, none⟩ = some (.int .i64 q.sc) ∧ W.cell? ⟨b2, o2 + j * 6 + 4, none⟩ = some (.int .i64 q.mo) ∧ W.cell? ⟨b2, o2 + j * 6 + 5, none⟩ = some (.bool q.iv)) := fun W hG =>
        have hgr := y2.trans hG
        ⟨(X2.gr hG).cell 0, (X2.gr hG).cell 1, (X2.gr hG).cell 2, (X2.gr hG).cell 3, (X2.gr hG).cell 4, (X2.gr hG).cell 5, (hgr.cell (p := ⟨b2, _, none⟩) hb2).trans hk.1, (hgr.cell (p := ⟨b2, _, none⟩) hb2).trans hk.2.1, (hgr.cell (p := ⟨b2, _, none⟩) hb2).trans hk.2.2.1, (hgr.cell (p := ⟨b2, _, none⟩) hb2).trans hk.2.2.2.1, (hgr.cell (p := ⟨b2, _, none⟩) hb2).trans hk.2.2.2.2.1, (hgr.cell (p := ⟨b2, _, none⟩) hb2).trans hk.2.2.2.2.2⟩
      have hclG := gr_closed u2
      try simp only [List.append_eq, List.cons_append, List.nil_append]
      refine wp_region_grow (S := Gr u2) rfl (Gr.drew (Gr.refl _)) ?_
      refine wpG_take (i := 0) (v := ?_) hclG rfl (by kernel_rfl) (by kernel_rfl) (by kernel_rfl) (fun _ _ _ h => h) (by rfl) ?_ ?_
      rotate_left
      · (intro w' hSw; have hk := KS w' hSw; go_split_ands; go_simp; try with_reducible rfl)
      try simp only [Act.put, List.setIfInBounds_toArray, List.set_cons_zero, List.set_cons_succ, List.getElem_toArray, List.getElem_cons_zero, List.getElem_cons_succ]
      refine wpG_take (i := 1) (v := ?_) hclG rfl (by kernel_rfl) (by kernel_rfl) (by kernel_rfl) (fun _ _ _ h => h) (by rfl) ?_ ?_
      rotate_left
      · (intro w' hSw; go_simp; try with_reducible rfl)
      try simp only [Act.put, List.setIfInBounds_toArray, List.set_cons_zero, List.set_cons_succ, List.getElem_toArray, List.getElem_cons_zero, List.getElem_cons_succ]
      refine wpG_take (i := 2) (v := ?_) hclG rfl (by kernel_rfl) (by kernel_rfl) (by kernel_rfl) (fun _ _ _ h => h) (by rfl) ?_ ?_
      rotate_left
      · (intro w' hSw; go_simp; try with_reducible rfl)
      try simp only [Act.put, List.setIfInBounds_toArray, List.set_cons_zero, List.set_cons_succ, List.getElem_toArray, List.getElem_cons_zero, List.getElem_cons_succ]
      refine wpG_take (i := 3) (v := ?_) hclG rfl (by kernel_rfl) (by kernel_rfl) (by kernel_rfl) (fun _ _ _ h => h) (by rfl) ?_ ?_
      rotate_left
      · (intro w' hSw; go_simp; try with_reducible rfl)
      try simp only [Act.put, List.setIfInBounds_toArray, List.set_cons_zero, List.set_cons_succ, List.getElem_toArray, List.getElem_cons_zero, List.getElem_cons_succ]
      refine wpG_take (i := 4) (v := ?_) hclG rfl (by kernel_rfl) (by kernel_rfl) (by kernel_rfl) (fun _ _ _ h => h) (by rfl) ?_ ?_
      rotate_left
      · (intro w' hSw; have hk := KS w' hSw; go_split_ands; go_simp; try with_reducible rfl)
      try simp only [Act.put, List.setIfInBounds_toArray, List.set_cons_zero, List.set_cons_succ, List.getElem_toArray, List.getElem_cons_zero, List.getElem_cons_succ]
      refine wpG_take (i := 5) (v := ?_) hclG rfl (by kernel_rfl) (by kernel_rfl) (by kernel_rfl) (fun _ _ _ h => h) (by rfl) ?_ ?_
      rotate_left
      · (intro w' hSw; go_simp; try with_reducible rfl)
      try simp only [Act.put, List.setIfInBounds_toArray, List.set_cons_zero, List.set_cons_succ, List.getElem_toArray, List.getElem_cons_zero, List.getElem_cons_succ]
      refine wpG_take (i := 6) (v := ?_) hclG rfl (by kernel_rfl) (by kernel_rfl) (by kernel_rfl) (fun _ _ _ h => h) (by rfl) ?_ ?_
      rotate_left
      · (intro w' hSw; go_simp; try with_reducible rfl)
      try simp only [Act.put, List.setIfInBounds_toArray, List.set_cons_zero, List.set_cons_succ, List.getElem_toArray, List.getElem_cons_zero, List.getElem_cons_succ]
      refine wpG_take (i := 7) (v := ?_) hclG rfl (by kernel_rfl) (by kernel_rfl) (by kernel_rfl) (fun _ _ _ h => h) (by rfl) ?_ ?_
      rotate_left
      · (intro w' hSw; have hk := KS w' hSw; go_split_ands; go_simp; try with_reducible rfl)
      try simp only [Act.put, List.setIfInBounds_toArray, List.set_cons_zero, List.set_cons_succ, List.getElem_toArray, List.getElem_cons_zero, List.getElem_cons_succ]
      refine wpG_call (i := 8) hclG rfl (by kernel_rfl) (by kernel_rfl) (by kernel_rfl) (fun _ _ _ h => h) (fun W hS => HQ.out W) (by rfl) ?_ ?_
      · (intro w' hSw; go_simp; try with_reducible rfl)
      try simp only [Act.put, List.setIfInBounds_toArray, List.set_cons_zero, List.set_cons_succ, List.getElem_toArray, List.getElem_cons_zero, List.getElem_cons_succ]
      refine wpG_take (i := 9) (v := ?_) hclG rfl (by kernel_rfl) (by kernel_rfl) (by kernel_rfl) (fun _ _ _ h => h) (by rfl) ?_ ?_
      rotate_left
      · (intro w' hSw; go_simp; try with_reducible rfl)
      try simp only [Act.put, List.setIfInBounds_toArray, List.set_cons_zero, List.set_cons_succ, List.getElem_toArray, List.getElem_cons_zero, List.getElem_cons_succ]
      refine wpG_take (i := 10) (v := ?_) hclG rfl (by kernel_rfl) (by kernel_rfl) (by kernel_rfl) (fun _ _ _ h => h) (by rfl) ?_ ?_
      rotate_left
      · (intro w' hSw; go_simp; try with_reducible rfl)
      try simp only [Act.put, List.setIfInBounds_toArray, List.set_cons_zero, List.set_cons_succ, List.getElem_toArray, List.getElem_cons_zero, List.getElem_cons_succ]
      refine wpG_done (by kernel_rfl) (fun w4 g4 => ?_) _
      replace g4 := (Gr.drew (Gr.refl u2)).trans g4
      clear hclG KS
      have X4 := X2.gr g4
      have y4 := y2.trans g4
      have P4 := hP.gr y4
      have l4 := P4.lt
      have l5 := X4.lt
      have c0 := X4.cell 0
      have c1 := X4.cell 1
      have c2 := X4.cell 2
      have c3 := X4.cell 3
      have c4 := X4.cell 4
      have c5 := X4.cell 5
      simp only [List.getElem?_toArray, List.getElem?_cons_zero, List.getElem?_cons_succ] at c0 c1 c2 c3 c4 c5
      have d0 := P4.cell 0
      have d1 := P4.cell 1
      have d2 := P4.cell 2
      have d3 := P4.cell 3
      have d4 := P4.cell 4
      have d5 := P4.cell 5
      simp only [List.getElem?_toArray, List.getElem?_cons_zero, List.getElem?_cons_succ] at d0 d1 d2 d3 d4 d5

      by_cases h0 : q.fo = fo
      · rw [h0] at c0
        by_cases h1 : q.lo = lo
        · rw [h1] at c1
          by_cases h2 : q.ke = ke
          · rw [h2] at c2
            by_cases h3 : q.sc = sc
            · rw [h3] at c3
              by_cases h4 : q.mo = mo
              · rw [h4] at c4
                by_cases h5 : q.iv = iv
                · rw [h5] at c5
                  have hqp : q = p := by rw [HP.out, ← h0, ← h1, ← h2, ← h3, ← h4, ← h5]
                  go_wp2_with fail
                  go_roundw
                  case rel => exact ⟨j + 1, by omega, by go_num, by rw [HT.out, if_pos hqp]; go_num, P4, V1.gr y4, V2.gr y4, hg.trans y4⟩
                  case measure => simp [intOf]; omega
                · have hb : (q.iv == iv) = false := by simp [h5]
                  have hqp : ¬ q = p := by rw [HP.out]; intro e; apply h5; rw [e]
                  go_wp2_with fail
                  go_roundw
                  case rel => exact ⟨j + 1, by omega, by go_num, by rw [HT.out, if_neg hqp]; rfl, P4, V1.gr y4, V2.gr y4, hg.trans y4⟩
                  case measure => simp [intOf]; omega
              · have hb : (q.mo == mo) = false := by simp [h4]
                have hqp : ¬ q = p := by rw [HP.out]; intro e; apply h4; rw [e]
                go_wp2_with fail
                go_roundw
                case rel => exact ⟨j + 1, by omega, by go_num, by rw [HT.out, if_neg hqp]; rfl, P4, V1.gr y4, V2.gr y4, hg.trans y4⟩
                case measure => simp [intOf]; omega
            · have hb : (q.sc == sc) = false := by simp [h3]
              have hqp : ¬ q = p := by rw [HP.out]; intro e; apply h3; rw [e]
              go_wp2_with fail
              go_roundw
              case rel => exact ⟨j + 1, by omega, by go_num, by rw [HT.out, if_neg hqp]; rfl, P4, V1.gr y4, V2.gr y4, hg.trans y4⟩
              case measure => simp [intOf]; omega
          · have hb : (q.ke == ke) = false := by simp [h2]
            have hqp : ¬ q = p := by rw [HP.out]; intro e; apply h2; rw [e]
            go_wp2_with fail
            go_roundw
            case rel => exact ⟨j + 1, by omega, by go_num, by rw [HT.out, if_neg hqp]; rfl, P4, V1.gr y4, V2.gr y4, hg.trans y4⟩
            case measure => simp [intOf]; omega
        · have hb : (q.lo == lo) = false := by simp [h1]
          have hqp : ¬ q = p := by rw [HP.out]; intro e; apply h1; rw [e]
          go_wp2_with fail
          go_roundw
          case rel => exact ⟨j + 1, by omega, by go_num, by rw [HT.out, if_neg hqp]; rfl, P4, V1.gr y4, V2.gr y4, hg.trans y4⟩
          case measure => simp [intOf]; omega
      · have hb : (q.fo == fo) = false := by simp [h0]
        have hqp : ¬ q = p := by rw [HP.out]; intro e; apply h0; rw [e]
        go_wp2_with fail
        go_roundw
        case rel => exact ⟨j + 1, by omega, by go_num, by rw [HT.out, if_neg hqp]; rfl, P4, V1.gr y4, V2.gr y4, hg.trans y4⟩
        case measure => simp [intOf]; omega
    · obtain rfl : j = L.length := by omega
      rw [List.take_length]
      have hlI : ¬ (L.length : Int) < (L.length : Int) := by omega
      have d0 := hP.cell 0
      have d1 := hP.cell 1
      have d2 := hP.cell 2
      have d3 := hP.cell 3
      have d4 := hP.cell 4
      have d5 := hP.cell 5
      simp only [List.getElem?_toArray, List.getElem?_cons_zero, List.getElem?_cons_succ] at d0 d1 d2 d3 d4 d5
      have l1 := hP.lt
      rcases HEND.out with ⟨e1, e2⟩ | ⟨e1, e2⟩
      all_goals
        rw [e1]
        subst e2
        go_wp2_with fail
        refine (HC.out _).mono ?_
        rintro e w4 ⟨rfl, g4⟩
        go_wp2_with fail
        go_ret
        exact ⟨rfl, hg.trans g4⟩
end Go.Proofs.Ytomjldaonpjloaa
