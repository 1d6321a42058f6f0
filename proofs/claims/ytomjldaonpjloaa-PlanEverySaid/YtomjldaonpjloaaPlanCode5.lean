/- The reference's plans of all scales, modes and ways, and all plans. -/
import Derived.Test.YtomjldaonpjloaaPlanCode3
namespace Go.Proofs.Ytomjldaonpjloaa
open Go.ChangeShapes Go.WideShapes Go.ChangeAt Go.RowKit
set_option linter.unusedVariables false
set_option linter.unusedSimpArgs false
set_option maxRecDepth 100000


theorem rowSet {W : World} {base B : Nat} {e : TypeId} {size : Nat} {v : Value} {n : Nat} {xs : List Value} (h : W.ownsRow base e size v n xs) (hB : B < base) (j : Nat) (u : Value) : (W.setCell ⟨B, j, none⟩ u).ownsRow base e size v n xs :=
  h.kept (row := some B) ⟨rfl, rfl, rfl, (KeepsWalks.setCell W _ u).size, fun k _ hk => Below.heap_setCell _ _ _ k (fun e => hk (by rw [e]))⟩ (.inr (fun e => by have := (h.lt _ e).1; omega))
theorem news_six_set (W : World) (p : Addr) (v a b c d e f : Value) (t : TypeId) : ∀ j u, [a, b, c, d, e, f][j]? = some u → ((W.setCell p v).alloc (.cells #[a, b, c, d, e, f] t)).cell? ((⟨W.heap.size, 0, none⟩ : Addr).add j) = some u := by
  have h := news_six (W.setCell p v) a b c d e f t
  rw [show (W.setCell p v).heap.size = W.heap.size by simp] at h
  exact h
theorem addr_add (b o j : Nat) : (⟨b, o, none⟩ : Addr).add j = ⟨b, o + j, none⟩ := by unfold Addr.add; split <;> simp_all
theorem pcells_one (xs : List PlanV) : ∀ u ∈ pcells xs, u.oneCell' = true := by
  induction xs with
  | nil => intro u hu; cases hu
  | cons a xs ih =>
    intro u hu
    simp only [pcells, List.mem_append] at hu
    rcases hu with hu | hu
    · simp only [pcell, List.mem_cons, List.not_mem_nil, or_false] at hu
      rcases hu with rfl | rfl | rfl | rfl | rfl | rfl <;> rfl
    · exact ih u hu


set_option maxHeartbeats 4000000 in
theorem scales_c (fo lo ke s0 m0 : Int) (iv : Bool) (w : World) :
    Calls Try.prog 31 #[.agg #[.int .i64 fo, .int .i64 lo, .int .i64 ke, .int .i64 s0, .int .i64 m0, .bool iv]] w fun e w' => ∃ v, e = .returned v ∧ PlansAt w' v (scalesL fo lo ke) ∧ Gr w w' := by
  obtain ⟨i0, hi, hz0, hz1, hz2⟩ := info_parts info_plan
  go_enter Try.func31, Try.ntmps31
  go_wp2_with fail
  obtain ⟨u1, hu⟩ : ∃ uu, uu = (w.alloc (.cells #[.int .i64 fo, .int .i64 lo, .int .i64 ke, .int .i64 s0, .int .i64 m0, .bool iv] 23)).alloc (.cells #[] 23) := ⟨_, rfl⟩
  have R1 : CellsAt u1 w.heap.size 23 #[.int .i64 fo, .int .i64 lo, .int .i64 ke, .int .i64 s0, .int .i64 m0, .bool iv] := by rw [hu]; exact (CellsAt.new w 23 _).alloc _
  have hrow0 : u1.ownsRow (w.heap.size + 1) 23 6 (.slice (some ⟨w.heap.size + 1, 0, none⟩) 0 0) 0 [] := by
    rw [hu]
    have := World.ownsRow_made (e := 23) (size := 6) (base := w.heap.size + 1) (w.alloc (.cells #[.int .i64 fo, .int .i64 lo, .int .i64 ke, .int .i64 s0, .int .i64 m0, .bool iv] 23)) #[] 0 (by simp) (by unfold maxLen; omega) (by simp)
    simpa only [World.size_alloc] using this
  have gu1 : Gr w u1 := by rw [hu]; exact ((Gr.refl w).alloc _ _).alloc _ _
  rw [← hu]
  clear hu
  go_wp2_with fail
  go_loopw [3, 4] (fun v i wr => ∃ (k q : Nat) (a b : Int) (c : Bool), k ≤ 3 ∧ q ≤ 6 * k ∧ i = .int .i64 k ∧ CellsAt wr w.heap.size 23 #[.int .i64 fo, .int .i64 lo, .int .i64 ke, .int .i64 a, .int .i64 b, .bool c] ∧ wr.ownsRow (w.heap.size + 1) 23 6 v q (pcells (upS fo lo ke k)) ∧ Gr w wr)
    (fun _ i _ => 10 - (intOf i).toNat)
  case atStart => exact ⟨0, 0, s0, m0, iv, by omega, by omega, rfl, R1, hrow0, gu1⟩
  case round =>
    clear R1 hrow0 gu1
    obtain ⟨k, q, a, b, c, hk, hq, rfl, hP, hrow, hg⟩ := hrel
    by_cases hlt : k < 3
    · have hI : (k : Int) ≤ 2 := by omega
      go_wp2_with fail
      go_loopw [3, 5] (fun v i wr => ∃ (j r : Nat) (a b : Int) (c : Bool), j ≤ 3 ∧ r ≤ 6 * k + 2 * j ∧ i = .int .i64 j ∧ CellsAt wr w.heap.size 23 #[.int .i64 fo, .int .i64 lo, .int .i64 ke, .int .i64 a, .int .i64 b, .bool c] ∧ wr.ownsRow (w.heap.size + 1) 23 6 v r (pcells (upS fo lo ke k ++ upM fo lo ke k j)) ∧ Gr w wr)
        (fun _ i _ => 10 - (intOf i).toNat)
      case atStart => exact ⟨0, q, a, b, c, by omega, by omega, rfl, hP, by rw [show upM fo lo ke k 0 = [] from rfl, List.append_nil]; exact hrow, hg⟩
      case round =>
        clear hP hrow hg hq
        obtain ⟨j, r, a, b, c, hj, hr, rfl, hP, hrow, hg⟩ := hrel
        by_cases hjl : j < 3
        · have hJ : (j : Int) ≤ 2 := by omega
          have hbs : w.heap.size + 1 ≤ wr.heap.size := by have := hP.lt; omega
          have c0 := CellsAt.cell hP 0
          have c1 := CellsAt.cell hP 1
          have c2 := CellsAt.cell hP 2
          have c3 := CellsAt.cell hP 3
          have c4 := CellsAt.cell hP 4
          have c5 := CellsAt.cell hP 5
          simp only [List.getElem?_toArray, List.getElem?_cons_zero, List.getElem?_cons_succ] at c0 c1 c2 c3 c4 c5
          have m3 := CellsAt.frozen hP 3
          have m4 := CellsAt.frozen hP 4
          have m5 := CellsAt.frozen hP 5
          go_wp2_with fail
          clear c0 c1 c2 c3 c4 c5 m3 m4 m5
          obtain ⟨u2, hu⟩ : ∃ uu, uu = ((wr.setCell ⟨w.heap.size, 3, none⟩ (.int .i64 (k : Int))).setCell ⟨w.heap.size, 4, none⟩ (.int .i64 (j : Int))).setCell ⟨w.heap.size, 5, none⟩ (.bool false) := ⟨_, rfl⟩
          have P1 : CellsAt u2 w.heap.size 23 #[.int .i64 fo, .int .i64 lo, .int .i64 ke, .int .i64 (k : Int), .int .i64 (j : Int), .bool false] := by rw [hu]; exact ((hP.set 3 (.int .i64 (k : Int))).set 4 (.int .i64 (j : Int))).set 5 (.bool false)
          have row1 : u2.ownsRow (w.heap.size + 1) 23 6 u3 r (pcells (upS fo lo ke k ++ upM fo lo ke k j)) := by rw [hu]; exact rowSet (rowSet (rowSet hrow (by omega) _ _) (by omega) _ _) (by omega) _ _
          have g1 : Gr w u2 := by rw [hu]; exact ((hg.setCell (Nat.le_refl _) _).setCell (Nat.le_refl _) _).setCell (Nat.le_refl _) _
          rw [← hu]
          clear hu hP hrow hg
          have HC := Lib.hid (refCheck_c fo lo ke k j false _ rfl)
          have HU := Lib.hid (upM_succ fo lo ke k j)
          unfold oneM at HU
          generalize hok : okF fo lo ke k j = bo at *
          refine (HC.out _).mono ?_
          rintro e w2 ⟨rfl, g2⟩
          have P2 := P1.gr g2
          have row2 := ownsRow_gr row1 g2
          have z2 := g1.trans g2
          have l2 := P2.lt
          clear P1 row1 g1 g2 HC
          cases bo
          · skip
            go_wp2_with fail
            go_roundw
            case rel => exact ⟨j + 1, r, _, _, _, by omega, by omega, by go_num, P2, by rw [HU.out]; simpa using row2, z2⟩
            case measure => simp [intOf]; omega
          · skip
            have c0 := CellsAt.cell P2 0
            have c1 := CellsAt.cell P2 1
            have c2 := CellsAt.cell P2 2
            have c3 := CellsAt.cell P2 3
            have c4 := CellsAt.cell P2 4
            have c5 := CellsAt.cell P2 5
            simp only [List.getElem?_toArray, List.getElem?_cons_zero, List.getElem?_cons_succ] at c0 c1 c2 c3 c4 c5
            go_wp2_with (first
              | (at_builtin; refine wpList_append_own_at _ rfl (.tmp 22) (.tmp 24) 33 rfl (w.heap.size + 1) 23 i0 _ 6 48 Try.underlying33 hi hz0 hz1 hz2 rfl (by decide) _ _ _ rfl (row2.alloc _) ⟨_, 0, none⟩ 1 1 [.int .i64 fo, .int .i64 lo, .int .i64 ke, .int .i64 (k : Int), .int .i64 (j : Int), .bool false] rfl rfl (news_six _ _ _ _ _ _ _ _) (by simp [Value.oneCell']) (by unfold maxLen; omega) (by omega) (by first | omega | (simp; omega)) ?_; intro v1 W1 hown1 hgrow1 _ _; have P3 := (P2.alloc _).grown hgrow1 (fun e => by have := (row2.lt _ e.symm).1; omega); have z3 := (z2.allocO _).grown hgrow1 (fun k e => by have := (row2.lt k e).1; omega); clear c0 c1 c2 c3 c4 c5; have c0 := CellsAt.cell P3 0; have c1 := CellsAt.cell P3 1; have c2 := CellsAt.cell P3 2; have c3 := CellsAt.cell P3 3; have c4 := CellsAt.cell P3 4; have c5 := CellsAt.cell P3 5; have m5 := CellsAt.frozen P3 5; simp only [List.getElem?_toArray, List.getElem?_cons_zero, List.getElem?_cons_succ] at c0 c1 c2 c3 c4 c5; have l3 := P3.lt; have row4 := rowSet hown1 (Nat.lt_succ_self w.heap.size) 5 (.bool true))
              | (at_builtin; refine wpList_append_own_at _ rfl (.tmp 27) (.tmp 29) 33 rfl (w.heap.size + 1) 23 i0 _ 6 48 Try.underlying33 hi hz0 hz1 hz2 rfl (by decide) _ _ _ rfl (row4.alloc _) ⟨_, 0, none⟩ 1 1 [.int .i64 fo, .int .i64 lo, .int .i64 ke, .int .i64 (k : Int), .int .i64 (j : Int), .bool true] rfl rfl (news_six_set _ _ _ _ _ _ _ _ _ _) (by simp [Value.oneCell']) (by unfold maxLen; omega) (by omega) (by first | omega | (simp; omega)) ?_; intro v2 W2 hown2 hgrow2 _ _))
            have P4 : CellsAt (W1.setCell ⟨w.heap.size, 5, none⟩ (.bool true)) w.heap.size 23 #[.int .i64 fo, .int .i64 lo, .int .i64 ke, .int .i64 (k : Int), .int .i64 (j : Int), .bool true] := P3.set 5 (.bool true)
            have P5 := (P4.alloc _).grown hgrow2 (fun e => by have := (row4.lt _ e.symm).1; omega)
            have z5 := ((z3.setCell (a := ⟨w.heap.size, 5, none⟩) (Nat.le_refl _) (.bool true)).allocO _).grown hgrow2 (fun k e => by have := (row4.lt k e).1; omega)
            go_roundw
            case rel =>
              refine ⟨j + 1, r + 1 + 1, _, _, _, by omega, by omega, by go_num, P5, ?_, z5⟩
              rw [HU.out, if_pos trivial, ← List.append_assoc, pcells_app]
              rw [List.append_assoc] at hown2
              exact hown2
            case measure => simp [intOf]; omega
        · obtain rfl : j = 3 := by omega
          go_wp2_with fail
          go_roundw
          case rel =>
            first
              | exact ⟨k + 1, r, a, b, c, by omega, by omega, by go_num, hP, by rw [upS_succ]; exact hrow, hg⟩
              | ((repeat apply Exists.intro); refine ⟨?_, rfl⟩; exact ⟨k + 1, r, a, b, c, by omega, by omega, by go_num, hP, by rw [upS_succ]; exact hrow, hg⟩)
          case measure => simp [intOf]; omega
    · obtain rfl : k = 3 := by omega
      go_wp2_with fail
      go_ret
      exact ⟨_, rfl, PlansAt.of_row hrow, hg⟩


set_option maxHeartbeats 4000000 in
theorem refEvery_c (w : World) :
    Calls Try.prog 15 #[] w fun e w' => ∃ v, e = .returned v ∧ PlansAt w' v (upF 2) ∧ Gr w w' := by
  obtain ⟨i0, hi, hz0, hz1, hz2⟩ := info_parts info_plan
  go_enter Try.func15, Try.ntmps15
  go_wp2_with fail
  obtain ⟨u1, hu⟩ : ∃ uu, uu = w.alloc (.cells #[] 23) := ⟨_, rfl⟩
  have hrow0 : u1.ownsRow w.heap.size 23 6 (.slice (some ⟨w.heap.size, 0, none⟩) 0 0) 0 [] := by
    rw [hu]
    exact World.ownsRow_made (e := 23) (size := 6) (base := w.heap.size) w #[] 0 (Nat.le_refl _) (by unfold maxLen; omega) (by simp)
  have gu1 : Gr w u1 := by rw [hu]; exact (Gr.refl w).alloc _ _
  try rw [← hu]
  clear hu
  go_loopw [1, 2] (fun v i wr => ∃ (a q : Nat), a ≤ 2 ∧ q ≤ 300 * a ∧ i = .int .i64 a ∧ wr.ownsRow w.heap.size 23 6 v q (pcells (upF a)) ∧ Gr w wr)
    (fun _ i _ => 10 - (intOf i).toNat)
  case atStart => exact ⟨0, 0, by omega, by omega, rfl, hrow0, gu1⟩
  case round =>
    clear hrow0 gu1
    obtain ⟨a, q, ha, hq, rfl, hrow, hg⟩ := hrel
    by_cases hal : a < 2
    · have hI : (a : Int) ≤ 1 := by omega
      go_wp2_with fail
      go_loopw [1, 3] (fun v i wr => ∃ (x q : Nat), x ≤ 5 ∧ q ≤ 300 * a + 60 * x ∧ i = .int .i64 ((2 + x : Nat) : Int) ∧ wr.ownsRow w.heap.size 23 6 v q (pcells (upF a ++ upL a x)) ∧ Gr w wr)
        (fun _ i _ => 10 - (intOf i).toNat)
      case atStart => exact ⟨0, q, by omega, by omega, rfl, by rw [show upL a 0 = [] from rfl, List.append_nil]; exact hrow, hg⟩
      case round =>
        clear hrow hg hq
        obtain ⟨x, q, hx, hq, rfl, hrow, hg⟩ := hrel
        by_cases hxl : x < 5
        · obtain ⟨l, hl⟩ : ∃ l : Nat, 2 + x = l := ⟨_, rfl⟩
          have HUL := Lib.hid (upL_succ a x)
          rw [hl] at HUL ⊢
          have hJ : (l : Int) ≤ 6 := by omega
          go_wp2_with fail
          go_loopw [1, 4] (fun v i wr => ∃ (k q : Nat), k ≤ 3 ∧ q ≤ 300 * a + 60 * x + 18 * k ∧ i = .int .i64 k ∧ wr.ownsRow w.heap.size 23 6 v q (pcells (upF a ++ upL a x ++ upK a l k)) ∧ Gr w wr)
            (fun _ i _ => 10 - (intOf i).toNat)
          case atStart => exact ⟨0, q, by omega, by omega, rfl, by rw [show upK a l 0 = [] from rfl, List.append_nil]; exact hrow, hg⟩
          case round =>
            clear hrow hg hq
            obtain ⟨k, q, hk, hq, rfl, hrow, hg⟩ := hrel
            by_cases hkl : k < 3
            · have hK : (k : Int) ≤ 2 := by omega
              have HS := Lib.hid (scales_c a l k 0 0 false)
              have HUK := Lib.hid (upK_succ a l k)
              have hlen := scalesL_len a l k (by omega) (by omega) (by omega) (by omega) (by omega) (by omega)
              generalize scalesL a l k = L at *
              go_wp2_with fail
              refine (HS.out _).mono ?_
              rintro e w2 ⟨v2, rfl, hv2, g2⟩
              obtain ⟨b, o, cap, rfl, hl63, hb, hcf, _⟩ := hv2.at (by intro e; rw [e] at hlen; simp at hlen)
              have row2 := ownsRow_gr hrow g2
              have z2 := hg.trans g2
              have hsz := z2.size
              clear hrow hg g2 HS
              go_wp2_with (at_builtin; refine wpList_append_own_at _ rfl (.tmp 18) (.tmp 23) 33 rfl (w.heap.size) 23 i0 _ 6 48 Try.underlying33 hi hz0 hz1 hz2 rfl (by decide) _ _ _ rfl row2 ⟨b, o, none⟩ _ _ (pcells L) rfl (by rw [pcells_len]) (fun j u hu => by rw [addr_add]; exact hcf j u hu) (pcells_one L) (by unfold maxLen; omega) (by omega) (by first | omega | (simp; omega)) ?_; intro v1 W1 hown1 hgrow1 _ _)
              have z3 := z2.grown hgrow1 (fun k e => (row2.lt k e).1)
              go_roundw
              case rel =>
                refine ⟨k + 1, q + L.length, by omega, by omega, by go_num, ?_, z3⟩
                rw [HUK.out, ← List.append_assoc, pcells_app]
                exact hown1
              case measure => simp [intOf]; omega
            · obtain rfl : k = 3 := by omega
              go_wp2_with fail
              go_roundw
              case rel =>
                first
                  | exact ⟨x + 1, q, by omega, by omega, by rw [← hl]; go_num, by rw [HUL.out, ← List.append_assoc]; exact hrow, hg⟩
                  | ((repeat apply Exists.intro); refine ⟨?_, rfl⟩; exact ⟨x + 1, q, by omega, by omega, by rw [← hl]; go_num, by rw [HUL.out, ← List.append_assoc]; exact hrow, hg⟩)
              case measure => simp [intOf]; omega
        · obtain rfl : x = 5 := by omega
          go_wp2_with fail
          go_roundw
          case rel =>
            first
              | exact ⟨a + 1, q, by omega, by omega, by go_num, by rw [upF_succ]; exact hrow, hg⟩
              | ((repeat apply Exists.intro); refine ⟨?_, rfl⟩; exact ⟨a + 1, q, by omega, by omega, by go_num, by rw [upF_succ]; exact hrow, hg⟩)
          case measure => simp [intOf]; omega
    · obtain rfl : a = 2 := by omega
      go_wp2_with fail
      go_ret
      exact ⟨_, rfl, PlansAt.of_row hrow, hg⟩


end Go.Proofs.Ytomjldaonpjloaa
