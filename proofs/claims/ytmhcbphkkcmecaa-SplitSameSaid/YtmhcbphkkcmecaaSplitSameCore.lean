/- SplitSame, from what package split's Run answers. -/
import Derived.Test.YtmhcbphkkcmecaaLaw12
import Derived.Test.YtmhcbphkkcmecaaMax4
namespace Go.Proofs.Ytmhcbphkkcmecaa
open Go.ChangeShapes Go.WideShapes Go.ChangeAt Go.RowKit
set_option linter.unusedVariables false
set_option linter.unusedSimpArgs false
set_option maxRecDepth 100000

/-- A number times n is near to another. -/
structure NearN (n : Nat) (x c : Int) : Prop where
  out : ∃ p d : Int, IntKind.i64.wrap (x * (n : Int)) = p ∧ IntKind.i64.wrap (p - c) = d ∧ -(2 * (n : Int)) ≤ d ∧ d ≤ 2 * (n : Int)
theorem near_of (n : Nat) (x c : Int) (hn : n ≤ 64) (hc : -16384 ≤ c ∧ c ≤ 16384) (h : absI (x * (n : Int) - c) ≤ 2 * (n : Int)) : NearN n x c := by
  have h1 := absI_le.1 h
  obtain ⟨p, hp⟩ : ∃ p, p = x * (n : Int) := ⟨_, rfl⟩
  rw [← hp] at h1
  exact ⟨p, p - c, by rw [← hp]; exact IntWalk.i64_in _ ⟨by omega, by omega⟩, IntWalk.i64_in _ ⟨by omega, by omega⟩, by omega, by omega⟩


set_option maxHeartbeats 8000000 in
theorem splitSame_of (x0 y0 a1 a2 a3 r r5 r6 lg t t2 f u u3 mo : Int) (inv : Bool) (g : Gi) (n : Nat) (X Y : List Gi) (e1 : a1.tmod 5 = r) (e2 : wrap64 (r + 5) = r5) (e3 : r5.tmod 5 = r6) (e4 : wrap64 (r6 + 2) = lg) (f1 : a2.tmod 2 = t) (f2 : wrap64 (t + 2) = t2) (f3 : t2.tmod 2 = f)
    (g1 : a3.tmod 3 = u) (g2 : wrap64 (u + 3) = u3) (g3 : u3.tmod 3 = mo) (hx : x0.tmod 16384 = g.re) (hy : y0.tmod 16384 = g.im) (hn : IntKind.i64.wrap (2 ^ min lg.toNat 64) = (n : Int)) (hl0 : 0 ≤ lg) (hn1 : 4 ≤ n) (hn2 : n ≤ 64)
    (HX : Hid (∀ p c W, CxsAt W (.slice p n c) ((List.range n).map (fun _ => g)) → Calls Try.prog 27 #[.slice p n c, .int .i64 f, .int .i64 mo, .bool inv] W fun e w' => ∃ v, e = .returned (.tuple #[v, .int .i64 0]) ∧ CxsAt w' v X ∧ Gr W w'))
    (HY : Hid (∀ p c W, CxsAt W (.slice p n c) ((List.range n).map (fun i => if i = 0 then g else ⟨0, 0⟩)) → Calls Try.prog 27 #[.slice p n c, .int .i64 f, .int .i64 mo, .bool inv] W fun e w' => ∃ v, e = .returned (.tuple #[v, .int .i64 0]) ∧ CxsAt w' v Y ∧ Gr W w'))
    (hXl : X.length = n) (hYl : Y.length = n) (hX0 : X.getD 0 ⟨0, 0⟩ = g) (HX1 : Hid (∀ i, i < n → 0 < i → X.getD i ⟨0, 0⟩ = ⟨0, 0⟩)) (HYN : Hid (∀ i, i < n → NearN n (Y.getD i ⟨0, 0⟩).re g.re ∧ NearN n (Y.getD i ⟨0, 0⟩).im g.im))
    (AL : Hid (∀ W, Calls Try.prog 24 #[] W fun e w' => e = .returned (.bool true) ∧ Gr W w')) (w : World) :
    Calls Try.prog 8 #[.agg #[.int .i64 x0, .int .i64 y0], .int .i64 a1, .int .i64 a2, .int .i64 a3, .bool inv] w fun e w' => e = .returned (.bool true) ∧ Gr w w' := by
  have HMK := run_make_cx n (by omega)
  have HN := Lib.hid (And.intro hn1 (And.intro hn2 (And.intro hXl (And.intro hYl hX0))))
  clear hn1 hn2 hXl hYl hX0
  go_enter Try.func8, Try.ntmps8
  go_wp2_with fail
  obtain ⟨u0, hU⟩ : ∃ uu, uu = w.alloc (.cells #[.int .i64 g.re, .int .i64 g.im] 23) := ⟨_, rfl⟩
  have R0 : CellsAt u0 w.heap.size 23 #[.int .i64 g.re, .int .i64 g.im] := by rw [hU]; exact CellsAt.new w _ _
  have gu : Gr w u0 := by rw [hU]; exact (Gr.refl w).alloc _ _
  rw [← hU]
  clear hU e1 e2 e3 e4 f1 f2 f3 g1 g2 g3 hx hy hn hl0
  go_cut [12, 13] from 45 to 48 (fun p1 p2 wx => ∃ B1 B2 : Nat, p1 = .slice (some ⟨B1, 0, none⟩) n n ∧ p2 = .slice (some ⟨B2, 0, none⟩) n n ∧ B1 ≠ B2 ∧ u0.heap.size ≤ B1 ∧ u0.heap.size ≤ B2 ∧ RowAt wx B1 23 n (fun _ => (⟨0, 0⟩ : Gi)) ∧ RowAt wx B2 23 n (fun _ => (⟨0, 0⟩ : Gi)) ∧ Gr u0 wx)
  case first =>
    have hclG := gr_closed u0
    try simp only [List.append_eq, List.cons_append, List.nil_append]
    refine wp_region_grow (S := Gr u0) rfl (Gr.drew (Gr.refl _)) ?_
    refine wpG_take (i := 0) (v := ?_) hclG rfl (by kernel_rfl) (by kernel_rfl) (by kernel_rfl) (fun _ _ _ h => h) (by rfl) ?_ ?_
    rotate_left
    · (intro w' hSw; go_simp; try with_reducible rfl)
    try simp only [Act.put, List.setIfInBounds_toArray, List.set_cons_zero, List.set_cons_succ, List.getElem_toArray, List.getElem_cons_zero, List.getElem_cons_succ]
    refine wpG_take (i := 2) (v := ?_) hclG rfl (by kernel_rfl) (by kernel_rfl) (by kernel_rfl) (fun _ _ _ h => h) (by rfl) ?_ ?_
    rotate_left
    · (intro w' hSw; go_simp; try with_reducible rfl)
    try simp only [Act.put, List.setIfInBounds_toArray, List.set_cons_zero, List.set_cons_succ, List.getElem_toArray, List.getElem_cons_zero, List.getElem_cons_succ]
    refine wpG_ready (rs := [1, 3]) (by kernel_rfl) (by simp) (fun w1 g1 s1 => ?_)
    replace g1 := (Gr.drew (Gr.refl u0)).trans g1
    have hz1 := g1.size
    have M1 := RowAt.made w1 n
    refine AllG.cons rfl (fun K hK => ?_) (AllG.cons rfl (fun K hK => ?_) AllG.nil)
    · skip
      go_simp
      refine hK.out _ _ ?_ ?_
      · exact s1.alloc _ _
      clear hK K
      try simp only [Act.put, List.setIfInBounds_toArray, List.set_cons_zero, List.set_cons_succ, List.getElem_toArray, List.getElem_cons_zero, List.getElem_cons_succ]
      refine wpG_take (i := 4) (v := ?_) hclG rfl (by kernel_rfl) (by kernel_rfl) (by kernel_rfl) (fun _ _ _ h => h) (by rfl) ?_ ?_
      rotate_left
      · (intro w' hSw; go_simp; try with_reducible rfl)
      try simp only [Act.put, List.setIfInBounds_toArray, List.set_cons_zero, List.set_cons_succ, List.getElem_toArray, List.getElem_cons_zero, List.getElem_cons_succ]
      refine wpG_ready (rs := [3]) (by kernel_rfl) (by simp) (fun w2 g2 s2 => ?_)
      refine AllG.cons rfl (fun K hK => ?_) AllG.nil
      have M2 := RowAt.made w2 n
      have M3 := M1.gr g2
      have l3 := M3.lt
      go_simp
      have M4 := M3.alloc (.cells (madeCells #[.int .i64 0, .int .i64 0] (n * 2)) 23)
      refine hK.out _ _ ?_ ?_
      · exact s2.alloc _ _
      clear hK K
      try simp only [Act.put, List.setIfInBounds_toArray, List.set_cons_zero, List.set_cons_succ, List.getElem_toArray, List.getElem_cons_zero, List.getElem_cons_succ]
      refine wpG_take (i := 5) (v := ?_) hclG rfl (by kernel_rfl) (by kernel_rfl) (by kernel_rfl) (fun _ _ _ h => h) (by rfl) ?_ ?_
      rotate_left
      · (intro w' hSw; go_simp; try with_reducible rfl)
      try simp only [Act.put, List.setIfInBounds_toArray, List.set_cons_zero, List.set_cons_succ, List.getElem_toArray, List.getElem_cons_zero, List.getElem_cons_succ]
      refine wpG_done (by kernel_rfl) (fun w3 g3 => ?_) _
      go_wp2_with fail
      go_meet
      case rel => exact ⟨_, _, rfl, rfl, by omega, hz1, by omega, M4.gr g3, M2.gr g3, (s2.alloc _ _).trans g3⟩
    · skip
      go_simp
      refine hK.out _ _ ?_ ?_
      · exact s1.alloc _ _
      clear hK K
      try simp only [Act.put, List.setIfInBounds_toArray, List.set_cons_zero, List.set_cons_succ, List.getElem_toArray, List.getElem_cons_zero, List.getElem_cons_succ]
      refine wpG_ready (rs := [1]) (by kernel_rfl) (by simp) (fun w2 g2 s2 => ?_)
      refine AllG.cons rfl (fun K hK => ?_) AllG.nil
      have M2 := RowAt.made w2 n
      have M3 := M1.gr g2
      have l3 := M3.lt
      go_simp
      have M4 := M3.alloc (.cells (madeCells #[.int .i64 0, .int .i64 0] (n * 2)) 23)
      refine hK.out _ _ ?_ ?_
      · exact s2.alloc _ _
      clear hK K
      try simp only [Act.put, List.setIfInBounds_toArray, List.set_cons_zero, List.set_cons_succ, List.getElem_toArray, List.getElem_cons_zero, List.getElem_cons_succ]
      refine wpG_take (i := 4) (v := ?_) hclG rfl (by kernel_rfl) (by kernel_rfl) (by kernel_rfl) (fun _ _ _ h => h) (by rfl) ?_ ?_
      rotate_left
      · (intro w' hSw; go_simp; try with_reducible rfl)
      try simp only [Act.put, List.setIfInBounds_toArray, List.set_cons_zero, List.set_cons_succ, List.getElem_toArray, List.getElem_cons_zero, List.getElem_cons_succ]
      refine wpG_take (i := 5) (v := ?_) hclG rfl (by kernel_rfl) (by kernel_rfl) (by kernel_rfl) (fun _ _ _ h => h) (by rfl) ?_ ?_
      rotate_left
      · (intro w' hSw; go_simp; try with_reducible rfl)
      try simp only [Act.put, List.setIfInBounds_toArray, List.set_cons_zero, List.set_cons_succ, List.getElem_toArray, List.getElem_cons_zero, List.getElem_cons_succ]
      refine wpG_done (by kernel_rfl) (fun w3 g3 => ?_) _
      go_wp2_with fail
      go_meet
      case rel => exact ⟨_, _, rfl, rfl, by omega, by omega, hz1, M2.gr g3, M4.gr g3, (s2.alloc _ _).trans g3⟩
  case rest =>
    obtain ⟨B1, B2, rfl, rfl, hne, hB1, hB2, Y1, Y2, hG⟩ := hcut
    have hw0 := gu.size
    have R1 := R0.gr hG
    have z1 := gu.trans hG
    have hA : w.heap.size < u0.heap.size := R0.lt
    clear R0 gu hG HMK
    obtain ⟨hn1, hn2, _⟩ := HN.out
    go_wp2_with fail
    go_loopw [51] (fun i wr => ∃ k : Nat, k ≤ n ∧ i = .int .i64 k ∧ CellsAt wr w.heap.size 23 #[.int .i64 g.re, .int .i64 g.im] ∧ RowAt wr B1 23 n (upto (fun _ => g) (fun _ => (⟨0, 0⟩ : Gi)) k) ∧ RowAt wr B2 23 n (fun _ => (⟨0, 0⟩ : Gi)) ∧ Gr w wr) (fun i _ => n - (intOf i).toNat)
    case atStart => exact ⟨0, by omega, rfl, R1, Y1.eq (fun i _ => (upto_none (fun _ => g) (fun _ => (⟨0, 0⟩ : Gi)) i).symm), Y2, z1⟩
    case round =>
      clear R1 Y1 Y2 z1
      obtain ⟨k, hk, rfl, R1, Y1, Y2, z1⟩ := hrel
      have c0 := R1.cell 0
      have c1 := R1.cell 1
      simp only [List.getElem?_toArray, List.getElem?_cons_zero, List.getElem?_cons_succ] at c0 c1
      have lR := R1.lt
      by_cases hlt : k < n
      · have hlt' : (k : Int) < n := by omega
        obtain ⟨d0, d1⟩ := Y1.cells k hlt
        have m0 := Y1.marks (k * 2)
        have m1 := Y1.marks (k * 2 + 1)
        have l1 := Y1.lt
        go_wp2_with fail
        have Y1' := (Y1.set k hlt g).eq (g := upto (fun _ => g) (fun _ => (⟨0, 0⟩ : Gi)) (k + 1)) (fun j _ => upto_next (fun _ => g) (fun _ => (⟨0, 0⟩ : Gi)) k j)
        have Y2' := Y2.other (B' := B1) (Ne.symm hne) (k * 2) (k * 2 + 1) (.int .i64 g.re) (.int .i64 g.im)
        have R1' := (R1.other (B' := B1) (by omega) (k * 2) (.int .i64 g.re)).other (B' := B1) (by omega) (k * 2 + 1) (.int .i64 g.im)
        have z1' := (z1.setCell (a := ⟨B1, k * 2, none⟩) (by first | omega | (simp only; omega)) (.int .i64 g.re)).setCell (a := ⟨B1, k * 2 + 1, none⟩) (by first | omega | (simp only; omega)) (.int .i64 g.im)
        go_roundw
        case rel =>
          first
            | exact ⟨k + 1, by omega, by go_num, R1', Y1', Y2', z1'⟩
            | (repeat apply Exists.intro
               refine ⟨?_, ?_, R1', Y1', Y2', z1'⟩
               · omega
               · go_num)
        case measure => simp [intOf]; omega
      · obtain rfl : k = n := by omega
        have Y1' := Y1.eq (g := fun _ => g) (fun j hj => upto_all _ _ _ _ hj)
        obtain ⟨d0, d1⟩ := Y2.cells 0 (by omega)
        have m0 := Y2.marks 0
        have m1 := Y2.marks 1
        simp only [Nat.zero_mul, Nat.zero_add] at d0 d1
        have l2 := Y2.lt
        have V1 := Y1'.cxs 0 k k (by omega) (Nat.le_refl _) (by unfold maxLen; omega)
        have V2 := (Y2.set 0 (by omega) g).cxs 0 k k (by omega) (Nat.le_refl _) (by unfold maxLen; omega)
        have Y1s := (Y1'.other (B' := B2) hne 0 1 (.int .i64 g.re) (.int .i64 g.im))
        have V1 := Y1s.cxs 0 k k (by omega) (Nat.le_refl _) (by unfold maxLen; omega)
        have R2 := (R1.other (B' := B2) (by omega) 0 (.int .i64 g.re)).other (B' := B2) (by omega) 1 (.int .i64 g.im)
        have z2 := (z1.setCell (a := ⟨B2, 0, none⟩) (by first | omega | (simp only; omega)) (.int .i64 g.re)).setCell (a := ⟨B2, 1, none⟩) (by first | omega | (simp only; omega)) (.int .i64 g.im)
        simp only [Nat.zero_mul, Nat.zero_add] at V1 V2
        clear Y1 Y1' Y1s Y2 R1 z1
        go_wp2_with fail
        refine (HX.out _ _ _ V1).mono ?_
        rintro e w4 ⟨v4, rfl, hv4, g4⟩
        obtain ⟨px, cx, hvx⟩ := hv4.len
        obtain ⟨_, _, hXl, hYl, hX0⟩ := HN.out
        rw [hXl] at hvx
        subst hvx
        have V2b := V2.gr g4
        have R3 := R2.gr g4
        have z3 := z2.trans g4
        clear V1 V2 R2 z2 g4 c0 c1 d0 d1 m0 m1
        go_wp2_with fail
        refine (HY.out _ _ _ V2b).mono ?_
        rintro e w5 ⟨v5, rfl, hv5, g5⟩
        obtain ⟨py, cy, hvy⟩ := hv5.len
        rw [hYl] at hvy
        subst hvy
        have VX := hv4.gr g5
        have R4 := R3.gr g5
        have z4 := z3.trans g5
        clear V2b R3 z3 g5 hv4
        obtain ⟨bX, oX, cX', hvv, _, hbX, hcX⟩ := VX.at (by intro e; rw [e] at hXl; simp at hXl; omega)
        rw [hXl] at hvv
        cases hvv
        obtain ⟨bY, oY, cY', hvv, _, hbY, hcY⟩ := hv5.at (by intro e; rw [e] at hYl; simp at hYl; omega)
        rw [hYl] at hvv
        cases hvv
        have HCX := Lib.hid fun j (hj : j < k) => CxsAt.getD (n := 0) (cap := 0) hcX j (by omega)
        have HCY := Lib.hid fun j (hj : j < k) => CxsAt.getD (n := 0) (cap := 0) hcY j (by omega)
        have q0 := HCX.out 0 (by omega)
        rw [hX0] at q0
        simp only [Nat.zero_mul, Nat.add_zero] at q0
        have hk0 : 0 < k := by omega
        have hk0' : (0 : Int) < k := by omega
        clear VX hv5 hcX hcY hXl hYl hX0
        go_wp2_with fail
        have KS : ∀ W, Gr w5 W → (W.cell? ⟨w.heap.size, 0, none⟩ = some (.int .i64 g.re) ∧ W.cell? ⟨w.heap.size, 1, none⟩ = some (.int .i64 g.im) ∧ W.cell? ⟨bX, oX, none⟩ = some (.int .i64 g.re) ∧ W.cell? ⟨bX, oX + 1, none⟩ = some (.int .i64 g.im)) := fun W hG => ⟨(R4.gr hG).cell 0, (R4.gr hG).cell 1, (hG.cell (p := ⟨bX, _, none⟩) hbX).trans q0.1, (hG.cell (p := ⟨bX, _, none⟩) hbX).trans q0.2⟩
        clear q0
        have hclG := gr_closed w5
        try simp only [List.append_eq, List.cons_append, List.nil_append]
        refine wp_region_grow (S := Gr w5) rfl (Gr.drew (Gr.refl _)) ?_
        refine wpG_take (i := 0) (v := ?_) hclG rfl (by kernel_rfl) (by kernel_rfl) (by kernel_rfl) (fun _ _ _ h => h) (by rfl) ?_ ?_
        rotate_left
        · (intro w' hSw; go_simp; try with_reducible rfl)
        try simp only [Act.put, List.setIfInBounds_toArray, List.set_cons_zero, List.set_cons_succ, List.getElem_toArray, List.getElem_cons_zero, List.getElem_cons_succ]
        refine wpG_take (i := 1) (v := ?_) hclG rfl (by kernel_rfl) (by kernel_rfl) (by kernel_rfl) (fun _ _ _ h => h) (by rfl) ?_ ?_
        rotate_left
        · (intro w' hSw; go_simp; try with_reducible rfl)
        try simp only [Act.put, List.setIfInBounds_toArray, List.set_cons_zero, List.set_cons_succ, List.getElem_toArray, List.getElem_cons_zero, List.getElem_cons_succ]
        refine wpG_take (i := 2) (v := ?_) hclG rfl (by kernel_rfl) (by kernel_rfl) (by kernel_rfl) (fun _ _ _ h => h) (by rfl) ?_ ?_
        rotate_left
        · (intro w' hSw; go_simp; try with_reducible rfl)
        try simp only [Act.put, List.setIfInBounds_toArray, List.set_cons_zero, List.set_cons_succ, List.getElem_toArray, List.getElem_cons_zero, List.getElem_cons_succ]
        refine wpG_take (i := 3) (v := ?_) hclG rfl (by kernel_rfl) (by kernel_rfl) (by kernel_rfl) (fun _ _ _ h => h) (by rfl) ?_ ?_
        rotate_left
        · (intro w' hSw; go_simp; try with_reducible rfl)
        try simp only [Act.put, List.setIfInBounds_toArray, List.set_cons_zero, List.set_cons_succ, List.getElem_toArray, List.getElem_cons_zero, List.getElem_cons_succ]
        refine wpG_take (i := 4) (v := ?_) hclG rfl (by kernel_rfl) (by kernel_rfl) (by kernel_rfl) (fun _ _ _ h => h) (by rfl) ?_ ?_
        rotate_left
        · (intro w' hSw; go_simp; try with_reducible rfl)
        try simp only [Act.put, List.setIfInBounds_toArray, List.set_cons_zero, List.set_cons_succ, List.getElem_toArray, List.getElem_cons_zero, List.getElem_cons_succ]
        refine wpG_take (i := 5) (v := ?_) hclG rfl (by kernel_rfl) (by kernel_rfl) (by kernel_rfl) (fun _ _ _ h => h) (by rfl) ?_ ?_
        rotate_left
        · (intro w' hSw; go_simp; try with_reducible rfl)
        try simp only [Act.put, List.setIfInBounds_toArray, List.set_cons_zero, List.set_cons_succ, List.getElem_toArray, List.getElem_cons_zero, List.getElem_cons_succ]
        refine wpG_take (i := 6) (v := ?_) hclG rfl (by kernel_rfl) (by kernel_rfl) (by kernel_rfl) (fun _ _ _ h => h) (by rfl) ?_ ?_
        rotate_left
        · (intro w' hSw; go_simp; try with_reducible rfl)
        try simp only [Act.put, List.setIfInBounds_toArray, List.set_cons_zero, List.set_cons_succ, List.getElem_toArray, List.getElem_cons_zero, List.getElem_cons_succ]
        refine wpG_take (i := 7) (v := ?_) hclG rfl (by kernel_rfl) (by kernel_rfl) (by kernel_rfl) (fun _ _ _ h => h) (by rfl) ?_ ?_
        rotate_left
        · (intro w' hSw; go_simp; try with_reducible rfl)
        try simp only [Act.put, List.setIfInBounds_toArray, List.set_cons_zero, List.set_cons_succ, List.getElem_toArray, List.getElem_cons_zero, List.getElem_cons_succ]
        refine wpG_take (i := 8) (v := ?_) hclG rfl (by kernel_rfl) (by kernel_rfl) (by kernel_rfl) (fun _ _ _ h => h) (by rfl) ?_ ?_
        rotate_left
        · (intro w' hSw; go_simp; try with_reducible rfl)
        try simp only [Act.put, List.setIfInBounds_toArray, List.set_cons_zero, List.set_cons_succ, List.getElem_toArray, List.getElem_cons_zero, List.getElem_cons_succ]
        refine wpG_take (i := 9) (v := ?_) hclG rfl (by kernel_rfl) (by kernel_rfl) (by kernel_rfl) (fun _ _ _ h => h) (by rfl) ?_ ?_
        rotate_left
        · (intro w' hSw; go_simp; try with_reducible rfl)
        try simp only [Act.put, List.setIfInBounds_toArray, List.set_cons_zero, List.set_cons_succ, List.getElem_toArray, List.getElem_cons_zero, List.getElem_cons_succ]
        refine wpG_take (i := 10) (v := ?_) hclG rfl (by kernel_rfl) (by kernel_rfl) (by kernel_rfl) (fun _ _ _ h => h) (by rfl) ?_ ?_
        rotate_left
        · (intro w' hSw; go_simp; try with_reducible rfl)
        try simp only [Act.put, List.setIfInBounds_toArray, List.set_cons_zero, List.set_cons_succ, List.getElem_toArray, List.getElem_cons_zero, List.getElem_cons_succ]
        refine wpG_take (i := 11) (v := ?_) hclG rfl (by kernel_rfl) (by kernel_rfl) (by kernel_rfl) (fun _ _ _ h => h) (by rfl) ?_ ?_
        rotate_left
        · (intro w' hSw; go_simp; try with_reducible rfl)
        try simp only [Act.put, List.setIfInBounds_toArray, List.set_cons_zero, List.set_cons_succ, List.getElem_toArray, List.getElem_cons_zero, List.getElem_cons_succ]
        refine wpG_take (i := 12) (v := ?_) hclG rfl (by kernel_rfl) (by kernel_rfl) (by kernel_rfl) (fun _ _ _ h => h) (by rfl) ?_ ?_
        rotate_left
        · (intro w' hSw; go_simp; try with_reducible rfl)
        try simp only [Act.put, List.setIfInBounds_toArray, List.set_cons_zero, List.set_cons_succ, List.getElem_toArray, List.getElem_cons_zero, List.getElem_cons_succ]
        refine wpG_take (i := 13) (v := ?_) hclG rfl (by kernel_rfl) (by kernel_rfl) (by kernel_rfl) (fun _ _ _ h => h) (by rfl) ?_ ?_
        rotate_left
        · (intro w' hSw; go_simp; try with_reducible rfl)
        try simp only [Act.put, List.setIfInBounds_toArray, List.set_cons_zero, List.set_cons_succ, List.getElem_toArray, List.getElem_cons_zero, List.getElem_cons_succ]
        refine wpG_take (i := 14) (v := ?_) hclG rfl (by kernel_rfl) (by kernel_rfl) (by kernel_rfl) (fun _ _ _ h => h) (by rfl) ?_ ?_
        rotate_left
        · (intro w' hSw; go_simp; try with_reducible rfl)
        try simp only [Act.put, List.setIfInBounds_toArray, List.set_cons_zero, List.set_cons_succ, List.getElem_toArray, List.getElem_cons_zero, List.getElem_cons_succ]
        refine wpG_take (i := 15) (v := ?_) hclG rfl (by kernel_rfl) (by kernel_rfl) (by kernel_rfl) (fun _ _ _ h => h) (by rfl) ?_ ?_
        rotate_left
        · (intro w' hSw; go_simp; try with_reducible rfl)
        try simp only [Act.put, List.setIfInBounds_toArray, List.set_cons_zero, List.set_cons_succ, List.getElem_toArray, List.getElem_cons_zero, List.getElem_cons_succ]
        refine wpG_take (i := 16) (v := ?_) hclG rfl (by kernel_rfl) (by kernel_rfl) (by kernel_rfl) (fun _ _ _ h => h) (by rfl) ?_ ?_
        rotate_left
        · (intro w' hSw; go_simp; try with_reducible rfl)
        try simp only [Act.put, List.setIfInBounds_toArray, List.set_cons_zero, List.set_cons_succ, List.getElem_toArray, List.getElem_cons_zero, List.getElem_cons_succ]
        refine wpG_take (i := 17) (v := ?_) hclG rfl (by kernel_rfl) (by kernel_rfl) (by kernel_rfl) (fun _ _ _ h => h) (by rfl) ?_ ?_
        rotate_left
        · (intro w' hSw; go_simp; try with_reducible rfl)
        try simp only [Act.put, List.setIfInBounds_toArray, List.set_cons_zero, List.set_cons_succ, List.getElem_toArray, List.getElem_cons_zero, List.getElem_cons_succ]
        refine wpG_take (i := 18) (v := ?_) hclG rfl (by kernel_rfl) (by kernel_rfl) (by kernel_rfl) (fun _ _ _ h => h) (by rfl) ?_ ?_
        rotate_left
        · (intro w' hSw; go_simp; try with_reducible rfl)
        try simp only [Act.put, List.setIfInBounds_toArray, List.set_cons_zero, List.set_cons_succ, List.getElem_toArray, List.getElem_cons_zero, List.getElem_cons_succ]
        refine wpG_take (i := 19) (v := ?_) hclG rfl (by kernel_rfl) (by kernel_rfl) (by kernel_rfl) (fun _ _ _ h => h) (by rfl) ?_ ?_
        rotate_left
        · (intro w' hSw; go_simp; try with_reducible rfl)
        try simp only [Act.put, List.setIfInBounds_toArray, List.set_cons_zero, List.set_cons_succ, List.getElem_toArray, List.getElem_cons_zero, List.getElem_cons_succ]
        refine wpG_take (i := 20) (v := ?_) hclG rfl (by kernel_rfl) (by kernel_rfl) (by kernel_rfl) (fun _ _ _ h => h) (by rfl) ?_ ?_
        rotate_left
        · (intro w' hSw; go_simp; try with_reducible rfl)
        try simp only [Act.put, List.setIfInBounds_toArray, List.set_cons_zero, List.set_cons_succ, List.getElem_toArray, List.getElem_cons_zero, List.getElem_cons_succ]
        refine wpG_take (i := 21) (v := ?_) hclG rfl (by kernel_rfl) (by kernel_rfl) (by kernel_rfl) (fun _ _ _ h => h) (by rfl) ?_ ?_
        rotate_left
        · (intro w' hSw; have hk := KS w' hSw; go_split_ands; go_simp; try with_reducible rfl)
        try simp only [Act.put, List.setIfInBounds_toArray, List.set_cons_zero, List.set_cons_succ, List.getElem_toArray, List.getElem_cons_zero, List.getElem_cons_succ]
        refine wpG_take (i := 22) (v := ?_) hclG rfl (by kernel_rfl) (by kernel_rfl) (by kernel_rfl) (fun _ _ _ h => h) (by rfl) ?_ ?_
        rotate_left
        · (intro w' hSw; have hk := KS w' hSw; go_split_ands; go_simp; try with_reducible rfl)
        try simp only [Act.put, List.setIfInBounds_toArray, List.set_cons_zero, List.set_cons_succ, List.getElem_toArray, List.getElem_cons_zero, List.getElem_cons_succ]
        refine wpG_take (i := 23) (v := ?_) hclG rfl (by kernel_rfl) (by kernel_rfl) (by kernel_rfl) (fun _ _ _ h => h) (by rfl) ?_ ?_
        rotate_left
        · (intro w' hSw; go_simp; try with_reducible rfl)
        try simp only [Act.put, List.setIfInBounds_toArray, List.set_cons_zero, List.set_cons_succ, List.getElem_toArray, List.getElem_cons_zero, List.getElem_cons_succ]
        refine wpG_take (i := 24) (v := ?_) hclG rfl (by kernel_rfl) (by kernel_rfl) (by kernel_rfl) (fun _ _ _ h => h) (by rfl) ?_ ?_
        rotate_left
        · (intro w' hSw; go_simp; try with_reducible rfl)
        try simp only [Act.put, List.setIfInBounds_toArray, List.set_cons_zero, List.set_cons_succ, List.getElem_toArray, List.getElem_cons_zero, List.getElem_cons_succ]
        refine wpG_take (i := 25) (v := ?_) hclG rfl (by kernel_rfl) (by kernel_rfl) (by kernel_rfl) (fun _ _ _ h => h) (by rfl) ?_ ?_
        rotate_left
        · (intro w' hSw; go_simp; try with_reducible rfl)
        try simp only [Act.put, List.setIfInBounds_toArray, List.set_cons_zero, List.set_cons_succ, List.getElem_toArray, List.getElem_cons_zero, List.getElem_cons_succ]
        refine wpG_call (i := 26) hclG rfl (by kernel_rfl) (by kernel_rfl) (by kernel_rfl) (fun _ _ _ h => h) (fun W hS => AL.out W) (by rfl) ?_ ?_
        · (intro w' hSw; go_simp; try with_reducible rfl)
        try simp only [Act.put, List.setIfInBounds_toArray, List.set_cons_zero, List.set_cons_succ, List.getElem_toArray, List.getElem_cons_zero, List.getElem_cons_succ]
        refine wpG_take (i := 27) (v := ?_) hclG rfl (by kernel_rfl) (by kernel_rfl) (by kernel_rfl) (fun _ _ _ h => h) (by rfl) ?_ ?_
        rotate_left
        · (intro w' hSw; go_simp; try with_reducible rfl)
        try simp only [Act.put, List.setIfInBounds_toArray, List.set_cons_zero, List.set_cons_succ, List.getElem_toArray, List.getElem_cons_zero, List.getElem_cons_succ]
        refine wpG_take (i := 28) (v := ?_) hclG rfl (by kernel_rfl) (by kernel_rfl) (by kernel_rfl) (fun _ _ _ h => h) (by rfl) ?_ ?_
        rotate_left
        · (intro w' hSw; go_simp; try with_reducible rfl)
        try simp only [Act.put, List.setIfInBounds_toArray, List.set_cons_zero, List.set_cons_succ, List.getElem_toArray, List.getElem_cons_zero, List.getElem_cons_succ]
        refine wpG_done (by kernel_rfl) (fun w6 g6 => ?_) _
        replace g6 := (Gr.drew (Gr.refl w5)).trans g6
        clear KS hclG
        go_wp2_with fail
        go_loopw [109] (fun i wr => ∃ q : Nat, q ≤ k ∧ i = .int .i64 q ∧ Gr w5 wr) (fun i _ => k - (intOf i).toNat)
        case atStart => exact ⟨0, by omega, rfl, g6⟩
        case round =>
          clear g6
          obtain ⟨q, hq, rfl, g6⟩ := hrel
          by_cases hqt : q < k
          · have hqt' : (q : Int) < k := by omega
            have y0 := HCY.out q hqt
            obtain ⟨⟨p1, d1, n1, n2, n3, n4⟩, ⟨p2, d2, n5, n6, n7, n8⟩⟩ := And.intro (HYN.out q hqt).1.out (HYN.out q hqt).2.out
            have k0 := (g6.cell (p := ⟨bY, _, none⟩) hbY).trans y0.1
            have k1 := (g6.cell (p := ⟨bY, _, none⟩) hbY).trans y0.2
            have hbw : bY < wr.heap.size := Nat.lt_of_lt_of_le hbY g6.size
            generalize Y.getD q ⟨0, 0⟩ = yb at *
            have x0' := HCX.out q hqt
            have HXQ := Lib.hid fun (hq0 : 0 < q) => HX1.out q hqt hq0
            generalize X.getD q ⟨0, 0⟩ = xb at *
            have HNB := Lib.hid (And.intro (And.intro n1 n2) (And.intro n5 n6))
            have HNC := Lib.hid (And.intro (And.intro n3 n4) (And.intro n7 n8))
            clear y0 HCY HCX HX1 HYN n1 n2 n3 n4 n5 n6 n7 n8
            have HXC := Lib.hid x0'
            clear x0'
            go_wp2_with fail
            have A0 := CellsAt.new wr 23 #[.int .i64 yb.re, .int .i64 yb.im]
            have R5 := (R4.gr g6).alloc (.cells #[.int .i64 yb.re, .int .i64 yb.im] 23)
            have g7 := g6.alloc #[.int .i64 yb.re, .int .i64 yb.im] 23
            generalize wr.alloc (.cells #[.int .i64 yb.re, .int .i64 yb.im] 23) = u7 at *
            generalize wr.heap.size = B7 at *
            have KS : ∀ W, Gr u7 W → (W.cell? ⟨w.heap.size, 0, none⟩ = some (.int .i64 g.re) ∧ W.cell? ⟨w.heap.size, 1, none⟩ = some (.int .i64 g.im) ∧ W.cell? ⟨B7, 0, none⟩ = some (.int .i64 yb.re) ∧ W.cell? ⟨B7, 1, none⟩ = some (.int .i64 yb.im)) := fun W hG => ⟨(R5.gr hG).cell 0, (R5.gr hG).cell 1, (A0.gr hG).cell 0, (A0.gr hG).cell 1⟩
            obtain ⟨⟨n1, n2⟩, n5, n6⟩ := HNB.out
            clear k0 k1 hbw g6
            have hclG := gr_closed u7
            try simp only [List.append_eq, List.cons_append, List.nil_append]
            refine wp_region_grow (S := Gr u7) rfl (Gr.drew (Gr.refl _)) ?_
            refine wpG_take (i := 0) (v := ?_) hclG rfl (by kernel_rfl) (by kernel_rfl) (by kernel_rfl) (fun _ _ _ h => h) (by rfl) ?_ ?_
            rotate_left
            · (intro w' hSw; go_simp; try with_reducible rfl)
            try simp only [Act.put, List.setIfInBounds_toArray, List.set_cons_zero, List.set_cons_succ, List.getElem_toArray, List.getElem_cons_zero, List.getElem_cons_succ]
            refine wpG_take (i := 1) (v := ?_) hclG rfl (by kernel_rfl) (by kernel_rfl) (by kernel_rfl) (fun _ _ _ h => h) (by rfl) ?_ ?_
            rotate_left
            · (intro w' hSw; have hk := KS w' hSw; go_split_ands; go_simp; try with_reducible rfl)
            try simp only [Act.put, List.setIfInBounds_toArray, List.set_cons_zero, List.set_cons_succ, List.getElem_toArray, List.getElem_cons_zero, List.getElem_cons_succ]
            refine wpG_take (i := 2) (v := ?_) hclG rfl (by kernel_rfl) (by kernel_rfl) (by kernel_rfl) (fun _ _ _ h => h) (by rfl) ?_ ?_
            rotate_left
            · (intro w' hSw; go_simp; try with_reducible rfl)
            try simp only [Act.put, List.setIfInBounds_toArray, List.set_cons_zero, List.set_cons_succ, List.getElem_toArray, List.getElem_cons_zero, List.getElem_cons_succ]
            refine wpG_take (i := 3) (v := ?_) hclG rfl (by kernel_rfl) (by kernel_rfl) (by kernel_rfl) (fun _ _ _ h => h) (by rfl) ?_ ?_
            rotate_left
            · (intro w' hSw; go_simp; try with_reducible rfl)
            try simp only [Act.put, List.setIfInBounds_toArray, List.set_cons_zero, List.set_cons_succ, List.getElem_toArray, List.getElem_cons_zero, List.getElem_cons_succ]
            refine wpG_take (i := 4) (v := ?_) hclG rfl (by kernel_rfl) (by kernel_rfl) (by kernel_rfl) (fun _ _ _ h => h) (by rfl) ?_ ?_
            rotate_left
            · (intro w' hSw; go_simp; try with_reducible rfl)
            try simp only [Act.put, List.setIfInBounds_toArray, List.set_cons_zero, List.set_cons_succ, List.getElem_toArray, List.getElem_cons_zero, List.getElem_cons_succ]
            refine wpG_take (i := 5) (v := ?_) hclG rfl (by kernel_rfl) (by kernel_rfl) (by kernel_rfl) (fun _ _ _ h => h) (by rfl) ?_ ?_
            rotate_left
            · (intro w' hSw; have hk := KS w' hSw; go_split_ands; go_simp; try with_reducible rfl)
            try simp only [Act.put, List.setIfInBounds_toArray, List.set_cons_zero, List.set_cons_succ, List.getElem_toArray, List.getElem_cons_zero, List.getElem_cons_succ]
            refine wpG_take (i := 6) (v := ?_) hclG rfl (by kernel_rfl) (by kernel_rfl) (by kernel_rfl) (fun _ _ _ h => h) (by rfl) ?_ ?_
            rotate_left
            · (intro w' hSw; go_simp; try with_reducible rfl)
            try simp only [Act.put, List.setIfInBounds_toArray, List.set_cons_zero, List.set_cons_succ, List.getElem_toArray, List.getElem_cons_zero, List.getElem_cons_succ]
            refine wpG_take (i := 7) (v := ?_) hclG rfl (by kernel_rfl) (by kernel_rfl) (by kernel_rfl) (fun _ _ _ h => h) (by rfl) ?_ ?_
            rotate_left
            · (intro w' hSw; go_simp; try with_reducible rfl)
            try simp only [Act.put, List.setIfInBounds_toArray, List.set_cons_zero, List.set_cons_succ, List.getElem_toArray, List.getElem_cons_zero, List.getElem_cons_succ]
            refine wpG_take (i := 8) (v := ?_) hclG rfl (by kernel_rfl) (by kernel_rfl) (by kernel_rfl) (fun _ _ _ h => h) (by rfl) ?_ ?_
            rotate_left
            · (intro w' hSw; have hk := KS w' hSw; go_split_ands; go_simp; try with_reducible rfl)
            try simp only [Act.put, List.setIfInBounds_toArray, List.set_cons_zero, List.set_cons_succ, List.getElem_toArray, List.getElem_cons_zero, List.getElem_cons_succ]
            refine wpG_take (i := 9) (v := ?_) hclG rfl (by kernel_rfl) (by kernel_rfl) (by kernel_rfl) (fun _ _ _ h => h) (by rfl) ?_ ?_
            rotate_left
            · (intro w' hSw; go_simp; try with_reducible rfl)
            try simp only [Act.put, List.setIfInBounds_toArray, List.set_cons_zero, List.set_cons_succ, List.getElem_toArray, List.getElem_cons_zero, List.getElem_cons_succ]
            refine wpG_take (i := 10) (v := ?_) hclG rfl (by kernel_rfl) (by kernel_rfl) (by kernel_rfl) (fun _ _ _ h => h) (by rfl) ?_ ?_
            rotate_left
            · (intro w' hSw; go_simp; try with_reducible rfl)
            try simp only [Act.put, List.setIfInBounds_toArray, List.set_cons_zero, List.set_cons_succ, List.getElem_toArray, List.getElem_cons_zero, List.getElem_cons_succ]
            refine wpG_take (i := 11) (v := ?_) hclG rfl (by kernel_rfl) (by kernel_rfl) (by kernel_rfl) (fun _ _ _ h => h) (by rfl) ?_ ?_
            rotate_left
            · (intro w' hSw; go_simp; try with_reducible rfl)
            try simp only [Act.put, List.setIfInBounds_toArray, List.set_cons_zero, List.set_cons_succ, List.getElem_toArray, List.getElem_cons_zero, List.getElem_cons_succ]
            refine wpG_take (i := 12) (v := ?_) hclG rfl (by kernel_rfl) (by kernel_rfl) (by kernel_rfl) (fun _ _ _ h => h) (by rfl) ?_ ?_
            rotate_left
            · (intro w' hSw; have hk := KS w' hSw; go_split_ands; go_simp; try with_reducible rfl)
            try simp only [Act.put, List.setIfInBounds_toArray, List.set_cons_zero, List.set_cons_succ, List.getElem_toArray, List.getElem_cons_zero, List.getElem_cons_succ]
            refine wpG_take (i := 13) (v := ?_) hclG rfl (by kernel_rfl) (by kernel_rfl) (by kernel_rfl) (fun _ _ _ h => h) (by rfl) ?_ ?_
            rotate_left
            · (intro w' hSw; go_simp; try with_reducible rfl)
            try simp only [Act.put, List.setIfInBounds_toArray, List.set_cons_zero, List.set_cons_succ, List.getElem_toArray, List.getElem_cons_zero, List.getElem_cons_succ]
            refine wpG_take (i := 14) (v := ?_) hclG rfl (by kernel_rfl) (by kernel_rfl) (by kernel_rfl) (fun _ _ _ h => h) (by rfl) ?_ ?_
            rotate_left
            · (intro w' hSw; go_simp; try with_reducible rfl)
            try simp only [Act.put, List.setIfInBounds_toArray, List.set_cons_zero, List.set_cons_succ, List.getElem_toArray, List.getElem_cons_zero, List.getElem_cons_succ]
            refine wpG_take (i := 15) (v := ?_) hclG rfl (by kernel_rfl) (by kernel_rfl) (by kernel_rfl) (fun _ _ _ h => h) (by rfl) ?_ ?_
            rotate_left
            · (intro w' hSw; go_simp; try with_reducible rfl)
            try simp only [Act.put, List.setIfInBounds_toArray, List.set_cons_zero, List.set_cons_succ, List.getElem_toArray, List.getElem_cons_zero, List.getElem_cons_succ]
            refine wpG_done (by kernel_rfl) (fun w8 g8 => ?_) _
            replace g8 := (Gr.drew (Gr.refl u7)).trans g8
            have g9 := g7.trans g8
            clear KS hclG n1 n2 n5 n6 HNB A0 R5 g7 g8
            obtain ⟨⟨n3, n4⟩, n7, n8⟩ := HNC.out
            obtain ⟨N, hN, hNc⟩ := max4_cases d1 (-d1) d2 (-d2)
            have hmax := fun ts t => run_max4 ts t d1 (-d1) d2 (-d2) N hN
            have hNle : N ≤ 2 * (k : Int) := by rcases hNc with h | h | h | h <;> omega
            clear hN hNc HNC
            by_cases hq0 : 0 < q
            · have hq0' : (0 : Int) < q := by omega
              have hxc := HXC.out
              rw [HXQ.out hq0] at hxc
              have k0 := (g9.cell (p := ⟨bX, _, none⟩) hbX).trans hxc.1
              have k1 := (g9.cell (p := ⟨bX, _, none⟩) hbX).trans hxc.2
              have hbw : bX < w8.heap.size := Nat.lt_of_lt_of_le hbX g9.size
              simp only at k0 k1
              clear hxc HXC HXQ
              go_wp2_with fail
              go_roundw
              case rel => exact ⟨q + 1, by omega, by go_num, g9⟩
              case measure => simp [intOf]; omega
            · obtain rfl : q = 0 := by omega
              clear HXC HXQ
              go_wp2_with fail
              go_roundw
              case rel => exact ⟨1, by omega, by go_num, g9⟩
              case measure => simp [intOf]; omega
          · obtain rfl : q = k := by omega
            clear HCX HCY HX1 HYN HX HY AL
            go_wp2_with fail
            go_ret
            exact ⟨rfl, z4.trans g6⟩


end Go.Proofs.Ytmhcbphkkcmecaa
