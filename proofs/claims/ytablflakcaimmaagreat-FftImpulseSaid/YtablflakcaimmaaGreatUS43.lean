import Derived.Test.YtablflakcaimmaaGreatUS38
namespace Go.Proofs.YtablflakcaimmaaGreat
section
open Go.ChangeShapes Go.WideShapes Go.ChangeAt Go.RowKit
set_option linter.unusedVariables false
set_option linter.unusedSimpArgs false
set_option maxRecDepth 100000
theorem fields_cx : (Tryz.prog.fieldsOf 55).toList.map (fun f => (f.name, f.type, f.offset)) = [("Re", 3, 0), ("Im", 3, 1)] := by kernel_rfl
theorem cx_equal (x y : Int) (w : World) : (Op.equalIn 10000 55 (.agg #[.int .i64 x, .int .i64 y]) (.agg #[.int .i64 x, .int .i64 y])).run Tryz.prog w = .ok true w := by
 refine (run_equalIn_struct w 9999 55 #[.int .i64 x, .int .i64 y] #[.int .i64 x, .int .i64 y] (by kernel_rfl) (by kernel_rfl)).trans ?_
 have h := fields_cx
 generalize (Tryz.prog.fieldsOf 55).toList = L at h ⊢
 obtain ⟨f, g, rfl⟩ : ∃ f g, L = [f, g] := by
  rcases L with _ | ⟨f, _ | ⟨g, _ | ⟨h3, L⟩⟩⟩
  ·simp at h
  ·simp at h
  ·exact ⟨f, g, rfl⟩
  ·simp only [List.map_cons, List.cons.injEq, reduceCtorEq, and_false] at h
 simp only [List.map_cons, List.map_nil, List.cons.injEq, Prod.mk.injEq, and_true] at h
 obtain ⟨⟨n1, t1, o1⟩, n2, t2, o2⟩ := h
 have p1 : ∀ (u v : Value) (w : World), (part 3 #[u, v] 0).run Tryz.prog w = .ok u w := fun _ _ _ => by kernel_rfl
 have p2 : ∀ (u v : Value) (w : World), (part 3 #[u, v] 1).run Tryz.prog w = .ok v w := fun _ _ _ => by kernel_rfl
 have q : ∀ a b : Int, (Op.equalIn 9999 3 (.int .i64 a) (.int .i64 b)).run Tryz.prog w = .ok (a == b) w := fun a b => run_equalIn_int w 9998 _ .i64 .i64 a b (by kernel_rfl)
 have s1 : ("Re" = "_") = False := by simp
 have s2 : ("Im" = "_") = False := by simp
 simp [Op.eqFields, n1, n2, t1, t2, o1, o2, p1, p2, q, s1, s2]
set_option maxHeartbeats 8000000 in
theorem impulse_no (x0 y0 fo lo0 ke0 sc0 mo r r5 r6 lg ke : Int) (iv : Bool) (g : Gi) (n : Nat) (e0 : bits BinOp.and IntKind.i64 ke0 1 = ke) (e1 : lo0.tmod 5 = r) (e2 : wrap64 (r + 5) = r5) (e3 : r5.tmod 5 = r6) (e4 : wrap64 (r6 + 2) = lg)
 (hx : x0.tmod 500 = g.re) (hy : y0.tmod 500 = g.im) (hsh : ∀ W, (Op.shift .shl .i64 1 .i64 lg).run Tryz.prog W = .ok (.int .i64 (n : Int)) W) (hn1 : 4 ≤ n) (hn2 : n ≤ 64)
 (HX : Hid (∀ p c W, CxsAt W (.slice p n c) ((List.range n).map (fun i => if i = 0 then g else ⟨0, 0⟩)) → Calls Tryz.prog 9 #[.slice p n c, .agg #[.int .i64 fo, .int .i64 lg, .int .i64 ke, .int .i64 2, .int .i64 mo, .bool iv]] W fun e w' => e = .returned (.tuple #[.agg #[.slice none 0 0, .int .i64 0, .bool false, .slice none 0 0], .int .i64 4]) ∧ Gr W w'))
 (HY : Hid (∀ p c W, CxsAt W (.slice p n c) ((List.range n).map (fun _ => g)) → Calls Tryz.prog 9 #[.slice p n c, .agg #[.int .i64 fo, .int .i64 lg, .int .i64 ke, .int .i64 2, .int .i64 mo, .bool iv]] W fun e w' => e = .returned (.tuple #[.agg #[.slice none 0 0, .int .i64 0, .bool false, .slice none 0 0], .int .i64 4]) ∧ Gr W w'))
 (AL : CR 11 #[] (.bool true)) (w : World) :
 Calls Tryz.prog 8 #[.agg #[.int .i64 x0, .int .i64 y0], .agg #[.int .i64 fo, .int .i64 lo0, .int .i64 ke0, .int .i64 sc0, .int .i64 mo, .bool iv]] w fun e w' => e = .returned (.bool true) ∧ Gr w w' := by
 have HMK := run_make_cx n (by omega)
 have HN := Lib.hid (And.intro hn1 (And.intro hn2 trivial))
 clear hn1 hn2
 go_enter Tryz.func8, Tryz.ntmps8
 go_wp2_with fail
 obtain ⟨u0, hU⟩ : ∃ uu, uu = (w.alloc (.cells #[.int .i64 g.re, .int .i64 g.im] 55)).alloc (.cells #[.int .i64 fo, .int .i64 lg, .int .i64 ke, .int .i64 2, .int .i64 mo, .bool iv] 24) := ⟨_, rfl⟩
 have R0 : CellsAt u0 w.heap.size 55 #[.int .i64 g.re, .int .i64 g.im] := by rw [hU]; exact (CellsAt.new w _ _).alloc _
 have Q0 : CellsAt u0 (w.heap.size + 1) 24 #[.int .i64 fo, .int .i64 lg, .int .i64 ke, .int .i64 2, .int .i64 mo, .bool iv] := by rw [hU]; simpa only [World.size_alloc] using CellsAt.new (w.alloc (.cells #[.int .i64 g.re, .int .i64 g.im] 55)) 24 #[.int .i64 fo, .int .i64 lg, .int .i64 ke, .int .i64 2, .int .i64 mo, .bool iv]
 have gu : Gr w u0 := by rw [hU]; exact ((Gr.refl w).alloc _ _).alloc _ _
 rw [← hU]
 clear hU e0 e1 e2 e3 e4 hx hy hsh
 go_cut [6, 7] from 36 to 39 (fun p1 p2 wx => ∃ B1 B2 : Nat, p1 = .slice (some ⟨B1, 0, none⟩) n n ∧ p2 = .slice (some ⟨B2, 0, none⟩) n n ∧ B1 ≠ B2 ∧ u0.heap.size ≤ B1 ∧ u0.heap.size ≤ B2 ∧ RowAt wx B1 55 n (fun _ => (⟨0, 0⟩ : Gi)) ∧ RowAt wx B2 55 n (fun _ => (⟨0, 0⟩ : Gi)) ∧ Gr u0 wx)
 case first =>
  have hclG := gr_closed u0
  try simp only [List.append_eq, List.cons_append, List.nil_append]
  refine wp_region_grow (S := Gr u0) rfl (Gr.drew (Gr.refl _)) ?_
  refine gT 0 hclG ?_
  refine gT 2 hclG ?_
  refine wpG_ready (rs := [1, 3]) (by kernel_rfl) (by simp) (fun w1 g1 s1 => ?_)
  replace g1 := (Gr.drew (Gr.refl u0)).trans g1
  have hz1 := g1.size
  have M1 := RowAt.made w1 n
  refine AllG.cons rfl (fun K hK => ?_) (AllG.cons rfl (fun K hK => ?_) AllG.nil)
  ·skip
   go_simp
   refine hK.out _ _ ?_ ?_
   ·exact s1.alloc _ _
   clear hK K
   try simp only [Act.put, putS]
   refine gT 4 hclG ?_
   refine wpG_ready (rs := [3]) (by kernel_rfl) (by simp) (fun w2 g2 s2 => ?_)
   refine AllG.cons rfl (fun K hK => ?_) AllG.nil
   have M2 := RowAt.made w2 n
   have M3 := M1.gr g2
   have l3 := M3.lt
   go_simp
   have M4 := M3.alloc (.cells (madeCells #[.int .i64 0, .int .i64 0] (n * 2)) 55)
   refine hK.out _ _ ?_ ?_
   ·exact s2.alloc _ _
   clear hK K
   try simp only [Act.put, putS]
   refine gT 5 hclG ?_
   refine wpG_done (by kernel_rfl) (fun w3 g3 => ?_) _
   go_wp2_with fail
   go_meet
   case rel => exact ⟨_, _, rfl, rfl, by omega, hz1, by omega, M4.gr g3, M2.gr g3, (s2.alloc _ _).trans g3⟩
  ·skip
   go_simp
   refine hK.out _ _ ?_ ?_
   ·exact s1.alloc _ _
   clear hK K
   try simp only [Act.put, putS]
   refine wpG_ready (rs := [1]) (by kernel_rfl) (by simp) (fun w2 g2 s2 => ?_)
   refine AllG.cons rfl (fun K hK => ?_) AllG.nil
   have M2 := RowAt.made w2 n
   have M3 := M1.gr g2
   have l3 := M3.lt
   go_simp
   have M4 := M3.alloc (.cells (madeCells #[.int .i64 0, .int .i64 0] (n * 2)) 55)
   refine hK.out _ _ ?_ ?_
   ·exact s2.alloc _ _
   clear hK K
   try simp only [Act.put, putS]
   refine gT 4 hclG ?_
   refine gT 5 hclG ?_
   refine wpG_done (by kernel_rfl) (fun w3 g3 => ?_) _
   go_wp2_with fail
   go_meet
   case rel => exact ⟨_, _, rfl, rfl, by omega, by omega, hz1, M2.gr g3, M4.gr g3, (s2.alloc _ _).trans g3⟩
 case rest =>
  obtain ⟨B1, B2, rfl, rfl, hne, hB1, hB2, Y1, Y2, hG⟩ := hcut
  have hw0 := gu.size
  have R1 := R0.gr hG
  have Q1 := Q0.gr hG
  have z1 := gu.trans hG
  have hA : w.heap.size + 1 < u0.heap.size := Q0.lt
  clear R0 Q0 gu hG HMK
  obtain ⟨hn1, hn2, _⟩ := HN.out
  have c0 := R1.cell 0
  have c1 := R1.cell 1
  simp only [getS] at c0 c1
  have lR := R1.lt
  have lQ := Q1.lt
  obtain ⟨d0, d1⟩ := Y1.cells 0 (by omega)
  have m0 := Y1.marks 0
  have m1 := Y1.marks 1
  simp only [Nat.zero_mul, Nat.zero_add] at d0 d1
  have l1 := Y1.lt
  have hk0 : 0 < n := by omega
  have hk0' : (0 : Int) < n := by omega
  go_wp2_with fail
  have V1 := (Y1.set 0 (by omega) g)
  simp only [Nat.zero_mul, Nat.zero_add] at V1
  have Y2s := Y2.other (B' := B1) (Ne.symm hne) 0 1 (.int .i64 g.re) (.int .i64 g.im)
  have R2 := (R1.other (B' := B1) (by omega) 0 (.int .i64 g.re)).other (B' := B1) (by omega) 1 (.int .i64 g.im)
  have Q2 := (Q1.other (B' := B1) (by omega) 0 (.int .i64 g.re)).other (B' := B1) (by omega) 1 (.int .i64 g.im)
  have z2 := (z1.setCell (a := ⟨B1, 0, none⟩) (by first | omega | (simp only; omega)) (.int .i64 g.re)).setCell (a := ⟨B1, 1, none⟩) (by first | omega | (simp only; omega)) (.int .i64 g.im)
  clear Y1 Y2 R1 Q1 z1 c0 c1 d0 d1 m0 m1 l1 lR lQ
  go_loopw [8, 45] (fun _ i wr => ∃ k : Nat, k ≤ n ∧ i = .int .i64 k ∧ CellsAt wr w.heap.size 55 #[.int .i64 g.re, .int .i64 g.im] ∧ CellsAt wr (w.heap.size + 1) 24 #[.int .i64 fo, .int .i64 lg, .int .i64 ke, .int .i64 2, .int .i64 mo, .bool iv] ∧ RowAt wr B2 55 n (upto (fun _ => g) (fun _ => (⟨0, 0⟩ : Gi)) k) ∧ RowAt wr B1 55 n (fun i => if i = 0 then g else ⟨0, 0⟩) ∧ Gr w wr) (fun _ i _ => n - (intOf i).toNat)
  case atStart => exact ⟨0, by omega, rfl, R2, Q2, Y2s.eq (fun i _ => (upto_none (fun _ => g) (fun _ => (⟨0, 0⟩ : Gi)) i).symm), V1, z2⟩
  case round =>
   clear R2 Q2 V1 Y2s z2
   obtain ⟨k, hk, rfl, R1, Q1, Y1, Y2, z1⟩ := hrel
   have c0 := R1.cell 0
   have c1 := R1.cell 1
   simp only [getS] at c0 c1
   have lR := R1.lt
   have lQ := Q1.lt
   by_cases hlt : k < n
   ·have hlt' : (k : Int) < n := by omega
    obtain ⟨d0, d1⟩ := Y1.cells k hlt
    have m0 := Y1.marks (k * 2)
    have m1 := Y1.marks (k * 2 + 1)
    have l1 := Y1.lt
    go_wp2_with fail
    have Y1' := (Y1.set k hlt g).eq (g := upto (fun _ => g) (fun _ => (⟨0, 0⟩ : Gi)) (k + 1)) (fun j _ => upto_next (fun _ => g) (fun _ => (⟨0, 0⟩ : Gi)) k j)
    have Y2' := Y2.other (B' := B2) hne (k * 2) (k * 2 + 1) (.int .i64 g.re) (.int .i64 g.im)
    have R1' := (R1.other (B' := B2) (by omega) (k * 2) (.int .i64 g.re)).other (B' := B2) (by omega) (k * 2 + 1) (.int .i64 g.im)
    have Q1' := (Q1.other (B' := B2) (by omega) (k * 2) (.int .i64 g.re)).other (B' := B2) (by omega) (k * 2 + 1) (.int .i64 g.im)
    have z1' := (z1.setCell (a := ⟨B2, k * 2, none⟩) (by first | omega | (simp only; omega)) (.int .i64 g.re)).setCell (a := ⟨B2, k * 2 + 1, none⟩) (by first | omega | (simp only; omega)) (.int .i64 g.im)
    go_roundw
    case rel =>
     first
      | exact ⟨k + 1, by omega, by go_num, R1', Q1', Y1', Y2', z1'⟩
      | (repeat apply Exists.intro
         refine ⟨?_, ?_, R1', Q1', Y1', Y2', z1'⟩
         ·omega
         ·go_num)
    case measure => simp [intOf]; omega
   ·obtain rfl : k = n := by omega
    have V2 := (Y1.eq (g := fun _ => g) (fun j hj => upto_all _ _ _ _ hj)).cxs 0 k k (by omega) (Nat.le_refl _) (by unfold maxLen; omega)
    have V1 := Y2.cxs 0 k k (by omega) (Nat.le_refl _) (by unfold maxLen; omega)
    simp only [Nat.zero_mul, Nat.zero_add] at V1 V2
    clear Y1 Y2
    have cp0 := CellsAt.cell Q1 0
    have cp1 := CellsAt.cell Q1 1
    have cp2 := CellsAt.cell Q1 2
    have cp3 := CellsAt.cell Q1 3
    have cp4 := CellsAt.cell Q1 4
    have cp5 := CellsAt.cell Q1 5
    simp only [getS] at cp0 cp1 cp2 cp3 cp4 cp5
    go_wp2_with fail
    clear c0 c1
    refine (HX.out _ _ _ V1).mono ?_
    rintro e w4 ⟨rfl, g4⟩
    have V2b := V2.gr g4
    have R3 := R1.gr g4
    have Q3 := Q1.gr g4
    have z3 := z1.trans g4
    clear V1 V2 R1 Q1 z1 cp0 cp1 cp2 cp3 cp4 cp5 lR lQ g4
    have lR := R3.lt
    have lQ := Q3.lt
    have cp0 := CellsAt.cell Q3 0
    have cp1 := CellsAt.cell Q3 1
    have cp2 := CellsAt.cell Q3 2
    have cp3 := CellsAt.cell Q3 3
    have cp4 := CellsAt.cell Q3 4
    have cp5 := CellsAt.cell Q3 5
    simp only [getS] at cp0 cp1 cp2 cp3 cp4 cp5
    go_wp2_with fail
    clear cp0 cp1 cp2 cp3 cp4 cp5
    have ga := (Gr.refl w4).alloc #[.slice none 0 0, .int .i64 0, .bool false, .slice none 0 0] 27
    refine (HY.out _ _ _ (V2b.gr ga)).mono ?_
    rintro e w5 ⟨rfl, g5⟩
    have z4 := (z3.trans ga).trans g5
    clear V2b R3 Q3 z3 g5 ga lR lQ
    go_wp2_with fail
    refine (AL.out _).mono ?_
    rintro e w6 ⟨rfl, g6⟩
    have z5 := (z4.alloc #[.slice none 0 0, .int .i64 0, .bool false, .slice none 0 0] 27).trans g6
    go_wp2_with fail
    go_ret
    exact ⟨rfl, z5⟩
set_option maxHeartbeats 8000000 in
theorem impulse_yes (x0 y0 fo lo0 ke0 sc0 mo r r5 r6 lg ke : Int) (iv : Bool) (g : Gi) (n : Nat) (X Y : List Gi) (ls ls' : List Int) (ex ey pr pi : Int) (e0 : bits BinOp.and IntKind.i64 ke0 1 = ke) (e1 : lo0.tmod 5 = r) (e2 : wrap64 (r + 5) = r5) (e3 : r5.tmod 5 = r6) (e4 : wrap64 (r6 + 2) = lg)
 (hx : x0.tmod 500 = g.re) (hy : y0.tmod 500 = g.im) (hsh : ∀ W, (Op.shift .shl .i64 1 .i64 lg).run Tryz.prog W = .ok (.int .i64 (n : Int)) W) (hn1 : 4 ≤ n) (hn2 : n ≤ 64)
 (HX : Hid (∀ p c W, CxsAt W (.slice p n c) ((List.range n).map (fun i => if i = 0 then g else ⟨0, 0⟩)) → Calls Tryz.prog 9 #[.slice p n c, .agg #[.int .i64 fo, .int .i64 lg, .int .i64 ke, .int .i64 2, .int .i64 mo, .bool iv]] W fun e w' => ∃ v u, e = .returned (.tuple #[.agg #[v, .int .i64 ex, .bool false, u], .int .i64 0]) ∧ CxsAt w' v X ∧ NumsAt w' u ls ∧ Gr W w'))
 (HY : Hid (∀ p c W, CxsAt W (.slice p n c) ((List.range n).map (fun _ => g)) → Calls Tryz.prog 9 #[.slice p n c, .agg #[.int .i64 fo, .int .i64 lg, .int .i64 ke, .int .i64 2, .int .i64 mo, .bool iv]] W fun e w' => ∃ v u, e = .returned (.tuple #[.agg #[v, .int .i64 ey, .bool false, u], .int .i64 0]) ∧ CxsAt w' v Y ∧ NumsAt w' u ls' ∧ Gr W w'))
 (hXl : X.length = n) (hYl : Y.length = n) (HX1 : Hid (∀ i, i < n → X.getD i ⟨0, 0⟩ = g)) (hY0 : Y.getD 0 ⟨0, 0⟩ = ⟨pr, pi⟩) (hpr : IntKind.i64.wrap (g.re * (n : Int)) = pr) (hpi : IntKind.i64.wrap (g.im * (n : Int)) = pi) (HY1 : Hid (∀ i, i < n → 0 < i → Y.getD i ⟨0, 0⟩ = ⟨0, 0⟩))
 (HP : CR 26 #[.int .i64 lg] (.int .i64 (n : Int)))
 (AL : CR 11 #[] (.bool true)) (w : World) :
 Calls Tryz.prog 8 #[.agg #[.int .i64 x0, .int .i64 y0], .agg #[.int .i64 fo, .int .i64 lo0, .int .i64 ke0, .int .i64 sc0, .int .i64 mo, .bool iv]] w fun e w' => e = .returned (.bool true) ∧ Gr w w' := by
 have HMK := run_make_cx n (by omega)
 have HN := Lib.hid (And.intro hn1 (And.intro hn2 (And.intro hXl (And.intro hYl (And.intro hY0 (And.intro hpr hpi))))))
 clear hn1 hn2 hXl hYl hY0 hpr hpi
 go_enter Tryz.func8, Tryz.ntmps8
 go_wp2_with fail
 obtain ⟨u0, hU⟩ : ∃ uu, uu = (w.alloc (.cells #[.int .i64 g.re, .int .i64 g.im] 55)).alloc (.cells #[.int .i64 fo, .int .i64 lg, .int .i64 ke, .int .i64 2, .int .i64 mo, .bool iv] 24) := ⟨_, rfl⟩
 have R0 : CellsAt u0 w.heap.size 55 #[.int .i64 g.re, .int .i64 g.im] := by rw [hU]; exact (CellsAt.new w _ _).alloc _
 have Q0 : CellsAt u0 (w.heap.size + 1) 24 #[.int .i64 fo, .int .i64 lg, .int .i64 ke, .int .i64 2, .int .i64 mo, .bool iv] := by rw [hU]; simpa only [World.size_alloc] using CellsAt.new (w.alloc (.cells #[.int .i64 g.re, .int .i64 g.im] 55)) 24 #[.int .i64 fo, .int .i64 lg, .int .i64 ke, .int .i64 2, .int .i64 mo, .bool iv]
 have gu : Gr w u0 := by rw [hU]; exact ((Gr.refl w).alloc _ _).alloc _ _
 rw [← hU]
 clear hU e0 e1 e2 e3 e4 hx hy hsh
 go_cut [6, 7] from 36 to 39 (fun p1 p2 wx => ∃ B1 B2 : Nat, p1 = .slice (some ⟨B1, 0, none⟩) n n ∧ p2 = .slice (some ⟨B2, 0, none⟩) n n ∧ B1 ≠ B2 ∧ u0.heap.size ≤ B1 ∧ u0.heap.size ≤ B2 ∧ RowAt wx B1 55 n (fun _ => (⟨0, 0⟩ : Gi)) ∧ RowAt wx B2 55 n (fun _ => (⟨0, 0⟩ : Gi)) ∧ Gr u0 wx)
 case first =>
  have hclG := gr_closed u0
  try simp only [List.append_eq, List.cons_append, List.nil_append]
  refine wp_region_grow (S := Gr u0) rfl (Gr.drew (Gr.refl _)) ?_
  refine gT 0 hclG ?_
  refine gT 2 hclG ?_
  refine wpG_ready (rs := [1, 3]) (by kernel_rfl) (by simp) (fun w1 g1 s1 => ?_)
  replace g1 := (Gr.drew (Gr.refl u0)).trans g1
  have hz1 := g1.size
  have M1 := RowAt.made w1 n
  refine AllG.cons rfl (fun K hK => ?_) (AllG.cons rfl (fun K hK => ?_) AllG.nil)
  ·skip
   go_simp
   refine hK.out _ _ ?_ ?_
   ·exact s1.alloc _ _
   clear hK K
   try simp only [Act.put, putS]
   refine gT 4 hclG ?_
   refine wpG_ready (rs := [3]) (by kernel_rfl) (by simp) (fun w2 g2 s2 => ?_)
   refine AllG.cons rfl (fun K hK => ?_) AllG.nil
   have M2 := RowAt.made w2 n
   have M3 := M1.gr g2
   have l3 := M3.lt
   go_simp
   have M4 := M3.alloc (.cells (madeCells #[.int .i64 0, .int .i64 0] (n * 2)) 55)
   refine hK.out _ _ ?_ ?_
   ·exact s2.alloc _ _
   clear hK K
   try simp only [Act.put, putS]
   refine gT 5 hclG ?_
   refine wpG_done (by kernel_rfl) (fun w3 g3 => ?_) _
   go_wp2_with fail
   go_meet
   case rel => exact ⟨_, _, rfl, rfl, by omega, hz1, by omega, M4.gr g3, M2.gr g3, (s2.alloc _ _).trans g3⟩
  ·skip
   go_simp
   refine hK.out _ _ ?_ ?_
   ·exact s1.alloc _ _
   clear hK K
   try simp only [Act.put, putS]
   refine wpG_ready (rs := [1]) (by kernel_rfl) (by simp) (fun w2 g2 s2 => ?_)
   refine AllG.cons rfl (fun K hK => ?_) AllG.nil
   have M2 := RowAt.made w2 n
   have M3 := M1.gr g2
   have l3 := M3.lt
   go_simp
   have M4 := M3.alloc (.cells (madeCells #[.int .i64 0, .int .i64 0] (n * 2)) 55)
   refine hK.out _ _ ?_ ?_
   ·exact s2.alloc _ _
   clear hK K
   try simp only [Act.put, putS]
   refine gT 4 hclG ?_
   refine gT 5 hclG ?_
   refine wpG_done (by kernel_rfl) (fun w3 g3 => ?_) _
   go_wp2_with fail
   go_meet
   case rel => exact ⟨_, _, rfl, rfl, by omega, by omega, hz1, M2.gr g3, M4.gr g3, (s2.alloc _ _).trans g3⟩
 case rest =>
  obtain ⟨B1, B2, rfl, rfl, hne, hB1, hB2, Y1, Y2, hG⟩ := hcut
  have hw0 := gu.size
  have R1 := R0.gr hG
  have Q1 := Q0.gr hG
  have z1 := gu.trans hG
  have hA : w.heap.size + 1 < u0.heap.size := Q0.lt
  clear R0 Q0 gu hG HMK
  obtain ⟨hn1, hn2, _⟩ := HN.out
  have c0 := R1.cell 0
  have c1 := R1.cell 1
  simp only [getS] at c0 c1
  have lR := R1.lt
  have lQ := Q1.lt
  obtain ⟨d0, d1⟩ := Y1.cells 0 (by omega)
  have m0 := Y1.marks 0
  have m1 := Y1.marks 1
  simp only [Nat.zero_mul, Nat.zero_add] at d0 d1
  have l1 := Y1.lt
  have hk0 : 0 < n := by omega
  have hk0' : (0 : Int) < n := by omega
  go_wp2_with fail
  have V1 := (Y1.set 0 (by omega) g)
  simp only [Nat.zero_mul, Nat.zero_add] at V1
  have Y2s := Y2.other (B' := B1) (Ne.symm hne) 0 1 (.int .i64 g.re) (.int .i64 g.im)
  have R2 := (R1.other (B' := B1) (by omega) 0 (.int .i64 g.re)).other (B' := B1) (by omega) 1 (.int .i64 g.im)
  have Q2 := (Q1.other (B' := B1) (by omega) 0 (.int .i64 g.re)).other (B' := B1) (by omega) 1 (.int .i64 g.im)
  have z2 := (z1.setCell (a := ⟨B1, 0, none⟩) (by first | omega | (simp only; omega)) (.int .i64 g.re)).setCell (a := ⟨B1, 1, none⟩) (by first | omega | (simp only; omega)) (.int .i64 g.im)
  clear Y1 Y2 R1 Q1 z1 c0 c1 d0 d1 m0 m1 l1 lR lQ
  go_loopw [8, 45] (fun _ i wr => ∃ k : Nat, k ≤ n ∧ i = .int .i64 k ∧ CellsAt wr w.heap.size 55 #[.int .i64 g.re, .int .i64 g.im] ∧ CellsAt wr (w.heap.size + 1) 24 #[.int .i64 fo, .int .i64 lg, .int .i64 ke, .int .i64 2, .int .i64 mo, .bool iv] ∧ RowAt wr B2 55 n (upto (fun _ => g) (fun _ => (⟨0, 0⟩ : Gi)) k) ∧ RowAt wr B1 55 n (fun i => if i = 0 then g else ⟨0, 0⟩) ∧ Gr w wr) (fun _ i _ => n - (intOf i).toNat)
  case atStart => exact ⟨0, by omega, rfl, R2, Q2, Y2s.eq (fun i _ => (upto_none (fun _ => g) (fun _ => (⟨0, 0⟩ : Gi)) i).symm), V1, z2⟩
  case round =>
   clear R2 Q2 V1 Y2s z2
   obtain ⟨k, hk, rfl, R1, Q1, Y1, Y2, z1⟩ := hrel
   have c0 := R1.cell 0
   have c1 := R1.cell 1
   simp only [getS] at c0 c1
   have lR := R1.lt
   have lQ := Q1.lt
   by_cases hlt : k < n
   ·have hlt' : (k : Int) < n := by omega
    obtain ⟨d0, d1⟩ := Y1.cells k hlt
    have m0 := Y1.marks (k * 2)
    have m1 := Y1.marks (k * 2 + 1)
    have l1 := Y1.lt
    go_wp2_with fail
    have Y1' := (Y1.set k hlt g).eq (g := upto (fun _ => g) (fun _ => (⟨0, 0⟩ : Gi)) (k + 1)) (fun j _ => upto_next (fun _ => g) (fun _ => (⟨0, 0⟩ : Gi)) k j)
    have Y2' := Y2.other (B' := B2) hne (k * 2) (k * 2 + 1) (.int .i64 g.re) (.int .i64 g.im)
    have R1' := (R1.other (B' := B2) (by omega) (k * 2) (.int .i64 g.re)).other (B' := B2) (by omega) (k * 2 + 1) (.int .i64 g.im)
    have Q1' := (Q1.other (B' := B2) (by omega) (k * 2) (.int .i64 g.re)).other (B' := B2) (by omega) (k * 2 + 1) (.int .i64 g.im)
    have z1' := (z1.setCell (a := ⟨B2, k * 2, none⟩) (by first | omega | (simp only; omega)) (.int .i64 g.re)).setCell (a := ⟨B2, k * 2 + 1, none⟩) (by first | omega | (simp only; omega)) (.int .i64 g.im)
    go_roundw
    case rel =>
     first
      | exact ⟨k + 1, by omega, by go_num, R1', Q1', Y1', Y2', z1'⟩
      | (repeat apply Exists.intro
         refine ⟨?_, ?_, R1', Q1', Y1', Y2', z1'⟩
         ·omega
         ·go_num)
    case measure => simp [intOf]; omega
   ·obtain rfl : k = n := by omega
    have V2 := (Y1.eq (g := fun _ => g) (fun j hj => upto_all _ _ _ _ hj)).cxs 0 k k (by omega) (Nat.le_refl _) (by unfold maxLen; omega)
    have V1 := Y2.cxs 0 k k (by omega) (Nat.le_refl _) (by unfold maxLen; omega)
    simp only [Nat.zero_mul, Nat.zero_add] at V1 V2
    clear Y1 Y2
    have cp0 := CellsAt.cell Q1 0
    have cp1 := CellsAt.cell Q1 1
    have cp2 := CellsAt.cell Q1 2
    have cp3 := CellsAt.cell Q1 3
    have cp4 := CellsAt.cell Q1 4
    have cp5 := CellsAt.cell Q1 5
    simp only [getS] at cp0 cp1 cp2 cp3 cp4 cp5
    go_wp2_with fail
    clear c0 c1
    refine (HX.out _ _ _ V1).mono ?_
    rintro e w4 ⟨v4, u4, rfl, hv4, hu4, g4⟩
    obtain ⟨px, cx, hvx⟩ := hv4.len
    obtain ⟨su, sc4, rfl⟩ := hu4.len
    obtain ⟨_, _, hXl, hYl, hY0, hpr, hpi⟩ := HN.out
    rw [hXl] at hvx
    subst hvx
    have V2b := V2.gr g4
    have R3 := R1.gr g4
    have Q3 := Q1.gr g4
    have z3 := z1.trans g4
    clear V1 V2 R1 Q1 z1 cp0 cp1 cp2 cp3 cp4 cp5 lR lQ g4
    have lR := R3.lt
    have lQ := Q3.lt
    have cp0 := CellsAt.cell Q3 0
    have cp1 := CellsAt.cell Q3 1
    have cp2 := CellsAt.cell Q3 2
    have cp3 := CellsAt.cell Q3 3
    have cp4 := CellsAt.cell Q3 4
    have cp5 := CellsAt.cell Q3 5
    simp only [getS] at cp0 cp1 cp2 cp3 cp4 cp5
    go_wp2_with fail
    clear cp0 cp1 cp2 cp3 cp4 cp5
    have B4 := CellsAt.new w4 27 #[.slice px k cx, .int .i64 ex, .bool false, .slice su ls.length sc4]
    have ga := (Gr.refl w4).alloc #[.slice px k cx, .int .i64 ex, .bool false, .slice su ls.length sc4] 27
    refine (HY.out _ _ _ (V2b.gr ga)).mono ?_
    rintro e w5 ⟨v5, u5, rfl, hv5, hu5, g5⟩
    obtain ⟨py, cy, hvy⟩ := hv5.len
    obtain ⟨sv, sc5, rfl⟩ := hu5.len
    rw [hYl] at hvy
    subst hvy
    have gb := ga.trans g5
    have B5 := B4.gr g5
    have VX := hv4.gr gb
    have R4 := R3.gr gb
    have Q4 := Q3.gr gb
    have z4 := z3.trans gb
    have lb := B5.lt
    clear V2b R3 Q3 z3 g5 ga gb hv4 B4 lR lQ
    obtain ⟨bX, oX, cX', hvv, _, hbX, hcX⟩ := VX.at (by intro e; rw [e] at hXl; simp at hXl; omega)
    rw [hXl] at hvv
    cases hvv
    obtain ⟨bY, oY, cY', hvv, _, hbY, hcY⟩ := hv5.at (by intro e; rw [e] at hYl; simp at hYl; omega)
    rw [hYl] at hvv
    cases hvv
    have HCX := Lib.hid fun j (hj : j < k) => CxsAt.getD (n := 0) (cap := 0) hcX j (by omega)
    have HCY := Lib.hid fun j (hj : j < k) => CxsAt.getD (n := 0) (cap := 0) hcY j (by omega)
    have q0 := HCY.out 0 (by omega)
    rw [hY0] at q0
    simp only [Nat.zero_mul, Nat.add_zero] at q0
    clear VX hv5 hcX hcY hXl hYl hY0
    go_wp2_with fail
    have C5 := CellsAt.new w5 27 #[.slice (some ⟨bY, oY, none⟩) k cy, .int .i64 ey, .bool false, .slice sv ls'.length sc5]
    have gc := (Gr.refl w5).alloc #[.slice (some ⟨bY, oY, none⟩) k cy, .int .i64 ey, .bool false, .slice sv ls'.length sc5] 27
    have B6 := B5.gr gc
    have R6 := R4.gr gc
    have Q6 := Q4.gr gc
    have z6 := z4.trans gc
    have hb6 : w5.heap.size < (w5.alloc (.cells #[.slice (some ⟨bY, oY, none⟩) k cy, .int .i64 ey, .bool false, .slice sv ls'.length sc5] 27)).heap.size := C5.lt
    have q1 := (gc.cell (p := ⟨bY, oY, none⟩) hbY).trans q0.1
    have q2 := (gc.cell (p := ⟨bY, oY + 1, none⟩) hbY).trans q0.2
    have hbX6 : bX < (w5.alloc (.cells #[.slice (some ⟨bY, oY, none⟩) k cy, .int .i64 ey, .bool false, .slice sv ls'.length sc5] 27)).heap.size := Nat.lt_of_lt_of_le hbX gc.size
    have hbY6 : bY < (w5.alloc (.cells #[.slice (some ⟨bY, oY, none⟩) k cy, .int .i64 ey, .bool false, .slice sv ls'.length sc5] 27)).heap.size := Nat.lt_of_lt_of_le hbY gc.size
    have HCX6 := Lib.hid fun j (hj : j < k) => And.intro ((gc.cell (p := ⟨bX, _, none⟩) hbX).trans (HCX.out j hj).1) ((gc.cell (p := ⟨bX, _, none⟩) hbX).trans (HCX.out j hj).2)
    have HCY6 := Lib.hid fun j (hj : j < k) => And.intro ((gc.cell (p := ⟨bY, _, none⟩) hbY).trans (HCY.out j hj).1) ((gc.cell (p := ⟨bY, _, none⟩) hbY).trans (HCY.out j hj).2)
    clear HCX HCY q0 B5 R4 Q4 z4 hbX hbY lb
    generalize w5.alloc (.cells #[.slice (some ⟨bY, oY, none⟩) k cy, .int .i64 ey, .bool false, .slice sv ls'.length sc5] 27) = u8 at *
    clear gc
    generalize w5.heap.size = BC at *
    generalize w4.heap.size = BB at *
    have heq : ∀ (a b : Int) W, (Op.equalIn 10000 55 (.agg #[.int .i64 a, .int .i64 b]) (.agg #[.int .i64 a, .int .i64 b])).run Tryz.prog W = .ok true W := fun a b W => cx_equal a b W
    have KS : ∀ W, Gr u8 W → (W.cell? ⟨w.heap.size, 0, none⟩ = some (.int .i64 g.re) ∧ W.cell? ⟨w.heap.size, 1, none⟩ = some (.int .i64 g.im) ∧ W.cell? ⟨(w.heap.size + 1), 0, none⟩ = some (.int .i64 fo) ∧ W.cell? ⟨(w.heap.size + 1), 1, none⟩ = some (.int .i64 lg) ∧ W.cell? ⟨(w.heap.size + 1), 2, none⟩ = some (.int .i64 ke) ∧ W.cell? ⟨(w.heap.size + 1), 3, none⟩ = some (.int .i64 2) ∧ W.cell? ⟨(w.heap.size + 1), 4, none⟩ = some (.int .i64 mo) ∧ W.cell? ⟨(w.heap.size + 1), 5, none⟩ = some (.bool iv) ∧ W.cell? ⟨BB, 0, none⟩ = some (.slice (some ⟨bX, oX, none⟩) k cx) ∧ W.cell? ⟨BB, 1, none⟩ = some (.int .i64 ex) ∧ W.cell? ⟨BB, 2, none⟩ = some (.bool false) ∧ W.cell? ⟨BB, 3, none⟩ = some (.slice su ls.length sc4) ∧ W.cell? ⟨BC, 0, none⟩ = some (.slice (some ⟨bY, oY, none⟩) k cy) ∧ W.cell? ⟨BC, 1, none⟩ = some (.int .i64 ey) ∧ W.cell? ⟨BC, 2, none⟩ = some (.bool false) ∧ W.cell? ⟨BC, 3, none⟩ = some (.slice sv ls'.length sc5) ∧ W.cell? ⟨bY, oY, none⟩ = some (.int .i64 pr) ∧ W.cell? ⟨bY, oY + 1, none⟩ = some (.int .i64 pi)) := fun W hG => ⟨(CellsAt.gr R6 hG).cell 0, (CellsAt.gr R6 hG).cell 1, (CellsAt.gr Q6 hG).cell 0, (CellsAt.gr Q6 hG).cell 1, (CellsAt.gr Q6 hG).cell 2, (CellsAt.gr Q6 hG).cell 3, (CellsAt.gr Q6 hG).cell 4, (CellsAt.gr Q6 hG).cell 5, (CellsAt.gr B6 hG).cell 0, (CellsAt.gr B6 hG).cell 1, (CellsAt.gr B6 hG).cell 2, (CellsAt.gr B6 hG).cell 3, (CellsAt.gr C5 hG).cell 0, (CellsAt.gr C5 hG).cell 1, (CellsAt.gr C5 hG).cell 2, (CellsAt.gr C5 hG).cell 3, (hG.cell (p := ⟨bY, _, none⟩) hbY6).trans q1, (hG.cell (p := ⟨bY, _, none⟩) hbY6).trans q2⟩
    have hclG := gr_closed u8
    try simp only [List.append_eq, List.cons_append, List.nil_append]
    refine wp_region_grow (S := Gr u8) rfl (Gr.drew (Gr.refl _)) ?_
    refine gT 0 hclG ?_
    refine gT 1 hclG ?_
    refine gT 2 hclG ?_
    refine gK 3 hclG KS ?_
    refine gK 4 hclG KS ?_
    refine gT 5 hclG ?_
    refine gT 6 hclG ?_
    refine gT 7 hclG ?_
    refine gT 8 hclG ?_
    refine gT 9 hclG ?_
    refine gK 10 hclG KS ?_
    refine gK 11 hclG KS ?_
    refine gT 12 hclG ?_
    refine gT 13 hclG ?_
    refine gT 14 hclG ?_
    refine gT 15 hclG ?_
    refine gT 16 hclG ?_
    refine gK 17 hclG KS ?_
    refine gK 18 hclG KS ?_
    refine gT 19 hclG ?_
    refine gT 20 hclG ?_
    refine gK 21 hclG KS ?_
    refine gK 22 hclG KS ?_
    refine gT 23 hclG ?_
    refine gT 24 hclG ?_
    refine gK 25 hclG KS ?_
    refine gK 26 hclG KS ?_
    refine gK 27 hclG KS ?_
    refine gK 28 hclG KS ?_
    refine gK 29 hclG KS ?_
    refine gK 30 hclG KS ?_
    refine gK 31 hclG KS ?_
    refine gK 32 hclG KS ?_
    refine wpG_call (i := 33) hclG rfl (by kernel_rfl) (by kernel_rfl) (by kernel_rfl) (fun _ _ _ h => h) (fun W hS => HP.out W) (by rfl) ?_ ?_
    ·(intro w' hSw; go_simp; try with_reducible rfl)
    try simp only [Act.put, putS]
    refine gT 34 hclG ?_
    refine gK 35 hclG KS ?_
    refine gK 36 hclG KS ?_
    refine gK 37 hclG KS ?_
    refine gK 38 hclG KS ?_
    refine wpG_call (i := 39) hclG rfl (by kernel_rfl) (by kernel_rfl) (by kernel_rfl) (fun _ _ _ h => h) (fun W hS => HP.out W) (by rfl) ?_ ?_
    ·(intro w' hSw; go_simp; try with_reducible rfl)
    try simp only [Act.put, putS]
    refine gT 40 hclG ?_
    refine gT 41 hclG ?_
    refine gT 42 hclG ?_
    refine gT 43 hclG ?_
    refine gT 44 hclG ?_
    refine wpG_call (i := 45) hclG rfl (by kernel_rfl) (by kernel_rfl) (by kernel_rfl) (fun _ _ _ h => h) (fun W hS => AL.out W) (by rfl) ?_ ?_
    ·(intro w' hSw; go_simp; try with_reducible rfl)
    try simp only [Act.put, putS]
    refine gT 46 hclG ?_
    refine gT 47 hclG ?_
    refine wpG_done (by kernel_rfl) (fun w9 g9 => ?_) _
    replace g9 := (Gr.drew (Gr.refl u8)).trans g9
    clear KS hclG q1 q2
    go_wp2_with fail
    go_loopw [13, 122] (fun _ i wr => ∃ q : Nat, q ≤ k ∧ i = .int .i64 q ∧ Gr u8 wr) (fun _ i _ => k - (intOf i).toNat)
    case atStart => exact ⟨0, by omega, rfl, g9⟩
    case round =>
     clear g9
     obtain ⟨q, hq, rfl, g9⟩ := hrel
     by_cases hqt : q < k
     ·have hqt' : (q : Int) < k := by omega
      have x1 := HCX6.out q hqt
      rw [HX1.out q hqt] at x1
      have k0 := (g9.cell (p := ⟨bX, _, none⟩) hbX6).trans x1.1
      have k1 := (g9.cell (p := ⟨bX, _, none⟩) hbX6).trans x1.2
      have B7 := B6.gr g9
      have C7 := C5.gr g9
      have R7 := R6.gr g9
      have hbXr : bX < wr.heap.size := Nat.lt_of_lt_of_le hbX6 g9.size
      have hbYr : bY < wr.heap.size := Nat.lt_of_lt_of_le hbY6 g9.size
      by_cases hq0 : 0 < q
      ·have hq0' : (0 : Int) < q := by omega
       have y1 := HCY6.out q hqt
       rw [HY1.out q hqt hq0] at y1
       have k2 := (g9.cell (p := ⟨bY, _, none⟩) hbY6).trans y1.1
       have k3 := (g9.cell (p := ⟨bY, _, none⟩) hbY6).trans y1.2
       simp only at k2 k3
       clear x1 y1 HCX6 HCY6 HX1 HY1
       go_wp2_with fail
       have KS : ∀ W, Gr wr W → (W.cell? ⟨w.heap.size, 0, none⟩ = some (.int .i64 g.re) ∧ W.cell? ⟨w.heap.size, 1, none⟩ = some (.int .i64 g.im) ∧ W.cell? ⟨BB, 0, none⟩ = some (.slice (some ⟨bX, oX, none⟩) k cx) ∧ W.cell? ⟨BB, 1, none⟩ = some (.int .i64 ex) ∧ W.cell? ⟨BB, 2, none⟩ = some (.bool false) ∧ W.cell? ⟨BB, 3, none⟩ = some (.slice su ls.length sc4) ∧ W.cell? ⟨BC, 0, none⟩ = some (.slice (some ⟨bY, oY, none⟩) k cy) ∧ W.cell? ⟨BC, 1, none⟩ = some (.int .i64 ey) ∧ W.cell? ⟨BC, 2, none⟩ = some (.bool false) ∧ W.cell? ⟨BC, 3, none⟩ = some (.slice sv ls'.length sc5) ∧ W.cell? ⟨bX, oX + q * 2, none⟩ = some (.int .i64 g.re) ∧ W.cell? ⟨bX, oX + q * 2 + 1, none⟩ = some (.int .i64 g.im) ∧ W.cell? ⟨bY, oY + q * 2, none⟩ = some (.int .i64 0) ∧ W.cell? ⟨bY, oY + q * 2 + 1, none⟩ = some (.int .i64 0)) := fun W hG => ⟨(CellsAt.gr R7 hG).cell 0, (CellsAt.gr R7 hG).cell 1, (CellsAt.gr B7 hG).cell 0, (CellsAt.gr B7 hG).cell 1, (CellsAt.gr B7 hG).cell 2, (CellsAt.gr B7 hG).cell 3, (CellsAt.gr C7 hG).cell 0, (CellsAt.gr C7 hG).cell 1, (CellsAt.gr C7 hG).cell 2, (CellsAt.gr C7 hG).cell 3, (hG.cell (p := ⟨bX, _, none⟩) hbXr).trans k0, (hG.cell (p := ⟨bX, _, none⟩) hbXr).trans k1, (hG.cell (p := ⟨bY, _, none⟩) hbYr).trans k2, (hG.cell (p := ⟨bY, _, none⟩) hbYr).trans k3⟩
       clear k0 k1 k2 k3
       have hclG := gr_closed wr
       try simp only [List.append_eq, List.cons_append, List.nil_append]
       refine wp_region_grow (S := Gr wr) rfl (Gr.drew (Gr.refl _)) ?_
       refine gK 0 hclG KS ?_
       refine gK 1 hclG KS ?_
       refine gK 2 hclG KS ?_
       refine gK 3 hclG KS ?_
       refine gK 4 hclG KS ?_
       refine gK 5 hclG KS ?_
       refine gT 6 hclG ?_
       refine gT 7 hclG ?_
       refine gT 8 hclG ?_
       refine gT 9 hclG ?_
       refine gT 10 hclG ?_
       refine gK 11 hclG KS ?_
       refine gK 12 hclG KS ?_
       refine gK 13 hclG KS ?_
       refine gK 14 hclG KS ?_
       refine gK 15 hclG KS ?_
       refine gT 16 hclG ?_
       refine gT 17 hclG ?_
       refine gT 18 hclG ?_
       refine gT 19 hclG ?_
       refine wpG_done (by kernel_rfl) (fun wa ga => ?_) _
       replace ga := (Gr.drew (Gr.refl wr)).trans ga
       have gd := g9.trans ga
       clear KS hclG B7 C7 R7
       go_wp2_with fail
       go_roundw
       case rel => exact ⟨q + 1, by omega, by go_num, gd⟩
       case measure => simp [intOf]; omega
      ·obtain rfl : q = 0 := by omega
       clear x1 HCX6 HCY6 HX1 HY1
       go_wp2_with fail
       have KS : ∀ W, Gr wr W → (W.cell? ⟨w.heap.size, 0, none⟩ = some (.int .i64 g.re) ∧ W.cell? ⟨w.heap.size, 1, none⟩ = some (.int .i64 g.im) ∧ W.cell? ⟨BB, 0, none⟩ = some (.slice (some ⟨bX, oX, none⟩) k cx) ∧ W.cell? ⟨BB, 1, none⟩ = some (.int .i64 ex) ∧ W.cell? ⟨BB, 2, none⟩ = some (.bool false) ∧ W.cell? ⟨BB, 3, none⟩ = some (.slice su ls.length sc4) ∧ W.cell? ⟨BC, 0, none⟩ = some (.slice (some ⟨bY, oY, none⟩) k cy) ∧ W.cell? ⟨BC, 1, none⟩ = some (.int .i64 ey) ∧ W.cell? ⟨BC, 2, none⟩ = some (.bool false) ∧ W.cell? ⟨BC, 3, none⟩ = some (.slice sv ls'.length sc5) ∧ W.cell? ⟨bX, oX + 0 * 2, none⟩ = some (.int .i64 g.re) ∧ W.cell? ⟨bX, oX + 0 * 2 + 1, none⟩ = some (.int .i64 g.im)) := fun W hG => ⟨(CellsAt.gr R7 hG).cell 0, (CellsAt.gr R7 hG).cell 1, (CellsAt.gr B7 hG).cell 0, (CellsAt.gr B7 hG).cell 1, (CellsAt.gr B7 hG).cell 2, (CellsAt.gr B7 hG).cell 3, (CellsAt.gr C7 hG).cell 0, (CellsAt.gr C7 hG).cell 1, (CellsAt.gr C7 hG).cell 2, (CellsAt.gr C7 hG).cell 3, (hG.cell (p := ⟨bX, _, none⟩) hbXr).trans k0, (hG.cell (p := ⟨bX, _, none⟩) hbXr).trans k1⟩
       simp only [Nat.zero_mul, Nat.add_zero] at KS
       clear k0 k1
       have hclG := gr_closed wr
       try simp only [List.append_eq, List.cons_append, List.nil_append]
       refine wp_region_grow (S := Gr wr) rfl (Gr.drew (Gr.refl _)) ?_
       refine gK 0 hclG KS ?_
       refine gK 1 hclG KS ?_
       refine gK 2 hclG KS ?_
       refine gK 3 hclG KS ?_
       refine gK 4 hclG KS ?_
       refine gK 5 hclG KS ?_
       refine gT 6 hclG ?_
       refine gT 7 hclG ?_
       refine gT 8 hclG ?_
       refine gT 9 hclG ?_
       refine gT 10 hclG ?_
       refine wpG_skip (i := 11) hclG rfl (by kernel_rfl) (by kernel_rfl) (by kernel_rfl) (fun _ _ _ h => h) (by rfl) ?_
       try simp only [Act.put, putS]
       refine wpG_skip (i := 12) hclG rfl (by kernel_rfl) (by kernel_rfl) (by kernel_rfl) (fun _ _ _ h => h) (by rfl) ?_
       try simp only [Act.put, putS]
       refine wpG_skip (i := 13) hclG rfl (by kernel_rfl) (by kernel_rfl) (by kernel_rfl) (fun _ _ _ h => h) (by rfl) ?_
       try simp only [Act.put, putS]
       refine wpG_skip (i := 14) hclG rfl (by kernel_rfl) (by kernel_rfl) (by kernel_rfl) (fun _ _ _ h => h) (by rfl) ?_
       try simp only [Act.put, putS]
       refine wpG_skip (i := 15) hclG rfl (by kernel_rfl) (by kernel_rfl) (by kernel_rfl) (fun _ _ _ h => h) (by rfl) ?_
       try simp only [Act.put, putS]
       refine wpG_skip (i := 16) hclG rfl (by kernel_rfl) (by kernel_rfl) (by kernel_rfl) (fun _ _ _ h => h) (by rfl) ?_
       try simp only [Act.put, putS]
       refine wpG_skip (i := 17) hclG rfl (by kernel_rfl) (by kernel_rfl) (by kernel_rfl) (fun _ _ _ h => h) (by rfl) ?_
       try simp only [Act.put, putS]
       refine gT 18 hclG ?_
       refine gT 19 hclG ?_
       refine wpG_done (by kernel_rfl) (fun wa ga => ?_) _
       replace ga := (Gr.drew (Gr.refl wr)).trans ga
       have gd := g9.trans ga
       clear KS hclG B7 C7 R7
       go_wp2_with fail
       go_roundw
       case rel => exact ⟨1, by omega, by go_num, gd⟩
       case measure => simp [intOf]; omega
     ·obtain rfl : q = k := by omega
      clear HCX6 HCY6 HX1 HY1 HX HY AL HP
      go_wp2_with fail
      go_ret
      exact ⟨rfl, z6.trans g9⟩
end
end Go.Proofs.YtablflakcaimmaaGreat
