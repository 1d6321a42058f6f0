import Derived.Test.YtdignnmpfkgkoaaGreatGS42
namespace Go.Proofs.YtdignnmpfkgkoaaGreat
section
open Go.ChangeShapes Go.WideShapes Go.ChangeAt Go.RowKit
set_option linter.unusedVariables false
set_option linter.unusedSimpArgs false
set_option maxRecDepth 100000
set_option maxHeartbeats 4000000 in
theorem ends18_no (p : Option Addr) (l1 cap1 m1 : Nat) (fo lo ke sc mo : Int) (iv : Bool) (xs : List Int) (hm1 : m1 ≤ cap1) (hmin1 : (if (140 : Int) < (l1 : Int) then 140 else (l1 : Int)) = (m1 : Int)) (y : Int) (hy0 : ¬ y = 0) (hyb : (y == 0) = false) (HP : Hid (∀ W, NumsAt W (.slice p m1 cap1) xs → Calls Tryz.prog 7 #[.slice p m1 cap1, .agg #[.int .i64 fo, .int .i64 lo, .int .i64 ke, .int .i64 sc, .int .i64 mo, .bool iv]] W fun e w' => e = .returned (.tuple #[.agg #[.slice none 0 0, .int .i64 0, .bool false, .slice none 0 0], .int .i64 y]) ∧ Gr W w')) (AL : CR 12 #[] (.bool true)) (w : World) (hx : NumsAt w (.slice p m1 cap1) xs) :
 Calls Tryz.prog 5 #[.slice p l1 cap1, .agg #[.int .i64 fo, .int .i64 lo, .int .i64 ke, .int .i64 sc, .int .i64 mo, .bool iv]] w fun e w' => e = .returned (.bool true) ∧ Gr w w' := by
 have hcut1 := run_cut_int p l1 cap1 m1 hm1
 have VX := Lib.hid hx
 clear hx
 go_enter Tryz.func5, Tryz.ntmps5
 go_wp2_with fail
 obtain ⟨u0, hU⟩ : ∃ uu, uu = (w.alloc (.cells #[.int .i64 fo, .int .i64 lo, .int .i64 ke, .int .i64 sc, .int .i64 mo, .bool iv] 24)) := ⟨_, rfl⟩
 have ⟨gu, R0⟩ := lay1 hU
 rw [← hU]
 clear hU
 have lp := R0.lt
 obtain ⟨cp0, cp1, cp2, cp3, cp4, cp5⟩ := R0.t6
 go_wp2_with fail
 clear cp0 cp1 cp2 cp3 cp4 cp5
 refine (HP.out _ (VX.out.gr gu)).mono ?_
 rintro e w1 ⟨rfl, g1⟩
 have ⟨Fp_1, lp_1⟩ := CellsAt.gl (R0) g1
 have z1 := (gu).trans g1
 clear R0 gu g1
 obtain ⟨cp0, cp1, cp2, cp3, cp4, cp5⟩ := Fp_1.t6
 go_wp2_with fail
 clear cp0 cp1 cp2 cp3 cp4 cp5
 obtain ⟨u2, hqp1⟩ : ∃ zz, zz = (w1.alloc (.cells #[.slice none 0 0, .int .i64 0, .bool false, .slice none 0 0] 27)) := ⟨_, rfl⟩
 have Yp_p1 : CellsAt u2 (w.heap.size) 24 #[.int .i64 fo, .int .i64 lo, .int .i64 ke, .int .i64 sc, .int .i64 mo, .bool iv] := by rw [hqp1]; first | exact (Fp_1).alloc _ | simpa using (Fp_1).alloc _
 have Yb_p1 : CellsAt u2 (w1.heap.size) 27 #[.slice none 0 0, .int .i64 0, .bool false, .slice none 0 0] := by rw [hqp1]; first | exact CellsAt.new w1 27 #[.slice none 0 0, .int .i64 0, .bool false, .slice none 0 0] | simpa using CellsAt.new w1 27 #[.slice none 0 0, .int .i64 0, .bool false, .slice none 0 0]
 have yp1 : Gr w u2 := by rw [hqp1]; exact (z1).alloc _ _
 rw [← hqp1]
 clear hqp1
 refine (AL.out _).mono ?_
 rintro e w2 ⟨rfl, g2⟩
 have ⟨Fp_2, lp_2⟩ := CellsAt.gl (Yp_p1) g2
 have ⟨Fb_2, lb_2⟩ := CellsAt.gl (Yb_p1) g2
 have z2 := (yp1).trans g2
 clear Yp_p1 Yb_p1 yp1 g2
 obtain ⟨cb0, cb1, cb2, cb3⟩ := Fb_2.t4
 go_wp2_with fail
 clear cb0 cb1 cb2 cb3
 go_ret
 exact ⟨by first | rfl | (simp; done), z2⟩
set_option maxHeartbeats 16000000 in
theorem ends18_n (p : Option Addr) (l1 cap1 m1 : Nat) (fo lo ke sc mo : Int) (iv : Bool) (xs : List Int) (hm1 : m1 ≤ cap1) (hmin1 : (if (140 : Int) < (l1 : Int) then 140 else (l1 : Int)) = (m1 : Int)) (hl1 : xs.length = m1) (h1p : 0 < m1) (h140 : m1 ≤ 140) (X : List Gi) (m : Nat) (e2 x0 x1 r0 : Int) (s2 : Bool) (hscb : (sc == 2) = false) (sh : List Int)
 (HP : Hid (∀ W, NumsAt W (.slice p m1 cap1) xs → Calls Tryz.prog 7 #[.slice p m1 cap1, .agg #[.int .i64 fo, .int .i64 lo, .int .i64 ke, .int .i64 sc, .int .i64 mo, .bool iv]] W fun e w' => ∃ vx vs, e = .returned (.tuple #[.agg #[vx, .int .i64 e2, .bool s2, vs], .int .i64 0]) ∧ CxsAt w' vx X ∧ NumsAt w' vs sh ∧ Gr W w'))
 (HC : Hid (∀ a ∈ X, (∀ W, Calls Tryz.prog 23 #[.int .i64 a.re, .int .i64 fo] W fun e w' => e = .returned (.tuple #[.int .i64 a.re, .bool false, .int .i64 0]) ∧ Gr W w') ∧ (∀ W, Calls Tryz.prog 23 #[.int .i64 a.im, .int .i64 fo] W fun e w' => e = .returned (.tuple #[.int .i64 a.im, .bool false, .int .i64 0]) ∧ Gr W w')))
 (HXL : Hid (X.length = m + 1)) (HMM : Hid (0 < m + 1 ∧ (m1 : Int) / 2 = (m : Int) ∧ IntKind.i64.wrap ((m : Int) + 1) = (m : Int) + 1 ∧ (m : Int) < (m : Int) + 1 ∧ (0 : Int) < (m : Int) + 1))
 (H0 : Hid (X[0]? = some ⟨x0, 0⟩)) (HM0 : Hid (X[m]? = some ⟨x1, 0⟩)) (hr0 : xs[0]? = some r0)
 (ZZ SS : Nat → Bool) (HZZ : Hid ((ZZ 0 = true ∧ SS 0 = true) ∧ ∀ j x, xs[j]? = some x → ZZ (j + 1) = (ZZ j && (x == 0)) ∧ SS (j + 1) = (SS j && (x == r0))))
 (HZX : Hid (ZZ m1 = true → ∀ a ∈ X, a = ⟨0, 0⟩)) (AL : CR 12 #[] (.bool true)) (w : World) (hx : NumsAt w (.slice p m1 cap1) xs) :
 Calls Tryz.prog 5 #[.slice p l1 cap1, .agg #[.int .i64 fo, .int .i64 lo, .int .i64 ke, .int .i64 sc, .int .i64 mo, .bool iv]] w fun e w' => e = .returned (.bool true) ∧ Gr w w' := by
 obtain ⟨nb, no, nc, hsl, _, hnb, hnc⟩ := hx.at (by intro e; rw [e] at hl1; simp at hl1; omega)
 rw [hl1] at hsl
 cases hsl
 have hcut1 := run_cut_int (some ⟨nb, no, none⟩) l1 cap1 m1 hm1
 have VX := Lib.hid hx
 have HNC := Lib.hid hnc
 clear hx hnc
 go_enter Tryz.func5, Tryz.ntmps5
 go_wp2_with fail
 obtain ⟨u0, hU⟩ : ∃ uu, uu = (w.alloc (.cells #[.int .i64 fo, .int .i64 lo, .int .i64 ke, .int .i64 sc, .int .i64 mo, .bool iv] 24)) := ⟨_, rfl⟩
 have ⟨gu, R0⟩ := lay1 hU
 rw [← hU]
 clear hU
 have lp := R0.lt
 obtain ⟨cp0, cp1, cp2, cp3, cp4, cp5⟩ := R0.t6
 go_wp2_with fail
 clear cp0 cp1 cp2 cp3 cp4 cp5
 refine (HP.out _ (VX.out.gr gu)).mono ?_
 rintro e w1 ⟨vx, vs, rfl, hx1, hs1, g1⟩
 have ⟨Fp_1, lp_1⟩ := CellsAt.gl (R0) g1
 have z1 := (gu).trans g1
 clear R0 gu g1
 obtain ⟨xp, xc, rfl⟩ := hx1.len
 obtain ⟨tp, tc, rfl⟩ := hs1.len
 rw [HXL.out] at hx1 ⊢
 obtain ⟨xb, xo, xc2, hsl, _, hxb, hxc⟩ := hx1.at (by intro e; have h1 := HXL.out; rw [e] at h1; simp at h1)
 rw [HXL.out] at hsl
 cases hsl
 have HXC := Lib.hid hxc
 have X0 := (hxc 0 _ H0.out).2
 have XM := (hxc m _ HM0.out).2
 simp only [Nat.zero_mul, Nat.add_zero] at X0 XM
 clear hxc hx1
 obtain ⟨f0, f1, f2, f3, f4⟩ := HMM.out
 obtain ⟨cp0, cp1, cp2, cp3, cp4, cp5⟩ := Fp_1.t6
 go_wp2_with fail
 clear cp0 cp1 cp2 cp3 cp4 cp5
 have hxu0 : Gr w1 (w1.alloc (.cells #[.slice (some ⟨xb, xo, none⟩) (m + 1) xc, .int .i64 e2, .bool s2, .slice tp sh.length tc] 27)) := (Gr.refl w1).alloc _ _
 obtain ⟨u2, hqq⟩ : ∃ zz, zz = (w1.alloc (.cells #[.slice (some ⟨xb, xo, none⟩) (m + 1) xc, .int .i64 e2, .bool s2, .slice tp sh.length tc] 27)) := ⟨_, rfl⟩
 rw [← hqq] at hxu0
 have Qp : CellsAt u2 (w.heap.size) 24 #[.int .i64 fo, .int .i64 lo, .int .i64 ke, .int .i64 sc, .int .i64 mo, .bool iv] := by rw [hqq]; first | exact (Fp_1).alloc _ | simpa using (Fp_1).alloc _
 have Qb : CellsAt u2 (w1.heap.size) 27 #[.slice (some ⟨xb, xo, none⟩) (m + 1) xc, .int .i64 e2, .bool s2, .slice tp sh.length tc] := by rw [hqq]; first | exact CellsAt.new w1 27 #[.slice (some ⟨xb, xo, none⟩) (m + 1) xc, .int .i64 e2, .bool s2, .slice tp sh.length tc] | simpa using CellsAt.new w1 27 #[.slice (some ⟨xb, xo, none⟩) (m + 1) xc, .int .i64 e2, .bool s2, .slice tp sh.length tc]
 have yq : Gr w u2 := by rw [hqq]; exact (z1).alloc _ _
 rw [← hqq]
 clear hqq X0 XM
 refine (AL.out _).mono ?_
 rintro e w2 ⟨rfl, g2⟩
 have hxu := hxu0.trans g2
 have ⟨Fp_2, lp_2⟩ := CellsAt.gl (Qp) g2
 have ⟨Fb_2, lb_2⟩ := CellsAt.gl (Qb) g2
 have z2 := (yq).trans g2
 clear Qp Qb yq g2
 skip
 go_wp2_with fail
 obtain ⟨u3, hu3⟩ : ∃ zz, zz = w2 := ⟨_, rfl⟩
 rw [← hu3]
 rw [← hu3] at Fb_2 Fp_2 z2 hxu
 clear hu3
 have hxb3 : xb < u3.heap.size := Nat.lt_of_lt_of_le hxb hxu.size
 have hm140 : (m1 : Int) ≤ 140 := by omega
 go_loopw [8, 9, 11, 72] (fun z s _ i wr => ∃ j : Nat, j ≤ m1 ∧ i = .int .i64 j ∧ z = .bool (ZZ j) ∧ s = .bool (SS j) ∧ Gr u3 wr) (fun _ _ _ i _ => m1 - (intOf i).toNat)
 case atStart => exact ⟨0, by omega, rfl, by rw [HZZ.out.1.1], by rw [HZZ.out.1.2], Gr.refl _⟩
 case round =>
  obtain ⟨j, hj, rfl, rfl, rfl, hgw⟩ := hrel
  have hga := (z2).trans hgw
  have hnw : nb < wr.heap.size := Nat.lt_of_lt_of_le hnb hga.size
  by_cases hlt : j < m1
  ·have hjI : (j : Int) < (m1 : Int) := by omega
   obtain ⟨x, hxj⟩ := get_of_lt (xs := xs) (show j < xs.length by omega)
   have cj := (hga.cell (p := ⟨nb, no + j, none⟩) hnb).trans (HNC.out j x hxj)
   have c0 := (hga.cell (p := ⟨nb, no + 0, none⟩) hnb).trans (HNC.out 0 r0 hr0)
   simp only [Nat.add_zero] at c0
   have HN := Lib.hid (HZZ.out.2 j x hxj)
   have h1p' : (0 : Int) < (m1 : Int) := by omega
   clear hxj z2 hga
   generalize ZZ j = z at *
   generalize SS j = s at *
   go_wp2_with fail
   cases z
   ·cases s
    ·skip
     have hclG := gr_closed wr
     try simp only [List.append_eq, List.cons_append, List.nil_append]
     refine wp_region_grow (S := Gr wr) rfl (Gr.drew (Gr.refl _)) ?_
     refine gT 0 hclG ?_
     refine gT 1 hclG ?_
     refine wpG_skip (i := 2) hclG rfl (by kernel_rfl) (by kernel_rfl) (by kernel_rfl) (fun _ _ _ h => h) (by rfl) ?_
     try simp only [Act.put, putS]
     refine wpG_skip (i := 3) hclG rfl (by kernel_rfl) (by kernel_rfl) (by kernel_rfl) (fun _ _ _ h => h) (by rfl) ?_
     try simp only [Act.put, putS]
     refine gT 4 hclG ?_
     refine gT 5 hclG ?_
     refine gT 6 hclG ?_
     refine wpG_skip (i := 7) hclG rfl (by kernel_rfl) (by kernel_rfl) (by kernel_rfl) (fun _ _ _ h => h) (by rfl) ?_
     try simp only [Act.put, putS]
     refine wpG_skip (i := 8) hclG rfl (by kernel_rfl) (by kernel_rfl) (by kernel_rfl) (fun _ _ _ h => h) (by rfl) ?_
     try simp only [Act.put, putS]
     refine wpG_skip (i := 9) hclG rfl (by kernel_rfl) (by kernel_rfl) (by kernel_rfl) (fun _ _ _ h => h) (by rfl) ?_
     try simp only [Act.put, putS]
     refine wpG_skip (i := 10) hclG rfl (by kernel_rfl) (by kernel_rfl) (by kernel_rfl) (fun _ _ _ h => h) (by rfl) ?_
     try simp only [Act.put, putS]
     refine wpG_skip (i := 11) hclG rfl (by kernel_rfl) (by kernel_rfl) (by kernel_rfl) (fun _ _ _ h => h) (by rfl) ?_
     try simp only [Act.put, putS]
     refine gT 12 hclG ?_
     refine gT 13 hclG ?_
     refine gT 14 hclG ?_
     refine wpG_done (by kernel_rfl) (fun wc1 gc1 => ?_) _
     replace gc1 := (Gr.drew (Gr.refl wr)).trans gc1
     have zc1 := (hgw).trans gc1
     clear hgw gc1
     clear hclG
     go_wp2_with fail
     go_roundw
     case rel => exact ⟨j + 1, by omega, by go_num, by rw [HN.out.1]; first | rfl | simp, by rw [HN.out.2]; first | rfl | simp, zc1⟩
     case measure => simp [intOf]; omega
    ·skip
     have KS : ∀ W, Gr wr W → W.cell? ⟨nb, no, none⟩ = some (.int .i64 r0) := fun W hG => (hG.cell (p := ⟨nb, no, none⟩) hnw).trans c0
     have hclG := gr_closed wr
     try simp only [List.append_eq, List.cons_append, List.nil_append]
     refine wp_region_grow (S := Gr wr) rfl (Gr.drew (Gr.refl _)) ?_
     refine gT 0 hclG ?_
     refine gT 1 hclG ?_
     refine wpG_skip (i := 2) hclG rfl (by kernel_rfl) (by kernel_rfl) (by kernel_rfl) (fun _ _ _ h => h) (by rfl) ?_
     try simp only [Act.put, putS]
     refine wpG_skip (i := 3) hclG rfl (by kernel_rfl) (by kernel_rfl) (by kernel_rfl) (fun _ _ _ h => h) (by rfl) ?_
     try simp only [Act.put, putS]
     refine gT 4 hclG ?_
     refine gT 5 hclG ?_
     refine gT 6 hclG ?_
     refine gT 7 hclG ?_
     refine gT 8 hclG ?_
     refine gT 9 hclG ?_
     refine gK 10 hclG KS ?_
     refine gT 11 hclG ?_
     refine gT 12 hclG ?_
     refine gT 13 hclG ?_
     refine gT 14 hclG ?_
     refine wpG_done (by kernel_rfl) (fun wc1 gc1 => ?_) _
     replace gc1 := (Gr.drew (Gr.refl wr)).trans gc1
     have zc1 := (hgw).trans gc1
     clear hgw gc1
     clear hclG KS
     go_wp2_with fail
     go_roundw
     case rel => exact ⟨j + 1, by omega, by go_num, by rw [HN.out.1]; first | rfl | simp, by rw [HN.out.2]; first | rfl | simp, zc1⟩
     case measure => simp [intOf]; omega
   ·cases s
    ·skip
     have hclG := gr_closed wr
     try simp only [List.append_eq, List.cons_append, List.nil_append]
     refine wp_region_grow (S := Gr wr) rfl (Gr.drew (Gr.refl _)) ?_
     refine gT 0 hclG ?_
     refine gT 1 hclG ?_
     refine gT 2 hclG ?_
     refine gT 3 hclG ?_
     refine gT 4 hclG ?_
     refine gT 5 hclG ?_
     refine gT 6 hclG ?_
     refine wpG_skip (i := 7) hclG rfl (by kernel_rfl) (by kernel_rfl) (by kernel_rfl) (fun _ _ _ h => h) (by rfl) ?_
     try simp only [Act.put, putS]
     refine wpG_skip (i := 8) hclG rfl (by kernel_rfl) (by kernel_rfl) (by kernel_rfl) (fun _ _ _ h => h) (by rfl) ?_
     try simp only [Act.put, putS]
     refine wpG_skip (i := 9) hclG rfl (by kernel_rfl) (by kernel_rfl) (by kernel_rfl) (fun _ _ _ h => h) (by rfl) ?_
     try simp only [Act.put, putS]
     refine wpG_skip (i := 10) hclG rfl (by kernel_rfl) (by kernel_rfl) (by kernel_rfl) (fun _ _ _ h => h) (by rfl) ?_
     try simp only [Act.put, putS]
     refine wpG_skip (i := 11) hclG rfl (by kernel_rfl) (by kernel_rfl) (by kernel_rfl) (fun _ _ _ h => h) (by rfl) ?_
     try simp only [Act.put, putS]
     refine gT 12 hclG ?_
     refine gT 13 hclG ?_
     refine gT 14 hclG ?_
     refine wpG_done (by kernel_rfl) (fun wc1 gc1 => ?_) _
     replace gc1 := (Gr.drew (Gr.refl wr)).trans gc1
     have zc1 := (hgw).trans gc1
     clear hgw gc1
     clear hclG
     go_wp2_with fail
     go_roundw
     case rel => exact ⟨j + 1, by omega, by go_num, by rw [HN.out.1]; first | rfl | simp, by rw [HN.out.2]; first | rfl | simp, zc1⟩
     case measure => simp [intOf]; omega
    ·skip
     have KS : ∀ W, Gr wr W → W.cell? ⟨nb, no, none⟩ = some (.int .i64 r0) := fun W hG => (hG.cell (p := ⟨nb, no, none⟩) hnw).trans c0
     have hclG := gr_closed wr
     try simp only [List.append_eq, List.cons_append, List.nil_append]
     refine wp_region_grow (S := Gr wr) rfl (Gr.drew (Gr.refl _)) ?_
     refine gT 0 hclG ?_
     refine gT 1 hclG ?_
     refine gT 2 hclG ?_
     refine gT 3 hclG ?_
     refine gT 4 hclG ?_
     refine gT 5 hclG ?_
     refine gT 6 hclG ?_
     refine gT 7 hclG ?_
     refine gT 8 hclG ?_
     refine gT 9 hclG ?_
     refine gK 10 hclG KS ?_
     refine gT 11 hclG ?_
     refine gT 12 hclG ?_
     refine gT 13 hclG ?_
     refine gT 14 hclG ?_
     refine wpG_done (by kernel_rfl) (fun wc1 gc1 => ?_) _
     replace gc1 := (Gr.drew (Gr.refl wr)).trans gc1
     have zc1 := (hgw).trans gc1
     clear hgw gc1
     clear hclG KS
     go_wp2_with fail
     go_roundw
     case rel => exact ⟨j + 1, by omega, by go_num, by rw [HN.out.1]; first | rfl | simp, by rw [HN.out.2]; first | rfl | simp, zc1⟩
     case measure => simp [intOf]; omega
  ·obtain rfl : j = m1 := by omega
   have hjI : ¬ (j : Int) < (j : Int) := by omega
   have BV0 := CellsAt.gr Fb_2 hgw
   have PV0 := CellsAt.gr Fp_2 hgw
   have hxg := hxu.trans hgw
   have cb0 := CellsAt.cell BV0 0
   simp only [getS] at cb0
   have HZY := Lib.hid HZX.out
   have HSY := Lib.hid True.intro
   clear HZZ HZX hxu Fb_2 Fp_2
   have hm70 : (m : Int) ≤ 70 := by have := HMM.out.2.1; omega
   generalize ZZ j = z at *
   generalize SS j = s at *
   go_wp2_with fail
   clear cb0
   obtain ⟨wl, hwl⟩ : ∃ zz, zz = wr := ⟨_, rfl⟩
   subst hwl
   go_loopw [93] (fun i wv => ∃ k : Nat, k ≤ m + 1 ∧ i = .int .i64 k ∧ CellsAt wv (w1.heap.size) 27 #[.slice (some ⟨xb, xo, none⟩) (m + 1) xc, .int .i64 e2, .bool s2, .slice tp sh.length tc] ∧ CellsAt wv (w.heap.size) 24 #[.int .i64 fo, .int .i64 lo, .int .i64 ke, .int .i64 sc, .int .i64 mo, .bool iv] ∧ Gr wl wv) (fun i _ => m + 1 - (intOf i).toNat)
   case atStart => exact ⟨0, by omega, rfl, BV0, PV0, Gr.refl _⟩
   case round =>
    clear BV0 PV0
    obtain ⟨k, hk, rfl, BV, PV, hg2⟩ := hrel
    have hgw2 := hga.trans hg2
    by_cases hlt : k < m + 1
    ·have hkI : (k : Int) < (m : Int) + 1 := by omega
     obtain ⟨a, ha⟩ := get_of_lt (xs := X) (show k < X.length by rw [HXL.out]; exact hlt)
     have a1 := ((hxg.trans hg2).cell (p := ⟨xb, xo + k * 2, none⟩) hxb).trans (HXC.out k a ha).1
     have a2 := ((hxg.trans hg2).cell (p := ⟨xb, xo + k * 2 + 1, none⟩) hxb).trans (HXC.out k a ha).2
     have hxv : xb < wr.heap.size := Nat.lt_of_lt_of_le hxb (hxg.trans hg2).size
     obtain ⟨HA, HB⟩ := HC.out a (List.mem_of_getElem? ha)
     have HA := Lib.hid HA
     have HB := Lib.hid HB
     have HZ1 := Lib.hid (fun hz => HZY.out hz a (List.mem_of_getElem? ha))
     skip
     clear ha HC HSY HZY
     obtain ⟨re, im⟩ := a
     simp only [Gi.mk.injEq] at a1 a2 HA HB HZ1
     have lp := CellsAt.lt PV
     have lb := CellsAt.lt BV
     obtain ⟨cb0, cb1, cb2, cb3⟩ := BV.t4
     obtain ⟨cp0, cp1, cp2, cp3, cp4, cp5⟩ := PV.t6
     go_wp2_with fail
     clear cb0 cb1 cb2 cb3 cp0 cp1 cp2 cp3 cp4 cp5
     obtain ⟨va, hqdp1⟩ : ∃ zz, zz = (wr.alloc (.cells #[.int .i64 re, .int .i64 im] 50)) := ⟨_, rfl⟩
     have Yp_dp1 : CellsAt va (w.heap.size) 24 #[.int .i64 fo, .int .i64 lo, .int .i64 ke, .int .i64 sc, .int .i64 mo, .bool iv] := by rw [hqdp1]; first | exact (PV).alloc _ | simpa using (PV).alloc _
     have Yb_dp1 : CellsAt va (w1.heap.size) 27 #[.slice (some ⟨xb, xo, none⟩) (m + 1) xc, .int .i64 e2, .bool s2, .slice tp sh.length tc] := by rw [hqdp1]; first | exact (BV).alloc _ | simpa using (BV).alloc _
     have Ya_dp1 : CellsAt va (wr.heap.size) 50 #[.int .i64 re, .int .i64 im] := by rw [hqdp1]; first | exact CellsAt.new wr 50 #[.int .i64 re, .int .i64 im] | simpa using CellsAt.new wr 50 #[.int .i64 re, .int .i64 im]
     have ydp1 : Gr wl va := by rw [hqdp1]; exact (hg2).alloc _ _
     rw [← hqdp1]
     clear hqdp1
     refine (HA.out _).mono ?_
     rintro e wd1 ⟨rfl, gd1⟩
     have ⟨Fp_d1, lp_d1⟩ := CellsAt.gl (Yp_dp1) gd1
     have ⟨Fb_d1, lb_d1⟩ := CellsAt.gl (Yb_dp1) gd1
     have ⟨Fa_d1, la_d1⟩ := CellsAt.gl (Ya_dp1) gd1
     have zd1 := (ydp1).trans gd1
     clear Yp_dp1 Yb_dp1 Ya_dp1 ydp1 gd1
     obtain ⟨ca0, ca1⟩ := Fa_d1.t2
     obtain ⟨cp0, cp1, cp2, cp3, cp4, cp5⟩ := Fp_d1.t6
     go_wp2_with fail
     clear ca0 ca1 cp0 cp1 cp2 cp3 cp4 cp5
     refine (HB.out _).mono ?_
     rintro e wd2 ⟨rfl, gd2⟩
     have ⟨Fp_d2, lp_d2⟩ := CellsAt.gl (Fp_d1) gd2
     have ⟨Fb_d2, lb_d2⟩ := CellsAt.gl (Fb_d1) gd2
     have ⟨Fa_d2, la_d2⟩ := CellsAt.gl (Fa_d1) gd2
     have zd2 := (zd1).trans gd2
     clear Fp_d1 Fb_d1 Fa_d1 zd1 gd2
     obtain ⟨ca0, ca1⟩ := Fa_d2.t2
     obtain ⟨cb0, cb1, cb2, cb3⟩ := Fb_d2.t4
     obtain ⟨cp0, cp1, cp2, cp3, cp4, cp5⟩ := Fp_d2.t6
     cases z
     ·cases s
      ·go_wp2_with fail
       go_roundw
       case rel => exact ⟨k + 1, by omega, by go_num, Fb_d2, Fp_d2, zd2⟩
       case measure => simp [intOf]; omega
      ·go_wp2_with fail
       go_roundw
       case rel => exact ⟨k + 1, by omega, by go_num, Fb_d2, Fp_d2, zd2⟩
       case measure => simp [intOf]; omega
     ·obtain ⟨rfl, rfl⟩ : re = 0 ∧ im = 0 := HZ1.out rfl
      cases s
      ·go_wp2_with fail
       go_roundw
       case rel => exact ⟨k + 1, by omega, by go_num, Fb_d2, Fp_d2, zd2⟩
       case measure => simp [intOf]; omega
      ·go_wp2_with fail
       go_roundw
       case rel => exact ⟨k + 1, by omega, by go_num, Fb_d2, Fp_d2, zd2⟩
       case measure => simp [intOf]; omega
    ·obtain rfl : k = m + 1 := by omega
     have hkI : ¬ ((m : Int) + 1) < (m : Int) + 1 := by omega
     go_wp2_with fail
     go_ret
     exact ⟨rfl, hgw2⟩
set_option maxHeartbeats 16000000 in
theorem ends18_t (p : Option Addr) (l1 cap1 m1 : Nat) (fo lo ke mo : Int) (iv : Bool) (xs : List Int) (hm1 : m1 ≤ cap1) (hmin1 : (if (140 : Int) < (l1 : Int) then 140 else (l1 : Int)) = (m1 : Int)) (hl1 : xs.length = m1) (h1p : 0 < m1) (h140 : m1 ≤ 140) (X : List Gi) (m : Nat) (e2 x0 x1 r0 : Int) (sh : List Int)
 (HP : Hid (∀ W, NumsAt W (.slice p m1 cap1) xs → Calls Tryz.prog 7 #[.slice p m1 cap1, .agg #[.int .i64 fo, .int .i64 lo, .int .i64 ke, .int .i64 2, .int .i64 mo, .bool iv]] W fun e w' => ∃ vx vs, e = .returned (.tuple #[.agg #[vx, .int .i64 e2, .bool true, vs], .int .i64 0]) ∧ CxsAt w' vx X ∧ NumsAt w' vs sh ∧ Gr W w'))
 (HC : Hid (∀ a ∈ X, (∀ W, Calls Tryz.prog 23 #[.int .i64 a.re, .int .i64 fo] W fun e w' => e = .returned (.tuple #[.int .i64 a.re, .bool false, .int .i64 0]) ∧ Gr W w') ∧ (∀ W, Calls Tryz.prog 23 #[.int .i64 a.im, .int .i64 fo] W fun e w' => e = .returned (.tuple #[.int .i64 a.im, .bool false, .int .i64 0]) ∧ Gr W w')))
 (HXL : Hid (X.length = m + 1)) (HMM : Hid (0 < m + 1 ∧ (m1 : Int) / 2 = (m : Int) ∧ IntKind.i64.wrap ((m : Int) + 1) = (m : Int) + 1 ∧ (m : Int) < (m : Int) + 1 ∧ (0 : Int) < (m : Int) + 1))
 (H0 : Hid (X[0]? = some ⟨x0, 0⟩)) (HM0 : Hid (X[m]? = some ⟨x1, 0⟩)) (hr0 : xs[0]? = some r0)
 (ZZ SS : Nat → Bool) (HZZ : Hid ((ZZ 0 = true ∧ SS 0 = true) ∧ ∀ j x, xs[j]? = some x → ZZ (j + 1) = (ZZ j && (x == 0)) ∧ SS (j + 1) = (SS j && (x == r0))))
 (HZX : Hid (ZZ m1 = true → ∀ a ∈ X, a = ⟨0, 0⟩)) (AL : CR 12 #[] (.bool true)) (w : World) (hx : NumsAt w (.slice p m1 cap1) xs) :
 Calls Tryz.prog 5 #[.slice p l1 cap1, .agg #[.int .i64 fo, .int .i64 lo, .int .i64 ke, .int .i64 2, .int .i64 mo, .bool iv]] w fun e w' => e = .returned (.bool true) ∧ Gr w w' := by
 obtain ⟨nb, no, nc, hsl, _, hnb, hnc⟩ := hx.at (by intro e; rw [e] at hl1; simp at hl1; omega)
 rw [hl1] at hsl
 cases hsl
 have hcut1 := run_cut_int (some ⟨nb, no, none⟩) l1 cap1 m1 hm1
 have VX := Lib.hid hx
 have HNC := Lib.hid hnc
 clear hx hnc
 go_enter Tryz.func5, Tryz.ntmps5
 go_wp2_with fail
 obtain ⟨u0, hU⟩ : ∃ uu, uu = (w.alloc (.cells #[.int .i64 fo, .int .i64 lo, .int .i64 ke, .int .i64 2, .int .i64 mo, .bool iv] 24)) := ⟨_, rfl⟩
 have ⟨gu, R0⟩ := lay1 hU
 rw [← hU]
 clear hU
 have lp := R0.lt
 obtain ⟨cp0, cp1, cp2, cp3, cp4, cp5⟩ := R0.t6
 go_wp2_with fail
 clear cp0 cp1 cp2 cp3 cp4 cp5
 refine (HP.out _ (VX.out.gr gu)).mono ?_
 rintro e w1 ⟨vx, vs, rfl, hx1, hs1, g1⟩
 have ⟨Fp_1, lp_1⟩ := CellsAt.gl (R0) g1
 have z1 := (gu).trans g1
 clear R0 gu g1
 obtain ⟨xp, xc, rfl⟩ := hx1.len
 obtain ⟨tp, tc, rfl⟩ := hs1.len
 rw [HXL.out] at hx1 ⊢
 obtain ⟨xb, xo, xc2, hsl, _, hxb, hxc⟩ := hx1.at (by intro e; have h1 := HXL.out; rw [e] at h1; simp at h1)
 rw [HXL.out] at hsl
 cases hsl
 have HXC := Lib.hid hxc
 have X0 := (hxc 0 _ H0.out).2
 have XM := (hxc m _ HM0.out).2
 simp only [Nat.zero_mul, Nat.add_zero] at X0 XM
 clear hxc hx1
 obtain ⟨f0, f1, f2, f3, f4⟩ := HMM.out
 obtain ⟨cp0, cp1, cp2, cp3, cp4, cp5⟩ := Fp_1.t6
 go_wp2_with fail
 clear cp0 cp1 cp2 cp3 cp4 cp5
 have hxu0 : Gr w1 (w1.alloc (.cells #[.slice (some ⟨xb, xo, none⟩) (m + 1) xc, .int .i64 e2, .bool true, .slice tp sh.length tc] 27)) := (Gr.refl w1).alloc _ _
 obtain ⟨u2, hqq⟩ : ∃ zz, zz = (w1.alloc (.cells #[.slice (some ⟨xb, xo, none⟩) (m + 1) xc, .int .i64 e2, .bool true, .slice tp sh.length tc] 27)) := ⟨_, rfl⟩
 rw [← hqq] at hxu0
 have Qp : CellsAt u2 (w.heap.size) 24 #[.int .i64 fo, .int .i64 lo, .int .i64 ke, .int .i64 2, .int .i64 mo, .bool iv] := by rw [hqq]; first | exact (Fp_1).alloc _ | simpa using (Fp_1).alloc _
 have Qb : CellsAt u2 (w1.heap.size) 27 #[.slice (some ⟨xb, xo, none⟩) (m + 1) xc, .int .i64 e2, .bool true, .slice tp sh.length tc] := by rw [hqq]; first | exact CellsAt.new w1 27 #[.slice (some ⟨xb, xo, none⟩) (m + 1) xc, .int .i64 e2, .bool true, .slice tp sh.length tc] | simpa using CellsAt.new w1 27 #[.slice (some ⟨xb, xo, none⟩) (m + 1) xc, .int .i64 e2, .bool true, .slice tp sh.length tc]
 have yq : Gr w u2 := by rw [hqq]; exact (z1).alloc _ _
 rw [← hqq]
 clear hqq X0 XM
 refine (AL.out _).mono ?_
 rintro e w2 ⟨rfl, g2⟩
 have hxu := hxu0.trans g2
 have ⟨Fp_2, lp_2⟩ := CellsAt.gl (Qp) g2
 have ⟨Fb_2, lb_2⟩ := CellsAt.gl (Qb) g2
 have z2 := (yq).trans g2
 clear Qp Qb yq g2
 skip
 go_wp2_with fail
 obtain ⟨u3, hu3⟩ : ∃ zz, zz = w2 := ⟨_, rfl⟩
 rw [← hu3]
 rw [← hu3] at Fb_2 Fp_2 z2 hxu
 clear hu3
 have hxb3 : xb < u3.heap.size := Nat.lt_of_lt_of_le hxb hxu.size
 have hm140 : (m1 : Int) ≤ 140 := by omega
 go_loopw [8, 9, 11, 72] (fun z s _ i wr => ∃ j : Nat, j ≤ m1 ∧ i = .int .i64 j ∧ z = .bool (ZZ j) ∧ s = .bool (SS j) ∧ Gr u3 wr) (fun _ _ _ i _ => m1 - (intOf i).toNat)
 case atStart => exact ⟨0, by omega, rfl, by rw [HZZ.out.1.1], by rw [HZZ.out.1.2], Gr.refl _⟩
 case round =>
  obtain ⟨j, hj, rfl, rfl, rfl, hgw⟩ := hrel
  have hga := (z2).trans hgw
  have hnw : nb < wr.heap.size := Nat.lt_of_lt_of_le hnb hga.size
  by_cases hlt : j < m1
  ·have hjI : (j : Int) < (m1 : Int) := by omega
   obtain ⟨x, hxj⟩ := get_of_lt (xs := xs) (show j < xs.length by omega)
   have cj := (hga.cell (p := ⟨nb, no + j, none⟩) hnb).trans (HNC.out j x hxj)
   have c0 := (hga.cell (p := ⟨nb, no + 0, none⟩) hnb).trans (HNC.out 0 r0 hr0)
   simp only [Nat.add_zero] at c0
   have HN := Lib.hid (HZZ.out.2 j x hxj)
   have h1p' : (0 : Int) < (m1 : Int) := by omega
   clear hxj z2 hga
   generalize ZZ j = z at *
   generalize SS j = s at *
   go_wp2_with fail
   cases z
   ·cases s
    ·skip
     have hclG := gr_closed wr
     try simp only [List.append_eq, List.cons_append, List.nil_append]
     refine wp_region_grow (S := Gr wr) rfl (Gr.drew (Gr.refl _)) ?_
     refine gT 0 hclG ?_
     refine gT 1 hclG ?_
     refine wpG_skip (i := 2) hclG rfl (by kernel_rfl) (by kernel_rfl) (by kernel_rfl) (fun _ _ _ h => h) (by rfl) ?_
     try simp only [Act.put, putS]
     refine wpG_skip (i := 3) hclG rfl (by kernel_rfl) (by kernel_rfl) (by kernel_rfl) (fun _ _ _ h => h) (by rfl) ?_
     try simp only [Act.put, putS]
     refine gT 4 hclG ?_
     refine gT 5 hclG ?_
     refine gT 6 hclG ?_
     refine wpG_skip (i := 7) hclG rfl (by kernel_rfl) (by kernel_rfl) (by kernel_rfl) (fun _ _ _ h => h) (by rfl) ?_
     try simp only [Act.put, putS]
     refine wpG_skip (i := 8) hclG rfl (by kernel_rfl) (by kernel_rfl) (by kernel_rfl) (fun _ _ _ h => h) (by rfl) ?_
     try simp only [Act.put, putS]
     refine wpG_skip (i := 9) hclG rfl (by kernel_rfl) (by kernel_rfl) (by kernel_rfl) (fun _ _ _ h => h) (by rfl) ?_
     try simp only [Act.put, putS]
     refine wpG_skip (i := 10) hclG rfl (by kernel_rfl) (by kernel_rfl) (by kernel_rfl) (fun _ _ _ h => h) (by rfl) ?_
     try simp only [Act.put, putS]
     refine wpG_skip (i := 11) hclG rfl (by kernel_rfl) (by kernel_rfl) (by kernel_rfl) (fun _ _ _ h => h) (by rfl) ?_
     try simp only [Act.put, putS]
     refine gT 12 hclG ?_
     refine gT 13 hclG ?_
     refine gT 14 hclG ?_
     refine wpG_done (by kernel_rfl) (fun wc1 gc1 => ?_) _
     replace gc1 := (Gr.drew (Gr.refl wr)).trans gc1
     have zc1 := (hgw).trans gc1
     clear hgw gc1
     clear hclG
     go_wp2_with fail
     go_roundw
     case rel => exact ⟨j + 1, by omega, by go_num, by rw [HN.out.1]; first | rfl | simp, by rw [HN.out.2]; first | rfl | simp, zc1⟩
     case measure => simp [intOf]; omega
    ·skip
     have KS : ∀ W, Gr wr W → W.cell? ⟨nb, no, none⟩ = some (.int .i64 r0) := fun W hG => (hG.cell (p := ⟨nb, no, none⟩) hnw).trans c0
     have hclG := gr_closed wr
     try simp only [List.append_eq, List.cons_append, List.nil_append]
     refine wp_region_grow (S := Gr wr) rfl (Gr.drew (Gr.refl _)) ?_
     refine gT 0 hclG ?_
     refine gT 1 hclG ?_
     refine wpG_skip (i := 2) hclG rfl (by kernel_rfl) (by kernel_rfl) (by kernel_rfl) (fun _ _ _ h => h) (by rfl) ?_
     try simp only [Act.put, putS]
     refine wpG_skip (i := 3) hclG rfl (by kernel_rfl) (by kernel_rfl) (by kernel_rfl) (fun _ _ _ h => h) (by rfl) ?_
     try simp only [Act.put, putS]
     refine gT 4 hclG ?_
     refine gT 5 hclG ?_
     refine gT 6 hclG ?_
     refine gT 7 hclG ?_
     refine gT 8 hclG ?_
     refine gT 9 hclG ?_
     refine gK 10 hclG KS ?_
     refine gT 11 hclG ?_
     refine gT 12 hclG ?_
     refine gT 13 hclG ?_
     refine gT 14 hclG ?_
     refine wpG_done (by kernel_rfl) (fun wc1 gc1 => ?_) _
     replace gc1 := (Gr.drew (Gr.refl wr)).trans gc1
     have zc1 := (hgw).trans gc1
     clear hgw gc1
     clear hclG KS
     go_wp2_with fail
     go_roundw
     case rel => exact ⟨j + 1, by omega, by go_num, by rw [HN.out.1]; first | rfl | simp, by rw [HN.out.2]; first | rfl | simp, zc1⟩
     case measure => simp [intOf]; omega
   ·cases s
    ·skip
     have hclG := gr_closed wr
     try simp only [List.append_eq, List.cons_append, List.nil_append]
     refine wp_region_grow (S := Gr wr) rfl (Gr.drew (Gr.refl _)) ?_
     refine gT 0 hclG ?_
     refine gT 1 hclG ?_
     refine gT 2 hclG ?_
     refine gT 3 hclG ?_
     refine gT 4 hclG ?_
     refine gT 5 hclG ?_
     refine gT 6 hclG ?_
     refine wpG_skip (i := 7) hclG rfl (by kernel_rfl) (by kernel_rfl) (by kernel_rfl) (fun _ _ _ h => h) (by rfl) ?_
     try simp only [Act.put, putS]
     refine wpG_skip (i := 8) hclG rfl (by kernel_rfl) (by kernel_rfl) (by kernel_rfl) (fun _ _ _ h => h) (by rfl) ?_
     try simp only [Act.put, putS]
     refine wpG_skip (i := 9) hclG rfl (by kernel_rfl) (by kernel_rfl) (by kernel_rfl) (fun _ _ _ h => h) (by rfl) ?_
     try simp only [Act.put, putS]
     refine wpG_skip (i := 10) hclG rfl (by kernel_rfl) (by kernel_rfl) (by kernel_rfl) (fun _ _ _ h => h) (by rfl) ?_
     try simp only [Act.put, putS]
     refine wpG_skip (i := 11) hclG rfl (by kernel_rfl) (by kernel_rfl) (by kernel_rfl) (fun _ _ _ h => h) (by rfl) ?_
     try simp only [Act.put, putS]
     refine gT 12 hclG ?_
     refine gT 13 hclG ?_
     refine gT 14 hclG ?_
     refine wpG_done (by kernel_rfl) (fun wc1 gc1 => ?_) _
     replace gc1 := (Gr.drew (Gr.refl wr)).trans gc1
     have zc1 := (hgw).trans gc1
     clear hgw gc1
     clear hclG
     go_wp2_with fail
     go_roundw
     case rel => exact ⟨j + 1, by omega, by go_num, by rw [HN.out.1]; first | rfl | simp, by rw [HN.out.2]; first | rfl | simp, zc1⟩
     case measure => simp [intOf]; omega
    ·skip
     have KS : ∀ W, Gr wr W → W.cell? ⟨nb, no, none⟩ = some (.int .i64 r0) := fun W hG => (hG.cell (p := ⟨nb, no, none⟩) hnw).trans c0
     have hclG := gr_closed wr
     try simp only [List.append_eq, List.cons_append, List.nil_append]
     refine wp_region_grow (S := Gr wr) rfl (Gr.drew (Gr.refl _)) ?_
     refine gT 0 hclG ?_
     refine gT 1 hclG ?_
     refine gT 2 hclG ?_
     refine gT 3 hclG ?_
     refine gT 4 hclG ?_
     refine gT 5 hclG ?_
     refine gT 6 hclG ?_
     refine gT 7 hclG ?_
     refine gT 8 hclG ?_
     refine gT 9 hclG ?_
     refine gK 10 hclG KS ?_
     refine gT 11 hclG ?_
     refine gT 12 hclG ?_
     refine gT 13 hclG ?_
     refine gT 14 hclG ?_
     refine wpG_done (by kernel_rfl) (fun wc1 gc1 => ?_) _
     replace gc1 := (Gr.drew (Gr.refl wr)).trans gc1
     have zc1 := (hgw).trans gc1
     clear hgw gc1
     clear hclG KS
     go_wp2_with fail
     go_roundw
     case rel => exact ⟨j + 1, by omega, by go_num, by rw [HN.out.1]; first | rfl | simp, by rw [HN.out.2]; first | rfl | simp, zc1⟩
     case measure => simp [intOf]; omega
  ·obtain rfl : j = m1 := by omega
   have hjI : ¬ (j : Int) < (j : Int) := by omega
   have BV0 := CellsAt.gr Fb_2 hgw
   have PV0 := CellsAt.gr Fp_2 hgw
   have hxg := hxu.trans hgw
   have cb0 := CellsAt.cell BV0 0
   simp only [getS] at cb0
   have HZY := Lib.hid HZX.out
   have HSY := Lib.hid True.intro
   clear HZZ HZX hxu Fb_2 Fp_2
   have hm70 : (m : Int) ≤ 70 := by have := HMM.out.2.1; omega
   generalize ZZ j = z at *
   generalize SS j = s at *
   go_wp2_with fail
   clear cb0
   obtain ⟨wl, hwl⟩ : ∃ zz, zz = wr := ⟨_, rfl⟩
   subst hwl
   go_loopw [93] (fun i wv => ∃ k : Nat, k ≤ m + 1 ∧ i = .int .i64 k ∧ CellsAt wv (w1.heap.size) 27 #[.slice (some ⟨xb, xo, none⟩) (m + 1) xc, .int .i64 e2, .bool true, .slice tp sh.length tc] ∧ CellsAt wv (w.heap.size) 24 #[.int .i64 fo, .int .i64 lo, .int .i64 ke, .int .i64 2, .int .i64 mo, .bool iv] ∧ Gr wl wv) (fun i _ => m + 1 - (intOf i).toNat)
   case atStart => exact ⟨0, by omega, rfl, BV0, PV0, Gr.refl _⟩
   case round =>
    clear BV0 PV0
    obtain ⟨k, hk, rfl, BV, PV, hg2⟩ := hrel
    have hgw2 := hga.trans hg2
    by_cases hlt : k < m + 1
    ·have hkI : (k : Int) < (m : Int) + 1 := by omega
     obtain ⟨a, ha⟩ := get_of_lt (xs := X) (show k < X.length by rw [HXL.out]; exact hlt)
     have a1 := ((hxg.trans hg2).cell (p := ⟨xb, xo + k * 2, none⟩) hxb).trans (HXC.out k a ha).1
     have a2 := ((hxg.trans hg2).cell (p := ⟨xb, xo + k * 2 + 1, none⟩) hxb).trans (HXC.out k a ha).2
     have hxv : xb < wr.heap.size := Nat.lt_of_lt_of_le hxb (hxg.trans hg2).size
     obtain ⟨HA, HB⟩ := HC.out a (List.mem_of_getElem? ha)
     have HA := Lib.hid HA
     have HB := Lib.hid HB
     have HZ1 := Lib.hid (fun hz => HZY.out hz a (List.mem_of_getElem? ha))
     skip
     clear ha HC HSY HZY
     obtain ⟨re, im⟩ := a
     simp only [Gi.mk.injEq] at a1 a2 HA HB HZ1
     have lp := CellsAt.lt PV
     have lb := CellsAt.lt BV
     obtain ⟨cb0, cb1, cb2, cb3⟩ := BV.t4
     obtain ⟨cp0, cp1, cp2, cp3, cp4, cp5⟩ := PV.t6
     go_wp2_with fail
     clear cb0 cb1 cb2 cb3 cp0 cp1 cp2 cp3 cp4 cp5
     obtain ⟨va, hqdp1⟩ : ∃ zz, zz = (wr.alloc (.cells #[.int .i64 re, .int .i64 im] 50)) := ⟨_, rfl⟩
     have Yp_dp1 : CellsAt va (w.heap.size) 24 #[.int .i64 fo, .int .i64 lo, .int .i64 ke, .int .i64 2, .int .i64 mo, .bool iv] := by rw [hqdp1]; first | exact (PV).alloc _ | simpa using (PV).alloc _
     have Yb_dp1 : CellsAt va (w1.heap.size) 27 #[.slice (some ⟨xb, xo, none⟩) (m + 1) xc, .int .i64 e2, .bool true, .slice tp sh.length tc] := by rw [hqdp1]; first | exact (BV).alloc _ | simpa using (BV).alloc _
     have Ya_dp1 : CellsAt va (wr.heap.size) 50 #[.int .i64 re, .int .i64 im] := by rw [hqdp1]; first | exact CellsAt.new wr 50 #[.int .i64 re, .int .i64 im] | simpa using CellsAt.new wr 50 #[.int .i64 re, .int .i64 im]
     have ydp1 : Gr wl va := by rw [hqdp1]; exact (hg2).alloc _ _
     rw [← hqdp1]
     clear hqdp1
     refine (HA.out _).mono ?_
     rintro e wd1 ⟨rfl, gd1⟩
     have ⟨Fp_d1, lp_d1⟩ := CellsAt.gl (Yp_dp1) gd1
     have ⟨Fb_d1, lb_d1⟩ := CellsAt.gl (Yb_dp1) gd1
     have ⟨Fa_d1, la_d1⟩ := CellsAt.gl (Ya_dp1) gd1
     have zd1 := (ydp1).trans gd1
     clear Yp_dp1 Yb_dp1 Ya_dp1 ydp1 gd1
     obtain ⟨ca0, ca1⟩ := Fa_d1.t2
     obtain ⟨cp0, cp1, cp2, cp3, cp4, cp5⟩ := Fp_d1.t6
     go_wp2_with fail
     clear ca0 ca1 cp0 cp1 cp2 cp3 cp4 cp5
     refine (HB.out _).mono ?_
     rintro e wd2 ⟨rfl, gd2⟩
     have ⟨Fp_d2, lp_d2⟩ := CellsAt.gl (Fp_d1) gd2
     have ⟨Fb_d2, lb_d2⟩ := CellsAt.gl (Fb_d1) gd2
     have ⟨Fa_d2, la_d2⟩ := CellsAt.gl (Fa_d1) gd2
     have zd2 := (zd1).trans gd2
     clear Fp_d1 Fb_d1 Fa_d1 zd1 gd2
     obtain ⟨ca0, ca1⟩ := Fa_d2.t2
     obtain ⟨cb0, cb1, cb2, cb3⟩ := Fb_d2.t4
     obtain ⟨cp0, cp1, cp2, cp3, cp4, cp5⟩ := Fp_d2.t6
     cases z
     ·cases s
      ·go_wp2_with fail
       go_roundw
       case rel => exact ⟨k + 1, by omega, by go_num, Fb_d2, Fp_d2, zd2⟩
       case measure => simp [intOf]; omega
      ·go_wp2_with fail
       go_roundw
       case rel => exact ⟨k + 1, by omega, by go_num, Fb_d2, Fp_d2, zd2⟩
       case measure => simp [intOf]; omega
     ·obtain ⟨rfl, rfl⟩ : re = 0 ∧ im = 0 := HZ1.out rfl
      cases s
      ·go_wp2_with fail
       go_roundw
       case rel => exact ⟨k + 1, by omega, by go_num, Fb_d2, Fp_d2, zd2⟩
       case measure => simp [intOf]; omega
      ·go_wp2_with fail
       go_roundw
       case rel => exact ⟨k + 1, by omega, by go_num, Fb_d2, Fp_d2, zd2⟩
       case measure => simp [intOf]; omega
    ·obtain rfl : k = m + 1 := by omega
     have hkI : ¬ ((m : Int) + 1) < (m : Int) + 1 := by omega
     go_wp2_with fail
     go_ret
     exact ⟨rfl, hgw2⟩
set_option maxHeartbeats 16000000 in
theorem ends18_f (p : Option Addr) (l1 cap1 m1 : Nat) (fo lo ke mo : Int) (iv : Bool) (xs : List Int) (hm1 : m1 ≤ cap1) (hmin1 : (if (140 : Int) < (l1 : Int) then 140 else (l1 : Int)) = (m1 : Int)) (hl1 : xs.length = m1) (h1p : 0 < m1) (h140 : m1 ≤ 140) (X : List Gi) (m : Nat) (e2 x0 x1 r0 : Int) (sh : List Int)
 (HP : Hid (∀ W, NumsAt W (.slice p m1 cap1) xs → Calls Tryz.prog 7 #[.slice p m1 cap1, .agg #[.int .i64 fo, .int .i64 lo, .int .i64 ke, .int .i64 2, .int .i64 mo, .bool iv]] W fun e w' => ∃ vx vs, e = .returned (.tuple #[.agg #[vx, .int .i64 e2, .bool false, vs], .int .i64 0]) ∧ CxsAt w' vx X ∧ NumsAt w' vs sh ∧ Gr W w'))
 (HC : Hid (∀ a ∈ X, (∀ W, Calls Tryz.prog 23 #[.int .i64 a.re, .int .i64 fo] W fun e w' => e = .returned (.tuple #[.int .i64 a.re, .bool false, .int .i64 0]) ∧ Gr W w') ∧ (∀ W, Calls Tryz.prog 23 #[.int .i64 a.im, .int .i64 fo] W fun e w' => e = .returned (.tuple #[.int .i64 a.im, .bool false, .int .i64 0]) ∧ Gr W w')))
 (HXL : Hid (X.length = m + 1)) (HMM : Hid (0 < m + 1 ∧ (m1 : Int) / 2 = (m : Int) ∧ IntKind.i64.wrap ((m : Int) + 1) = (m : Int) + 1 ∧ (m : Int) < (m : Int) + 1 ∧ (0 : Int) < (m : Int) + 1))
 (H0 : Hid (X[0]? = some ⟨x0, 0⟩)) (HM0 : Hid (X[m]? = some ⟨x1, 0⟩)) (hr0 : xs[0]? = some r0)
 (ZZ SS : Nat → Bool) (HZZ : Hid ((ZZ 0 = true ∧ SS 0 = true) ∧ ∀ j x, xs[j]? = some x → ZZ (j + 1) = (ZZ j && (x == 0)) ∧ SS (j + 1) = (SS j && (x == r0))))
 (HZX : Hid (ZZ m1 = true → ∀ a ∈ X, a = ⟨0, 0⟩))
 (HSX : Hid (SS m1 = true → ∀ k a, 0 < k → X[k]? = some a → a = ⟨0, 0⟩)) (AL : CR 12 #[] (.bool true)) (w : World) (hx : NumsAt w (.slice p m1 cap1) xs) :
 Calls Tryz.prog 5 #[.slice p l1 cap1, .agg #[.int .i64 fo, .int .i64 lo, .int .i64 ke, .int .i64 2, .int .i64 mo, .bool iv]] w fun e w' => e = .returned (.bool true) ∧ Gr w w' := by
 obtain ⟨nb, no, nc, hsl, _, hnb, hnc⟩ := hx.at (by intro e; rw [e] at hl1; simp at hl1; omega)
 rw [hl1] at hsl
 cases hsl
 have hcut1 := run_cut_int (some ⟨nb, no, none⟩) l1 cap1 m1 hm1
 have VX := Lib.hid hx
 have HNC := Lib.hid hnc
 clear hx hnc
 go_enter Tryz.func5, Tryz.ntmps5
 go_wp2_with fail
 obtain ⟨u0, hU⟩ : ∃ uu, uu = (w.alloc (.cells #[.int .i64 fo, .int .i64 lo, .int .i64 ke, .int .i64 2, .int .i64 mo, .bool iv] 24)) := ⟨_, rfl⟩
 have ⟨gu, R0⟩ := lay1 hU
 rw [← hU]
 clear hU
 have lp := R0.lt
 obtain ⟨cp0, cp1, cp2, cp3, cp4, cp5⟩ := R0.t6
 go_wp2_with fail
 clear cp0 cp1 cp2 cp3 cp4 cp5
 refine (HP.out _ (VX.out.gr gu)).mono ?_
 rintro e w1 ⟨vx, vs, rfl, hx1, hs1, g1⟩
 have ⟨Fp_1, lp_1⟩ := CellsAt.gl (R0) g1
 have z1 := (gu).trans g1
 clear R0 gu g1
 obtain ⟨xp, xc, rfl⟩ := hx1.len
 obtain ⟨tp, tc, rfl⟩ := hs1.len
 rw [HXL.out] at hx1 ⊢
 obtain ⟨xb, xo, xc2, hsl, _, hxb, hxc⟩ := hx1.at (by intro e; have h1 := HXL.out; rw [e] at h1; simp at h1)
 rw [HXL.out] at hsl
 cases hsl
 have HXC := Lib.hid hxc
 have X0 := (hxc 0 _ H0.out).2
 have XM := (hxc m _ HM0.out).2
 simp only [Nat.zero_mul, Nat.add_zero] at X0 XM
 clear hxc hx1
 obtain ⟨f0, f1, f2, f3, f4⟩ := HMM.out
 obtain ⟨cp0, cp1, cp2, cp3, cp4, cp5⟩ := Fp_1.t6
 go_wp2_with fail
 clear cp0 cp1 cp2 cp3 cp4 cp5
 have hxu0 : Gr w1 (w1.alloc (.cells #[.slice (some ⟨xb, xo, none⟩) (m + 1) xc, .int .i64 e2, .bool false, .slice tp sh.length tc] 27)) := (Gr.refl w1).alloc _ _
 obtain ⟨u2, hqq⟩ : ∃ zz, zz = (w1.alloc (.cells #[.slice (some ⟨xb, xo, none⟩) (m + 1) xc, .int .i64 e2, .bool false, .slice tp sh.length tc] 27)) := ⟨_, rfl⟩
 rw [← hqq] at hxu0
 have Qp : CellsAt u2 (w.heap.size) 24 #[.int .i64 fo, .int .i64 lo, .int .i64 ke, .int .i64 2, .int .i64 mo, .bool iv] := by rw [hqq]; first | exact (Fp_1).alloc _ | simpa using (Fp_1).alloc _
 have Qb : CellsAt u2 (w1.heap.size) 27 #[.slice (some ⟨xb, xo, none⟩) (m + 1) xc, .int .i64 e2, .bool false, .slice tp sh.length tc] := by rw [hqq]; first | exact CellsAt.new w1 27 #[.slice (some ⟨xb, xo, none⟩) (m + 1) xc, .int .i64 e2, .bool false, .slice tp sh.length tc] | simpa using CellsAt.new w1 27 #[.slice (some ⟨xb, xo, none⟩) (m + 1) xc, .int .i64 e2, .bool false, .slice tp sh.length tc]
 have yq : Gr w u2 := by rw [hqq]; exact (z1).alloc _ _
 rw [← hqq]
 clear hqq X0 XM
 refine (AL.out _).mono ?_
 rintro e w2 ⟨rfl, g2⟩
 have hxu := hxu0.trans g2
 have ⟨Fp_2, lp_2⟩ := CellsAt.gl (Qp) g2
 have ⟨Fb_2, lb_2⟩ := CellsAt.gl (Qb) g2
 have z2 := (yq).trans g2
 clear Qp Qb yq g2
 skip
 go_wp2_with fail
 obtain ⟨u3, hu3⟩ : ∃ zz, zz = w2 := ⟨_, rfl⟩
 rw [← hu3]
 rw [← hu3] at Fb_2 Fp_2 z2 hxu
 clear hu3
 have hxb3 : xb < u3.heap.size := Nat.lt_of_lt_of_le hxb hxu.size
 have hm140 : (m1 : Int) ≤ 140 := by omega
 go_loopw [8, 9, 11, 72] (fun z s _ i wr => ∃ j : Nat, j ≤ m1 ∧ i = .int .i64 j ∧ z = .bool (ZZ j) ∧ s = .bool (SS j) ∧ Gr u3 wr) (fun _ _ _ i _ => m1 - (intOf i).toNat)
 case atStart => exact ⟨0, by omega, rfl, by rw [HZZ.out.1.1], by rw [HZZ.out.1.2], Gr.refl _⟩
 case round =>
  obtain ⟨j, hj, rfl, rfl, rfl, hgw⟩ := hrel
  have hga := (z2).trans hgw
  have hnw : nb < wr.heap.size := Nat.lt_of_lt_of_le hnb hga.size
  by_cases hlt : j < m1
  ·have hjI : (j : Int) < (m1 : Int) := by omega
   obtain ⟨x, hxj⟩ := get_of_lt (xs := xs) (show j < xs.length by omega)
   have cj := (hga.cell (p := ⟨nb, no + j, none⟩) hnb).trans (HNC.out j x hxj)
   have c0 := (hga.cell (p := ⟨nb, no + 0, none⟩) hnb).trans (HNC.out 0 r0 hr0)
   simp only [Nat.add_zero] at c0
   have HN := Lib.hid (HZZ.out.2 j x hxj)
   have h1p' : (0 : Int) < (m1 : Int) := by omega
   clear hxj z2 hga
   generalize ZZ j = z at *
   generalize SS j = s at *
   go_wp2_with fail
   cases z
   ·cases s
    ·skip
     have hclG := gr_closed wr
     try simp only [List.append_eq, List.cons_append, List.nil_append]
     refine wp_region_grow (S := Gr wr) rfl (Gr.drew (Gr.refl _)) ?_
     refine gT 0 hclG ?_
     refine gT 1 hclG ?_
     refine wpG_skip (i := 2) hclG rfl (by kernel_rfl) (by kernel_rfl) (by kernel_rfl) (fun _ _ _ h => h) (by rfl) ?_
     try simp only [Act.put, putS]
     refine wpG_skip (i := 3) hclG rfl (by kernel_rfl) (by kernel_rfl) (by kernel_rfl) (fun _ _ _ h => h) (by rfl) ?_
     try simp only [Act.put, putS]
     refine gT 4 hclG ?_
     refine gT 5 hclG ?_
     refine gT 6 hclG ?_
     refine wpG_skip (i := 7) hclG rfl (by kernel_rfl) (by kernel_rfl) (by kernel_rfl) (fun _ _ _ h => h) (by rfl) ?_
     try simp only [Act.put, putS]
     refine wpG_skip (i := 8) hclG rfl (by kernel_rfl) (by kernel_rfl) (by kernel_rfl) (fun _ _ _ h => h) (by rfl) ?_
     try simp only [Act.put, putS]
     refine wpG_skip (i := 9) hclG rfl (by kernel_rfl) (by kernel_rfl) (by kernel_rfl) (fun _ _ _ h => h) (by rfl) ?_
     try simp only [Act.put, putS]
     refine wpG_skip (i := 10) hclG rfl (by kernel_rfl) (by kernel_rfl) (by kernel_rfl) (fun _ _ _ h => h) (by rfl) ?_
     try simp only [Act.put, putS]
     refine wpG_skip (i := 11) hclG rfl (by kernel_rfl) (by kernel_rfl) (by kernel_rfl) (fun _ _ _ h => h) (by rfl) ?_
     try simp only [Act.put, putS]
     refine gT 12 hclG ?_
     refine gT 13 hclG ?_
     refine gT 14 hclG ?_
     refine wpG_done (by kernel_rfl) (fun wc1 gc1 => ?_) _
     replace gc1 := (Gr.drew (Gr.refl wr)).trans gc1
     have zc1 := (hgw).trans gc1
     clear hgw gc1
     clear hclG
     go_wp2_with fail
     go_roundw
     case rel => exact ⟨j + 1, by omega, by go_num, by rw [HN.out.1]; first | rfl | simp, by rw [HN.out.2]; first | rfl | simp, zc1⟩
     case measure => simp [intOf]; omega
    ·skip
     have KS : ∀ W, Gr wr W → W.cell? ⟨nb, no, none⟩ = some (.int .i64 r0) := fun W hG => (hG.cell (p := ⟨nb, no, none⟩) hnw).trans c0
     have hclG := gr_closed wr
     try simp only [List.append_eq, List.cons_append, List.nil_append]
     refine wp_region_grow (S := Gr wr) rfl (Gr.drew (Gr.refl _)) ?_
     refine gT 0 hclG ?_
     refine gT 1 hclG ?_
     refine wpG_skip (i := 2) hclG rfl (by kernel_rfl) (by kernel_rfl) (by kernel_rfl) (fun _ _ _ h => h) (by rfl) ?_
     try simp only [Act.put, putS]
     refine wpG_skip (i := 3) hclG rfl (by kernel_rfl) (by kernel_rfl) (by kernel_rfl) (fun _ _ _ h => h) (by rfl) ?_
     try simp only [Act.put, putS]
     refine gT 4 hclG ?_
     refine gT 5 hclG ?_
     refine gT 6 hclG ?_
     refine gT 7 hclG ?_
     refine gT 8 hclG ?_
     refine gT 9 hclG ?_
     refine gK 10 hclG KS ?_
     refine gT 11 hclG ?_
     refine gT 12 hclG ?_
     refine gT 13 hclG ?_
     refine gT 14 hclG ?_
     refine wpG_done (by kernel_rfl) (fun wc1 gc1 => ?_) _
     replace gc1 := (Gr.drew (Gr.refl wr)).trans gc1
     have zc1 := (hgw).trans gc1
     clear hgw gc1
     clear hclG KS
     go_wp2_with fail
     go_roundw
     case rel => exact ⟨j + 1, by omega, by go_num, by rw [HN.out.1]; first | rfl | simp, by rw [HN.out.2]; first | rfl | simp, zc1⟩
     case measure => simp [intOf]; omega
   ·cases s
    ·skip
     have hclG := gr_closed wr
     try simp only [List.append_eq, List.cons_append, List.nil_append]
     refine wp_region_grow (S := Gr wr) rfl (Gr.drew (Gr.refl _)) ?_
     refine gT 0 hclG ?_
     refine gT 1 hclG ?_
     refine gT 2 hclG ?_
     refine gT 3 hclG ?_
     refine gT 4 hclG ?_
     refine gT 5 hclG ?_
     refine gT 6 hclG ?_
     refine wpG_skip (i := 7) hclG rfl (by kernel_rfl) (by kernel_rfl) (by kernel_rfl) (fun _ _ _ h => h) (by rfl) ?_
     try simp only [Act.put, putS]
     refine wpG_skip (i := 8) hclG rfl (by kernel_rfl) (by kernel_rfl) (by kernel_rfl) (fun _ _ _ h => h) (by rfl) ?_
     try simp only [Act.put, putS]
     refine wpG_skip (i := 9) hclG rfl (by kernel_rfl) (by kernel_rfl) (by kernel_rfl) (fun _ _ _ h => h) (by rfl) ?_
     try simp only [Act.put, putS]
     refine wpG_skip (i := 10) hclG rfl (by kernel_rfl) (by kernel_rfl) (by kernel_rfl) (fun _ _ _ h => h) (by rfl) ?_
     try simp only [Act.put, putS]
     refine wpG_skip (i := 11) hclG rfl (by kernel_rfl) (by kernel_rfl) (by kernel_rfl) (fun _ _ _ h => h) (by rfl) ?_
     try simp only [Act.put, putS]
     refine gT 12 hclG ?_
     refine gT 13 hclG ?_
     refine gT 14 hclG ?_
     refine wpG_done (by kernel_rfl) (fun wc1 gc1 => ?_) _
     replace gc1 := (Gr.drew (Gr.refl wr)).trans gc1
     have zc1 := (hgw).trans gc1
     clear hgw gc1
     clear hclG
     go_wp2_with fail
     go_roundw
     case rel => exact ⟨j + 1, by omega, by go_num, by rw [HN.out.1]; first | rfl | simp, by rw [HN.out.2]; first | rfl | simp, zc1⟩
     case measure => simp [intOf]; omega
    ·skip
     have KS : ∀ W, Gr wr W → W.cell? ⟨nb, no, none⟩ = some (.int .i64 r0) := fun W hG => (hG.cell (p := ⟨nb, no, none⟩) hnw).trans c0
     have hclG := gr_closed wr
     try simp only [List.append_eq, List.cons_append, List.nil_append]
     refine wp_region_grow (S := Gr wr) rfl (Gr.drew (Gr.refl _)) ?_
     refine gT 0 hclG ?_
     refine gT 1 hclG ?_
     refine gT 2 hclG ?_
     refine gT 3 hclG ?_
     refine gT 4 hclG ?_
     refine gT 5 hclG ?_
     refine gT 6 hclG ?_
     refine gT 7 hclG ?_
     refine gT 8 hclG ?_
     refine gT 9 hclG ?_
     refine gK 10 hclG KS ?_
     refine gT 11 hclG ?_
     refine gT 12 hclG ?_
     refine gT 13 hclG ?_
     refine gT 14 hclG ?_
     refine wpG_done (by kernel_rfl) (fun wc1 gc1 => ?_) _
     replace gc1 := (Gr.drew (Gr.refl wr)).trans gc1
     have zc1 := (hgw).trans gc1
     clear hgw gc1
     clear hclG KS
     go_wp2_with fail
     go_roundw
     case rel => exact ⟨j + 1, by omega, by go_num, by rw [HN.out.1]; first | rfl | simp, by rw [HN.out.2]; first | rfl | simp, zc1⟩
     case measure => simp [intOf]; omega
  ·obtain rfl : j = m1 := by omega
   have hjI : ¬ (j : Int) < (j : Int) := by omega
   have BV0 := CellsAt.gr Fb_2 hgw
   have PV0 := CellsAt.gr Fp_2 hgw
   have hxg := hxu.trans hgw
   have cb0 := CellsAt.cell BV0 0
   simp only [getS] at cb0
   have HZY := Lib.hid HZX.out
   have HSY := Lib.hid HSX.out
   clear HZZ HZX HSX hxu Fb_2 Fp_2
   have hm70 : (m : Int) ≤ 70 := by have := HMM.out.2.1; omega
   generalize ZZ j = z at *
   generalize SS j = s at *
   go_wp2_with fail
   clear cb0
   obtain ⟨wl, hwl⟩ : ∃ zz, zz = wr := ⟨_, rfl⟩
   subst hwl
   go_loopw [93] (fun i wv => ∃ k : Nat, k ≤ m + 1 ∧ i = .int .i64 k ∧ CellsAt wv (w1.heap.size) 27 #[.slice (some ⟨xb, xo, none⟩) (m + 1) xc, .int .i64 e2, .bool false, .slice tp sh.length tc] ∧ CellsAt wv (w.heap.size) 24 #[.int .i64 fo, .int .i64 lo, .int .i64 ke, .int .i64 2, .int .i64 mo, .bool iv] ∧ Gr wl wv) (fun i _ => m + 1 - (intOf i).toNat)
   case atStart => exact ⟨0, by omega, rfl, BV0, PV0, Gr.refl _⟩
   case round =>
    clear BV0 PV0
    obtain ⟨k, hk, rfl, BV, PV, hg2⟩ := hrel
    have hgw2 := hga.trans hg2
    by_cases hlt : k < m + 1
    ·have hkI : (k : Int) < (m : Int) + 1 := by omega
     obtain ⟨a, ha⟩ := get_of_lt (xs := X) (show k < X.length by rw [HXL.out]; exact hlt)
     have a1 := ((hxg.trans hg2).cell (p := ⟨xb, xo + k * 2, none⟩) hxb).trans (HXC.out k a ha).1
     have a2 := ((hxg.trans hg2).cell (p := ⟨xb, xo + k * 2 + 1, none⟩) hxb).trans (HXC.out k a ha).2
     have hxv : xb < wr.heap.size := Nat.lt_of_lt_of_le hxb (hxg.trans hg2).size
     obtain ⟨HA, HB⟩ := HC.out a (List.mem_of_getElem? ha)
     have HA := Lib.hid HA
     have HB := Lib.hid HB
     have HZ1 := Lib.hid (fun hz => HZY.out hz a (List.mem_of_getElem? ha))
     have HS1 := Lib.hid (show s = true → (¬ (0 : Int) < (k : Int) ∧ True) ∨ ((0 : Int) < (k : Int) ∧ a.re = 0 ∧ a.im = 0) from fun hs => by (by_cases h : (0 : Int) < (k : Int)); (exact .inr ⟨h, by rw [HSY.out hs k a (by omega) ha]; exact ⟨rfl, rfl⟩⟩); exact .inl ⟨h, trivial⟩)
     clear ha HC HSY HZY
     obtain ⟨re, im⟩ := a
     simp only [Gi.mk.injEq] at a1 a2 HA HB HZ1 HS1
     have lp := CellsAt.lt PV
     have lb := CellsAt.lt BV
     obtain ⟨cb0, cb1, cb2, cb3⟩ := BV.t4
     obtain ⟨cp0, cp1, cp2, cp3, cp4, cp5⟩ := PV.t6
     go_wp2_with fail
     clear cb0 cb1 cb2 cb3 cp0 cp1 cp2 cp3 cp4 cp5
     obtain ⟨va, hqdp1⟩ : ∃ zz, zz = (wr.alloc (.cells #[.int .i64 re, .int .i64 im] 50)) := ⟨_, rfl⟩
     have Yp_dp1 : CellsAt va (w.heap.size) 24 #[.int .i64 fo, .int .i64 lo, .int .i64 ke, .int .i64 2, .int .i64 mo, .bool iv] := by rw [hqdp1]; first | exact (PV).alloc _ | simpa using (PV).alloc _
     have Yb_dp1 : CellsAt va (w1.heap.size) 27 #[.slice (some ⟨xb, xo, none⟩) (m + 1) xc, .int .i64 e2, .bool false, .slice tp sh.length tc] := by rw [hqdp1]; first | exact (BV).alloc _ | simpa using (BV).alloc _
     have Ya_dp1 : CellsAt va (wr.heap.size) 50 #[.int .i64 re, .int .i64 im] := by rw [hqdp1]; first | exact CellsAt.new wr 50 #[.int .i64 re, .int .i64 im] | simpa using CellsAt.new wr 50 #[.int .i64 re, .int .i64 im]
     have ydp1 : Gr wl va := by rw [hqdp1]; exact (hg2).alloc _ _
     rw [← hqdp1]
     clear hqdp1
     refine (HA.out _).mono ?_
     rintro e wd1 ⟨rfl, gd1⟩
     have ⟨Fp_d1, lp_d1⟩ := CellsAt.gl (Yp_dp1) gd1
     have ⟨Fb_d1, lb_d1⟩ := CellsAt.gl (Yb_dp1) gd1
     have ⟨Fa_d1, la_d1⟩ := CellsAt.gl (Ya_dp1) gd1
     have zd1 := (ydp1).trans gd1
     clear Yp_dp1 Yb_dp1 Ya_dp1 ydp1 gd1
     obtain ⟨ca0, ca1⟩ := Fa_d1.t2
     obtain ⟨cp0, cp1, cp2, cp3, cp4, cp5⟩ := Fp_d1.t6
     go_wp2_with fail
     clear ca0 ca1 cp0 cp1 cp2 cp3 cp4 cp5
     refine (HB.out _).mono ?_
     rintro e wd2 ⟨rfl, gd2⟩
     have ⟨Fp_d2, lp_d2⟩ := CellsAt.gl (Fp_d1) gd2
     have ⟨Fb_d2, lb_d2⟩ := CellsAt.gl (Fb_d1) gd2
     have ⟨Fa_d2, la_d2⟩ := CellsAt.gl (Fa_d1) gd2
     have zd2 := (zd1).trans gd2
     clear Fp_d1 Fb_d1 Fa_d1 zd1 gd2
     obtain ⟨ca0, ca1⟩ := Fa_d2.t2
     obtain ⟨cb0, cb1, cb2, cb3⟩ := Fb_d2.t4
     obtain ⟨cp0, cp1, cp2, cp3, cp4, cp5⟩ := Fp_d2.t6
     cases z
     ·cases s
      ·go_wp2_with fail
       go_roundw
       case rel => exact ⟨k + 1, by omega, by go_num, Fb_d2, Fp_d2, zd2⟩
       case measure => simp [intOf]; omega
      ·obtain ⟨h1, h2⟩ | ⟨h1, rfl, rfl⟩ : (¬ (0 : Int) < (k : Int) ∧ True) ∨ ((0 : Int) < (k : Int) ∧ re = 0 ∧ im = 0) := by
        rcases HS1.out rfl with h | h
        ·exact .inl ⟨by omega, trivial⟩
        ·exact .inr h
       ·go_wp2_with fail
        go_roundw
        case rel => exact ⟨k + 1, by omega, by go_num, Fb_d2, Fp_d2, zd2⟩
        case measure => simp [intOf]; omega
       ·go_wp2_with fail
        go_roundw
        case rel => exact ⟨k + 1, by omega, by go_num, Fb_d2, Fp_d2, zd2⟩
        case measure => simp [intOf]; omega
     ·obtain ⟨rfl, rfl⟩ : re = 0 ∧ im = 0 := HZ1.out rfl
      cases s
      ·go_wp2_with fail
       go_roundw
       case rel => exact ⟨k + 1, by omega, by go_num, Fb_d2, Fp_d2, zd2⟩
       case measure => simp [intOf]; omega
      ·obtain ⟨h1, h2⟩ | ⟨h1, h2⟩ : (¬ (0 : Int) < (k : Int) ∧ True) ∨ ((0 : Int) < (k : Int) ∧ True) := by by_cases h : (0 : Int) < (k : Int); exact .inr ⟨h, trivial⟩; exact .inl ⟨h, trivial⟩
       ·go_wp2_with fail
        go_roundw
        case rel => exact ⟨k + 1, by omega, by go_num, Fb_d2, Fp_d2, zd2⟩
        case measure => simp [intOf]; omega
       ·go_wp2_with fail
        go_roundw
        case rel => exact ⟨k + 1, by omega, by go_num, Fb_d2, Fp_d2, zd2⟩
        case measure => simp [intOf]; omega
    ·obtain rfl : k = m + 1 := by omega
     have hkI : ¬ ((m : Int) + 1) < (m : Int) + 1 := by omega
     go_wp2_with fail
     go_ret
     exact ⟨rfl, hgw2⟩
end
end Go.Proofs.YtdignnmpfkgkoaaGreat
