import Derived.Test.YtablflakcaimmaaGreatFftRunsS25
namespace Go.Proofs.YtablflakcaimmaaGreat
section
open Go.ChangeShapes Go.WideShapes Go.ChangeAt Go.RowKit
set_option linter.unusedVariables false
set_option linter.unusedSimpArgs false
set_option maxRecDepth 100000
set_option maxHeartbeats 2000000 in
theorem alive15_of (HO : Hid (∀ sp cl W, CxsAt W (.slice sp 4 cl) [⟨1, 0⟩, ⟨2, 0⟩, ⟨3, 0⟩, ⟨4, 0⟩] → Calls Tryz.prog 9 #[.slice sp 4 cl, .agg #[.int .i64 0, .int .i64 2, .int .i64 0, .int .i64 2, .int .i64 0, .bool false]] W fun e w' => ∃ vx vs, e = .returned (.tuple #[.agg #[vx, .int .i64 0, .bool false, vs], .int .i64 0]) ∧ CxsAt w' vx [⟨10, 0⟩, ⟨-2, 2⟩, ⟨-2, 0⟩, ⟨-2, -2⟩] ∧ NumsAt w' vs [0, 0] ∧ Gr W w')) (w : World) :
 CW 11 #[] w (.bool true) :=by
 delta CW
 go_enter Tryz.func11, Tryz.ntmps11
 go_wp2_with fail
 obtain ⟨u1, hu⟩ : ∃ uu, uu = w.alloc (.cells #[.int .i64 1, .int .i64 0, .int .i64 2, .int .i64 0, .int .i64 3, .int .i64 0, .int .i64 4, .int .i64 0] 55) := ⟨_, rfl⟩
 have N1 : CxsAt u1 (.slice (some ⟨w.heap.size, 0, none⟩) 4 4) [⟨1, 0⟩, ⟨2, 0⟩, ⟨3, 0⟩, ⟨4, 0⟩] := by
  rw [hu]
  exact cxs_of_cells (xs := [⟨1, 0⟩, ⟨2, 0⟩, ⟨3, 0⟩, ⟨4, 0⟩]) (CellsAt.new w 55 #[.int .i64 1, .int .i64 0, .int .i64 2, .int .i64 0, .int .i64 3, .int .i64 0, .int .i64 4, .int .i64 0]) (by unfold maxLen; simp)
 have g1 : Gr w u1 := by rw [hu]; exact (Gr.refl w).alloc _ _
 rw [← hu]
 clear hu
 refine (HO.out _ _ _ N1).mono ?_
 rintro e w2 ⟨vx, vs, rfl, hx, hs, g2⟩
 obtain ⟨b, oo, cap, rfl, hln, hb, hc⟩ := hx.at (by simp)
 obtain ⟨ps, cs, rfl⟩ := hs.len
 rw [show ([⟨10, 0⟩, ⟨-2, 2⟩, ⟨-2, 0⟩, ⟨-2, -2⟩] : List Gi).length = 4 from rfl]
 have h0 := hc 0 _ rfl
 have h1 := hc 1 _ rfl
 simp only [Nat.zero_mul, Nat.add_zero, Nat.one_mul] at h0 h1
 obtain ⟨a0, a1⟩ := h0
 obtain ⟨b0, b1⟩ := h1
 clear hc hln
 go_wp2_with fail
 go_ret
 exact ⟨by first | rfl | (simp; done), (g1.trans g2).alloc _ _⟩
set_option maxHeartbeats 4000000 in
theorem runs15_no (p : Option Addr) (l1 cap1 m1 : Nat) (fo lo ke sc mo : Int) (iv : Bool) (xs : List Gi) (hm1 : m1 ≤ cap1) (hmin1 : (if (70 : Int) < (l1 : Int) then 70 else (l1 : Int)) = (m1 : Int)) (y : Int) (hy : (y == 0) = false) (HP : Hid (∀ W, CxsAt W (.slice p m1 cap1) xs → Calls Tryz.prog 9 #[.slice p m1 cap1, .agg #[.int .i64 fo, .int .i64 lo, .int .i64 ke, .int .i64 sc, .int .i64 mo, .bool iv]] W fun e w' => e = .returned (.tuple #[.agg #[.slice none 0 0, .int .i64 0, .bool false, .slice none 0 0], .int .i64 y]) ∧ Gr W w')) (HM : Hid (∀ W, CxsAt W (.slice p m1 cap1) xs → Calls Tryz.prog 10 #[.slice p m1 cap1, .agg #[.int .i64 fo, .int .i64 lo, .int .i64 ke, .int .i64 sc, .int .i64 mo, .bool iv], .bool false] W fun e w' => e = .returned (.int .i64 y) ∧ Gr W w')) (AL : CR 11 #[] (.bool true)) (w : World) (hx : CxsAt w (.slice p m1 cap1) xs) :
 CW 3 #[.slice p l1 cap1, .agg #[.int .i64 fo, .int .i64 lo, .int .i64 ke, .int .i64 sc, .int .i64 mo, .bool iv]] w (.bool true) :=by
 delta CW
 have hcut1 := run_cut_cx p l1 cap1 m1 hm1
 have VX := Lib.hid hx
 clear hx
 go_enter Tryz.func3, Tryz.ntmps3
 go_wp2_with fail
 obtain ⟨u0, hU⟩ : ∃ uu, uu = (w.alloc (.cells #[.int .i64 fo, .int .i64 lo, .int .i64 ke, .int .i64 sc, .int .i64 mo, .bool iv] 24)) := ⟨_, rfl⟩
 have ⟨gu, R0⟩ := lay1 hU
 rw [← hU]
 clear hU
 have lp := R0.lt
 obtain ⟨cp0, cp1, cp2, cp3, cp4, cp5⟩ := R0.t6
 go_wp2_with fail
 clear cp0 cp1 cp2 cp3 cp4 cp5
 refine (HP.out _ (VX.out.gr gu)).mono ?_
 rintro e w1 ⟨rfl, g1⟩
 have ⟨Fp_1, lp_1⟩ := R0.gl g1
 have z1 := gu.trans g1
 clear R0 gu g1
 obtain ⟨cp0, cp1, cp2, cp3, cp4, cp5⟩ := Fp_1.t6
 go_wp2_with fail
 clear cp0 cp1 cp2 cp3 cp4 cp5
 obtain ⟨u2, hqp1⟩ : ∃ zz, zz = (w1.alloc (.cells #[.slice none 0 0, .int .i64 0, .bool false, .slice none 0 0] 27)) := ⟨_, rfl⟩
 have Yp_p1 : CellsAt u2 (w.heap.size) 24 #[.int .i64 fo, .int .i64 lo, .int .i64 ke, .int .i64 sc, .int .i64 mo, .bool iv] := by rw [hqp1]; first | exact Fp_1.alloc _ | simpa using Fp_1.alloc _
 have Yb_p1 : CellsAt u2 (w1.heap.size) 27 #[.slice none 0 0, .int .i64 0, .bool false, .slice none 0 0] := by rw [hqp1]; have q_ := CellsAt.new w1 27 #[.slice none 0 0, .int .i64 0, .bool false, .slice none 0 0]; first | exact q_ | simpa using q_
 have yp1 : Gr w u2 := by rw [hqp1]; exact z1.alloc _ _
 rw [← hqp1]
 clear hqp1
 refine (HM.out _ (VX.out.gr yp1)).mono ?_
 rintro e w2 ⟨rfl, g2⟩
 have ⟨Fp_2, lp_2⟩ := Yp_p1.gl g2
 have ⟨Fb_2, lb_2⟩ := Yb_p1.gl g2
 have z2 := yp1.trans g2
 clear Yp_p1 Yb_p1 yp1 g2
 go_wp2_with fail
 refine (AL.out _).mono ?_
 rintro e w3 ⟨rfl, g3⟩
 have ⟨Fp_3, lp_3⟩ := Fp_2.gl g3
 have ⟨Fb_3, lb_3⟩ := Fb_2.gl g3
 have z3 := z2.trans g3
 clear Fp_2 Fb_2 z2 g3
 obtain ⟨cb0, cb1, cb2, cb3⟩ := Fb_3.t4
 go_wp2_with fail
 clear cb0 cb1 cb2 cb3
 refine (same15_c (.slice none 0 0) (.slice none 0 0) (.slice none 0 0) (.slice none 0 0) 0 false [] [] _ ⟨none, 0, rfl, Nat.le_refl _, Nat.zero_le _, fun h => absurd rfl h⟩ (NumsAt.nil _) ⟨none, 0, rfl, Nat.le_refl _, Nat.zero_le _, fun h => absurd rfl h⟩ (NumsAt.nil _)).mono ?_
 rintro e w4 ⟨rfl, g4⟩
 go_wp2_with fail
 go_ret
 exact ⟨by first | rfl | (simp; done), z3.trans g4⟩
set_option maxHeartbeats 4000000 in
theorem runs15_yes (p : Option Addr) (l1 cap1 m1 : Nat) (fo lo ke sc mo : Int) (iv : Bool) (xs : List Gi) (hm1 : m1 ≤ cap1) (hmin1 : (if (70 : Int) < (l1 : Int) then 70 else (l1 : Int)) = (m1 : Int)) (b : BV) (HP : Hid (∀ W, CxsAt W (.slice p m1 cap1) xs → Calls Tryz.prog 9 #[.slice p m1 cap1, .agg #[.int .i64 fo, .int .i64 lo, .int .i64 ke, .int .i64 sc, .int .i64 mo, .bool iv]] W fun e w' => ∃ vx vs, e = .returned (.tuple #[.agg #[vx, .int .i64 b.ex, .bool b.sat, vs], .int .i64 0]) ∧ CxsAt w' vx b.X ∧ NumsAt w' vs b.sh ∧ Gr W w')) (HM : Hid (∀ W, CxsAt W (.slice p m1 cap1) xs → Calls Tryz.prog 10 #[.slice p m1 cap1, .agg #[.int .i64 fo, .int .i64 lo, .int .i64 ke, .int .i64 sc, .int .i64 mo, .bool iv], .bool false] W fun e w' => e = .returned (.int .i64 0) ∧ Gr W w')) (HR : Hid (∀ W, CxsAt W (.slice p m1 cap1) xs → Calls Tryz.prog 13 #[.slice p m1 cap1, .agg #[.int .i64 fo, .int .i64 lo, .int .i64 ke, .int .i64 sc, .int .i64 mo, .bool iv]] W fun e w' => ∃ vx vs, e = .returned (.agg #[vx, .int .i64 b.ex, .bool b.sat, vs]) ∧ CxsAt w' vx b.X ∧ NumsAt w' vs b.sh ∧ Gr W w')) (AL : CR 11 #[] (.bool true)) (w : World) (hx : CxsAt w (.slice p m1 cap1) xs) :
 CW 3 #[.slice p l1 cap1, .agg #[.int .i64 fo, .int .i64 lo, .int .i64 ke, .int .i64 sc, .int .i64 mo, .bool iv]] w (.bool true) :=by
 delta CW
 have hcut1 := run_cut_cx p l1 cap1 m1 hm1
 have VX := Lib.hid hx
 clear hx
 go_enter Tryz.func3, Tryz.ntmps3
 go_wp2_with fail
 obtain ⟨u0, hU⟩ : ∃ uu, uu = (w.alloc (.cells #[.int .i64 fo, .int .i64 lo, .int .i64 ke, .int .i64 sc, .int .i64 mo, .bool iv] 24)) := ⟨_, rfl⟩
 have ⟨gu, R0⟩ := lay1 hU
 rw [← hU]
 clear hU
 have lp := R0.lt
 obtain ⟨cp0, cp1, cp2, cp3, cp4, cp5⟩ := R0.t6
 obtain ⟨X, ex, sat, sh⟩ := b
 simp only at HP HR
 go_wp2_with fail
 clear cp0 cp1 cp2 cp3 cp4 cp5
 refine (HP.out _ (VX.out.gr gu)).mono ?_
 rintro e w1 ⟨vx, vs, rfl, hx1, hs1, g1⟩
 obtain ⟨xp, xc, rfl⟩ := hx1.len
 obtain ⟨sp, sl, rfl⟩ := hs1.len
 have ⟨Fp_1, lp_1⟩ := R0.gl g1
 have z1 := gu.trans g1
 clear R0 gu g1
 obtain ⟨cp0, cp1, cp2, cp3, cp4, cp5⟩ := Fp_1.t6
 go_wp2_with fail
 clear cp0 cp1 cp2 cp3 cp4 cp5
 have hx2 := hx1.gr ((Gr.refl w1).alloc #[.slice xp X.length xc, .int .i64 ex, .bool sat, .slice sp sh.length sl] 27)
 have hs2 := hs1.gr ((Gr.refl w1).alloc #[.slice xp X.length xc, .int .i64 ex, .bool sat, .slice sp sh.length sl] 27)
 obtain ⟨u2, hq2⟩ : ∃ zz, zz = (w1.alloc (.cells #[.slice xp X.length xc, .int .i64 ex, .bool sat, .slice sp sh.length sl] 27)) := ⟨_, rfl⟩
 rw [← hq2] at hx2 hs2
 have Yp2 : CellsAt u2 (w.heap.size) 24 #[.int .i64 fo, .int .i64 lo, .int .i64 ke, .int .i64 sc, .int .i64 mo, .bool iv] := by rw [hq2]; first | exact Fp_1.alloc _ | simpa using Fp_1.alloc _
 have Yb2 : CellsAt u2 (w1.heap.size) 27 #[.slice xp X.length xc, .int .i64 ex, .bool sat, .slice sp sh.length sl] := by rw [hq2]; have q_ := CellsAt.new w1 27 #[.slice xp X.length xc, .int .i64 ex, .bool sat, .slice sp sh.length sl]; first | exact q_ | simpa using q_
 have y2 : Gr w u2 := by rw [hq2]; exact z1.alloc _ _
 rw [← hq2]
 clear hq2
 refine (HM.out _ (VX.out.gr y2)).mono ?_
 rintro e w2 ⟨rfl, g2⟩
 have hx3 := hx2.gr g2
 have hs3 := hs2.gr g2
 have ⟨Fp_2, lp_2⟩ := Yp2.gl g2
 have ⟨Fb_2, lb_2⟩ := Yb2.gl g2
 have z2 := y2.trans g2
 clear Yp2 Yb2 y2 g2
 go_wp2_with fail
 have KS : ∀ W, Gr w2 W → (W.cell? ⟨w.heap.size, 0, none⟩ = some (.int .i64 fo) ∧ W.cell? ⟨w.heap.size, 1, none⟩ = some (.int .i64 lo) ∧ W.cell? ⟨w.heap.size, 2, none⟩ = some (.int .i64 ke) ∧ W.cell? ⟨w.heap.size, 3, none⟩ = some (.int .i64 sc) ∧ W.cell? ⟨w.heap.size, 4, none⟩ = some (.int .i64 mo) ∧ W.cell? ⟨w.heap.size, 5, none⟩ = some (.bool iv) ∧ W.cell? ⟨w1.heap.size, 0, none⟩ = some (.slice xp X.length xc) ∧ W.cell? ⟨w1.heap.size, 1, none⟩ = some (.int .i64 ex) ∧ W.cell? ⟨w1.heap.size, 2, none⟩ = some (.bool sat) ∧ W.cell? ⟨w1.heap.size, 3, none⟩ = some (.slice sp sh.length sl)) := fun W hG => ⟨(CellsAt.gr Fp_2 hG).cell 0, (CellsAt.gr Fp_2 hG).cell 1, (CellsAt.gr Fp_2 hG).cell 2, (CellsAt.gr Fp_2 hG).cell 3, (CellsAt.gr Fp_2 hG).cell 4, (CellsAt.gr Fp_2 hG).cell 5, (CellsAt.gr Fb_2 hG).cell 0, (CellsAt.gr Fb_2 hG).cell 1, (CellsAt.gr Fb_2 hG).cell 2, (CellsAt.gr Fb_2 hG).cell 3⟩
 have hclG := gr_closed w2
 try simp only [List.append_eq, List.cons_append, List.nil_append]
 refine wp_region_grow (S := Gr w2) rfl (Gr.drew (Gr.refl _)) ?_
 refine wpG_call (i := 0) hclG rfl (by kernel_rfl) (by kernel_rfl) (by kernel_rfl) (fun _ _ _ h => h) (fun W hS => AL.out W) (by rfl) ?_ ?_
 ·(intro w' hSw; go_simp; try with_reducible rfl)
 try simp only [Act.put, putS]
 refine gK 1 hclG KS ?_
 refine gK 2 hclG KS ?_
 refine gK 3 hclG KS ?_
 refine gK 4 hclG KS ?_
 refine gK 5 hclG KS ?_
 refine gK 6 hclG KS ?_
 refine gK 7 hclG KS ?_
 refine gK 8 hclG KS ?_
 refine gR 9 fun w6 g6 s6 K hK => ?_
 replace g6 := (Gr.drew (Gr.refl w2)).trans g6
 go_simp
 refine (HR.out _ (VX.out.gr (z2.trans g6))).mono ?_
 rintro e w7 ⟨ux, us, rfl, kx7, ks7, g7⟩
 refine hK.out _ _ ?_ ?_
 ·exact s6.trans g7
 clear hK K
 try simp only [Act.put, putS]
 refine gR 10 fun w8 g8 s8 K hK => ?_
 have gg := (g6.trans g7).trans g8
 go_simp
 refine (same15_c _ _ _ _ ex sat X sh _ (hx3.gr gg) (hs3.gr gg) (kx7.gr g8) (ks7.gr g8)).mono ?_
 rintro e w9 ⟨rfl, g9⟩
 refine hK.out _ _ ?_ ?_
 ·exact s8.trans g9
 clear hK K
 try simp only [Act.put, putS]
 refine gK 11 hclG KS ?_
 refine gK 12 hclG KS ?_
 refine wpG_done (by kernel_rfl) (fun wa ga => ?_) _
 clear hclG KS
 go_wp2_with fail
 go_ret
 exact ⟨by first | rfl | (simp; done), ((z2.trans gg).trans g9).trans ga⟩
end
section
open Go.ChangeShapes Go.WideShapes Go.ChangeAt Go.RowKit Go.Shelf
set_option linter.unusedVariables false
set_option maxRecDepth 100000
theorem wideA_fn (f : FuncId) : Fence.wide.fn f = True := rfl
attribute [local go_sem] wideA_fn Oper.semAt_some
theorem divided_c (x d : Int) (wx : -9223372036854775808 ≤ x ∧ x ≤ 9223372036854775807) (h : 1 ≤ d) (w : World) :
 Calls Tryz.prog 189 #[.int .i64 x, .int .i64 d] w fun e w' => e = .returned (.int .i64 (x / d)) ∧ w' = w := by
 have HD := Lib.hid (div_ok x d wx h)
 clear wx h
 go_enter Tryz.func189, Tryz.ntmps189
 go_wp2_with (go_at_call 193; refine (HD.out _).mono ?_; rintro e w2 ⟨rfl, rfl⟩)
 go_ret
 exact ⟨rfl, rfl⟩
theorem hasArc_yes (x : Int) (h0 : 2 ≤ x) (h1 : x ≤ 17592186044416) (w : World) :
 Calls Tryz.prog 198 #[.int .i64 x] w fun e w' => e = .returned (.bool true) ∧ w' = w := by
 go_enter Tryz.func198, Tryz.ntmps198
 go_wp2
 go_ret
 exact ⟨rfl, rfl⟩
theorem terms_c (x : Int) (w : World) :
 Calls Tryz.prog 185 #[.int .i64 x] w fun e w' => e = .returned (.func (.func 188) #[] #[.pointer (some ⟨w.heap.size, 0, none⟩)]) ∧ w' = w.alloc (.cells #[.int .i64 x] 3) := by
 go_enter Tryz.func185, Tryz.ntmps185
 go_wp2
 go_ret
 exact ⟨rfl, rfl⟩
def IsT (m : Nat) (ys : List Int) : Prop := ∃ k, k ≤ 28 ∧ arcP m k = 0 ∧ (∀ j, j < k → 0 < arcP m j) ∧ ys = (List.range k).map (arcT m)
def sgn (j : Nat) : Int := if j % 2 = 1 then -1 else 1
theorem sgn_mul (m j : Nat) : sgn j * ((arcP m j : Int) / (2 * (j : Int) + 1)) = arcT m j := by
 have e : (arcP m j : Int) / (2 * (j : Int) + 1) = (arcM m j : Int) := by
  rw [arcM, Int.natCast_ediv]; simp
 rw [e, sgn, arcT]
 split <;> omega
theorem sgn_succ (j : Nat) : -sgn j = sgn (j + 1) := by
 unfold sgn
 by_cases h : j % 2 = 1
 ·rw [if_pos h, if_neg (by omega)]; rfl
 ·rw [if_neg h, if_pos (by omega)]
theorem sgn_bd (j : Nat) : -1 ≤ sgn j ∧ sgn j ≤ 1 := by unfold sgn; split <;> omega
theorem arcT_bd (m j : Nat) (h : 2 ≤ m) : -36028797018963968 ≤ arcT m j ∧ arcT m j ≤ 36028797018963968 := by
 have := arcM_top m j h
 unfold arcT
 split <;> omega
theorem arcP_cast (m j : Nat) : (arcP m (j + 1) : Int) = (arcP m j : Int) / (m : Int) / (m : Int) := by
 rw [arcP, Int.natCast_ediv, Int.natCast_ediv]
theorem arcL_succ (m j : Nat) : (List.range (j + 1)).map (arcT m) = (List.range j).map (arcT m) ++ [arcT m j] := by
 rw [List.range_succ, List.map_append]; rfl
set_option maxRecDepth 100000 in set_option maxHeartbeats 2000000 in
theorem terms1_in (n : Nat) (hn : 1 ≤ n) (l Bn B0 m : Nat) (m0 : 2 ≤ m) (m1 : m ≤ 17592186044416) (J Jx : List Int → World → Prop) (W0 : World) (hJ : AbidesFrom W0.heap.size J)
 (hY : ∀ pre x W, J pre W → pre.length < 28 → YieldAt Fence.wide (n - 1) Tryz.prog l #[.int .i64 x] W fun e W' =>
  (e = .returned (.bool true) ∧ J (pre ++ [x]) W' ∧ W'.heap[Bn]? = W.heap[Bn]?) ∨ (e = .returned (.bool false) ∧ Jx (pre ++ [x]) W'))
 (W : World) (hBn : Boxed W Bn 3 (.int .i64 m)) (h0 : J [] W) :
 CallsIn Fence.wide n Tryz.prog 188 #[.func (.yield l) #[] #[], .pointer (some ⟨Bn, 0, none⟩)] W fun e W' => (∃ v, e = .returned v) ∧
  ((∃ ys, IsT m ys ∧ J ys W') ∨ (∃ pre, True ∧ Jx pre W')) := by
 have hc := hBn.cell
 have HD1 := Lib.hid (divided_c 72057594037927936 m (by omega) (by omega))
 have e0 : ((72057594037927936 : Int) / (m : Int)) = (arcP m 0 : Int) := by rw [arcP, Int.natCast_ediv]; rfl
 rw [e0] at HD1
 clear e0
 have M1 := Lib.hid m1
 refine callsIn_of_wp Tryz.func188 rfl trivial ?_ rfl
 simp only [Tryz.ntmps188, List.size_toArray, List.length_cons, List.length_nil, Nat.reduceAdd, Nat.reduceSub, Array.replicate_succ, Array.replicate_zero, List.push_toArray, List.append_toArray, List.nil_append, List.cons_append]
 gi_wp2_with (gi_at_call 189; refine (callsIn_wide.2 (HD1.out _)).mono ?_; rintro e w2 ⟨rfl, rfl⟩)
 gi_loopw [3, 4, 5] (fun s d p wr => ∃ j : Nat, j ≤ 28 ∧ s = .int .i64 (sgn j) ∧ d = .int .i64 (2 * (j : Int) + 1) ∧ p = .int .i64 (arcP m j) ∧ Boxed wr Bn 3 (.int .i64 m) ∧ (∀ i, i < j → 0 < arcP m i) ∧ J ((List.range j).map (arcT m)) wr)
  (fun _ d _ _ => 100 - (intOf d).toNat)
 case atStart =>
  exact ⟨0, by omega, rfl, rfl, rfl, hBn, fun i hi => absurd hi (Nat.not_lt_zero _), h0⟩
 case round =>
  clear hc h0 hBn
  obtain ⟨j, hj, rfl, rfl, rfl, hb, hl, hJs⟩ := hrel
  have hc := hb.cell
  by_cases hp : arcP m j = 0
  ·have hp' : ((arcP m j : Int) != 0) = false := by simp [hp]
   gi_wp2
   go_end0
   exact ⟨⟨_, rfl⟩, .inl ⟨_, ⟨j, hj, hp, hl, rfl⟩, hJs⟩⟩
  ·have hp' : ((arcP m j : Int) != 0) = true := by simpa using hp
   have hj28 := arcP_live m j m0 (by omega)
   obtain ⟨fn, tmps, assign, body, hy, hR⟩ := hY _ (arcT m j) wr hJs (by simpa using hj28)
   have ht := arcP_top m j m0
   have HD := Lib.hid (divided_c (arcP m j) (2 * (j : Int) + 1) (by omega) (by omega))
   have E : wrap64 (sgn j * ((arcP m j : Int) / (2 * (j : Int) + 1))) = arcT m j := by
    rw [sgn_mul]
    have := arcT_bd m j m0
    exact IntWalk.wrap64_in _ ⟨by omega, by omega⟩
   rw [← E] at hy
   have HT := Lib.hid ht
   have HE := Lib.hid E
   clear E ht hc
   have hc := hb.cell
   gi_wp2_with (gi_at_call 189; refine (callsIn_wide.2 (HD.out _)).mono ?_; rintro e w2 ⟨rfl, rfl⟩)
   refine hR.mono ?_
   clear hy hR
   rintro e W3 (⟨rfl, hJ3, hk3⟩ | ⟨rfl, hJx3⟩)
   ·have hb3 : Boxed W3 Bn 3 (.int .i64 m) := hk3.trans hb
    clear hc hJs hk3
    have hc3 := hb3.cell
    have ht := HT.out
    have HA := Lib.hid (divided_c (arcP m j) m (by omega) (by omega))
    have hq : (arcP m j : Int) / (m : Int) ≤ 36028797018963968 := Int.le_trans (Int.ediv_le_self _ (by omega)) (by omega)
    have hq0 : 0 ≤ (arcP m j : Int) / (m : Int) := Int.ediv_nonneg (by omega) (by omega)
    have HB := Lib.hid (divided_c ((arcP m j : Int) / (m : Int)) m (by omega) (by omega))
    rw [← arcP_cast] at HB
    have sb := sgn_bd j
    clear ht hq hq0
    gi_wp2_with fail
    clear sb
    gi_quiet (first | (gi_at_call 189; with_reducible refine CallsIn.quiet_of_same (callsIn_wide.2 (HA.out _))) | (gi_at_call 189; with_reducible refine CallsIn.quiet_of_same (callsIn_wide.2 (HB.out _))))
    have hJ4 : J ((List.range (j + 1)).map (arcT m)) (W3.drewN nq) := by
     rw [arcL_succ]
     exact hJ _ _ _ none hJ3 ⟨rfl, rfl, rfl, Nat.le_refl _, fun _ _ _ => rfl⟩ (fun r e => by cases e)
    go_roundw
    case rel =>
     (repeat apply Exists.intro)
     refine ⟨?_, rfl⟩
     refine ⟨j + 1, by omega, by rw [sgn_succ], ?_, rfl, hb3, fun i hi => ?_, hJ4⟩
     ·congr 1
     ·by_cases hij : i = j
      ·rw [hij]; omega
      ·exact hl i (by omega)
    case measure => simp [intOf]; omega
   ·gi_wp2
    refine bodyPost_ret (results_none rfl _ _ _) rfl ?_
    exact ⟨⟨_, rfl⟩, .inr ⟨_, trivial, hJx3⟩⟩
theorem terms_stops (n : Nat) (hn : 1 ≤ n) (Bn m : Nat) (m0 : 2 ≤ m) (m1 : m ≤ 17592186044416) (w : World) (hb : Boxed w Bn 3 (.int .i64 m)) :
 SeqStopsK Fence.wide n Tryz.prog 188 #[.pointer (some ⟨Bn, 0, none⟩)] (fun x : Int => #[Value.int .i64 x]) (fun A B => B.heap[Bn]? = A.heap[Bn]?) (IsT m) (fun _ => True) 28 w := fun l J Jx W hW hJ _ hY h0 =>
 terms1_in n hn l Bn 0 m m0 m1 J Jx W hJ hY W ((hW.block Bn hb.lt).trans hb) h0
def sumW (xs : List Int) : Int := xs.foldl (fun s x => wrap64 (s + x)) 0
theorem sumW_snoc (xs : List Int) (x : Int) : sumW (xs ++ [x]) = wrap64 (sumW xs + x) := by simp [sumW]
theorem sumW_arc (m : Nat) (h : 2 ≤ m) : ∀ k, sumW ((List.range k).map (arcT m)) = arcS m k
 | 0 => rfl
 | k + 1 => by
   rw [arcL_succ, sumW_snoc, sumW_arc m h k]
   have := arcS_bd m (k + 1) h
   exact IntWalk.wrap64_in _ ⟨by rw [arcS] at this; omega, by rw [arcS] at this; omega⟩
theorem IsT.sum {m : Nat} {ys : List Int} (h : IsT m ys) (m0 : 2 ≤ m) : sumW ys = (arcOf m : Int) := by
 obtain ⟨k, hk, h0, _, rfl⟩ := h
 rw [sumW_arc m m0, arcS_all m k m0 (by omega) h0]
set_option maxRecDepth 100000 in set_option maxHeartbeats 2000000 in
theorem sum_c (Bn m : Nat) (m0 : 2 ≤ m) (m1 : m ≤ 17592186044416) (w : World) (hbn : Boxed w Bn 3 (.int .i64 m)) :
 CW 184 #[.func (.func 188) #[] #[.pointer (some ⟨Bn, 0, none⟩)]] w (.int .i64 (arcOf m)) :=by
 delta CW
 refine (callsIn_wide (n := 5)).1 ?_
 refine callsIn_of_wp_marks Tryz.func184 rfl trivial ?_ rfl
 simp only [Tryz.ntmps184, List.size_toArray, List.length_cons, List.length_nil, Nat.reduceAdd, Nat.reduceSub, Array.replicate_succ, Array.replicate_zero, List.push_toArray, List.append_toArray, List.nil_append, List.cons_append]
 gi_wp2
 have hs := And.intro (Boxed.new w 3 (.int .i64 0)).cell (Boxed.new w 3 (.int .i64 0)).frozen
 have hB0 : Below w.heap.size w (w.alloc (.cells #[.int .i64 0] 3)) := (Below.refl _ w).alloc (Nat.le_refl _) _
 refine wpIn_rangeFunc_ownF rfl (by omega) (gf := 188) (lb := #[.pointer (some ⟨Bn, 0, none⟩)]) rfl trivial (enters_of Tryz.func188 (by kernel_rfl) rfl)
  (terms_stops 4 (by omega) Bn m m0 m1 w hbn) (fun h k => k.trans h)
  (fun W l o o' hl h _ _ => World.putObj_heap_other (fun e => by have := hbn.lt; simp at hl; omega)) hB0 (fun _ => rfl)
  (fun pre W => (W.cell? ⟨w.heap.size, 0, none⟩ = some (.int .i64 (sumW pre)) ∧ W.frozen? ⟨w.heap.size, 0, none⟩ = false) ∧ Below w.heap.size w W)
  (fun _ _ _ => False)
  (OwnFrom.and (Own.from (fun s A B row hs hg hr => ⟨cell_kept hs.1 hg hr, (frozen_kept hs.1 hg hr).trans hs.2⟩) _) (ownFrom_below (Nat.le_refl _) (by simp)))
  (fun _ _ _ _ _ hs _ _ => hs)
  ⟨⟨hs.1, hs.2⟩, hB0⟩
  (fun x => { tmps := #[.func (.func 188) #[] #[.pointer (some ⟨Bn, 0, none⟩)], undef, .int .i64 0, .pointer (some ⟨w.heap.size, 0, none⟩), .int .i64 x, .func (.func 188) #[] #[.pointer (some ⟨Bn, 0, none⟩)], .int .i64 x, undef, undef, undef, undef], defers := [] }) ?assign ?body ?done ?stop
 case assign =>
  intro l x W K hK
  gi_wp2
  exact hK
 case body =>
  rintro l pre x W ⟨⟨hc, hf⟩, hB⟩ _
  gi_wp2
  refine ⟨KeepsOthers.setCell _ _ _, Below.heap_setCell _ _ _ _ ?_, ⟨by rw [sumW_snoc]; exact World.cell?_setCell_same' _ _ _ (by rw [hc]; rfl), by rw [World.frozen?_setCell]; exact hf⟩, hB.setCell (p := ⟨w.heap.size, 0, none⟩) (Nat.le_refl _) _⟩
  have := hbn.lt
  simp; omega
 case done =>
  rintro D ys W hD hS ⟨⟨hc, _⟩, hB⟩ hK
  rw [hS.sum m0] at hc
  gi_wp2
  refine ⟨by simp, .inl ⟨_, _, rfl, run_takeDeferred hK, ?_⟩⟩
  exact ⟨_, results_tmp rfl _ _ _, rfl, ⟨hB.trans (belowK_b (w := w) (Nat.le_refl _) W D _ _ (by simp at hD; omega) hK rfl rfl)⟩⟩
 case stop =>
  rintro D c pre W _ _ h _
  exact h.elim
end
section
open Go.ChangeShapes Go.WideShapes Go.ChangeAt Go.RowKit Go.Shelf
set_option linter.unusedVariables false
attribute [local go_sem] wideA_fn Oper.semAt_some
theorem arc_ok (m : Nat) (m0 : 2 ≤ m) (m1 : m ≤ 17592186044416) (w : World) :
 CW 197 #[.int .i64 m] w (.tuple #[.int .i64 (arcOf m), .int .i64 0]) :=by
 delta CW
 have HH := Lib.hid (hasArc_yes m (by omega) (by omega))
 have HT := Lib.hid (terms_c m)
 have HS := Lib.hid fun W => sum_c W.heap.size m m0 m1 (W.alloc (.cells #[.int .i64 m] 3)) (Boxed.new W _ _)
 clear m0 m1
 go_enter Tryz.func197, Tryz.ntmps197
 go_wp2_with (first
  | (go_at_call 198; refine (HH.out _).mono ?_; rintro e w1 ⟨rfl, rfl⟩)
  | (go_at_call 185; refine (HT.out _).mono ?_; rintro e w2 ⟨rfl, rfl⟩)
  | (go_at_call 184; refine (HS.out _).mono ?_; rintro e w3 ⟨rfl, hg⟩))
 go_ret2
 exact ⟨rfl, Gr.trans ((Gr.refl _).alloc _ _) hg⟩
theorem arc_2 : arcOf 2 = 33409331186036029 := by decide +kernel
theorem arc_3 : arcOf 3 = 23184570830191493 := by decide +kernel
theorem quarter_c (w : World) :
 CW 180 #[] w (.int .i64 56593902016227522) :=by
 delta CW
 have HT2 := Lib.hid (terms_c 2)
 have HT3 := Lib.hid (terms_c 3)
 have HS2 := Lib.hid fun W => sum_c W.heap.size 2 (by omega) (by omega) (W.alloc (.cells #[.int .i64 2] 3)) (Boxed.new W _ _)
 have HS3 := Lib.hid fun W => sum_c W.heap.size 3 (by omega) (by omega) (W.alloc (.cells #[.int .i64 3] 3)) (Boxed.new W _ _)
 rw [arc_2] at HS2
 rw [arc_3] at HS3
 go_enter Tryz.func180, Tryz.ntmps180
 go_wp2_with (first
  | (go_at_call 185; with_reducible refine (HT2.out _).mono ?_; rintro e w1 ⟨rfl, rfl⟩)
  | (go_at_call 184; with_reducible refine (HS2.out _).mono ?_; rintro e w2 ⟨rfl, hg2⟩; clear HS2 HT2)
  | (go_at_call 185; with_reducible refine (HT3.out _).mono ?_; rintro e w3 ⟨rfl, rfl⟩)
  | (go_at_call 184; with_reducible refine (HS3.out _).mono ?_; rintro e w4 ⟨rfl, hg4⟩))
 go_ret
 exact ⟨rfl, (Gr.trans ((Gr.refl _).alloc _ _) hg2).trans (Gr.trans ((Gr.refl _).alloc _ _) hg4)⟩
end
section
open Go.ChangeShapes Go.WideShapes Go.ChangeAt Go.RowKit
set_option linter.unusedVariables false
set_option maxRecDepth 100000
theorem pow56 (w : World) : Calls Tryz.prog 26 #[.int .i64 56] w fun e w' => e = .returned (.int .i64 72057594037927936) ∧ w' = w := by
 have := pow_c 56 (by omega) (by omega) w
 simpa using this
theorem refP_c (m k : Nat) (m0 : 2 ≤ m) (m1 : m ≤ 17592186044416) (hk : k ≤ 28) (w : World) :
 Calls Tryz.prog 182 #[.int .i64 m, .int .i64 k] w fun e w' => e = .returned (.int .i64 (arcP m k)) ∧ w' = w := by
 have HP := Lib.hid pow56
 have HD1 := Lib.hid (refDiv_c 72057594037927936 m (by omega) (by omega))
 have e0 : ((72057594037927936 : Int) / (m : Int)) = (arcP m 0 : Int) := by rw [arcP, Int.natCast_ediv]; rfl
 rw [e0] at HD1
 clear e0
 have M := Lib.hid (And.intro m0 m1)
 clear m0 m1
 go_enter Tryz.func182, Tryz.ntmps182
 go_wp2_with (first
  | (go_at_call 26; refine (HP.out _).mono ?_; rintro e w1 ⟨rfl, rfl⟩)
  | (go_at_call 129; refine (HD1.out _).mono ?_; rintro e w2 ⟨rfl, rfl⟩))
 rename World => w0
 go_loopw [5, 6] (fun p i wr => ∃ j : Nat, j ≤ k ∧ i = .int .i64 j ∧ p = .int .i64 (arcP m j) ∧ wr = w0)
  (fun _ i _ => k - (intOf i).toNat)
 case atStart => exact ⟨0, by omega, rfl, rfl, rfl⟩
 case round =>
  obtain ⟨j, hj, rfl, rfl, rfl⟩ := hrel
  by_cases hjk : j = k
  ·subst hjk
   go_wp2_with fail
   go_ret
   exact ⟨rfl, rfl⟩
  ·have hlt : j < k := by omega
   clear hj hjk
   have ht := arcP_top m j M.out.1
   have HA := Lib.hid (refDiv_c (arcP m j) m (by omega) (by have := M.out.1; omega))
   have hq : (arcP m j : Int) / (m : Int) ≤ 36028797018963968 := Int.le_trans (Int.ediv_le_self _ (by omega)) (by omega)
   have hq0 : 0 ≤ (arcP m j : Int) / (m : Int) := Int.ediv_nonneg (by omega) (by omega)
   have HB := Lib.hid (refDiv_c ((arcP m j : Int) / (m : Int)) m (by omega) (by have := M.out.1; omega))
   rw [← arcP_cast] at HB
   clear ht hq hq0
   go_wp2_with (first
    | (go_at_call 129; with_reducible refine (HA.out _).mono ?_; rintro e w1 ⟨rfl, rfl⟩)
    | (go_at_call 129; with_reducible refine (HB.out _).mono ?_; rintro e w2 ⟨rfl, rfl⟩))
   go_roundw
   case rel => exact ⟨j + 1, by omega, by go_num, rfl, trivial⟩
   case measure => simp [intOf]; omega
set_option maxHeartbeats 1000000 in
theorem refTerms_c (m : Nat) (m0 : 2 ≤ m) (m1 : m ≤ 17592186044416) (w : World) :
 Calls Tryz.prog 177 #[.int .i64 m] w fun e w' => ∃ v ys, e = .returned v ∧ IsT m ys ∧ IntsAt w' v ys ∧ Gr w w' := by
 obtain ⟨i0, hi, hz0, hz1, hz2⟩ := info_parts info_int
 have M := Lib.hid (And.intro m0 m1)
 clear m0 m1
 go_enter Tryz.func177, Tryz.ntmps177
 go_wp2_with fail
 have hs0 : ((w.alloc (.cells #[] 3)).ownsRow w.heap.size 3 1 (.slice (some ⟨w.heap.size, 0, none⟩) 0 0) 0 []) := World.ownsRow_made w #[] 0 (Nat.le_refl _) (by unfold maxLen; omega) (by simp)
 go_loopw [3, 4] (fun v i wr => ∃ j : Nat, j ≤ 28 ∧ i = .int .i64 j ∧ wr.ownsRow w.heap.size 3 1 v j (((List.range j).map (arcT m)).map (Value.int .i64)) ∧ (∀ i, i < j → 0 < arcP m i) ∧ Gr w wr)
  (fun _ i _ => 28 - (intOf i).toNat)
 case atStart => exact ⟨0, by omega, rfl, hs0, fun i hi => absurd hi (Nat.not_lt_zero _), (Gr.refl _).alloc _ _⟩
 case round =>
  clear hs0
  obtain ⟨j, hj, rfl, hrow, hl, hg⟩ := hrel
  have HP := Lib.hid (refP_c m j M.out.1 M.out.2 hj)
  by_cases hp : arcP m j = 0
  ·rw [hp] at HP
   go_wp2_with (go_at_call 182; refine (HP.out _).mono ?_; rintro e w1 ⟨rfl, rfl⟩)
   go_ret
   exact ⟨_, _, rfl, ⟨j, hj, hp, hl, rfl⟩, IntsAt.of_row hrow, hg⟩
  ·have hpos : (0 : Int) < (arcP m j : Int) := by omega
   have hj28 := arcP_live m j M.out.1 (by omega)
   have ht := arcP_top m j M.out.1
   have HD := Lib.hid (refDiv_c (arcP m j) (2 * (j : Int) + 1) (by omega) (by omega))
   have hm : (arcP m j : Int) / (2 * (j : Int) + 1) = (arcM m j : Int) := by rw [arcM, Int.natCast_ediv]; simp
   rw [hm] at HD
   have hmt := arcM_top m j M.out.1
   have hl2 : ∀ i, i < j + 1 → 0 < arcP m i := fun i hi => by
    by_cases e : i = j
    ·rw [e]; omega
    ·exact hl i (by omega)
   have hgs := hg.size
   clear ht hm hl hp
   by_cases ho : j % 2 = 1
   ·have hT : arcT m j = -(arcM m j : Int) := by rw [arcT, if_pos ho]
    have ho' : ((j : Int) % 2 == 1) = true := by simp; omega
    have HT := Lib.hid hT
    clear hT ho
    go_wp2_with (first
     | (go_at_call 182; refine (HP.out _).mono ?_; rintro e wr ⟨rfl, rfl⟩)
     | (go_at_call 129; refine (HD.out _).mono ?_; rintro e wr ⟨rfl, rfl⟩)
     | (at_builtin; refine wpList_append_own _ rfl (.tmp 25) (.tmp 27) 25 rfl w.heap.size 3 i0 (.int .i64 0) 1 8 Tryz.underlying25 hi hz0 hz1 hz2 rfl (by decide) _ _ _ rfl (hrow.alloc _) ⟨wr.heap.size, 0, none⟩ 1 1 [.int .i64 (-(arcM m j : Int))] rfl rfl (cell_one_new _ _ _) (by simp [Value.oneCell']) (by unfold maxLen; omega) (by omega) (by simp; omega) ?_; intro v' w3 hown' hgrow _))
    rw [← HT.out, ← List.map_singleton (f := Value.int .i64), ← List.map_append, ← arcL_succ] at hown'
    have hg3 := (hg.allocO _).grown hgrow (fun k e => (hrow.lt k e).1)
    go_roundw
    case rel => exact ⟨j + 1, by omega, by go_num, hown', hl2, hg3⟩
    case measure => simp [intOf]; omega
   ·have hT : arcT m j = (arcM m j : Int) := by rw [arcT, if_neg ho]
    have ho' : ((j : Int) % 2 == 1) = false := by simp; omega
    have HT := Lib.hid hT
    clear hT ho
    go_wp2_with (first
     | (go_at_call 182; refine (HP.out _).mono ?_; rintro e wr ⟨rfl, rfl⟩)
     | (go_at_call 129; refine (HD.out _).mono ?_; rintro e wr ⟨rfl, rfl⟩)
     | (at_builtin; refine wpList_append_own _ rfl (.tmp 25) (.tmp 27) 25 rfl w.heap.size 3 i0 (.int .i64 0) 1 8 Tryz.underlying25 hi hz0 hz1 hz2 rfl (by decide) _ _ _ rfl (hrow.alloc _) ⟨wr.heap.size, 0, none⟩ 1 1 [.int .i64 ((arcM m j : Int))] rfl rfl (cell_one_new _ _ _) (by simp [Value.oneCell']) (by unfold maxLen; omega) (by omega) (by simp; omega) ?_; intro v' w3 hown' hgrow _))
    rw [← HT.out, ← List.map_singleton (f := Value.int .i64), ← List.map_append, ← arcL_succ] at hown'
    have hg3 := (hg.allocO _).grown hgrow (fun k e => (hrow.lt k e).1)
    go_roundw
    case rel => exact ⟨j + 1, by omega, by go_num, hown', hl2, hg3⟩
    case measure => simp [intOf]; omega
end
section
open Go.ChangeShapes Go.WideShapes Go.ChangeAt Go.RowKit
set_option linter.unusedVariables false
theorem sumW_take {xs : List Int} {k : Nat} {x : Int} (h : xs[k]? = some x) : sumW (xs.take (k + 1)) = wrap64 (sumW (xs.take k) + x) := by
 rw [take_snoc h, sumW_snoc]
theorem IsT.ne {m : Nat} {ys : List Int} (h : IsT m ys) (m0 : 2 ≤ m) (m1 : m ≤ 17592186044416) : ys ≠ [] := by
 obtain ⟨k, hk, h0, _, rfl⟩ := h
 intro e
 have hk0 : k = 0 := by simpa using e
 rw [hk0, arcP] at h0
 have := Nat.div_pos (show m ≤ 72057594037927936 by omega) (show 0 < m by omega)
 omega
set_option maxHeartbeats 1000000 in
theorem refArc_c (m : Nat) (m0 : 2 ≤ m) (m1 : m ≤ 17592186044416) (w : World) :
 CW 171 #[.int .i64 m] w (.int .i64 (arcOf m)) :=by
 delta CW
 have HT := Lib.hid (refTerms_c m m0 m1)
 have M := Lib.hid (And.intro m0 m1)
 clear m0 m1
 go_enter Tryz.func171, Tryz.ntmps171
 go_wp2_with fail
 refine (HT.out _).mono ?_
 rintro e w1 ⟨v, ys, rfl, hT, hI, hg⟩
 have HS := Lib.hid (hT.sum M.out.1)
 have NE := Lib.hid (hT.ne M.out.1 M.out.2)
 clear hT HT
 rcases hI with ⟨rfl, rfl⟩ | ⟨b, o, cap, rfl, hl, hm, hb, hc⟩
 ·exact absurd rfl NE.out
 ·have HC := Lib.hid hc
  have hlen : ys.length ≤ 9223372036854775807 := by unfold maxLen at hm; omega
  clear hc hb hm hl
  go_wp2_with fail
  go_loop [3, 9] (fun s i => ∃ k : Nat, k ≤ ys.length ∧ i = .int .i64 k ∧ s = .int .i64 (sumW (ys.take k))) (fun _ i => ys.length - (intOf i).toNat)
  case atStart => exact ⟨0, Nat.zero_le _, rfl, rfl⟩
  case round =>
   obtain ⟨k, hk, rfl, rfl⟩ := hrel
   by_cases hlt : k < ys.length
   ·obtain ⟨x, hx⟩ := get_of_lt hlt
    have hcx := HC.out k x hx
    have HE := Lib.hid (sumW_take hx)
    clear hx
    go_wp2_with fail
    go_round
    case rel => exact ⟨k + 1, by omega, by go_num, by rw [HE.out]⟩
    case measure => simp [intOf]; omega
   ·have he : k = ys.length := by omega
    subst he
    go_wp2_with fail
    go_ret
    exact ⟨by rw [← HS.out]; rfl, hg⟩
theorem refQuarter_c (w : World) :
 CW 170 #[] w (.int .i64 56593902016227522) :=by
 delta CW
 have HA : CR 171 #[.int .i64 2] (.int .i64 33409331186036029) := Lib.hid fun W => by
  have := refArc_c 2 (by omega) (by omega) W
  rw [arc_2] at this
  exact this
 have HB : CR 171 #[.int .i64 3] (.int .i64 23184570830191493) := Lib.hid fun W => by
  have := refArc_c 3 (by omega) (by omega) W
  rw [arc_3] at this
  exact this
 go_enter Tryz.func170, Tryz.ntmps170
 go_wp2_with (first
  | (go_at_call 171; with_reducible refine (HA.out _).mono ?_; rintro e w1 ⟨rfl, hg1⟩)
  | (go_at_call 171; with_reducible refine (HB.out _).mono ?_; rintro e w2 ⟨rfl, hg2⟩))
 go_ret
 exact ⟨rfl, hg1.trans hg2⟩
end
end Go.Proofs.YtablflakcaimmaaGreat
