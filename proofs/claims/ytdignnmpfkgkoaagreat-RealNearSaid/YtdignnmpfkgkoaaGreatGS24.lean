import Derived.Test.YtdignnmpfkgkoaaGreatGS21
namespace Go.Proofs.YtdignnmpfkgkoaaGreat
section
open Go.ChangeShapes Go.WideShapes Go.ChangeAt Go.RowKit
set_option linter.unusedVariables false
set_option linter.unusedSimpArgs false
set_option maxRecDepth 100000
set_option maxHeartbeats 8000000 in
theorem rlBin_of (a o v t b ta tb oa ob z : Gi) (fo lo ke sc mo : Int) (iv : Bool) (k b0 T q l1 s0 s1 d : Int) (HB : CR 97 #[.agg #[.int .i64 fo, .int .i64 lo, .int .i64 ke, .int .i64 sc, .int .i64 mo, .bool iv]] (.int .i64 b0))
 (HE : Hid (wrap64 (b0 - 2) = T ∧ IntKind.i64.wrap (b0 - 2) = T ∧ (∀ W, (Op.shift .shl .i64 1 .i64 T).run Tryz.prog W = .ok (.int .i64 q) W) ∧ wrap64 (lo + 1) = l1 ∧ IntKind.i64.wrap (lo + 1) = l1))
 (HF : Hid (wrap64 ((oa).re + (ob).re) = s0 ∧ wrap64 ((oa).im + (ob).im) = s1 ∧ wrap64 (T + 2) = d ∧ IntKind.i64.wrap ((oa).re + (ob).re) = s0 ∧ IntKind.i64.wrap ((oa).im + (ob).im) = s1 ∧ IntKind.i64.wrap (T + 2) = d))
 (HR : CR 124 #[.int .i64 l1, .int .i64 k, .int .i64 T] (.tuple #[.agg #[.int .i64 (v).re, .int .i64 (v).im], .int .i64 0])) (HT : CR 125 #[.agg #[.int .i64 (v).re, .int .i64 (v).im], .int .i64 (-1)] (.tuple #[.agg #[.int .i64 (t).re, .int .i64 (t).im], .int .i64 0])) (HC : CR 116 #[.agg #[.int .i64 (o).re, .int .i64 (o).im]] (.tuple #[.agg #[.int .i64 (b).re, .int .i64 (b).im], .int .i64 0]))
 (HS : CR 126 #[.agg #[.int .i64 q, .int .i64 0], .agg #[.int .i64 (t).re, .int .i64 (t).im]] (.tuple #[.agg #[.int .i64 (ta).re, .int .i64 (ta).im], .int .i64 0])) (HL : CR 127 #[.agg #[.int .i64 q, .int .i64 0], .agg #[.int .i64 (t).re, .int .i64 (t).im]] (.tuple #[.agg #[.int .i64 (tb).re, .int .i64 (tb).im], .int .i64 0]))
 (H1 : CR 128 #[.agg #[.int .i64 (a).re, .int .i64 (a).im], .agg #[.int .i64 (ta).re, .int .i64 (ta).im]] (.tuple #[.agg #[.int .i64 (oa).re, .int .i64 (oa).im], .int .i64 0])) (H2 : CR 128 #[.agg #[.int .i64 (b).re, .int .i64 (b).im], .agg #[.int .i64 (tb).re, .int .i64 (tb).im]] (.tuple #[.agg #[.int .i64 (ob).re, .int .i64 (ob).im], .int .i64 0])) (HZ : CR 129 #[.agg #[.int .i64 s0, .int .i64 s1], .int .i64 d, .int .i64 mo] (.tuple #[.agg #[.int .i64 (z).re, .int .i64 (z).im], .int .i64 0])) (w : World) :
 Calls Tryz.prog 73 #[.agg #[.int .i64 (a).re, .int .i64 (a).im], .agg #[.int .i64 (o).re, .int .i64 (o).im], .int .i64 k, .agg #[.int .i64 fo, .int .i64 lo, .int .i64 ke, .int .i64 sc, .int .i64 mo, .bool iv]] w fun e w' => e = .returned (.agg #[.int .i64 (z).re, .int .i64 (z).im]) ∧ Gr w w' := by
 go_enter Tryz.func73, Tryz.ntmps73
 go_wp2_with fail
 obtain ⟨u0, hU⟩ : ∃ uu, uu = ((((w.alloc (.cells #[.int .i64 (a).re, .int .i64 (a).im] 50)).alloc (.cells #[.int .i64 (o).re, .int .i64 (o).im] 50)).alloc (.cells #[.int .i64 fo, .int .i64 lo, .int .i64 ke, .int .i64 sc, .int .i64 mo, .bool iv] 24)).alloc (.cells #[.int .i64 0, .int .i64 0] 50)) := ⟨_, rfl⟩
 have ⟨gu, R0, R1, R2, R3⟩ := lay4 hU
 rw [← hU]
 clear hU
 have la := R0.lt
 have lo := R1.lt
 have lp := R2.lt
 have lr := R3.lt
 obtain ⟨cp0, cp1, cp2, cp3, cp4, cp5⟩ := R2.t6
 go_wp2_with fail
 clear cp0 cp1 cp2 cp3 cp4 cp5
 refine (HB.out _).mono ?_
 rintro e w1 ⟨rfl, g1⟩
 have ⟨Fa_1, la_1⟩ := CellsAt.gl (R0) g1
 have ⟨Fo_1, lo_1⟩ := CellsAt.gl (R1) g1
 have ⟨Fp_1, lp_1⟩ := CellsAt.gl (R2) g1
 have ⟨Fr_1, lr_1⟩ := CellsAt.gl (R3) g1
 have z1 := (gu).trans g1
 clear R0 R1 R2 R3 gu g1
 obtain ⟨e1, e1b, e2, e3, e3b⟩ := HE.out
 obtain ⟨cp0, cp1, cp2, cp3, cp4, cp5⟩ := Fp_1.t6
 go_wp2_with fail
 clear cp0 cp1 cp2 cp3 cp4 cp5
 refine (HR.out _).mono ?_
 rintro e w2 ⟨rfl, g2⟩
 have ⟨Fa_2, la_2⟩ := CellsAt.gl ((Fa_1).alloc _) g2
 have ⟨Fo_2, lo_2⟩ := CellsAt.gl ((Fo_1).alloc _) g2
 have ⟨Fp_2, lp_2⟩ := CellsAt.gl ((Fp_1).alloc _) g2
 have ⟨Fr_2, lr_2⟩ := CellsAt.gl ((Fr_1).alloc _) g2
 have ⟨Fn_2, ln_2⟩ := CellsAt.gl (CellsAt.new w1 50 #[.int .i64 q, .int .i64 0]) g2
 have z2 := ((z1).alloc _ _).trans g2
 clear g2
 go_wp2_with fail
 refine (HT.out _).mono ?_
 rintro e w3 ⟨rfl, g3⟩
 have ⟨Fa_3, la_3⟩ := CellsAt.gl ((Fa_2).alloc _) g3
 have ⟨Fo_3, lo_3⟩ := CellsAt.gl ((Fo_2).alloc _) g3
 have ⟨Fp_3, lp_3⟩ := CellsAt.gl ((Fp_2).alloc _) g3
 have ⟨Fr_3, lr_3⟩ := CellsAt.gl ((Fr_2).alloc _) g3
 have ⟨Fn_3, ln_3⟩ := CellsAt.gl ((Fn_2).alloc _) g3
 have ⟨Fw_3, lw_3⟩ := CellsAt.gl (CellsAt.new w2 50 #[.int .i64 (v).re, .int .i64 (v).im]) g3
 have z3 := ((z2).alloc _ _).trans g3
 clear g3
 obtain ⟨co0, co1⟩ := Fo_3.t2
 go_wp2_with fail
 clear co0 co1
 refine (HC.out _).mono ?_
 rintro e w4 ⟨rfl, g4⟩
 have ⟨Fa_4, la_4⟩ := CellsAt.gl ((Fa_3).alloc _) g4
 have ⟨Fo_4, lo_4⟩ := CellsAt.gl ((Fo_3).alloc _) g4
 have ⟨Fp_4, lp_4⟩ := CellsAt.gl ((Fp_3).alloc _) g4
 have ⟨Fr_4, lr_4⟩ := CellsAt.gl ((Fr_3).alloc _) g4
 have ⟨Fn_4, ln_4⟩ := CellsAt.gl ((Fn_3).alloc _) g4
 have ⟨Ft_4, lt_4⟩ := CellsAt.gl (CellsAt.new w3 50 #[.int .i64 (t).re, .int .i64 (t).im]) g4
 have z4 := ((z3).alloc _ _).trans g4
 clear g4
 obtain ⟨cn0, cn1⟩ := Fn_4.t2
 obtain ⟨ct0, ct1⟩ := Ft_4.t2
 go_wp2_with fail
 clear cn0 cn1 ct0 ct1
 refine (HS.out _).mono ?_
 rintro e w5 ⟨rfl, g5⟩
 have ⟨Fa_5, la_5⟩ := CellsAt.gl ((Fa_4).alloc _) g5
 have ⟨Fp_5, lp_5⟩ := CellsAt.gl ((Fp_4).alloc _) g5
 have ⟨Fr_5, lr_5⟩ := CellsAt.gl ((Fr_4).alloc _) g5
 have ⟨Fn_5, ln_5⟩ := CellsAt.gl ((Fn_4).alloc _) g5
 have ⟨Ft_5, lt_5⟩ := CellsAt.gl ((Ft_4).alloc _) g5
 have ⟨Fb_5, lb_5⟩ := CellsAt.gl (CellsAt.new w4 50 #[.int .i64 (b).re, .int .i64 (b).im]) g5
 have z5 := ((z4).alloc _ _).trans g5
 clear g5
 obtain ⟨cn0, cn1⟩ := Fn_5.t2
 obtain ⟨ct0, ct1⟩ := Ft_5.t2
 go_wp2_with fail
 clear cn0 cn1 ct0 ct1
 refine (HL.out _).mono ?_
 rintro e w6 ⟨rfl, g6⟩
 have ⟨Fa_6, la_6⟩ := CellsAt.gl ((Fa_5).alloc _) g6
 have ⟨Fp_6, lp_6⟩ := CellsAt.gl ((Fp_5).alloc _) g6
 have ⟨Fr_6, lr_6⟩ := CellsAt.gl ((Fr_5).alloc _) g6
 have ⟨Fn_6, ln_6⟩ := CellsAt.gl ((Fn_5).alloc _) g6
 have ⟨Ft_6, lt_6⟩ := CellsAt.gl ((Ft_5).alloc _) g6
 have ⟨Fb_6, lb_6⟩ := CellsAt.gl ((Fb_5).alloc _) g6
 have ⟨Fx_6, lx_6⟩ := CellsAt.gl (CellsAt.new w5 50 #[.int .i64 (ta).re, .int .i64 (ta).im]) g6
 have z6 := ((z5).alloc _ _).trans g6
 clear g6
 obtain ⟨ca0, ca1⟩ := Fa_6.t2
 obtain ⟨cx0, cx1⟩ := Fx_6.t2
 go_wp2_with fail
 clear ca0 ca1 cx0 cx1
 refine (H1.out _).mono ?_
 rintro e w7 ⟨rfl, g7⟩
 have ⟨Fa_7, la_7⟩ := CellsAt.gl ((Fa_6).alloc _) g7
 have ⟨Fp_7, lp_7⟩ := CellsAt.gl ((Fp_6).alloc _) g7
 have ⟨Fr_7, lr_7⟩ := CellsAt.gl ((Fr_6).alloc _) g7
 have ⟨Fb_7, lb_7⟩ := CellsAt.gl ((Fb_6).alloc _) g7
 have ⟨Fx_7, lx_7⟩ := CellsAt.gl ((Fx_6).alloc _) g7
 have ⟨Fy_7, ly_7⟩ := CellsAt.gl (CellsAt.new w6 50 #[.int .i64 (tb).re, .int .i64 (tb).im]) g7
 have z7 := ((z6).alloc _ _).trans g7
 clear g7
 obtain ⟨cb0, cb1⟩ := Fb_7.t2
 obtain ⟨cy0, cy1⟩ := Fy_7.t2
 go_wp2_with fail
 clear cb0 cb1 cy0 cy1
 refine (H2.out _).mono ?_
 rintro e w8 ⟨rfl, g8⟩
 have ⟨Fp_8, lp_8⟩ := CellsAt.gl ((Fp_7).alloc _) g8
 have ⟨Fr_8, lr_8⟩ := CellsAt.gl ((Fr_7).alloc _) g8
 have ⟨Fb_8, lb_8⟩ := CellsAt.gl ((Fb_7).alloc _) g8
 have ⟨Fy_8, ly_8⟩ := CellsAt.gl ((Fy_7).alloc _) g8
 have ⟨Fc_8, lc_8⟩ := CellsAt.gl (CellsAt.new w7 50 #[.int .i64 (oa).re, .int .i64 (oa).im]) g8
 have z8 := ((z7).alloc _ _).trans g8
 clear g8
 obtain ⟨f1, f2, f3, f1b, f2b, f3b⟩ := HF.out
 obtain ⟨cc0, cc1⟩ := Fc_8.t2
 obtain ⟨cp0, cp1, cp2, cp3, cp4, cp5⟩ := Fp_8.t6
 go_wp2_with fail
 clear cc0 cc1 cp0 cp1 cp2 cp3 cp4 cp5
 refine (HZ.out _).mono ?_
 rintro e w9 ⟨rfl, g9⟩
 have ⟨Fp_9, lp_9⟩ := CellsAt.gl ((Fp_8).alloc _) g9
 have ⟨Fr_9, lr_9⟩ := CellsAt.gl ((Fr_8).alloc _) g9
 have ⟨Fc_9, lc_9⟩ := CellsAt.gl ((Fc_8).alloc _) g9
 have ⟨Fd_9, ld_9⟩ := CellsAt.gl (CellsAt.new w8 50 #[.int .i64 (ob).re, .int .i64 (ob).im]) g9
 have z9 := ((z8).alloc _ _).trans g9
 clear g9
 have mr0 := CellsAt.frozen (Fr_9) 0
 have cr0 := Fr_9.at 0
 have mr1 := CellsAt.frozen (Fr_9) 1
 have cr1 := Fr_9.at 1
 go_wp2_with fail
 clear mr0 cr0 mr1 cr1
 obtain ⟨uf, hqp1⟩ : ∃ zz, zz = (((w9.setCell ⟨w.heap.size + 1 + 1 + 1, 0, none⟩ (.int .i64 (z).re)).setCell ⟨w.heap.size + 1 + 1 + 1, 1, none⟩ (.int .i64 (z).im)).alloc (.cells #[.int .i64 (z).re, .int .i64 (z).im] 50)) := ⟨_, rfl⟩
 have Yr_p1 : CellsAt uf (w.heap.size + 1 + 1 + 1) 50 #[.int .i64 (z).re, .int .i64 (z).im] := by rw [hqp1]; first | exact (CellsAt.set2 (Fr_9) _ _).alloc _ | simpa using (CellsAt.set2 (Fr_9) _ _).alloc _
 have yp1 : Gr w uf := by rw [hqp1]; exact (((z9).setCell (by first | omega | (simp only; omega)) _).setCell (by first | omega | (simp only; omega)) _).alloc _ _
 rw [← hqp1]
 clear hqp1
 obtain ⟨cr0, cr1⟩ := Yr_p1.t2
 refine bodyPost_ret (v := .agg #[.int .i64 (z).re, .int .i64 (z).im]) ?_ rfl ⟨rfl, yp1⟩
 simp [results, Tryz.results73, go_sem, *]
end
section
open Go.ChangeShapes Go.WideShapes Go.ChangeAt Go.RowKit Go.Shelf
set_option linter.unusedVariables false
set_option maxRecDepth 100000
theorem wideA_fn (f : FuncId) : Fence.wide.fn f = True := rfl
attribute [local go_sem] wideA_fn Oper.semAt_some
theorem divided_c (x d : Int) (wx : -9223372036854775808 ≤ x ∧ x ≤ 9223372036854775807) (h : 1 ≤ d) (w : World) :
 Calls Tryz.prog 231 #[.int .i64 x, .int .i64 d] w fun e w' => e = .returned (.int .i64 (x / d)) ∧ w' = w := by
 have HD := Lib.hid (div_ok x d wx h)
 clear wx h
 go_enter Tryz.func231, Tryz.ntmps231
 go_wp2_with (go_at_call 235; refine (HD.out _).mono ?_; rintro e w2 ⟨rfl, rfl⟩)
 go_ret
 exact ⟨rfl, rfl⟩
theorem hasArc_yes (x : Int) (h0 : 2 ≤ x) (h1 : x ≤ 17592186044416) (w : World) :
 Calls Tryz.prog 240 #[.int .i64 x] w fun e w' => e = .returned (.bool true) ∧ w' = w := by
 go_enter Tryz.func240, Tryz.ntmps240
 go_wp2
 go_ret
 exact ⟨rfl, rfl⟩
theorem terms_c (x : Int) (w : World) :
 Calls Tryz.prog 227 #[.int .i64 x] w fun e w' => e = .returned (.func (.func 230) #[] #[.pointer (some ⟨w.heap.size, 0, none⟩)]) ∧ w' = w.alloc (.cells #[.int .i64 x] 3) := by
 go_enter Tryz.func227, Tryz.ntmps227
 go_wp2
 go_ret
 exact ⟨rfl, rfl⟩
def IsT (m : Nat) (ys : List Int) : Prop := ∃ k, k ≤ 28 ∧ arcP m k = 0 ∧ (∀ j, j < k → 0 < arcP m j) ∧ ys = (List.range k).map (arcT m)
def sgn (j : Nat) : Int := if j % 2 = 1 then -1 else 1
theorem sgn_mul (m j : Nat) : sgn j * ((arcP m j : Int) / (2 * (j : Int) + 1)) = arcT m j := by
 have e : (arcP m j : Int) / (2 * (j : Int) + 1) = (arcM m j : Int) := by
  rw [arcM, Int.natCast_ediv]; simp
 rw [e, sgn, arcT]
 split <;> omega
theorem sgn_succ (j : Nat) : -sgn j = sgn (j + 1) := by
 unfold sgn
 by_cases h : j % 2 = 1
 ·rw [if_pos h, if_neg (by omega)]; rfl
 ·rw [if_neg h, if_pos (by omega)]
theorem sgn_bd (j : Nat) : -1 ≤ sgn j ∧ sgn j ≤ 1 := by unfold sgn; split <;> omega
theorem arcT_bd (m j : Nat) (h : 2 ≤ m) : -36028797018963968 ≤ arcT m j ∧ arcT m j ≤ 36028797018963968 := by
 have := arcM_top m j h
 unfold arcT
 split <;> omega
theorem arcP_cast (m j : Nat) : (arcP m (j + 1) : Int) = (arcP m j : Int) / (m : Int) / (m : Int) := by
 rw [arcP, Int.natCast_ediv, Int.natCast_ediv]
theorem arcL_succ (m j : Nat) : (List.range (j + 1)).map (arcT m) = (List.range j).map (arcT m) ++ [arcT m j] := by
 rw [List.range_succ, List.map_append]; rfl
set_option maxRecDepth 100000 in set_option maxHeartbeats 2000000 in
theorem terms1_in (n : Nat) (hn : 1 ≤ n) (l Bn B0 m : Nat) (m0 : 2 ≤ m) (m1 : m ≤ 17592186044416) (J Jx : List Int → World → Prop) (W0 : World) (hJ : AbidesFrom W0.heap.size J)
 (hY : ∀ pre x W, J pre W → pre.length < 28 → YieldAt Fence.wide (n - 1) Tryz.prog l #[.int .i64 x] W fun e W' =>
  (e = .returned (.bool true) ∧ J (pre ++ [x]) W' ∧ W'.heap[Bn]? = W.heap[Bn]?) ∨ (e = .returned (.bool false) ∧ Jx (pre ++ [x]) W'))
 (W : World) (hBn : Boxed W Bn 3 (.int .i64 m)) (h0 : J [] W) :
 CallsIn Fence.wide n Tryz.prog 230 #[.func (.yield l) #[] #[], .pointer (some ⟨Bn, 0, none⟩)] W fun e W' => (∃ v, e = .returned v) ∧
  ((∃ ys, IsT m ys ∧ J ys W') ∨ (∃ pre, True ∧ Jx pre W')) := by
 have hc := hBn.cell
 have HD1 := Lib.hid (divided_c 72057594037927936 m (by omega) (by omega))
 have e0 : ((72057594037927936 : Int) / (m : Int)) = (arcP m 0 : Int) := by rw [arcP, Int.natCast_ediv]; rfl
 rw [e0] at HD1
 clear e0
 have M1 := Lib.hid m1
 refine callsIn_of_wp Tryz.func230 rfl trivial ?_ rfl
 simp only [Tryz.ntmps230, List.size_toArray, List.length_cons, List.length_nil, Nat.reduceAdd, Nat.reduceSub, Array.replicate_succ, Array.replicate_zero, List.push_toArray, List.append_toArray, List.nil_append, List.cons_append]
 gi_wp2_with (gi_at_call 231; refine (callsIn_wide.2 (HD1.out _)).mono ?_; rintro e w2 ⟨rfl, rfl⟩)
 gi_loopw [3, 4, 5] (fun s d p wr => ∃ j : Nat, j ≤ 28 ∧ s = .int .i64 (sgn j) ∧ d = .int .i64 (2 * (j : Int) + 1) ∧ p = .int .i64 (arcP m j) ∧ Boxed wr Bn 3 (.int .i64 m) ∧ (∀ i, i < j → 0 < arcP m i) ∧ J ((List.range j).map (arcT m)) wr)
  (fun _ d _ _ => 100 - (intOf d).toNat)
 case atStart =>
  exact ⟨0, by omega, rfl, rfl, rfl, hBn, fun i hi => absurd hi (Nat.not_lt_zero _), h0⟩
 case round =>
  clear hc h0 hBn
  obtain ⟨j, hj, rfl, rfl, rfl, hb, hl, hJs⟩ := hrel
  have hc := hb.cell
  by_cases hp : arcP m j = 0
  ·have hp' : ((arcP m j : Int) != 0) = false := by simp [hp]
   gi_wp2
   go_end0
   exact ⟨⟨_, rfl⟩, .inl ⟨_, ⟨j, hj, hp, hl, rfl⟩, hJs⟩⟩
  ·have hp' : ((arcP m j : Int) != 0) = true := by simpa using hp
   have hj28 := arcP_live m j m0 (by omega)
   obtain ⟨fn, tmps, assign, body, hy, hR⟩ := hY _ (arcT m j) wr hJs (by simpa using hj28)
   have ht := arcP_top m j m0
   have HD := Lib.hid (divided_c (arcP m j) (2 * (j : Int) + 1) (by omega) (by omega))
   have E : wrap64 (sgn j * ((arcP m j : Int) / (2 * (j : Int) + 1))) = arcT m j := by
    rw [sgn_mul]
    have := arcT_bd m j m0
    exact IntWalk.wrap64_in _ ⟨by omega, by omega⟩
   rw [← E] at hy
   have HT := Lib.hid ht
   have HE := Lib.hid E
   clear E ht hc
   have hc := hb.cell
   gi_wp2_with (gi_at_call 231; refine (callsIn_wide.2 (HD.out _)).mono ?_; rintro e w2 ⟨rfl, rfl⟩)
   refine hR.mono ?_
   clear hy hR
   rintro e W3 (⟨rfl, hJ3, hk3⟩ | ⟨rfl, hJx3⟩)
   ·have hb3 : Boxed W3 Bn 3 (.int .i64 m) := hk3.trans hb
    clear hc hJs hk3
    have hc3 := hb3.cell
    have ht := HT.out
    have HA := Lib.hid (divided_c (arcP m j) m (by omega) (by omega))
    have hq : (arcP m j : Int) / (m : Int) ≤ 36028797018963968 := Int.le_trans (Int.ediv_le_self _ (by omega)) (by omega)
    have hq0 : 0 ≤ (arcP m j : Int) / (m : Int) := Int.ediv_nonneg (by omega) (by omega)
    have HB := Lib.hid (divided_c ((arcP m j : Int) / (m : Int)) m (by omega) (by omega))
    rw [← arcP_cast] at HB
    have sb := sgn_bd j
    clear ht hq hq0
    gi_wp2_with fail
    clear sb
    gi_quiet (first | (gi_at_call 231; with_reducible refine CallsIn.quiet_of_same (callsIn_wide.2 (HA.out _))) | (gi_at_call 231; with_reducible refine CallsIn.quiet_of_same (callsIn_wide.2 (HB.out _))))
    have hJ4 : J ((List.range (j + 1)).map (arcT m)) (W3.drewN nq) := by
     rw [arcL_succ]
     exact hJ _ _ _ none hJ3 ⟨rfl, rfl, rfl, Nat.le_refl _, fun _ _ _ => rfl⟩ (fun r e => by cases e)
    go_roundw
    case rel =>
     (repeat apply Exists.intro)
     refine ⟨?_, rfl⟩
     refine ⟨j + 1, by omega, by rw [sgn_succ], ?_, rfl, hb3, fun i hi => ?_, hJ4⟩
     ·congr 1
     ·by_cases hij : i = j
      ·rw [hij]; omega
      ·exact hl i (by omega)
    case measure => simp [intOf]; omega
   ·gi_wp2
    refine bodyPost_ret (results_none rfl _ _ _) rfl ?_
    exact ⟨⟨_, rfl⟩, .inr ⟨_, trivial, hJx3⟩⟩
theorem terms_stops (n : Nat) (hn : 1 ≤ n) (Bn m : Nat) (m0 : 2 ≤ m) (m1 : m ≤ 17592186044416) (w : World) (hb : Boxed w Bn 3 (.int .i64 m)) :
 SeqStopsK Fence.wide n Tryz.prog 230 #[.pointer (some ⟨Bn, 0, none⟩)] (fun x : Int => #[Value.int .i64 x]) (fun A B => B.heap[Bn]? = A.heap[Bn]?) (IsT m) (fun _ => True) 28 w := fun l J Jx W hW hJ _ hY h0 =>
 terms1_in n hn l Bn 0 m m0 m1 J Jx W hJ hY W ((hW.block Bn hb.lt).trans hb) h0
def sumW (xs : List Int) : Int := xs.foldl (fun s x => wrap64 (s + x)) 0
theorem sumW_snoc (xs : List Int) (x : Int) : sumW (xs ++ [x]) = wrap64 (sumW xs + x) := by simp [sumW]
theorem sumW_arc (m : Nat) (h : 2 ≤ m) : ∀ k, sumW ((List.range k).map (arcT m)) = arcS m k
 | 0 => rfl
 | k + 1 => by
   rw [arcL_succ, sumW_snoc, sumW_arc m h k]
   have := arcS_bd m (k + 1) h
   exact IntWalk.wrap64_in _ ⟨by rw [arcS] at this; omega, by rw [arcS] at this; omega⟩
theorem IsT.sum {m : Nat} {ys : List Int} (h : IsT m ys) (m0 : 2 ≤ m) : sumW ys = (arcOf m : Int) := by
 obtain ⟨k, hk, h0, _, rfl⟩ := h
 rw [sumW_arc m m0, arcS_all m k m0 (by omega) h0]
set_option maxRecDepth 100000 in set_option maxHeartbeats 2000000 in
theorem sum_c (Bn m : Nat) (m0 : 2 ≤ m) (m1 : m ≤ 17592186044416) (w : World) (hbn : Boxed w Bn 3 (.int .i64 m)) :
 Calls Tryz.prog 226 #[.func (.func 230) #[] #[.pointer (some ⟨Bn, 0, none⟩)]] w fun e w' => e = .returned (.int .i64 (arcOf m)) ∧ Gr w w' := by
 refine (callsIn_wide (n := 5)).1 ?_
 refine callsIn_of_wp_marks Tryz.func226 rfl trivial ?_ rfl
 simp only [Tryz.ntmps226, List.size_toArray, List.length_cons, List.length_nil, Nat.reduceAdd, Nat.reduceSub, Array.replicate_succ, Array.replicate_zero, List.push_toArray, List.append_toArray, List.nil_append, List.cons_append]
 gi_wp2
 have hs := And.intro (Boxed.new w 3 (.int .i64 0)).cell (Boxed.new w 3 (.int .i64 0)).frozen
 have hB0 : Below w.heap.size w (w.alloc (.cells #[.int .i64 0] 3)) := (Below.refl _ w).alloc (Nat.le_refl _) _
 refine wpIn_rangeFunc_ownF rfl (by omega) (gf := 230) (lb := #[.pointer (some ⟨Bn, 0, none⟩)]) rfl trivial (enters_of Tryz.func230 (by kernel_rfl) rfl)
  (terms_stops 4 (by omega) Bn m m0 m1 w hbn) (fun h k => k.trans h)
  (fun W l o o' hl h _ _ => World.putObj_heap_other (fun e => by have := hbn.lt; simp at hl; omega)) hB0 (fun _ => rfl)
  (fun pre W => (W.cell? ⟨w.heap.size, 0, none⟩ = some (.int .i64 (sumW pre)) ∧ W.frozen? ⟨w.heap.size, 0, none⟩ = false) ∧ Below w.heap.size w W)
  (fun _ _ _ => False)
  (OwnFrom.and (Own.from (fun s A B row hs hg hr => ⟨cell_kept hs.1 hg hr, (frozen_kept hs.1 hg hr).trans hs.2⟩) _) (ownFrom_below (Nat.le_refl _) (by simp)))
  (fun _ _ _ _ _ hs _ _ => hs)
  ⟨⟨hs.1, hs.2⟩, hB0⟩
  (fun x => { tmps := #[.func (.func 230) #[] #[.pointer (some ⟨Bn, 0, none⟩)], undef, .int .i64 0, .pointer (some ⟨w.heap.size, 0, none⟩), .int .i64 x, .func (.func 230) #[] #[.pointer (some ⟨Bn, 0, none⟩)], .int .i64 x, undef, undef, undef, undef], defers := [] }) ?assign ?body ?done ?stop
 case assign =>
  intro l x W K hK
  gi_wp2
  exact hK
 case body =>
  rintro l pre x W ⟨⟨hc, hf⟩, hB⟩ _
  gi_wp2
  refine ⟨KeepsOthers.setCell _ _ _, Below.heap_setCell _ _ _ _ ?_, ⟨by rw [sumW_snoc]; exact World.cell?_setCell_same' _ _ _ (by rw [hc]; rfl), by rw [World.frozen?_setCell]; exact hf⟩, hB.setCell (p := ⟨w.heap.size, 0, none⟩) (Nat.le_refl _) _⟩
  have := hbn.lt
  simp; omega
 case done =>
  rintro D ys W hD hS ⟨⟨hc, _⟩, hB⟩ hK
  rw [hS.sum m0] at hc
  gi_wp2
  refine ⟨by simp, .inl ⟨_, _, rfl, run_takeDeferred hK, ?_⟩⟩
  exact ⟨_, results_tmp rfl _ _ _, rfl, ⟨hB.trans (belowK_b (w := w) (Nat.le_refl _) W D _ _ (by simp at hD; omega) hK rfl rfl)⟩⟩
 case stop =>
  rintro D c pre W _ _ h _
  exact h.elim
end
section
open Go.ChangeShapes Go.WideShapes Go.ChangeAt Go.RowKit Go.Shelf
set_option linter.unusedVariables false
attribute [local go_sem] wideA_fn Oper.semAt_some
theorem arc_ok (m : Nat) (m0 : 2 ≤ m) (m1 : m ≤ 17592186044416) (w : World) :
 Calls Tryz.prog 239 #[.int .i64 m] w fun e w' => e = .returned (.tuple #[.int .i64 (arcOf m), .int .i64 0]) ∧ Gr w w' := by
 have HH := Lib.hid (hasArc_yes m (by omega) (by omega))
 have HT := Lib.hid (terms_c m)
 have HS := Lib.hid fun W => sum_c W.heap.size m m0 m1 (W.alloc (.cells #[.int .i64 m] 3)) (Boxed.new W _ _)
 clear m0 m1
 go_enter Tryz.func239, Tryz.ntmps239
 go_wp2_with (first
  | (go_at_call 240; refine (HH.out _).mono ?_; rintro e w1 ⟨rfl, rfl⟩)
  | (go_at_call 227; refine (HT.out _).mono ?_; rintro e w2 ⟨rfl, rfl⟩)
  | (go_at_call 226; refine (HS.out _).mono ?_; rintro e w3 ⟨rfl, hg⟩))
 go_ret2
 exact ⟨rfl, Gr.trans ((Gr.refl _).alloc _ _) hg⟩
theorem arc_2 : arcOf 2 = 33409331186036029 := by decide +kernel
theorem arc_3 : arcOf 3 = 23184570830191493 := by decide +kernel
theorem quarter_c (w : World) :
 Calls Tryz.prog 223 #[] w fun e w' => e = .returned (.int .i64 56593902016227522) ∧ Gr w w' := by
 have HT2 := Lib.hid (terms_c 2)
 have HT3 := Lib.hid (terms_c 3)
 have HS2 := Lib.hid fun W => sum_c W.heap.size 2 (by omega) (by omega) (W.alloc (.cells #[.int .i64 2] 3)) (Boxed.new W _ _)
 have HS3 := Lib.hid fun W => sum_c W.heap.size 3 (by omega) (by omega) (W.alloc (.cells #[.int .i64 3] 3)) (Boxed.new W _ _)
 rw [arc_2] at HS2
 rw [arc_3] at HS3
 go_enter Tryz.func223, Tryz.ntmps223
 go_wp2_with (first
  | (go_at_call 227; with_reducible refine (HT2.out _).mono ?_; rintro e w1 ⟨rfl, rfl⟩)
  | (go_at_call 226; with_reducible refine (HS2.out _).mono ?_; rintro e w2 ⟨rfl, hg2⟩; clear HS2 HT2)
  | (go_at_call 227; with_reducible refine (HT3.out _).mono ?_; rintro e w3 ⟨rfl, rfl⟩)
  | (go_at_call 226; with_reducible refine (HS3.out _).mono ?_; rintro e w4 ⟨rfl, hg4⟩))
 go_ret
 exact ⟨rfl, (Gr.trans ((Gr.refl _).alloc _ _) hg2).trans (Gr.trans ((Gr.refl _).alloc _ _) hg4)⟩
end
section
open Go.ChangeShapes Go.WideShapes Go.ChangeAt Go.RowKit
set_option linter.unusedVariables false
set_option maxRecDepth 100000
end
section
open Go.ChangeShapes Go.WideShapes Go.ChangeAt Go.RowKit
set_option linter.unusedVariables false
theorem IsT.ne {m : Nat} {ys : List Int} (h : IsT m ys) (m0 : 2 ≤ m) (m1 : m ≤ 17592186044416) : ys ≠ [] := by
 obtain ⟨k, hk, h0, _, rfl⟩ := h
 intro e
 have hk0 : k = 0 := by simpa using e
 rw [hk0, arcP] at h0
 have := Nat.div_pos (show m ≤ 72057594037927936 by omega) (show 0 < m by omega)
 omega
end
section
open Go.ChangeShapes Go.WideShapes Go.ChangeAt Go.RowKit
set_option linter.unusedVariables false
set_option maxRecDepth 100000
end
section
open Go.ChangeShapes Go.WideShapes Go.ChangeAt Go.RowKit
set_option linter.unusedVariables false
theorem trun_succ (k : Nat) (s : Tn) : trun (k + 1) s = tstep k (trun k s) := rfl
theorem field_Re (re im : Int) (w : World) : (Instr.field 50 (.agg #[.int .i64 re, .int .i64 im]) 0).run Tryz.prog w = .ok (.int .i64 re) w := by kernel_rfl
end
end Go.Proofs.YtdignnmpfkgkoaaGreat
