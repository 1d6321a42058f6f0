import Derived.Test.YtdignnmpfkgkoaaGreatRealBinsS14
namespace Go.Proofs.YtdignnmpfkgkoaaGreat
section
open Go.ChangeShapes Go.WideShapes Go.ChangeAt Go.RowKit
set_option linter.unusedVariables false
set_option linter.unusedSimpArgs false
set_option maxRecDepth 100000
set_option maxHeartbeats 16000000
theorem sDown_c (b mo n : Int) (inv : Bool) (hn : IntKind.i64.wrap (b + 2) = n) (w : World) :
 CW 177 #[.agg #[b, mo, inv]] w (.int .i64 n) :=by
 delta CW
 go_in
 go_wp2_with fail
 go_ret
 exact ⟨by rw [← hn]; rfl, (Gr.refl w).alloc _ _⟩
theorem sTurns_c (b mo : Int) (inv : Bool) (w : World) :
 CW 215 #[.agg #[b, mo, inv]] w (.int .i64 (turns1 inv 1)) :=by
 delta CW
 cases inv
 all_goals
  go_in;go_wp2_with fail
  go_ret
  exact ⟨rfl, (Gr.refl w).alloc _ _⟩
def SetsOk3 (b mo : Int) : Prop := (0 ≤ b ∧ b ≤ 29) ∧ 0 ≤ mo ∧ mo ≤ 2
theorem sMayBe_last (b mo x er : Int) (inv : Bool) (hb : 0 ≤ b ∧ b ≤ 29) (z : Bool) (hz : (er == 0) = z)
 (HS : CR 70 #[.int .i64 0, .int .i64 (b + 2), mo] (.tuple #[x, er])) (w : World) :
 CW 151 #[.agg #[b, mo, inv]] w (.bool z) :=by
 delta CW
 have HD := kh (sDown_c b mo (b + 2) inv (IntWalk.i64_in _ ⟨by omega, by omega⟩))
 go_in
 go_wp2_with fail
 obtain ⟨u0, hU⟩ : ∃ uu, uu = (w.alloc (.cells #[b, mo, inv] 181)) := ⟨_, rfl⟩
 have ⟨gu, R0⟩ := lay1 hU
 rw [← hU]
 clear hU
 have KS := fun W (hG : Gr u0 W) => (R0.gr hG).t3
 have hclG := gr_closed u0
 try simp only [List.append_eq, List.cons_append, List.nil_append]
 refine wp_region_grow (S := Gr u0) rfl (Gr.drew (Gr.refl _)) ?_
 refine gK 0 hclG KS ?_
 refine gC 1 hclG (fun W hS => HD.out W) ?_
 try simp only [Act.put, putS]
 refine gT 2 hclG ?_
 refine gK 3 hclG KS ?_
 refine gC 4 hclG (fun W hS => HS.out W) ?_
 try simp only [Act.put, putS]
 refine gT 5 hclG ?_
 refine gT 6 hclG ?_
 refine gT 7 hclG ?_
 refine gT 8 hclG ?_
 refine gT 9 hclG ?_
 refine wpG_done (by kernel_rfl) (fun w1 g1 => ?_) _
 go_wp2_with fail
 go_ret
 exact ⟨rfl, (gu.trans (Gr.drew (Gr.refl _))).trans g1⟩
theorem sMayBe_yes (b mo : Int) (inv : Bool) (h : SetsOk3 b mo) (w : World) :
 CW 151 #[.agg #[b, mo, inv]] w (.bool true) :=by
 delta CW
 obtain ⟨h1, h3, h4⟩ := h
 exact sMayBe_last b mo _ 0 inv h1 true rfl (kh (shift_ok 0 (b + 2) mo (by omega) (by omega) (by omega) h3 h4)) w
theorem sWithin_c (v : Value) (xs : List Gi) (l : Int) (hl0 : 0 ≤ l) (hl1 : l ≤ 2147483648) (w : World) (hv : CxsAt w v xs) :
 CW 152 #[l, v] w (.bool (allIn l xs)) :=by
 delta CW
 by_cases hx : xs = []
 ·subst hx
  obtain ⟨p, cap, rfl⟩ := hv.len;rw [show ([] : List Gi).length = 0 from rfl];clear hv;go_in;go_wp2_with fail;refine wp_loop_rounds 1 ?_;rw [rounds_succ];go_wp2_with fail
  go_ret
  exact ⟨rfl, Gr.refl _⟩
 ·obtain ⟨b, o, cap, rfl, hlen, hb, hc⟩ := hv.at hx
  have HC := kh hc;have HN := kh fun (k : Nat) (a : Gi) (h : xs[k]? = some a) => allIn_no (l := l) h
  have HS := kh fun (k : Nat) (a : Gi) (h : xs[k]? = some a) => allIn_snoc (l := l) h
  have HA : allIn l (xs.take xs.length) = allIn l xs := by rw [List.take_length]
  clear hc hv hx;go_in;go_wp2_with fail
  go_loopw [6, 9] (fun _ i wr => ∃ k : Nat, k ≤ xs.length ∧ i = .int .i64 k ∧ allIn l (xs.take k) = true ∧ Gr w wr) (fun _ i _ => xs.length - (intOf i).toNat)
  case atStart => exact ⟨0, Nat.zero_le _, rfl, rfl, Gr.refl _⟩
  case round =>
   obtain ⟨k, hk, rfl, hall, hl⟩ := hrel
   by_cases hlt : k < xs.length
   ·obtain ⟨x, hx⟩ := get_of_lt hlt
    have h1 := (hl.cell (p := ⟨b, o + k * 2, none⟩) hb).trans (HC.out k x hx).1;have h2 := (hl.cell (p := ⟨b, o + k * 2 + 1, none⟩) hb).trans (HC.out k x hx).2
    have hbl : b < wr.heap.size := Nat.lt_of_lt_of_le hb hl.size
    have HN1 := kh (HN.out k x hx);have HS1 := kh (HS.out k x hx hall);obtain ⟨re, im⟩ := x
    simp only at h1 h2 HN1 HS1
    clear hx hall HA HN HS HC
    have hll : IntKind.i64.wrap (-l) = -l := IntWalk.i64_in _ ⟨by omega, by omega⟩
    have hu : ∀ a b, ∀ c d : Int, (inB l a && inB l b) = true → -l ≤ a ∧ a ≤ l ∧ -l ≤ b ∧ b ≤ l := by
     intro a b c d h
     rw [Bool.and_eq_true, inB_iff, inB_iff] at h
     omega
    by_cases hq : (inB l re && inB l im) = true
    ·have HS2 := kh (HS1.out hq)
     obtain ⟨q1, q2, q3, q4⟩ := hu re im 0 0 hq;clear HN1 HS1 hq hu
     by_cases hm : im < re
     ·go_wp2_with fail
      go_roundw
      case rel => exact ⟨k + 1, by omega, by go_num, HS2.out, hl.alloc _ _⟩
      case measure => simp [intOf]; omega
     ·go_wp2_with fail
      go_roundw
      case rel => exact ⟨k + 1, by omega, by go_num, HS2.out, hl.alloc _ _⟩
      case measure => simp [intOf]; omega
    ·have hq' : (inB l re && inB l im) = false := by simpa using hq
     have HN2 := kh (HN1.out hq')
     have hor : re < -l ∨ l < re ∨ im < -l ∨ l < im := by
      refine Classical.byContradiction fun h => hq ?_
      rw [Bool.and_eq_true, inB_iff, inB_iff]
      omega
     clear HN1 HS1 hq hq' hu
     have hcs : (im < re ∧ im < -l) ∨ (im < re ∧ -l ≤ im ∧ l < re) ∨ (re ≤ im ∧ re < -l) ∨ (re ≤ im ∧ -l ≤ re ∧ l < im) := by omega
     clear hor
     rcases hcs with ⟨t1, t2⟩ | ⟨t1, t2, t3⟩ | ⟨t1, t2⟩ | ⟨t1, t2, t3⟩
     all_goals
      go_wp2_with fail
     all_goals
      go_ret
      exact ⟨by rw [HN2.out]; rfl, hl.alloc _ _⟩
   ·obtain rfl : k = xs.length := by omega
    rw [HA] at hall;have HL := kh hall;clear hall HA;go_wp2_with fail
    go_ret
    exact ⟨by rw [HL.out]; rfl, hl⟩
theorem CxsAt.two {W : World} {B : Nat} {t : TypeId} {a b : Gi} (h : CellsAt W B t #[a.re, a.im, b.re, b.im]) : CxsAt W (.slice (some ⟨B, 0, none⟩) 2 2) [a, b] := by
 refine ⟨some ⟨B, 0, none⟩, 2, rfl, Nat.le_refl _, by unfold maxLen; omega, fun _ => ⟨B, 0, rfl, h.lt, fun j x hj => ?_⟩⟩
 have hc : (j = 0 ∧ x = a) ∨ (j = 1 ∧ x = b) := by
  match j, hj with
  | 0, hj => exact .inl ⟨rfl, by simpa using hj.symm⟩
  | 1, hj => exact .inr ⟨rfl, by simpa using hj.symm⟩
 rcases hc with ⟨rfl, rfl⟩ | ⟨rfl, rfl⟩
 ·exact ⟨h.cell 0, h.cell 1⟩
 ·exact ⟨h.cell 2, h.cell 3⟩
theorem sAsked_c (b mo : Int) (g : Gi) (inv : Bool) (h : g.re.natAbs ≤ 2305843009213693952 ∧ g.im.natAbs ≤ 2305843009213693952) (w : World) :
 CW 198 #[.agg #[b, mo, inv], .agg #[g.re, g.im]] w (.agg #[(if inv then g.conj else g).re, (if inv then g.conj else g).im]) :=by
 delta CW
 cases inv
 ·go_in
  go_wp2_with fail;refine bodyPost_ret (v := .agg #[g.re, g.im]) ?_ rfl ⟨rfl, by (repeat (first | exact Gr.refl _ | assumption | apply Gr.drew | apply Gr.drewN | apply Gr.alloc | (refine Gr.setCell ?_ (by simp) _) | refine Gr.trans ?_ (by assumption)))⟩
  simp [results, Tryz.results198, go_sem]
 ·have HC := kh (cxconj_gi g h)
  generalize hc : g.conj = c at *;go_in;go_wp2_with fail;refine lc3 fun u0 gu R0 R1 R2 => ?_
  refine (HC.out _).mono ?_;rintro e w1 ⟨rfl, g1⟩;have P1 := R1.gr g1;have P2 := R2.gr g1;have gz := gu.trans g1;have c0 := P1.cell 0;have c1 := P1.cell 1;obtain ⟨f0, f1⟩ := P1.f2;have d0 := P2.cell 0;have d1 := P2.cell 1;obtain ⟨m0, m1⟩ := P2.f2;have l1 := P1.lt;have l2 := P2.lt;simp only [getS] at c0 c1 d0 d1;go_wp2_with fail;refine bodyPost_ret (v := .agg #[c.re, c.im]) ?_ rfl ⟨rfl, (((gz.setCell (by first | (simp; done) | (simp; omega)) _).setCell (by first | (simp; done) | (simp; omega)) _).setCell (by first | (simp; done) | (simp; omega)) _).setCell (by first | (simp; done) | (simp; omega)) _⟩
  simp [results, Tryz.results198, go_sem, *]
theorem sHalved_of (b mo : Int) (inv : Bool) (g k s d p q : Gi)
 (HS : CR 126 #[.agg #[g.re, g.im], .agg #[k.re, k.im]] (.tuple #[.agg #[s.re, s.im], .int .i64 0])) (HL : CR 127 #[.agg #[g.re, g.im], .agg #[k.re, k.im]] (.tuple #[.agg #[d.re, d.im], .int .i64 0]))
 (HP : CR 129 #[.agg #[s.re, s.im], .int .i64 1, mo] (.tuple #[.agg #[p.re, p.im], .int .i64 0])) (HQ : CR 129 #[.agg #[d.re, d.im], .int .i64 1, mo] (.tuple #[.agg #[q.re, q.im], .int .i64 0])) (w : World) :
 Calls Tryz.prog 178 #[.agg #[b, mo, inv], .agg #[g.re, g.im], .agg #[k.re, k.im]] w fun e w' => ∃ v, e = .returned v ∧ CxsAt w' v [p, q] ∧ Gr w w' := by
 go_in
 go_wp2_with fail
 refine lc3 fun u0 gu R0 R1 R2 => ?_
 have lh := R0.lt
 have lg := R1.lt
 have lk := R2.lt
 refine (HS.out _).mono ?_
 rintro e w1 ⟨rfl, g1⟩
 have ⟨Fh_1, lh_1⟩ := R0.gl g1
 have ⟨Fg_1, lg_1⟩ := R1.gl g1
 have ⟨Fk_1, lk_1⟩ := R2.gl g1
 have z1 := gu.trans g1
 clear R0 R1 R2 gu g1
 obtain ⟨cg0, cg1⟩ := Fg_1.t2
 obtain ⟨ck0, ck1⟩ := Fk_1.t2
 go_wp2_with fail
 clear cg0 cg1 ck0 ck1
 refine (HL.out _).mono ?_
 rintro e w2 ⟨rfl, g2⟩
 have ⟨Fh_2, lh_2⟩ := CellsAt.gl (Fh_1.alloc _) g2
 have ⟨Fg_2, lg_2⟩ := CellsAt.gl (Fg_1.alloc _) g2
 have ⟨Fk_2, lk_2⟩ := CellsAt.gl (Fk_1.alloc _) g2
 have ⟨Fs_2, ls_2⟩ := CellsAt.gl (CellsAt.new w1 50 #[s.re, s.im]) g2
 have z2 := (z1.alloc _ _).trans g2
 clear g2
 obtain ⟨ch0, ch1, ch2⟩ := Fh_2.t3
 obtain ⟨cg0, cg1⟩ := Fg_2.t2
 obtain ⟨ck0, ck1⟩ := Fk_2.t2
 obtain ⟨cs0, cs1⟩ := Fs_2.t2
 go_wp2_with fail
 clear ch0 ch1 ch2 cg0 cg1 ck0 ck1 cs0 cs1
 refine (HP.out _).mono ?_
 rintro e w3 ⟨rfl, g3⟩
 have ⟨Fh_3, lh_3⟩ := CellsAt.gl (Fh_2.alloc _) g3
 have ⟨Fg_3, lg_3⟩ := CellsAt.gl (Fg_2.alloc _) g3
 have ⟨Fk_3, lk_3⟩ := CellsAt.gl (Fk_2.alloc _) g3
 have ⟨Fs_3, ls_3⟩ := CellsAt.gl (Fs_2.alloc _) g3
 have ⟨Fd_3, ld_3⟩ := CellsAt.gl (CellsAt.new w2 50 #[d.re, d.im]) g3
 have z3 := (z2.alloc _ _).trans g3
 clear g3
 obtain ⟨ch0, ch1, ch2⟩ := Fh_3.t3
 obtain ⟨cg0, cg1⟩ := Fg_3.t2
 obtain ⟨ck0, ck1⟩ := Fk_3.t2
 obtain ⟨cs0, cs1⟩ := Fs_3.t2
 obtain ⟨cd0, cd1⟩ := Fd_3.t2
 obtain ⟨ms0, ms1⟩ := Fs_3.f2
 go_wp2_with fail
 clear ch0 ch1 ch2 cg0 cg1 ck0 ck1 cs0 cs1 cd0 cd1 ms0 ms1
 refine (HQ.out _).mono ?_
 rintro e w4 ⟨rfl, g4⟩
 have ⟨Fh_4, lh_4⟩ := CellsAt.gl ((Fh_3.ot).ot) g4
 have ⟨Fg_4, lg_4⟩ := CellsAt.gl ((Fg_3.ot).ot) g4
 have ⟨Fk_4, lk_4⟩ := CellsAt.gl ((Fk_3.ot).ot) g4
 have ⟨Fs_4, ls_4⟩ := CellsAt.gl (CellsAt.set2 (Fs_3) _ _) g4
 have ⟨Fd_4, ld_4⟩ := CellsAt.gl ((Fd_3.ot).ot) g4
 have z4 := ((z3.sc _).sc _).trans g4
 clear g4
 obtain ⟨ch0, ch1, ch2⟩ := Fh_4.t3
 obtain ⟨cg0, cg1⟩ := Fg_4.t2
 obtain ⟨ck0, ck1⟩ := Fk_4.t2
 obtain ⟨cs0, cs1⟩ := Fs_4.t2
 obtain ⟨cd0, cd1⟩ := Fd_4.t2
 obtain ⟨md0, md1⟩ := Fd_4.f2
 go_wp2_with fail
 clear ch0 ch1 ch2 cg0 cg1 ck0 ck1 cs0 cs1 cd0 cd1 md0 md1
 go_ret
 exact ⟨_, rfl, CxsAt.two (by simpa using CellsAt.new ((w4.setCell ⟨w2.heap.size, 0, none⟩ (.int .i64 q.re)).setCell ⟨w2.heap.size, 1, none⟩ (.int .i64 q.im)) 50 #[p.re, p.im, q.re, q.im]), ((z4.sc _).sc _).alloc #[p.re, p.im, q.re, q.im] 50⟩
theorem sQuotient_of (b mo n sg p0 p1 e0 e1 : Int) (inv : Bool) (g k q : Gi) (h0 : wrap64 (sg * k.re) = p0) (h1 : wrap64 (sg * k.im) = p1) (h2 : wrap64 (g.re + p0) = e0) (h3 : wrap64 (g.im + p1) = e1)
 (HD : CR 177 #[.agg #[b, mo, inv]] (.int .i64 n)) (HF : CR 129 #[.agg #[e0, e1], n, mo] (.tuple #[.agg #[q.re, q.im], .int .i64 0])) (w : World) :
 CW 216 #[.agg #[b, mo, inv], .agg #[g.re, g.im], .agg #[k.re, k.im], sg] w (.agg #[q.re, q.im]) :=by
 delta CW
 go_in
 go_wp2_with fail
 obtain ⟨u0, hU⟩ : ∃ uu, uu = (((((w.alloc (.cells #[b, mo, inv] 181)).alloc (.cells #[g.re, g.im] 50)).alloc (.cells #[k.re, k.im] 50)).alloc (.cells #[.int .i64 0, .int .i64 0] 50)).alloc (.cells #[e0, e1] 50)) := ⟨_, rfl⟩
 have ⟨gu, R0, R1, R2, R3, R4⟩ := lay5 hU
 rw [← hU]
 clear hU
 have lh := R0.lt
 have la := R1.lt
 have lk := R2.lt
 have lr := R3.lt
 have ls := R4.lt
 obtain ⟨v0, hqp1⟩ : ∃ zz, zz = u0 := ⟨_, rfl⟩
 subst hqp1
 have Yh_p1 := R0
 have Ya_p1 := R1
 have Yk_p1 := R2
 have Yr_p1 := R3
 have Ys_p1 := R4
 have yp1 := gu
 have KS := fun W (hG : GB (w.heap.size + 1 + 1 + 1 + 1) v0 W) => (GB.cellsAt hG Yh_p1 (by omega)).t3
 have hclG := gb_closed (w.heap.size + 1 + 1 + 1 + 1) v0
 try simp only [List.append_eq, List.cons_append, List.nil_append]
 refine wp_region_grow (S := GB (w.heap.size + 1 + 1 + 1 + 1) v0) rfl (GB.drew (GB.refl _ _)) ?_
 refine gK 1 hclG KS ?_
 refine gC 2 hclG (fun W hS => HD.out W) ?_
 try simp only [Act.put, putS]
 refine gT 3 hclG ?_
 refine gK 4 hclG KS ?_
 refine gR 0 fun w1 g1 s1 K hK => ?_
 replace g1 := (Gr.drew (Gr.refl v0)).trans g1
 have ⟨Fh_1, lh_1⟩ := Yh_p1.gl g1
 have ⟨Fa_1, la_1⟩ := Ya_p1.gl g1
 have ⟨Fk_1, lk_1⟩ := Yk_p1.gl g1
 have ⟨Fr_1, lr_1⟩ := Yr_p1.gl g1
 have ⟨Fs_1, ls_1⟩ := Ys_p1.gl g1
 have z1 := yp1.trans g1
 clear Yh_p1 Ya_p1 Yk_p1 Yr_p1 Ys_p1 yp1 g1
 obtain ⟨cs0, cs1⟩ := Fs_1.t2
 go_simp
 clear cs0 cs1
 refine hK.out _ _ ?_ ?_
 ·exact s1
 clear hK K
 try simp only [Act.put, putS]
 refine gC 5 hclG (fun W hS => HF.out W) ?_
 try simp only [Act.put, putS]
 refine gT 6 hclG ?_
 refine gT 7 hclG ?_
 refine gT 8 hclG ?_
 refine gR 9 fun w2 g2 s2 K hK => ?_
 have ⟨Fh_2, lh_2⟩ := Fh_1.gl g2
 have ⟨Fa_2, la_2⟩ := Fa_1.gl g2
 have ⟨Fk_2, lk_2⟩ := Fk_1.gl g2
 have ⟨Fr_2, lr_2⟩ := Fr_1.gl g2
 have ⟨Fs_2, ls_2⟩ := Fs_1.gl g2
 have z2 := z1.trans g2
 clear Fh_1 Fa_1 Fk_1 Fr_1 Fs_1 z1 g2
 obtain ⟨ms0, ms1⟩ := Fs_2.f2
 obtain ⟨cs0, cs1⟩ := Fs_2.t2
 go_simp
 clear ms0 cs0 ms1 cs1
 refine hK.out _ _ ?_ ?_
 ·exact (GB.set (GB.set s2 _ _) _ _)
 clear hK K
 try simp only [Act.put, putS]
 refine wpG_done (by kernel_rfl) (fun w3 g3 => ?_) _
 have ⟨Fh_3, lh_3⟩ := CellsAt.gl ((Fh_2.ot).ot) g3
 have ⟨Fa_3, la_3⟩ := CellsAt.gl ((Fa_2.ot).ot) g3
 have ⟨Fk_3, lk_3⟩ := CellsAt.gl ((Fk_2.ot).ot) g3
 have ⟨Fr_3, lr_3⟩ := CellsAt.gl ((Fr_2.ot).ot) g3
 have ⟨Fs_3, ls_3⟩ := CellsAt.gl (CellsAt.set2 (Fs_2) _ _) g3
 have z3 := ((z2.sc _).sc _).trans g3
 clear g3
 clear hclG KS
 obtain ⟨cs0, cs1⟩ := Fs_3.t2
 obtain ⟨mr0, mr1⟩ := Fr_3.f2
 obtain ⟨cr0, cr1⟩ := Fr_3.t2
 go_wp2_with fail
 clear cs0 cs1 mr0 cr0 mr1 cr1
 obtain ⟨uf, hqp2⟩ : ∃ zz, zz = ((w3.setCell ⟨w.heap.size + 1 + 1 + 1, 0, none⟩ (.int .i64 q.re)).setCell ⟨w.heap.size + 1 + 1 + 1, 1, none⟩ (.int .i64 q.im)) := ⟨_, rfl⟩
 have Yh_p2 : CellsAt uf (w.heap.size) 181 #[b, mo, inv] := by rw [hqp2]; first | exact (Fh_3.ot).ot | simpa using (Fh_3.ot).ot
 have Ya_p2 : CellsAt uf (w.heap.size + 1) 50 #[g.re, g.im] := by rw [hqp2]; first | exact (Fa_3.ot).ot | simpa using (Fa_3.ot).ot
 have Yk_p2 : CellsAt uf (w.heap.size + 1 + 1) 50 #[k.re, k.im] := by rw [hqp2]; first | exact (Fk_3.ot).ot | simpa using (Fk_3.ot).ot
 have Yr_p2 : CellsAt uf (w.heap.size + 1 + 1 + 1) 50 #[q.re, q.im] := by rw [hqp2]; first | exact CellsAt.set2 (Fr_3) _ _ | simpa using CellsAt.set2 (Fr_3) _ _
 have Ys_p2 : CellsAt uf (w.heap.size + 1 + 1 + 1 + 1) 50 #[q.re, q.im] := by rw [hqp2]; first | exact (Fs_3.ot).ot | simpa using (Fs_3.ot).ot
 have yp2 : Gr w uf := by rw [hqp2]; exact (z3.sc _).sc _
 rw [← hqp2]
 clear hqp2
 obtain ⟨cr0, cr1⟩ := Yr_p2.t2
 refine bodyPost_ret (v := .agg #[q.re, q.im]) ?_ rfl ⟨rfl, yp2⟩
 simp [results, Tryz.results216, go_sem, *]
theorem sJoined_of (b mo P n : Int) (inv : Bool) (ju jv jy jz jw1 jw3 t t3 p tt tt3 d U V q0 q1 q2 q3 : Gi) (hP : IntKind.i64.wrap (2 * 2 ^ min b.toNat 64) = P) (hb0 : 0 ≤ b)
 (HT : CR 128 #[.agg #[jy.re, jy.im], .agg #[jw1.re, jw1.im]] (.tuple #[.agg #[t.re, t.im], .int .i64 0])) (HT3 : CR 128 #[.agg #[jz.re, jz.im], .agg #[jw3.re, jw3.im]] (.tuple #[.agg #[t3.re, t3.im], .int .i64 0])) (HP : CR 126 #[.agg #[t.re, t.im], .agg #[t3.re, t3.im]] (.tuple #[.agg #[p.re, p.im], .int .i64 0]))
 (HN : CR 215 #[.agg #[b, mo, inv]] (.int .i64 n)) (HR : CR 125 #[.agg #[t.re, t.im], n] (.tuple #[.agg #[tt.re, tt.im], .int .i64 0])) (HR3 : CR 125 #[.agg #[t3.re, t3.im], n] (.tuple #[.agg #[tt3.re, tt3.im], .int .i64 0]))
 (HL : CR 127 #[.agg #[tt.re, tt.im], .agg #[tt3.re, tt3.im]] (.tuple #[.agg #[d.re, d.im], .int .i64 0])) (HU : CR 128 #[.agg #[ju.re, ju.im], .agg #[P, .int .i64 0]] (.tuple #[.agg #[U.re, U.im], .int .i64 0])) (HV : CR 128 #[.agg #[jv.re, jv.im], .agg #[P, .int .i64 0]] (.tuple #[.agg #[V.re, V.im], .int .i64 0]))
 (HQ0 : CR 216 #[.agg #[b, mo, inv], .agg #[U.re, U.im], .agg #[p.re, p.im], .int .i64 1] (.agg #[q0.re, q0.im])) (HQ1 : CR 216 #[.agg #[b, mo, inv], .agg #[V.re, V.im], .agg #[d.re, d.im], .int .i64 1] (.agg #[q1.re, q1.im])) (HQ2 : CR 216 #[.agg #[b, mo, inv], .agg #[U.re, U.im], .agg #[p.re, p.im], .int .i64 (-1)] (.agg #[q2.re, q2.im])) (HQ3 : CR 216 #[.agg #[b, mo, inv], .agg #[V.re, V.im], .agg #[d.re, d.im], .int .i64 (-1)] (.agg #[q3.re, q3.im])) (w : World) :
 CW 199 #[.agg #[b, mo, inv], .agg #[ju.re, ju.im], .agg #[jv.re, jv.im], .agg #[jy.re, jy.im], .agg #[jz.re, jz.im], .agg #[jw1.re, jw1.im], .agg #[jw3.re, jw3.im]] w (.agg #[q0.re, q0.im, q1.re, q1.im, q2.re, q2.im, q3.re, q3.im]) :=by
 delta CW
 go_in
 go_wp2_with fail
 refine lc8 fun u0 gu R0 R1 R2 R3 R4 R5 R6 R7 => ?_
 have lh := R0.lt
 have lu := R1.lt
 have lv := R2.lt
 have ly := R3.lt
 have lz := R4.lt
 have lw1 := R5.lt
 have lw3 := R6.lt
 have lr := R7.lt
 refine (HT.out _).mono ?_
 rintro e w1 ⟨rfl, g1⟩
 have ⟨Fh_1, lh_1⟩ := R0.gl g1
 have ⟨Fu_1, lu_1⟩ := R1.gl g1
 have ⟨Fv_1, lv_1⟩ := R2.gl g1
 have ⟨Fy_1, ly_1⟩ := R3.gl g1
 have ⟨Fz_1, lz_1⟩ := R4.gl g1
 have ⟨Fw1_1, lw1_1⟩ := R5.gl g1
 have ⟨Fw3_1, lw3_1⟩ := R6.gl g1
 have ⟨Fr_1, lr_1⟩ := R7.gl g1
 have z1 := gu.trans g1
 clear R0 R1 R2 R3 R4 R5 R6 R7 gu g1
 obtain ⟨ch0, ch1, ch2⟩ := Fh_1.t3
 obtain ⟨cu0, cu1⟩ := Fu_1.t2
 obtain ⟨cv0, cv1⟩ := Fv_1.t2
 obtain ⟨cy0, cy1⟩ := Fy_1.t2
 obtain ⟨cz0, cz1⟩ := Fz_1.t2
 obtain ⟨cw10, cw11⟩ := Fw1_1.t2
 obtain ⟨cw30, cw31⟩ := Fw3_1.t2
 go_wp2_with fail
 clear ch0 ch1 ch2 cu0 cu1 cv0 cv1 cy0 cy1 cz0 cz1 cw10 cw11 cw30 cw31
 refine (HT3.out _).mono ?_
 rintro e w2 ⟨rfl, g2⟩
 have ⟨Fh_2, lh_2⟩ := CellsAt.gl (Fh_1.alloc _) g2
 have ⟨Fu_2, lu_2⟩ := CellsAt.gl (Fu_1.alloc _) g2
 have ⟨Fv_2, lv_2⟩ := CellsAt.gl (Fv_1.alloc _) g2
 have ⟨Fy_2, ly_2⟩ := CellsAt.gl (Fy_1.alloc _) g2
 have ⟨Fz_2, lz_2⟩ := CellsAt.gl (Fz_1.alloc _) g2
 have ⟨Fw1_2, lw1_2⟩ := CellsAt.gl (Fw1_1.alloc _) g2
 have ⟨Fw3_2, lw3_2⟩ := CellsAt.gl (Fw3_1.alloc _) g2
 have ⟨Fr_2, lr_2⟩ := CellsAt.gl (Fr_1.alloc _) g2
 have ⟨Ft_2, lt_2⟩ := CellsAt.gl (CellsAt.new w1 50 #[t.re, t.im]) g2
 have z2 := (z1.alloc _ _).trans g2
 clear g2
 obtain ⟨ch0, ch1, ch2⟩ := Fh_2.t3
 obtain ⟨cu0, cu1⟩ := Fu_2.t2
 obtain ⟨cv0, cv1⟩ := Fv_2.t2
 obtain ⟨cz0, cz1⟩ := Fz_2.t2
 obtain ⟨cw30, cw31⟩ := Fw3_2.t2
 obtain ⟨ct0, ct1⟩ := Ft_2.t2
 go_wp2_with fail
 clear ch0 ch1 ch2 cu0 cu1 cv0 cv1 cz0 cz1 cw30 cw31 ct0 ct1
 refine (HP.out _).mono ?_
 rintro e w3 ⟨rfl, g3⟩
 have ⟨Fh_3, lh_3⟩ := CellsAt.gl (Fh_2.alloc _) g3
 have ⟨Fu_3, lu_3⟩ := CellsAt.gl (Fu_2.alloc _) g3
 have ⟨Fv_3, lv_3⟩ := CellsAt.gl (Fv_2.alloc _) g3
 have ⟨Fz_3, lz_3⟩ := CellsAt.gl (Fz_2.alloc _) g3
 have ⟨Fw3_3, lw3_3⟩ := CellsAt.gl (Fw3_2.alloc _) g3
 have ⟨Fr_3, lr_3⟩ := CellsAt.gl (Fr_2.alloc _) g3
 have ⟨Ft_3, lt_3⟩ := CellsAt.gl (Ft_2.alloc _) g3
 have ⟨Ft3_3, lt3_3⟩ := CellsAt.gl (CellsAt.new w2 50 #[t3.re, t3.im]) g3
 have z3 := (z2.alloc _ _).trans g3
 clear g3
 obtain ⟨ch0, ch1, ch2⟩ := Fh_3.t3
 obtain ⟨cu0, cu1⟩ := Fu_3.t2
 obtain ⟨cv0, cv1⟩ := Fv_3.t2
 obtain ⟨ct0, ct1⟩ := Ft_3.t2
 obtain ⟨ct30, ct31⟩ := Ft3_3.t2
 go_wp2_with fail
 clear ch0 ch1 ch2 cu0 cu1 cv0 cv1 ct0 ct1 ct30 ct31
 obtain ⟨v3, hqp1⟩ : ∃ zz, zz = (w3.alloc (.cells #[p.re, p.im] 50)) := ⟨_, rfl⟩
 have Yh_p1 : CellsAt v3 (w.heap.size) 181 #[b, mo, inv] := by rw [hqp1]; first | exact Fh_3.alloc _ | simpa using Fh_3.alloc _
 have Yu_p1 : CellsAt v3 (w.heap.size + 1) 50 #[ju.re, ju.im] := by rw [hqp1]; first | exact Fu_3.alloc _ | simpa using Fu_3.alloc _
 have Yv_p1 : CellsAt v3 (w.heap.size + 1 + 1) 50 #[jv.re, jv.im] := by rw [hqp1]; first | exact Fv_3.alloc _ | simpa using Fv_3.alloc _
 have Yr_p1 : CellsAt v3 (w.heap.size + 1 + 1 + 1 + 1 + 1 + 1 + 1) 225 #[.int .i64 0, .int .i64 0, .int .i64 0, .int .i64 0, .int .i64 0, .int .i64 0, .int .i64 0, .int .i64 0] := by rw [hqp1]; first | exact Fr_3.alloc _ | simpa using Fr_3.alloc _
 have Yt_p1 : CellsAt v3 (w1.heap.size) 50 #[t.re, t.im] := by rw [hqp1]; first | exact Ft_3.alloc _ | simpa using Ft_3.alloc _
 have Yt3_p1 : CellsAt v3 (w2.heap.size) 50 #[t3.re, t3.im] := by rw [hqp1]; first | exact Ft3_3.alloc _ | simpa using Ft3_3.alloc _
 have Yp_p1 : CellsAt v3 (w3.heap.size) 50 #[p.re, p.im] := by rw [hqp1]; have q_ := CellsAt.new w3 50 #[p.re, p.im]; first | exact q_ | simpa using q_
 have yp1 : Gr w v3 := by rw [hqp1]; exact z3.alloc _ _
 rw [← hqp1]
 clear hqp1
 have KS := fun W (hG : GB (w1.heap.size) v3 W) => (GB.cellsAt hG Yh_p1 (by omega)).t3
 have hclG := gb_closed (w1.heap.size) v3
 try simp only [List.append_eq, List.cons_append, List.nil_append]
 refine wp_region_grow (S := GB (w1.heap.size) v3) rfl (GB.drew (GB.refl _ _)) ?_
 refine gK 1 hclG KS ?_
 refine gC 2 hclG (fun W hS => HN.out W) ?_
 try simp only [Act.put, putS]
 refine gR 0 fun w4 g4 s4 K hK => ?_
 replace g4 := (Gr.drew (Gr.refl v3)).trans g4
 have ⟨Fh_4, lh_4⟩ := Yh_p1.gl g4
 have ⟨Fu_4, lu_4⟩ := Yu_p1.gl g4
 have ⟨Fv_4, lv_4⟩ := Yv_p1.gl g4
 have ⟨Fr_4, lr_4⟩ := Yr_p1.gl g4
 have ⟨Ft_4, lt_4⟩ := Yt_p1.gl g4
 have ⟨Ft3_4, lt3_4⟩ := Yt3_p1.gl g4
 have ⟨Fp_4, lp_4⟩ := Yp_p1.gl g4
 have z4 := yp1.trans g4
 clear Yh_p1 Yu_p1 Yv_p1 Yr_p1 Yt_p1 Yt3_p1 Yp_p1 yp1 g4
 obtain ⟨ct0, ct1⟩ := Ft_4.t2
 go_simp
 clear ct0 ct1
 refine hK.out _ _ ?_ ?_
 ·exact s4
 clear hK K
 try simp only [Act.put, putS]
 refine gC 3 hclG (fun W hS => HR.out W) ?_
 try simp only [Act.put, putS]
 refine gT 4 hclG ?_
 refine gT 5 hclG ?_
 refine gT 6 hclG ?_
 refine gR 7 fun w5 g5 s5 K hK => ?_
 have ⟨Fh_5, lh_5⟩ := Fh_4.gl g5
 have ⟨Fu_5, lu_5⟩ := Fu_4.gl g5
 have ⟨Fv_5, lv_5⟩ := Fv_4.gl g5
 have ⟨Fr_5, lr_5⟩ := Fr_4.gl g5
 have ⟨Ft_5, lt_5⟩ := Ft_4.gl g5
 have ⟨Ft3_5, lt3_5⟩ := Ft3_4.gl g5
 have ⟨Fp_5, lp_5⟩ := Fp_4.gl g5
 have z5 := z4.trans g5
 clear Fh_4 Fu_4 Fv_4 Fr_4 Ft_4 Ft3_4 Fp_4 z4 g5
 obtain ⟨mt0, mt1⟩ := Ft_5.f2
 obtain ⟨ct0, ct1⟩ := Ft_5.t2
 go_simp
 clear mt0 ct0 mt1 ct1
 refine hK.out _ _ ?_ ?_
 ·exact (GB.set (GB.set s5 _ _) _ _)
 clear hK K
 try simp only [Act.put, putS]
 refine wpG_done (by kernel_rfl) (fun w6 g6 => ?_) _
 have ⟨Fh_6, lh_6⟩ := CellsAt.gl ((Fh_5.ot).ot) g6
 have ⟨Fu_6, lu_6⟩ := CellsAt.gl ((Fu_5.ot).ot) g6
 have ⟨Fv_6, lv_6⟩ := CellsAt.gl ((Fv_5.ot).ot) g6
 have ⟨Fr_6, lr_6⟩ := CellsAt.gl ((Fr_5.ot).ot) g6
 have ⟨Ft_6, lt_6⟩ := CellsAt.gl (CellsAt.set2 (Ft_5) _ _) g6
 have ⟨Ft3_6, lt3_6⟩ := CellsAt.gl ((Ft3_5.ot).ot) g6
 have ⟨Fp_6, lp_6⟩ := CellsAt.gl ((Fp_5.ot).ot) g6
 have z6 := ((z5.sc _).sc _).trans g6
 clear g6
 clear hclG KS
 go_wp2_with fail
 obtain ⟨v6, hqp2⟩ : ∃ zz, zz = w6 := ⟨_, rfl⟩
 subst hqp2
 have Yh_p2 := Fh_6
 have Yu_p2 := Fu_6
 have Yv_p2 := Fv_6
 have Yr_p2 := Fr_6
 have Yt_p2 := Ft_6
 have Yt3_p2 := Ft3_6
 have Yp_p2 := Fp_6
 have yp2 := z6
 have KS := fun W (hG : GB (w2.heap.size) v6 W) => (GB.cellsAt hG Yh_p2 (by omega)).t3
 have hclG := gb_closed (w2.heap.size) v6
 try simp only [List.append_eq, List.cons_append, List.nil_append]
 refine wp_region_grow (S := GB (w2.heap.size) v6) rfl (GB.drew (GB.refl _ _)) ?_
 refine gK 1 hclG KS ?_
 refine gC 2 hclG (fun W hS => HN.out W) ?_
 try simp only [Act.put, putS]
 refine gR 0 fun w7 g7 s7 K hK => ?_
 replace g7 := (Gr.drew (Gr.refl v6)).trans g7
 have ⟨Fh_7, lh_7⟩ := Yh_p2.gl g7
 have ⟨Fu_7, lu_7⟩ := Yu_p2.gl g7
 have ⟨Fv_7, lv_7⟩ := Yv_p2.gl g7
 have ⟨Fr_7, lr_7⟩ := Yr_p2.gl g7
 have ⟨Ft_7, lt_7⟩ := Yt_p2.gl g7
 have ⟨Ft3_7, lt3_7⟩ := Yt3_p2.gl g7
 have ⟨Fp_7, lp_7⟩ := Yp_p2.gl g7
 have z7 := yp2.trans g7
 clear Yh_p2 Yu_p2 Yv_p2 Yr_p2 Yt_p2 Yt3_p2 Yp_p2 yp2 g7
 obtain ⟨ct30, ct31⟩ := Ft3_7.t2
 go_simp
 clear ct30 ct31
 refine hK.out _ _ ?_ ?_
 ·exact s7
 clear hK K
 try simp only [Act.put, putS]
 refine gC 3 hclG (fun W hS => HR3.out W) ?_
 try simp only [Act.put, putS]
 refine gT 4 hclG ?_
 refine gT 5 hclG ?_
 refine gT 6 hclG ?_
 refine gR 7 fun w8 g8 s8 K hK => ?_
 have ⟨Fh_8, lh_8⟩ := Fh_7.gl g8
 have ⟨Fu_8, lu_8⟩ := Fu_7.gl g8
 have ⟨Fv_8, lv_8⟩ := Fv_7.gl g8
 have ⟨Fr_8, lr_8⟩ := Fr_7.gl g8
 have ⟨Ft_8, lt_8⟩ := Ft_7.gl g8
 have ⟨Ft3_8, lt3_8⟩ := Ft3_7.gl g8
 have ⟨Fp_8, lp_8⟩ := Fp_7.gl g8
 have z8 := z7.trans g8
 clear Fh_7 Fu_7 Fv_7 Fr_7 Ft_7 Ft3_7 Fp_7 z7 g8
 obtain ⟨mt30, mt31⟩ := Ft3_8.f2
 obtain ⟨ct30, ct31⟩ := Ft3_8.t2
 go_simp
 clear mt30 ct30 mt31 ct31
 refine hK.out _ _ ?_ ?_
 ·exact (GB.set (GB.set s8 _ _) _ _)
 clear hK K
 try simp only [Act.put, putS]
 refine wpG_done (by kernel_rfl) (fun w9 g9 => ?_) _
 have ⟨Fh_9, lh_9⟩ := CellsAt.gl ((Fh_8.ot).ot) g9
 have ⟨Fu_9, lu_9⟩ := CellsAt.gl ((Fu_8.ot).ot) g9
 have ⟨Fv_9, lv_9⟩ := CellsAt.gl ((Fv_8.ot).ot) g9
 have ⟨Fr_9, lr_9⟩ := CellsAt.gl ((Fr_8.ot).ot) g9
 have ⟨Ft_9, lt_9⟩ := CellsAt.gl ((Ft_8.ot).ot) g9
 have ⟨Ft3_9, lt3_9⟩ := CellsAt.gl (CellsAt.set2 (Ft3_8) _ _) g9
 have ⟨Fp_9, lp_9⟩ := CellsAt.gl ((Fp_8.ot).ot) g9
 have z9 := ((z8.sc _).sc _).trans g9
 clear g9
 clear hclG KS
 obtain ⟨ct0, ct1⟩ := Ft_9.t2
 obtain ⟨ct30, ct31⟩ := Ft3_9.t2
 go_wp2_with fail
 clear ct0 ct1 ct30 ct31
 refine (HL.out _).mono ?_
 rintro e w10 ⟨rfl, g10⟩
 have ⟨Fh_10, lh_10⟩ := Fh_9.gl g10
 have ⟨Fu_10, lu_10⟩ := Fu_9.gl g10
 have ⟨Fv_10, lv_10⟩ := Fv_9.gl g10
 have ⟨Fr_10, lr_10⟩ := Fr_9.gl g10
 have ⟨Ft_10, lt_10⟩ := Ft_9.gl g10
 have ⟨Ft3_10, lt3_10⟩ := Ft3_9.gl g10
 have ⟨Fp_10, lp_10⟩ := Fp_9.gl g10
 have z10 := z9.trans g10
 clear Fh_9 Fu_9 Fv_9 Fr_9 Ft_9 Ft3_9 Fp_9 z9 g10
 obtain ⟨ch0, ch1, ch2⟩ := Fh_10.t3
 obtain ⟨cu0, cu1⟩ := Fu_10.t2
 obtain ⟨cv0, cv1⟩ := Fv_10.t2
 go_wp2_with fail
 clear ch0 ch1 ch2 cu0 cu1 cv0 cv1
 refine (HU.out _).mono ?_
 rintro e w11 ⟨rfl, g11⟩
 have ⟨Fh_11, lh_11⟩ := CellsAt.gl ((Fh_10.alloc _).alloc _) g11
 have ⟨Fu_11, lu_11⟩ := CellsAt.gl ((Fu_10.alloc _).alloc _) g11
 have ⟨Fv_11, lv_11⟩ := CellsAt.gl ((Fv_10.alloc _).alloc _) g11
 have ⟨Fr_11, lr_11⟩ := CellsAt.gl ((Fr_10.alloc _).alloc _) g11
 have ⟨Fp_11, lp_11⟩ := CellsAt.gl ((Fp_10.alloc _).alloc _) g11
 have ⟨Fd_11, ld_11⟩ := CellsAt.gl ((CellsAt.new w10 50 #[d.re, d.im]).alloc _) g11
 have ⟨Fo_11, lo_11⟩ := CellsAt.gl (CellsAt.newAt (w10.alloc (.cells #[d.re, d.im] 50)) 50 #[P, .int .i64 0] (B := w10.heap.size + 1) (by simp)) g11
 have z11 := ((z10.alloc _ _).alloc _ _).trans g11
 clear g11
 obtain ⟨ch0, ch1, ch2⟩ := Fh_11.t3
 obtain ⟨cu0, cu1⟩ := Fu_11.t2
 obtain ⟨cv0, cv1⟩ := Fv_11.t2
 obtain ⟨cd0, cd1⟩ := Fd_11.t2
 obtain ⟨co0, co1⟩ := Fo_11.t2
 obtain ⟨mu0, mu1⟩ := Fu_11.f2
 go_wp2_with fail
 clear ch0 ch1 ch2 cu0 cu1 cv0 cv1 cd0 cd1 co0 co1 mu0 mu1
 refine (HV.out _).mono ?_
 rintro e w12 ⟨rfl, g12⟩
 have ⟨Fh_12, lh_12⟩ := CellsAt.gl ((Fh_11.ot).ot) g12
 have ⟨Fu_12, lu_12⟩ := CellsAt.gl (CellsAt.set2 (Fu_11) _ _) g12
 have ⟨Fv_12, lv_12⟩ := CellsAt.gl ((Fv_11.ot).ot) g12
 have ⟨Fr_12, lr_12⟩ := CellsAt.gl ((Fr_11.ot).ot) g12
 have ⟨Fp_12, lp_12⟩ := CellsAt.gl ((Fp_11.ot).ot) g12
 have ⟨Fd_12, ld_12⟩ := CellsAt.gl ((Fd_11.ot).ot) g12
 have ⟨Fo_12, lo_12⟩ := CellsAt.gl ((Fo_11.ot).ot) g12
 have z12 := ((z11.sc _).sc _).trans g12
 clear g12
 obtain ⟨ch0, ch1, ch2⟩ := Fh_12.t3
 obtain ⟨cu0, cu1⟩ := Fu_12.t2
 obtain ⟨cv0, cv1⟩ := Fv_12.t2
 obtain ⟨cd0, cd1⟩ := Fd_12.t2
 obtain ⟨co0, co1⟩ := Fo_12.t2
 obtain ⟨mv0, mv1⟩ := Fv_12.f2
 go_wp2_with fail
 clear ch0 ch1 ch2 cu0 cu1 cv0 cv1 cd0 cd1 co0 co1 mv0 mv1
 obtain ⟨v12, hqp3⟩ : ∃ zz, zz = ((w12.setCell ⟨w.heap.size + 1 + 1, 0, none⟩ (.int .i64 V.re)).setCell ⟨w.heap.size + 1 + 1, 1, none⟩ (.int .i64 V.im)) := ⟨_, rfl⟩
 have Yh_p3 : CellsAt v12 (w.heap.size) 181 #[b, mo, inv] := by rw [hqp3]; first | exact (Fh_12.ot).ot | simpa using (Fh_12.ot).ot
 have Yu_p3 : CellsAt v12 (w.heap.size + 1) 50 #[U.re, U.im] := by rw [hqp3]; first | exact (Fu_12.ot).ot | simpa using (Fu_12.ot).ot
 have Yv_p3 : CellsAt v12 (w.heap.size + 1 + 1) 50 #[V.re, V.im] := by rw [hqp3]; first | exact CellsAt.set2 (Fv_12) _ _ | simpa using CellsAt.set2 (Fv_12) _ _
 have Yr_p3 : CellsAt v12 (w.heap.size + 1 + 1 + 1 + 1 + 1 + 1 + 1) 225 #[.int .i64 0, .int .i64 0, .int .i64 0, .int .i64 0, .int .i64 0, .int .i64 0, .int .i64 0, .int .i64 0] := by rw [hqp3]; first | exact (Fr_12.ot).ot | simpa using (Fr_12.ot).ot
 have Yp_p3 : CellsAt v12 (w3.heap.size) 50 #[p.re, p.im] := by rw [hqp3]; first | exact (Fp_12.ot).ot | simpa using (Fp_12.ot).ot
 have Yd_p3 : CellsAt v12 (w10.heap.size) 50 #[d.re, d.im] := by rw [hqp3]; first | exact (Fd_12.ot).ot | simpa using (Fd_12.ot).ot
 have yp3 : Gr w v12 := by rw [hqp3]; exact (z12.sc _).sc _
 rw [← hqp3]
 clear hqp3
 have KS := fun W (hG : GB (w.heap.size + 1 + 1 + 1 + 1 + 1 + 1 + 1) v12 W) => And.intro (GB.cellsAt hG Yh_p3 (by omega)).t3 (And.intro (GB.cellsAt hG Yu_p3 (by omega)).t2 (And.intro (GB.cellsAt hG Yv_p3 (by omega)).t2 (And.intro (GB.cellsAt hG Yp_p3 (by omega)).t2 (GB.cellsAt hG Yd_p3 (by omega)).t2)))
 have hclG := gb_closed (w.heap.size + 1 + 1 + 1 + 1 + 1 + 1 + 1) v12
 try simp only [List.append_eq, List.cons_append, List.nil_append]
 refine wp_region_grow (S := GB (w.heap.size + 1 + 1 + 1 + 1 + 1 + 1 + 1) v12) rfl (GB.drew (GB.refl _ _)) ?_
 refine gK 0 hclG KS ?_
 refine gK 1 hclG KS ?_
 refine gK 2 hclG KS ?_
 refine gC 3 hclG (fun W hS => HQ0.out W) ?_
 try simp only [Act.put, putS]
 refine gK 4 hclG KS ?_
 refine gK 5 hclG KS ?_
 refine gK 6 hclG KS ?_
 refine gC 7 hclG (fun W hS => HQ1.out W) ?_
 try simp only [Act.put, putS]
 refine gK 8 hclG KS ?_
 refine gK 9 hclG KS ?_
 refine gK 10 hclG KS ?_
 refine gC 11 hclG (fun W hS => HQ2.out W) ?_
 try simp only [Act.put, putS]
 refine gK 12 hclG KS ?_
 refine gK 13 hclG KS ?_
 refine gK 14 hclG KS ?_
 refine gC 15 hclG (fun W hS => HQ3.out W) ?_
 try simp only [Act.put, putS]
 refine gT 16 hclG ?_
 refine gR 17 fun w13 g13 s13 K hK => ?_
 replace g13 := (Gr.drew (Gr.refl v12)).trans g13
 have ⟨Fh_13, lh_13⟩ := Yh_p3.gl g13
 have ⟨Fu_13, lu_13⟩ := Yu_p3.gl g13
 have ⟨Fv_13, lv_13⟩ := Yv_p3.gl g13
 have ⟨Fr_13, lr_13⟩ := Yr_p3.gl g13
 have ⟨Fp_13, lp_13⟩ := Yp_p3.gl g13
 have ⟨Fd_13, ld_13⟩ := Yd_p3.gl g13
 have z13 := yp3.trans g13
 clear Yh_p3 Yu_p3 Yv_p3 Yr_p3 Yp_p3 Yd_p3 yp3 g13
 obtain ⟨mr0, mr1, mr2, mr3, mr4, mr5, mr6, mr7⟩ := Fr_13.f8
 obtain ⟨cr0, cr1, cr2, cr3, cr4, cr5, cr6, cr7⟩ := Fr_13.t8
 go_simp
 clear mr0 cr0 mr1 cr1 mr2 cr2 mr3 cr3 mr4 cr4 mr5 cr5 mr6 cr6 mr7 cr7
 refine hK.out _ _ ?_ ?_
 ·exact (GB.set (GB.set (GB.set (GB.set (GB.set (GB.set (GB.set (GB.set s13 _ _) _ _) _ _) _ _) _ _) _ _) _ _) _ _)
 clear hK K
 try simp only [Act.put, putS]
 refine wpG_done (by kernel_rfl) (fun w14 g14 => ?_) _
 have ⟨Fh_14, lh_14⟩ := CellsAt.gl ((((((((Fh_13.ot).ot).ot).ot).ot).ot).ot).ot) g14
 have ⟨Fu_14, lu_14⟩ := CellsAt.gl ((((((((Fu_13.ot).ot).ot).ot).ot).ot).ot).ot) g14
 have ⟨Fv_14, lv_14⟩ := CellsAt.gl ((((((((Fv_13.ot).ot).ot).ot).ot).ot).ot).ot) g14
 have ⟨Fr_14, lr_14⟩ := CellsAt.gl (CellsAt.set8 (Fr_13) _ _ _ _ _ _ _ _) g14
 have ⟨Fp_14, lp_14⟩ := CellsAt.gl ((((((((Fp_13.ot).ot).ot).ot).ot).ot).ot).ot) g14
 have ⟨Fd_14, ld_14⟩ := CellsAt.gl ((((((((Fd_13.ot).ot).ot).ot).ot).ot).ot).ot) g14
 have z14 := ((((((((z13.sc _).sc _).sc _).sc _).sc _).sc _).sc _).sc _).trans g14
 clear g14
 clear hclG KS
 go_wp2_with fail
 obtain ⟨uf, hqp4⟩ : ∃ zz, zz = w14 := ⟨_, rfl⟩
 subst hqp4
 have Yh_p4 := Fh_14
 have Yu_p4 := Fu_14
 have Yv_p4 := Fv_14
 have Yr_p4 := Fr_14
 have Yp_p4 := Fp_14
 have Yd_p4 := Fd_14
 have yp4 := z14
 obtain ⟨cr0, cr1, cr2, cr3, cr4, cr5, cr6, cr7⟩ := Yr_p4.t8
 refine bodyPost_ret (v := .agg #[q0.re, q0.im, q1.re, q1.im, q2.re, q2.im, q3.re, q3.im]) ?_ rfl ⟨rfl, yp4⟩
 simp [results, Tryz.results199, go_sem, *]
end
end Go.Proofs.YtdignnmpfkgkoaaGreat
