import Derived.Test.YtdignnmpfkgkoaaGreatRealUntanglesS13
namespace Go.Proofs.YtdignnmpfkgkoaaGreat
section
open Go.ChangeShapes Go.WideShapes Go.ChangeAt Go.RowKit
set_option linter.unusedVariables false
set_option maxRecDepth 100000
theorem q4g (q : Int) : q % 4 = 0 ∨ q % 4 = 1 ∨ q % 4 = 2 ∨ q % 4 = 3 := by omega
theorem rturn_gi (a : Gi) (q : Int) (h : a.re.natAbs ≤ 2305843009213693952 ∧ a.im.natAbs ≤ 2305843009213693952) (w : World) :
 CW 80 #[.agg #[.int .i64 a.re, .int .i64 a.im], .int .i64 q] w (.agg #[.int .i64 (a.turn q).re, .int .i64 (a.turn q).im]) :=by
 delta CW
 have h0 : wrap64 (-a.re) = -a.re := IntWalk.wrap64_in _ (by omega)
 have h1 : wrap64 (-a.im) = -a.im := IntWalk.wrap64_in _ (by omega)
 have ht := tmod4 q
 unfold Gi.turn
 rcases q4g q with hm | hm | hm | hm <;> rw [hm] at ht <;> simp only [hm]
 ·exact rturn_0 a.re a.im q _ _ _ h0 h1 rfl (by omega) w
 ·exact rturn_1 a.re a.im q _ _ _ h0 h1 rfl (by omega) w
 ·exact rturn_2 a.re a.im q _ _ _ h0 h1 rfl (by omega) w
 ·exact rturn_3 a.re a.im q _ _ _ h0 h1 rfl (by omega) w
theorem rconj_gi (a : Gi) (h : a.im.natAbs ≤ 2305843009213693952) (w : World) :
 Calls Tryz.prog 79 #[.agg #[.int .i64 a.re, .int .i64 a.im]] w fun e w' => e = .returned (.agg #[.int .i64 a.conj.re, .int .i64 a.conj.im]) ∧ Gr w w' :=
 rconj_c a.re a.im _ (IntWalk.wrap64_in _ (by omega)) w
theorem cxconj_gi (a : Gi) (h : a.re.natAbs ≤ 2305843009213693952 ∧ a.im.natAbs ≤ 2305843009213693952) (w : World) :
 Calls Tryz.prog 116 #[.agg #[.int .i64 a.re, .int .i64 a.im]] w fun e w' => e = .returned (.tuple #[.agg #[.int .i64 a.conj.re, .int .i64 a.conj.im], .int .i64 0]) ∧ Gr w w' :=
 cxconj_ok a.re a.im (by simp only [Bool.and_eq_true, inB_iff]; omega) w
theorem cxturn_gi (a : Gi) (q : Int) (h : a.re.natAbs ≤ 2305843009213693952 ∧ a.im.natAbs ≤ 2305843009213693952) (w : World) :
 CW 125 #[.agg #[.int .i64 a.re, .int .i64 a.im], .int .i64 q] w (.tuple #[.agg #[.int .i64 (a.turn q).re, .int .i64 (a.turn q).im], .int .i64 0]) :=by
 delta CW
 have hB : (inB 2305843009213693952 a.re && inB 2305843009213693952 a.im) = true := by simp only [Bool.and_eq_true, inB_iff]; omega
 have ha := and3 q
 unfold Gi.turn
 rcases q4g q with hm | hm | hm | hm <;> rw [hm] at ha <;> simp only [hm]
 ·exact cxturn_0 a.re a.im q hB ha w
 ·exact cxturn_1 a.re a.im q hB ha w
 ·exact cxturn_2 a.re a.im q hB ha w
 ·exact cxturn_3 a.re a.im q hB ha w
theorem cxtimes_gi (a w : Gi) (ha : absI a.re ≤ 2147483648 ∧ absI a.im ≤ 2147483648) (hw : absI w.re ≤ 1073741824 ∧ absI w.im ≤ 1073741824) (W : World) :
 Calls Tryz.prog 128 #[.agg #[.int .i64 a.re, .int .i64 a.im], .agg #[.int .i64 w.re, .int .i64 w.im]] W fun e w' => e = .returned (.tuple #[.agg #[.int .i64 (gmul a w).re, .int .i64 (gmul a w).im], .int .i64 0]) ∧ Gr W w' := by
 have a1 := absI_le.1 ha.1
 have a2 := absI_le.1 ha.2
 have b1 := absI_le.1 hw.1
 have b2 := absI_le.1 hw.2
 exact cxtimes_ok a.re a.im w.re w.im (by simp only [Bool.or_eq_true, Bool.and_eq_true, inB_iff]; omega) W
theorem cxshift_gi (a : Gi) (n : Nat) (mo : Int) (h : (-9223372036854775808 ≤ a.re ∧ a.re ≤ 9223372036854775807) ∧ -9223372036854775808 ≤ a.im ∧ a.im ≤ 9223372036854775807) (hn : n ≤ 62) (m0 : 0 ≤ mo) (m1 : mo ≤ 2) (W : World) :
 Calls Tryz.prog 129 #[.agg #[.int .i64 a.re, .int .i64 a.im], .int .i64 (n : Int), .int .i64 mo] W fun e w' => e = .returned (.tuple #[.agg #[.int .i64 (grnd n mo a).re, .int .i64 (grnd n mo a).im], .int .i64 0]) ∧ Gr W w' := by
 have := cxshift_ok a.re a.im (n : Int) mo h.1 h.2 (by omega) (by omega) m0 m1 W
 rwa [Int.toNat_natCast] at this
theorem rsum_gi (a b : Gi) (h0 : -9223372036854775808 ≤ a.re + b.re ∧ a.re + b.re ≤ 9223372036854775807) (h1 : -9223372036854775808 ≤ a.im + b.im ∧ a.im + b.im ≤ 9223372036854775807) (W : World) :
 Calls Tryz.prog 82 #[.agg #[.int .i64 a.re, .int .i64 a.im], .agg #[.int .i64 b.re, .int .i64 b.im]] W fun e w' => e = .returned (.agg #[.int .i64 (gadd a b).re, .int .i64 (gadd a b).im]) ∧ Gr W w' :=
 rsum_c a.re a.im b.re b.im _ _ (IntWalk.wrap64_in _ h0) (IntWalk.wrap64_in _ h1) W
set_option maxHeartbeats 1000000 in
theorem rshift03_gi (a : Gi) (n : Nat) (mo : Int) (h : (-9223372036854775808 ≤ a.re ∧ a.re ≤ 9223372036854775807) ∧ -9223372036854775808 ≤ a.im ∧ a.im ≤ 9223372036854775807) (hn : n ≤ 62) (m0 : 0 ≤ mo) (m1 : mo ≤ 2) (w : World) :
 CW 85 #[.agg #[.int .i64 a.re, .int .i64 a.im], .int .i64 (n : Int), .int .i64 mo] w (.agg #[.int .i64 (grnd n mo a).re, .int .i64 (grnd n mo a).im]) :=by
 delta CW
 have HX := Lib.hid (refShift_c a.re (n : Int) mo h.1 (by omega) (by omega) m0 m1)
 have HY := Lib.hid (refShift_c a.im (n : Int) mo h.2 (by omega) (by omega) m0 m1)
 rw [Int.toNat_natCast] at HX HY
 unfold grnd
 obtain ⟨x, y⟩ := a
 simp only at HX HY ⊢
 generalize rnd x n mo = r0 at HX ⊢
 generalize rnd y n mo = r1 at HY ⊢
 clear h hn m0 m1
 go_enter Tryz.func85, Tryz.ntmps85
 go_wp2_with fail
 go_region_held3 (fun W => W.cell? ⟨w.heap.size, 0, none⟩ = some (.int .i64 x) ∧ W.cell? ⟨w.heap.size, 1, none⟩ = some (.int .i64 y))
  (go_keep)
  (first | (go_at_call 135; ((with_reducible refine (HX.out _).mono ?_); rintro e w' ⟨rfl, rfl⟩)) | (go_at_call 135; ((with_reducible refine (HY.out _).mono ?_); rintro e w' ⟨rfl, rfl⟩)))
 go_wp2
 refine bodyPost_ret (v := .agg #[.int .i64 r0, .int .i64 r1]) ?_ rfl ⟨rfl, ?_⟩
 ·simp [results, Tryz.results85, go_sem]
 ·exact by repeat (first | exact Gr.refl _ | assumption | apply Gr.drew | apply Gr.alloc | (refine Gr.setCell ?_ (by first | (simp; done) | (simp; omega)) _))
end
section
open Go.ChangeShapes Go.WideShapes Go.ChangeAt Go.RowKit
set_option linter.unusedVariables false
set_option linter.unusedSimpArgs false
set_option maxRecDepth 100000
theorem sDown_c (b mo n : Int) (inv : Bool) (hn : IntKind.i64.wrap (b + 2) = n) (w : World) :
 CW 177 #[.agg #[.int .i64 b, .int .i64 mo, .bool inv]] w (.int .i64 n) :=by
 delta CW
 go_enter Tryz.func177, Tryz.ntmps177
 go_wp2_with fail
 go_ret
 exact ⟨by rw [← hn]; rfl, (Gr.refl w).alloc _ _⟩
theorem sTurns_c (b mo : Int) (inv : Bool) (w : World) :
 CW 215 #[.agg #[.int .i64 b, .int .i64 mo, .bool inv]] w (.int .i64 (turns1 inv 1)) :=by
 delta CW
 cases inv
 all_goals
  go_enter Tryz.func215, Tryz.ntmps215
  go_wp2_with fail
  go_ret
  exact ⟨rfl, (Gr.refl w).alloc _ _⟩
def SetsOk3 (b mo : Int) : Prop := (0 ≤ b ∧ b ≤ 29) ∧ 0 ≤ mo ∧ mo ≤ 2
set_option maxHeartbeats 1000000 in
theorem sMayBe_last (b mo x er : Int) (inv : Bool) (hb : 0 ≤ b ∧ b ≤ 29) (z : Bool) (hz : (er == 0) = z)
 (HS : CR 70 #[.int .i64 0, .int .i64 (b + 2), .int .i64 mo] (.tuple #[.int .i64 x, .int .i64 er])) (w : World) :
 CW 151 #[.agg #[.int .i64 b, .int .i64 mo, .bool inv]] w (.bool z) :=by
 delta CW
 have HD := Lib.hid (sDown_c b mo (b + 2) inv (IntWalk.i64_in _ ⟨by omega, by omega⟩))
 go_enter Tryz.func151, Tryz.ntmps151
 go_wp2_with fail
 obtain ⟨u0, hU⟩ : ∃ uu, uu = (w.alloc (.cells #[.int .i64 b, .int .i64 mo, .bool inv] 181)) := ⟨_, rfl⟩
 have ⟨gu, R0⟩ := lay1 hU
 rw [← hU]
 clear hU
 have KS : ∀ W, Gr u0 W → (W.cell? ⟨w.heap.size, 0, none⟩ = some (.int .i64 b) ∧ W.cell? ⟨w.heap.size, 1, none⟩ = some (.int .i64 mo) ∧ W.cell? ⟨w.heap.size, 2, none⟩ = some (.bool inv)) := fun W hG => ⟨(R0.gr hG).cell 0, (R0.gr hG).cell 1, (R0.gr hG).cell 2⟩
 have hclG := gr_closed u0
 try simp only [List.append_eq, List.cons_append, List.nil_append]
 refine wp_region_grow (S := Gr u0) rfl (Gr.drew (Gr.refl _)) ?_
 refine gK 0 hclG KS ?_
 refine wpG_call (i := 1) hclG rfl (by kernel_rfl) (by kernel_rfl) (by kernel_rfl) (fun _ _ _ h => h) (fun W hS => HD.out W) (by rfl) ?_ ?_
 ·(intro w' hSw; go_simp; try with_reducible rfl)
 try simp only [Act.put, putS]
 refine gT 2 hclG ?_
 refine gK 3 hclG KS ?_
 refine wpG_call (i := 4) hclG rfl (by kernel_rfl) (by kernel_rfl) (by kernel_rfl) (fun _ _ _ h => h) (fun W hS => HS.out W) (by rfl) ?_ ?_
 ·(intro w' hSw; go_simp; try with_reducible rfl)
 try simp only [Act.put, putS]
 refine gT 5 hclG ?_
 refine gT 6 hclG ?_
 refine gT 7 hclG ?_
 refine gT 8 hclG ?_
 refine gT 9 hclG ?_
 refine wpG_done (by kernel_rfl) (fun w1 g1 => ?_) _
 go_wp2_with fail
 go_ret
 exact ⟨rfl, (gu.trans (Gr.drew (Gr.refl _))).trans g1⟩
theorem sMayBe_yes (b mo : Int) (inv : Bool) (h : SetsOk3 b mo) (w : World) :
 CW 151 #[.agg #[.int .i64 b, .int .i64 mo, .bool inv]] w (.bool true) :=by
 delta CW
 obtain ⟨h1, h3, h4⟩ := h
 exact sMayBe_last b mo _ 0 inv h1 true rfl (Lib.hid (shift_ok 0 (b + 2) mo (by omega) (by omega) (by omega) h3 h4)) w
set_option maxHeartbeats 2000000 in
theorem sWithin_c (v : Value) (xs : List Gi) (l : Int) (hl0 : 0 ≤ l) (hl1 : l ≤ 2147483648) (w : World) (hv : CxsAt w v xs) :
 CW 152 #[.int .i64 l, v] w (.bool (allIn l xs)) :=by
 delta CW
 by_cases hx : xs = []
 ·subst hx
  obtain ⟨p, cap, rfl⟩ := hv.len
  rw [show ([] : List Gi).length = 0 from rfl]
  clear hv
  go_enter Tryz.func152, Tryz.ntmps152
  go_wp2_with fail
  refine wp_loop_rounds 1 ?_
  rw [rounds_succ]
  go_wp2_with fail
  go_ret
  exact ⟨rfl, Gr.refl _⟩
 ·obtain ⟨b, o, cap, rfl, hlen, hb, hc⟩ := hv.at hx
  have HC := Lib.hid hc
  have HN := Lib.hid fun (k : Nat) (a : Gi) (h : xs[k]? = some a) => allIn_no (l := l) h
  have HS := Lib.hid fun (k : Nat) (a : Gi) (h : xs[k]? = some a) => allIn_snoc (l := l) h
  have HA : allIn l (xs.take xs.length) = allIn l xs := by rw [List.take_length]
  clear hc hv hx
  go_enter Tryz.func152, Tryz.ntmps152
  go_wp2_with fail
  go_loopw [6, 9] (fun _ i wr => ∃ k : Nat, k ≤ xs.length ∧ i = .int .i64 k ∧ allIn l (xs.take k) = true ∧ Gr w wr) (fun _ i _ => xs.length - (intOf i).toNat)
  case atStart => exact ⟨0, Nat.zero_le _, rfl, rfl, Gr.refl _⟩
  case round =>
   obtain ⟨k, hk, rfl, hall, hl⟩ := hrel
   by_cases hlt : k < xs.length
   ·obtain ⟨x, hx⟩ := get_of_lt hlt
    have h1 := (hl.cell (p := ⟨b, o + k * 2, none⟩) hb).trans (HC.out k x hx).1
    have h2 := (hl.cell (p := ⟨b, o + k * 2 + 1, none⟩) hb).trans (HC.out k x hx).2
    have hbl : b < wr.heap.size := Nat.lt_of_lt_of_le hb hl.size
    have HN1 := Lib.hid (HN.out k x hx)
    have HS1 := Lib.hid (HS.out k x hx hall)
    obtain ⟨re, im⟩ := x
    simp only at h1 h2 HN1 HS1
    clear hx hall HA HN HS HC
    have hll : IntKind.i64.wrap (-l) = -l := IntWalk.i64_in _ ⟨by omega, by omega⟩
    have hu : ∀ a b, ∀ c d : Int, (inB l a && inB l b) = true → -l ≤ a ∧ a ≤ l ∧ -l ≤ b ∧ b ≤ l := by
     intro a b c d h
     rw [Bool.and_eq_true, inB_iff, inB_iff] at h
     omega
    by_cases hq : (inB l re && inB l im) = true
    ·have HS2 := Lib.hid (HS1.out hq)
     obtain ⟨q1, q2, q3, q4⟩ := hu re im 0 0 hq
     clear HN1 HS1 hq hu
     by_cases hm : im < re
     ·go_wp2_with fail
      go_roundw
      case rel => exact ⟨k + 1, by omega, by go_num, HS2.out, hl.alloc _ _⟩
      case measure => simp [intOf]; omega
     ·go_wp2_with fail
      go_roundw
      case rel => exact ⟨k + 1, by omega, by go_num, HS2.out, hl.alloc _ _⟩
      case measure => simp [intOf]; omega
    ·have hq' : (inB l re && inB l im) = false := by simpa using hq
     have HN2 := Lib.hid (HN1.out hq')
     have hor : re < -l ∨ l < re ∨ im < -l ∨ l < im := by
      refine Classical.byContradiction fun h => hq ?_
      rw [Bool.and_eq_true, inB_iff, inB_iff]
      omega
     clear HN1 HS1 hq hq' hu
     have hcs : (im < re ∧ im < -l) ∨ (im < re ∧ -l ≤ im ∧ l < re) ∨ (re ≤ im ∧ re < -l) ∨ (re ≤ im ∧ -l ≤ re ∧ l < im) := by omega
     clear hor
     rcases hcs with ⟨t1, t2⟩ | ⟨t1, t2, t3⟩ | ⟨t1, t2⟩ | ⟨t1, t2, t3⟩
     all_goals
      go_wp2_with fail
     all_goals
      go_ret
      exact ⟨by rw [HN2.out]; rfl, hl.alloc _ _⟩
   ·obtain rfl : k = xs.length := by omega
    rw [HA] at hall
    have HL := Lib.hid hall
    clear hall HA
    go_wp2_with fail
    go_ret
    exact ⟨by rw [HL.out]; rfl, hl⟩
theorem CxsAt.two {W : World} {B : Nat} {t : TypeId} {a b : Gi} (h : CellsAt W B t #[.int .i64 a.re, .int .i64 a.im, .int .i64 b.re, .int .i64 b.im]) : CxsAt W (.slice (some ⟨B, 0, none⟩) 2 2) [a, b] := by
 refine ⟨some ⟨B, 0, none⟩, 2, rfl, Nat.le_refl _, by unfold maxLen; omega, fun _ => ⟨B, 0, rfl, h.lt, fun j x hj => ?_⟩⟩
 have hc : (j = 0 ∧ x = a) ∨ (j = 1 ∧ x = b) := by
  match j, hj with
  | 0, hj => exact .inl ⟨rfl, by simpa using hj.symm⟩
  | 1, hj => exact .inr ⟨rfl, by simpa using hj.symm⟩
 rcases hc with ⟨rfl, rfl⟩ | ⟨rfl, rfl⟩
 ·exact ⟨h.cell 0, h.cell 1⟩
 ·exact ⟨h.cell 2, h.cell 3⟩
set_option maxHeartbeats 1000000 in
theorem sAsked_c (b mo : Int) (g : Gi) (inv : Bool) (h : g.re.natAbs ≤ 2305843009213693952 ∧ g.im.natAbs ≤ 2305843009213693952) (w : World) :
 CW 198 #[.agg #[.int .i64 b, .int .i64 mo, .bool inv], .agg #[.int .i64 (g).re, .int .i64 (g).im]] w (.agg #[.int .i64 (if inv then g.conj else g).re, .int .i64 (if inv then g.conj else g).im]) :=by
 delta CW
 cases inv
 ·go_enter Tryz.func198, Tryz.ntmps198
  go_wp2_with fail
  refine bodyPost_ret (v := .agg #[.int .i64 (g).re, .int .i64 (g).im]) ?_ rfl ⟨rfl, by (repeat (first | exact Gr.refl _ | assumption | apply Gr.drew | apply Gr.drewN | apply Gr.alloc | (refine Gr.setCell ?_ (by simp) _) | refine Gr.trans ?_ (by assumption)))⟩
  simp [results, Tryz.results198, go_sem]
 ·have HC := Lib.hid (cxconj_gi g h)
  generalize hc : g.conj = c at *
  go_enter Tryz.func198, Tryz.ntmps198
  go_wp2_with fail
  obtain ⟨u0, hU⟩ : ∃ uu, uu = (((w.alloc (.cells #[.int .i64 b, .int .i64 mo, .bool true] 181)).alloc (.cells #[.int .i64 g.re, .int .i64 g.im] 50)).alloc (.cells #[.int .i64 0, .int .i64 0] 50)) := ⟨_, rfl⟩
  have ⟨gu, R0, R1, R2⟩ := lay3 hU
  rw [← hU]
  clear hU
  refine (HC.out _).mono ?_
  rintro e w1 ⟨rfl, g1⟩
  have P1 := R1.gr g1
  have P2 := R2.gr g1
  have gz := gu.trans g1
  have c0 := P1.cell 0
  have c1 := P1.cell 1
  have f0 := P1.frozen 0
  have f1 := P1.frozen 1
  have d0 := P2.cell 0
  have d1 := P2.cell 1
  have m0 := P2.frozen 0
  have m1 := P2.frozen 1
  have l1 := P1.lt
  have l2 := P2.lt
  simp only [getS] at c0 c1 d0 d1
  go_wp2_with fail
  refine bodyPost_ret (v := .agg #[.int .i64 (c).re, .int .i64 (c).im]) ?_ rfl ⟨rfl, (((gz.setCell (by first | (simp; done) | (simp; omega)) _).setCell (by first | (simp; done) | (simp; omega)) _).setCell (by first | (simp; done) | (simp; omega)) _).setCell (by first | (simp; done) | (simp; omega)) _⟩
  simp [results, Tryz.results198, go_sem, *]
set_option maxHeartbeats 2000000 in
theorem sHalved_of (b mo : Int) (inv : Bool) (g k s d p q : Gi)
 (HS : CR 126 #[.agg #[.int .i64 (g).re, .int .i64 (g).im], .agg #[.int .i64 (k).re, .int .i64 (k).im]] (.tuple #[.agg #[.int .i64 (s).re, .int .i64 (s).im], .int .i64 0])) (HL : CR 127 #[.agg #[.int .i64 (g).re, .int .i64 (g).im], .agg #[.int .i64 (k).re, .int .i64 (k).im]] (.tuple #[.agg #[.int .i64 (d).re, .int .i64 (d).im], .int .i64 0]))
 (HP : CR 129 #[.agg #[.int .i64 (s).re, .int .i64 (s).im], .int .i64 1, .int .i64 mo] (.tuple #[.agg #[.int .i64 (p).re, .int .i64 (p).im], .int .i64 0])) (HQ : CR 129 #[.agg #[.int .i64 (d).re, .int .i64 (d).im], .int .i64 1, .int .i64 mo] (.tuple #[.agg #[.int .i64 (q).re, .int .i64 (q).im], .int .i64 0])) (w : World) :
 Calls Tryz.prog 178 #[.agg #[.int .i64 b, .int .i64 mo, .bool inv], .agg #[.int .i64 (g).re, .int .i64 (g).im], .agg #[.int .i64 (k).re, .int .i64 (k).im]] w fun e w' => ∃ v, e = .returned v ∧ CxsAt w' v [p, q] ∧ Gr w w' := by
 go_enter Tryz.func178, Tryz.ntmps178
 go_wp2_with fail
 obtain ⟨u0, hU⟩ : ∃ uu, uu = (((w.alloc (.cells #[.int .i64 b, .int .i64 mo, .bool inv] 181)).alloc (.cells #[.int .i64 g.re, .int .i64 g.im] 50)).alloc (.cells #[.int .i64 k.re, .int .i64 k.im] 50)) := ⟨_, rfl⟩
 have ⟨gu, R0, R1, R2⟩ := lay3 hU
 rw [← hU]
 clear hU
 have lh := R0.lt
 have lg := R1.lt
 have lk := R2.lt
 refine (HS.out _).mono ?_
 rintro e w1 ⟨rfl, g1⟩
 have ⟨Fh_1, lh_1⟩ := R0.gl g1
 have ⟨Fg_1, lg_1⟩ := R1.gl g1
 have ⟨Fk_1, lk_1⟩ := R2.gl g1
 have z1 := gu.trans g1
 clear R0 R1 R2 gu g1
 obtain ⟨cg0, cg1⟩ := Fg_1.t2
 obtain ⟨ck0, ck1⟩ := Fk_1.t2
 go_wp2_with fail
 clear cg0 cg1 ck0 ck1
 refine (HL.out _).mono ?_
 rintro e w2 ⟨rfl, g2⟩
 have ⟨Fh_2, lh_2⟩ := CellsAt.gl (Fh_1.alloc _) g2
 have ⟨Fg_2, lg_2⟩ := CellsAt.gl (Fg_1.alloc _) g2
 have ⟨Fk_2, lk_2⟩ := CellsAt.gl (Fk_1.alloc _) g2
 have ⟨Fs_2, ls_2⟩ := CellsAt.gl (CellsAt.new w1 50 #[.int .i64 s.re, .int .i64 s.im]) g2
 have z2 := (z1.alloc _ _).trans g2
 clear g2
 obtain ⟨ch0, ch1, ch2⟩ := Fh_2.t3
 obtain ⟨cg0, cg1⟩ := Fg_2.t2
 obtain ⟨ck0, ck1⟩ := Fk_2.t2
 obtain ⟨cs0, cs1⟩ := Fs_2.t2
 go_wp2_with fail
 clear ch0 ch1 ch2 cg0 cg1 ck0 ck1 cs0 cs1
 refine (HP.out _).mono ?_
 rintro e w3 ⟨rfl, g3⟩
 have ⟨Fh_3, lh_3⟩ := CellsAt.gl (Fh_2.alloc _) g3
 have ⟨Fg_3, lg_3⟩ := CellsAt.gl (Fg_2.alloc _) g3
 have ⟨Fk_3, lk_3⟩ := CellsAt.gl (Fk_2.alloc _) g3
 have ⟨Fs_3, ls_3⟩ := CellsAt.gl (Fs_2.alloc _) g3
 have ⟨Fd_3, ld_3⟩ := CellsAt.gl (CellsAt.new w2 50 #[.int .i64 d.re, .int .i64 d.im]) g3
 have z3 := (z2.alloc _ _).trans g3
 clear g3
 obtain ⟨ch0, ch1, ch2⟩ := Fh_3.t3
 obtain ⟨cg0, cg1⟩ := Fg_3.t2
 obtain ⟨ck0, ck1⟩ := Fk_3.t2
 obtain ⟨cs0, cs1⟩ := Fs_3.t2
 obtain ⟨cd0, cd1⟩ := Fd_3.t2
 obtain ⟨ms0, ms1⟩ := Fs_3.f2
 go_wp2_with fail
 clear ch0 ch1 ch2 cg0 cg1 ck0 ck1 cs0 cs1 cd0 cd1 ms0 ms1
 refine (HQ.out _).mono ?_
 rintro e w4 ⟨rfl, g4⟩
 have ⟨Fh_4, lh_4⟩ := CellsAt.gl ((Fh_3.ot).ot) g4
 have ⟨Fg_4, lg_4⟩ := CellsAt.gl ((Fg_3.ot).ot) g4
 have ⟨Fk_4, lk_4⟩ := CellsAt.gl ((Fk_3.ot).ot) g4
 have ⟨Fs_4, ls_4⟩ := CellsAt.gl (CellsAt.set2 (Fs_3) _ _) g4
 have ⟨Fd_4, ld_4⟩ := CellsAt.gl ((Fd_3.ot).ot) g4
 have z4 := ((z3.sc _).sc _).trans g4
 clear g4
 obtain ⟨ch0, ch1, ch2⟩ := Fh_4.t3
 obtain ⟨cg0, cg1⟩ := Fg_4.t2
 obtain ⟨ck0, ck1⟩ := Fk_4.t2
 obtain ⟨cs0, cs1⟩ := Fs_4.t2
 obtain ⟨cd0, cd1⟩ := Fd_4.t2
 obtain ⟨md0, md1⟩ := Fd_4.f2
 go_wp2_with fail
 clear ch0 ch1 ch2 cg0 cg1 ck0 ck1 cs0 cs1 cd0 cd1 md0 md1
 go_ret
 exact ⟨_, rfl, CxsAt.two (by simpa using CellsAt.new ((w4.setCell ⟨w2.heap.size, 0, none⟩ (.int .i64 q.re)).setCell ⟨w2.heap.size, 1, none⟩ (.int .i64 q.im)) 50 #[.int .i64 p.re, .int .i64 p.im, .int .i64 q.re, .int .i64 q.im]), ((z4.sc _).sc _).alloc #[.int .i64 p.re, .int .i64 p.im, .int .i64 q.re, .int .i64 q.im] 50⟩
set_option maxHeartbeats 2000000 in
theorem sQuotient_of (b mo n sg p0 p1 e0 e1 : Int) (inv : Bool) (g k q : Gi) (h0 : wrap64 (sg * k.re) = p0) (h1 : wrap64 (sg * k.im) = p1) (h2 : wrap64 (g.re + p0) = e0) (h3 : wrap64 (g.im + p1) = e1)
 (HD : CR 177 #[.agg #[.int .i64 b, .int .i64 mo, .bool inv]] (.int .i64 n)) (HF : CR 129 #[.agg #[.int .i64 e0, .int .i64 e1], .int .i64 n, .int .i64 mo] (.tuple #[.agg #[.int .i64 (q).re, .int .i64 (q).im], .int .i64 0])) (w : World) :
 CW 216 #[.agg #[.int .i64 b, .int .i64 mo, .bool inv], .agg #[.int .i64 (g).re, .int .i64 (g).im], .agg #[.int .i64 (k).re, .int .i64 (k).im], .int .i64 sg] w (.agg #[.int .i64 (q).re, .int .i64 (q).im]) :=by
 delta CW
 go_enter Tryz.func216, Tryz.ntmps216
 go_wp2_with fail
 obtain ⟨u0, hU⟩ : ∃ uu, uu = (((((w.alloc (.cells #[.int .i64 b, .int .i64 mo, .bool inv] 181)).alloc (.cells #[.int .i64 g.re, .int .i64 g.im] 50)).alloc (.cells #[.int .i64 k.re, .int .i64 k.im] 50)).alloc (.cells #[.int .i64 0, .int .i64 0] 50)).alloc (.cells #[.int .i64 e0, .int .i64 e1] 50)) := ⟨_, rfl⟩
 have ⟨gu, R0, R1, R2, R3, R4⟩ := lay5 hU
 rw [← hU]
 clear hU
 have lh := R0.lt
 have la := R1.lt
 have lk := R2.lt
 have lr := R3.lt
 have ls := R4.lt
 obtain ⟨v0, hqp1⟩ : ∃ zz, zz = u0 := ⟨_, rfl⟩
 have Yh_p1 : CellsAt v0 (w.heap.size) 181 #[.int .i64 b, .int .i64 mo, .bool inv] := by rw [hqp1]; first | exact R0 | simpa using R0
 have Ya_p1 : CellsAt v0 (w.heap.size + 1) 50 #[.int .i64 g.re, .int .i64 g.im] := by rw [hqp1]; first | exact R1 | simpa using R1
 have Yk_p1 : CellsAt v0 (w.heap.size + 1 + 1) 50 #[.int .i64 k.re, .int .i64 k.im] := by rw [hqp1]; first | exact R2 | simpa using R2
 have Yr_p1 : CellsAt v0 (w.heap.size + 1 + 1 + 1) 50 #[.int .i64 0, .int .i64 0] := by rw [hqp1]; first | exact R3 | simpa using R3
 have Ys_p1 : CellsAt v0 (w.heap.size + 1 + 1 + 1 + 1) 50 #[.int .i64 e0, .int .i64 e1] := by rw [hqp1]; first | exact R4 | simpa using R4
 have yp1 : Gr w v0 := by rw [hqp1]; exact gu
 rw [← hqp1]
 clear hqp1
 have KS : ∀ W, GB (w.heap.size + 1 + 1 + 1 + 1) v0 W → (W.cell? ⟨w.heap.size, 0, none⟩ = some (.int .i64 b) ∧ W.cell? ⟨w.heap.size, 1, none⟩ = some (.int .i64 mo) ∧ W.cell? ⟨w.heap.size, 2, none⟩ = some (.bool inv)) := fun W hG => ⟨(GB.cellsAt hG Yh_p1 (by omega)).cell 0, (GB.cellsAt hG Yh_p1 (by omega)).cell 1, (GB.cellsAt hG Yh_p1 (by omega)).cell 2⟩
 have hclG := gb_closed (w.heap.size + 1 + 1 + 1 + 1) v0
 try simp only [List.append_eq, List.cons_append, List.nil_append]
 refine wp_region_grow (S := GB (w.heap.size + 1 + 1 + 1 + 1) v0) rfl (GB.drew (GB.refl _ _)) ?_
 refine gK 1 hclG KS ?_
 refine wpG_call (i := 2) hclG rfl (by kernel_rfl) (by kernel_rfl) (by kernel_rfl) (fun _ _ _ h => h) (fun W hS => HD.out W) (by rfl) ?_ ?_
 ·(intro w' hSw; go_simp; try with_reducible rfl)
 try simp only [Act.put, putS]
 refine gT 3 hclG ?_
 refine gK 4 hclG KS ?_
 refine gR 0 fun w1 g1 s1 K hK => ?_
 replace g1 := (Gr.drew (Gr.refl v0)).trans g1
 have ⟨Fh_1, lh_1⟩ := Yh_p1.gl g1
 have ⟨Fa_1, la_1⟩ := Ya_p1.gl g1
 have ⟨Fk_1, lk_1⟩ := Yk_p1.gl g1
 have ⟨Fr_1, lr_1⟩ := Yr_p1.gl g1
 have ⟨Fs_1, ls_1⟩ := Ys_p1.gl g1
 have z1 := yp1.trans g1
 clear Yh_p1 Ya_p1 Yk_p1 Yr_p1 Ys_p1 yp1 g1
 obtain ⟨cs0, cs1⟩ := Fs_1.t2
 go_simp
 clear cs0 cs1
 refine hK.out _ _ ?_ ?_
 ·exact s1
 clear hK K
 try simp only [Act.put, putS]
 refine wpG_call (i := 5) hclG rfl (by kernel_rfl) (by kernel_rfl) (by kernel_rfl) (fun _ _ _ h => h) (fun W hS => HF.out W) (by rfl) ?_ ?_
 ·(intro w' hSw; go_simp; try with_reducible rfl)
 try simp only [Act.put, putS]
 refine gT 6 hclG ?_
 refine gT 7 hclG ?_
 refine gT 8 hclG ?_
 refine gR 9 fun w2 g2 s2 K hK => ?_
 have ⟨Fh_2, lh_2⟩ := Fh_1.gl g2
 have ⟨Fa_2, la_2⟩ := Fa_1.gl g2
 have ⟨Fk_2, lk_2⟩ := Fk_1.gl g2
 have ⟨Fr_2, lr_2⟩ := Fr_1.gl g2
 have ⟨Fs_2, ls_2⟩ := Fs_1.gl g2
 have z2 := z1.trans g2
 clear Fh_1 Fa_1 Fk_1 Fr_1 Fs_1 z1 g2
 have ms0 := CellsAt.frozen (Fs_2) 0
 have cs0 := Fs_2.at 0
 have ms1 := CellsAt.frozen (Fs_2) 1
 have cs1 := Fs_2.at 1
 go_simp
 clear ms0 cs0 ms1 cs1
 refine hK.out _ _ ?_ ?_
 ·exact (GB.set (GB.set s2 _ _) _ _)
 clear hK K
 try simp only [Act.put, putS]
 refine wpG_done (by kernel_rfl) (fun w3 g3 => ?_) _
 have ⟨Fh_3, lh_3⟩ := CellsAt.gl ((Fh_2.ot).ot) g3
 have ⟨Fa_3, la_3⟩ := CellsAt.gl ((Fa_2.ot).ot) g3
 have ⟨Fk_3, lk_3⟩ := CellsAt.gl ((Fk_2.ot).ot) g3
 have ⟨Fr_3, lr_3⟩ := CellsAt.gl ((Fr_2.ot).ot) g3
 have ⟨Fs_3, ls_3⟩ := CellsAt.gl (CellsAt.set2 (Fs_2) _ _) g3
 have z3 := ((z2.sc _).sc _).trans g3
 clear g3
 clear hclG KS
 obtain ⟨cs0, cs1⟩ := Fs_3.t2
 have mr0 := CellsAt.frozen (Fr_3) 0
 have cr0 := Fr_3.at 0
 have mr1 := CellsAt.frozen (Fr_3) 1
 have cr1 := Fr_3.at 1
 go_wp2_with fail
 clear cs0 cs1 mr0 cr0 mr1 cr1
 obtain ⟨uf, hqp2⟩ : ∃ zz, zz = ((w3.setCell ⟨w.heap.size + 1 + 1 + 1, 0, none⟩ (.int .i64 q.re)).setCell ⟨w.heap.size + 1 + 1 + 1, 1, none⟩ (.int .i64 q.im)) := ⟨_, rfl⟩
 have Yh_p2 : CellsAt uf (w.heap.size) 181 #[.int .i64 b, .int .i64 mo, .bool inv] := by rw [hqp2]; first | exact (Fh_3.ot).ot | simpa using (Fh_3.ot).ot
 have Ya_p2 : CellsAt uf (w.heap.size + 1) 50 #[.int .i64 g.re, .int .i64 g.im] := by rw [hqp2]; first | exact (Fa_3.ot).ot | simpa using (Fa_3.ot).ot
 have Yk_p2 : CellsAt uf (w.heap.size + 1 + 1) 50 #[.int .i64 k.re, .int .i64 k.im] := by rw [hqp2]; first | exact (Fk_3.ot).ot | simpa using (Fk_3.ot).ot
 have Yr_p2 : CellsAt uf (w.heap.size + 1 + 1 + 1) 50 #[.int .i64 q.re, .int .i64 q.im] := by rw [hqp2]; first | exact CellsAt.set2 (Fr_3) _ _ | simpa using CellsAt.set2 (Fr_3) _ _
 have Ys_p2 : CellsAt uf (w.heap.size + 1 + 1 + 1 + 1) 50 #[.int .i64 q.re, .int .i64 q.im] := by rw [hqp2]; first | exact (Fs_3.ot).ot | simpa using (Fs_3.ot).ot
 have yp2 : Gr w uf := by rw [hqp2]; exact (z3.sc _).sc _
 rw [← hqp2]
 clear hqp2
 obtain ⟨cr0, cr1⟩ := Yr_p2.t2
 refine bodyPost_ret (v := .agg #[.int .i64 q.re, .int .i64 q.im]) ?_ rfl ⟨rfl, yp2⟩
 simp [results, Tryz.results216, go_sem, *]
end
end Go.Proofs.YtdignnmpfkgkoaaGreat
