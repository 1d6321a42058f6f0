import Derived.Test.YtdignnmpfkgkoaaGreatRealBinsS25
namespace Go.Proofs.YtdignnmpfkgkoaaGreat
set_option maxHeartbeats 16000000
section
open Go.ChangeShapes Go.WideShapes Go.ChangeAt Go.RowKit
set_option linter.unusedVariables false
set_option maxRecDepth 100000
set_option maxHeartbeats 16000000
theorem left07_c (k n : Int) (hn : IsLen n) (wk : -9223372036854775808 ≤ k ∧ k ≤ 9223372036854775807) (w : World) :
 Calls Tryz.prog 132 #[k, n] w fun e w' => e = .returned (.int .i64 (k % n)) ∧ w' = w := by
 have hn0 : 4 ≤ n ∧ n ≤ 64 := by rcases hn with rfl | rfl | rfl | rfl | rfl <;> omega
 obtain ⟨r, hr⟩ : ∃ r, k.tmod n = r := ⟨_, rfl⟩
 have b1 := Int.lt_tmod_of_pos k (show 0 < n by omega)
 have b2 := Int.tmod_lt_of_pos k (show 0 < n by omega)
 rw [hr] at b1 b2
 have he : (0 ≤ r → k % n = r) ∧ (r < 0 → k % n = r + n) := by
  rw [← hr]
  rcases Int.le_total 0 k with h | h
  ·rw [Int.tmod_eq_emod_of_nonneg h]
   have := Int.emod_nonneg k (show n ≠ 0 by omega)
   exact ⟨fun _ => rfl, fun h => absurd this (by omega)⟩
  ·have e : k.tmod n = -((-k) % n) := by
    rw [← Int.tmod_eq_emod_of_nonneg (show 0 ≤ -k by omega), Int.neg_tmod, Int.neg_neg]
   rw [e];clear hr b1 b2 e
   rcases hn with rfl | rfl | rfl | rfl | rfl <;> omega
 have HZ := kh hr
 have hz : (n == 0) = false := by simp; omega
 clear wk
 by_cases c : r < 0
 ·rw [he.2 c]
  clear he hr;have hr := HZ.out;go_in;go_wp2_with fail
  go_ret
  exact ⟨rfl, rfl⟩
 ·rw [he.1 (by omega)]
  clear he hr;have hr := HZ.out;go_in;go_wp2_with fail
  go_ret
  exact ⟨rfl, rfl⟩
theorem rsh07_c (x y s : Int) (wx : -9223372036854775808 ≤ x ∧ x ≤ 9223372036854775807) (wy : -9223372036854775808 ≤ y ∧ y ≤ 9223372036854775807) (s0 : 0 ≤ s) (s1 : s ≤ 62) (w : World) :
 CW 85 #[.agg #[x, y], s, .int .i64 1] w (.agg #[(rnd x s.toNat 1), (rnd y s.toNat 1)]) :=by
 delta CW
 have HX := kh (refShift_c x s 1 wx s0 s1 (by omega) (by omega))
 have HY := kh (refShift_c y s 1 wy s0 s1 (by omega) (by omega))
 generalize rnd x s.toNat 1 = r0 at HX ⊢
 generalize rnd y s.toNat 1 = r1 at HY ⊢
 clear wx wy s0 s1
 go_in
 go_wp2_with fail
 go_region_held3 (fun W => W.cell? ⟨w.heap.size, 0, none⟩ = some (.int .i64 x) ∧ W.cell? ⟨w.heap.size, 1, none⟩ = some (.int .i64 y))
  (go_keep)
  (first | (go_at_call 135; ((with_reducible refine (HX.out _).mono ?_); rintro e w' ⟨rfl, rfl⟩)) | (go_at_call 135; ((with_reducible refine (HY.out _).mono ?_); rintro e w' ⟨rfl, rfl⟩)))
 go_wp2
 refine bodyPost_ret (v := .agg #[r0, r1]) ?_ rfl ⟨rfl, ?_⟩
 ·simp [results, Tryz.results85, go_sem]
 ·exact by repeat (first | exact Gr.refl _ | assumption | apply Gr.drew | apply Gr.alloc | (refine Gr.setCell ?_ (by first | (simp; done) | (simp; omega)) _))
end
section
open Go.ChangeShapes Go.WideShapes Go.ChangeAt Go.RowKit
set_option linter.unusedVariables false
theorem len_log (n log : Int) (h0 : 2 ≤ log) (h1 : log ≤ 6) (hn : n = 2 ^ log.toNat) : IsLen n := by
 unfold IsLen
 rcases (by omega : log = 2 ∨ log = 3 ∨ log = 4 ∨ log = 5 ∨ log = 6) with rfl | rfl | rfl | rfl | rfl <;> simp at hn <;> omega
theorem point07_c (log u n : Int) (l0 : 2 ≤ log) (l1 : log ≤ 6) (hn : n = 2 ^ log.toNat) (u0 : 0 ≤ u) (u1 : u < n) (v : Value) (w : World) (hv : IntsAt w v angL) :
 CW 133 #[.agg #[v, .int .i64 43757185469210200], log, u] w (.agg #[(rpt n u).re, (rpt n u).im]) :=by
 delta CW
 have hl := len_log n log l0 l1 hn
 have hn4 : 4 ≤ n ∧ n ≤ 64 := by rcases hl with rfl | rfl | rfl | rfl | rfl <;> omega
 have HP := kh (pow_c log (by omega) (by omega))
 rw [← hn] at HP
 have HE := kh fun (j : Int) (j0 : 0 ≤ j) (j1 : j ≤ n) v W (hI : IntsAt W v angL) => eighthOf06_c j log (by omega) l1 j0 (by rw [← hn]; exact j1) (eighthZ_bd j log (by omega) l1 j0 (by rw [← hn]; exact j1)).1 v W hI
 have J := kh hv
 obtain ⟨b, o, cap, rfl, hlen, hb, hc⟩ := same_len hv angL_ne'
 rw [angL_len] at J ⊢
 clear hv hlen hc hb
 by_cases a : 2 * u < n
 ·have HE1 := kh (HE.out (2 * u) (by omega) (by omega))
  have er : (rpt n u) = ptG (eighthZ (2 * u) log) := by unfold rpt rptF; rw [if_pos a, eighthZ_eq, ← hn]
  rw [er];unfold ptG;clear er HE;generalize pt (eighthZ (2 * u) log) = s at *;obtain ⟨re, im, left⟩ := s
  simp only at HE1 ⊢
  clear hl hn;go_in
  go_wp2_with (go_at_call 38; refine (HP.out _).mono ?_; rintro e wz ⟨rfl, rfl⟩)
  have R0 := CellsAt.new (w.alloc (.cells #[.slice (some ⟨b, o, none⟩) 45 cap, .int .i64 43757185469210200] 103)) 50 #[.int .i64 0, .int .i64 0];rw [World.size_alloc] at R0;have gu := ((Gr.refl w).alloc #[.slice (some ⟨b, o, none⟩) 45 cap, .int .i64 43757185469210200] 103).alloc #[.int .i64 0, .int .i64 0] 50;have JU := J.out.gr gu;refine (HE1.out _ _ JU).mono ?_;rintro e w2 ⟨rfl, g2⟩;have R1 := R0.gr g2;have gw := gu.trans g2;have hsz := gw.size;have c0 := R1.cell 0;have c1 := R1.cell 1;obtain ⟨f0, f1⟩ := R1.f2;have l1 := R1.lt;simp only [getS] at c0 c1;clear R0 gu JU g2;have K := (R1.set 0 (.int .i64 re)).set 1 (.int .i64 im);have k0 := K.cell 0;have k1 := K.cell 1;simp only [List.setIfInBounds_toArray, List.set_cons_zero, List.set_cons_succ, getS] at k0 k1;go_wp2_with fail;refine bodyPost_ret (v := .agg #[re, im]) ?_ rfl ⟨rfl, ?_⟩
  ·simp [results, Tryz.f133, go_sem, k0, k1]
  ·exact (gw.setCell (a := ⟨w.heap.size + 1, 0, none⟩) (by simp) _).setCell (a := ⟨w.heap.size + 1, 1, none⟩) (by simp) _
 ·by_cases c : n < 2 * u
  ·have HE1 := kh (HE.out (2 * (n - u)) (by omega) (by omega))
   have er : (rpt n u) = (ptG (eighthZ (2 * (n - u)) log)).swap := by unfold rpt rptF; rw [if_neg a, if_pos c, eighthZ_eq, ← hn]
   rw [er];unfold Gi.swap ptG;clear er HE;generalize pt (eighthZ (2 * (n - u)) log) = s at *;obtain ⟨re, im, left⟩ := s
   simp only at HE1 ⊢
   clear hl hn;go_in
   go_wp2_with (go_at_call 38; refine (HP.out _).mono ?_; rintro e wz ⟨rfl, rfl⟩)
   have R0 := CellsAt.new (w.alloc (.cells #[.slice (some ⟨b, o, none⟩) 45 cap, .int .i64 43757185469210200] 103)) 50 #[.int .i64 0, .int .i64 0];rw [World.size_alloc] at R0;have gu := ((Gr.refl w).alloc #[.slice (some ⟨b, o, none⟩) 45 cap, .int .i64 43757185469210200] 103).alloc #[.int .i64 0, .int .i64 0] 50;have JU := J.out.gr gu;refine (HE1.out _ _ JU).mono ?_;rintro e w2 ⟨rfl, g2⟩;have R1 := R0.gr g2;have gw := gu.trans g2;have hsz := gw.size;have c0 := R1.cell 0;have c1 := R1.cell 1;obtain ⟨f0, f1⟩ := R1.f2;have l1 := R1.lt;simp only [getS] at c0 c1;clear R0 gu JU g2
   have n1 : w2.heap.size ≠ w.heap.size + 1 := by omega
   have K := ((R1.set 0 (.int .i64 im)).set 1 (.int .i64 re)).alloc (.cells #[re, im] 50);have k0 := K.cell 0;have k1 := K.cell 1;simp only [List.setIfInBounds_toArray, List.set_cons_zero, List.set_cons_succ, getS] at k0 k1;go_wp2_with fail;refine bodyPost_ret (v := .agg #[im, re]) ?_ rfl ⟨rfl, ?_⟩
   ·simp [results, Tryz.f133, go_sem, k0, k1]
   ·exact ((gw.setCell (a := ⟨w.heap.size + 1, 0, none⟩) (by simp) _).setCell (a := ⟨w.heap.size + 1, 1, none⟩) (by simp) _).alloc _ _
  ·have HE1 := kh (HE.out n (by omega) (by omega))
   have er : (rpt n u) = ⟨(ptG (eighthZ n log)).re, (ptG (eighthZ n log)).re⟩ := by unfold rpt rptF; rw [if_neg a, if_neg c, eighthZ_eq, ← hn]
   rw [er];unfold ptG;clear er HE;generalize pt (eighthZ n log) = s at *;obtain ⟨re, im, left⟩ := s
   simp only at HE1 ⊢
   clear hl hn;go_in
   go_wp2_with (go_at_call 38; refine (HP.out _).mono ?_; rintro e wz ⟨rfl, rfl⟩)
   have R0 := CellsAt.new (w.alloc (.cells #[.slice (some ⟨b, o, none⟩) 45 cap, .int .i64 43757185469210200] 103)) 50 #[.int .i64 0, .int .i64 0];rw [World.size_alloc] at R0;have gu := ((Gr.refl w).alloc #[.slice (some ⟨b, o, none⟩) 45 cap, .int .i64 43757185469210200] 103).alloc #[.int .i64 0, .int .i64 0] 50;have JU := J.out.gr gu;refine (HE1.out _ _ JU).mono ?_;rintro e w2 ⟨rfl, g2⟩;have R1 := R0.gr g2;have gw := gu.trans g2;have hsz := gw.size;have c0 := R1.cell 0;have c1 := R1.cell 1;obtain ⟨f0, f1⟩ := R1.f2;have l1 := R1.lt;simp only [getS] at c0 c1;clear R0 gu JU g2
   have n1 : w2.heap.size ≠ w.heap.size + 1 := by omega
   have K := ((R1.set 0 (.int .i64 re)).set 1 (.int .i64 re)).alloc (.cells #[re, im] 50);have k0 := K.cell 0;have k1 := K.cell 1;simp only [List.setIfInBounds_toArray, List.set_cons_zero, List.set_cons_succ, getS] at k0 k1;go_wp2_with fail;refine bodyPost_ret (v := .agg #[re, re]) ?_ rfl ⟨rfl, ?_⟩
   ·simp [results, Tryz.f133, go_sem, k0, k1]
   ·exact ((gw.setCell (a := ⟨w.heap.size + 1, 0, none⟩) (by simp) _).setCell (a := ⟨w.heap.size + 1, 1, none⟩) (by simp) _).alloc _ _
end
section
open Go.ChangeShapes Go.WideShapes Go.ChangeAt Go.RowKit
set_option linter.unusedVariables false
theorem rootOf07_c (log k n bits : Int) (l0 : 2 ≤ log) (l1 : log ≤ 6) (hn : n = 2 ^ log.toNat) (wk : -9223372036854775808 ≤ k ∧ k ≤ 9223372036854775807) (b0 : 0 ≤ bits) (b1 : bits ≤ 40) (v : Value) (w : World) (hv : IntsAt w v angL) :
 CW 78 #[.agg #[v, .int .i64 43757185469210200], log, k, bits] w (.agg #[(rootG n k (56 - bits).toNat).re, (rootG n k (56 - bits).toNat).im]) :=by
 delta CW
 have hl := len_log n log l0 l1 hn
 have hn4 : 4 ≤ n ∧ n ≤ 64 := by rcases hl with rfl | rfl | rfl | rfl | rfl <;> omega
 have hu := len_u n k hl
 have HP := kh (pow_c log (by omega) (by omega))
 rw [← hn] at HP
 have HL := kh (left07_c k n hl wk)
 have hbd := rpt_bd n _ hl hu.1 hu.2.1
 have HPt := kh fun v W (hI : IntsAt W v angL) => point07_c log (4 * (k % n) % n) n l0 l1 hn hu.1 hu.2.1 v W hI
 unfold rootG
 generalize hr : k % n = r at *
 have HL2 := kh (left07_c (4 * r) n hl (by omega))
 have HD := kh (refDiv_c (4 * r) n (by omega) (by omega))
 generalize 4 * r % n = u at *
 generalize 4 * r / n = q at *
 generalize hp : rpt n u = p at *
 have HS := kh (rsh07_c p.re p.im (56 - bits) (by omega) (by omega) (by omega) (by omega))
 have hs := And.intro (rnd_top p.re (56 - bits).toNat (by omega) (by omega) hbd.1) (rnd_top p.im (56 - bits).toNat (by omega) (by omega) hbd.2)
 have hM : (2 : Nat) ^ (56 - (56 - bits).toNat) ≤ 1099511627776 := by
  have : (2 : Nat) ^ (56 - (56 - bits).toNat) ≤ 2 ^ 40 := Nat.pow_le_pow_right (by decide) (by omega)
  omega
 have es : rsh (56 - bits).toNat p = ⟨rnd p.re (56 - bits).toNat 1, rnd p.im (56 - bits).toNat 1⟩ := rfl
 have hq : (rsh (56 - bits).toNat p).re.natAbs ≤ 1099511627776 ∧ (rsh (56 - bits).toNat p).im.natAbs ≤ 1099511627776 := by rw [es]; simp only; omega
 have HS' : CR 85 #[.agg #[p.re, p.im], .int .i64 (56 - bits), .int .i64 1] (.agg #[(rsh (56 - bits).toNat p).re, (rsh (56 - bits).toNat p).im]) := HS
 clear HS es hs hM
 generalize rsh (56 - bits).toNat p = g at *
 have HT := kh (rturn_gi g q (by omega))
 have hq2 := turn_bd q g _ hq
 generalize g.turn q = g2 at *
 have HC := kh (rconj_gi g2 (by omega))
 generalize g2.conj = g3 at *
 obtain ⟨px, py⟩ := p
 obtain ⟨gx, gy⟩ := g
 obtain ⟨hx, hy⟩ := g2
 obtain ⟨ix, iy⟩ := g3
 simp only at HPt HS' HT HC ⊢
 have J := kh hv
 obtain ⟨b, o, cap, rfl, hlen, hb, hc⟩ := same_len hv angL_ne'
 rw [angL_len] at J ⊢
 have rb : 0 ≤ r ∧ r < 64 := by omega
 have hm4 : IntKind.i64.wrap (4 * r) = 4 * r := IntWalk.i64_in _ ⟨by omega, by omega⟩
 have hm56 : IntKind.i64.wrap (56 - bits) = 56 - bits := IntWalk.i64_in _ ⟨by omega, by omega⟩
 clear hv hlen hc hb hl hbd hu hr hp hq hq2 wk hn
 go_in
 go_wp2_with (first | (go_at_call 38; refine (HP.out _).mono ?_; rintro e wz ⟨rfl, rfl⟩) | (go_at_call 132; refine (HL.out _).mono ?_; rintro e wz ⟨rfl, rfl⟩))
 have T0 := CellsAt.new w 103 #[.slice (some ⟨b, o, none⟩) 45 cap, .int .i64 43757185469210200]
 have R0 := CellsAt.new (w.alloc (.cells #[.slice (some ⟨b, o, none⟩) 45 cap, .int .i64 43757185469210200] 103)) 50 #[.int .i64 0, .int .i64 0]
 rw [World.size_alloc] at R0
 have T1 := T0.alloc (.cells #[.int .i64 0, .int .i64 0] 50)
 have gu := ((Gr.refl w).alloc #[.slice (some ⟨b, o, none⟩) 45 cap, .int .i64 43757185469210200] 103).alloc #[.int .i64 0, .int .i64 0] 50
 have hsz : w.heap.size + 1 < ((w.alloc (.cells #[.slice (some ⟨b, o, none⟩) 45 cap, .int .i64 43757185469210200] 103)).alloc (.cells #[.int .i64 0, .int .i64 0] 50)).heap.size := by simp
 generalize (w.alloc (.cells #[.slice (some ⟨b, o, none⟩) 45 cap, .int .i64 43757185469210200] 103)).alloc (.cells #[.int .i64 0, .int .i64 0] 50) = u0 at *
 obtain ⟨d0, d1⟩ := T1.t2
 have JU := kh (J.out.gr gu)
 have hBw : w.heap.size < u0.heap.size := by omega
 clear T0 T1 HP HL J
 have KS : ∀ W, Gr u0 W → (W.cell? ⟨w.heap.size, 0, none⟩ = some (.slice (some ⟨b, o, none⟩) 45 cap) ∧ W.cell? ⟨w.heap.size, 1, none⟩ = some (.int .i64 43757185469210200) ∧ Gr u0 W) := fun W hG => ⟨(hG.cell (p := ⟨w.heap.size, 0, none⟩) hBw).trans d0, (hG.cell (p := ⟨w.heap.size, 1, none⟩) hBw).trans d1, hG⟩
 go_cut [11] from 17 to 26 (fun pv wx => ∃ B : Nat, pv = .pointer (some ⟨B, 0, none⟩) ∧ u0.heap.size ≤ B ∧ CellsAt wx B 50 #[gx, gy] ∧ Gr u0 wx)
 case first =>
  go_region_held3 (fun W => W.cell? ⟨w.heap.size, 0, none⟩ = some (.slice (some ⟨b, o, none⟩) 45 cap) ∧ W.cell? ⟨w.heap.size, 1, none⟩ = some (.int .i64 43757185469210200) ∧ Gr u0 W)
   (first | ((try go_split_ands); refine KS _ ?_; (first | assumption | exact Gr.drew (Gr.refl _) | exact Gr.alloc (by assumption) _ _ | exact Gr.alloc (Gr.drew (Gr.refl _)) _ _ | exact Gr.drew (Gr.alloc (Gr.refl _) _ _) | (exact Gr.setCell (Gr.setCell (by assumption) (by exact Gr.size (by assumption)) _) (by exact Gr.size (by assumption)) _) | (exact Gr.setCell (Gr.setCell (by assumption) (by exact Nat.le_refl _) _) (by exact Nat.le_refl _) _))))
   (first | (go_at_call 132; go_split_ands; ((with_reducible refine (HL2.out _).mono ?_); rintro e w' ⟨rfl, rfl⟩)) | (go_at_call 133; go_split_ands; ((with_reducible refine (HPt.out _ _ ?_).mono ?_); (first | exact JU.out.gr (by first | assumption | exact Gr.drew (Gr.refl _) | exact Gr.alloc (by assumption) _ _ | exact Gr.alloc (Gr.drew (Gr.refl _)) _ _ | exact Gr.drew (Gr.alloc (Gr.refl _) _ _)) | skip); rintro e w' ⟨rfl, hg⟩; have hgw : Gr u0 w' := Gr.trans (by first | assumption | exact Gr.drew (Gr.refl _) | exact Gr.alloc (by assumption) _ _ | exact Gr.alloc (Gr.drew (Gr.refl _)) _ _ | exact Gr.drew (Gr.alloc (Gr.refl _) _ _)) hg; (first | (have hbk := CxBlock.gr (CxBlock.new _ _ _) hg) | (have hbk := CxBlock.gr (CxBlock.drew (CxBlock.new _ _ _)) hg) | skip))) | (go_at_call 85; go_split_ands; ((with_reducible refine (HS'.out _).mono ?_); rintro e w' ⟨rfl, hg⟩; have hgw : Gr u0 w' := Gr.trans (by first | assumption | exact Gr.drew (Gr.refl _) | exact Gr.alloc (by assumption) _ _ | exact Gr.alloc (Gr.drew (Gr.refl _)) _ _ | exact Gr.drew (Gr.alloc (Gr.refl _) _ _)) hg; (first | (have hbk := CxBlock.gr (CxBlock.new _ _ _) hg; obtain ⟨x, y, r2⟩ := hbk.out; have c0 := r2.cell 0; have c1 := r2.cell 1; have f0 := r2.frozen 0; have f1 := r2.frozen 1; simp only [getS] at c0 c1) | (have hbk := CxBlock.gr ‹CxBlock _ _› hg; obtain ⟨x, y, r2⟩ := hbk.out; have c0 := r2.cell 0; have c1 := r2.cell 1; have f0 := r2.frozen 0; have f1 := r2.frozen 1; simp only [getS] at c0 c1) | skip))))
  all_goals
   go_wp2_with fail
   go_meet
   case rel =>
    refine ⟨_, rfl, ?_, ?_, ?_⟩
    ·first | exact Nat.le_refl _ | exact Gr.size (by assumption)
    ·first | exact CellsAt.new _ _ _ | exact (CellsAt.set (CellsAt.set (by assumption) 0 _) 1 _)
    ·(try go_split_ands); assumption
 case rest =>
  obtain ⟨B, rfl, hB, hC, hG⟩ := hcut;have e0 := hC.cell 0;have e1 := hC.cell 1;have hlt := hC.lt;simp only [getS] at e0 e1
  have RB : CxBlock wc (w.heap.size + 1) := CxBlock.gr ⟨0, 0, R0⟩ hG
  have gw := gu.trans hG
  have hBr : B ≠ w.heap.size + 1 := by omega
  have hs2 : w.heap.size + 1 < wc.heap.size := Nat.lt_of_lt_of_le hsz hG.size
  clear KS HL2 HPt HS' R0 hC hG gu d0 d1 JU;go_wp2_with fail
  go_region_held3 (fun W => W.cell? ⟨B, 0, none⟩ = some (.int .i64 gx) ∧ W.cell? ⟨B, 1, none⟩ = some (.int .i64 gy) ∧ B < W.heap.size ∧ CxBlock W (w.heap.size + 1) ∧ Gr w W)
   (first | (go_split_ands; refine ⟨?_, ?_, ?_, ?_, ?_⟩; (all_goals (first | assumption | exact Gr.drew (by assumption) | exact CxBlock.drew (by assumption) | exact CxBlock.set (by assumption) _ _ | (go_keep; done) | (exact Gr.setCell (Gr.setCell (by assumption) (by simp) _) (by simp) _) | (simp; done) | (simp; assumption) | (go_simp; done) | (go_simp; assumption)))))
   (first | (go_at_call 134; go_split_ands; ((with_reducible refine (HD.out _).mono ?_); rintro e w' ⟨rfl, rfl⟩)) | (go_at_call 80; go_split_ands; ((with_reducible refine (HT.out _).mono ?_); rintro e w' ⟨rfl, hg⟩; have hgw : Gr w w' := Gr.trans (by first | assumption | exact Gr.drew (by assumption)) hg; have sz2 := Nat.lt_of_lt_of_le (by assumption : B < _) hg.size; have e0 := (hg.cell (p := ⟨B, 0, none⟩) (by assumption)).trans (by assumption); have e1 := (hg.cell (p := ⟨B, 1, none⟩) (by assumption)).trans (by assumption); have rw' : CxBlock w' (w.heap.size + 1) := CxBlock.gr (by first | assumption | exact CxBlock.drew (by assumption)) hg)) | (go_at_call 79; go_split_ands; ((with_reducible refine (HC.out _).mono ?_); rintro e w' ⟨rfl, hg⟩; have hgw : Gr w w' := Gr.trans (by first | assumption | exact Gr.drew (by assumption)) hg; have sz2 := Nat.lt_of_lt_of_le (by assumption : B < _) hg.size; have e0 := (hg.cell (p := ⟨B, 0, none⟩) (by assumption)).trans (by assumption); have e1 := (hg.cell (p := ⟨B, 1, none⟩) (by assumption)).trans (by assumption); have rw' : CxBlock w' (w.heap.size + 1) := CxBlock.gr (by first | assumption | exact CxBlock.drew (by assumption)) hg; obtain ⟨x, y, r2⟩ := rw'.out; have c0 := r2.cell 0; have c1 := r2.cell 1; have f0 := r2.frozen 0; have f1 := r2.frozen 1; simp only [getS] at c0 c1; clear r2)))
  have hw2 : Gr w w' := by assumption
  go_wp2_with fail;refine bodyPost_ret (v := .agg #[ix, iy]) ?_ rfl ⟨rfl, ?_⟩
  ·simp [results, Tryz.f78, go_sem, c0, c1]
  ·exact Gr.setCell (Gr.setCell hw2 (by simp) _) (by simp) _
end
section
open Go.ChangeShapes Go.WideShapes Go.ChangeAt Go.RowKit
set_option linter.unusedVariables false
def rootsL (n : Int) (s : Nat) : List Gi := (List.range n.toNat).map (fun k : Nat => rootG n (k : Int) s)
theorem rootsL_len (n : Int) (s : Nat) : (rootsL n s).length = n.toNat := by unfold rootsL; simp
set_option maxRecDepth 10000 in set_option maxHeartbeats 2000000 in
theorem table07_c (log n bits : Int) (l0 : 2 ≤ log) (l1 : log ≤ 6) (hn : n = 2 ^ log.toNat) (b0 : 0 ≤ bits) (b1 : bits ≤ 40) (w : World) :
 Calls Tryz.prog 41 #[log, bits] w fun e w' => ∃ v, e = .returned v ∧ CxsAt w' v (rootsL n (56 - bits).toNat) ∧ Gr w w' := by
 have hl := len_log n log l0 l1 hn
 have hn4 : 4 ≤ n ∧ n ≤ 64 := by rcases hl with rfl | rfl | rfl | rfl | rfl <;> omega
 have HP := kh (pow_c log (by omega) (by omega))
 rw [← hn] at HP
 have HE := kh fun (k : Nat) (hk : k < 64) v W (hI : IntsAt W v angL) => rootOf07_c log k n bits l0 l1 hn (by omega) b0 b1 v W hI
 have HA := kh all05_new
 clear l0 l1 hn b0 b1 hl
 generalize (56 - bits).toNat = s at *
 obtain ⟨i0, hi, hz0, hz1, hz2⟩ := info_parts info_cx
 go_in
 go_wp2_with fail
 have hs0 : ((w.alloc (.cells #[] 50)).ownsRow w.heap.size 50 2 (.slice (some ⟨w.heap.size, 0, none⟩) 0 0) 0 []) := World.ownsRow_made w #[] 0 (Nat.le_refl _) (by unfold maxLen; omega) (by simp)
 refine (HA.out _).mono ?_
 rintro e w1 ⟨v, rfl, hI, g1, hfr⟩
 have hs1 := ownsRow_gr hs0 g1
 have gw1 := ((Gr.refl w).alloc #[] 50).trans g1
 have hfr2 : v.ownBlock ≠ some w.heap.size := by
  intro e
  have := hfr _ e
  simp at this
  omega
 obtain ⟨b, o, cap, rfl, hlen, _⟩ := same_len hI angL_ne'
 have hb : b ≠ w.heap.size := by intro e; exact hfr2 (by rw [← e]; rfl)
 rw [angL_len] at hI ⊢
 have T0 := CellsAt.new w1 103 #[.slice (some ⟨b, o, none⟩) 45 cap, .int .i64 43757185469210200]
 have hs2 := hs1.alloc (.cells #[.slice (some ⟨b, o, none⟩) 45 cap, .int .i64 43757185469210200] 103)
 have gw2 := gw1.alloc #[.slice (some ⟨b, o, none⟩) 45 cap, .int .i64 43757185469210200] 103
 have hI2 := hI.gr ((Gr.refl w1).alloc #[.slice (some ⟨b, o, none⟩) 45 cap, .int .i64 43757185469210200] 103)
 have hw1 : w.heap.size < w1.heap.size := by have := g1.size; simp at this; omega
 clear hI hs0 hs1 gw1 g1 hfr hfr2 hlen
 go_wp2_with fail
 generalize w1.alloc (.cells #[.slice (some ⟨b, o, none⟩) 45 cap, .int .i64 43757185469210200] 103) = u1 at *
 generalize w1.heap.size = BT at *
 have hN : (n.toNat : Int) = n := by omega
 go_loopw [5, 7] (fun v i wr => ∃ j : Nat, j ≤ n.toNat ∧ i = .int .i64 j ∧ wr.ownsRow w.heap.size 50 2 v j (gcells ((List.range j).map (fun k : Nat => rootG n (k : Int) s))) ∧ v.ownBlock ≠ some b ∧ v.ownBlock ≠ some BT ∧ CellsAt wr BT 103 #[.slice (some ⟨b, o, none⟩) 45 cap, .int .i64 43757185469210200] ∧ IntsAt wr (.slice (some ⟨b, o, none⟩) 45 cap) angL ∧ Gr w wr)
  (fun _ i _ => n.toNat - (intOf i).toNat)
 case atStart => exact ⟨0, by omega, rfl, hs2, by simp [Value.ownBlock]; omega, by simp [Value.ownBlock]; omega, T0, hI2, gw2⟩
 case round =>
  clear hs2 T0 hI2 gw2;obtain ⟨j, hj, rfl, hrow, hnb, hnT, hT, hI, hg⟩ := hrel
  by_cases hlt : j < n.toNat
  ·have hjn : (j : Int) < n := by omega
   have HE1 := kh (HE.out j (by omega));obtain ⟨c0, c1⟩ := hT.t2
   have er : (List.range (j + 1)).map (fun k : Nat => rootG n (k : Int) s) = (List.range j).map (fun k : Nat => rootG n (k : Int) s) ++ [rootG n (j : Int) s] := by rw [List.range_succ, List.map_append]; rfl
   have ER := kh er;clear er;generalize rootG n (j : Int) s = g at *;obtain ⟨re, im⟩ := g
   go_wp2_with (go_at_call 38; refine (HP.out _).mono ?_; rintro e wz ⟨rfl, rfl⟩)
   refine (HE1.out _ _ hI).mono ?_;rintro e wq ⟨rfl, hgq⟩;have hrow2 := ownsRow_gr hrow hgq;have hsz := hg.size;have hsq := hgq.size;have hg2 := hg.trans hgq;have hT2 := hT.gr hgq;have hI2 := hI.gr hgq
   have hbl : b < wq.heap.size := by rcases hI2 with ⟨h, _⟩ | ⟨_, _, _, h, _, _, hb, _⟩; cases h; cases h; exact hb
   have hTl := hT2.lt;clear hrow hg hgq HE1 c0 c1 hI hT
   go_wp2_with (at_builtin; refine wpList_append_own_at _ rfl (.tmp 16) (.tmp 22) 25 rfl w.heap.size 50 i0 (.agg #[.int .i64 0, .int .i64 0]) 2 16 Tryz.underlying25 hi hz0 hz1 hz2 rfl (by decide) _ _ _ rfl (hrow2.alloc _) ⟨wq.heap.size, 0, none⟩ 1 1 [.int .i64 re, .int .i64 im] rfl rfl (news_two _ _ _ _) (by simp [Value.oneCell']) (by unfold maxLen; omega) (by omega) (by simp; omega) ?_; intro v' w3 hown' hgrow _ hblk)
   have e : gcells ((List.range j).map (fun k : Nat => rootG n (k : Int) s)) ++ [.int .i64 re, .int .i64 im] = gcells ((List.range (j + 1)).map (fun k : Nat => rootG n (k : Int) s)) := by
    rw [ER.out, gcells_snoc]
   rw [e] at hown';have hg3 := (hg2.allocO _).grown hgrow (fun k e => (hrow2.lt k e).1);have hT3 := (hT2.alloc _).grown hgrow (fun e => hnT e.symm);have hI3 := (hI2.gr ((Gr.refl wq).alloc #[re, im] 50)).grown hgrow (fun b' e1 e2 => by cases e1; exact hnb e2.symm)
   go_roundw
   case rel => exact ⟨j + 1, by omega, by go_num, hown', by rcases hblk with h | h <;> rw [h]; exact hnb; simp; omega, by rcases hblk with h | h <;> rw [h]; exact hnT; simp; omega, hT3, hI3, hg3⟩
   case measure => simp [intOf]; omega
  ·have he : j = n.toNat := by omega
   have hjn : n ≤ (j : Int) := by omega
   go_wp2_with (go_at_call 38; refine (HP.out _).mono ?_; rintro e wz ⟨rfl, rfl⟩)
   go_ret
   refine ⟨_, rfl, ?_, hg⟩
   have := CxsAt.of_row hrow
   rw [he] at this
   exact this
end
section
open Go.ChangeShapes Go.WideShapes Go.ChangeAt Go.RowKit
set_option linter.unusedVariables false
set_option maxRecDepth 100000
set_option maxHeartbeats 16000000
structure PlF (fo b p lo ke sc mo : Int) (L n B : Nat) : Prop where
 fb : FB fo b p
 ok : okF fo lo ke sc mo = true
 lo : lo = L
 n : n = 2 ^ L
 bits : b = B + 2
section
variable {fo b p lo ke sc mo : Int} {L n B : Nat}
theorem PlF.lens (H : PlF fo b p lo ke sc mo L n B) : (2 ≤ L ∧ L ≤ 6) ∧ (4 ≤ n ∧ n ≤ 64) ∧ IsLen (n : Int) := by
 have h := okF_iff.1 H.ok
 have hl := H.lo
 have hL : L = 2 ∨ L = 3 ∨ L = 4 ∨ L = 5 ∨ L = 6 := by omega
 have hn := H.n
 unfold IsLen
 rcases hL with rfl | rfl | rfl | rfl | rfl <;> simp only [Nat.reducePow] at hn <;> omega
theorem PlF.kinds (H : PlF fo b p lo ke sc mo L n B) : (mo = 0 ∨ mo = 1 ∨ mo = 2) ∧ (sc = 0 ∨ sc = 1 ∨ sc = 2) ∧ (ke = 2 → sc = 0) ∧ 0 ≤ ke ∧ ke < 3 := by
 have h := okF_iff.1 H.ok
 refine ⟨by omega, by omega, h.2, by omega, by omega⟩
theorem PlF.sizes (H : PlF fo b p lo ke sc mo L n B) : (fo = 0 ∧ b = 15 ∧ p = 32768 ∧ B = 13) ∨ (fo = 1 ∧ b = 31 ∧ p = 2147483648 ∧ B = 29) := by
 have h := H.bits
 rcases H.fb with ⟨h1, h2, h3⟩ | ⟨h1, h2, h3⟩
 ·left; exact ⟨h1, h2, h3, by omega⟩
 ·right; exact ⟨h1, h2, h3, by omega⟩
end
def tw (n B : Nat) : List Gi := rootsL n (56 - B)
theorem tw_eq (n B : Nat) : tw n B = (List.range n).map fun k : Nat => rootG n k (56 - B) := by unfold tw rootsL; rw [Int.toNat_natCast]
theorem tw_len (n B : Nat) : (tw n B).length = n := by rw [tw_eq]; simp
theorem shOf_bd (sc k p : Int) (xs : List Gi) : 0 ≤ shOf sc k p xs ∧ shOf sc k p xs ≤ 3 := by
 unfold shOf preOf
 repeat' split
 all_goals omega
theorem flip_mem {L : Nat} {xs : List Gi} (h : xs.length = 2 ^ L) {a : Gi} (ha : a ∈ flipL L xs) : a ∈ xs := by
 unfold flipL at ha
 obtain ⟨k, hk, rfl⟩ := List.mem_map.1 ha
 exact getD_mem xs _ (by rw [h]; exact fl_lt L k)
theorem rnd_one (x p : Int) (mo : Int) (hm : mo = 0 ∨ mo = 1 ∨ mo = 2) (h0 : -(2 * p) ≤ x) (h1 : x ≤ 2 * p) : -p ≤ rnd x 1 mo ∧ rnd x 1 mo ≤ p := by
 have e1 := rnd_mul p 1 mo hm
 have e2 := rnd_mul (-p) 1 mo hm
 have a := rnd_mono x (p * 2 ^ 1) 1 mo hm (by omega)
 have b := rnd_mono (-p * 2 ^ 1) x 1 mo hm (by omega)
 rw [e1] at a
 rw [e2] at b
 exact ⟨b, a⟩
theorem rnd_none (x : Int) (mo : Int) (hm : mo = 0 ∨ mo = 1 ∨ mo = 2) : rnd x 0 mo = x := by
 have := rnd_mul x 0 mo hm
 simpa using this
theorem upR_bd (x m q : Int) (r : Nat) (hx : absI x ≤ m) (hm : m * 2 ^ r ≤ q) : -q ≤ x * 2 ^ r ∧ x * 2 ^ r ≤ q := by
 have hp : (0 : Int) < 2 ^ r := Int.pow_pos (by decide)
 have h1 : x ≤ m := by unfold absI at hx; split at hx <;> omega
 have h2 : -x ≤ m := by unfold absI at hx; split at hx <;> omega
 have a := Int.mul_le_mul_of_nonneg_right h1 (Int.le_of_lt hp)
 have b := Int.mul_le_mul_of_nonneg_right h2 (Int.le_of_lt hp)
 rw [Int.neg_mul] at b
 omega
section
variable {fo b p lo ke sc mo : Int} {L n B : Nat} {xs : List Gi}
theorem ready_part (H : PlF fo b p lo ke sc mo L n B) (hm : ManB p xs) (a : Gi) (ha : a ∈ xs) :
 ((-p ≤ (shG (atFirst sc p xs) mo a).re ∧ (shG (atFirst sc p xs) mo a).re ≤ p - 1) ∧ (-p ≤ (shG (atFirst sc p xs) mo a).im ∧ (shG (atFirst sc p xs) mo a).im ≤ p - 1)) ∧
 (sc = 0 → ((-(p / 2) ≤ (shG (atFirst sc p xs) mo a).re ∧ (shG (atFirst sc p xs) mo a).re ≤ p / 2) ∧ (-(p / 2) ≤ (shG (atFirst sc p xs) mo a).im ∧ (shG (atFirst sc p xs) mo a).im ≤ p / 2))) := by
 obtain ⟨hmo, hsc, _⟩ := H.kinds
 have hp : p = 2 * (p / 2) ∧ 4 ≤ p := by rcases H.sizes with h | h <;> omega
 have h := hm a ha
 unfold atFirst
 rcases hsc with rfl | rfl | rfl
 ·rw [if_pos rfl]
  have e1 := rnd_one a.re (p / 2) mo hmo (by omega) (by omega);have e2 := rnd_one a.im (p / 2) mo hmo (by omega) (by omega);unfold shG;rw [if_pos (by decide)];simp only [show (1 : Int).toNat = 1 from rfl]
  exact ⟨by omega, fun _ => by omega⟩
 ·rw [if_neg (by decide), if_pos rfl]
  refine ⟨?_, fun h => absurd h (by decide)⟩
  by_cases hr : room p (maxG xs) = 0
  ·rw [hr]
   simp only [shG, Int.natCast_zero, Int.neg_zero, Int.le_refl, if_true, Int.toNat_zero, rnd_none _ mo hmo]
   exact h
  ·have hf := (room_fits p (maxG xs) (by omega)).2
   have hg := maxG_ge xs a ha;have u1 := upR_bd a.re (maxG xs) (p / 2) _ hg.1 hf;have u2 := upR_bd a.im (maxG xs) (p / 2) _ hg.2 hf;unfold shG;rw [if_neg (by omega)];simp only [Int.neg_neg, Int.toNat_natCast]
   omega
 ·rw [if_neg (by decide), if_neg (by decide)]
  refine ⟨?_, fun h => absurd h (by decide)⟩;simp only [shG, Int.le_refl, if_true, Int.toNat_zero, rnd_none _ mo hmo]
  exact h
theorem ready_mem (H : PlF fo b p lo ke sc mo L n B) (hl : xs.length = n) {y : Gi} (hy : y ∈ (readyB ke sc mo p L xs).X) : ∃ a ∈ xs, y = shG (atFirst sc p xs) mo a := by
 obtain ⟨a, ha, rfl⟩ := List.mem_map.1 hy
 refine ⟨a, ?_, rfl⟩
 split at ha
 ·exact ha
 ·exact flip_mem (by rw [hl, H.n]) ha
theorem ready_man (H : PlF fo b p lo ke sc mo L n B) (hl : xs.length = n) (hm : ManB p xs) : ManB p (readyB ke sc mo p L xs).X := by
 intro y hy
 obtain ⟨a, ha, rfl⟩ := ready_mem H hl hy
 exact (ready_part H hm a ha).1
theorem ready_len (H : PlF fo b p lo ke sc mo L n B) (hl : xs.length = n) : (readyB ke sc mo p L xs).X.length = n := by
 unfold readyB
 rw [List.length_map]
 split
 ·exact hl
 ·rw [flipL_len, H.n]
theorem sqR_le (x q : Int) (h0 : -q ≤ x) (h1 : x ≤ q) : x * x ≤ q * q := by
 have a : 0 ≤ (q - x) * (q + x) := Int.mul_nonneg (by omega) (by omega)
 have e : (q - x) * (q + x) = q * q - x * x := by grind
 omega
theorem ready_half (H : PlF fo b p lo ke sc mo L n B) (hs : sc = 0) (hl : xs.length = n) (hm : ManB p xs) : AllN (2 * ((p / 2) * (p / 2))) (readyB ke sc mo p L xs).X := by
 intro y hy
 obtain ⟨a, ha, rfl⟩ := ready_mem H hl hy
 have h := (ready_part H hm a ha).2 hs
 have e1 := sqR_le _ _ h.1.1 h.1.2
 have e2 := sqR_le _ _ h.2.1 h.2.2
 unfold nq
 omega
theorem behind_X (hs : sc ≠ 2) (iv : Bool) (ws : List Gi) : ∀ (l : List Gi) (b0 : BV), (l.foldl (nextB sc mo p iv B ws) b0).X = l.foldl (stepV sc p B mo iv ws) b0.X
 | [], b0 => rfl
 | q :: l, b0 => by
   rw [List.foldl_cons, List.foldl_cons, behind_X hs iv ws l];simp only [nextB, if_neg hs]
theorem next_len (iv : Bool) (ws : List Gi) (b0 : BV) (q : Gi) : (nextB sc mo p iv B ws b0 q).X.length = b0.X.length := by
 unfold nextB stepV
 split
 ·rw [List.length_map, passV_len]
 ·exact passV_len _ _ _ _ _ _ _
theorem bd_man {p : Int} {ys : List Gi} (h : ∀ y ∈ ys, Bd (p - 1) y) : ManB p ys := by
 intro y hy
 have := bd_iff.1 (h y hy)
 omega
theorem man_bd {p : Int} {ys : List Gi} (h : ManB p ys) : ∀ y ∈ ys, Bd p y := by
 intro y hy
 have := h y hy
 exact bd_iff.2 (by omega)
theorem block_man (H : PlF fo b p lo ke sc mo L n B) (hs : sc = 1) (iv : Bool) {ys : List Gi} (hl : ys.length = n) (hm : ManB p ys) (q : Gi) (hq : Fits n q) : ManB p (stepV sc p B mo iv (tw n B) ys q) := by
 obtain ⟨hmo, _⟩ := H.kinds
 obtain ⟨_, h4, hlen⟩ := H.lens
 subst hs
 rw [tw_eq]
 rcases H.sizes with ⟨_, _, rfl, rfl⟩ | ⟨_, _, rfl, rfl⟩
 ·exact bd_man (stepV_fits15 n hlen mo iv hmo ys q hq hl (man_bd hm))
 ·exact bd_man (stepV_fits31 n hlen mo iv hmo ys q hq hl (man_bd hm))
theorem behind_man (H : PlF fo b p lo ke sc mo L n B) (iv : Bool) (hl : xs.length = n) (hm : ManB p xs) : ∀ j, j ≤ (passL ke lo).length → (behindB ke lo sc mo p iv L B (tw n B) xs j).X.length = n ∧ ManB p (behindB ke lo sc mo p iv L B (tw n B) xs j).X := by
 obtain ⟨hmo, hsc, _, k0, k1⟩ := H.kinds
 obtain ⟨⟨l2, l6⟩, h4, hlen⟩ := H.lens
 have hlo := H.lo
 have hfit : ∀ q ∈ passL ke lo, Fits n q := by
  have := passL_fits ke lo k0 k1 (by omega) (by omega)
  rw [H.n];rw [show lo.toNat = L by omega] at this
  exact this
 have h6 : (passL ke lo).length ≤ 6 := by
  have hk : ke = 0 ∨ ke = 1 ∨ ke = 2 := by omega
  have hl : lo = 2 ∨ lo = 3 ∨ lo = 4 ∨ lo = 5 ∨ lo = 6 := by omega
  rcases hk with rfl | rfl | rfl <;> rcases hl with rfl | rfl | rfl | rfl | rfl <;> decide +kernel
 have hlens : ∀ j, j ≤ (passL ke lo).length → (behindB ke lo sc mo p iv L B (tw n B) xs j).X.length = n := by
  intro j
  induction j with
  | zero => intro _; exact ready_len H hl
  | succ j ih =>
    intro hj
    obtain ⟨q, hq⟩ := get_of_lt (show j < (passL ke lo).length by omega);rw [behindB_next hq, next_len]
    exact ih (by omega)
 intro j hj
 refine ⟨hlens j hj, ?_⟩
 rcases hsc with rfl | rfl | rfl
 ·
  have hr := ready_half H rfl hl hm
  have e : (behindB ke lo 0 mo p iv L B (tw n B) xs j).X = ((passL ke lo).take j).foldl (stepV 0 p B mo iv (tw n B)) (readyB ke 0 mo p L xs).X := behind_X (by decide) iv (tw n B) _ _
  have hk : ∀ q ∈ (passL ke lo).take j, q.re = 2 ∨ q.re = 4 := fun q hq => (hfit q (List.mem_of_mem_take hq)).1
  have hc : ((passL ke lo).take j).length ≤ 6 := by rw [List.length_take]; omega
  rw [e, tw_eq]
  rcases H.sizes with ⟨_, _, rfl, rfl⟩ | ⟨_, _, rfl, rfl⟩
  ·have := runV_half15 n hlen mo iv hmo ((passL ke lo).take j) _ _ hk hr (by decide) (by omega)
   exact fun y hy => by
    have hy := nq_in15 y (Int.le_trans (this y hy) (by omega))
    omega
  ·have := runV_half31 n hlen mo iv hmo ((passL ke lo).take j) _ _ hk hr (by decide) (by omega)
   exact fun y hy => by
    have hy := nq_in31 y (Int.le_trans (this y hy) (by omega))
    omega
 ·induction j with
  | zero => exact ready_man H hl hm
  | succ j ih =>
    obtain ⟨q, hq⟩ := get_of_lt (show j < (passL ke lo).length by omega);rw [behindB_next hq];simp only [nextB, show ¬ ((1 : Int) = 2) by decide, if_false]
    exact block_man H rfl iv (hlens j (by omega)) (ih (by omega)) q (hfit q (List.mem_of_getElem? hq))
 ·cases j with
  | zero => exact ready_man H hl hm
  | succ j =>
    obtain ⟨q, hq⟩ := get_of_lt (show j < (passL ke lo).length by omega);rw [behindB_next hq];simp only [nextB, if_true]
    exact manB_clamp (by rcases H.sizes with h | h <;> omega) _
end
end
section
set_option linter.unusedVariables false
set_option linter.unusedSimpArgs false
set_option maxRecDepth 100000
set_option maxHeartbeats 16000000
def untG (T : Nat) (mo : Int) (a b w : Gi) : Gi := grnd (T + 2) mo (gadd (gscale T (gadd a b)) (gmul (Gi.turn (-1) (gsub a b)) w))
theorem turn_back (a : Gi) : Gi.turn (-1) a = ⟨a.im, -a.re⟩ := by unfold Gi.turn; simp
def packG (rs : List Int) : List Gi := (List.range (rs.length / 2)).map fun j => ⟨rs.getD (2 * j) 0, rs.getD (2 * j + 1) 0⟩
theorem packG_len (rs : List Int) : (packG rs).length = rs.length / 2 := by simp [packG]
def untAt (T : Nat) (mo : Int) (X ws : List Gi) (k : Nat) : Gi := untG T mo (X.getD (k % X.length) ⟨0, 0⟩) (X.getD ((X.length - k) % X.length) ⟨0, 0⟩).conj (ws.getD k ⟨0, 0⟩)
def untL (T : Nat) (mo : Int) (X ws : List Gi) : List Gi := (List.range (X.length + 1)).map (untAt T mo X ws)
theorem untL_len (T : Nat) (mo : Int) (X ws : List Gi) : (untL T mo X ws).length = X.length + 1 := by simp [untL]
end
end Go.Proofs.YtdignnmpfkgkoaaGreat
