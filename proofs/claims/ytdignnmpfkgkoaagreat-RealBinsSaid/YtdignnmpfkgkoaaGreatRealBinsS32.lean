import Derived.Test.YtdignnmpfkgkoaaGreatRealBinsS31
namespace Go.Proofs.YtdignnmpfkgkoaaGreat
set_option maxHeartbeats 16000000
section
open Go.ChangeShapes Go.WideShapes Go.ChangeAt Go.RowKit
set_option linter.unusedVariables false
set_option maxRecDepth 100000
set_option maxHeartbeats 16000000
theorem mayBe07_yes (log b : Int) (h0 : 2 ≤ log) (h1 : log ≤ 6) (b0 : 0 ≤ b) (b1 : b ≤ 40) (w : World) :
 Calls Tryz.prog 156 #[log, b] w fun e w' => e = .returned (.bool true) ∧ w' = w := by
 go_in
 go_wp2_with fail
 go_ret
 exact ⟨rfl, rfl⟩
theorem rEighth_c (k log : Int) (h0 : 0 ≤ log) (h1 : log ≤ 6) (k0 : 0 ≤ k) (k1 : k ≤ 2 ^ log.toNat) (w : World) :
 CW 210 #[k, log] w (.agg #[(ptG (eighthZ k log)).re, (ptG (eighthZ k log)).im]) :=by
 delta CW
 have HE := kh (eighth_ok k log h0 h1 k0 k1)
 unfold EiIs at HE
 unfold ptG
 clear h0 h1 k0 k1
 generalize pt (eighthZ k log) = s at *
 obtain ⟨re, im, left⟩ := s
 simp only at HE ⊢
 go_in
 go_wp2_with fail
 have R0 := CellsAt.new w 50 #[.int .i64 0, .int .i64 0]
 have gw0 := (Gr.refl w).alloc #[.int .i64 0, .int .i64 0] 50
 refine (HE.out _).mono ?_
 rintro e w1 ⟨rfl, g1⟩
 have R1 := (R0.gr g1).alloc (.cells #[re, im] 50)
 have gw1 := gw0.trans g1
 have hsz := gw1.size
 have gw2 := gw1.alloc #[re, im] 50
 obtain ⟨c0, c1⟩ := R1.t2
 obtain ⟨f0, f1⟩ := R1.f2
 clear R0 gw0 g1 gw1
 go_wp2_with fail
 refine bodyPost_ret (v := .agg #[re, im]) ?_ rfl ⟨rfl, ?_⟩
 ·simp [results, Tryz.f210, go_sem, c0, c1]
 ·exact (gw2.setCell (a := ⟨w.heap.size, 0, none⟩) (by simp) _).setCell (a := ⟨w.heap.size, 1, none⟩) (by simp) _
theorem rPoint_c (log u n : Int) (l0 : 2 ≤ log) (l1 : log ≤ 6) (hn : n = 2 ^ log.toNat) (u0 : 0 ≤ u) (u1 : u < n) (w : World) :
 CW 188 #[u, log] w (.agg #[(rpt n u).re, (rpt n u).im]) :=by
 delta CW
 have hl := len_log n log l0 l1 hn
 have hn4 : 4 ≤ n ∧ n ≤ 64 := by rcases hl with rfl | rfl | rfl | rfl | rfl <;> omega
 have HE := kh fun (j : Int) (j0 : 0 ≤ j) (j1 : j ≤ n) => rEighth_c j log (by omega) l1 j0 (by rw [← hn]; exact j1)
 have he := hn.symm
 have hw2 : IntKind.i64.wrap n = n := IntWalk.i64_in _ ⟨by omega, by omega⟩
 by_cases a : 2 * u < n
 ·have HE1 := kh (HE.out (2 * u) (by omega) (by omega))
  have er : (rpt n u) = ptG (eighthZ (2 * u) log) := by unfold rpt rptF; rw [if_pos a, eighthZ_eq, ← hn]
  rw [er];clear er HE;generalize ptG (eighthZ (2 * u) log) = s at *;obtain ⟨re, im⟩ := s
  simp only at HE1 ⊢
  clear hl hn;go_in;go_wp2_with fail;have R0 := CellsAt.new w 50 #[.int .i64 0, .int .i64 0];have gw0 := (Gr.refl w).alloc #[.int .i64 0, .int .i64 0] 50;refine (HE1.out _).mono ?_;rintro e w2 ⟨rfl, g2⟩;have R1 := R0.gr g2;have gw := gw0.trans g2;have hsz := gw.size;obtain ⟨c0, c1⟩ := R1.t2;obtain ⟨f0, f1⟩ := R1.f2;clear R0 gw0 g2;go_wp2_with fail;refine bodyPost_ret (v := .agg #[re, im]) ?_ rfl ⟨rfl, ?_⟩
  ·simp [results, Tryz.f188, go_sem, c0, c1]
  ·exact (gw.setCell (a := ⟨w.heap.size, 0, none⟩) (by simp) _).setCell (a := ⟨w.heap.size, 1, none⟩) (by simp) _
 ·by_cases b : n < 2 * u
  ·have HE1 := kh (HE.out (2 * (n - u)) (by omega) (by omega))
   have er : (rpt n u) = (ptG (eighthZ (2 * (n - u)) log)).swap := by unfold rpt rptF; rw [if_neg a, if_pos b, eighthZ_eq, ← hn]
   rw [er];clear er HE;generalize ptG (eighthZ (2 * (n - u)) log) = s at *;obtain ⟨re, im⟩ := s;simp only [Gi.swap] at HE1 ⊢;clear hl hn;go_in;go_wp2_with fail;have R0 := CellsAt.new w 50 #[.int .i64 0, .int .i64 0];have gw0 := (Gr.refl w).alloc #[.int .i64 0, .int .i64 0] 50;refine (HE1.out _).mono ?_;rintro e w2 ⟨rfl, g2⟩;have R1 := (R0.gr g2).alloc (.cells #[re, im] 50);have gw := gw0.trans g2;have hsz := gw.size;have gw3 := gw.alloc #[re, im] 50;obtain ⟨c0, c1⟩ := R1.t2;obtain ⟨f0, f1⟩ := R1.f2;clear R0 gw0 g2 gw;go_wp2_with fail;refine bodyPost_ret (v := .agg #[im, re]) ?_ rfl ⟨rfl, ?_⟩
   ·simp [results, Tryz.f188, go_sem, c0, c1]
   ·exact (gw3.setCell (a := ⟨w.heap.size, 0, none⟩) (by simp) _).setCell (a := ⟨w.heap.size, 1, none⟩) (by simp) _
  ·have HE1 := kh (HE.out n (by omega) (by omega))
   have er : (rpt n u) = ⟨(ptG (eighthZ n log)).re, (ptG (eighthZ n log)).re⟩ := by unfold rpt rptF; rw [if_neg a, if_neg b, eighthZ_eq, ← hn]
   rw [er];clear er HE;generalize ptG (eighthZ n log) = s at *;obtain ⟨re, im⟩ := s
   simp only at HE1 ⊢
   clear hl hn;go_in;go_wp2_with fail;have R0 := CellsAt.new w 50 #[.int .i64 0, .int .i64 0];have gw0 := (Gr.refl w).alloc #[.int .i64 0, .int .i64 0] 50;refine (HE1.out _).mono ?_;rintro e w2 ⟨rfl, g2⟩;have R1 := R0.gr g2;have gw := gw0.trans g2;have hsz := gw.size;obtain ⟨c0, c1⟩ := R1.t2;obtain ⟨f0, f1⟩ := R1.f2;clear R0 gw0 g2 HE1 a b u0 u1 he hw2 hn4 l0 l1
   have hfr : ∀ W, (Instr.field 50 (.agg #[re, im]) 0).run Tryz.prog W = .ok (.int .i64 re) W := field_Re re im
   go_wp2_with fail;refine bodyPost_ret (v := .agg #[re, re]) ?_ rfl ⟨rfl, ?_⟩
   ·simp [results, Tryz.f188, go_sem, c0, c1]
   ·exact (gw.setCell (a := ⟨w.heap.size, 0, none⟩) (by simp) _).setCell (a := ⟨w.heap.size, 1, none⟩) (by simp) _
theorem rRootOf_c (log k n bt : Int) (l0 : 2 ≤ log) (l1 : log ≤ 6) (hn : n = 2 ^ log.toNat) (b0 : 0 ≤ bt) (b1 : bt ≤ 40) (w : World) :
 CW 158 #[log, k, bt] w (.agg #[(rootG n k (56 - bt).toNat).re, (rootG n k (56 - bt).toNat).im]) :=by
 delta CW
 have hl := len_log n log l0 l1 hn
 have hn4 : 4 ≤ n ∧ n ≤ 64 := by rcases hl with rfl | rfl | rfl | rfl | rfl <;> omega
 have hu := len_u n k hl
 have hbd := rpt_bd n _ hl hu.1 hu.2.1
 have HPt := kh (rPoint_c log (4 * (k % n) % n) n l0 l1 hn hu.1 hu.2.1)
 have hand : bits .and .i64 k (n - 1) = k % n := by rw [hn]; exact bits_mask k log.toNat (by omega)
 unfold rootG
 generalize hr : k % n = r at *
 have hrem : (4 * r).tmod n = 4 * r % n := Int.tmod_eq_emod_of_nonneg (by omega)
 have hquo : (4 * r).tdiv n = 4 * r / n := Int.tdiv_eq_ediv_of_nonneg (by omega)
 have hz : ¬ n = 0 := by omega
 have hz2 : (n == 0) = false := by simp; omega
 have hq4 : 0 ≤ 4 * r / n ∧ 4 * r / n < 4 := ⟨hu.2.2.1, hu.2.2.2.1⟩
 generalize 4 * r % n = u at *
 generalize 4 * r / n = q at *
 generalize hp : rpt n u = p at *
 have HS := kh (cxshift_ok p.re p.im (56 - bt) 1 (by omega) (by omega) (by omega) (by omega) (by omega) (by omega))
 have hs := And.intro (rnd_top p.re (56 - bt).toNat (by omega) (by omega) hbd.1) (rnd_top p.im (56 - bt).toNat (by omega) (by omega) hbd.2)
 have hM : (2 : Nat) ^ (56 - (56 - bt).toNat) ≤ 1099511627776 := by
  have : (2 : Nat) ^ (56 - (56 - bt).toNat) ≤ 2 ^ 40 := Nat.pow_le_pow_right (by decide) (by omega)
  omega
 have es : rsh (56 - bt).toNat p = ⟨rnd p.re (56 - bt).toNat 1, rnd p.im (56 - bt).toNat 1⟩ := rfl
 have hq : (rsh (56 - bt).toNat p).re.natAbs ≤ 1099511627776 ∧ (rsh (56 - bt).toNat p).im.natAbs ≤ 1099511627776 := by rw [es]; simp only; omega
 have HS' : CR 129 #[.agg #[p.re, p.im], .int .i64 (56 - bt), .int .i64 1] (.tuple #[.agg #[(rsh (56 - bt).toNat p).re, (rsh (56 - bt).toNat p).im], .int .i64 0]) := HS
 clear HS es hs hM
 generalize rsh (56 - bt).toNat p = g at *
 have HT := kh (cxturn_gi g q (by omega))
 have hq2 := turn_bd q g _ hq
 generalize g.turn q = g2 at *
 have HC := kh (cxconj_gi g2 (by omega))
 generalize g2.conj = g3 at *
 obtain ⟨px, py⟩ := p
 obtain ⟨gx, gy⟩ := g
 obtain ⟨hx, hy⟩ := g2
 obtain ⟨ix, iy⟩ := g3
 simp only at HPt HS' HT HC ⊢
 have rb : 0 ≤ r ∧ r < 64 := by omega
 have hm4 : IntKind.i64.wrap (4 * r) = 4 * r := IntWalk.i64_in _ ⟨by omega, by omega⟩
 have hm56 : IntKind.i64.wrap (56 - bt) = 56 - bt := IntWalk.i64_in _ ⟨by omega, by omega⟩
 have hn1 : IntKind.i64.wrap (n - 1) = n - 1 := IntWalk.i64_in _ ⟨by omega, by omega⟩
 have hw2 : IntKind.i64.wrap n = n := IntWalk.i64_in _ ⟨by omega, by omega⟩
 have he := hn.symm
 have hwq : IntKind.i64.wrap q = q := IntWalk.i64_in _ ⟨by omega, by omega⟩
 have HQ := kh hquo
 clear hl hbd hu hr hp hq hq2 hn hquo
 go_in
 go_wp2_with fail
 have R0 := CellsAt.new w 50 #[.int .i64 0, .int .i64 0]
 have gw0 := (Gr.refl w).alloc #[.int .i64 0, .int .i64 0] 50
 refine (HPt.out _).mono ?_
 rintro e w1 ⟨rfl, g1⟩
 have R1 := (R0.gr g1).alloc (.cells #[px, py] 50)
 have P1 := CellsAt.new w1 50 #[px, py]
 have gw1 := (gw0.trans g1).alloc #[px, py] 50
 have hlt : w.heap.size < w1.heap.size := by have := g1.size; simp at this; omega
 have hsz1 : w1.heap.size < (w1.alloc (.cells #[px, py] 50)).heap.size := by simp
 clear R0 gw0 g1 HPt hand hrem hn1 hw2 he
 go_wp2_with fail
 generalize w1.alloc (.cells #[px, py] 50) = u1 at *
 generalize w1.heap.size = B at *
 refine (HS'.out _).mono ?_
 rintro e w2 ⟨rfl, g2⟩
 have R2 := ((R1.gr g2).other (B' := B) (by omega) 0 (.int .i64 gx)).other (B' := B) (by omega) 1 (.int .i64 gy)
 have P2' := P1.gr g2
 have p0 := P2'.cell 0
 have p1 := P2'.cell 1
 obtain ⟨pf0, pf1⟩ := P2'.f2
 have P2 := (P2'.set 0 (.int .i64 gx)).set 1 (.int .i64 gy)
 have gw2 := ((gw1.trans g2).setCell (a := ⟨B, 0, none⟩) (by simp; omega) (.int .i64 gx)).setCell (a := ⟨B, 1, none⟩) (by simp; omega) (.int .i64 gy)
 simp only [getS, List.setIfInBounds_toArray, List.set_cons_zero, List.set_cons_succ] at p0 p1 P2
 clear R1 P1 gw1 g2 P2' HS' hm56
 go_wp2_with fail
 generalize (w2.setCell ⟨B, 0, none⟩ (.int .i64 gx)).setCell ⟨B, 1, none⟩ (.int .i64 gy) = u2 at *
 have q0 := P2.cell 0
 have q1 := P2.cell 1
 have ql := P2.lt
 simp only [getS] at q0 q1
 have hquo := HQ.out
 clear hsz1 hn4 rb hq4
 refine wp_region_held_drew (S := fun _ => True) rfl trivial (fun hS => ?_)
 refine hT 1 ?_
 refine hT 2 ?_
 refine hT 3 ?_
 refine hT 4 ?_
 refine hR 0 fun K hK => ?_
 go_simp
 refine hK.out _ _ ?_ (fun hHeld => ?_)
 ·(trivial)
 clear hK K
 try simp only [Act.put, putS]
 refine hR 5 fun K hK => ?_
 go_simp
 refine (HT.out _).mono ?_
 rintro e w3 ⟨rfl, g3⟩
 refine hK.out _ _ ?_ (fun hHeld => ?_)
 ·(trivial)
 clear hK K
 try simp only [Act.put, putS]
 refine hT 6 ?_
 refine hT 7 ?_
 refine hT 8 ?_
 have R3 := R2.gr ((Gr.refl u2).drew.trans g3)
 have P3' := P2.gr ((Gr.refl u2).drew.trans g3)
 have gw3' := gw2.trans ((Gr.refl u2).drew.trans g3)
 have s0 := P3'.cell 0
 have s1 := P3'.cell 1
 obtain ⟨sf0, sf1⟩ := P3'.f2
 have R4 := (R3.other (B' := B) (by omega) 0 (.int .i64 hx)).other (B' := B) (by omega) 1 (.int .i64 hy)
 have P4 := (P3'.set 0 (.int .i64 hx)).set 1 (.int .i64 hy)
 have gw4 := (gw3'.setCell (a := ⟨B, 0, none⟩) (by simp; omega) (.int .i64 hx)).setCell (a := ⟨B, 1, none⟩) (by simp; omega) (.int .i64 hy)
 simp only [getS, List.setIfInBounds_toArray, List.set_cons_zero, List.set_cons_succ] at s0 s1 P4
 clear R2 P2 gw2 R3 P3' gw3' q0 q1 ql
 refine hR 9 fun K hK => ?_
 go_simp
 refine hK.out _ _ ?_ (fun hHeld => ?_)
 ·(trivial)
 clear hK K
 try simp only [Act.put, putS]
 refine wpAnyH_done (by kernel_rfl) ?_ _
 generalize (w3.setCell ⟨B, 0, none⟩ (.int .i64 hx)).setCell ⟨B, 1, none⟩ (.int .i64 hy) = u4 at *
 have v0 := P4.cell 0
 have v1 := P4.cell 1
 have vl := P4.lt
 simp only [getS] at v0 v1
 clear hHeld s0 s1 sf0 sf1 HT hz hz2 hwq HQ hm4 p0 p1 pf0 pf1 hquo g3
 go_wp2_with fail
 refine (HC.out _).mono ?_
 rintro e w5 ⟨rfl, g5⟩
 have R5' := R4.gr g5
 have P5' := P4.gr g5
 have gw5' := gw4.trans g5
 have s0 := P5'.cell 0
 have s1 := P5'.cell 1
 obtain ⟨sf0, sf1⟩ := P5'.f2
 have R5 := (R5'.other (B' := B) (by omega) 0 (.int .i64 ix)).other (B' := B) (by omega) 1 (.int .i64 iy)
 have P5 := (P5'.set 0 (.int .i64 ix)).set 1 (.int .i64 iy)
 have gw5 := (gw5'.setCell (a := ⟨B, 0, none⟩) (by simp; omega) (.int .i64 ix)).setCell (a := ⟨B, 1, none⟩) (by simp; omega) (.int .i64 iy)
 simp only [getS, List.setIfInBounds_toArray, List.set_cons_zero, List.set_cons_succ] at s0 s1 P5
 have k0 := P5.cell 0
 have k1 := P5.cell 1
 have c0 := R5.cell 0
 have c1 := R5.cell 1
 obtain ⟨f0, f1⟩ := R5.f2
 have kl := P5'.lt
 simp only [getS] at k0 k1 c0 c1
 clear R4 P4 gw4 R5' P5' gw5' R5 P5 HC v0 v1 vl g5
 go_wp2_with fail
 refine bodyPost_ret (v := .agg #[ix, iy]) ?_ rfl ⟨rfl, ?_⟩
 ·simp [results, Tryz.f158, go_sem, c0, c1]
 ·exact (gw5.setCell (a := ⟨w.heap.size, 0, none⟩) (by simp) _).setCell (a := ⟨w.heap.size, 1, none⟩) (by simp) _
theorem rRoot_ok (log k n bt : Int) (l0 : 2 ≤ log) (l1 : log ≤ 6) (hn : n = 2 ^ log.toNat) (b0 : 0 ≤ bt) (b1 : bt ≤ 40) (w : World) :
 CW 124 #[log, k, bt] w (.tuple #[.agg #[(rootG n k (56 - bt).toNat).re, (rootG n k (56 - bt).toNat).im], .int .i64 0]) :=by
 delta CW
 have HM := kh (mayBe07_yes log bt l0 l1 b0 b1)
 have HR := kh (rRootOf_c log k n bt l0 l1 hn b0 b1)
 clear l0 l1 hn b0 b1
 generalize rootG n k (56 - bt).toNat = s at *
 obtain ⟨re, im⟩ := s
 simp only at HR ⊢
 go_in
 go_wp2_with (go_at_call 156; refine (HM.out _).mono ?_; rintro e wz ⟨rfl, rfl⟩)
 have R0 := CellsAt.new w 50 #[.int .i64 0, .int .i64 0]
 have gw0 := (Gr.refl w).alloc #[.int .i64 0, .int .i64 0] 50
 refine (HR.out _).mono ?_
 rintro e w1 ⟨rfl, g1⟩
 have R1 := R0.gr g1
 have gw := gw0.trans g1
 have hsz := gw.size
 obtain ⟨c0, c1⟩ := R1.t2
 obtain ⟨f0, f1⟩ := R1.f2
 clear R0 gw0 g1
 go_wp2_with fail
 refine bodyPost_ret (v := .tuple #[.agg #[re, im], .int .i64 0]) ?_ rfl ⟨rfl, ?_⟩
 ·simp [results, Tryz.f124, go_sem, c0, c1]
 ·exact (gw.setCell (a := ⟨w.heap.size, 0, none⟩) (by simp) _).setCell (a := ⟨w.heap.size, 1, none⟩) (by simp) _
theorem rTable1_c (p q : Nat) (log k n bt : Int) (l0 : 2 ≤ log) (l1 : log ≤ 6) (hn : n = 2 ^ log.toNat) (b0 : 0 ≤ bt) (b1 : bt ≤ 40) (w : World)
 (c0 : w.cell? ⟨p, 0, none⟩ = some (.int .i64 log)) (c1 : w.cell? ⟨q, 0, none⟩ = some (.int .i64 bt)) (lp : p < w.heap.size) (lq : q < w.heap.size) :
 CW 157 #[k, .pointer (some ⟨p, 0, none⟩), .pointer (some ⟨q, 0, none⟩)] w (.agg #[(rootG n k (56 - bt).toNat).re, (rootG n k (56 - bt).toNat).im]) :=by
 delta CW
 have HR := kh (rRootOf_c log k n bt l0 l1 hn b0 b1)
 clear l0 l1 hn b0 b1
 generalize rootG n k (56 - bt).toNat = s at *
 obtain ⟨re, im⟩ := s
 simp only at HR ⊢
 go_in
 go_wp2_with fail
 have R0 := CellsAt.new w 50 #[.int .i64 0, .int .i64 0]
 have gw0 := (Gr.refl w).alloc #[.int .i64 0, .int .i64 0] 50
 refine (HR.out _).mono ?_
 rintro e w1 ⟨rfl, g1⟩
 have R1 := R0.gr g1
 have gw := gw0.trans g1
 have hsz := gw.size
 obtain ⟨d0, d1⟩ := R1.t2
 obtain ⟨f0, f1⟩ := R1.f2
 clear R0 gw0 g1 c0 c1
 go_wp2_with fail
 refine bodyPost_ret (v := .agg #[re, im]) ?_ rfl ⟨rfl, ?_⟩
 ·simp [results, Tryz.f157, go_sem, d0, d1]
 ·exact (gw.setCell (a := ⟨w.heap.size, 0, none⟩) (by simp) _).setCell (a := ⟨w.heap.size, 1, none⟩) (by simp) _
theorem rGathered_c (p q : Nat) (log n bt : Int) (l0 : 2 ≤ log) (l1 : log ≤ 6) (hn : n = 2 ^ log.toNat) (b0 : 0 ≤ bt) (b1 : bt ≤ 40) (w : World)
 (c0 : w.cell? ⟨p, 0, none⟩ = some (.int .i64 log)) (c1 : w.cell? ⟨q, 0, none⟩ = some (.int .i64 bt)) (lp : p < w.heap.size) (lq : q < w.heap.size) :
 Calls Tryz.prog 159 #[n, .func (.func 157) #[] #[.pointer (some ⟨p, 0, none⟩), .pointer (some ⟨q, 0, none⟩)]] w fun e w' => ∃ v, e = .returned v ∧ CxsAt w' v (rootsL n (56 - bt).toNat) ∧ Gr w w' := by
 have hl := len_log n log l0 l1 hn
 have hn4 : 4 ≤ n ∧ n ≤ 64 := by rcases hl with rfl | rfl | rfl | rfl | rfl <;> omega
 obtain ⟨N, hN⟩ : ∃ N : Nat, (N : Int) = n := ⟨n.toNat, by omega⟩
 have HF := kh fun (k : Int) W (gv : Gr w W) => rTable1_c p q log k n bt l0 l1 hn b0 b1 W ((gv.cell (p := ⟨p, 0, none⟩) lp).trans c0) ((gv.cell (p := ⟨q, 0, none⟩) lq).trans c1) (Nat.lt_of_lt_of_le lp gv.size) (Nat.lt_of_lt_of_le lq gv.size)
 have hmk := run_make_cx N (by omega)
 have hrl : rootsL n (56 - bt).toNat = (List.range N).map (fun k : Nat => rootG n (k : Int) (56 - bt).toNat) := by unfold rootsL; rw [← hN, Int.toNat_natCast]
 rw [hrl]
 clear hl l0 l1 hn b0 b1 c0 c1 hrl
 generalize (56 - bt).toNat = s at *
 rw [hN] at hmk
 go_in
 go_wp2_with fail
 have M0 := CellsAt.new w 50 (madeCells #[.int .i64 0, .int .i64 0] (N * 2))
 have M1 := size_madeCells #[.int .i64 0, .int .i64 0] (N * 2)
 go_loopw [6, 11] (fun _ i wr => ∃ k : Nat, ∃ c : Array Value, k ≤ N ∧ i = .int .i64 k ∧ CellsAt wr w.heap.size 50 c ∧ c.size = N * 2 ∧ (∀ j, j < k → c[j * 2]? = some (.int .i64 (rootG n (j : Int) s).re) ∧ c[j * 2 + 1]? = some (.int .i64 (rootG n (j : Int) s).im)) ∧ Gr w wr)
  (fun _ i _ => N - (intOf i).toNat)
 case atStart => exact ⟨0, _, by omega, rfl, M0, M1, fun j hj => absurd hj (Nat.not_lt_zero _), (Gr.refl _).alloc _ _⟩
 case round =>
  clear M0 M1 hmk;obtain ⟨k, c, hk, rfl, hC, hs, hj, hg⟩ := hrel
  by_cases hlt : k < N
  ·have HA := kh (HF.out k)
   have HS := kh hs;have HJ := kh hj;clear hs hj;generalize hgg : rootG n (k : Int) s = g at *;have HG := kh hgg;clear hgg;obtain ⟨re, im⟩ := g
   simp only at HA
   go_wp2_with fail;refine (HA.out _ hg).mono ?_;rintro e w2 ⟨rfl, hg2⟩;have hC2 := hC.gr hg2;have f2 := hC2.frozen (k * 2);have f3 := hC2.frozen (k * 2 + 1);have q2 := hC2.cell (k * 2);have q3 := hC2.cell (k * 2 + 1);have hg3 := hg.trans hg2;rw [Array.getElem?_eq_getElem (show k * 2 < c.size by rw [HS.out]; omega)] at q2;rw [Array.getElem?_eq_getElem (show k * 2 + 1 < c.size by rw [HS.out]; omega)] at q3;have hBl := hC2.lt;clear hC hg2 hg HA;go_wp2_with fail;have hC3 := (hC2.set (k * 2) (.int .i64 re)).set (k * 2 + 1) (.int .i64 im);have hg4 := (hg3.setCell (a := ⟨w.heap.size, k * 2, none⟩) (by simp) (.int .i64 re)).setCell (a := ⟨w.heap.size, k * 2 + 1, none⟩) (by simp) (.int .i64 im)
   go_roundw
   case rel =>
    refine ⟨k + 1, _, by omega, by go_num, hC3, by simpa using HS.out, fun j hj => ?_, hg4⟩
    by_cases e : j = k
    ·subst e
     rw [HG.out]
     constructor
     ·rw [Array.getElem?_setIfInBounds, if_neg (by omega), Array.getElem?_setIfInBounds, if_pos rfl, if_pos (by rw [HS.out]; omega)]
     ·rw [Array.getElem?_setIfInBounds, if_pos rfl, if_pos (by simp only [Array.size_setIfInBounds]; rw [HS.out]; omega)]
    ·have := HJ.out j (by omega)
     constructor
     ·rw [Array.getElem?_setIfInBounds, if_neg (by omega), Array.getElem?_setIfInBounds, if_neg (by omega)]
      exact this.1
     ·rw [Array.getElem?_setIfInBounds, if_neg (by omega), Array.getElem?_setIfInBounds, if_neg (by omega)]
      exact this.2
   case measure => simp [intOf]; omega
  ·have he : k = N := by omega
   subst he;go_wp2_with fail
   go_ret
   refine ⟨_, rfl, ?_, hg⟩;refine ⟨some ⟨w.heap.size, 0, none⟩, k, by simp, by simp, by unfold maxLen; omega, fun _ => ⟨w.heap.size, 0, rfl, hC.lt, fun j x hx => ?_⟩⟩;rw [List.getElem?_map] at hx;obtain ⟨j', hj', rfl⟩ := Option.map_eq_some_iff.1 hx;obtain ⟨hjl, rfl⟩ := List.getElem?_eq_some_iff.1 hj';simp only [List.length_range] at hjl
   have := hj j hjl
   rw [hC.cell, hC.cell, Nat.zero_add]
   simpa using this
theorem rTable_ok (log n bt : Int) (l0 : 2 ≤ log) (l1 : log ≤ 6) (hn : n = 2 ^ log.toNat) (b0 : 0 ≤ bt) (b1 : bt ≤ 40) (w : World) :
 Calls Tryz.prog 115 #[log, bt] w fun e w' => ∃ v, e = .returned (.tuple #[v, .int .i64 0]) ∧ CxsAt w' v (rootsL n (56 - bt).toNat) ∧ Gr w w' := by
 have HM := kh (mayBe07_yes log bt l0 l1 b0 b1)
 have HG := kh fun p q W => rGathered_c p q log n bt l0 l1 hn b0 b1 W
 have hl := len_log n log l0 l1 hn
 have hn4 : 4 ≤ n ∧ n ≤ 64 := by rcases hl with rfl | rfl | rfl | rfl | rfl <;> omega
 have he := hn.symm
 have hw2 : IntKind.i64.wrap n = n := IntWalk.i64_in _ ⟨by omega, by omega⟩
 clear hl hn b0 b1
 generalize rootsL n (56 - bt).toNat = xs at *
 go_in
 go_wp2_with (go_at_call 156; refine (HM.out _).mono ?_; rintro e wz ⟨rfl, rfl⟩)
 refine (HG.out _ _ _ ?_ ?_ ?_ ?_).mono ?_
 ·exact ((CellsAt.new w 3 #[log]).alloc _).cell 0
 ·have := (CellsAt.new (w.alloc (.cells #[log] 3)) 3 #[bt]).cell 0
  rw [World.size_alloc] at this
  exact this
 ·simp; omega
 ·simp
 rintro e w1 ⟨v, rfl, hx, g1⟩
 go_wp2_with fail
 go_ret2
 exact ⟨v, rfl, hx, (((Gr.refl w).alloc _ _).alloc _ _).trans g1⟩
theorem rTwiddles_ok (log n f b p : Int) (l0 : 2 ≤ log) (l1 : log ≤ 6) (hn : n = 2 ^ log.toNat) (H : FB f b p) (w : World) :
 Calls Tryz.prog 113 #[log, f] w fun e w' => ∃ v, e = .returned (.tuple #[v, .int .i64 0]) ∧ CxsAt w' v (rootsL n (56 - (b - 2)).toNat) ∧ Gr w w' := by
 have HB := kh (bits_c f b p H)
 have hb : 15 ≤ b ∧ b ≤ 31 := by rcases H with ⟨_, rfl, _⟩ | ⟨_, rfl, _⟩ <;> omega
 have HT := kh (rTable_ok log n (b - 2) l0 l1 hn (by omega) (by omega))
 clear l0 l1 hn H
 generalize rootsL n (56 - (b - 2)).toNat = xs at *
 go_in
 go_wp2_with (go_at_call 58; refine (HB.out _).mono ?_; rintro e wz ⟨rfl, rfl⟩)
 refine (HT.out _).mono ?_
 rintro e w1 ⟨v, rfl, hx, g1⟩
 go_wp2_with fail
 go_ret2
 exact ⟨v, rfl, hx, g1⟩
end
section
open Go.ChangeShapes Go.WideShapes Go.ChangeAt Go.RowKit
set_option linter.unusedVariables false
set_option linter.unusedSimpArgs false
set_option maxRecDepth 100000
set_option maxHeartbeats 16000000
theorem len_start (a : Gi) (l R : Int) (h : 2 * (l * l) ≤ R * R) (hl : 0 ≤ l) (ha : absI a.re ≤ l ∧ absI a.im ≤ l) : Len R a := by
 unfold Len
 have key : ∀ x, absI x ≤ l → x * x ≤ l * l := by
  intro x hx
  have := Int.mul_le_mul hx hx (absI_nonneg x) hl
  refine Int.le_trans (Int.le_of_eq ?_) this;unfold absI
  split
  ·rw [Int.neg_mul_neg]
  ·rfl
 have h1 := key _ ha.1
 have h2 := key _ ha.2
 omega
theorem sRun_ok_15 (px : Option Addr) (cx n L : Nat) (mo : Int) (inv : Bool) (xs : List Gi) (hl : xs.length = n) (hL : IsLog (n : Int) L) (m0 : 0 ≤ mo) (m1 : mo ≤ 2) (hx : allIn 16384 xs = true) (w : World) (vx : CxsAt w (.slice px n cx) xs) :
 Calls Tryz.prog 111 #[.slice px n cx, .int .i64 0, mo, inv] w fun e w' => ∃ v, e = .returned (.tuple #[v, .int .i64 0]) ∧ CxsAt w' v (sL 13 mo inv (rootsL n (56 - 13)) L xs) ∧ Gr w w' := by
 have HL := kh (log08_yes n L hL)
 have HB := kh (bits_c 0 15 32768 (by unfold FB; omega))
 have HM := kh (sMayBe_yes 13 mo inv (by unfold SetsOk3; omega))
 have HW := kh fun W (v : CxsAt W (.slice px n cx) xs) => sWithin_c (.slice px n cx) xs 16384 (by omega) (by omega) W v
 rw [hx] at HW
 obtain ⟨l0, l1, hn⟩ := hL
 have hn2 : n = 2 ^ L := by exact Int.ofNat.inj hn
 have hnl : (n : Int) = 2 ^ (L : Int).toNat := by rw [hn2, Int.toNat_natCast]; simp
 have hN : IsLen n := len_log n L (by omega) (by omega) hnl
 have HT := kh (rTwiddles_ok L n 0 15 32768 (by omega) (by omega) hnl (by unfold FB; omega))
 rw [show (56 - ((15 : Int) - 2)).toNat = 56 - 13 from rfl] at HT
 have hall := (allIn_iff 16384 xs).1 hx
 have HTR := kh fun pw cw W (v1 : CxsAt W (.slice px n cx) xs) (v2 : CxsAt W (.slice pw n cw) (rootsL n (56 - 13))) => sTransform_c 13 mo inv (rootsL n (56 - 13)) L n l1 hn2 (by rw [rootsL_len]; omega) (by omega) m0 m1
  (fun k => roots_len n hN 13 (by omega) (by omega) inv k) (fun k hk => roots_in n hN 13 (by omega) (by omega) k (by omega)) 23171 (by omega) (by decide) pw cw L (Nat.le_refl _) xs px cx W (by rw [hl, hn2])
  (fun j hj => by
   have hjl : j < xs.length := by rw [hl, hn2]; exact hj
   rw [List.getD_eq_getElem?_getD, List.getElem?_eq_getElem hjl];have h := hall _ (List.getElem_mem hjl)
   exact len_start _ 16384 23171 (by decide) (by omega) h) (by rw [← hn2]; exact v1) v2
 rw [← hn2] at HTR
 clear l0 l1 hn hN hnl hall hx m0 m1 hn2 hl
 generalize sL 13 mo inv (rootsL n (56 - 13)) L xs = RL at *
 have hwl := rootsL_len n (56 - 13)
 generalize rootsL n (56 - 13) = ws at *
 go_in
 go_wp2_with (first | (go_at_call 34; refine (HL.out _).mono ?_; rintro e wz ⟨rfl, hwz⟩; subst wz) | (go_at_call 58; refine (HB.out _).mono ?_; rintro e wz ⟨rfl, hwz⟩; subst wz))
 have R0 := CellsAt.new w 181 #[.int .i64 13, mo, inv]
 refine (HM.out _).mono ?_
 rintro e w1 ⟨rfl, g1⟩
 have R1 := R0.gr g1
 have g1' := Gr.trans ((Gr.refl w).alloc _ _) g1
 have vx1 := vx.gr g1'
 clear R0 g1
 go_wp2_with fail
 refine (HW.out _ vx1).mono ?_
 rintro e w2 ⟨rfl, g2⟩
 have R2 := R1.gr g2
 have vx2 := vx1.gr g2
 have z2 := g1'.trans g2
 clear R1 g2 g1' vx1 vx
 go_wp2_with fail
 refine (HT.out _).mono ?_
 rintro e w3 ⟨v3, rfl, hv3, g3⟩
 obtain ⟨pw, cw, hvw⟩ := hv3.len
 rw [hwl, Int.toNat_natCast] at hvw
 subst hvw
 have R3 := R2.gr g3
 have vx3 := vx2.gr g3
 have z3 := z2.trans g3
 obtain ⟨c0, c1, c2⟩ := R3.t3
 have lR := R3.lt
 clear R2 vx2 z2 g3
 go_wp2_with fail
 refine (HTR.out pw cw _ vx3 hv3).mono ?_
 rintro e w4 ⟨v4, rfl, hv4, g4⟩
 go_wp2_with fail
 go_ret2
 exact ⟨_, rfl, hv4, z3.trans g4⟩
theorem sRun_ok_31 (px : Option Addr) (cx n L : Nat) (mo : Int) (inv : Bool) (xs : List Gi) (hl : xs.length = n) (hL : IsLog (n : Int) L) (m0 : 0 ≤ mo) (m1 : mo ≤ 2) (hx : allIn 1073741824 xs = true) (w : World) (vx : CxsAt w (.slice px n cx) xs) :
 Calls Tryz.prog 111 #[.slice px n cx, .int .i64 1, mo, inv] w fun e w' => ∃ v, e = .returned (.tuple #[v, .int .i64 0]) ∧ CxsAt w' v (sL 29 mo inv (rootsL n (56 - 29)) L xs) ∧ Gr w w' := by
 have HL := kh (log08_yes n L hL)
 have HB := kh (bits_c 1 31 2147483648 (by unfold FB; omega))
 have HM := kh (sMayBe_yes 29 mo inv (by unfold SetsOk3; omega))
 have HW := kh fun W (v : CxsAt W (.slice px n cx) xs) => sWithin_c (.slice px n cx) xs 1073741824 (by omega) (by omega) W v
 rw [hx] at HW
 obtain ⟨l0, l1, hn⟩ := hL
 have hn2 : n = 2 ^ L := by exact Int.ofNat.inj hn
 have hnl : (n : Int) = 2 ^ (L : Int).toNat := by rw [hn2, Int.toNat_natCast]; simp
 have hN : IsLen n := len_log n L (by omega) (by omega) hnl
 have HT := kh (rTwiddles_ok L n 1 31 2147483648 (by omega) (by omega) hnl (by unfold FB; omega))
 rw [show (56 - ((31 : Int) - 2)).toNat = 56 - 29 from rfl] at HT
 have hall := (allIn_iff 1073741824 xs).1 hx
 have HTR := kh fun pw cw W (v1 : CxsAt W (.slice px n cx) xs) (v2 : CxsAt W (.slice pw n cw) (rootsL n (56 - 29))) => sTransform_c 29 mo inv (rootsL n (56 - 29)) L n l1 hn2 (by rw [rootsL_len]; omega) (by omega) m0 m1
  (fun k => roots_len n hN 29 (by omega) (by omega) inv k) (fun k hk => roots_in n hN 29 (by omega) (by omega) k (by omega)) 1518500250 (by omega) (by decide) pw cw L (Nat.le_refl _) xs px cx W (by rw [hl, hn2])
  (fun j hj => by
   have hjl : j < xs.length := by rw [hl, hn2]; exact hj
   rw [List.getD_eq_getElem?_getD, List.getElem?_eq_getElem hjl];have h := hall _ (List.getElem_mem hjl)
   exact len_start _ 1073741824 1518500250 (by decide) (by omega) h) (by rw [← hn2]; exact v1) v2
 rw [← hn2] at HTR
 clear l0 l1 hn hN hnl hall hx m0 m1 hn2 hl
 generalize sL 29 mo inv (rootsL n (56 - 29)) L xs = RL at *
 have hwl := rootsL_len n (56 - 29)
 generalize rootsL n (56 - 29) = ws at *
 go_in
 go_wp2_with (first | (go_at_call 34; refine (HL.out _).mono ?_; rintro e wz ⟨rfl, hwz⟩; subst wz) | (go_at_call 58; refine (HB.out _).mono ?_; rintro e wz ⟨rfl, hwz⟩; subst wz))
 have R0 := CellsAt.new w 181 #[.int .i64 29, mo, inv]
 refine (HM.out _).mono ?_
 rintro e w1 ⟨rfl, g1⟩
 have R1 := R0.gr g1
 have g1' := Gr.trans ((Gr.refl w).alloc _ _) g1
 have vx1 := vx.gr g1'
 clear R0 g1
 go_wp2_with fail
 refine (HW.out _ vx1).mono ?_
 rintro e w2 ⟨rfl, g2⟩
 have R2 := R1.gr g2
 have vx2 := vx1.gr g2
 have z2 := g1'.trans g2
 clear R1 g2 g1' vx1 vx
 go_wp2_with fail
 refine (HT.out _).mono ?_
 rintro e w3 ⟨v3, rfl, hv3, g3⟩
 obtain ⟨pw, cw, hvw⟩ := hv3.len
 rw [hwl, Int.toNat_natCast] at hvw
 subst hvw
 have R3 := R2.gr g3
 have vx3 := vx2.gr g3
 have z3 := z2.trans g3
 obtain ⟨c0, c1, c2⟩ := R3.t3
 have lR := R3.lt
 clear R2 vx2 z2 g3
 go_wp2_with fail
 refine (HTR.out pw cw _ vx3 hv3).mono ?_
 rintro e w4 ⟨v4, rfl, hv4, g4⟩
 go_wp2_with fail
 go_ret2
 exact ⟨_, rfl, hv4, z3.trans g4⟩
inductive RunNo (n : Nat) (f mo : Int) (xs : List Gi) : Int → Prop where
 | size (h : ¬ ∃ L, IsLog (n : Int) L) : RunNo n f mo xs 3
 | arg (h : ∃ L, IsLog (n : Int) L) (k : (f < 0 ∨ 1 < f) ∨ mo < 0 ∨ 2 < mo) : RunNo n f mo xs 1
 | range (h : ∃ L, IsLog (n : Int) L) (lim b p : Int) (H : FB f b p) (hl : lim = p / 2) (m0 : 0 ≤ mo) (m1 : mo ≤ 2) (k : allIn lim xs = false) : RunNo n f mo xs 2
def RunYes (n : Nat) (f mo : Int) (xs : List Gi) (L B : Nat) : Prop := IsLog (n : Int) L ∧ (0 ≤ mo ∧ mo ≤ 2) ∧ ((f = 0 ∧ B = 13 ∧ allIn 16384 xs = true) ∨ (f = 1 ∧ B = 29 ∧ allIn 1073741824 xs = true))
theorem RunNo.pos {n : Nat} {f mo : Int} {xs : List Gi} {e : Int} (h : RunNo n f mo xs e) : e = 1 ∨ e = 2 ∨ e = 3 := by cases h <;> simp
theorem sRun_yes (px : Option Addr) (cx n : Nat) (f mo : Int) (inv : Bool) (xs : List Gi) (L B : Nat) (hl : xs.length = n) (h : RunYes n f mo xs L B) (w : World) (vx : CxsAt w (.slice px n cx) xs) :
 Calls Tryz.prog 111 #[.slice px n cx, f, mo, inv] w fun e w' => ∃ v, e = .returned (.tuple #[v, .int .i64 0]) ∧ CxsAt w' v (sL B mo inv (rootsL n (56 - B)) L xs) ∧ Gr w w' := by
 obtain ⟨hL, ⟨m0, m1⟩, ⟨rfl, rfl, hx⟩ | ⟨rfl, rfl, hx⟩⟩ := h
 ·exact sRun_ok_15 px cx n L mo inv xs hl hL m0 m1 hx w vx
 ·exact sRun_ok_31 px cx n L mo inv xs hl hL m0 m1 hx w vx
end
end Go.Proofs.YtdignnmpfkgkoaaGreat
