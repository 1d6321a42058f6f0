import Derived.Test.YtcgeabpibkejpaaGreatNearTellsS18
import Derived.Test.YtcgeabpibkejpaaGreatNearTellsS19
namespace Go.Proofs.YtcgeabpibkejpaaGreat
section
open Go.ChangeShapes Go.WideShapes Go.ChangeAt Go.RowKit
set_option linter.unusedVariables false
set_option maxRecDepth 100000
theorem mayBe07_yes (log b : Int) (h0 : 2 ≤ log) (h1 : log ≤ 6) (b0 : 0 ≤ b) (b1 : b ≤ 40) (w : World) :
 Calls Tryz.prog 125 #[.int .i64 log, .int .i64 b] w fun e w' => e = .returned (.bool true) ∧ w' = w := by
 go_enter Tryz.func125, Tryz.ntmps125
 go_wp2_with fail
 go_ret
 exact ⟨rfl, rfl⟩
theorem rEighth_c (k log : Int) (h0 : 0 ≤ log) (h1 : log ≤ 6) (k0 : 0 ≤ k) (k1 : k ≤ 2 ^ log.toNat) (w : World) :
 Calls Tryz.prog 181 #[.int .i64 k, .int .i64 log] w fun e w' => e = .returned (.agg #[.int .i64 (ptG (eighthZ k log)).re, .int .i64 (ptG (eighthZ k log)).im]) ∧ Gr w w' := by
 have HE := Lib.hid (eighth_ok k log h0 h1 k0 k1)
 unfold EiIs at HE
 unfold ptG
 clear h0 h1 k0 k1
 generalize pt (eighthZ k log) = s at *
 obtain ⟨re, im, left⟩ := s
 simp only at HE ⊢
 go_enter Tryz.func181, Tryz.ntmps181
 go_wp2_with fail
 have R0 := CellsAt.new w 58 #[.int .i64 0, .int .i64 0]
 have gw0 := (Gr.refl w).alloc #[.int .i64 0, .int .i64 0] 58
 refine (HE.out _).mono ?_
 rintro e w1 ⟨rfl, g1⟩
 have R1 := (R0.gr g1).alloc (.cells #[.int .i64 re, .int .i64 im] 58)
 have gw1 := gw0.trans g1
 have hsz := gw1.size
 have gw2 := gw1.alloc #[.int .i64 re, .int .i64 im] 58
 have c0 := R1.cell 0
 have c1 := R1.cell 1
 have f0 := R1.frozen 0
 have f1 := R1.frozen 1
 simp only [getS] at c0 c1
 clear R0 gw0 g1 gw1
 go_wp2_with fail
 refine bodyPost_ret (v := .agg #[.int .i64 re, .int .i64 im]) ?_ rfl ⟨rfl, ?_⟩
 ·simp [results, Tryz.f181, go_sem, c0, c1]
 ·exact (gw2.setCell (a := ⟨w.heap.size, 0, none⟩) (by simp) _).setCell (a := ⟨w.heap.size, 1, none⟩) (by simp) _
set_option maxHeartbeats 4000000 in
theorem rPoint_c (log u n : Int) (l0 : 2 ≤ log) (l1 : log ≤ 6) (hn : n = 2 ^ log.toNat) (u0 : 0 ≤ u) (u1 : u < n) (w : World) :
 Calls Tryz.prog 157 #[.int .i64 u, .int .i64 log] w fun e w' => e = .returned (.agg #[.int .i64 (rpt n u).re, .int .i64 (rpt n u).im]) ∧ Gr w w' := by
 have hl := len_log n log l0 l1 hn
 have hn4 : 4 ≤ n ∧ n ≤ 64 := by rcases hl with rfl | rfl | rfl | rfl | rfl <;> omega
 have HE := Lib.hid fun (j : Int) (j0 : 0 ≤ j) (j1 : j ≤ n) => rEighth_c j log (by omega) l1 j0 (by rw [← hn]; exact j1)
 have he := hn.symm
 have hw2 : IntKind.i64.wrap n = n := IntWalk.i64_in _ ⟨by omega, by omega⟩
 by_cases a : 2 * u < n
 ·have HE1 := Lib.hid (HE.out (2 * u) (by omega) (by omega))
  have er : (rpt n u) = ptG (eighthZ (2 * u) log) := by unfold rpt rptF; rw [if_pos a, eighthZ_eq, ← hn]
  rw [er]
  clear er HE
  generalize ptG (eighthZ (2 * u) log) = s at *
  obtain ⟨re, im⟩ := s
  simp only at HE1 ⊢
  clear hl hn
  go_enter Tryz.func157, Tryz.ntmps157
  go_wp2_with fail
  have R0 := CellsAt.new w 58 #[.int .i64 0, .int .i64 0]
  have gw0 := (Gr.refl w).alloc #[.int .i64 0, .int .i64 0] 58
  refine (HE1.out _).mono ?_
  rintro e w2 ⟨rfl, g2⟩
  have R1 := R0.gr g2
  have gw := gw0.trans g2
  have hsz := gw.size
  have c0 := R1.cell 0
  have c1 := R1.cell 1
  have f0 := R1.frozen 0
  have f1 := R1.frozen 1
  simp only [getS] at c0 c1
  clear R0 gw0 g2
  go_wp2_with fail
  refine bodyPost_ret (v := .agg #[.int .i64 re, .int .i64 im]) ?_ rfl ⟨rfl, ?_⟩
  ·simp [results, Tryz.f157, go_sem, c0, c1]
  ·exact (gw.setCell (a := ⟨w.heap.size, 0, none⟩) (by simp) _).setCell (a := ⟨w.heap.size, 1, none⟩) (by simp) _
 ·by_cases b : n < 2 * u
  ·have HE1 := Lib.hid (HE.out (2 * (n - u)) (by omega) (by omega))
   have er : (rpt n u) = (ptG (eighthZ (2 * (n - u)) log)).swap := by unfold rpt rptF; rw [if_neg a, if_pos b, eighthZ_eq, ← hn]
   rw [er]
   clear er HE
   generalize ptG (eighthZ (2 * (n - u)) log) = s at *
   obtain ⟨re, im⟩ := s
   simp only [Gi.swap] at HE1 ⊢
   clear hl hn
   go_enter Tryz.func157, Tryz.ntmps157
   go_wp2_with fail
   have R0 := CellsAt.new w 58 #[.int .i64 0, .int .i64 0]
   have gw0 := (Gr.refl w).alloc #[.int .i64 0, .int .i64 0] 58
   refine (HE1.out _).mono ?_
   rintro e w2 ⟨rfl, g2⟩
   have R1 := (R0.gr g2).alloc (.cells #[.int .i64 re, .int .i64 im] 58)
   have gw := gw0.trans g2
   have hsz := gw.size
   have gw3 := gw.alloc #[.int .i64 re, .int .i64 im] 58
   have c0 := R1.cell 0
   have c1 := R1.cell 1
   have f0 := R1.frozen 0
   have f1 := R1.frozen 1
   simp only [getS] at c0 c1
   clear R0 gw0 g2 gw
   go_wp2_with fail
   refine bodyPost_ret (v := .agg #[.int .i64 im, .int .i64 re]) ?_ rfl ⟨rfl, ?_⟩
   ·simp [results, Tryz.f157, go_sem, c0, c1]
   ·exact (gw3.setCell (a := ⟨w.heap.size, 0, none⟩) (by simp) _).setCell (a := ⟨w.heap.size, 1, none⟩) (by simp) _
  ·have HE1 := Lib.hid (HE.out n (by omega) (by omega))
   have er : (rpt n u) = ⟨(ptG (eighthZ n log)).re, (ptG (eighthZ n log)).re⟩ := by unfold rpt rptF; rw [if_neg a, if_neg b, eighthZ_eq, ← hn]
   rw [er]
   clear er HE
   generalize ptG (eighthZ n log) = s at *
   obtain ⟨re, im⟩ := s
   simp only at HE1 ⊢
   clear hl hn
   go_enter Tryz.func157, Tryz.ntmps157
   go_wp2_with fail
   have R0 := CellsAt.new w 58 #[.int .i64 0, .int .i64 0]
   have gw0 := (Gr.refl w).alloc #[.int .i64 0, .int .i64 0] 58
   refine (HE1.out _).mono ?_
   rintro e w2 ⟨rfl, g2⟩
   have R1 := R0.gr g2
   have gw := gw0.trans g2
   have hsz := gw.size
   have c0 := R1.cell 0
   have c1 := R1.cell 1
   have f0 := R1.frozen 0
   have f1 := R1.frozen 1
   simp only [getS] at c0 c1
   clear R0 gw0 g2 HE1 a b u0 u1 he hw2 hn4 l0 l1
   have hfr : ∀ W, (Instr.field 58 (.agg #[.int .i64 re, .int .i64 im]) 0).run Tryz.prog W = .ok (.int .i64 re) W := field_Re re im
   go_wp2_with fail
   refine bodyPost_ret (v := .agg #[.int .i64 re, .int .i64 re]) ?_ rfl ⟨rfl, ?_⟩
   ·simp [results, Tryz.f157, go_sem, c0, c1]
   ·exact (gw.setCell (a := ⟨w.heap.size, 0, none⟩) (by simp) _).setCell (a := ⟨w.heap.size, 1, none⟩) (by simp) _
set_option maxHeartbeats 8000000 in
theorem rRootOf_c (log k n bt : Int) (l0 : 2 ≤ log) (l1 : log ≤ 6) (hn : n = 2 ^ log.toNat) (b0 : 0 ≤ bt) (b1 : bt ≤ 40) (w : World) :
 Calls Tryz.prog 127 #[.int .i64 log, .int .i64 k, .int .i64 bt] w fun e w' => e = .returned (.agg #[.int .i64 (rootG n k (56 - bt).toNat).re, .int .i64 (rootG n k (56 - bt).toNat).im]) ∧ Gr w w' := by
 have hl := len_log n log l0 l1 hn
 have hn4 : 4 ≤ n ∧ n ≤ 64 := by rcases hl with rfl | rfl | rfl | rfl | rfl <;> omega
 have hu := len_u n k hl
 have hbd := rpt_bd n _ hl hu.1 hu.2.1
 have HPt := Lib.hid (rPoint_c log (4 * (k % n) % n) n l0 l1 hn hu.1 hu.2.1)
 have hand : bits .and .i64 k (n - 1) = k % n := by rw [hn]; exact bits_mask k log.toNat (by omega)
 unfold rootG
 generalize hr : k % n = r at *
 have hrem : (4 * r).tmod n = 4 * r % n := Int.tmod_eq_emod_of_nonneg (by omega)
 have hquo : (4 * r).tdiv n = 4 * r / n := Int.tdiv_eq_ediv_of_nonneg (by omega)
 have hz : ¬ n = 0 := by omega
 have hz2 : (n == 0) = false := by simp; omega
 have hq4 : 0 ≤ 4 * r / n ∧ 4 * r / n < 4 := ⟨hu.2.2.1, hu.2.2.2.1⟩
 generalize 4 * r % n = u at *
 generalize 4 * r / n = q at *
 generalize hp : rpt n u = p at *
 have HS := Lib.hid (cxshift_ok p.re p.im (56 - bt) 1 (by omega) (by omega) (by omega) (by omega) (by omega) (by omega))
 have hs := And.intro (rnd_top p.re (56 - bt).toNat (by omega) (by omega) hbd.1) (rnd_top p.im (56 - bt).toNat (by omega) (by omega) hbd.2)
 have hM : (2 : Nat) ^ (56 - (56 - bt).toNat) ≤ 1099511627776 := by
  have : (2 : Nat) ^ (56 - (56 - bt).toNat) ≤ 2 ^ 40 := Nat.pow_le_pow_right (by decide) (by omega)
  omega
 have es : rsh (56 - bt).toNat p = ⟨rnd p.re (56 - bt).toNat 1, rnd p.im (56 - bt).toNat 1⟩ := rfl
 have hq : (rsh (56 - bt).toNat p).re.natAbs ≤ 1099511627776 ∧ (rsh (56 - bt).toNat p).im.natAbs ≤ 1099511627776 := by rw [es]; simp only; omega
 have HS' : CR 100 #[.agg #[.int .i64 p.re, .int .i64 p.im], .int .i64 (56 - bt), .int .i64 1] (.tuple #[.agg #[.int .i64 (rsh (56 - bt).toNat p).re, .int .i64 (rsh (56 - bt).toNat p).im], .int .i64 0]) := HS
 clear HS es hs hM
 generalize rsh (56 - bt).toNat p = g at *
 have HT := Lib.hid (cxturn_gi g q (by omega))
 have hq2 := turn_bd q g _ hq
 generalize g.turn q = g2 at *
 have HC := Lib.hid (cxconj_gi g2 (by omega))
 generalize g2.conj = g3 at *
 obtain ⟨px, py⟩ := p
 obtain ⟨gx, gy⟩ := g
 obtain ⟨hx, hy⟩ := g2
 obtain ⟨ix, iy⟩ := g3
 simp only at HPt HS' HT HC ⊢
 have rb : 0 ≤ r ∧ r < 64 := by omega
 have hm4 : IntKind.i64.wrap (4 * r) = 4 * r := IntWalk.i64_in _ ⟨by omega, by omega⟩
 have hm56 : IntKind.i64.wrap (56 - bt) = 56 - bt := IntWalk.i64_in _ ⟨by omega, by omega⟩
 have hn1 : IntKind.i64.wrap (n - 1) = n - 1 := IntWalk.i64_in _ ⟨by omega, by omega⟩
 have hw2 : IntKind.i64.wrap n = n := IntWalk.i64_in _ ⟨by omega, by omega⟩
 have he := hn.symm
 have hwq : IntKind.i64.wrap q = q := IntWalk.i64_in _ ⟨by omega, by omega⟩
 have HQ := Lib.hid hquo
 clear hl hbd hu hr hp hq hq2 hn hquo
 go_enter Tryz.func127, Tryz.ntmps127
 go_wp2_with fail
 have R0 := CellsAt.new w 58 #[.int .i64 0, .int .i64 0]
 have gw0 := (Gr.refl w).alloc #[.int .i64 0, .int .i64 0] 58
 refine (HPt.out _).mono ?_
 rintro e w1 ⟨rfl, g1⟩
 have R1 := (R0.gr g1).alloc (.cells #[.int .i64 px, .int .i64 py] 58)
 have P1 := CellsAt.new w1 58 #[.int .i64 px, .int .i64 py]
 have gw1 := (gw0.trans g1).alloc #[.int .i64 px, .int .i64 py] 58
 have hlt : w.heap.size < w1.heap.size := by have := g1.size; simp at this; omega
 have hsz1 : w1.heap.size < (w1.alloc (.cells #[.int .i64 px, .int .i64 py] 58)).heap.size := by simp
 clear R0 gw0 g1 HPt hand hrem hn1 hw2 he
 go_wp2_with fail
 generalize w1.alloc (.cells #[.int .i64 px, .int .i64 py] 58) = u1 at *
 generalize w1.heap.size = B at *
 refine (HS'.out _).mono ?_
 rintro e w2 ⟨rfl, g2⟩
 have R2 := ((R1.gr g2).other (B' := B) (by omega) 0 (.int .i64 gx)).other (B' := B) (by omega) 1 (.int .i64 gy)
 have P2' := P1.gr g2
 have p0 := P2'.cell 0
 have p1 := P2'.cell 1
 have pf0 := P2'.frozen 0
 have pf1 := P2'.frozen 1
 have P2 := (P2'.set 0 (.int .i64 gx)).set 1 (.int .i64 gy)
 have gw2 := ((gw1.trans g2).setCell (a := ⟨B, 0, none⟩) (by simp; omega) (.int .i64 gx)).setCell (a := ⟨B, 1, none⟩) (by simp; omega) (.int .i64 gy)
 simp only [getS, List.setIfInBounds_toArray, List.set_cons_zero, List.set_cons_succ] at p0 p1 P2
 clear R1 P1 gw1 g2 P2' HS' hm56
 go_wp2_with fail
 generalize (w2.setCell ⟨B, 0, none⟩ (.int .i64 gx)).setCell ⟨B, 1, none⟩ (.int .i64 gy) = u2 at *
 have q0 := P2.cell 0
 have q1 := P2.cell 1
 have ql := P2.lt
 simp only [getS] at q0 q1
 have hquo := HQ.out
 clear hsz1 hn4 rb hq4
 refine wp_region_held_drew (S := fun _ => True) rfl trivial (fun hS => ?_)
 refine hT 1 ?_
 refine hT 2 ?_
 refine hT 3 ?_
 refine hT 4 ?_
 refine wpAnyH_ready (rs := [0]) (by kernel_rfl) (by simp) ?_
 refine AllReadyH.cons rfl (fun K hK => ?_) AllReadyH.nil
 go_simp
 refine hK.out _ _ ?_ (fun hHeld => ?_)
 ·(trivial)
 clear hK K
 try simp only [Act.put, putS]
 refine wpAnyH_ready (rs := [5]) (by kernel_rfl) (by simp) ?_
 refine AllReadyH.cons rfl (fun K hK => ?_) AllReadyH.nil
 go_simp
 refine (HT.out _).mono ?_
 rintro e w3 ⟨rfl, g3⟩
 refine hK.out _ _ ?_ (fun hHeld => ?_)
 ·(trivial)
 clear hK K
 try simp only [Act.put, putS]
 refine hT 6 ?_
 refine hT 7 ?_
 refine hT 8 ?_
 have R3 := R2.gr ((Gr.refl u2).drew.trans g3)
 have P3' := P2.gr ((Gr.refl u2).drew.trans g3)
 have gw3' := gw2.trans ((Gr.refl u2).drew.trans g3)
 have s0 := P3'.cell 0
 have s1 := P3'.cell 1
 have sf0 := P3'.frozen 0
 have sf1 := P3'.frozen 1
 have R4 := (R3.other (B' := B) (by omega) 0 (.int .i64 hx)).other (B' := B) (by omega) 1 (.int .i64 hy)
 have P4 := (P3'.set 0 (.int .i64 hx)).set 1 (.int .i64 hy)
 have gw4 := (gw3'.setCell (a := ⟨B, 0, none⟩) (by simp; omega) (.int .i64 hx)).setCell (a := ⟨B, 1, none⟩) (by simp; omega) (.int .i64 hy)
 simp only [getS, List.setIfInBounds_toArray, List.set_cons_zero, List.set_cons_succ] at s0 s1 P4
 clear R2 P2 gw2 R3 P3' gw3' q0 q1 ql
 refine wpAnyH_ready (rs := [9]) (by kernel_rfl) (by simp) ?_
 refine AllReadyH.cons rfl (fun K hK => ?_) AllReadyH.nil
 go_simp
 refine hK.out _ _ ?_ (fun hHeld => ?_)
 ·(trivial)
 clear hK K
 try simp only [Act.put, putS]
 refine wpAnyH_done (by kernel_rfl) ?_ _
 generalize (w3.setCell ⟨B, 0, none⟩ (.int .i64 hx)).setCell ⟨B, 1, none⟩ (.int .i64 hy) = u4 at *
 have v0 := P4.cell 0
 have v1 := P4.cell 1
 have vl := P4.lt
 simp only [getS] at v0 v1
 clear hHeld s0 s1 sf0 sf1 HT hz hz2 hwq HQ hm4 p0 p1 pf0 pf1 hquo g3
 go_wp2_with fail
 refine (HC.out _).mono ?_
 rintro e w5 ⟨rfl, g5⟩
 have R5' := R4.gr g5
 have P5' := P4.gr g5
 have gw5' := gw4.trans g5
 have s0 := P5'.cell 0
 have s1 := P5'.cell 1
 have sf0 := P5'.frozen 0
 have sf1 := P5'.frozen 1
 have R5 := (R5'.other (B' := B) (by omega) 0 (.int .i64 ix)).other (B' := B) (by omega) 1 (.int .i64 iy)
 have P5 := (P5'.set 0 (.int .i64 ix)).set 1 (.int .i64 iy)
 have gw5 := (gw5'.setCell (a := ⟨B, 0, none⟩) (by simp; omega) (.int .i64 ix)).setCell (a := ⟨B, 1, none⟩) (by simp; omega) (.int .i64 iy)
 simp only [getS, List.setIfInBounds_toArray, List.set_cons_zero, List.set_cons_succ] at s0 s1 P5
 have k0 := P5.cell 0
 have k1 := P5.cell 1
 have c0 := R5.cell 0
 have c1 := R5.cell 1
 have f0 := R5.frozen 0
 have f1 := R5.frozen 1
 have kl := P5'.lt
 simp only [getS] at k0 k1 c0 c1
 clear R4 P4 gw4 R5' P5' gw5' R5 P5 HC v0 v1 vl g5
 go_wp2_with fail
 refine bodyPost_ret (v := .agg #[.int .i64 ix, .int .i64 iy]) ?_ rfl ⟨rfl, ?_⟩
 ·simp [results, Tryz.f127, go_sem, c0, c1]
 ·exact (gw5.setCell (a := ⟨w.heap.size, 0, none⟩) (by simp) _).setCell (a := ⟨w.heap.size, 1, none⟩) (by simp) _
theorem rTable1_c (p q : Nat) (log k n bt : Int) (l0 : 2 ≤ log) (l1 : log ≤ 6) (hn : n = 2 ^ log.toNat) (b0 : 0 ≤ bt) (b1 : bt ≤ 40) (w : World)
 (c0 : w.cell? ⟨p, 0, none⟩ = some (.int .i64 log)) (c1 : w.cell? ⟨q, 0, none⟩ = some (.int .i64 bt)) (lp : p < w.heap.size) (lq : q < w.heap.size) :
 Calls Tryz.prog 126 #[.int .i64 k, .pointer (some ⟨p, 0, none⟩), .pointer (some ⟨q, 0, none⟩)] w fun e w' => e = .returned (.agg #[.int .i64 (rootG n k (56 - bt).toNat).re, .int .i64 (rootG n k (56 - bt).toNat).im]) ∧ Gr w w' := by
 have HR := Lib.hid (rRootOf_c log k n bt l0 l1 hn b0 b1)
 clear l0 l1 hn b0 b1
 generalize rootG n k (56 - bt).toNat = s at *
 obtain ⟨re, im⟩ := s
 simp only at HR ⊢
 go_enter Tryz.func126, Tryz.ntmps126
 go_wp2_with fail
 have R0 := CellsAt.new w 58 #[.int .i64 0, .int .i64 0]
 have gw0 := (Gr.refl w).alloc #[.int .i64 0, .int .i64 0] 58
 refine (HR.out _).mono ?_
 rintro e w1 ⟨rfl, g1⟩
 have R1 := R0.gr g1
 have gw := gw0.trans g1
 have hsz := gw.size
 have d0 := R1.cell 0
 have d1 := R1.cell 1
 have f0 := R1.frozen 0
 have f1 := R1.frozen 1
 simp only [getS] at d0 d1
 clear R0 gw0 g1 c0 c1
 go_wp2_with fail
 refine bodyPost_ret (v := .agg #[.int .i64 re, .int .i64 im]) ?_ rfl ⟨rfl, ?_⟩
 ·simp [results, Tryz.f126, go_sem, d0, d1]
 ·exact (gw.setCell (a := ⟨w.heap.size, 0, none⟩) (by simp) _).setCell (a := ⟨w.heap.size, 1, none⟩) (by simp) _
set_option maxHeartbeats 2000000 in
theorem rGathered_c (p q : Nat) (log n bt : Int) (l0 : 2 ≤ log) (l1 : log ≤ 6) (hn : n = 2 ^ log.toNat) (b0 : 0 ≤ bt) (b1 : bt ≤ 40) (w : World)
 (c0 : w.cell? ⟨p, 0, none⟩ = some (.int .i64 log)) (c1 : w.cell? ⟨q, 0, none⟩ = some (.int .i64 bt)) (lp : p < w.heap.size) (lq : q < w.heap.size) :
 Calls Tryz.prog 128 #[.int .i64 n, .func (.func 126) #[] #[.pointer (some ⟨p, 0, none⟩), .pointer (some ⟨q, 0, none⟩)]] w fun e w' => ∃ v, e = .returned v ∧ CxsAt w' v (rootsL n (56 - bt).toNat) ∧ Gr w w' := by
 have hl := len_log n log l0 l1 hn
 have hn4 : 4 ≤ n ∧ n ≤ 64 := by rcases hl with rfl | rfl | rfl | rfl | rfl <;> omega
 obtain ⟨N, hN⟩ : ∃ N : Nat, (N : Int) = n := ⟨n.toNat, by omega⟩
 have HF := Lib.hid fun (k : Int) W (gv : Gr w W) => rTable1_c p q log k n bt l0 l1 hn b0 b1 W ((gv.cell (p := ⟨p, 0, none⟩) lp).trans c0) ((gv.cell (p := ⟨q, 0, none⟩) lq).trans c1) (Nat.lt_of_lt_of_le lp gv.size) (Nat.lt_of_lt_of_le lq gv.size)
 have hmk := run_make_cx N (by omega)
 have hrl : rootsL n (56 - bt).toNat = (List.range N).map (fun k : Nat => rootG n (k : Int) (56 - bt).toNat) := by unfold rootsL; rw [← hN, Int.toNat_natCast]
 rw [hrl]
 clear hl l0 l1 hn b0 b1 c0 c1 hrl
 generalize (56 - bt).toNat = s at *
 rw [hN] at hmk
 go_enter Tryz.func128, Tryz.ntmps128
 go_wp2_with fail
 have M0 := CellsAt.new w 58 (madeCells #[.int .i64 0, .int .i64 0] (N * 2))
 have M1 := size_madeCells #[.int .i64 0, .int .i64 0] (N * 2)
 go_loopw [6, 11] (fun _ i wr => ∃ k : Nat, ∃ c : Array Value, k ≤ N ∧ i = .int .i64 k ∧ CellsAt wr w.heap.size 58 c ∧ c.size = N * 2 ∧ (∀ j, j < k → c[j * 2]? = some (.int .i64 (rootG n (j : Int) s).re) ∧ c[j * 2 + 1]? = some (.int .i64 (rootG n (j : Int) s).im)) ∧ Gr w wr)
  (fun _ i _ => N - (intOf i).toNat)
 case atStart => exact ⟨0, _, by omega, rfl, M0, M1, fun j hj => absurd hj (Nat.not_lt_zero _), (Gr.refl _).alloc _ _⟩
 case round =>
  clear M0 M1 hmk
  obtain ⟨k, c, hk, rfl, hC, hs, hj, hg⟩ := hrel
  by_cases hlt : k < N
  ·have HA := Lib.hid (HF.out k)
   have HS := Lib.hid hs
   have HJ := Lib.hid hj
   clear hs hj
   generalize hgg : rootG n (k : Int) s = g at *
   have HG := Lib.hid hgg
   clear hgg
   obtain ⟨re, im⟩ := g
   simp only at HA
   go_wp2_with fail
   refine (HA.out _ hg).mono ?_
   rintro e w2 ⟨rfl, hg2⟩
   have hC2 := hC.gr hg2
   have f2 := hC2.frozen (k * 2)
   have f3 := hC2.frozen (k * 2 + 1)
   have q2 := hC2.cell (k * 2)
   have q3 := hC2.cell (k * 2 + 1)
   have hg3 := hg.trans hg2
   rw [Array.getElem?_eq_getElem (show k * 2 < c.size by rw [HS.out]; omega)] at q2
   rw [Array.getElem?_eq_getElem (show k * 2 + 1 < c.size by rw [HS.out]; omega)] at q3
   have hBl := hC2.lt
   clear hC hg2 hg HA
   go_wp2_with fail
   have hC3 := (hC2.set (k * 2) (.int .i64 re)).set (k * 2 + 1) (.int .i64 im)
   have hg4 := (hg3.setCell (a := ⟨w.heap.size, k * 2, none⟩) (by simp) (.int .i64 re)).setCell (a := ⟨w.heap.size, k * 2 + 1, none⟩) (by simp) (.int .i64 im)
   go_roundw
   case rel =>
    refine ⟨k + 1, _, by omega, by go_num, hC3, by simpa using HS.out, fun j hj => ?_, hg4⟩
    by_cases e : j = k
    ·subst e
     rw [HG.out]
     constructor
     ·rw [Array.getElem?_setIfInBounds, if_neg (by omega), Array.getElem?_setIfInBounds, if_pos rfl, if_pos (by rw [HS.out]; omega)]
     ·rw [Array.getElem?_setIfInBounds, if_pos rfl, if_pos (by simp only [Array.size_setIfInBounds]; rw [HS.out]; omega)]
    ·have := HJ.out j (by omega)
     constructor
     ·rw [Array.getElem?_setIfInBounds, if_neg (by omega), Array.getElem?_setIfInBounds, if_neg (by omega)]
      exact this.1
     ·rw [Array.getElem?_setIfInBounds, if_neg (by omega), Array.getElem?_setIfInBounds, if_neg (by omega)]
      exact this.2
   case measure => simp [intOf]; omega
  ·have he : k = N := by omega
   subst he
   go_wp2_with fail
   go_ret
   refine ⟨_, rfl, ?_, hg⟩
   refine ⟨some ⟨w.heap.size, 0, none⟩, k, by simp, by simp, by unfold maxLen; omega, fun _ => ⟨w.heap.size, 0, rfl, hC.lt, fun j x hx => ?_⟩⟩
   rw [List.getElem?_map] at hx
   obtain ⟨j', hj', rfl⟩ := Option.map_eq_some_iff.1 hx
   obtain ⟨hjl, rfl⟩ := List.getElem?_eq_some_iff.1 hj'
   simp only [List.length_range] at hjl
   have := hj j hjl
   rw [hC.cell, hC.cell, Nat.zero_add]
   simpa using this
theorem rTable_ok (log n bt : Int) (l0 : 2 ≤ log) (l1 : log ≤ 6) (hn : n = 2 ^ log.toNat) (b0 : 0 ≤ bt) (b1 : bt ≤ 40) (w : World) :
 Calls Tryz.prog 97 #[.int .i64 log, .int .i64 bt] w fun e w' => ∃ v, e = .returned (.tuple #[v, .int .i64 0]) ∧ CxsAt w' v (rootsL n (56 - bt).toNat) ∧ Gr w w' := by
 have HM := Lib.hid (mayBe07_yes log bt l0 l1 b0 b1)
 have HG := Lib.hid fun p q W => rGathered_c p q log n bt l0 l1 hn b0 b1 W
 have hl := len_log n log l0 l1 hn
 have hn4 : 4 ≤ n ∧ n ≤ 64 := by rcases hl with rfl | rfl | rfl | rfl | rfl <;> omega
 have he := hn.symm
 have hw2 : IntKind.i64.wrap n = n := IntWalk.i64_in _ ⟨by omega, by omega⟩
 clear hl hn b0 b1
 generalize rootsL n (56 - bt).toNat = xs at *
 go_enter Tryz.func97, Tryz.ntmps97
 go_wp2_with (go_at_call 125; refine (HM.out _).mono ?_; rintro e wz ⟨rfl, rfl⟩)
 refine (HG.out _ _ _ ?_ ?_ ?_ ?_).mono ?_
 ·exact ((CellsAt.new w 3 #[.int .i64 log]).alloc _).cell 0
 ·have := (CellsAt.new (w.alloc (.cells #[.int .i64 log] 3)) 3 #[.int .i64 bt]).cell 0
  rw [World.size_alloc] at this
  exact this
 ·simp; omega
 ·simp
 rintro e w1 ⟨v, rfl, hx, g1⟩
 go_wp2_with fail
 go_ret2
 exact ⟨v, rfl, hx, (((Gr.refl w).alloc _ _).alloc _ _).trans g1⟩
end
section
open Go.ChangeShapes Go.WideShapes Go.ChangeAt Go.RowKit
set_option linter.unusedVariables false
set_option linter.unusedSimpArgs false
set_option maxRecDepth 100000
inductive RunNo (n : Nat) (f mo : Int) (xs : List Gi) : Int → Prop where
 | size (h : ¬ ∃ L, IsLog (n : Int) L) : RunNo n f mo xs 3
 | arg (h : ∃ L, IsLog (n : Int) L) (k : (f < 0 ∨ 1 < f) ∨ mo < 0 ∨ 2 < mo) : RunNo n f mo xs 1
 | range (h : ∃ L, IsLog (n : Int) L) (lim b p : Int) (H : FB f b p) (hl : lim = p / 2) (m0 : 0 ≤ mo) (m1 : mo ≤ 2) (k : allIn lim xs = false) : RunNo n f mo xs 2
theorem RunNo.pos {n : Nat} {f mo : Int} {xs : List Gi} {e : Int} (h : RunNo n f mo xs e) : e = 1 ∨ e = 2 ∨ e = 3 := by cases h <;> simp
end
section
open Go.ChangeShapes Go.WideShapes Go.ChangeAt Go.RowKit
set_option linter.unusedVariables false
set_option maxRecDepth 100000
theorem man_wf {fo b p lo ke sc mo : Int} {L n B : Nat} (H : PlF fo b p lo ke sc mo L n B) {xs : List Gi} (hm : ManB p xs) : ∀ a ∈ xs, (Lit.int .i64 a.re).wf = true ∧ (Lit.int .i64 a.im).wf = true := by
 intro a ha
 have h := hm a ha
 have hp : p ≤ 2147483648 := by rcases H.sizes with h | h <;> omega
 exact ⟨WalkArith.wf_i64 (by omega), WalkArith.wf_i64 (by omega)⟩
theorem flip_man {p : Int} {L : Nat} {xs : List Gi} (h : xs.length = 2 ^ L) (hm : ManB p xs) : ManB p (flipL L xs) := fun a ha => hm a (flip_mem h ha)
theorem first_bd (sc p : Int) (xs : List Gi) : -31 ≤ atFirst sc p xs ∧ atFirst sc p xs ≤ 1 := by
 have := room_le p (maxG xs)
 unfold atFirst
 repeat' split
 all_goals omega
theorem first_room {fo b p lo ke sc mo : Int} {L n B : Nat} (H : PlF fo b p lo ke sc mo L n B) {xs ys : List Gi} (hm : ManB p ys) : atFirst sc p xs < 0 → allIn (2 ^ (62 + atFirst sc p xs).toNat) ys = true := by
 intro _
 have hb := first_bd sc p xs
 refine allIn_more hm.all (Int.le_trans (show p ≤ 2 ^ 31 by rcases H.sizes with h | h <;> omega) ?_)
 have : (2 : Nat) ^ 31 ≤ 2 ^ (62 + atFirst sc p xs).toNat := Nat.pow_le_pow_right (by decide) (by omega)
 exact_mod_cast this
def oneB (fo : Int) : Int := if fo = 0 then 32768 else 2147483648
def whyB (fo lo ke sc mo : Int) (op : Bool) (xs : List Gi) : Int := if okF fo lo ke sc mo = true then (if (xs.length : Int) = 2 ^ lo.toNat then (if partsB (-(oneB fo)) (if op = true then oneB fo else oneB fo - 1) xs = true then 0 else 2) else 3) else 4
theorem fb_of {fo lo ke sc mo : Int} (h : okF fo lo ke sc mo = true) : ∃ b, FB fo b (oneB fo) ∧ b = (if fo = 0 then 15 else 31) := by
 have hf := okF_iff.1 h
 have hc : fo = 0 ∨ fo = 1 := by omega
 rcases hc with rfl | rfl
 ·exact ⟨15, .inl ⟨rfl, rfl, rfl⟩, rfl⟩
 ·exact ⟨31, .inr ⟨rfl, rfl, rfl⟩, rfl⟩
theorem plF_of {fo lo ke sc mo : Int} (h : okF fo lo ke sc mo = true) : PlF fo (if fo = 0 then 15 else 31) (oneB fo) lo ke sc mo lo.toNat (2 ^ lo.toNat) (if fo = 0 then 13 else 29) := by
 have hf := okF_iff.1 h
 obtain ⟨b, hb, rfl⟩ := fb_of h
 refine ⟨hb, h, by omega, rfl, ?_⟩
 split <;> rfl
theorem why_yes {fo lo ke sc mo : Int} {op : Bool} {xs : List Gi} (h : whyB fo lo ke sc mo op xs = 0) : okF fo lo ke sc mo = true ∧ xs.length = 2 ^ lo.toNat ∧ partsB (-(oneB fo)) (if op = true then oneB fo else oneB fo - 1) xs = true := by
 unfold whyB at h
 by_cases h1 : okF fo lo ke sc mo = true
 ·rw [if_pos h1] at h
  by_cases h2 : (xs.length : Int) = 2 ^ lo.toNat
  ·rw [if_pos h2] at h
   by_cases h3 : partsB (-(oneB fo)) (if op = true then oneB fo else oneB fo - 1) xs = true
   ·exact ⟨h1, Int.ofNat.inj (by rw [Int.ofNat_eq_natCast, Int.ofNat_eq_natCast, h2]; simp), h3⟩
   ·rw [if_neg h3] at h
    cases h
  ·rw [if_neg h2] at h
   cases h
 ·rw [if_neg h1] at h
  cases h
theorem may15_c (v : Value) (fo lo ke sc mo : Int) (iv op : Bool) (xs : List Gi) (w : World) (hv : CxsAt w v xs) :
 Calls Tryz.prog 10 #[v, .agg #[.int .i64 fo, .int .i64 lo, .int .i64 ke, .int .i64 sc, .int .i64 mo, .bool iv], .bool op] w fun e w' => e = .returned (.int .i64 (whyB fo lo ke sc mo op xs)) ∧ Gr w w' := by
 obtain ⟨p, cap, rfl⟩ := hv.len
 unfold whyB
 have HC := Lib.hid fun W => refCheck_c fo lo ke sc mo iv _ rfl W
 by_cases hk : okF fo lo ke sc mo = true
 ·rw [if_pos hk]
  rw [hk] at HC
  have hf := okF_iff.1 hk
  obtain ⟨b, hb, _⟩ := fb_of hk
  have HP := Lib.hid fun W => calls_gr (pow_c lo (by omega) (by omega) W)
  have HO := Lib.hid fun W => calls_gr (rone_c fo b (oneB fo) hb W)
  have hq : 0 ≤ oneB fo ∧ oneB fo ≤ 2147483648 := by unfold oneB; split <;> omega
  by_cases hn : (xs.length : Int) = 2 ^ lo.toNat
  ·rw [if_pos hn]
   have hn2 : ((xs.length : Int) == 2 ^ lo.toNat) = true := by simp [hn]
   have HA := fun h => Lib.hid fun W (g : CxsAt W (.slice p xs.length cap) xs) => parts15_c (.slice p xs.length cap) xs (-(oneB fo)) h W g
   cases op
   ·simp only [Bool.false_eq_true, if_false]
    have HA1 := HA (oneB fo - 1)
    cases hp : partsB (-(oneB fo)) (oneB fo - 1) xs
    ·rw [hp] at HA1
     exact may15_cn p xs.length cap xs fo lo ke sc mo _ (oneB fo) iv hn2 hq.1 hq.2 HC HP HO HA1 w hv
    ·rw [hp] at HA1
     exact may15_cy p xs.length cap xs fo lo ke sc mo _ (oneB fo) iv hn2 hq.1 hq.2 HC HP HO HA1 w hv
   ·simp only [if_true]
    have HA1 := HA (oneB fo)
    cases hp : partsB (-(oneB fo)) (oneB fo) xs
    ·rw [hp] at HA1
     exact may15_on p xs.length cap xs fo lo ke sc mo _ (oneB fo) iv hn2 hq.1 hq.2 HC HP HO HA1 w hv
    ·rw [hp] at HA1
     exact may15_oy p xs.length cap xs fo lo ke sc mo _ (oneB fo) iv hn2 hq.1 hq.2 HC HP HO HA1 w hv
  ·rw [if_neg hn]
   exact may15_size p xs.length cap fo lo ke sc mo _ iv op (by simp [hn]) HC HP w
 ·rw [if_neg hk]
  have hk' : okF fo lo ke sc mo = false := by simpa using hk
  rw [hk'] at HC
  exact may15_plan _ fo lo ke sc mo iv op HC w
def FftSaid (F : FuncId) (V : Int → Int → Int → Int → Int → Bool → List Gi → BV) : Prop :=
 (∀ (fo lo ke sc mo : Int) (iv : Bool) (v : Value) (xs : List Gi), whyB fo lo ke sc mo false xs = 0 → ∀ W, CxsAt W v xs → Calls Tryz.prog F #[v, .agg #[.int .i64 fo, .int .i64 lo, .int .i64 ke, .int .i64 sc, .int .i64 mo, .bool iv]] W fun e w' =>
  ∃ vx vs, e = .returned (.tuple #[.agg #[vx, .int .i64 (V fo lo ke sc mo iv xs).ex, .bool (V fo lo ke sc mo iv xs).sat, vs], .int .i64 0]) ∧ CxsAt w' vx (V fo lo ke sc mo iv xs).X ∧ NumsAt w' vs (V fo lo ke sc mo iv xs).sh ∧ Gr W w') ∧
 (∀ (fo lo ke sc mo : Int) (iv : Bool) (v : Value) (xs : List Gi) (y : Int), whyB fo lo ke sc mo false xs = y → y ≠ 0 → ∀ W, CxsAt W v xs → Calls Tryz.prog F #[v, .agg #[.int .i64 fo, .int .i64 lo, .int .i64 ke, .int .i64 sc, .int .i64 mo, .bool iv]] W fun e w' =>
  e = .returned (.tuple #[.agg #[.slice none 0 0, .int .i64 0, .bool false, .slice none 0 0], .int .i64 y]) ∧ Gr W w')
def readyF (fo lo ke sc mo : Int) (iv : Bool) (xs : List Gi) : BV := readyB ke sc mo (oneB fo) lo.toNat xs
theorem sShifted_down (x y s mo : Int) (wx : -9223372036854775808 ≤ x ∧ x ≤ 9223372036854775807) (wy : -9223372036854775808 ≤ y ∧ y ≤ 9223372036854775807) (s0 : 0 ≤ s) (s1 : s ≤ 62) (m0 : 0 ≤ mo) (m1 : mo ≤ 2) (w : World) :
 Calls Tryz.prog 76 #[.agg #[.int .i64 x, .int .i64 y], .int .i64 s, .int .i64 mo] w fun e w' => e = .returned (.tuple #[.agg #[.int .i64 (rnd x s.toNat mo), .int .i64 (rnd y s.toNat mo)], .int .i64 0]) ∧ Gr w w' := by
 have HS := Lib.hid (cxshift_ok x y s mo wx wy s0 s1 m0 m1)
 generalize rnd x s.toNat mo = r0 at *
 generalize rnd y s.toNat mo = r1 at *
 clear wx wy m0 m1 s1
 go_enter Tryz.func76, Tryz.ntmps76
 go_wp2_with fail
 have R0 := CellsAt.new (w.alloc (.cells #[.int .i64 x, .int .i64 y] 58)) 58 #[.int .i64 0, .int .i64 0]
 have gw0 := ((Gr.refl w).alloc #[.int .i64 x, .int .i64 y] 58).alloc #[.int .i64 0, .int .i64 0] 58
 rw [World.size_alloc] at R0
 refine (HS.out _).mono ?_
 rintro e w2 ⟨rfl, hg⟩
 have R1 := R0.gr hg
 have gw := gw0.trans hg
 have hsz := gw.size
 have c0 := R1.cell 0
 have c1 := R1.cell 1
 have f0 := R1.frozen 0
 have f1 := R1.frozen 1
 have hlt := R1.lt
 simp only [getS] at c0 c1
 clear R0 gw0 hg
 go_wp2_with fail
 refine bodyPost_ret (v := .tuple #[.agg #[.int .i64 r0, .int .i64 r1], .int .i64 0]) ?_ rfl ⟨rfl, ?_⟩
 ·simp [results, Tryz.results76, go_sem, c0, c1]
 ·exact (gw.setCell (a := ⟨w.heap.size + 1, 0, none⟩) (by simp) _).setCell (a := ⟨w.heap.size + 1, 1, none⟩) (by simp) _
theorem sShifted_up (x y s mo r0 r1 : Int) (s0 : 0 < s) (s1 : s ≤ 62) (hx : inB (2 ^ (62 - s).toNat) x = true) (hy : inB (2 ^ (62 - s).toNat) y = true) (h0 : x * 2 ^ s.toNat = r0) (h1 : y * 2 ^ s.toNat = r1) (w : World) :
 Calls Tryz.prog 76 #[.agg #[.int .i64 x, .int .i64 y], .int .i64 (-s), .int .i64 mo] w fun e w' => e = .returned (.tuple #[.agg #[.int .i64 r0, .int .i64 r1], .int .i64 0]) ∧ Gr w w' := by
 have HX := Lib.hid (up_ok x s (by omega) s1 (inB_iff.1 hx).1 (inB_iff.1 hx).2)
 have HY := Lib.hid (up_ok y s (by omega) s1 (inB_iff.1 hy).1 (inB_iff.1 hy).2)
 rw [h0] at HX
 rw [h1] at HY
 clear hx hy h0 h1
 go_enter Tryz.func76, Tryz.ntmps76
 go_wp2_with (first | (go_at_call 101; ((with_reducible refine (HX.out _).mono ?_); rintro e w' ⟨rfl, rfl⟩)) | (go_at_call 101; ((with_reducible refine (HY.out _).mono ?_); rintro e w' ⟨rfl, rfl⟩)))
 refine bodyPost_ret (v := .tuple #[.agg #[.int .i64 r0, .int .i64 r1], .int .i64 0]) ?_ rfl ⟨rfl, ?_⟩
 ·simp [results, Tryz.results76, go_sem]
 ·exact ((Gr.refl w).alloc _ _).alloc _ _
theorem shifted_one (x : Gi) (s mo : Int) (s0 : -62 ≤ s) (s1 : s ≤ 62) (m0 : 0 ≤ mo) (m1 : mo ≤ 2) (hb : (Lit.int .i64 x.re).wf = true ∧ (Lit.int .i64 x.im).wf = true)
 (h : s < 0 → (inB (2 ^ (62 + s).toNat) x.re && inB (2 ^ (62 + s).toNat) x.im) = true) (w : World) :
 Calls Tryz.prog 76 #[.agg #[.int .i64 x.re, .int .i64 x.im], .int .i64 s, .int .i64 mo] w fun e w' => e = .returned (.tuple #[.agg #[.int .i64 (shG s mo x).re, .int .i64 (shG s mo x).im], .int .i64 0]) ∧ Gr w w' := by
 unfold shG
 by_cases hs : 0 ≤ s
 ·rw [if_pos hs]
  exact sShifted_down x.re x.im s mo (bounds_i64 hb.1) (bounds_i64 hb.2) hs s1 m0 m1 w
 ·rw [if_neg hs]
  have hh := h (by omega)
  rw [Bool.and_eq_true] at hh
  have := sShifted_up x.re x.im (-s) mo _ _ (by omega) (by omega) (by rw [show 62 - -s = 62 + s by omega]; exact hh.1) (by rw [show 62 - -s = 62 + s by omega]; exact hh.2) rfl rfl w
  rwa [Int.neg_neg] at this
set_option maxRecDepth 10000 in set_option maxHeartbeats 4000000 in
theorem scanShifted_ok (v : Value) (xs : List Gi) (s mo : Int) (s0 : -62 ≤ s) (s1 : s ≤ 62) (m0 : 0 ≤ mo) (m1 : mo ≤ 2) (hb : ∀ a ∈ xs, (Lit.int .i64 a.re).wf = true ∧ (Lit.int .i64 a.im).wf = true)
 (hu : s < 0 → allIn (2 ^ (62 + s).toNat) xs = true) (hl : xs.length ≤ 1048576) (w : World) (hv : CxsAt w v xs) :
 Calls Tryz.prog 45 #[v, .int .i64 s, .int .i64 mo] w fun e w' => ∃ v', e = .returned (.tuple #[v', .int .i64 0]) ∧ CxsAt w' v' (xs.map (shG s mo)) ∧ Gr w w' := by
 have HM := Lib.hid (sMode_yes mo m0 m1)
 have hs62 : s ≤ 62 := by omega
 have hmk := run_make_cx xs.length hl
 by_cases hx : xs = []
 ·subst hx
  obtain ⟨p, cap, rfl⟩ := hv.len
  rw [show ([] : List Gi).length = 0 from rfl]
  clear hmk
  have hmk : ∀ W : World, (Instr.makeSlice 22 (.int .i64 0) (.int .i64 0)).run Tryz.prog W = .ok (.slice (some ⟨W.heap.size, 0, none⟩) 0 0) (W.alloc (.cells (madeCells #[.int .i64 0, .int .i64 0] (0 * 2)) 58)) := run_make_cx 0 (by omega)
  clear hv hb hu hl m0 m1
  go_enter Tryz.func45, Tryz.ntmps45
  go_wp2_with (go_at_call 75; ((with_reducible refine (HM.out _).mono ?_); rintro e wz ⟨rfl, hgz⟩))
  refine wp_loop_rounds 1 ?_
  rw [rounds_succ]
  go_wp2_with fail
  go_ret2
  exact ⟨_, rfl, ⟨_, 0, rfl, Nat.le_refl _, Nat.zero_le _, fun h => absurd rfl h⟩, hgz.alloc _ _⟩
 ·obtain ⟨b, o, cap, rfl, hlen, hbb, hc⟩ := hv.at hx
  have HC := Lib.hid hc
  have HG := Lib.hid fun (x : Gi) (hi : x ∈ xs) => shifted_one x s mo s0 s1 m0 m1 (hb x hi) (fun h => by
   have := (allIn_iff _ _).1 (hu h) x hi
   simp only [Bool.and_eq_true, inB_iff]
   exact ⟨absI_le.1 this.1, absI_le.1 this.2⟩)
  clear hu
  clear hc hv hx hb m0 m1
  go_enter Tryz.func45, Tryz.ntmps45
  go_wp2_with (go_at_call 75; ((with_reducible refine (HM.out _).mono ?_); rintro e wz ⟨rfl, hgz⟩))
  have M0 := CellsAt.new wz 58 (madeCells #[.int .i64 0, .int .i64 0] (xs.length * 2))
  have M1 := size_madeCells #[.int .i64 0, .int .i64 0] (xs.length * 2)
  have hzs := hgz.size
  go_loopw [9, 10, 11, 12, 29] (fun _ _ _ _ i wr => ∃ k : Nat, ∃ c : Array Value, k ≤ xs.length ∧ i = .int .i64 k ∧ CellsAt wr wz.heap.size 58 c ∧ c.size = xs.length * 2 ∧ (∀ j x, j < k → xs[j]? = some x → c[j * 2]? = some (.int .i64 (shG s mo x).re) ∧ c[j * 2 + 1]? = some (.int .i64 (shG s mo x).im)) ∧ Gr w wr) (fun _ _ _ _ i _ => xs.length - (intOf i).toNat)
  case atStart => exact ⟨0, _, by omega, rfl, M0, M1, fun j x hj => absurd hj (Nat.not_lt_zero _), hgz.alloc _ _⟩
  case round =>
   clear M0 M1 hmk HM
   obtain ⟨k, c, hk, rfl, hC, hsz, hj, hg⟩ := hrel
   by_cases hlt : k < xs.length
   ·obtain ⟨x, hx⟩ := get_of_lt hlt
    have h1 := (hg.cell (p := ⟨b, o + k * 2, none⟩) hbb).trans (HC.out k x hx).1
    have h2 := (hg.cell (p := ⟨b, o + k * 2 + 1, none⟩) hbb).trans (HC.out k x hx).2
    have hbl : b < wr.heap.size := Nat.lt_of_lt_of_le hbb hg.size
    have HS := Lib.hid hsz
    have HJ := Lib.hid hj
    have HXK := Lib.hid hx
    have HG2 := Lib.hid (HG.out x (List.mem_of_getElem? hx))
    clear hx hsz hj HC HG
    generalize hgg : shG s mo x = g at *
    have HGG := Lib.hid hgg
    clear hgg
    obtain ⟨re, im⟩ := x
    obtain ⟨r0, r1⟩ := g
    simp only at h1 h2 HG2
    go_wp2_with fail
    refine (HG2.out _).mono ?_
    rintro e w2 ⟨rfl, hg2⟩
    have hC2 := (hC.alloc (.cells #[.int .i64 re, .int .i64 im] 58)).gr hg2
    have hg3 := (hg.alloc #[.int .i64 re, .int .i64 im] 58).trans hg2
    have f2 := hC2.frozen (k * 2)
    have f3 := hC2.frozen (k * 2 + 1)
    have q2 := hC2.cell (k * 2)
    have q3 := hC2.cell (k * 2 + 1)
    rw [Array.getElem?_eq_getElem (show k * 2 < c.size by rw [HS.out]; omega)] at q2
    rw [Array.getElem?_eq_getElem (show k * 2 + 1 < c.size by rw [HS.out]; omega)] at q3
    have hBl := hC2.lt
    clear hC hg2 hg HG2
    go_wp2_with fail
    have hC3 := ((hC2.set (k * 2) (.int .i64 r0)).set (k * 2 + 1) (.int .i64 r1)).alloc (.cells #[.int .i64 r0, .int .i64 r1] 58)
    have hg4 := ((hg3.setCell (a := ⟨wz.heap.size, k * 2, none⟩) hzs (.int .i64 r0)).setCell (a := ⟨wz.heap.size, k * 2 + 1, none⟩) hzs (.int .i64 r1)).alloc #[.int .i64 r0, .int .i64 r1] 58
    go_roundw
    case rel =>
     refine ⟨k + 1, _, by omega, by go_num, hC3, by simpa using HS.out, fun j y hj hy => ?_, hg4⟩
     by_cases e : j = k
     ·subst e
      rw [HXK.out] at hy
      obtain rfl := Option.some.inj hy
      rw [HGG.out]
      constructor
      ·rw [Array.getElem?_setIfInBounds, if_neg (by omega), Array.getElem?_setIfInBounds, if_pos rfl, if_pos (by rw [HS.out]; omega)]
      ·rw [Array.getElem?_setIfInBounds, if_pos rfl, if_pos (by simp only [Array.size_setIfInBounds]; rw [HS.out]; omega)]
     ·have := HJ.out j y (by omega) hy
      constructor
      ·rw [Array.getElem?_setIfInBounds, if_neg (by omega), Array.getElem?_setIfInBounds, if_neg (by omega)]
       exact this.1
      ·rw [Array.getElem?_setIfInBounds, if_neg (by omega), Array.getElem?_setIfInBounds, if_neg (by omega)]
       exact this.2
    case measure => simp [intOf] <;> omega
   ·have he : k = xs.length := by omega
    have HE := Lib.hid he
    clear he
    go_wp2_with fail
    go_ret2
    refine ⟨.slice (some ⟨wz.heap.size, 0, none⟩) xs.length xs.length, rfl, ⟨some ⟨wz.heap.size, 0, none⟩, xs.length, by rw [List.length_map], by rw [List.length_map]; omega, by unfold maxLen; omega, fun _ => ⟨wz.heap.size, 0, rfl, hC.lt, fun j x hx => ?_⟩⟩, hg⟩
    rw [List.getElem?_map] at hx
    obtain ⟨x', hx', rfl⟩ := Option.map_eq_some_iff.1 hx
    have hjl := (List.getElem?_eq_some_iff.1 hx').1
    have := hj j x' (by rw [HE.out]; exact hjl) hx'
    rw [hC.cell, hC.cell, Nat.zero_add]
    exact this
end
end Go.Proofs.YtcgeabpibkejpaaGreat
