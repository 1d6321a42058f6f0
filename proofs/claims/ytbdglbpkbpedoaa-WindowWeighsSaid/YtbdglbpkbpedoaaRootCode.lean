/- What package roots' functions answer. -/
import Derived.Test.YtbdglbpkbpedoaaCircle
import Derived.Test.YtbdglbpkbpedoaaGain
import Derived.Test.YtbdglbpkbpedoaaRef07
import Derived.Test.YtbdglbpkbpedoaaCxs
import Derived.Deep.OwnRows
namespace Go.Proofs.Ytbdglbpkbpedoaa
open Go.ChangeShapes Go.WideShapes Go.ChangeAt Go.RowKit
set_option linter.unusedVariables false
set_option maxRecDepth 100000

theorem mayBe07_yes (log b : Int) (h0 : 2 ≤ log) (h1 : log ≤ 6) (b0 : 0 ≤ b) (b1 : b ≤ 40) (w : World) :
    Calls Try.prog 31 #[.int .i64 log, .int .i64 b] w fun e w' => e = .returned (.bool true) ∧ w' = w := by
  go_enter Try.func31, Try.ntmps31
  go_wp2_with fail
  go_ret
  exact ⟨rfl, rfl⟩

theorem mayBe07_no (log b : Int) (h : log < 2 ∨ 6 < log ∨ b < 0 ∨ 40 < b) (w : World) :
    Calls Try.prog 31 #[.int .i64 log, .int .i64 b] w fun e w' => e = .returned (.bool false) ∧ w' = w := by
  by_cases a1 : 2 ≤ log
  · by_cases a2 : log ≤ 6
    · by_cases a3 : 0 ≤ b
      · have a4 : ¬ b ≤ 40 := by omega
        clear h
        go_enter Try.func31, Try.ntmps31
        go_wp2_with fail
        go_ret
        exact ⟨by simp, rfl⟩
      · clear h
        go_enter Try.func31, Try.ntmps31
        go_wp2_with fail
        go_ret
        exact ⟨by simp, rfl⟩
    · clear h
      go_enter Try.func31, Try.ntmps31
      go_wp2_with fail
      go_ret
      exact ⟨by simp, rfl⟩
  · clear h
    go_enter Try.func31, Try.ntmps31
    go_wp2_with fail
    go_ret
    exact ⟨by simp, rfl⟩

theorem rEighth_c (k log : Int) (h0 : 0 ≤ log) (h1 : log ≤ 6) (k0 : 0 ≤ k) (k1 : k ≤ 2 ^ log.toNat) (w : World) :
    Calls Try.prog 73 #[.int .i64 k, .int .i64 log] w fun e w' => e = .returned (.agg #[.int .i64 (ptG (eighthZ k log)).re, .int .i64 (ptG (eighthZ k log)).im]) ∧ Gr w w' := by
  have HE := Lib.hid (eighth_ok k log h0 h1 k0 k1)
  unfold EiIs at HE
  unfold ptG
  clear h0 h1 k0 k1
  generalize pt (eighthZ k log) = s at *
  obtain ⟨re, im, left⟩ := s
  simp only at HE ⊢
  go_enter Try.func73, Try.ntmps73
  go_wp2_with fail
  have R0 := CellsAt.new w 57 #[.int .i64 0, .int .i64 0]
  have gw0 := (Gr.refl w).alloc #[.int .i64 0, .int .i64 0] 57
  refine (HE.out _).mono ?_
  rintro e w1 ⟨rfl, g1⟩
  have R1 := (R0.gr g1).alloc (.cells #[.int .i64 re, .int .i64 im] 57)
  have gw1 := gw0.trans g1
  have hsz := gw1.size
  have gw2 := gw1.alloc #[.int .i64 re, .int .i64 im] 57
  have c0 := R1.cell 0
  have c1 := R1.cell 1
  have f0 := R1.frozen 0
  have f1 := R1.frozen 1
  simp only [List.getElem?_toArray, List.getElem?_cons_zero, List.getElem?_cons_succ] at c0 c1
  clear R0 gw0 g1 gw1
  go_wp2_with fail
  refine bodyPost_ret (v := .agg #[.int .i64 re, .int .i64 im]) ?_ rfl ⟨rfl, ?_⟩
  · simp [results, Try.f73, go_sem, c0, c1]
  · exact (gw2.setCell (a := ⟨w.heap.size, 0, none⟩) (by simp) _).setCell (a := ⟨w.heap.size, 1, none⟩) (by simp) _

set_option maxHeartbeats 4000000 in
theorem rPoint_c (log u n : Int) (l0 : 2 ≤ log) (l1 : log ≤ 6) (hn : n = 2 ^ log.toNat) (u0 : 0 ≤ u) (u1 : u < n) (w : World) :
    Calls Try.prog 56 #[.int .i64 u, .int .i64 log] w fun e w' => e = .returned (.agg #[.int .i64 (rpt n u).re, .int .i64 (rpt n u).im]) ∧ Gr w w' := by
  have hl := len_log n log l0 l1 hn
  have hn4 : 4 ≤ n ∧ n ≤ 64 := by rcases hl with rfl | rfl | rfl | rfl | rfl <;> omega
  have HE := Lib.hid fun (j : Int) (j0 : 0 ≤ j) (j1 : j ≤ n) => rEighth_c j log (by omega) l1 j0 (by rw [← hn]; exact j1)
  have he := hn.symm
  have hw2 : IntKind.i64.wrap n = n := IntWalk.i64_in _ ⟨by omega, by omega⟩
  by_cases a : 2 * u < n
  · have HE1 := Lib.hid (HE.out (2 * u) (by omega) (by omega))
    have er : (rpt n u) = ptG (eighthZ (2 * u) log) := by unfold rpt rptF; rw [if_pos a, eighthZ_eq, ← hn]
    rw [er]
    clear er HE
    generalize ptG (eighthZ (2 * u) log) = s at *
    obtain ⟨re, im⟩ := s
    simp only at HE1 ⊢
    clear hl hn
    go_enter Try.func56, Try.ntmps56
    go_wp2_with fail
    have R0 := CellsAt.new w 57 #[.int .i64 0, .int .i64 0]
    have gw0 := (Gr.refl w).alloc #[.int .i64 0, .int .i64 0] 57
    refine (HE1.out _).mono ?_
    rintro e w2 ⟨rfl, g2⟩
    have R1 := R0.gr g2
    have gw := gw0.trans g2
    have hsz := gw.size
    have c0 := R1.cell 0
    have c1 := R1.cell 1
    have f0 := R1.frozen 0
    have f1 := R1.frozen 1
    simp only [List.getElem?_toArray, List.getElem?_cons_zero, List.getElem?_cons_succ] at c0 c1
    clear R0 gw0 g2
    go_wp2_with fail
    refine bodyPost_ret (v := .agg #[.int .i64 re, .int .i64 im]) ?_ rfl ⟨rfl, ?_⟩
    · simp [results, Try.f56, go_sem, c0, c1]
    · exact (gw.setCell (a := ⟨w.heap.size, 0, none⟩) (by simp) _).setCell (a := ⟨w.heap.size, 1, none⟩) (by simp) _
  · by_cases b : n < 2 * u
    · have HE1 := Lib.hid (HE.out (2 * (n - u)) (by omega) (by omega))
      have er : (rpt n u) = (ptG (eighthZ (2 * (n - u)) log)).swap := by unfold rpt rptF; rw [if_neg a, if_pos b, eighthZ_eq, ← hn]
      rw [er]
      clear er HE
      generalize ptG (eighthZ (2 * (n - u)) log) = s at *
      obtain ⟨re, im⟩ := s
      simp only [Gi.swap] at HE1 ⊢
      clear hl hn
      go_enter Try.func56, Try.ntmps56
      go_wp2_with fail
      have R0 := CellsAt.new w 57 #[.int .i64 0, .int .i64 0]
      have gw0 := (Gr.refl w).alloc #[.int .i64 0, .int .i64 0] 57
      refine (HE1.out _).mono ?_
      rintro e w2 ⟨rfl, g2⟩
      have R1 := (R0.gr g2).alloc (.cells #[.int .i64 re, .int .i64 im] 57)
      have gw := gw0.trans g2
      have hsz := gw.size
      have gw3 := gw.alloc #[.int .i64 re, .int .i64 im] 57
      have c0 := R1.cell 0
      have c1 := R1.cell 1
      have f0 := R1.frozen 0
      have f1 := R1.frozen 1
      simp only [List.getElem?_toArray, List.getElem?_cons_zero, List.getElem?_cons_succ] at c0 c1
      clear R0 gw0 g2 gw
      go_wp2_with fail
      refine bodyPost_ret (v := .agg #[.int .i64 im, .int .i64 re]) ?_ rfl ⟨rfl, ?_⟩
      · simp [results, Try.f56, go_sem, c0, c1]
      · exact (gw3.setCell (a := ⟨w.heap.size, 0, none⟩) (by simp) _).setCell (a := ⟨w.heap.size, 1, none⟩) (by simp) _
    · have HE1 := Lib.hid (HE.out n (by omega) (by omega))
      have er : (rpt n u) = ⟨(ptG (eighthZ n log)).re, (ptG (eighthZ n log)).re⟩ := by unfold rpt rptF; rw [if_neg a, if_neg b, eighthZ_eq, ← hn]
      rw [er]
      clear er HE
      generalize ptG (eighthZ n log) = s at *
      obtain ⟨re, im⟩ := s
      simp only at HE1 ⊢
      clear hl hn
      go_enter Try.func56, Try.ntmps56
      go_wp2_with fail
      have R0 := CellsAt.new w 57 #[.int .i64 0, .int .i64 0]
      have gw0 := (Gr.refl w).alloc #[.int .i64 0, .int .i64 0] 57
      refine (HE1.out _).mono ?_
      rintro e w2 ⟨rfl, g2⟩
      have R1 := R0.gr g2
      have gw := gw0.trans g2
      have hsz := gw.size
      have c0 := R1.cell 0
      have c1 := R1.cell 1
      have f0 := R1.frozen 0
      have f1 := R1.frozen 1
      simp only [List.getElem?_toArray, List.getElem?_cons_zero, List.getElem?_cons_succ] at c0 c1
      clear R0 gw0 g2 HE1 a b u0 u1 he hw2 hn4 l0 l1
      have hfr : ∀ W, (Instr.field 57 (.agg #[.int .i64 re, .int .i64 im]) 0).run Try.prog W = .ok (.int .i64 re) W := field_Re re im
      go_wp2_with fail
      refine bodyPost_ret (v := .agg #[.int .i64 re, .int .i64 re]) ?_ rfl ⟨rfl, ?_⟩
      · simp [results, Try.f56, go_sem, c0, c1]
      · exact (gw.setCell (a := ⟨w.heap.size, 0, none⟩) (by simp) _).setCell (a := ⟨w.heap.size, 1, none⟩) (by simp) _

set_option maxHeartbeats 8000000 in
theorem rRootOf_c (log k n bt : Int) (l0 : 2 ≤ log) (l1 : log ≤ 6) (hn : n = 2 ^ log.toNat) (b0 : 0 ≤ bt) (b1 : bt ≤ 40) (w : World) :
    Calls Try.prog 33 #[.int .i64 log, .int .i64 k, .int .i64 bt] w fun e w' => e = .returned (.agg #[.int .i64 (rootG n k (56 - bt).toNat).re, .int .i64 (rootG n k (56 - bt).toNat).im]) ∧ Gr w w' := by
  have hl := len_log n log l0 l1 hn
  have hn4 : 4 ≤ n ∧ n ≤ 64 := by rcases hl with rfl | rfl | rfl | rfl | rfl <;> omega
  have hu := len_u n k hl
  have hbd := rpt_bd n _ hl hu.1 hu.2.1
  have HPt := Lib.hid (rPoint_c log (4 * (k % n) % n) n l0 l1 hn hu.1 hu.2.1)
  have hand : bits .and .i64 k (n - 1) = k % n := by rw [hn]; exact bits_mask k log.toNat (by omega)
  unfold rootG
  generalize hr : k % n = r at *
  have hrem : (4 * r).tmod n = 4 * r % n := Int.tmod_eq_emod_of_nonneg (by omega)
  have hquo : (4 * r).tdiv n = 4 * r / n := Int.tdiv_eq_ediv_of_nonneg (by omega)
  have hz : ¬ n = 0 := by omega
  have hz2 : (n == 0) = false := by simp; omega
  have hq4 : 0 ≤ 4 * r / n ∧ 4 * r / n < 4 := ⟨hu.2.2.1, hu.2.2.2.1⟩
  generalize 4 * r % n = u at *
  generalize 4 * r / n = q at *
  generalize hp : rpt n u = p at *
  have HS := Lib.hid (cxshift_ok p.re p.im (56 - bt) 1 (by omega) (by omega) (by omega) (by omega) (by omega) (by omega))
  have hs := And.intro (rnd_top p.re (56 - bt).toNat (by omega) (by omega) hbd.1) (rnd_top p.im (56 - bt).toNat (by omega) (by omega) hbd.2)
  have hM : (2 : Nat) ^ (56 - (56 - bt).toNat) ≤ 1099511627776 := by
    have : (2 : Nat) ^ (56 - (56 - bt).toNat) ≤ 2 ^ 40 := Nat.pow_le_pow_right (by decide) (by omega)
    omega
  have es : rsh (56 - bt).toNat p = ⟨rnd p.re (56 - bt).toNat 1, rnd p.im (56 - bt).toNat 1⟩ := rfl
  have hq : (rsh (56 - bt).toNat p).re.natAbs ≤ 1099511627776 ∧ (rsh (56 - bt).toNat p).im.natAbs ≤ 1099511627776 := by rw [es]; simp only; omega
  have HS' : Hid (∀ W, Calls Try.prog 57 #[.agg #[.int .i64 p.re, .int .i64 p.im], .int .i64 (56 - bt), .int .i64 1] W fun e w' => e = .returned (.tuple #[.agg #[.int .i64 (rsh (56 - bt).toNat p).re, .int .i64 (rsh (56 - bt).toNat p).im], .int .i64 0]) ∧ Gr W w') := HS
  clear HS es hs hM
  generalize rsh (56 - bt).toNat p = g at *
  have HT := Lib.hid (cxturn_gi g q (by omega))
  have hq2 := turn_bd q g _ hq
  generalize g.turn q = g2 at *
  have HC := Lib.hid (cxconj_gi g2 (by omega))
  generalize g2.conj = g3 at *
  obtain ⟨px, py⟩ := p
  obtain ⟨gx, gy⟩ := g
  obtain ⟨hx, hy⟩ := g2
  obtain ⟨ix, iy⟩ := g3
  simp only at HPt HS' HT HC ⊢
  have rb : 0 ≤ r ∧ r < 64 := by omega
  have hm4 : IntKind.i64.wrap (4 * r) = 4 * r := IntWalk.i64_in _ ⟨by omega, by omega⟩
  have hm56 : IntKind.i64.wrap (56 - bt) = 56 - bt := IntWalk.i64_in _ ⟨by omega, by omega⟩
  have hn1 : IntKind.i64.wrap (n - 1) = n - 1 := IntWalk.i64_in _ ⟨by omega, by omega⟩
  have hw2 : IntKind.i64.wrap n = n := IntWalk.i64_in _ ⟨by omega, by omega⟩
  have he := hn.symm
  have hwq : IntKind.i64.wrap q = q := IntWalk.i64_in _ ⟨by omega, by omega⟩
  have HQ := Lib.hid hquo
  clear hl hbd hu hr hp hq hq2 hn hquo
  go_enter Try.func33, Try.ntmps33
  go_wp2_with fail
  have R0 := CellsAt.new w 57 #[.int .i64 0, .int .i64 0]
  have gw0 := (Gr.refl w).alloc #[.int .i64 0, .int .i64 0] 57
  refine (HPt.out _).mono ?_
  rintro e w1 ⟨rfl, g1⟩
  have R1 := (R0.gr g1).alloc (.cells #[.int .i64 px, .int .i64 py] 57)
  have P1 := CellsAt.new w1 57 #[.int .i64 px, .int .i64 py]
  have gw1 := (gw0.trans g1).alloc #[.int .i64 px, .int .i64 py] 57
  have hlt : w.heap.size < w1.heap.size := by have := g1.size; simp at this; omega
  have hsz1 : w1.heap.size < (w1.alloc (.cells #[.int .i64 px, .int .i64 py] 57)).heap.size := by simp
  clear R0 gw0 g1 HPt hand hrem hn1 hw2 he
  go_wp2_with fail
  generalize w1.alloc (.cells #[.int .i64 px, .int .i64 py] 57) = u1 at *
  generalize w1.heap.size = B at *
  refine (HS'.out _).mono ?_
  rintro e w2 ⟨rfl, g2⟩
  have R2 := ((R1.gr g2).other (B' := B) (by omega) 0 (.int .i64 gx)).other (B' := B) (by omega) 1 (.int .i64 gy)
  have P2' := P1.gr g2
  have p0 := P2'.cell 0
  have p1 := P2'.cell 1
  have pf0 := P2'.frozen 0
  have pf1 := P2'.frozen 1
  have P2 := (P2'.set 0 (.int .i64 gx)).set 1 (.int .i64 gy)
  have gw2 := ((gw1.trans g2).setCell (a := ⟨B, 0, none⟩) (by simp; omega) (.int .i64 gx)).setCell (a := ⟨B, 1, none⟩) (by simp; omega) (.int .i64 gy)
  simp only [List.getElem?_toArray, List.getElem?_cons_zero, List.getElem?_cons_succ, List.setIfInBounds_toArray, List.set_cons_zero, List.set_cons_succ] at p0 p1 P2
  clear R1 P1 gw1 g2 P2' HS' hm56
  go_wp2_with fail
  generalize (w2.setCell ⟨B, 0, none⟩ (.int .i64 gx)).setCell ⟨B, 1, none⟩ (.int .i64 gy) = u2 at *
  have q0 := P2.cell 0
  have q1 := P2.cell 1
  have ql := P2.lt
  simp only [List.getElem?_toArray, List.getElem?_cons_zero, List.getElem?_cons_succ] at q0 q1
  have hquo := HQ.out
  clear hsz1 hn4 rb hq4
  refine wp_region_held_drew (S := fun _ => True) rfl trivial (fun hS => ?_)
  refine wpAnyH_take (i := 1) (v := ?_) rfl (by kernel_rfl) (by kernel_rfl) (by kernel_rfl) (fun _ _ _ h => h) (Or.inl ⟨by rfl, ?_⟩) (by assumption) ?_
  rotate_left
  · (intro w hSw; (try dsimp only at hSw); go_split_ands; go_simp; try with_reducible rfl)
  try simp only [Act.put, List.setIfInBounds_toArray, List.set_cons_zero, List.set_cons_succ, List.getElem_toArray, List.getElem_cons_zero, List.getElem_cons_succ]
  refine wpAnyH_take (i := 2) (v := ?_) rfl (by kernel_rfl) (by kernel_rfl) (by kernel_rfl) (fun _ _ _ h => h) (Or.inl ⟨by rfl, ?_⟩) (by assumption) ?_
  rotate_left
  · (intro w hSw; (try dsimp only at hSw); go_split_ands; go_simp; try with_reducible rfl)
  try simp only [Act.put, List.setIfInBounds_toArray, List.set_cons_zero, List.set_cons_succ, List.getElem_toArray, List.getElem_cons_zero, List.getElem_cons_succ]
  refine wpAnyH_take (i := 3) (v := ?_) rfl (by kernel_rfl) (by kernel_rfl) (by kernel_rfl) (fun _ _ _ h => h) (Or.inl ⟨by rfl, ?_⟩) (by assumption) ?_
  rotate_left
  · (intro w hSw; (try dsimp only at hSw); go_split_ands; go_simp; try with_reducible rfl)
  try simp only [Act.put, List.setIfInBounds_toArray, List.set_cons_zero, List.set_cons_succ, List.getElem_toArray, List.getElem_cons_zero, List.getElem_cons_succ]
  refine wpAnyH_take (i := 4) (v := ?_) rfl (by kernel_rfl) (by kernel_rfl) (by kernel_rfl) (fun _ _ _ h => h) (Or.inl ⟨by rfl, ?_⟩) (by assumption) ?_
  rotate_left
  · (intro w hSw; (try dsimp only at hSw); go_split_ands; go_simp; try with_reducible rfl)
  try simp only [Act.put, List.setIfInBounds_toArray, List.set_cons_zero, List.set_cons_succ, List.getElem_toArray, List.getElem_cons_zero, List.getElem_cons_succ]
  refine wpAnyH_ready (rs := [0]) (by kernel_rfl) (by simp) ?_
  refine AllReadyH.cons rfl (fun K hK => ?_) AllReadyH.nil
  go_simp
  refine hK.out _ _ ?_ (fun hHeld => ?_)
  · (trivial)
  clear hK K
  try simp only [Act.put, List.setIfInBounds_toArray, List.set_cons_zero, List.set_cons_succ, List.getElem_toArray, List.getElem_cons_zero, List.getElem_cons_succ]
  refine wpAnyH_ready (rs := [5]) (by kernel_rfl) (by simp) ?_
  refine AllReadyH.cons rfl (fun K hK => ?_) AllReadyH.nil
  go_simp
  refine (HT.out _).mono ?_
  rintro e w3 ⟨rfl, g3⟩
  refine hK.out _ _ ?_ (fun hHeld => ?_)
  · (trivial)
  clear hK K
  try simp only [Act.put, List.setIfInBounds_toArray, List.set_cons_zero, List.set_cons_succ, List.getElem_toArray, List.getElem_cons_zero, List.getElem_cons_succ]
  refine wpAnyH_take (i := 6) (v := ?_) rfl (by kernel_rfl) (by kernel_rfl) (by kernel_rfl) (fun _ _ _ h => h) (Or.inl ⟨by rfl, ?_⟩) (by assumption) ?_
  rotate_left
  · (intro w hSw; (try dsimp only at hSw); go_split_ands; go_simp; try with_reducible rfl)
  try simp only [Act.put, List.setIfInBounds_toArray, List.set_cons_zero, List.set_cons_succ, List.getElem_toArray, List.getElem_cons_zero, List.getElem_cons_succ]
  refine wpAnyH_take (i := 7) (v := ?_) rfl (by kernel_rfl) (by kernel_rfl) (by kernel_rfl) (fun _ _ _ h => h) (Or.inl ⟨by rfl, ?_⟩) (by assumption) ?_
  rotate_left
  · (intro w hSw; (try dsimp only at hSw); go_split_ands; go_simp; try with_reducible rfl)
  try simp only [Act.put, List.setIfInBounds_toArray, List.set_cons_zero, List.set_cons_succ, List.getElem_toArray, List.getElem_cons_zero, List.getElem_cons_succ]
  refine wpAnyH_take (i := 8) (v := ?_) rfl (by kernel_rfl) (by kernel_rfl) (by kernel_rfl) (fun _ _ _ h => h) (Or.inl ⟨by rfl, ?_⟩) (by assumption) ?_
  rotate_left
  · (intro w hSw; (try dsimp only at hSw); go_split_ands; go_simp; try with_reducible rfl)
  try simp only [Act.put, List.setIfInBounds_toArray, List.set_cons_zero, List.set_cons_succ, List.getElem_toArray, List.getElem_cons_zero, List.getElem_cons_succ]
  have R3 := R2.gr ((Gr.refl u2).drew.trans g3)
  have P3' := P2.gr ((Gr.refl u2).drew.trans g3)
  have gw3' := gw2.trans ((Gr.refl u2).drew.trans g3)
  have s0 := P3'.cell 0
  have s1 := P3'.cell 1
  have sf0 := P3'.frozen 0
  have sf1 := P3'.frozen 1
  have R4 := (R3.other (B' := B) (by omega) 0 (.int .i64 hx)).other (B' := B) (by omega) 1 (.int .i64 hy)
  have P4 := (P3'.set 0 (.int .i64 hx)).set 1 (.int .i64 hy)
  have gw4 := (gw3'.setCell (a := ⟨B, 0, none⟩) (by simp; omega) (.int .i64 hx)).setCell (a := ⟨B, 1, none⟩) (by simp; omega) (.int .i64 hy)
  simp only [List.getElem?_toArray, List.getElem?_cons_zero, List.getElem?_cons_succ, List.setIfInBounds_toArray, List.set_cons_zero, List.set_cons_succ] at s0 s1 P4
  clear R2 P2 gw2 R3 P3' gw3' q0 q1 ql
  refine wpAnyH_ready (rs := [9]) (by kernel_rfl) (by simp) ?_
  refine AllReadyH.cons rfl (fun K hK => ?_) AllReadyH.nil
  go_simp
  refine hK.out _ _ ?_ (fun hHeld => ?_)
  · (trivial)
  clear hK K
  try simp only [Act.put, List.setIfInBounds_toArray, List.set_cons_zero, List.set_cons_succ, List.getElem_toArray, List.getElem_cons_zero, List.getElem_cons_succ]
  refine wpAnyH_done (by kernel_rfl) ?_ _
  generalize (w3.setCell ⟨B, 0, none⟩ (.int .i64 hx)).setCell ⟨B, 1, none⟩ (.int .i64 hy) = u4 at *
  have v0 := P4.cell 0
  have v1 := P4.cell 1
  have vl := P4.lt
  simp only [List.getElem?_toArray, List.getElem?_cons_zero, List.getElem?_cons_succ] at v0 v1
  clear hHeld s0 s1 sf0 sf1 HT hz hz2 hwq HQ hm4 p0 p1 pf0 pf1 hquo g3
  go_wp2_with fail
  refine (HC.out _).mono ?_
  rintro e w5 ⟨rfl, g5⟩
  have R5' := R4.gr g5
  have P5' := P4.gr g5
  have gw5' := gw4.trans g5
  have s0 := P5'.cell 0
  have s1 := P5'.cell 1
  have sf0 := P5'.frozen 0
  have sf1 := P5'.frozen 1
  have R5 := (R5'.other (B' := B) (by omega) 0 (.int .i64 ix)).other (B' := B) (by omega) 1 (.int .i64 iy)
  have P5 := (P5'.set 0 (.int .i64 ix)).set 1 (.int .i64 iy)
  have gw5 := (gw5'.setCell (a := ⟨B, 0, none⟩) (by simp; omega) (.int .i64 ix)).setCell (a := ⟨B, 1, none⟩) (by simp; omega) (.int .i64 iy)
  simp only [List.getElem?_toArray, List.getElem?_cons_zero, List.getElem?_cons_succ, List.setIfInBounds_toArray, List.set_cons_zero, List.set_cons_succ] at s0 s1 P5
  have k0 := P5.cell 0
  have k1 := P5.cell 1
  have c0 := R5.cell 0
  have c1 := R5.cell 1
  have f0 := R5.frozen 0
  have f1 := R5.frozen 1
  have kl := P5'.lt
  simp only [List.getElem?_toArray, List.getElem?_cons_zero, List.getElem?_cons_succ] at k0 k1 c0 c1
  clear R4 P4 gw4 R5' P5' gw5' R5 P5 HC v0 v1 vl g5
  go_wp2_with fail
  refine bodyPost_ret (v := .agg #[.int .i64 ix, .int .i64 iy]) ?_ rfl ⟨rfl, ?_⟩
  · simp [results, Try.f33, go_sem, c0, c1]
  · exact (gw5.setCell (a := ⟨w.heap.size, 0, none⟩) (by simp) _).setCell (a := ⟨w.heap.size, 1, none⟩) (by simp) _

/-- The closure that tells a root. -/
theorem rTable1_c (p q : Nat) (log k n bt : Int) (l0 : 2 ≤ log) (l1 : log ≤ 6) (hn : n = 2 ^ log.toNat) (b0 : 0 ≤ bt) (b1 : bt ≤ 40) (w : World)
    (c0 : w.cell? ⟨p, 0, none⟩ = some (.int .i64 log)) (c1 : w.cell? ⟨q, 0, none⟩ = some (.int .i64 bt)) (lp : p < w.heap.size) (lq : q < w.heap.size) :
    Calls Try.prog 32 #[.int .i64 k, .pointer (some ⟨p, 0, none⟩), .pointer (some ⟨q, 0, none⟩)] w fun e w' => e = .returned (.agg #[.int .i64 (rootG n k (56 - bt).toNat).re, .int .i64 (rootG n k (56 - bt).toNat).im]) ∧ Gr w w' := by
  have HR := Lib.hid (rRootOf_c log k n bt l0 l1 hn b0 b1)
  clear l0 l1 hn b0 b1
  generalize rootG n k (56 - bt).toNat = s at *
  obtain ⟨re, im⟩ := s
  simp only at HR ⊢
  go_enter Try.func32, Try.ntmps32
  go_wp2_with fail
  have R0 := CellsAt.new w 57 #[.int .i64 0, .int .i64 0]
  have gw0 := (Gr.refl w).alloc #[.int .i64 0, .int .i64 0] 57
  refine (HR.out _).mono ?_
  rintro e w1 ⟨rfl, g1⟩
  have R1 := R0.gr g1
  have gw := gw0.trans g1
  have hsz := gw.size
  have d0 := R1.cell 0
  have d1 := R1.cell 1
  have f0 := R1.frozen 0
  have f1 := R1.frozen 1
  simp only [List.getElem?_toArray, List.getElem?_cons_zero, List.getElem?_cons_succ] at d0 d1
  clear R0 gw0 g1 c0 c1
  go_wp2_with fail
  refine bodyPost_ret (v := .agg #[.int .i64 re, .int .i64 im]) ?_ rfl ⟨rfl, ?_⟩
  · simp [results, Try.f32, go_sem, d0, d1]
  · exact (gw.setCell (a := ⟨w.heap.size, 0, none⟩) (by simp) _).setCell (a := ⟨w.heap.size, 1, none⟩) (by simp) _

set_option maxHeartbeats 2000000 in
theorem rGathered_c (p q : Nat) (log n bt : Int) (l0 : 2 ≤ log) (l1 : log ≤ 6) (hn : n = 2 ^ log.toNat) (b0 : 0 ≤ bt) (b1 : bt ≤ 40) (w : World)
    (c0 : w.cell? ⟨p, 0, none⟩ = some (.int .i64 log)) (c1 : w.cell? ⟨q, 0, none⟩ = some (.int .i64 bt)) (lp : p < w.heap.size) (lq : q < w.heap.size) :
    Calls Try.prog 34 #[.int .i64 n, .func (.func 32) #[] #[.pointer (some ⟨p, 0, none⟩), .pointer (some ⟨q, 0, none⟩)]] w fun e w' => ∃ v, e = .returned v ∧ CxsAt w' v (rootsL n (56 - bt).toNat) ∧ Gr w w' := by
  have hl := len_log n log l0 l1 hn
  have hn4 : 4 ≤ n ∧ n ≤ 64 := by rcases hl with rfl | rfl | rfl | rfl | rfl <;> omega
  obtain ⟨N, hN⟩ : ∃ N : Nat, (N : Int) = n := ⟨n.toNat, by omega⟩
  have HF := Lib.hid fun (k : Int) W (gv : Gr w W) => rTable1_c p q log k n bt l0 l1 hn b0 b1 W ((gv.cell (p := ⟨p, 0, none⟩) lp).trans c0) ((gv.cell (p := ⟨q, 0, none⟩) lq).trans c1) (Nat.lt_of_lt_of_le lp gv.size) (Nat.lt_of_lt_of_le lq gv.size)
  have hmk := run_make_cx N (by omega)
  have hrl : rootsL n (56 - bt).toNat = (List.range N).map (fun k : Nat => rootG n (k : Int) (56 - bt).toNat) := by unfold rootsL; rw [← hN, Int.toNat_natCast]
  rw [hrl]
  clear hl l0 l1 hn b0 b1 c0 c1 hrl
  generalize (56 - bt).toNat = s at *
  rw [hN] at hmk
  go_enter Try.func34, Try.ntmps34
  go_wp2_with fail
  have M0 := CellsAt.new w 57 (madeCells #[.int .i64 0, .int .i64 0] (N * 2))
  have M1 := size_madeCells #[.int .i64 0, .int .i64 0] (N * 2)
  go_loopw [6, 11] (fun _ i wr => ∃ k : Nat, ∃ c : Array Value, k ≤ N ∧ i = .int .i64 k ∧ CellsAt wr w.heap.size 57 c ∧ c.size = N * 2 ∧ (∀ j, j < k → c[j * 2]? = some (.int .i64 (rootG n (j : Int) s).re) ∧ c[j * 2 + 1]? = some (.int .i64 (rootG n (j : Int) s).im)) ∧ Gr w wr)
    (fun _ i _ => N - (intOf i).toNat)
  case atStart => exact ⟨0, _, by omega, rfl, M0, M1, fun j hj => absurd hj (Nat.not_lt_zero _), (Gr.refl _).alloc _ _⟩
  case round =>
    clear M0 M1 hmk
    obtain ⟨k, c, hk, rfl, hC, hs, hj, hg⟩ := hrel
    by_cases hlt : k < N
    · have HA := Lib.hid (HF.out k)
      have HS := Lib.hid hs
      have HJ := Lib.hid hj
      clear hs hj
      generalize hgg : rootG n (k : Int) s = g at *
      have HG := Lib.hid hgg
      clear hgg
      obtain ⟨re, im⟩ := g
      simp only at HA
      go_wp2_with fail
      refine (HA.out _ hg).mono ?_
      rintro e w2 ⟨rfl, hg2⟩
      have hC2 := hC.gr hg2
      have f2 := hC2.frozen (k * 2)
      have f3 := hC2.frozen (k * 2 + 1)
      have q2 := hC2.cell (k * 2)
      have q3 := hC2.cell (k * 2 + 1)
      have hg3 := hg.trans hg2
      rw [Array.getElem?_eq_getElem (show k * 2 < c.size by rw [HS.out]; omega)] at q2
      rw [Array.getElem?_eq_getElem (show k * 2 + 1 < c.size by rw [HS.out]; omega)] at q3
      have hBl := hC2.lt
      clear hC hg2 hg HA
      go_wp2_with fail
      have hC3 := (hC2.set (k * 2) (.int .i64 re)).set (k * 2 + 1) (.int .i64 im)
      have hg4 := (hg3.setCell (a := ⟨w.heap.size, k * 2, none⟩) (by simp) (.int .i64 re)).setCell (a := ⟨w.heap.size, k * 2 + 1, none⟩) (by simp) (.int .i64 im)
      go_roundw
      case rel =>
        refine ⟨k + 1, _, by omega, by go_num, hC3, by simpa using HS.out, fun j hj => ?_, hg4⟩
        by_cases e : j = k
        · subst e
          rw [HG.out]
          constructor
          · rw [Array.getElem?_setIfInBounds, if_neg (by omega), Array.getElem?_setIfInBounds, if_pos rfl, if_pos (by rw [HS.out]; omega)]
          · rw [Array.getElem?_setIfInBounds, if_pos rfl, if_pos (by simp only [Array.size_setIfInBounds]; rw [HS.out]; omega)]
        · have := HJ.out j (by omega)
          constructor
          · rw [Array.getElem?_setIfInBounds, if_neg (by omega), Array.getElem?_setIfInBounds, if_neg (by omega)]
            exact this.1
          · rw [Array.getElem?_setIfInBounds, if_neg (by omega), Array.getElem?_setIfInBounds, if_neg (by omega)]
            exact this.2
      case measure => simp [intOf]; omega
    · have he : k = N := by omega
      subst he
      go_wp2_with fail
      go_ret
      refine ⟨_, rfl, ?_, hg⟩
      refine ⟨some ⟨w.heap.size, 0, none⟩, k, by simp, by simp, by unfold maxLen; omega, fun _ => ⟨w.heap.size, 0, rfl, hC.lt, fun j x hx => ?_⟩⟩
      rw [List.getElem?_map] at hx
      obtain ⟨j', hj', rfl⟩ := Option.map_eq_some_iff.1 hx
      obtain ⟨hjl, rfl⟩ := List.getElem?_eq_some_iff.1 hj'
      simp only [List.length_range] at hjl
      have := hj j hjl
      rw [hC.cell, hC.cell, Nat.zero_add]
      simpa using this

theorem rTable_ok (log n bt : Int) (l0 : 2 ≤ log) (l1 : log ≤ 6) (hn : n = 2 ^ log.toNat) (b0 : 0 ≤ bt) (b1 : bt ≤ 40) (w : World) :
    Calls Try.prog 17 #[.int .i64 log, .int .i64 bt] w fun e w' => ∃ v, e = .returned (.tuple #[v, .int .i64 0]) ∧ CxsAt w' v (rootsL n (56 - bt).toNat) ∧ Gr w w' := by
  have HM := Lib.hid (mayBe07_yes log bt l0 l1 b0 b1)
  have HG := Lib.hid fun p q W => rGathered_c p q log n bt l0 l1 hn b0 b1 W
  have hl := len_log n log l0 l1 hn
  have hn4 : 4 ≤ n ∧ n ≤ 64 := by rcases hl with rfl | rfl | rfl | rfl | rfl <;> omega
  have he := hn.symm
  have hw2 : IntKind.i64.wrap n = n := IntWalk.i64_in _ ⟨by omega, by omega⟩
  clear hl hn b0 b1
  generalize rootsL n (56 - bt).toNat = xs at *
  go_enter Try.func17, Try.ntmps17
  go_wp2_with (go_at_call 31; refine (HM.out _).mono ?_; rintro e wz ⟨rfl, rfl⟩)
  refine (HG.out _ _ _ ?_ ?_ ?_ ?_).mono ?_
  · exact ((CellsAt.new w 3 #[.int .i64 log]).alloc _).cell 0
  · have := (CellsAt.new (w.alloc (.cells #[.int .i64 log] 3)) 3 #[.int .i64 bt]).cell 0
    rw [World.size_alloc] at this
    exact this
  · simp; omega
  · simp
  rintro e w1 ⟨v, rfl, hx, g1⟩
  go_wp2_with fail
  go_ret2
  exact ⟨v, rfl, hx, (((Gr.refl w).alloc _ _).alloc _ _).trans g1⟩

theorem rTable_bad (log bt : Int) (h : log < 2 ∨ 6 < log ∨ bt < 0 ∨ 40 < bt) (w : World) :
    Calls Try.prog 17 #[.int .i64 log, .int .i64 bt] w fun e w' => e = .returned (.tuple #[.slice none 0 0, .int .i64 1]) ∧ Gr w w' := by
  have HM := Lib.hid (mayBe07_no log bt h)
  clear h
  go_enter Try.func17, Try.ntmps17
  go_wp2_with (go_at_call 31; refine (HM.out _).mono ?_; rintro e wz ⟨rfl, rfl⟩)
  go_ret2
  exact ⟨rfl, ((Gr.refl w).alloc _ _).alloc _ _⟩

end Go.Proofs.Ytbdglbpkbpedoaa
