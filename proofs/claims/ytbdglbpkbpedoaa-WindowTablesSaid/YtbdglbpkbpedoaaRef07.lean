/- What reference 7's functions answer. · What reference 7's point, RootOf and Root answer. · What reference 7's RootOf and Root answer. · What reference 7's Root, Table and Bits answer. -/
import Derived.Test.YtbdglbpkbpedoaaCircle
import Derived.Test.YtbdglbpkbpedoaaCxs
import Derived.Test.YtbdglbpkbpedoaaCx4
import Derived.Test.YtbdglbpkbpedoaaGiCalls
import Derived.Test.YtbdglbpkbpedoaaRoot
import Derived.Test.YtbdglbpkbpedoaaSat
import Derived.Deep.Cut
import Derived.Deep.CutRange
import Derived.Maps.AppendAt
namespace Go.Proofs.Ytbdglbpkbpedoaa
open Go.ChangeShapes Go.WideShapes Go.ChangeAt Go.RowKit
set_option linter.unusedVariables false
set_option maxRecDepth 100000

theorem left07_c (k n : Int) (hn : IsLen n) (wk : -9223372036854775808 ≤ k ∧ k ≤ 9223372036854775807) (w : World) :
    Calls Try.prog 63 #[.int .i64 k, .int .i64 n] w fun e w' => e = .returned (.int .i64 (k % n)) ∧ w' = w := by
  have hn0 : 4 ≤ n ∧ n ≤ 64 := by rcases hn with rfl | rfl | rfl | rfl | rfl <;> omega
  obtain ⟨r, hr⟩ : ∃ r, k.tmod n = r := ⟨_, rfl⟩
  have b1 := Int.lt_tmod_of_pos k (show 0 < n by omega)
  have b2 := Int.tmod_lt_of_pos k (show 0 < n by omega)
  rw [hr] at b1 b2
  have he : (0 ≤ r → k % n = r) ∧ (r < 0 → k % n = r + n) := by
    rw [← hr]
    rcases Int.le_total 0 k with h | h
    · rw [Int.tmod_eq_emod_of_nonneg h]
      have := Int.emod_nonneg k (show n ≠ 0 by omega)
      exact ⟨fun _ => rfl, fun h => absurd this (by omega)⟩
    · have e : k.tmod n = -((-k) % n) := by
        rw [← Int.tmod_eq_emod_of_nonneg (show 0 ≤ -k by omega), Int.neg_tmod, Int.neg_neg]
      rw [e]
      clear hr b1 b2 e
      rcases hn with rfl | rfl | rfl | rfl | rfl <;> omega
  have HZ := Lib.hid hr
  have hz : (n == 0) = false := by simp; omega
  clear wk
  by_cases c : r < 0
  · rw [he.2 c]
    clear he hr
    have hr := HZ.out
    go_enter Try.func63, Try.ntmps63
    go_wp2_with fail
    go_ret
    exact ⟨rfl, rfl⟩
  · rw [he.1 (by omega)]
    clear he hr
    have hr := HZ.out
    go_enter Try.func63, Try.ntmps63
    go_wp2_with fail
    go_ret
    exact ⟨rfl, rfl⟩

theorem may07_yes (log bits : Int) (h0 : 2 ≤ log) (h1 : log ≤ 6) (b0 : 0 ≤ bits) (b1 : bits ≤ 40) (w : World) :
    Calls Try.prog 19 #[.int .i64 log, .int .i64 bits] w fun e w' => e = .returned (.bool true) ∧ w' = w := by
  have HL := Lib.hid (log07_yes log h0 h1)
  go_enter Try.func19, Try.ntmps19
  go_wp2_with (go_at_call 42; refine (HL.out _).mono ?_; rintro e w1 ⟨rfl, rfl⟩)
  go_ret
  exact ⟨rfl, rfl⟩
theorem may07_no (log bits : Int) (h : log < 2 ∨ 6 < log ∨ bits < 0 ∨ 40 < bits) (w : World) :
    Calls Try.prog 19 #[.int .i64 log, .int .i64 bits] w fun e w' => e = .returned (.bool false) ∧ w' = w := by
  by_cases a : 2 ≤ log ∧ log ≤ 6
  · have HL := Lib.hid (log07_yes log a.1 a.2)
    by_cases b : 0 ≤ bits
    · have c : 40 < bits := by omega
      clear h
      go_enter Try.func19, Try.ntmps19
      go_wp2_with (go_at_call 42; refine (HL.out _).mono ?_; rintro e w1 ⟨rfl, rfl⟩)
      go_ret
      exact ⟨by simp; omega, rfl⟩
    · clear h
      go_enter Try.func19, Try.ntmps19
      go_wp2_with (go_at_call 42; refine (HL.out _).mono ?_; rintro e w1 ⟨rfl, rfl⟩)
      go_ret
      exact ⟨by simp, rfl⟩
  · have HL := Lib.hid (log07_no log (by omega))
    clear h
    go_enter Try.func19, Try.ntmps19
    go_wp2_with (go_at_call 42; refine (HL.out _).mono ?_; rintro e w1 ⟨rfl, rfl⟩)
    go_ret
    exact ⟨rfl, rfl⟩

theorem rsh07_c (x y s : Int) (wx : -9223372036854775808 ≤ x ∧ x ≤ 9223372036854775807) (wy : -9223372036854775808 ≤ y ∧ y ≤ 9223372036854775807) (s0 : 0 ≤ s) (s1 : s ≤ 62) (w : World) :
    Calls Try.prog 64 #[.agg #[.int .i64 x, .int .i64 y], .int .i64 s, .int .i64 1] w fun e w' => e = .returned (.agg #[.int .i64 (rnd x s.toNat 1), .int .i64 (rnd y s.toNat 1)]) ∧ Gr w w' := by
  have HX := Lib.hid (refShift_c x s 1 wx s0 s1 (by omega) (by omega))
  have HY := Lib.hid (refShift_c y s 1 wy s0 s1 (by omega) (by omega))
  generalize rnd x s.toNat 1 = r0 at HX ⊢
  generalize rnd y s.toNat 1 = r1 at HY ⊢
  clear wx wy s0 s1
  go_enter Try.func64, Try.ntmps64
  go_wp2_with fail
  go_region_held3 (fun W => W.cell? ⟨w.heap.size, 0, none⟩ = some (.int .i64 x) ∧ W.cell? ⟨w.heap.size, 1, none⟩ = some (.int .i64 y))
    (go_keep)
    (first | (go_at_call 30; ((with_reducible refine (HX.out _).mono ?_); rintro e w' ⟨rfl, rfl⟩)) | (go_at_call 30; ((with_reducible refine (HY.out _).mono ?_); rintro e w' ⟨rfl, rfl⟩)))
  go_wp2
  refine bodyPost_ret (v := .agg #[.int .i64 r0, .int .i64 r1]) ?_ rfl ⟨rfl, ?_⟩
  · simp [results, Try.results64, go_sem]
  · exact by repeat (first | exact Gr.refl _ | assumption | apply Gr.drew | apply Gr.alloc | (refine Gr.setCell ?_ (by first | (simp; done) | (simp; omega)) _))

end Go.Proofs.Ytbdglbpkbpedoaa

namespace Go.Proofs.Ytbdglbpkbpedoaa
open Go.ChangeShapes Go.WideShapes Go.ChangeAt Go.RowKit
set_option linter.unusedVariables false

theorem len_log (n log : Int) (h0 : 2 ≤ log) (h1 : log ≤ 6) (hn : n = 2 ^ log.toNat) : IsLen n := by
  unfold IsLen
  rcases (by omega : log = 2 ∨ log = 3 ∨ log = 4 ∨ log = 5 ∨ log = 6) with rfl | rfl | rfl | rfl | rfl <;> simp at hn <;> omega

set_option maxHeartbeats 4000000 in
theorem point07_c (log u n : Int) (l0 : 2 ≤ log) (l1 : log ≤ 6) (hn : n = 2 ^ log.toNat) (u0 : 0 ≤ u) (u1 : u < n) (v : Value) (w : World) (hv : IntsAt w v angL) :
    Calls Try.prog 65 #[.agg #[v, .int .i64 43757185469210200], .int .i64 log, .int .i64 u] w fun e w' => e = .returned (.agg #[.int .i64 (rpt n u).re, .int .i64 (rpt n u).im]) ∧ Gr w w' := by
  have hl := len_log n log l0 l1 hn
  have hn4 : 4 ≤ n ∧ n ≤ 64 := by rcases hl with rfl | rfl | rfl | rfl | rfl <;> omega
  have HP := Lib.hid (pow_c log (by omega) (by omega))
  rw [← hn] at HP
  have HE := Lib.hid fun (j : Int) (j0 : 0 ≤ j) (j1 : j ≤ n) v W (hI : IntsAt W v angL) => eighthOf06_c j log (by omega) l1 j0 (by rw [← hn]; exact j1) (eighthZ_bd j log (by omega) l1 j0 (by rw [← hn]; exact j1)).1 v W hI
  have J := Lib.hid hv
  obtain ⟨b, o, cap, rfl, hlen, hb, hc⟩ := same_len hv angL_ne'
  rw [angL_len] at J ⊢
  clear hv hlen hc hb
  by_cases a : 2 * u < n
  · have HE1 := Lib.hid (HE.out (2 * u) (by omega) (by omega))
    have er : (rpt n u) = ptG (eighthZ (2 * u) log) := by unfold rpt rptF; rw [if_pos a, eighthZ_eq, ← hn]
    rw [er]
    unfold ptG
    clear er HE
    generalize pt (eighthZ (2 * u) log) = s at *
    obtain ⟨re, im, left⟩ := s
    simp only at HE1 ⊢
    clear hl hn
    go_enter Try.func65, Try.ntmps65
    go_wp2_with (go_at_call 44; refine (HP.out _).mono ?_; rintro e wz ⟨rfl, rfl⟩)
    have R0 := CellsAt.new (w.alloc (.cells #[.slice (some ⟨b, o, none⟩) 45 cap, .int .i64 43757185469210200] 63)) 57 #[.int .i64 0, .int .i64 0]
    rw [World.size_alloc] at R0
    have gu := ((Gr.refl w).alloc #[.slice (some ⟨b, o, none⟩) 45 cap, .int .i64 43757185469210200] 63).alloc #[.int .i64 0, .int .i64 0] 57
    have JU := J.out.gr gu
    refine (HE1.out _ _ JU).mono ?_
    rintro e w2 ⟨rfl, g2⟩
    have R1 := R0.gr g2
    have gw := gu.trans g2
    have hsz := gw.size
    have c0 := R1.cell 0
    have c1 := R1.cell 1
    have f0 := R1.frozen 0
    have f1 := R1.frozen 1
    have l1 := R1.lt
    simp only [List.getElem?_toArray, List.getElem?_cons_zero, List.getElem?_cons_succ] at c0 c1
    clear R0 gu JU g2
    have K := (R1.set 0 (.int .i64 re)).set 1 (.int .i64 im)
    have k0 := K.cell 0
    have k1 := K.cell 1
    simp only [List.setIfInBounds_toArray, List.set_cons_zero, List.set_cons_succ, List.getElem?_toArray, List.getElem?_cons_zero, List.getElem?_cons_succ] at k0 k1
    go_wp2_with fail
    refine bodyPost_ret (v := .agg #[.int .i64 re, .int .i64 im]) ?_ rfl ⟨rfl, ?_⟩
    · simp [results, Try.f65, go_sem, k0, k1]
    · exact (gw.setCell (a := ⟨w.heap.size + 1, 0, none⟩) (by simp) _).setCell (a := ⟨w.heap.size + 1, 1, none⟩) (by simp) _
  · by_cases c : n < 2 * u
    · have HE1 := Lib.hid (HE.out (2 * (n - u)) (by omega) (by omega))
      have er : (rpt n u) = (ptG (eighthZ (2 * (n - u)) log)).swap := by unfold rpt rptF; rw [if_neg a, if_pos c, eighthZ_eq, ← hn]
      rw [er]
      unfold Gi.swap ptG
      clear er HE
      generalize pt (eighthZ (2 * (n - u)) log) = s at *
      obtain ⟨re, im, left⟩ := s
      simp only at HE1 ⊢
      clear hl hn
      go_enter Try.func65, Try.ntmps65
      go_wp2_with (go_at_call 44; refine (HP.out _).mono ?_; rintro e wz ⟨rfl, rfl⟩)
      have R0 := CellsAt.new (w.alloc (.cells #[.slice (some ⟨b, o, none⟩) 45 cap, .int .i64 43757185469210200] 63)) 57 #[.int .i64 0, .int .i64 0]
      rw [World.size_alloc] at R0
      have gu := ((Gr.refl w).alloc #[.slice (some ⟨b, o, none⟩) 45 cap, .int .i64 43757185469210200] 63).alloc #[.int .i64 0, .int .i64 0] 57
      have JU := J.out.gr gu
      refine (HE1.out _ _ JU).mono ?_
      rintro e w2 ⟨rfl, g2⟩
      have R1 := R0.gr g2
      have gw := gu.trans g2
      have hsz := gw.size
      have c0 := R1.cell 0
      have c1 := R1.cell 1
      have f0 := R1.frozen 0
      have f1 := R1.frozen 1
      have l1 := R1.lt
      simp only [List.getElem?_toArray, List.getElem?_cons_zero, List.getElem?_cons_succ] at c0 c1
      clear R0 gu JU g2
      have n1 : w2.heap.size ≠ w.heap.size + 1 := by omega
      have K := ((R1.set 0 (.int .i64 im)).set 1 (.int .i64 re)).alloc (.cells #[.int .i64 re, .int .i64 im] 57)
      have k0 := K.cell 0
      have k1 := K.cell 1
      simp only [List.setIfInBounds_toArray, List.set_cons_zero, List.set_cons_succ, List.getElem?_toArray, List.getElem?_cons_zero, List.getElem?_cons_succ] at k0 k1
      go_wp2_with fail
      refine bodyPost_ret (v := .agg #[.int .i64 im, .int .i64 re]) ?_ rfl ⟨rfl, ?_⟩
      · simp [results, Try.f65, go_sem, k0, k1]
      · exact ((gw.setCell (a := ⟨w.heap.size + 1, 0, none⟩) (by simp) _).setCell (a := ⟨w.heap.size + 1, 1, none⟩) (by simp) _).alloc _ _
    · have HE1 := Lib.hid (HE.out n (by omega) (by omega))
      have er : (rpt n u) = ⟨(ptG (eighthZ n log)).re, (ptG (eighthZ n log)).re⟩ := by unfold rpt rptF; rw [if_neg a, if_neg c, eighthZ_eq, ← hn]
      rw [er]
      unfold ptG
      clear er HE
      generalize pt (eighthZ n log) = s at *
      obtain ⟨re, im, left⟩ := s
      simp only at HE1 ⊢
      clear hl hn
      go_enter Try.func65, Try.ntmps65
      go_wp2_with (go_at_call 44; refine (HP.out _).mono ?_; rintro e wz ⟨rfl, rfl⟩)
      have R0 := CellsAt.new (w.alloc (.cells #[.slice (some ⟨b, o, none⟩) 45 cap, .int .i64 43757185469210200] 63)) 57 #[.int .i64 0, .int .i64 0]
      rw [World.size_alloc] at R0
      have gu := ((Gr.refl w).alloc #[.slice (some ⟨b, o, none⟩) 45 cap, .int .i64 43757185469210200] 63).alloc #[.int .i64 0, .int .i64 0] 57
      have JU := J.out.gr gu
      refine (HE1.out _ _ JU).mono ?_
      rintro e w2 ⟨rfl, g2⟩
      have R1 := R0.gr g2
      have gw := gu.trans g2
      have hsz := gw.size
      have c0 := R1.cell 0
      have c1 := R1.cell 1
      have f0 := R1.frozen 0
      have f1 := R1.frozen 1
      have l1 := R1.lt
      simp only [List.getElem?_toArray, List.getElem?_cons_zero, List.getElem?_cons_succ] at c0 c1
      clear R0 gu JU g2
      have n1 : w2.heap.size ≠ w.heap.size + 1 := by omega
      have K := ((R1.set 0 (.int .i64 re)).set 1 (.int .i64 re)).alloc (.cells #[.int .i64 re, .int .i64 im] 57)
      have k0 := K.cell 0
      have k1 := K.cell 1
      simp only [List.setIfInBounds_toArray, List.set_cons_zero, List.set_cons_succ, List.getElem?_toArray, List.getElem?_cons_zero, List.getElem?_cons_succ] at k0 k1
      go_wp2_with fail
      refine bodyPost_ret (v := .agg #[.int .i64 re, .int .i64 re]) ?_ rfl ⟨rfl, ?_⟩
      · simp [results, Try.f65, go_sem, k0, k1]
      · exact ((gw.setCell (a := ⟨w.heap.size + 1, 0, none⟩) (by simp) _).setCell (a := ⟨w.heap.size + 1, 1, none⟩) (by simp) _).alloc _ _

end Go.Proofs.Ytbdglbpkbpedoaa

namespace Go.Proofs.Ytbdglbpkbpedoaa
open Go.ChangeShapes Go.WideShapes Go.ChangeAt Go.RowKit
set_option linter.unusedVariables false

set_option maxHeartbeats 8000000 in
theorem rootOf07_c (log k n bits : Int) (l0 : 2 ≤ log) (l1 : log ≤ 6) (hn : n = 2 ^ log.toNat) (wk : -9223372036854775808 ≤ k ∧ k ≤ 9223372036854775807) (b0 : 0 ≤ bits) (b1 : bits ≤ 40) (v : Value) (w : World) (hv : IntsAt w v angL) :
    Calls Try.prog 45 #[.agg #[v, .int .i64 43757185469210200], .int .i64 log, .int .i64 k, .int .i64 bits] w fun e w' => e = .returned (.agg #[.int .i64 (rootG n k (56 - bits).toNat).re, .int .i64 (rootG n k (56 - bits).toNat).im]) ∧ Gr w w' := by
  have hl := len_log n log l0 l1 hn
  have hn4 : 4 ≤ n ∧ n ≤ 64 := by rcases hl with rfl | rfl | rfl | rfl | rfl <;> omega
  have hu := len_u n k hl
  have HP := Lib.hid (pow_c log (by omega) (by omega))
  rw [← hn] at HP
  have HL := Lib.hid (left07_c k n hl wk)
  have hbd := rpt_bd n _ hl hu.1 hu.2.1
  have HPt := Lib.hid fun v W (hI : IntsAt W v angL) => point07_c log (4 * (k % n) % n) n l0 l1 hn hu.1 hu.2.1 v W hI
  unfold rootG
  generalize hr : k % n = r at *
  have HL2 := Lib.hid (left07_c (4 * r) n hl (by omega))
  have HD := Lib.hid (refDiv_c (4 * r) n (by omega) (by omega))
  generalize 4 * r % n = u at *
  generalize 4 * r / n = q at *
  generalize hp : rpt n u = p at *
  have HS := Lib.hid (rsh07_c p.re p.im (56 - bits) (by omega) (by omega) (by omega) (by omega))
  have hs := And.intro (rnd_top p.re (56 - bits).toNat (by omega) (by omega) hbd.1) (rnd_top p.im (56 - bits).toNat (by omega) (by omega) hbd.2)
  have hM : (2 : Nat) ^ (56 - (56 - bits).toNat) ≤ 1099511627776 := by
    have : (2 : Nat) ^ (56 - (56 - bits).toNat) ≤ 2 ^ 40 := Nat.pow_le_pow_right (by decide) (by omega)
    omega
  have es : rsh (56 - bits).toNat p = ⟨rnd p.re (56 - bits).toNat 1, rnd p.im (56 - bits).toNat 1⟩ := rfl
  have hq : (rsh (56 - bits).toNat p).re.natAbs ≤ 1099511627776 ∧ (rsh (56 - bits).toNat p).im.natAbs ≤ 1099511627776 := by rw [es]; simp only; omega
  have HS' : Hid (∀ W, Calls Try.prog 64 #[.agg #[.int .i64 p.re, .int .i64 p.im], .int .i64 (56 - bits), .int .i64 1] W fun e w' => e = .returned (.agg #[.int .i64 (rsh (56 - bits).toNat p).re, .int .i64 (rsh (56 - bits).toNat p).im]) ∧ Gr W w') := HS
  clear HS es hs hM
  generalize rsh (56 - bits).toNat p = g at *
  have HT := Lib.hid (rturn_gi g q (by omega))
  have hq2 := turn_bd q g _ hq
  generalize g.turn q = g2 at *
  have HC := Lib.hid (rconj_gi g2 (by omega))
  generalize g2.conj = g3 at *
  obtain ⟨px, py⟩ := p
  obtain ⟨gx, gy⟩ := g
  obtain ⟨hx, hy⟩ := g2
  obtain ⟨ix, iy⟩ := g3
  simp only at HPt HS' HT HC ⊢
  have J := Lib.hid hv
  obtain ⟨b, o, cap, rfl, hlen, hb, hc⟩ := same_len hv angL_ne'
  rw [angL_len] at J ⊢
  have rb : 0 ≤ r ∧ r < 64 := by omega
  have hm4 : IntKind.i64.wrap (4 * r) = 4 * r := IntWalk.i64_in _ ⟨by omega, by omega⟩
  have hm56 : IntKind.i64.wrap (56 - bits) = 56 - bits := IntWalk.i64_in _ ⟨by omega, by omega⟩
  clear hv hlen hc hb hl hbd hu hr hp hq hq2 wk hn
  go_enter Try.func45, Try.ntmps45
  go_wp2_with (first | (go_at_call 44; refine (HP.out _).mono ?_; rintro e wz ⟨rfl, rfl⟩) | (go_at_call 63; refine (HL.out _).mono ?_; rintro e wz ⟨rfl, rfl⟩))
  have T0 := CellsAt.new w 63 #[.slice (some ⟨b, o, none⟩) 45 cap, .int .i64 43757185469210200]
  have R0 := CellsAt.new (w.alloc (.cells #[.slice (some ⟨b, o, none⟩) 45 cap, .int .i64 43757185469210200] 63)) 57 #[.int .i64 0, .int .i64 0]
  rw [World.size_alloc] at R0
  have T1 := T0.alloc (.cells #[.int .i64 0, .int .i64 0] 57)
  have gu := ((Gr.refl w).alloc #[.slice (some ⟨b, o, none⟩) 45 cap, .int .i64 43757185469210200] 63).alloc #[.int .i64 0, .int .i64 0] 57
  have hsz : w.heap.size + 1 < ((w.alloc (.cells #[.slice (some ⟨b, o, none⟩) 45 cap, .int .i64 43757185469210200] 63)).alloc (.cells #[.int .i64 0, .int .i64 0] 57)).heap.size := by simp
  generalize (w.alloc (.cells #[.slice (some ⟨b, o, none⟩) 45 cap, .int .i64 43757185469210200] 63)).alloc (.cells #[.int .i64 0, .int .i64 0] 57) = u0 at *
  have d0 := T1.cell 0
  have d1 := T1.cell 1
  simp only [List.getElem?_toArray, List.getElem?_cons_zero, List.getElem?_cons_succ] at d0 d1
  have JU := Lib.hid (J.out.gr gu)
  have hBw : w.heap.size < u0.heap.size := by omega
  clear T0 T1 HP HL J
  have KS : ∀ W, Gr u0 W → (W.cell? ⟨w.heap.size, 0, none⟩ = some (.slice (some ⟨b, o, none⟩) 45 cap) ∧ W.cell? ⟨w.heap.size, 1, none⟩ = some (.int .i64 43757185469210200) ∧ Gr u0 W) := fun W hG => ⟨(hG.cell (p := ⟨w.heap.size, 0, none⟩) hBw).trans d0, (hG.cell (p := ⟨w.heap.size, 1, none⟩) hBw).trans d1, hG⟩
  go_cut [11] from 17 to 26 (fun pv wx => ∃ B : Nat, pv = .pointer (some ⟨B, 0, none⟩) ∧ u0.heap.size ≤ B ∧ CellsAt wx B 57 #[.int .i64 gx, .int .i64 gy] ∧ Gr u0 wx)
  case first =>
    go_region_held3 (fun W => W.cell? ⟨w.heap.size, 0, none⟩ = some (.slice (some ⟨b, o, none⟩) 45 cap) ∧ W.cell? ⟨w.heap.size, 1, none⟩ = some (.int .i64 43757185469210200) ∧ Gr u0 W)
      (first | ((try go_split_ands); refine KS _ ?_; (first | assumption | exact Gr.drew (Gr.refl _) | exact Gr.alloc (by assumption) _ _ | exact Gr.alloc (Gr.drew (Gr.refl _)) _ _ | exact Gr.drew (Gr.alloc (Gr.refl _) _ _) | (exact Gr.setCell (Gr.setCell (by assumption) (by exact Gr.size (by assumption)) _) (by exact Gr.size (by assumption)) _) | (exact Gr.setCell (Gr.setCell (by assumption) (by exact Nat.le_refl _) _) (by exact Nat.le_refl _) _))))
      (first | (go_at_call 63; go_split_ands; ((with_reducible refine (HL2.out _).mono ?_); rintro e w' ⟨rfl, rfl⟩)) | (go_at_call 65; go_split_ands; ((with_reducible refine (HPt.out _ _ ?_).mono ?_); (first | exact JU.out.gr (by first | assumption | exact Gr.drew (Gr.refl _) | exact Gr.alloc (by assumption) _ _ | exact Gr.alloc (Gr.drew (Gr.refl _)) _ _ | exact Gr.drew (Gr.alloc (Gr.refl _) _ _)) | skip); rintro e w' ⟨rfl, hg⟩; have hgw : Gr u0 w' := Gr.trans (by first | assumption | exact Gr.drew (Gr.refl _) | exact Gr.alloc (by assumption) _ _ | exact Gr.alloc (Gr.drew (Gr.refl _)) _ _ | exact Gr.drew (Gr.alloc (Gr.refl _) _ _)) hg; (first | (have hbk := CxBlock.gr (CxBlock.new _ _ _) hg) | (have hbk := CxBlock.gr (CxBlock.drew (CxBlock.new _ _ _)) hg) | skip))) | (go_at_call 64; go_split_ands; ((with_reducible refine (HS'.out _).mono ?_); rintro e w' ⟨rfl, hg⟩; have hgw : Gr u0 w' := Gr.trans (by first | assumption | exact Gr.drew (Gr.refl _) | exact Gr.alloc (by assumption) _ _ | exact Gr.alloc (Gr.drew (Gr.refl _)) _ _ | exact Gr.drew (Gr.alloc (Gr.refl _) _ _)) hg; (first | (have hbk := CxBlock.gr (CxBlock.new _ _ _) hg; obtain ⟨x, y, r2⟩ := hbk.out; have c0 := r2.cell 0; have c1 := r2.cell 1; have f0 := r2.frozen 0; have f1 := r2.frozen 1; simp only [List.getElem?_toArray, List.getElem?_cons_zero, List.getElem?_cons_succ] at c0 c1) | (have hbk := CxBlock.gr ‹CxBlock _ _› hg; obtain ⟨x, y, r2⟩ := hbk.out; have c0 := r2.cell 0; have c1 := r2.cell 1; have f0 := r2.frozen 0; have f1 := r2.frozen 1; simp only [List.getElem?_toArray, List.getElem?_cons_zero, List.getElem?_cons_succ] at c0 c1) | skip))))
    all_goals
      go_wp2_with fail
      go_meet
      case rel =>
        refine ⟨_, rfl, ?_, ?_, ?_⟩
        · first | exact Nat.le_refl _ | exact Gr.size (by assumption)
        · first | exact CellsAt.new _ _ _ | exact (CellsAt.set (CellsAt.set (by assumption) 0 _) 1 _)
        · (try go_split_ands); assumption
  case rest =>
    obtain ⟨B, rfl, hB, hC, hG⟩ := hcut
    have e0 := hC.cell 0
    have e1 := hC.cell 1
    have hlt := hC.lt
    simp only [List.getElem?_toArray, List.getElem?_cons_zero, List.getElem?_cons_succ] at e0 e1
    have RB : CxBlock wc (w.heap.size + 1) := CxBlock.gr ⟨0, 0, R0⟩ hG
    have gw := gu.trans hG
    have hBr : B ≠ w.heap.size + 1 := by omega
    have hs2 : w.heap.size + 1 < wc.heap.size := Nat.lt_of_lt_of_le hsz hG.size
    clear KS HL2 HPt HS' R0 hC hG gu d0 d1 JU
    go_wp2_with fail
    go_region_held3 (fun W => W.cell? ⟨B, 0, none⟩ = some (.int .i64 gx) ∧ W.cell? ⟨B, 1, none⟩ = some (.int .i64 gy) ∧ B < W.heap.size ∧ CxBlock W (w.heap.size + 1) ∧ Gr w W)
      (first | (go_split_ands; refine ⟨?_, ?_, ?_, ?_, ?_⟩; (all_goals (first | assumption | exact Gr.drew (by assumption) | exact CxBlock.drew (by assumption) | exact CxBlock.set (by assumption) _ _ | (go_keep; done) | (exact Gr.setCell (Gr.setCell (by assumption) (by simp) _) (by simp) _) | (simp; done) | (simp; assumption) | (go_simp; done) | (go_simp; assumption)))))
      (first | (go_at_call 46; go_split_ands; ((with_reducible refine (HD.out _).mono ?_); rintro e w' ⟨rfl, rfl⟩)) | (go_at_call 67; go_split_ands; ((with_reducible refine (HT.out _).mono ?_); rintro e w' ⟨rfl, hg⟩; have hgw : Gr w w' := Gr.trans (by first | assumption | exact Gr.drew (by assumption)) hg; have sz2 := Nat.lt_of_lt_of_le (by assumption : B < _) hg.size; have e0 := (hg.cell (p := ⟨B, 0, none⟩) (by assumption)).trans (by assumption); have e1 := (hg.cell (p := ⟨B, 1, none⟩) (by assumption)).trans (by assumption); have rw' : CxBlock w' (w.heap.size + 1) := CxBlock.gr (by first | assumption | exact CxBlock.drew (by assumption)) hg)) | (go_at_call 66; go_split_ands; ((with_reducible refine (HC.out _).mono ?_); rintro e w' ⟨rfl, hg⟩; have hgw : Gr w w' := Gr.trans (by first | assumption | exact Gr.drew (by assumption)) hg; have sz2 := Nat.lt_of_lt_of_le (by assumption : B < _) hg.size; have e0 := (hg.cell (p := ⟨B, 0, none⟩) (by assumption)).trans (by assumption); have e1 := (hg.cell (p := ⟨B, 1, none⟩) (by assumption)).trans (by assumption); have rw' : CxBlock w' (w.heap.size + 1) := CxBlock.gr (by first | assumption | exact CxBlock.drew (by assumption)) hg; obtain ⟨x, y, r2⟩ := rw'.out; have c0 := r2.cell 0; have c1 := r2.cell 1; have f0 := r2.frozen 0; have f1 := r2.frozen 1; simp only [List.getElem?_toArray, List.getElem?_cons_zero, List.getElem?_cons_succ] at c0 c1; clear r2)))
    have hw2 : Gr w w' := by assumption
    go_wp2_with fail
    refine bodyPost_ret (v := .agg #[.int .i64 ix, .int .i64 iy]) ?_ rfl ⟨rfl, ?_⟩
    · simp [results, Try.f45, go_sem, c0, c1]
    · exact Gr.setCell (Gr.setCell hw2 (by simp) _) (by simp) _

end Go.Proofs.Ytbdglbpkbpedoaa

namespace Go.Proofs.Ytbdglbpkbpedoaa
open Go.ChangeShapes Go.WideShapes Go.ChangeAt Go.RowKit
set_option linter.unusedVariables false

/-- The roots 0 to n - 1. -/
def rootsL (n : Int) (s : Nat) : List Gi := (List.range n.toNat).map (fun k : Nat => rootG n (k : Int) s)
theorem rootsL_len (n : Int) (s : Nat) : (rootsL n s).length = n.toNat := by unfold rootsL; simp

set_option maxRecDepth 10000 in set_option maxHeartbeats 2000000 in
theorem table07_new (log n bits : Int) (l0 : 2 ≤ log) (l1 : log ≤ 6) (hn : n = 2 ^ log.toNat) (b0 : 0 ≤ bits) (b1 : bits ≤ 40) (w : World) :
    Calls Try.prog 20 #[.int .i64 log, .int .i64 bits] w fun e w' => ∃ v, e = .returned v ∧ CxsAt w' v (rootsL n (56 - bits).toNat) ∧ Gr w w' ∧ (∀ k, v.ownBlock = some k → w.heap.size ≤ k) := by
  have hl := len_log n log l0 l1 hn
  have hn4 : 4 ≤ n ∧ n ≤ 64 := by rcases hl with rfl | rfl | rfl | rfl | rfl <;> omega
  have HP := Lib.hid (pow_c log (by omega) (by omega))
  rw [← hn] at HP
  have HE := Lib.hid fun (k : Nat) (hk : k < 64) v W (hI : IntsAt W v angL) => rootOf07_c log k n bits l0 l1 hn (by omega) b0 b1 v W hI
  have HA := Lib.hid all05_new
  clear l0 l1 hn b0 b1 hl
  generalize (56 - bits).toNat = s at *
  obtain ⟨i0, hi, hz0, hz1, hz2⟩ := info_parts info_cx
  go_enter Try.func20, Try.ntmps20
  go_wp2_with fail
  have hs0 : ((w.alloc (.cells #[] 57)).ownsRow w.heap.size 57 2 (.slice (some ⟨w.heap.size, 0, none⟩) 0 0) 0 []) := World.ownsRow_made w #[] 0 (Nat.le_refl _) (by unfold maxLen; omega) (by simp)
  refine (HA.out _).mono ?_
  rintro e w1 ⟨v, rfl, hI, g1, hfr⟩
  have hs1 := ownsRow_gr hs0 g1
  have gw1 := ((Gr.refl w).alloc #[] 57).trans g1
  have hfr2 : v.ownBlock ≠ some w.heap.size := by
    intro e
    have := hfr _ e
    simp at this
    omega
  obtain ⟨b, o, cap, rfl, hlen, _⟩ := same_len hI angL_ne'
  have hb : b ≠ w.heap.size := by intro e; exact hfr2 (by rw [← e]; rfl)
  rw [angL_len] at hI ⊢
  have T0 := CellsAt.new w1 63 #[.slice (some ⟨b, o, none⟩) 45 cap, .int .i64 43757185469210200]
  have hs2 := hs1.alloc (.cells #[.slice (some ⟨b, o, none⟩) 45 cap, .int .i64 43757185469210200] 63)
  have gw2 := gw1.alloc #[.slice (some ⟨b, o, none⟩) 45 cap, .int .i64 43757185469210200] 63
  have hI2 := hI.gr ((Gr.refl w1).alloc #[.slice (some ⟨b, o, none⟩) 45 cap, .int .i64 43757185469210200] 63)
  have hw1 : w.heap.size < w1.heap.size := by have := g1.size; simp at this; omega
  clear hI hs0 hs1 gw1 g1 hfr hfr2 hlen
  go_wp2_with fail
  generalize w1.alloc (.cells #[.slice (some ⟨b, o, none⟩) 45 cap, .int .i64 43757185469210200] 63) = u1 at *
  generalize w1.heap.size = BT at *
  have hN : (n.toNat : Int) = n := by omega
  go_loopw [5, 7] (fun v i wr => ∃ j : Nat, j ≤ n.toNat ∧ i = .int .i64 j ∧ wr.ownsRow w.heap.size 57 2 v j (gcells ((List.range j).map (fun k : Nat => rootG n (k : Int) s))) ∧ v.ownBlock ≠ some b ∧ v.ownBlock ≠ some BT ∧ CellsAt wr BT 63 #[.slice (some ⟨b, o, none⟩) 45 cap, .int .i64 43757185469210200] ∧ IntsAt wr (.slice (some ⟨b, o, none⟩) 45 cap) angL ∧ Gr w wr)
    (fun _ i _ => n.toNat - (intOf i).toNat)
  case atStart => exact ⟨0, by omega, rfl, hs2, by simp [Value.ownBlock]; omega, by simp [Value.ownBlock]; omega, T0, hI2, gw2⟩
  case round =>
    clear hs2 T0 hI2 gw2
    obtain ⟨j, hj, rfl, hrow, hnb, hnT, hT, hI, hg⟩ := hrel
    by_cases hlt : j < n.toNat
    · have hjn : (j : Int) < n := by omega
      have HE1 := Lib.hid (HE.out j (by omega))
      have c0 := hT.cell 0
      have c1 := hT.cell 1
      simp only [List.getElem?_toArray, List.getElem?_cons_zero, List.getElem?_cons_succ] at c0 c1
      have er : (List.range (j + 1)).map (fun k : Nat => rootG n (k : Int) s) = (List.range j).map (fun k : Nat => rootG n (k : Int) s) ++ [rootG n (j : Int) s] := by rw [List.range_succ, List.map_append]; rfl
      have ER := Lib.hid er
      clear er
      generalize rootG n (j : Int) s = g at *
      obtain ⟨re, im⟩ := g
      go_wp2_with (go_at_call 44; refine (HP.out _).mono ?_; rintro e wz ⟨rfl, rfl⟩)
      refine (HE1.out _ _ hI).mono ?_
      rintro e wq ⟨rfl, hgq⟩
      have hrow2 := ownsRow_gr hrow hgq
      have hsz := hg.size
      have hsq := hgq.size
      have hg2 := hg.trans hgq
      have hT2 := hT.gr hgq
      have hI2 := hI.gr hgq
      have hbl : b < wq.heap.size := by rcases hI2 with ⟨h, _⟩ | ⟨_, _, _, h, _, _, hb, _⟩; cases h; cases h; exact hb
      have hTl := hT2.lt
      clear hrow hg hgq HE1 c0 c1 hI hT
      go_wp2_with (at_builtin; refine wpList_append_own_at _ rfl (.tmp 16) (.tmp 22) 37 rfl w.heap.size 57 i0 (.agg #[.int .i64 0, .int .i64 0]) 2 16 Try.underlying37 hi hz0 hz1 hz2 rfl (by decide) _ _ _ rfl (hrow2.alloc _) ⟨wq.heap.size, 0, none⟩ 1 1 [.int .i64 re, .int .i64 im] rfl rfl (news_two _ _ _ _) (by simp [Value.oneCell']) (by unfold maxLen; omega) (by omega) (by simp; omega) ?_; intro v' w3 hown' hgrow _ hblk)
      have e : gcells ((List.range j).map (fun k : Nat => rootG n (k : Int) s)) ++ [.int .i64 re, .int .i64 im] = gcells ((List.range (j + 1)).map (fun k : Nat => rootG n (k : Int) s)) := by
        rw [ER.out, gcells_snoc]
      rw [e] at hown'
      have hg3 := (hg2.allocO _).grown hgrow (fun k e => (hrow2.lt k e).1)
      have hT3 := (hT2.alloc _).grown hgrow (fun e => hnT e.symm)
      have hI3 := (hI2.gr ((Gr.refl wq).alloc #[.int .i64 re, .int .i64 im] 57)).grown hgrow (fun b' e1 e2 => by cases e1; exact hnb e2.symm)
      go_roundw
      case rel => exact ⟨j + 1, by omega, by go_num, hown', by rcases hblk with h | h <;> rw [h]; exact hnb; simp; omega, by rcases hblk with h | h <;> rw [h]; exact hnT; simp; omega, hT3, hI3, hg3⟩
      case measure => simp [intOf]; omega
    · have he : j = n.toNat := by omega
      have hjn : n ≤ (j : Int) := by omega
      go_wp2_with (go_at_call 44; refine (HP.out _).mono ?_; rintro e wz ⟨rfl, rfl⟩)
      go_ret
      refine ⟨_, rfl, ?_, hg, fun k e => (hrow.lt k e).1⟩
      have := CxsAt.of_row hrow
      rw [he] at this
      exact this

theorem table07_c (log n bits : Int) (l0 : 2 ≤ log) (l1 : log ≤ 6) (hn : n = 2 ^ log.toNat) (b0 : 0 ≤ bits) (b1 : bits ≤ 40) (w : World) :
    Calls Try.prog 20 #[.int .i64 log, .int .i64 bits] w fun e w' => ∃ v, e = .returned v ∧ CxsAt w' v (rootsL n (56 - bits).toNat) ∧ Gr w w' :=
  (table07_new log n bits l0 l1 hn b0 b1 w).mono fun _ _ ⟨v, h1, h2, h3, _⟩ => ⟨v, h1, h2, h3⟩

end Go.Proofs.Ytbdglbpkbpedoaa
