/- What reference 7's point, RootOf and Root answer. -/
import Derived.Test.YtkbnhoapfjkajaaRef07
import Derived.Deep.Cut
import Derived.Deep.CutRange
namespace Go.Proofs.Ytkbnhoapfjkajaa
open Go.ChangeShapes Go.WideShapes Go.ChangeAt Go.RowKit
set_option linter.unusedVariables false

theorem len_log (n log : Int) (h0 : 2 ≤ log) (h1 : log ≤ 6) (hn : n = 2 ^ log.toNat) : IsLen n := by
  unfold IsLen
  rcases (by omega : log = 2 ∨ log = 3 ∨ log = 4 ∨ log = 5 ∨ log = 6) with rfl | rfl | rfl | rfl | rfl <;> simp at hn <;> omega

set_option maxHeartbeats 4000000 in
theorem point07_c (log u n : Int) (l0 : 2 ≤ log) (l1 : log ≤ 6) (hn : n = 2 ^ log.toNat) (u0 : 0 ≤ u) (u1 : u < n) (v : Value) (w : World) (hv : IntsAt w v angL) :
    Calls Try.prog 36 #[.agg #[v, .int .i64 43757185469210200], .int .i64 log, .int .i64 u] w fun e w' => e = .returned (.agg #[.int .i64 (rpt n u).re, .int .i64 (rpt n u).im]) ∧ Gr w w' := by
  have hl := len_log n log l0 l1 hn
  have hn4 : 4 ≤ n ∧ n ≤ 64 := by rcases hl with rfl | rfl | rfl | rfl | rfl <;> omega
  have HP := Lib.hid (pow_c log (by omega) (by omega))
  rw [← hn] at HP
  have HE := Lib.hid fun (j : Int) (j0 : 0 ≤ j) (j1 : j ≤ n) v W (hI : IntsAt W v angL) => eighthOf06_c j log (by omega) l1 j0 (by rw [← hn]; exact j1) (eighthZ_bd j log (by omega) l1 j0 (by rw [← hn]; exact j1)).1 v W hI
  have J := Lib.hid hv
  obtain ⟨b, o, cap, rfl, hlen, hb, hc⟩ := same_len hv angL_ne'
  rw [angL_len] at J ⊢
  clear hv hlen hc hb
  by_cases a : 2 * u < n
  · have HE1 := Lib.hid (HE.out (2 * u) (by omega) (by omega))
    have er : (rpt n u) = ptG (eighthZ (2 * u) log) := by unfold rpt rptF; rw [if_pos a, eighthZ_eq, ← hn]
    rw [er]
    unfold ptG
    clear er HE
    generalize pt (eighthZ (2 * u) log) = s at *
    obtain ⟨re, im, left⟩ := s
    simp only at HE1 ⊢
    clear hl hn
    go_enter Try.func36, Try.ntmps36
    go_wp2_with (go_at_call 28; refine (HP.out _).mono ?_; rintro e wz ⟨rfl, rfl⟩)
    have R0 := CellsAt.new (w.alloc (.cells #[.slice (some ⟨b, o, none⟩) 45 cap, .int .i64 43757185469210200] 47)) 23 #[.int .i64 0, .int .i64 0]
    rw [World.size_alloc] at R0
    have gu := ((Gr.refl w).alloc #[.slice (some ⟨b, o, none⟩) 45 cap, .int .i64 43757185469210200] 47).alloc #[.int .i64 0, .int .i64 0] 23
    have JU := J.out.gr gu
    refine (HE1.out _ _ JU).mono ?_
    rintro e w2 ⟨rfl, g2⟩
    have R1 := R0.gr g2
    have gw := gu.trans g2
    have hsz := gw.size
    have c0 := R1.cell 0
    have c1 := R1.cell 1
    have f0 := R1.frozen 0
    have f1 := R1.frozen 1
    have l1 := R1.lt
    simp only [List.getElem?_toArray, List.getElem?_cons_zero, List.getElem?_cons_succ] at c0 c1
    clear R0 gu JU g2
    have K := (R1.set 0 (.int .i64 re)).set 1 (.int .i64 im)
    have k0 := K.cell 0
    have k1 := K.cell 1
    simp only [List.setIfInBounds_toArray, List.set_cons_zero, List.set_cons_succ, List.getElem?_toArray, List.getElem?_cons_zero, List.getElem?_cons_succ] at k0 k1
    go_wp2_with fail
    refine bodyPost_ret (v := .agg #[.int .i64 re, .int .i64 im]) ?_ rfl ⟨rfl, ?_⟩
    · simp [results, Try.f36, go_sem, k0, k1]
    · exact (gw.setCell (a := ⟨w.heap.size + 1, 0, none⟩) (by simp) _).setCell (a := ⟨w.heap.size + 1, 1, none⟩) (by simp) _
  · by_cases c : n < 2 * u
    · have HE1 := Lib.hid (HE.out (2 * (n - u)) (by omega) (by omega))
      have er : (rpt n u) = (ptG (eighthZ (2 * (n - u)) log)).swap := by unfold rpt rptF; rw [if_neg a, if_pos c, eighthZ_eq, ← hn]
      rw [er]
      unfold Gi.swap ptG
      clear er HE
      generalize pt (eighthZ (2 * (n - u)) log) = s at *
      obtain ⟨re, im, left⟩ := s
      simp only at HE1 ⊢
      clear hl hn
      go_enter Try.func36, Try.ntmps36
      go_wp2_with (go_at_call 28; refine (HP.out _).mono ?_; rintro e wz ⟨rfl, rfl⟩)
      have R0 := CellsAt.new (w.alloc (.cells #[.slice (some ⟨b, o, none⟩) 45 cap, .int .i64 43757185469210200] 47)) 23 #[.int .i64 0, .int .i64 0]
      rw [World.size_alloc] at R0
      have gu := ((Gr.refl w).alloc #[.slice (some ⟨b, o, none⟩) 45 cap, .int .i64 43757185469210200] 47).alloc #[.int .i64 0, .int .i64 0] 23
      have JU := J.out.gr gu
      refine (HE1.out _ _ JU).mono ?_
      rintro e w2 ⟨rfl, g2⟩
      have R1 := R0.gr g2
      have gw := gu.trans g2
      have hsz := gw.size
      have c0 := R1.cell 0
      have c1 := R1.cell 1
      have f0 := R1.frozen 0
      have f1 := R1.frozen 1
      have l1 := R1.lt
      simp only [List.getElem?_toArray, List.getElem?_cons_zero, List.getElem?_cons_succ] at c0 c1
      clear R0 gu JU g2
      have n1 : w2.heap.size ≠ w.heap.size + 1 := by omega
      have K := ((R1.set 0 (.int .i64 im)).set 1 (.int .i64 re)).alloc (.cells #[.int .i64 re, .int .i64 im] 23)
      have k0 := K.cell 0
      have k1 := K.cell 1
      simp only [List.setIfInBounds_toArray, List.set_cons_zero, List.set_cons_succ, List.getElem?_toArray, List.getElem?_cons_zero, List.getElem?_cons_succ] at k0 k1
      go_wp2_with fail
      refine bodyPost_ret (v := .agg #[.int .i64 im, .int .i64 re]) ?_ rfl ⟨rfl, ?_⟩
      · simp [results, Try.f36, go_sem, k0, k1]
      · exact ((gw.setCell (a := ⟨w.heap.size + 1, 0, none⟩) (by simp) _).setCell (a := ⟨w.heap.size + 1, 1, none⟩) (by simp) _).alloc _ _
    · have HE1 := Lib.hid (HE.out n (by omega) (by omega))
      have er : (rpt n u) = ⟨(ptG (eighthZ n log)).re, (ptG (eighthZ n log)).re⟩ := by unfold rpt rptF; rw [if_neg a, if_neg c, eighthZ_eq, ← hn]
      rw [er]
      unfold ptG
      clear er HE
      generalize pt (eighthZ n log) = s at *
      obtain ⟨re, im, left⟩ := s
      simp only at HE1 ⊢
      clear hl hn
      go_enter Try.func36, Try.ntmps36
      go_wp2_with (go_at_call 28; refine (HP.out _).mono ?_; rintro e wz ⟨rfl, rfl⟩)
      have R0 := CellsAt.new (w.alloc (.cells #[.slice (some ⟨b, o, none⟩) 45 cap, .int .i64 43757185469210200] 47)) 23 #[.int .i64 0, .int .i64 0]
      rw [World.size_alloc] at R0
      have gu := ((Gr.refl w).alloc #[.slice (some ⟨b, o, none⟩) 45 cap, .int .i64 43757185469210200] 47).alloc #[.int .i64 0, .int .i64 0] 23
      have JU := J.out.gr gu
      refine (HE1.out _ _ JU).mono ?_
      rintro e w2 ⟨rfl, g2⟩
      have R1 := R0.gr g2
      have gw := gu.trans g2
      have hsz := gw.size
      have c0 := R1.cell 0
      have c1 := R1.cell 1
      have f0 := R1.frozen 0
      have f1 := R1.frozen 1
      have l1 := R1.lt
      simp only [List.getElem?_toArray, List.getElem?_cons_zero, List.getElem?_cons_succ] at c0 c1
      clear R0 gu JU g2
      have n1 : w2.heap.size ≠ w.heap.size + 1 := by omega
      have K := ((R1.set 0 (.int .i64 re)).set 1 (.int .i64 re)).alloc (.cells #[.int .i64 re, .int .i64 im] 23)
      have k0 := K.cell 0
      have k1 := K.cell 1
      simp only [List.setIfInBounds_toArray, List.set_cons_zero, List.set_cons_succ, List.getElem?_toArray, List.getElem?_cons_zero, List.getElem?_cons_succ] at k0 k1
      go_wp2_with fail
      refine bodyPost_ret (v := .agg #[.int .i64 re, .int .i64 re]) ?_ rfl ⟨rfl, ?_⟩
      · simp [results, Try.f36, go_sem, k0, k1]
      · exact ((gw.setCell (a := ⟨w.heap.size + 1, 0, none⟩) (by simp) _).setCell (a := ⟨w.heap.size + 1, 1, none⟩) (by simp) _).alloc _ _

end Go.Proofs.Ytkbnhoapfjkajaa
