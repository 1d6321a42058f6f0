import Derived.Deep.Cut
import Derived.Deep.CutRange
import Derived.Test.YtdignnmpfkgkoaaGreatRealUntanglesS11
import Derived.Test.YtdignnmpfkgkoaaGreatRealUntanglesS14
import Derived.Test.YtdignnmpfkgkoaaGreatRealUntanglesS29
namespace Go.Proofs.YtdignnmpfkgkoaaGreat
section
open Go.ChangeShapes Go.WideShapes Go.ChangeAt Go.RowKit
set_option linter.unusedVariables false
set_option maxRecDepth 100000
def PV (s : Tn) : Value := .agg #[.int .i64 s.re, .int .i64 s.im]
theorem angL_ne' : angL ≠ [] := by intro e; have := angL_len; rw [e] at this; exact absurd this (by decide)
theorem IntsAt.other {w : World} {v : Value} {xs : List Int} (h : IntsAt w v xs) (B : Nat) (hne : v.ownBlock ≠ some B) (j : Nat) (x : Value) : IntsAt (w.setCell ⟨B, j, none⟩ x) v xs := by
 rcases h with h | ⟨b, o, cap, rfl, hl, hm, hb, hc⟩
 ·exact .inl h
 ·have hbB : b ≠ B := by intro e; exact hne (by rw [e]; rfl)
  refine .inr ⟨b, o, cap, rfl, hl, hm, by simpa using hb, fun k y hk => ?_⟩
  rw [← hc k y hk]
  unfold World.cell?
  rw [Below.heap_setCell _ _ _ _ hbB]
theorem all05_new (w : World) : Calls Tryz.prog 77 #[] w fun e w' => ∃ v, e = .returned (.agg #[v, .int .i64 43757185469210200]) ∧ IntsAt w' v angL ∧ Gr w w' ∧ ∀ k, v.ownBlock = some k → w.heap.size ≤ k := by
 have HA := Lib.hid angles05_row
 have HI := Lib.hid inverse05_c
 go_enter Tryz.func77, Tryz.ntmps77
 go_wp2_with fail
 have R0 := CellsAt.new w 103 #[.slice none 0 0, .int .i64 0]
 refine (HA.out _).mono ?_
 rintro e w1 ⟨v, rfl, hrow, g1⟩
 have R1 := R0.gr g1
 have gw1 := ((Gr.refl w).alloc #[.slice none 0 0, .int .i64 0] 103).trans g1
 have hI := IntsAt.of_row hrow
 have hfr : v.ownBlock ≠ some w.heap.size := by
  intro e
  have := (hrow.lt _ e).1
  simp at this
  omega
 have hfw : ∀ k, v.ownBlock = some k → w.heap.size ≤ k := by
  intro k e
  have := (hrow.lt _ e).1
  simp at this
  omega
 have J := Lib.hid hI
 obtain ⟨b, o, cap, rfl, _⟩ := same_len hI angL_ne'
 have HF := Lib.hid hfr
 have HW := Lib.hid hfw
 clear hI R0 g1 hrow hfr hfw
 go_wp2_with fail
 refine (HI.out _).mono ?_
 rintro e w2 ⟨rfl, g2⟩
 have R2 := R1.gr g2
 have gw2 := gw1.trans g2
 have J2 := Lib.hid (J.out.gr g2)
 have hsz := gw2.size
 have c0 := R2.cell 0
 have c1 := R2.cell 1
 have f0 := R2.frozen 0
 have f1 := R2.frozen 1
 simp only [getS] at c0 c1
 clear gw1 R1 g2 J
 go_wp2_with fail
 refine bodyPost_ret (v := .agg #[.slice (some ⟨b, o, none⟩) angL.length cap, .int .i64 43757185469210200]) ?_ rfl ⟨_, rfl, ?_, ?_, HW.out⟩
 ·simp [results, Tryz.f77, go_sem, c0, c1]
 ·exact (J2.out.other _ HF.out _ _).other _ HF.out _ _
 ·exact (gw2.setCell (a := ⟨w.heap.size, 0, none⟩) (by simp) _).setCell (a := ⟨w.heap.size, 1, none⟩) (by simp) _
theorem angL_0 : angL[0]? = some 56593902016227522 := by decide +kernel
set_option maxHeartbeats 4000000 in
theorem eighthOf06_c (k log : Int) (h0 : 0 ≤ log) (h1 : log ≤ 6) (k0 : 0 ≤ k) (k1 : k ≤ 2 ^ log.toNat) (hz : (eighthZ k log).natAbs ≤ 72057594037927936) (v : Value) (w : World) (hv : IntsAt w v angL) :
 CW 172 #[.agg #[v, .int .i64 43757185469210200], .int .i64 k, .int .i64 log] w (.agg #[.int .i64 (pt (eighthZ k log)).re, .int .i64 (pt (eighthZ k log)).im]) :=by
 delta CW
 have kb : k ≤ 64 := by
  rcases (by omega : log = 0 ∨ log = 1 ∨ log = 2 ∨ log = 3 ∨ log = 4 ∨ log = 5 ∨ log = 6) with rfl | rfl | rfl | rfl | rfl | rfl | rfl <;> simp at k1 <;> omega
 have HFl := Lib.hid (floor_c (56593902016227522 * k) log (by omega) h0 (by omega))
 have eZ : 56593902016227522 * k / 2 ^ log.toNat = eighthZ k log := rfl
 rw [eZ] at HFl
 have HR := Lib.hid fun v => runOf05_c 43757185469210200 (eighthZ k log) (by omega) (by omega) hz v
 have e0 : trun 45 ⟨43757185469210200, 0, eighthZ k log⟩ = pt (eighthZ k log) := rfl
 rw [e0] at HR
 clear hz e0 eZ k1
 generalize eighthZ k log = z at *
 generalize pt z = s at *
 obtain ⟨re, im, left⟩ := s
 unfold TV at HR
 simp only at HR ⊢
 have hf := field_P
 have J := Lib.hid hv
 obtain ⟨b, o, cap, rfl, hlen, hb, hc⟩ := same_len hv angL_ne'
 have hc0 := hc 0 _ angL_0
 rw [Nat.add_zero] at hc0
 rw [angL_len] at J ⊢
 have hm : IntKind.i64.wrap (56593902016227522 * k) = 56593902016227522 * k := IntWalk.i64_in _ ⟨by omega, by omega⟩
 clear hv hlen hc kb
 go_enter Tryz.func172, Tryz.ntmps172
 go_wp2_with fail
 have T0 := CellsAt.new w 103 #[.slice (some ⟨b, o, none⟩) 45 cap, .int .i64 43757185469210200]
 have R0 := CellsAt.new (w.alloc (.cells #[.slice (some ⟨b, o, none⟩) 45 cap, .int .i64 43757185469210200] 103)) 50 #[.int .i64 0, .int .i64 0]
 rw [World.size_alloc] at R0
 have T1 := T0.alloc (.cells #[.int .i64 0, .int .i64 0] 50)
 have gu : Gr w ((w.alloc (.cells #[.slice (some ⟨b, o, none⟩) 45 cap, .int .i64 43757185469210200] 103)).alloc (.cells #[.int .i64 0, .int .i64 0] 50)) := ((Gr.refl w).alloc _ _).alloc _ _
 have hsz : w.heap.size + 1 < ((w.alloc (.cells #[.slice (some ⟨b, o, none⟩) 45 cap, .int .i64 43757185469210200] 103)).alloc (.cells #[.int .i64 0, .int .i64 0] 50)).heap.size := by simp
 have RU : CxBlock ((w.alloc (.cells #[.slice (some ⟨b, o, none⟩) 45 cap, .int .i64 43757185469210200] 103)).alloc (.cells #[.int .i64 0, .int .i64 0] 50)) (w.heap.size + 1) := ⟨0, 0, R0⟩
 clear R0 T0
 generalize (w.alloc (.cells #[.slice (some ⟨b, o, none⟩) 45 cap, .int .i64 43757185469210200] 103)).alloc (.cells #[.int .i64 0, .int .i64 0] 50) = u at *
 have d0 := T1.cell 0
 have d1 := T1.cell 1
 simp only [getS] at d0 d1
 have d2 := (gu.cell (p := ⟨b, o, none⟩) hb).trans hc0
 have hbu : b < u.heap.size := by have := gu.size; omega
 have hBw : w.heap.size < u.heap.size := by omega
 have n1 : b ≠ w.heap.size + 1 := by omega
 have n2 : w.heap.size ≠ w.heap.size + 1 := by omega
 clear T1
 go_region_held3 (fun W => W.cell? ⟨w.heap.size, 0, none⟩ = some (.slice (some ⟨b, o, none⟩) 45 cap) ∧ W.cell? ⟨w.heap.size, 1, none⟩ = some (.int .i64 43757185469210200) ∧ W.cell? ⟨b, o, none⟩ = some (.int .i64 56593902016227522) ∧ w.heap.size + 1 < W.heap.size ∧ CxBlock W (w.heap.size + 1) ∧ Gr w W)
  (first | (go_split_ands; refine ⟨?_, ?_, ?_, ?_, ?_, ?_⟩; (all_goals (first | assumption | exact Gr.drew (by assumption) | exact CxBlock.drew (by assumption) | exact CxBlock.set (by assumption) _ _ | (go_keep; done) | (exact Gr.setCell (Gr.setCell (by assumption) (by simp) _) (by simp) _) | (simp; done) | (simp; assumption) | (go_simp; done) | (go_simp; assumption)))))
  (first | (go_at_call 145; go_split_ands; ((with_reducible refine (HFl.out _).mono ?_); rintro e w' ⟨rfl, rfl⟩)) | (go_at_call 196; go_split_ands; ((with_reducible refine (HR.out _ _ ?_).mono ?_); (first | exact J.out.gr (by first | assumption | exact Gr.drew (by assumption)) | skip); rintro e w' ⟨rfl, hg⟩; have hgw : Gr w w' := Gr.trans (by first | assumption | exact Gr.drew (by assumption)) hg; have sz2 := Nat.lt_of_lt_of_le (by assumption : w.heap.size + 1 < _) hg.size; have e0 := (hg.cell (p := ⟨w.heap.size, 0, none⟩) (Nat.lt_of_succ_lt (by assumption))).trans (by assumption); have e1 := (hg.cell (p := ⟨w.heap.size, 1, none⟩) (Nat.lt_of_succ_lt (by assumption))).trans (by assumption); have e2 := (hgw.cell (p := ⟨b, o, none⟩) hb).trans hc0; have rw' : CxBlock w' (w.heap.size + 1) := CxBlock.gr (by first | assumption | exact CxBlock.drew (by assumption)) hg; obtain ⟨x, y, r2⟩ := rw'.out; have c0 := r2.cell 0; have c1 := r2.cell 1; have f0 := r2.frozen 0; have f1 := r2.frozen 1; simp only [getS] at c0 c1; clear r2)))
 have hw2 : Gr w w' := by assumption
 clear J HR HFl hf
 go_wp2_with fail
 refine bodyPost_ret (v := .agg #[.int .i64 re, .int .i64 im]) ?_ rfl ⟨rfl, ?_⟩
 ·simp [results, Tryz.f172, go_sem, c0, c1]
 ·exact Gr.setCell (Gr.setCell hw2 (by simp) _) (by simp) _
end
section
open Go.ChangeShapes Go.WideShapes Go.ChangeAt Go.RowKit
set_option linter.unusedVariables false
def PtIs (z : Int) (W : World) : Prop := Calls Tryz.prog 224 #[.int .i64 z] W fun e w' => e = .returned (.tuple #[.agg #[.int .i64 (pt z).re, .int .i64 (pt z).im], .int .i64 0]) ∧ Gr W w'
def EiIs (k log : Int) (W : World) : Prop := Calls Tryz.prog 220 #[.int .i64 k, .int .i64 log] W fun e w' => e = .returned (.tuple #[.agg #[.int .i64 (pt (eighthZ k log)).re, .int .i64 (pt (eighthZ k log)).im], .int .i64 0]) ∧ Gr W w'
theorem point_ok (z : Int) (hz : z.natAbs ≤ 72057594037927936) (w : World) : PtIs z w := by
 unfold PtIs
 have HI : CR 229 #[] (.int .i64 43757185469210200) := Lib.hid fun W => gainInv_c W
 have HR : CR 228 #[.int .i64 43757185469210200, .int .i64 z] (.tuple #[.agg #[.int .i64 (pt z).re, .int .i64 (pt z).im], .int .i64 (pt z).left, .int .i64 0]) := Lib.hid fun W => gainRun_ok 43757185469210200 z (by omega) (by omega) hz W
 clear hz
 generalize pt z = s at *
 obtain ⟨re, im, left⟩ := s
 simp only at HR ⊢
 go_enter Tryz.func224, Tryz.ntmps224
 go_wp2_with fail
 have R0 := CellsAt.new w 50 #[.int .i64 0, .int .i64 0]
 refine (HI.out _).mono ?_
 rintro e w1 ⟨rfl, g1⟩
 have R1 := R0.gr g1
 have gw1 := ((Gr.refl w).alloc #[.int .i64 0, .int .i64 0] 50).trans g1
 clear R0 g1
 go_wp2_with fail
 refine (HR.out _).mono ?_
 rintro e w2 ⟨rfl, g2⟩
 have R2 := (R1.gr g2).alloc (.cells #[.int .i64 re, .int .i64 im] 50)
 have gw2 := (gw1.trans g2)
 have hsz := gw2.size
 have gw3 := gw2.alloc #[.int .i64 re, .int .i64 im] 50
 have c0 := R2.cell 0
 have c1 := R2.cell 1
 have f0 := R2.frozen 0
 have f1 := R2.frozen 1
 simp only [getS] at c0 c1
 clear gw1 R1 g2 gw2
 go_wp2_with fail
 refine bodyPost_ret (v := .tuple #[.agg #[.int .i64 re, .int .i64 im], .int .i64 0]) ?_ rfl ⟨rfl, ?_⟩
 ·simp [results, Tryz.f224, go_sem, c0, c1]
 ·exact (gw3.setCell (a := ⟨w.heap.size, 0, none⟩) (by simp) _).setCell (a := ⟨w.heap.size, 1, none⟩) (by simp) _
theorem parts1_c (p q : Nat) (k log : Int) (h0 : 0 ≤ log) (h1 : log ≤ 6) (k0 : 0 ≤ k) (k1 : k ≤ 64) (w : World)
 (c0 : w.cell? ⟨p, 0, none⟩ = some (.int .i64 56593902016227522)) (c1 : w.cell? ⟨q, 0, none⟩ = some (.int .i64 log)) :
 Calls Tryz.prog 225 #[.int .i64 k, .pointer (some ⟨p, 0, none⟩), .pointer (some ⟨q, 0, none⟩)] w fun e w' => e = .returned (.int .i64 (eighthZ k log)) ∧ w' = w := by
 have hm : IntKind.i64.wrap (56593902016227522 * k) = 56593902016227522 * k := IntWalk.i64_in _ ⟨by omega, by omega⟩
 have hb : (56593902016227522 * k) / 2 ^ log.toNat = eighthZ k log := rfl
 go_enter Tryz.func225, Tryz.ntmps225
 go_wp2
 go_ret
 exact ⟨rfl, rfl⟩
theorem partsOf_c (log : Int) (w : World) :
 Calls Tryz.prog 222 #[.int .i64 56593902016227522, .int .i64 log] w fun e w' => ∃ p q : Nat, e = .returned (.func (.func 225) #[] #[.pointer (some ⟨p, 0, none⟩), .pointer (some ⟨q, 0, none⟩)]) ∧ w'.cell? ⟨p, 0, none⟩ = some (.int .i64 56593902016227522) ∧ w'.cell? ⟨q, 0, none⟩ = some (.int .i64 log) ∧ Gr w w' := by
 go_enter Tryz.func222, Tryz.ntmps222
 go_wp2
 go_ret
 refine ⟨w.heap.size, w.heap.size + 1, rfl, ?_, ?_, ((Gr.refl w).alloc _ _).alloc _ _⟩
 ·exact ((CellsAt.new w 3 #[.int .i64 56593902016227522]).alloc _).cell 0
 ·have := (CellsAt.new (w.alloc (.cells #[.int .i64 56593902016227522] 3)) 3 #[.int .i64 log]).cell 0
  rw [World.size_alloc] at this
  exact this
theorem eighth_ok (k log : Int) (h0 : 0 ≤ log) (h1 : log ≤ 6) (k0 : 0 ≤ k) (k1 : k ≤ 2 ^ log.toNat) (w : World) : EiIs k log w := by
 unfold EiIs
 obtain ⟨z0, z1, kb⟩ := eighthZ_bd k log h0 h1 k0 k1
 have HQ := Lib.hid quarter_c
 have HO := Lib.hid (partsOf_c log)
 have HP := Lib.hid (point_ok (eighthZ k log) z0)
 unfold PtIs at HP
 have HC := Lib.hid fun p q W => parts1_c p q k log h0 h1 k0 kb W
 clear z0 z1 kb
 generalize eighthZ k log = z at *
 generalize pt z = s at *
 obtain ⟨re, im, left⟩ := s
 simp only at HP ⊢
 generalize he : (2 : Int) ^ log.toNat = p2 at *
 have hp2 : (1 : Int) ≤ p2 ∧ p2 ≤ 64 := by
  rcases (by omega : log = 0 ∨ log = 1 ∨ log = 2 ∨ log = 3 ∨ log = 4 ∨ log = 5 ∨ log = 6) with rfl | rfl | rfl | rfl | rfl | rfl | rfl <;> simp at he <;> omega
 have hw2 : IntKind.i64.wrap p2 = p2 := IntWalk.i64_in _ ⟨by omega, by omega⟩
 go_enter Tryz.func220, Tryz.ntmps220
 go_wp2_with fail
 have R0 := CellsAt.new w 50 #[.int .i64 0, .int .i64 0]
 refine (HQ.out _).mono ?_
 rintro e w1 ⟨rfl, g1⟩
 have R1 := R0.gr g1
 have gw1 := ((Gr.refl w).alloc #[.int .i64 0, .int .i64 0] 50).trans g1
 clear R0 g1 HQ
 go_wp2_with fail
 refine (HO.out _).mono ?_
 rintro e w2 ⟨p, q, rfl, c0, c1, g2⟩
 have R2 := R1.gr g2
 have gw2 := gw1.trans g2
 have HC2 := Lib.hid (HC.out p q w2 c0 c1)
 clear R1 g2 HO gw1 c0 c1 HC
 go_wp2_with fail
 refine HC2.out.mono ?_
 rintro e w3 ⟨rfl, rfl⟩
 go_wp2_with fail
 refine (HP.out _).mono ?_
 rintro e w4 ⟨rfl, g4⟩
 have R3 := R2.gr g4
 have gw3 := gw2.trans g4
 have hsz := gw3.size
 have d0 := R3.cell 0
 have d1 := R3.cell 1
 have f0 := R3.frozen 0
 have f1 := R3.frozen 1
 simp only [getS] at d0 d1
 clear R2 g4 HP HC2 gw2
 go_wp2_with fail
 refine bodyPost_ret (v := .tuple #[.agg #[.int .i64 re, .int .i64 im], .int .i64 0]) ?_ rfl ⟨rfl, ?_⟩
 ·simp [results, Tryz.f220, go_sem, d0, d1]
 ·exact (gw3.setCell (a := ⟨w.heap.size, 0, none⟩) (by simp) _).setCell (a := ⟨w.heap.size, 1, none⟩) (by simp) _
end
section
open Go.ChangeShapes Go.WideShapes Go.ChangeAt Go.RowKit
set_option linter.unusedVariables false
set_option maxRecDepth 100000
theorem left07_c (k n : Int) (hn : IsLen n) (wk : -9223372036854775808 ≤ k ∧ k ≤ 9223372036854775807) (w : World) :
 Calls Tryz.prog 132 #[.int .i64 k, .int .i64 n] w fun e w' => e = .returned (.int .i64 (k % n)) ∧ w' = w := by
 have hn0 : 4 ≤ n ∧ n ≤ 64 := by rcases hn with rfl | rfl | rfl | rfl | rfl <;> omega
 obtain ⟨r, hr⟩ : ∃ r, k.tmod n = r := ⟨_, rfl⟩
 have b1 := Int.lt_tmod_of_pos k (show 0 < n by omega)
 have b2 := Int.tmod_lt_of_pos k (show 0 < n by omega)
 rw [hr] at b1 b2
 have he : (0 ≤ r → k % n = r) ∧ (r < 0 → k % n = r + n) := by
  rw [← hr]
  rcases Int.le_total 0 k with h | h
  ·rw [Int.tmod_eq_emod_of_nonneg h]
   have := Int.emod_nonneg k (show n ≠ 0 by omega)
   exact ⟨fun _ => rfl, fun h => absurd this (by omega)⟩
  ·have e : k.tmod n = -((-k) % n) := by
    rw [← Int.tmod_eq_emod_of_nonneg (show 0 ≤ -k by omega), Int.neg_tmod, Int.neg_neg]
   rw [e]
   clear hr b1 b2 e
   rcases hn with rfl | rfl | rfl | rfl | rfl <;> omega
 have HZ := Lib.hid hr
 have hz : (n == 0) = false := by simp; omega
 clear wk
 by_cases c : r < 0
 ·rw [he.2 c]
  clear he hr
  have hr := HZ.out
  go_enter Tryz.func132, Tryz.ntmps132
  go_wp2_with fail
  go_ret
  exact ⟨rfl, rfl⟩
 ·rw [he.1 (by omega)]
  clear he hr
  have hr := HZ.out
  go_enter Tryz.func132, Tryz.ntmps132
  go_wp2_with fail
  go_ret
  exact ⟨rfl, rfl⟩
theorem rsh07_c (x y s : Int) (wx : -9223372036854775808 ≤ x ∧ x ≤ 9223372036854775807) (wy : -9223372036854775808 ≤ y ∧ y ≤ 9223372036854775807) (s0 : 0 ≤ s) (s1 : s ≤ 62) (w : World) :
 CW 85 #[.agg #[.int .i64 x, .int .i64 y], .int .i64 s, .int .i64 1] w (.agg #[.int .i64 (rnd x s.toNat 1), .int .i64 (rnd y s.toNat 1)]) :=by
 delta CW
 have HX := Lib.hid (refShift_c x s 1 wx s0 s1 (by omega) (by omega))
 have HY := Lib.hid (refShift_c y s 1 wy s0 s1 (by omega) (by omega))
 generalize rnd x s.toNat 1 = r0 at HX ⊢
 generalize rnd y s.toNat 1 = r1 at HY ⊢
 clear wx wy s0 s1
 go_enter Tryz.func85, Tryz.ntmps85
 go_wp2_with fail
 go_region_held3 (fun W => W.cell? ⟨w.heap.size, 0, none⟩ = some (.int .i64 x) ∧ W.cell? ⟨w.heap.size, 1, none⟩ = some (.int .i64 y))
  (go_keep)
  (first | (go_at_call 135; ((with_reducible refine (HX.out _).mono ?_); rintro e w' ⟨rfl, rfl⟩)) | (go_at_call 135; ((with_reducible refine (HY.out _).mono ?_); rintro e w' ⟨rfl, rfl⟩)))
 go_wp2
 refine bodyPost_ret (v := .agg #[.int .i64 r0, .int .i64 r1]) ?_ rfl ⟨rfl, ?_⟩
 ·simp [results, Tryz.results85, go_sem]
 ·exact by repeat (first | exact Gr.refl _ | assumption | apply Gr.drew | apply Gr.alloc | (refine Gr.setCell ?_ (by first | (simp; done) | (simp; omega)) _))
end
section
open Go.ChangeShapes Go.WideShapes Go.ChangeAt Go.RowKit
set_option linter.unusedVariables false
theorem len_log (n log : Int) (h0 : 2 ≤ log) (h1 : log ≤ 6) (hn : n = 2 ^ log.toNat) : IsLen n := by
 unfold IsLen
 rcases (by omega : log = 2 ∨ log = 3 ∨ log = 4 ∨ log = 5 ∨ log = 6) with rfl | rfl | rfl | rfl | rfl <;> simp at hn <;> omega
set_option maxHeartbeats 4000000 in
theorem point07_c (log u n : Int) (l0 : 2 ≤ log) (l1 : log ≤ 6) (hn : n = 2 ^ log.toNat) (u0 : 0 ≤ u) (u1 : u < n) (v : Value) (w : World) (hv : IntsAt w v angL) :
 CW 133 #[.agg #[v, .int .i64 43757185469210200], .int .i64 log, .int .i64 u] w (.agg #[.int .i64 (rpt n u).re, .int .i64 (rpt n u).im]) :=by
 delta CW
 have hl := len_log n log l0 l1 hn
 have hn4 : 4 ≤ n ∧ n ≤ 64 := by rcases hl with rfl | rfl | rfl | rfl | rfl <;> omega
 have HP := Lib.hid (pow_c log (by omega) (by omega))
 rw [← hn] at HP
 have HE := Lib.hid fun (j : Int) (j0 : 0 ≤ j) (j1 : j ≤ n) v W (hI : IntsAt W v angL) => eighthOf06_c j log (by omega) l1 j0 (by rw [← hn]; exact j1) (eighthZ_bd j log (by omega) l1 j0 (by rw [← hn]; exact j1)).1 v W hI
 have J := Lib.hid hv
 obtain ⟨b, o, cap, rfl, hlen, hb, hc⟩ := same_len hv angL_ne'
 rw [angL_len] at J ⊢
 clear hv hlen hc hb
 by_cases a : 2 * u < n
 ·have HE1 := Lib.hid (HE.out (2 * u) (by omega) (by omega))
  have er : (rpt n u) = ptG (eighthZ (2 * u) log) := by unfold rpt rptF; rw [if_pos a, eighthZ_eq, ← hn]
  rw [er]
  unfold ptG
  clear er HE
  generalize pt (eighthZ (2 * u) log) = s at *
  obtain ⟨re, im, left⟩ := s
  simp only at HE1 ⊢
  clear hl hn
  go_enter Tryz.func133, Tryz.ntmps133
  go_wp2_with (go_at_call 38; refine (HP.out _).mono ?_; rintro e wz ⟨rfl, rfl⟩)
  have R0 := CellsAt.new (w.alloc (.cells #[.slice (some ⟨b, o, none⟩) 45 cap, .int .i64 43757185469210200] 103)) 50 #[.int .i64 0, .int .i64 0]
  rw [World.size_alloc] at R0
  have gu := ((Gr.refl w).alloc #[.slice (some ⟨b, o, none⟩) 45 cap, .int .i64 43757185469210200] 103).alloc #[.int .i64 0, .int .i64 0] 50
  have JU := J.out.gr gu
  refine (HE1.out _ _ JU).mono ?_
  rintro e w2 ⟨rfl, g2⟩
  have R1 := R0.gr g2
  have gw := gu.trans g2
  have hsz := gw.size
  have c0 := R1.cell 0
  have c1 := R1.cell 1
  have f0 := R1.frozen 0
  have f1 := R1.frozen 1
  have l1 := R1.lt
  simp only [getS] at c0 c1
  clear R0 gu JU g2
  have K := (R1.set 0 (.int .i64 re)).set 1 (.int .i64 im)
  have k0 := K.cell 0
  have k1 := K.cell 1
  simp only [List.setIfInBounds_toArray, List.set_cons_zero, List.set_cons_succ, getS] at k0 k1
  go_wp2_with fail
  refine bodyPost_ret (v := .agg #[.int .i64 re, .int .i64 im]) ?_ rfl ⟨rfl, ?_⟩
  ·simp [results, Tryz.f133, go_sem, k0, k1]
  ·exact (gw.setCell (a := ⟨w.heap.size + 1, 0, none⟩) (by simp) _).setCell (a := ⟨w.heap.size + 1, 1, none⟩) (by simp) _
 ·by_cases c : n < 2 * u
  ·have HE1 := Lib.hid (HE.out (2 * (n - u)) (by omega) (by omega))
   have er : (rpt n u) = (ptG (eighthZ (2 * (n - u)) log)).swap := by unfold rpt rptF; rw [if_neg a, if_pos c, eighthZ_eq, ← hn]
   rw [er]
   unfold Gi.swap ptG
   clear er HE
   generalize pt (eighthZ (2 * (n - u)) log) = s at *
   obtain ⟨re, im, left⟩ := s
   simp only at HE1 ⊢
   clear hl hn
   go_enter Tryz.func133, Tryz.ntmps133
   go_wp2_with (go_at_call 38; refine (HP.out _).mono ?_; rintro e wz ⟨rfl, rfl⟩)
   have R0 := CellsAt.new (w.alloc (.cells #[.slice (some ⟨b, o, none⟩) 45 cap, .int .i64 43757185469210200] 103)) 50 #[.int .i64 0, .int .i64 0]
   rw [World.size_alloc] at R0
   have gu := ((Gr.refl w).alloc #[.slice (some ⟨b, o, none⟩) 45 cap, .int .i64 43757185469210200] 103).alloc #[.int .i64 0, .int .i64 0] 50
   have JU := J.out.gr gu
   refine (HE1.out _ _ JU).mono ?_
   rintro e w2 ⟨rfl, g2⟩
   have R1 := R0.gr g2
   have gw := gu.trans g2
   have hsz := gw.size
   have c0 := R1.cell 0
   have c1 := R1.cell 1
   have f0 := R1.frozen 0
   have f1 := R1.frozen 1
   have l1 := R1.lt
   simp only [getS] at c0 c1
   clear R0 gu JU g2
   have n1 : w2.heap.size ≠ w.heap.size + 1 := by omega
   have K := ((R1.set 0 (.int .i64 im)).set 1 (.int .i64 re)).alloc (.cells #[.int .i64 re, .int .i64 im] 50)
   have k0 := K.cell 0
   have k1 := K.cell 1
   simp only [List.setIfInBounds_toArray, List.set_cons_zero, List.set_cons_succ, getS] at k0 k1
   go_wp2_with fail
   refine bodyPost_ret (v := .agg #[.int .i64 im, .int .i64 re]) ?_ rfl ⟨rfl, ?_⟩
   ·simp [results, Tryz.f133, go_sem, k0, k1]
   ·exact ((gw.setCell (a := ⟨w.heap.size + 1, 0, none⟩) (by simp) _).setCell (a := ⟨w.heap.size + 1, 1, none⟩) (by simp) _).alloc _ _
  ·have HE1 := Lib.hid (HE.out n (by omega) (by omega))
   have er : (rpt n u) = ⟨(ptG (eighthZ n log)).re, (ptG (eighthZ n log)).re⟩ := by unfold rpt rptF; rw [if_neg a, if_neg c, eighthZ_eq, ← hn]
   rw [er]
   unfold ptG
   clear er HE
   generalize pt (eighthZ n log) = s at *
   obtain ⟨re, im, left⟩ := s
   simp only at HE1 ⊢
   clear hl hn
   go_enter Tryz.func133, Tryz.ntmps133
   go_wp2_with (go_at_call 38; refine (HP.out _).mono ?_; rintro e wz ⟨rfl, rfl⟩)
   have R0 := CellsAt.new (w.alloc (.cells #[.slice (some ⟨b, o, none⟩) 45 cap, .int .i64 43757185469210200] 103)) 50 #[.int .i64 0, .int .i64 0]
   rw [World.size_alloc] at R0
   have gu := ((Gr.refl w).alloc #[.slice (some ⟨b, o, none⟩) 45 cap, .int .i64 43757185469210200] 103).alloc #[.int .i64 0, .int .i64 0] 50
   have JU := J.out.gr gu
   refine (HE1.out _ _ JU).mono ?_
   rintro e w2 ⟨rfl, g2⟩
   have R1 := R0.gr g2
   have gw := gu.trans g2
   have hsz := gw.size
   have c0 := R1.cell 0
   have c1 := R1.cell 1
   have f0 := R1.frozen 0
   have f1 := R1.frozen 1
   have l1 := R1.lt
   simp only [getS] at c0 c1
   clear R0 gu JU g2
   have n1 : w2.heap.size ≠ w.heap.size + 1 := by omega
   have K := ((R1.set 0 (.int .i64 re)).set 1 (.int .i64 re)).alloc (.cells #[.int .i64 re, .int .i64 im] 50)
   have k0 := K.cell 0
   have k1 := K.cell 1
   simp only [List.setIfInBounds_toArray, List.set_cons_zero, List.set_cons_succ, getS] at k0 k1
   go_wp2_with fail
   refine bodyPost_ret (v := .agg #[.int .i64 re, .int .i64 re]) ?_ rfl ⟨rfl, ?_⟩
   ·simp [results, Tryz.f133, go_sem, k0, k1]
   ·exact ((gw.setCell (a := ⟨w.heap.size + 1, 0, none⟩) (by simp) _).setCell (a := ⟨w.heap.size + 1, 1, none⟩) (by simp) _).alloc _ _
end
section
open Go.ChangeShapes Go.WideShapes Go.ChangeAt Go.RowKit
set_option linter.unusedVariables false
set_option maxHeartbeats 8000000 in
theorem rootOf07_c (log k n bits : Int) (l0 : 2 ≤ log) (l1 : log ≤ 6) (hn : n = 2 ^ log.toNat) (wk : -9223372036854775808 ≤ k ∧ k ≤ 9223372036854775807) (b0 : 0 ≤ bits) (b1 : bits ≤ 40) (v : Value) (w : World) (hv : IntsAt w v angL) :
 CW 78 #[.agg #[v, .int .i64 43757185469210200], .int .i64 log, .int .i64 k, .int .i64 bits] w (.agg #[.int .i64 (rootG n k (56 - bits).toNat).re, .int .i64 (rootG n k (56 - bits).toNat).im]) :=by
 delta CW
 have hl := len_log n log l0 l1 hn
 have hn4 : 4 ≤ n ∧ n ≤ 64 := by rcases hl with rfl | rfl | rfl | rfl | rfl <;> omega
 have hu := len_u n k hl
 have HP := Lib.hid (pow_c log (by omega) (by omega))
 rw [← hn] at HP
 have HL := Lib.hid (left07_c k n hl wk)
 have hbd := rpt_bd n _ hl hu.1 hu.2.1
 have HPt := Lib.hid fun v W (hI : IntsAt W v angL) => point07_c log (4 * (k % n) % n) n l0 l1 hn hu.1 hu.2.1 v W hI
 unfold rootG
 generalize hr : k % n = r at *
 have HL2 := Lib.hid (left07_c (4 * r) n hl (by omega))
 have HD := Lib.hid (refDiv_c (4 * r) n (by omega) (by omega))
 generalize 4 * r % n = u at *
 generalize 4 * r / n = q at *
 generalize hp : rpt n u = p at *
 have HS := Lib.hid (rsh07_c p.re p.im (56 - bits) (by omega) (by omega) (by omega) (by omega))
 have hs := And.intro (rnd_top p.re (56 - bits).toNat (by omega) (by omega) hbd.1) (rnd_top p.im (56 - bits).toNat (by omega) (by omega) hbd.2)
 have hM : (2 : Nat) ^ (56 - (56 - bits).toNat) ≤ 1099511627776 := by
  have : (2 : Nat) ^ (56 - (56 - bits).toNat) ≤ 2 ^ 40 := Nat.pow_le_pow_right (by decide) (by omega)
  omega
 have es : rsh (56 - bits).toNat p = ⟨rnd p.re (56 - bits).toNat 1, rnd p.im (56 - bits).toNat 1⟩ := rfl
 have hq : (rsh (56 - bits).toNat p).re.natAbs ≤ 1099511627776 ∧ (rsh (56 - bits).toNat p).im.natAbs ≤ 1099511627776 := by rw [es]; simp only; omega
 have HS' : CR 85 #[.agg #[.int .i64 p.re, .int .i64 p.im], .int .i64 (56 - bits), .int .i64 1] (.agg #[.int .i64 (rsh (56 - bits).toNat p).re, .int .i64 (rsh (56 - bits).toNat p).im]) := HS
 clear HS es hs hM
 generalize rsh (56 - bits).toNat p = g at *
 have HT := Lib.hid (rturn_gi g q (by omega))
 have hq2 := turn_bd q g _ hq
 generalize g.turn q = g2 at *
 have HC := Lib.hid (rconj_gi g2 (by omega))
 generalize g2.conj = g3 at *
 obtain ⟨px, py⟩ := p
 obtain ⟨gx, gy⟩ := g
 obtain ⟨hx, hy⟩ := g2
 obtain ⟨ix, iy⟩ := g3
 simp only at HPt HS' HT HC ⊢
 have J := Lib.hid hv
 obtain ⟨b, o, cap, rfl, hlen, hb, hc⟩ := same_len hv angL_ne'
 rw [angL_len] at J ⊢
 have rb : 0 ≤ r ∧ r < 64 := by omega
 have hm4 : IntKind.i64.wrap (4 * r) = 4 * r := IntWalk.i64_in _ ⟨by omega, by omega⟩
 have hm56 : IntKind.i64.wrap (56 - bits) = 56 - bits := IntWalk.i64_in _ ⟨by omega, by omega⟩
 clear hv hlen hc hb hl hbd hu hr hp hq hq2 wk hn
 go_enter Tryz.func78, Tryz.ntmps78
 go_wp2_with (first | (go_at_call 38; refine (HP.out _).mono ?_; rintro e wz ⟨rfl, rfl⟩) | (go_at_call 132; refine (HL.out _).mono ?_; rintro e wz ⟨rfl, rfl⟩))
 have T0 := CellsAt.new w 103 #[.slice (some ⟨b, o, none⟩) 45 cap, .int .i64 43757185469210200]
 have R0 := CellsAt.new (w.alloc (.cells #[.slice (some ⟨b, o, none⟩) 45 cap, .int .i64 43757185469210200] 103)) 50 #[.int .i64 0, .int .i64 0]
 rw [World.size_alloc] at R0
 have T1 := T0.alloc (.cells #[.int .i64 0, .int .i64 0] 50)
 have gu := ((Gr.refl w).alloc #[.slice (some ⟨b, o, none⟩) 45 cap, .int .i64 43757185469210200] 103).alloc #[.int .i64 0, .int .i64 0] 50
 have hsz : w.heap.size + 1 < ((w.alloc (.cells #[.slice (some ⟨b, o, none⟩) 45 cap, .int .i64 43757185469210200] 103)).alloc (.cells #[.int .i64 0, .int .i64 0] 50)).heap.size := by simp
 generalize (w.alloc (.cells #[.slice (some ⟨b, o, none⟩) 45 cap, .int .i64 43757185469210200] 103)).alloc (.cells #[.int .i64 0, .int .i64 0] 50) = u0 at *
 have d0 := T1.cell 0
 have d1 := T1.cell 1
 simp only [getS] at d0 d1
 have JU := Lib.hid (J.out.gr gu)
 have hBw : w.heap.size < u0.heap.size := by omega
 clear T0 T1 HP HL J
 have KS : ∀ W, Gr u0 W → (W.cell? ⟨w.heap.size, 0, none⟩ = some (.slice (some ⟨b, o, none⟩) 45 cap) ∧ W.cell? ⟨w.heap.size, 1, none⟩ = some (.int .i64 43757185469210200) ∧ Gr u0 W) := fun W hG => ⟨(hG.cell (p := ⟨w.heap.size, 0, none⟩) hBw).trans d0, (hG.cell (p := ⟨w.heap.size, 1, none⟩) hBw).trans d1, hG⟩
 go_cut [11] from 17 to 26 (fun pv wx => ∃ B : Nat, pv = .pointer (some ⟨B, 0, none⟩) ∧ u0.heap.size ≤ B ∧ CellsAt wx B 50 #[.int .i64 gx, .int .i64 gy] ∧ Gr u0 wx)
 case first =>
  go_region_held3 (fun W => W.cell? ⟨w.heap.size, 0, none⟩ = some (.slice (some ⟨b, o, none⟩) 45 cap) ∧ W.cell? ⟨w.heap.size, 1, none⟩ = some (.int .i64 43757185469210200) ∧ Gr u0 W)
   (first | ((try go_split_ands); refine KS _ ?_; (first | assumption | exact Gr.drew (Gr.refl _) | exact Gr.alloc (by assumption) _ _ | exact Gr.alloc (Gr.drew (Gr.refl _)) _ _ | exact Gr.drew (Gr.alloc (Gr.refl _) _ _) | (exact Gr.setCell (Gr.setCell (by assumption) (by exact Gr.size (by assumption)) _) (by exact Gr.size (by assumption)) _) | (exact Gr.setCell (Gr.setCell (by assumption) (by exact Nat.le_refl _) _) (by exact Nat.le_refl _) _))))
   (first | (go_at_call 132; go_split_ands; ((with_reducible refine (HL2.out _).mono ?_); rintro e w' ⟨rfl, rfl⟩)) | (go_at_call 133; go_split_ands; ((with_reducible refine (HPt.out _ _ ?_).mono ?_); (first | exact JU.out.gr (by first | assumption | exact Gr.drew (Gr.refl _) | exact Gr.alloc (by assumption) _ _ | exact Gr.alloc (Gr.drew (Gr.refl _)) _ _ | exact Gr.drew (Gr.alloc (Gr.refl _) _ _)) | skip); rintro e w' ⟨rfl, hg⟩; have hgw : Gr u0 w' := Gr.trans (by first | assumption | exact Gr.drew (Gr.refl _) | exact Gr.alloc (by assumption) _ _ | exact Gr.alloc (Gr.drew (Gr.refl _)) _ _ | exact Gr.drew (Gr.alloc (Gr.refl _) _ _)) hg; (first | (have hbk := CxBlock.gr (CxBlock.new _ _ _) hg) | (have hbk := CxBlock.gr (CxBlock.drew (CxBlock.new _ _ _)) hg) | skip))) | (go_at_call 85; go_split_ands; ((with_reducible refine (HS'.out _).mono ?_); rintro e w' ⟨rfl, hg⟩; have hgw : Gr u0 w' := Gr.trans (by first | assumption | exact Gr.drew (Gr.refl _) | exact Gr.alloc (by assumption) _ _ | exact Gr.alloc (Gr.drew (Gr.refl _)) _ _ | exact Gr.drew (Gr.alloc (Gr.refl _) _ _)) hg; (first | (have hbk := CxBlock.gr (CxBlock.new _ _ _) hg; obtain ⟨x, y, r2⟩ := hbk.out; have c0 := r2.cell 0; have c1 := r2.cell 1; have f0 := r2.frozen 0; have f1 := r2.frozen 1; simp only [getS] at c0 c1) | (have hbk := CxBlock.gr ‹CxBlock _ _› hg; obtain ⟨x, y, r2⟩ := hbk.out; have c0 := r2.cell 0; have c1 := r2.cell 1; have f0 := r2.frozen 0; have f1 := r2.frozen 1; simp only [getS] at c0 c1) | skip))))
  all_goals
   go_wp2_with fail
   go_meet
   case rel =>
    refine ⟨_, rfl, ?_, ?_, ?_⟩
    ·first | exact Nat.le_refl _ | exact Gr.size (by assumption)
    ·first | exact CellsAt.new _ _ _ | exact (CellsAt.set (CellsAt.set (by assumption) 0 _) 1 _)
    ·(try go_split_ands); assumption
 case rest =>
  obtain ⟨B, rfl, hB, hC, hG⟩ := hcut
  have e0 := hC.cell 0
  have e1 := hC.cell 1
  have hlt := hC.lt
  simp only [getS] at e0 e1
  have RB : CxBlock wc (w.heap.size + 1) := CxBlock.gr ⟨0, 0, R0⟩ hG
  have gw := gu.trans hG
  have hBr : B ≠ w.heap.size + 1 := by omega
  have hs2 : w.heap.size + 1 < wc.heap.size := Nat.lt_of_lt_of_le hsz hG.size
  clear KS HL2 HPt HS' R0 hC hG gu d0 d1 JU
  go_wp2_with fail
  go_region_held3 (fun W => W.cell? ⟨B, 0, none⟩ = some (.int .i64 gx) ∧ W.cell? ⟨B, 1, none⟩ = some (.int .i64 gy) ∧ B < W.heap.size ∧ CxBlock W (w.heap.size + 1) ∧ Gr w W)
   (first | (go_split_ands; refine ⟨?_, ?_, ?_, ?_, ?_⟩; (all_goals (first | assumption | exact Gr.drew (by assumption) | exact CxBlock.drew (by assumption) | exact CxBlock.set (by assumption) _ _ | (go_keep; done) | (exact Gr.setCell (Gr.setCell (by assumption) (by simp) _) (by simp) _) | (simp; done) | (simp; assumption) | (go_simp; done) | (go_simp; assumption)))))
   (first | (go_at_call 134; go_split_ands; ((with_reducible refine (HD.out _).mono ?_); rintro e w' ⟨rfl, rfl⟩)) | (go_at_call 80; go_split_ands; ((with_reducible refine (HT.out _).mono ?_); rintro e w' ⟨rfl, hg⟩; have hgw : Gr w w' := Gr.trans (by first | assumption | exact Gr.drew (by assumption)) hg; have sz2 := Nat.lt_of_lt_of_le (by assumption : B < _) hg.size; have e0 := (hg.cell (p := ⟨B, 0, none⟩) (by assumption)).trans (by assumption); have e1 := (hg.cell (p := ⟨B, 1, none⟩) (by assumption)).trans (by assumption); have rw' : CxBlock w' (w.heap.size + 1) := CxBlock.gr (by first | assumption | exact CxBlock.drew (by assumption)) hg)) | (go_at_call 79; go_split_ands; ((with_reducible refine (HC.out _).mono ?_); rintro e w' ⟨rfl, hg⟩; have hgw : Gr w w' := Gr.trans (by first | assumption | exact Gr.drew (by assumption)) hg; have sz2 := Nat.lt_of_lt_of_le (by assumption : B < _) hg.size; have e0 := (hg.cell (p := ⟨B, 0, none⟩) (by assumption)).trans (by assumption); have e1 := (hg.cell (p := ⟨B, 1, none⟩) (by assumption)).trans (by assumption); have rw' : CxBlock w' (w.heap.size + 1) := CxBlock.gr (by first | assumption | exact CxBlock.drew (by assumption)) hg; obtain ⟨x, y, r2⟩ := rw'.out; have c0 := r2.cell 0; have c1 := r2.cell 1; have f0 := r2.frozen 0; have f1 := r2.frozen 1; simp only [getS] at c0 c1; clear r2)))
  have hw2 : Gr w w' := by assumption
  go_wp2_with fail
  refine bodyPost_ret (v := .agg #[.int .i64 ix, .int .i64 iy]) ?_ rfl ⟨rfl, ?_⟩
  ·simp [results, Tryz.f78, go_sem, c0, c1]
  ·exact Gr.setCell (Gr.setCell hw2 (by simp) _) (by simp) _
end
section
open Go.ChangeShapes Go.WideShapes Go.ChangeAt Go.RowKit
set_option linter.unusedVariables false
def rootsL (n : Int) (s : Nat) : List Gi := (List.range n.toNat).map (fun k : Nat => rootG n (k : Int) s)
theorem rootsL_len (n : Int) (s : Nat) : (rootsL n s).length = n.toNat := by unfold rootsL; simp
set_option maxRecDepth 10000 in set_option maxHeartbeats 2000000 in
theorem table07_c (log n bits : Int) (l0 : 2 ≤ log) (l1 : log ≤ 6) (hn : n = 2 ^ log.toNat) (b0 : 0 ≤ bits) (b1 : bits ≤ 40) (w : World) :
 Calls Tryz.prog 41 #[.int .i64 log, .int .i64 bits] w fun e w' => ∃ v, e = .returned v ∧ CxsAt w' v (rootsL n (56 - bits).toNat) ∧ Gr w w' := by
 have hl := len_log n log l0 l1 hn
 have hn4 : 4 ≤ n ∧ n ≤ 64 := by rcases hl with rfl | rfl | rfl | rfl | rfl <;> omega
 have HP := Lib.hid (pow_c log (by omega) (by omega))
 rw [← hn] at HP
 have HE := Lib.hid fun (k : Nat) (hk : k < 64) v W (hI : IntsAt W v angL) => rootOf07_c log k n bits l0 l1 hn (by omega) b0 b1 v W hI
 have HA := Lib.hid all05_new
 clear l0 l1 hn b0 b1 hl
 generalize (56 - bits).toNat = s at *
 obtain ⟨i0, hi, hz0, hz1, hz2⟩ := info_parts info_cx
 go_enter Tryz.func41, Tryz.ntmps41
 go_wp2_with fail
 have hs0 : ((w.alloc (.cells #[] 50)).ownsRow w.heap.size 50 2 (.slice (some ⟨w.heap.size, 0, none⟩) 0 0) 0 []) := World.ownsRow_made w #[] 0 (Nat.le_refl _) (by unfold maxLen; omega) (by simp)
 refine (HA.out _).mono ?_
 rintro e w1 ⟨v, rfl, hI, g1, hfr⟩
 have hs1 := ownsRow_gr hs0 g1
 have gw1 := ((Gr.refl w).alloc #[] 50).trans g1
 have hfr2 : v.ownBlock ≠ some w.heap.size := by
  intro e
  have := hfr _ e
  simp at this
  omega
 obtain ⟨b, o, cap, rfl, hlen, _⟩ := same_len hI angL_ne'
 have hb : b ≠ w.heap.size := by intro e; exact hfr2 (by rw [← e]; rfl)
 rw [angL_len] at hI ⊢
 have T0 := CellsAt.new w1 103 #[.slice (some ⟨b, o, none⟩) 45 cap, .int .i64 43757185469210200]
 have hs2 := hs1.alloc (.cells #[.slice (some ⟨b, o, none⟩) 45 cap, .int .i64 43757185469210200] 103)
 have gw2 := gw1.alloc #[.slice (some ⟨b, o, none⟩) 45 cap, .int .i64 43757185469210200] 103
 have hI2 := hI.gr ((Gr.refl w1).alloc #[.slice (some ⟨b, o, none⟩) 45 cap, .int .i64 43757185469210200] 103)
 have hw1 : w.heap.size < w1.heap.size := by have := g1.size; simp at this; omega
 clear hI hs0 hs1 gw1 g1 hfr hfr2 hlen
 go_wp2_with fail
 generalize w1.alloc (.cells #[.slice (some ⟨b, o, none⟩) 45 cap, .int .i64 43757185469210200] 103) = u1 at *
 generalize w1.heap.size = BT at *
 have hN : (n.toNat : Int) = n := by omega
 go_loopw [5, 7] (fun v i wr => ∃ j : Nat, j ≤ n.toNat ∧ i = .int .i64 j ∧ wr.ownsRow w.heap.size 50 2 v j (gcells ((List.range j).map (fun k : Nat => rootG n (k : Int) s))) ∧ v.ownBlock ≠ some b ∧ v.ownBlock ≠ some BT ∧ CellsAt wr BT 103 #[.slice (some ⟨b, o, none⟩) 45 cap, .int .i64 43757185469210200] ∧ IntsAt wr (.slice (some ⟨b, o, none⟩) 45 cap) angL ∧ Gr w wr)
  (fun _ i _ => n.toNat - (intOf i).toNat)
 case atStart => exact ⟨0, by omega, rfl, hs2, by simp [Value.ownBlock]; omega, by simp [Value.ownBlock]; omega, T0, hI2, gw2⟩
 case round =>
  clear hs2 T0 hI2 gw2
  obtain ⟨j, hj, rfl, hrow, hnb, hnT, hT, hI, hg⟩ := hrel
  by_cases hlt : j < n.toNat
  ·have hjn : (j : Int) < n := by omega
   have HE1 := Lib.hid (HE.out j (by omega))
   have c0 := hT.cell 0
   have c1 := hT.cell 1
   simp only [getS] at c0 c1
   have er : (List.range (j + 1)).map (fun k : Nat => rootG n (k : Int) s) = (List.range j).map (fun k : Nat => rootG n (k : Int) s) ++ [rootG n (j : Int) s] := by rw [List.range_succ, List.map_append]; rfl
   have ER := Lib.hid er
   clear er
   generalize rootG n (j : Int) s = g at *
   obtain ⟨re, im⟩ := g
   go_wp2_with (go_at_call 38; refine (HP.out _).mono ?_; rintro e wz ⟨rfl, rfl⟩)
   refine (HE1.out _ _ hI).mono ?_
   rintro e wq ⟨rfl, hgq⟩
   have hrow2 := ownsRow_gr hrow hgq
   have hsz := hg.size
   have hsq := hgq.size
   have hg2 := hg.trans hgq
   have hT2 := hT.gr hgq
   have hI2 := hI.gr hgq
   have hbl : b < wq.heap.size := by rcases hI2 with ⟨h, _⟩ | ⟨_, _, _, h, _, _, hb, _⟩; cases h; cases h; exact hb
   have hTl := hT2.lt
   clear hrow hg hgq HE1 c0 c1 hI hT
   go_wp2_with (at_builtin; refine wpList_append_own_at _ rfl (.tmp 16) (.tmp 22) 25 rfl w.heap.size 50 i0 (.agg #[.int .i64 0, .int .i64 0]) 2 16 Tryz.underlying25 hi hz0 hz1 hz2 rfl (by decide) _ _ _ rfl (hrow2.alloc _) ⟨wq.heap.size, 0, none⟩ 1 1 [.int .i64 re, .int .i64 im] rfl rfl (news_two _ _ _ _) (by simp [Value.oneCell']) (by unfold maxLen; omega) (by omega) (by simp; omega) ?_; intro v' w3 hown' hgrow _ hblk)
   have e : gcells ((List.range j).map (fun k : Nat => rootG n (k : Int) s)) ++ [.int .i64 re, .int .i64 im] = gcells ((List.range (j + 1)).map (fun k : Nat => rootG n (k : Int) s)) := by
    rw [ER.out, gcells_snoc]
   rw [e] at hown'
   have hg3 := (hg2.allocO _).grown hgrow (fun k e => (hrow2.lt k e).1)
   have hT3 := (hT2.alloc _).grown hgrow (fun e => hnT e.symm)
   have hI3 := (hI2.gr ((Gr.refl wq).alloc #[.int .i64 re, .int .i64 im] 50)).grown hgrow (fun b' e1 e2 => by cases e1; exact hnb e2.symm)
   go_roundw
   case rel => exact ⟨j + 1, by omega, by go_num, hown', by rcases hblk with h | h <;> rw [h]; exact hnb; simp; omega, by rcases hblk with h | h <;> rw [h]; exact hnT; simp; omega, hT3, hI3, hg3⟩
   case measure => simp [intOf]; omega
  ·have he : j = n.toNat := by omega
   have hjn : n ≤ (j : Int) := by omega
   go_wp2_with (go_at_call 38; refine (HP.out _).mono ?_; rintro e wz ⟨rfl, rfl⟩)
   go_ret
   refine ⟨_, rfl, ?_, hg⟩
   have := CxsAt.of_row hrow
   rw [he] at this
   exact this
end
end Go.Proofs.YtdignnmpfkgkoaaGreat
