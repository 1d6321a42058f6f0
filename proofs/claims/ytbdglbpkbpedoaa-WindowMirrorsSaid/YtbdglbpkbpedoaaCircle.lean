/- What reference 6's functions answer. · What package circle's functions answer. -/
import Derived.Test.YtbdglbpkbpedoaaCxs
import Derived.Test.YtbdglbpkbpedoaaGain
import Derived.Test.YtbdglbpkbpedoaaRot
import Derived.Test.YtbdglbpkbpedoaaGainCode
namespace Go.Proofs.Ytbdglbpkbpedoaa
open Go.ChangeShapes Go.WideShapes Go.ChangeAt Go.RowKit
set_option linter.unusedVariables false
set_option maxRecDepth 100000

/-- A point's value. -/
def PV (s : Tn) : Value := .agg #[.int .i64 s.re, .int .i64 s.im]

theorem angL_ne' : angL ≠ [] := by intro e; have := angL_len; rw [e] at this; exact absurd this (by decide)

/-- The numbers of a slice, behind a store into another block. -/
theorem IntsAt.other {w : World} {v : Value} {xs : List Int} (h : IntsAt w v xs) (B : Nat) (hne : v.ownBlock ≠ some B) (j : Nat) (x : Value) : IntsAt (w.setCell ⟨B, j, none⟩ x) v xs := by
  rcases h with h | ⟨b, o, cap, rfl, hl, hm, hb, hc⟩
  · exact .inl h
  · have hbB : b ≠ B := by intro e; exact hne (by rw [e]; rfl)
    refine .inr ⟨b, o, cap, rfl, hl, hm, by simpa using hb, fun k y hk => ?_⟩
    rw [← hc k y hk]
    unfold World.cell?
    rw [Below.heap_setCell _ _ _ _ hbB]

theorem all05_new (w : World) : Calls Try.prog 43 #[] w fun e w' => ∃ v, e = .returned (.agg #[v, .int .i64 43757185469210200]) ∧ IntsAt w' v angL ∧ Gr w w' ∧ ∀ k, v.ownBlock = some k → w.heap.size ≤ k := by
  have HA := Lib.hid angles05_row
  have HI := Lib.hid inverse05_c
  go_enter Try.func43, Try.ntmps43
  go_wp2_with fail
  have R0 := CellsAt.new w 63 #[.slice none 0 0, .int .i64 0]
  refine (HA.out _).mono ?_
  rintro e w1 ⟨v, rfl, hrow, g1⟩
  have R1 := R0.gr g1
  have gw1 := ((Gr.refl w).alloc #[.slice none 0 0, .int .i64 0] 63).trans g1
  have hI := IntsAt.of_row hrow
  have hfr : v.ownBlock ≠ some w.heap.size := by
    intro e
    have := (hrow.lt _ e).1
    simp at this
    omega
  have hfw : ∀ k, v.ownBlock = some k → w.heap.size ≤ k := by
    intro k e
    have := (hrow.lt _ e).1
    simp at this
    omega
  have J := Lib.hid hI
  obtain ⟨b, o, cap, rfl, _⟩ := same_len hI angL_ne'
  have HF := Lib.hid hfr
  have HW := Lib.hid hfw
  clear hI R0 g1 hrow hfr hfw
  go_wp2_with fail
  refine (HI.out _).mono ?_
  rintro e w2 ⟨rfl, g2⟩
  have R2 := R1.gr g2
  have gw2 := gw1.trans g2
  have J2 := Lib.hid (J.out.gr g2)
  have hsz := gw2.size
  have c0 := R2.cell 0
  have c1 := R2.cell 1
  have f0 := R2.frozen 0
  have f1 := R2.frozen 1
  simp only [List.getElem?_toArray, List.getElem?_cons_zero, List.getElem?_cons_succ] at c0 c1
  clear gw1 R1 g2 J
  go_wp2_with fail
  refine bodyPost_ret (v := .agg #[.slice (some ⟨b, o, none⟩) angL.length cap, .int .i64 43757185469210200]) ?_ rfl ⟨_, rfl, ?_, ?_, HW.out⟩
  · simp [results, Try.f43, go_sem, c0, c1]
  · exact (J2.out.other _ HF.out _ _).other _ HF.out _ _
  · exact (gw2.setCell (a := ⟨w.heap.size, 0, none⟩) (by simp) _).setCell (a := ⟨w.heap.size, 1, none⟩) (by simp) _

theorem all05_c (w : World) : Calls Try.prog 43 #[] w fun e w' => ∃ v, e = .returned (.agg #[v, .int .i64 43757185469210200]) ∧ IntsAt w' v angL ∧ Gr w w' :=
  (all05_new w).mono fun _ _ ⟨v, he, hI, hg, _⟩ => ⟨v, he, hI, hg⟩

theorem angL_0 : angL[0]? = some 56593902016227522 := by decide +kernel

set_option maxHeartbeats 4000000 in
theorem eighthOf06_c (k log : Int) (h0 : 0 ≤ log) (h1 : log ≤ 6) (k0 : 0 ≤ k) (k1 : k ≤ 2 ^ log.toNat) (hz : (eighthZ k log).natAbs ≤ 72057594037927936) (v : Value) (w : World) (hv : IntsAt w v angL) :
    Calls Try.prog 79 #[.agg #[v, .int .i64 43757185469210200], .int .i64 k, .int .i64 log] w fun e w' => e = .returned (.agg #[.int .i64 (pt (eighthZ k log)).re, .int .i64 (pt (eighthZ k log)).im]) ∧ Gr w w' := by
  have kb : k ≤ 64 := by
    rcases (by omega : log = 0 ∨ log = 1 ∨ log = 2 ∨ log = 3 ∨ log = 4 ∨ log = 5 ∨ log = 6) with rfl | rfl | rfl | rfl | rfl | rfl | rfl <;> simp at k1 <;> omega
  have HFl := Lib.hid (floor_c (56593902016227522 * k) log (by omega) h0 (by omega))
  have eZ : 56593902016227522 * k / 2 ^ log.toNat = eighthZ k log := rfl
  rw [eZ] at HFl
  have HR := Lib.hid fun v => runOf05_c 43757185469210200 (eighthZ k log) (by omega) (by omega) hz v
  have e0 : trun 45 ⟨43757185469210200, 0, eighthZ k log⟩ = pt (eighthZ k log) := rfl
  rw [e0] at HR
  clear hz e0 eZ k1
  generalize eighthZ k log = z at *
  generalize pt z = s at *
  obtain ⟨re, im, left⟩ := s
  unfold TV at HR
  simp only at HR ⊢
  have hf := field_P
  have J := Lib.hid hv
  obtain ⟨b, o, cap, rfl, hlen, hb, hc⟩ := same_len hv angL_ne'
  have hc0 := hc 0 _ angL_0
  rw [Nat.add_zero] at hc0
  rw [angL_len] at J ⊢
  have hm : IntKind.i64.wrap (56593902016227522 * k) = 56593902016227522 * k := IntWalk.i64_in _ ⟨by omega, by omega⟩
  clear hv hlen hc kb
  go_enter Try.func79, Try.ntmps79
  go_wp2_with fail
  have T0 := CellsAt.new w 63 #[.slice (some ⟨b, o, none⟩) 45 cap, .int .i64 43757185469210200]
  have R0 := CellsAt.new (w.alloc (.cells #[.slice (some ⟨b, o, none⟩) 45 cap, .int .i64 43757185469210200] 63)) 57 #[.int .i64 0, .int .i64 0]
  rw [World.size_alloc] at R0
  have T1 := T0.alloc (.cells #[.int .i64 0, .int .i64 0] 57)
  have gu : Gr w ((w.alloc (.cells #[.slice (some ⟨b, o, none⟩) 45 cap, .int .i64 43757185469210200] 63)).alloc (.cells #[.int .i64 0, .int .i64 0] 57)) := ((Gr.refl w).alloc _ _).alloc _ _
  have hsz : w.heap.size + 1 < ((w.alloc (.cells #[.slice (some ⟨b, o, none⟩) 45 cap, .int .i64 43757185469210200] 63)).alloc (.cells #[.int .i64 0, .int .i64 0] 57)).heap.size := by simp
  have RU : CxBlock ((w.alloc (.cells #[.slice (some ⟨b, o, none⟩) 45 cap, .int .i64 43757185469210200] 63)).alloc (.cells #[.int .i64 0, .int .i64 0] 57)) (w.heap.size + 1) := ⟨0, 0, R0⟩
  clear R0 T0
  generalize (w.alloc (.cells #[.slice (some ⟨b, o, none⟩) 45 cap, .int .i64 43757185469210200] 63)).alloc (.cells #[.int .i64 0, .int .i64 0] 57) = u at *
  have d0 := T1.cell 0
  have d1 := T1.cell 1
  simp only [List.getElem?_toArray, List.getElem?_cons_zero, List.getElem?_cons_succ] at d0 d1
  have d2 := (gu.cell (p := ⟨b, o, none⟩) hb).trans hc0
  have hbu : b < u.heap.size := by have := gu.size; omega
  have hBw : w.heap.size < u.heap.size := by omega
  have n1 : b ≠ w.heap.size + 1 := by omega
  have n2 : w.heap.size ≠ w.heap.size + 1 := by omega
  clear T1
  go_region_held3 (fun W => W.cell? ⟨w.heap.size, 0, none⟩ = some (.slice (some ⟨b, o, none⟩) 45 cap) ∧ W.cell? ⟨w.heap.size, 1, none⟩ = some (.int .i64 43757185469210200) ∧ W.cell? ⟨b, o, none⟩ = some (.int .i64 56593902016227522) ∧ w.heap.size + 1 < W.heap.size ∧ CxBlock W (w.heap.size + 1) ∧ Gr w W)
    (first | (go_split_ands; refine ⟨?_, ?_, ?_, ?_, ?_, ?_⟩; (all_goals (first | assumption | exact Gr.drew (by assumption) | exact CxBlock.drew (by assumption) | exact CxBlock.set (by assumption) _ _ | (go_keep; done) | (exact Gr.setCell (Gr.setCell (by assumption) (by simp) _) (by simp) _) | (simp; done) | (simp; assumption) | (go_simp; done) | (go_simp; assumption)))))
    (first | (go_at_call 54; go_split_ands; ((with_reducible refine (HFl.out _).mono ?_); rintro e w' ⟨rfl, rfl⟩)) | (go_at_call 88; go_split_ands; ((with_reducible refine (HR.out _ _ ?_).mono ?_); (first | exact J.out.gr (by first | assumption | exact Gr.drew (by assumption)) | skip); rintro e w' ⟨rfl, hg⟩; have hgw : Gr w w' := Gr.trans (by first | assumption | exact Gr.drew (by assumption)) hg; have sz2 := Nat.lt_of_lt_of_le (by assumption : w.heap.size + 1 < _) hg.size; have e0 := (hg.cell (p := ⟨w.heap.size, 0, none⟩) (Nat.lt_of_succ_lt (by assumption))).trans (by assumption); have e1 := (hg.cell (p := ⟨w.heap.size, 1, none⟩) (Nat.lt_of_succ_lt (by assumption))).trans (by assumption); have e2 := (hgw.cell (p := ⟨b, o, none⟩) hb).trans hc0; have rw' : CxBlock w' (w.heap.size + 1) := CxBlock.gr (by first | assumption | exact CxBlock.drew (by assumption)) hg; obtain ⟨x, y, r2⟩ := rw'.out; have c0 := r2.cell 0; have c1 := r2.cell 1; have f0 := r2.frozen 0; have f1 := r2.frozen 1; simp only [List.getElem?_toArray, List.getElem?_cons_zero, List.getElem?_cons_succ] at c0 c1; clear r2)))
  have hw2 : Gr w w' := by assumption
  clear J HR HFl hf
  go_wp2_with fail
  refine bodyPost_ret (v := .agg #[.int .i64 re, .int .i64 im]) ?_ rfl ⟨rfl, ?_⟩
  · simp [results, Try.f79, go_sem, c0, c1]
  · exact Gr.setCell (Gr.setCell hw2 (by simp) _) (by simp) _

end Go.Proofs.Ytbdglbpkbpedoaa

namespace Go.Proofs.Ytbdglbpkbpedoaa
open Go.ChangeShapes Go.WideShapes Go.ChangeAt Go.RowKit
set_option linter.unusedVariables false

def PtIs (z : Int) (W : World) : Prop := Calls Try.prog 91 #[.int .i64 z] W fun e w' => e = .returned (.tuple #[.agg #[.int .i64 (pt z).re, .int .i64 (pt z).im], .int .i64 0]) ∧ Gr W w'
def PtNot (z : Int) (W : World) : Prop := Calls Try.prog 91 #[.int .i64 z] W fun e w' => e = .returned (.tuple #[.agg #[.int .i64 0, .int .i64 0], .int .i64 2]) ∧ Gr W w'
def EiIs (k log : Int) (W : World) : Prop := Calls Try.prog 81 #[.int .i64 k, .int .i64 log] W fun e w' => e = .returned (.tuple #[.agg #[.int .i64 (pt (eighthZ k log)).re, .int .i64 (pt (eighthZ k log)).im], .int .i64 0]) ∧ Gr W w'
def EiNot (k log : Int) (W : World) : Prop := Calls Try.prog 81 #[.int .i64 k, .int .i64 log] W fun e w' => e = .returned (.tuple #[.agg #[.int .i64 0, .int .i64 0], .int .i64 1]) ∧ Gr W w'

theorem point_ok (z : Int) (hz : z.natAbs ≤ 72057594037927936) (w : World) : PtIs z w := by
  unfold PtIs
  have HI : Hid (∀ W, Calls Try.prog 100 #[] W fun e w' => e = .returned (.int .i64 43757185469210200) ∧ Gr W w') := Lib.hid fun W => gainInv_c W
  have HR : Hid (∀ W, Calls Try.prog 99 #[.int .i64 43757185469210200, .int .i64 z] W fun e w' => e = .returned (.tuple #[.agg #[.int .i64 (pt z).re, .int .i64 (pt z).im], .int .i64 (pt z).left, .int .i64 0]) ∧ Gr W w') := Lib.hid fun W => gainRun_ok 43757185469210200 z (by omega) (by omega) hz W
  clear hz
  generalize pt z = s at *
  obtain ⟨re, im, left⟩ := s
  simp only at HR ⊢
  go_enter Try.func91, Try.ntmps91
  go_wp2_with fail
  have R0 := CellsAt.new w 57 #[.int .i64 0, .int .i64 0]
  refine (HI.out _).mono ?_
  rintro e w1 ⟨rfl, g1⟩
  have R1 := R0.gr g1
  have gw1 := ((Gr.refl w).alloc #[.int .i64 0, .int .i64 0] 57).trans g1
  clear R0 g1
  go_wp2_with fail
  refine (HR.out _).mono ?_
  rintro e w2 ⟨rfl, g2⟩
  have R2 := (R1.gr g2).alloc (.cells #[.int .i64 re, .int .i64 im] 57)
  have gw2 := (gw1.trans g2)
  have hsz := gw2.size
  have gw3 := gw2.alloc #[.int .i64 re, .int .i64 im] 57
  have c0 := R2.cell 0
  have c1 := R2.cell 1
  have f0 := R2.frozen 0
  have f1 := R2.frozen 1
  simp only [List.getElem?_toArray, List.getElem?_cons_zero, List.getElem?_cons_succ] at c0 c1
  clear gw1 R1 g2 gw2
  go_wp2_with fail
  refine bodyPost_ret (v := .tuple #[.agg #[.int .i64 re, .int .i64 im], .int .i64 0]) ?_ rfl ⟨rfl, ?_⟩
  · simp [results, Try.f91, go_sem, c0, c1]
  · exact (gw3.setCell (a := ⟨w.heap.size, 0, none⟩) (by simp) _).setCell (a := ⟨w.heap.size, 1, none⟩) (by simp) _

theorem point_bad (z : Int) (hz : 72057594037927936 < z.natAbs) (w : World) : PtNot z w := by
  unfold PtNot
  have HI : Hid (∀ W, Calls Try.prog 100 #[] W fun e w' => e = .returned (.int .i64 43757185469210200) ∧ Gr W w') := Lib.hid fun W => gainInv_c W
  have HR : Hid (∀ W, Calls Try.prog 99 #[.int .i64 43757185469210200, .int .i64 z] W fun e w' => e = .returned (.tuple #[.agg #[.int .i64 0, .int .i64 0], .int .i64 0, .int .i64 2]) ∧ Gr W w') := Lib.hid fun W => gainRun_bad 43757185469210200 z (by omega) W
  clear hz
  go_enter Try.func91, Try.ntmps91
  go_wp2_with fail
  have R0 := CellsAt.new w 57 #[.int .i64 0, .int .i64 0]
  refine (HI.out _).mono ?_
  rintro e w1 ⟨rfl, g1⟩
  have R1 := R0.gr g1
  have gw1 := ((Gr.refl w).alloc #[.int .i64 0, .int .i64 0] 57).trans g1
  clear R0 g1
  go_wp2_with fail
  refine (HR.out _).mono ?_
  rintro e w2 ⟨rfl, g2⟩
  have R2 := (R1.gr g2).alloc (.cells #[.int .i64 0, .int .i64 0] 57)
  have gw2 := (gw1.trans g2)
  have hsz := gw2.size
  have gw3 := gw2.alloc #[.int .i64 0, .int .i64 0] 57
  have c0 := R2.cell 0
  have c1 := R2.cell 1
  have f0 := R2.frozen 0
  have f1 := R2.frozen 1
  simp only [List.getElem?_toArray, List.getElem?_cons_zero, List.getElem?_cons_succ] at c0 c1
  clear gw1 R1 g2 gw2
  go_wp2_with fail
  refine bodyPost_ret (v := .tuple #[.agg #[.int .i64 0, .int .i64 0], .int .i64 2]) ?_ rfl ⟨rfl, ?_⟩
  · simp [results, Try.f91, go_sem, c0, c1]
  · exact (gw3.setCell (a := ⟨w.heap.size, 0, none⟩) (by simp) _).setCell (a := ⟨w.heap.size, 1, none⟩) (by simp) _

/-- The closure that tells a part's angle. -/
theorem parts1_c (p q : Nat) (k log : Int) (h0 : 0 ≤ log) (h1 : log ≤ 6) (k0 : 0 ≤ k) (k1 : k ≤ 64) (w : World)
    (c0 : w.cell? ⟨p, 0, none⟩ = some (.int .i64 56593902016227522)) (c1 : w.cell? ⟨q, 0, none⟩ = some (.int .i64 log)) :
    Calls Try.prog 96 #[.int .i64 k, .pointer (some ⟨p, 0, none⟩), .pointer (some ⟨q, 0, none⟩)] w fun e w' => e = .returned (.int .i64 (eighthZ k log)) ∧ w' = w := by
  have hm : IntKind.i64.wrap (56593902016227522 * k) = 56593902016227522 * k := IntWalk.i64_in _ ⟨by omega, by omega⟩
  have hb : (56593902016227522 * k) / 2 ^ log.toNat = eighthZ k log := rfl
  go_enter Try.func96, Try.ntmps96
  go_wp2
  go_ret
  exact ⟨rfl, rfl⟩

theorem partsOf_c (log : Int) (w : World) :
    Calls Try.prog 89 #[.int .i64 56593902016227522, .int .i64 log] w fun e w' => ∃ p q : Nat, e = .returned (.func (.func 96) #[] #[.pointer (some ⟨p, 0, none⟩), .pointer (some ⟨q, 0, none⟩)]) ∧ w'.cell? ⟨p, 0, none⟩ = some (.int .i64 56593902016227522) ∧ w'.cell? ⟨q, 0, none⟩ = some (.int .i64 log) ∧ Gr w w' := by
  go_enter Try.func89, Try.ntmps89
  go_wp2
  go_ret
  refine ⟨w.heap.size, w.heap.size + 1, rfl, ?_, ?_, ((Gr.refl w).alloc _ _).alloc _ _⟩
  · exact ((CellsAt.new w 3 #[.int .i64 56593902016227522]).alloc _).cell 0
  · have := (CellsAt.new (w.alloc (.cells #[.int .i64 56593902016227522] 3)) 3 #[.int .i64 log]).cell 0
    rw [World.size_alloc] at this
    exact this

theorem eighth_ok (k log : Int) (h0 : 0 ≤ log) (h1 : log ≤ 6) (k0 : 0 ≤ k) (k1 : k ≤ 2 ^ log.toNat) (w : World) : EiIs k log w := by
  unfold EiIs
  obtain ⟨z0, z1, kb⟩ := eighthZ_bd k log h0 h1 k0 k1
  have HQ := Lib.hid quarter_c
  have HO := Lib.hid (partsOf_c log)
  have HP := Lib.hid (point_ok (eighthZ k log) z0)
  unfold PtIs at HP
  have HC := Lib.hid fun p q W => parts1_c p q k log h0 h1 k0 kb W
  clear z0 z1 kb
  generalize eighthZ k log = z at *
  generalize pt z = s at *
  obtain ⟨re, im, left⟩ := s
  simp only at HP ⊢
  generalize he : (2 : Int) ^ log.toNat = p2 at *
  have hp2 : (1 : Int) ≤ p2 ∧ p2 ≤ 64 := by
    rcases (by omega : log = 0 ∨ log = 1 ∨ log = 2 ∨ log = 3 ∨ log = 4 ∨ log = 5 ∨ log = 6) with rfl | rfl | rfl | rfl | rfl | rfl | rfl <;> simp at he <;> omega
  have hw2 : IntKind.i64.wrap p2 = p2 := IntWalk.i64_in _ ⟨by omega, by omega⟩
  go_enter Try.func81, Try.ntmps81
  go_wp2_with fail
  have R0 := CellsAt.new w 57 #[.int .i64 0, .int .i64 0]
  refine (HQ.out _).mono ?_
  rintro e w1 ⟨rfl, g1⟩
  have R1 := R0.gr g1
  have gw1 := ((Gr.refl w).alloc #[.int .i64 0, .int .i64 0] 57).trans g1
  clear R0 g1 HQ
  go_wp2_with fail
  refine (HO.out _).mono ?_
  rintro e w2 ⟨p, q, rfl, c0, c1, g2⟩
  have R2 := R1.gr g2
  have gw2 := gw1.trans g2
  have HC2 := Lib.hid (HC.out p q w2 c0 c1)
  clear R1 g2 HO gw1 c0 c1 HC
  go_wp2_with fail
  refine HC2.out.mono ?_
  rintro e w3 ⟨rfl, rfl⟩
  go_wp2_with fail
  refine (HP.out _).mono ?_
  rintro e w4 ⟨rfl, g4⟩
  have R3 := R2.gr g4
  have gw3 := gw2.trans g4
  have hsz := gw3.size
  have d0 := R3.cell 0
  have d1 := R3.cell 1
  have f0 := R3.frozen 0
  have f1 := R3.frozen 1
  simp only [List.getElem?_toArray, List.getElem?_cons_zero, List.getElem?_cons_succ] at d0 d1
  clear R2 g4 HP HC2 gw2
  go_wp2_with fail
  refine bodyPost_ret (v := .tuple #[.agg #[.int .i64 re, .int .i64 im], .int .i64 0]) ?_ rfl ⟨rfl, ?_⟩
  · simp [results, Try.f81, go_sem, d0, d1]
  · exact (gw3.setCell (a := ⟨w.heap.size, 0, none⟩) (by simp) _).setCell (a := ⟨w.heap.size, 1, none⟩) (by simp) _

theorem eighth_bad (k log : Int) (h : log < 0 ∨ 6 < log ∨ k < 0 ∨ 2 ^ log.toNat < k) (w : World) : EiNot k log w := by
  unfold EiNot
  by_cases a : log < 0
  · clear h
    go_enter Try.func81, Try.ntmps81
    go_wp2_with fail
    refine bodyPost_ret (v := .tuple #[.agg #[.int .i64 0, .int .i64 0], .int .i64 1]) ?_ rfl ⟨rfl, ?_⟩
    · simp [results, Try.f81, go_sem]
    · exact (Gr.refl w).alloc _ _
  · by_cases b : 6 < log
    · clear h
      go_enter Try.func81, Try.ntmps81
      go_wp2_with fail
      refine bodyPost_ret (v := .tuple #[.agg #[.int .i64 0, .int .i64 0], .int .i64 1]) ?_ rfl ⟨rfl, ?_⟩
      · simp [results, Try.f81, go_sem]
      · exact (Gr.refl w).alloc _ _
    · by_cases c : k < 0
      · clear h
        go_enter Try.func81, Try.ntmps81
        go_wp2_with fail
        refine bodyPost_ret (v := .tuple #[.agg #[.int .i64 0, .int .i64 0], .int .i64 1]) ?_ rfl ⟨rfl, ?_⟩
        · simp [results, Try.f81, go_sem]
        · exact (Gr.refl w).alloc _ _
      · have d : 2 ^ log.toNat < k := by omega
        generalize he : (2 : Int) ^ log.toNat = p2 at *
        have hp2 : (1 : Int) ≤ p2 ∧ p2 ≤ 64 := by
          rcases (by omega : log = 0 ∨ log = 1 ∨ log = 2 ∨ log = 3 ∨ log = 4 ∨ log = 5 ∨ log = 6) with rfl | rfl | rfl | rfl | rfl | rfl | rfl <;> simp at he <;> omega
        have hw2 : IntKind.i64.wrap p2 = p2 := IntWalk.i64_in _ ⟨by omega, by omega⟩
        clear h
        go_enter Try.func81, Try.ntmps81
        go_wp2_with fail
        refine bodyPost_ret (v := .tuple #[.agg #[.int .i64 0, .int .i64 0], .int .i64 1]) ?_ rfl ⟨rfl, ?_⟩
        · simp [results, Try.f81, go_sem]
        · exact (Gr.refl w).alloc _ _

end Go.Proofs.Ytbdglbpkbpedoaa
