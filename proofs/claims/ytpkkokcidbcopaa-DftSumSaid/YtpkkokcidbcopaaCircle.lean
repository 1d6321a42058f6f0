/- What reference 6's functions answer. · What package circle's functions answer. -/
import Derived.Test.YtpkkokcidbcopaaCxs
import Derived.Test.YtpkkokcidbcopaaGain
import Derived.Test.YtpkkokcidbcopaaRot
import Derived.Test.YtpkkokcidbcopaaGainCode
namespace Go.Proofs.Ytpkkokcidbcopaa
open Go.ChangeShapes Go.WideShapes Go.ChangeAt Go.RowKit
set_option linter.unusedVariables false
set_option maxRecDepth 100000

/-- A point's value. -/
def PV (s : Tn) : Value := .agg #[.int .i64 s.re, .int .i64 s.im]

theorem angL_ne' : angL ≠ [] := by intro e; have := angL_len; rw [e] at this; exact absurd this (by decide)

/-- The numbers of a slice, behind a store into another block. -/
theorem IntsAt.other {w : World} {v : Value} {xs : List Int} (h : IntsAt w v xs) (B : Nat) (hne : v.ownBlock ≠ some B) (j : Nat) (x : Value) : IntsAt (w.setCell ⟨B, j, none⟩ x) v xs := by
  rcases h with h | ⟨b, o, cap, rfl, hl, hm, hb, hc⟩
  · exact .inl h
  · have hbB : b ≠ B := by intro e; exact hne (by rw [e]; rfl)
    refine .inr ⟨b, o, cap, rfl, hl, hm, by simpa using hb, fun k y hk => ?_⟩
    rw [← hc k y hk]
    unfold World.cell?
    rw [Below.heap_setCell _ _ _ _ hbB]

theorem angL_0 : angL[0]? = some 56593902016227522 := by decide +kernel

end Go.Proofs.Ytpkkokcidbcopaa

namespace Go.Proofs.Ytpkkokcidbcopaa
open Go.ChangeShapes Go.WideShapes Go.ChangeAt Go.RowKit
set_option linter.unusedVariables false

def PtIs (z : Int) (W : World) : Prop := Calls Try.prog 52 #[.int .i64 z] W fun e w' => e = .returned (.tuple #[.agg #[.int .i64 (pt z).re, .int .i64 (pt z).im], .int .i64 0]) ∧ Gr W w'
def PtNot (z : Int) (W : World) : Prop := Calls Try.prog 52 #[.int .i64 z] W fun e w' => e = .returned (.tuple #[.agg #[.int .i64 0, .int .i64 0], .int .i64 2]) ∧ Gr W w'
def EiIs (k log : Int) (W : World) : Prop := Calls Try.prog 49 #[.int .i64 k, .int .i64 log] W fun e w' => e = .returned (.tuple #[.agg #[.int .i64 (pt (eighthZ k log)).re, .int .i64 (pt (eighthZ k log)).im], .int .i64 0]) ∧ Gr W w'
def EiNot (k log : Int) (W : World) : Prop := Calls Try.prog 49 #[.int .i64 k, .int .i64 log] W fun e w' => e = .returned (.tuple #[.agg #[.int .i64 0, .int .i64 0], .int .i64 1]) ∧ Gr W w'

theorem point_ok (z : Int) (hz : z.natAbs ≤ 72057594037927936) (w : World) : PtIs z w := by
  unfold PtIs
  have HI : Hid (∀ W, Calls Try.prog 57 #[] W fun e w' => e = .returned (.int .i64 43757185469210200) ∧ Gr W w') := Lib.hid fun W => gainInv_c W
  have HR : Hid (∀ W, Calls Try.prog 56 #[.int .i64 43757185469210200, .int .i64 z] W fun e w' => e = .returned (.tuple #[.agg #[.int .i64 (pt z).re, .int .i64 (pt z).im], .int .i64 (pt z).left, .int .i64 0]) ∧ Gr W w') := Lib.hid fun W => gainRun_ok 43757185469210200 z (by omega) (by omega) hz W
  clear hz
  generalize pt z = s at *
  obtain ⟨re, im, left⟩ := s
  simp only at HR ⊢
  go_enter Try.func52, Try.ntmps52
  go_wp2_with fail
  have R0 := CellsAt.new w 24 #[.int .i64 0, .int .i64 0]
  refine (HI.out _).mono ?_
  rintro e w1 ⟨rfl, g1⟩
  have R1 := R0.gr g1
  have gw1 := ((Gr.refl w).alloc #[.int .i64 0, .int .i64 0] 24).trans g1
  clear R0 g1
  go_wp2_with fail
  refine (HR.out _).mono ?_
  rintro e w2 ⟨rfl, g2⟩
  have R2 := (R1.gr g2).alloc (.cells #[.int .i64 re, .int .i64 im] 24)
  have gw2 := (gw1.trans g2)
  have hsz := gw2.size
  have gw3 := gw2.alloc #[.int .i64 re, .int .i64 im] 24
  have c0 := R2.cell 0
  have c1 := R2.cell 1
  have f0 := R2.frozen 0
  have f1 := R2.frozen 1
  simp only [List.getElem?_toArray, List.getElem?_cons_zero, List.getElem?_cons_succ] at c0 c1
  clear gw1 R1 g2 gw2
  go_wp2_with fail
  refine bodyPost_ret (v := .tuple #[.agg #[.int .i64 re, .int .i64 im], .int .i64 0]) ?_ rfl ⟨rfl, ?_⟩
  · simp [results, Try.f52, go_sem, c0, c1]
  · exact (gw3.setCell (a := ⟨w.heap.size, 0, none⟩) (by simp) _).setCell (a := ⟨w.heap.size, 1, none⟩) (by simp) _

theorem point_bad (z : Int) (hz : 72057594037927936 < z.natAbs) (w : World) : PtNot z w := by
  unfold PtNot
  have HI : Hid (∀ W, Calls Try.prog 57 #[] W fun e w' => e = .returned (.int .i64 43757185469210200) ∧ Gr W w') := Lib.hid fun W => gainInv_c W
  have HR : Hid (∀ W, Calls Try.prog 56 #[.int .i64 43757185469210200, .int .i64 z] W fun e w' => e = .returned (.tuple #[.agg #[.int .i64 0, .int .i64 0], .int .i64 0, .int .i64 2]) ∧ Gr W w') := Lib.hid fun W => gainRun_bad 43757185469210200 z (by omega) W
  clear hz
  go_enter Try.func52, Try.ntmps52
  go_wp2_with fail
  have R0 := CellsAt.new w 24 #[.int .i64 0, .int .i64 0]
  refine (HI.out _).mono ?_
  rintro e w1 ⟨rfl, g1⟩
  have R1 := R0.gr g1
  have gw1 := ((Gr.refl w).alloc #[.int .i64 0, .int .i64 0] 24).trans g1
  clear R0 g1
  go_wp2_with fail
  refine (HR.out _).mono ?_
  rintro e w2 ⟨rfl, g2⟩
  have R2 := (R1.gr g2).alloc (.cells #[.int .i64 0, .int .i64 0] 24)
  have gw2 := (gw1.trans g2)
  have hsz := gw2.size
  have gw3 := gw2.alloc #[.int .i64 0, .int .i64 0] 24
  have c0 := R2.cell 0
  have c1 := R2.cell 1
  have f0 := R2.frozen 0
  have f1 := R2.frozen 1
  simp only [List.getElem?_toArray, List.getElem?_cons_zero, List.getElem?_cons_succ] at c0 c1
  clear gw1 R1 g2 gw2
  go_wp2_with fail
  refine bodyPost_ret (v := .tuple #[.agg #[.int .i64 0, .int .i64 0], .int .i64 2]) ?_ rfl ⟨rfl, ?_⟩
  · simp [results, Try.f52, go_sem, c0, c1]
  · exact (gw3.setCell (a := ⟨w.heap.size, 0, none⟩) (by simp) _).setCell (a := ⟨w.heap.size, 1, none⟩) (by simp) _

/-- The closure that tells a part's angle. -/
theorem parts1_c (p q : Nat) (k log : Int) (h0 : 0 ≤ log) (h1 : log ≤ 6) (k0 : 0 ≤ k) (k1 : k ≤ 64) (w : World)
    (c0 : w.cell? ⟨p, 0, none⟩ = some (.int .i64 56593902016227522)) (c1 : w.cell? ⟨q, 0, none⟩ = some (.int .i64 log)) :
    Calls Try.prog 53 #[.int .i64 k, .pointer (some ⟨p, 0, none⟩), .pointer (some ⟨q, 0, none⟩)] w fun e w' => e = .returned (.int .i64 (eighthZ k log)) ∧ w' = w := by
  have hm : IntKind.i64.wrap (56593902016227522 * k) = 56593902016227522 * k := IntWalk.i64_in _ ⟨by omega, by omega⟩
  have hb : (56593902016227522 * k) / 2 ^ log.toNat = eighthZ k log := rfl
  go_enter Try.func53, Try.ntmps53
  go_wp2
  go_ret
  exact ⟨rfl, rfl⟩

theorem partsOf_c (log : Int) (w : World) :
    Calls Try.prog 50 #[.int .i64 56593902016227522, .int .i64 log] w fun e w' => ∃ p q : Nat, e = .returned (.func (.func 53) #[] #[.pointer (some ⟨p, 0, none⟩), .pointer (some ⟨q, 0, none⟩)]) ∧ w'.cell? ⟨p, 0, none⟩ = some (.int .i64 56593902016227522) ∧ w'.cell? ⟨q, 0, none⟩ = some (.int .i64 log) ∧ Gr w w' := by
  go_enter Try.func50, Try.ntmps50
  go_wp2
  go_ret
  refine ⟨w.heap.size, w.heap.size + 1, rfl, ?_, ?_, ((Gr.refl w).alloc _ _).alloc _ _⟩
  · exact ((CellsAt.new w 3 #[.int .i64 56593902016227522]).alloc _).cell 0
  · have := (CellsAt.new (w.alloc (.cells #[.int .i64 56593902016227522] 3)) 3 #[.int .i64 log]).cell 0
    rw [World.size_alloc] at this
    exact this

theorem eighth_ok (k log : Int) (h0 : 0 ≤ log) (h1 : log ≤ 6) (k0 : 0 ≤ k) (k1 : k ≤ 2 ^ log.toNat) (w : World) : EiIs k log w := by
  unfold EiIs
  obtain ⟨z0, z1, kb⟩ := eighthZ_bd k log h0 h1 k0 k1
  have HQ := Lib.hid quarter_c
  have HO := Lib.hid (partsOf_c log)
  have HP := Lib.hid (point_ok (eighthZ k log) z0)
  unfold PtIs at HP
  have HC := Lib.hid fun p q W => parts1_c p q k log h0 h1 k0 kb W
  clear z0 z1 kb
  generalize eighthZ k log = z at *
  generalize pt z = s at *
  obtain ⟨re, im, left⟩ := s
  simp only at HP ⊢
  generalize he : (2 : Int) ^ log.toNat = p2 at *
  have hp2 : (1 : Int) ≤ p2 ∧ p2 ≤ 64 := by
    rcases (by omega : log = 0 ∨ log = 1 ∨ log = 2 ∨ log = 3 ∨ log = 4 ∨ log = 5 ∨ log = 6) with rfl | rfl | rfl | rfl | rfl | rfl | rfl <;> simp at he <;> omega
  have hw2 : IntKind.i64.wrap p2 = p2 := IntWalk.i64_in _ ⟨by omega, by omega⟩
  go_enter Try.func49, Try.ntmps49
  go_wp2_with fail
  have R0 := CellsAt.new w 24 #[.int .i64 0, .int .i64 0]
  refine (HQ.out _).mono ?_
  rintro e w1 ⟨rfl, g1⟩
  have R1 := R0.gr g1
  have gw1 := ((Gr.refl w).alloc #[.int .i64 0, .int .i64 0] 24).trans g1
  clear R0 g1 HQ
  go_wp2_with fail
  refine (HO.out _).mono ?_
  rintro e w2 ⟨p, q, rfl, c0, c1, g2⟩
  have R2 := R1.gr g2
  have gw2 := gw1.trans g2
  have HC2 := Lib.hid (HC.out p q w2 c0 c1)
  clear R1 g2 HO gw1 c0 c1 HC
  go_wp2_with fail
  refine HC2.out.mono ?_
  rintro e w3 ⟨rfl, rfl⟩
  go_wp2_with fail
  refine (HP.out _).mono ?_
  rintro e w4 ⟨rfl, g4⟩
  have R3 := R2.gr g4
  have gw3 := gw2.trans g4
  have hsz := gw3.size
  have d0 := R3.cell 0
  have d1 := R3.cell 1
  have f0 := R3.frozen 0
  have f1 := R3.frozen 1
  simp only [List.getElem?_toArray, List.getElem?_cons_zero, List.getElem?_cons_succ] at d0 d1
  clear R2 g4 HP HC2 gw2
  go_wp2_with fail
  refine bodyPost_ret (v := .tuple #[.agg #[.int .i64 re, .int .i64 im], .int .i64 0]) ?_ rfl ⟨rfl, ?_⟩
  · simp [results, Try.f49, go_sem, d0, d1]
  · exact (gw3.setCell (a := ⟨w.heap.size, 0, none⟩) (by simp) _).setCell (a := ⟨w.heap.size, 1, none⟩) (by simp) _

theorem eighth_bad (k log : Int) (h : log < 0 ∨ 6 < log ∨ k < 0 ∨ 2 ^ log.toNat < k) (w : World) : EiNot k log w := by
  unfold EiNot
  by_cases a : log < 0
  · clear h
    go_enter Try.func49, Try.ntmps49
    go_wp2_with fail
    refine bodyPost_ret (v := .tuple #[.agg #[.int .i64 0, .int .i64 0], .int .i64 1]) ?_ rfl ⟨rfl, ?_⟩
    · simp [results, Try.f49, go_sem]
    · exact (Gr.refl w).alloc _ _
  · by_cases b : 6 < log
    · clear h
      go_enter Try.func49, Try.ntmps49
      go_wp2_with fail
      refine bodyPost_ret (v := .tuple #[.agg #[.int .i64 0, .int .i64 0], .int .i64 1]) ?_ rfl ⟨rfl, ?_⟩
      · simp [results, Try.f49, go_sem]
      · exact (Gr.refl w).alloc _ _
    · by_cases c : k < 0
      · clear h
        go_enter Try.func49, Try.ntmps49
        go_wp2_with fail
        refine bodyPost_ret (v := .tuple #[.agg #[.int .i64 0, .int .i64 0], .int .i64 1]) ?_ rfl ⟨rfl, ?_⟩
        · simp [results, Try.f49, go_sem]
        · exact (Gr.refl w).alloc _ _
      · have d : 2 ^ log.toNat < k := by omega
        generalize he : (2 : Int) ^ log.toNat = p2 at *
        have hp2 : (1 : Int) ≤ p2 ∧ p2 ≤ 64 := by
          rcases (by omega : log = 0 ∨ log = 1 ∨ log = 2 ∨ log = 3 ∨ log = 4 ∨ log = 5 ∨ log = 6) with rfl | rfl | rfl | rfl | rfl | rfl | rfl <;> simp at he <;> omega
        have hw2 : IntKind.i64.wrap p2 = p2 := IntWalk.i64_in _ ⟨by omega, by omega⟩
        clear h
        go_enter Try.func49, Try.ntmps49
        go_wp2_with fail
        refine bodyPost_ret (v := .tuple #[.agg #[.int .i64 0, .int .i64 0], .int .i64 1]) ?_ rfl ⟨rfl, ?_⟩
        · simp [results, Try.f49, go_sem]
        · exact (Gr.refl w).alloc _ _

end Go.Proofs.Ytpkkokcidbcopaa
