/- GainTells: the walks of its two cases, by what the code's functions answer. -/
import Derived.Test.YtaogjlmcdacbeaaLaw05
namespace Go.Proofs.Ytaogjlmcdacbeaa
open Go.ChangeShapes Go.WideShapes Go.ChangeAt Go.RowKit
set_option linter.unusedVariables false

def RunIs (x z : Int) (W : World) : Prop := Calls Try.prog 6 #[.int .i64 x, .int .i64 z] W fun e w' => e = .returned (.tuple #[.agg #[.int .i64 (trun 45 ⟨x, 0, z⟩).re, .int .i64 (trun 45 ⟨x, 0, z⟩).im], .int .i64 (trun 45 ⟨x, 0, z⟩).left, .int .i64 0]) ∧ Gr W w'
def RunNot (x z : Int) (W : World) : Prop := Calls Try.prog 6 #[.int .i64 x, .int .i64 z] W fun e w' => e = .returned (.tuple #[.agg #[.int .i64 0, .int .i64 0], .int .i64 0, .int .i64 2]) ∧ Gr W w'

theorem angL_ne : angL ≠ [] := by intro e; have := angL_len; rw [e] at this; exact absurd this (by decide)

set_option maxHeartbeats 4000000 in
theorem gtells_ok (x z : Int) (h0 : 0 ≤ x) (h1 : x ≤ 144115188075855872) (hz : z.natAbs ≤ 72057594037927936)
    (HR : ∀ W, RunIs x z W) (HG : ∀ W, GainIs W) (HI : ∀ W, InvIs W) (HA : ∀ W, AngIs W) (w : World) :
    Calls Try.prog 3 #[.int .i64 x, .int .i64 z] w fun e w' => e = .returned (.bool true) ∧ Gr w w' := by
  have R := Lib.hid HR
  have G := Lib.hid HG
  have I := Lib.hid HI
  have A := Lib.hid HA
  have AL := Lib.hid (alive05_c HG HA)
  have RA := Lib.hid angles05_c
  have RG := Lib.hid gain05_c
  have RI := Lib.hid inverse05_c
  have RM := Lib.hid (may05_yes x z h0 h1 hz)
  have RR := Lib.hid (run05_c x z h0 h1 hz)
  unfold TV at RR
  have R' : Hid (∀ W, Calls Try.prog 6 #[.int .i64 x, .int .i64 z] W fun e w' => e = .returned (.tuple #[.agg #[.int .i64 (trun 45 ⟨x, 0, z⟩).re, .int .i64 (trun 45 ⟨x, 0, z⟩).im], .int .i64 (trun 45 ⟨x, 0, z⟩).left, .int .i64 0]) ∧ Gr W w') := R
  generalize trun 45 ⟨x, 0, z⟩ = s at *
  obtain ⟨re, im, left⟩ := s
  clear HR HG HI HA h0 h1 hz R
  go_enter Try.func3, Try.ntmps3
  go_wp2_with fail
  refine (R'.out _).mono ?_
  rintro e w1 ⟨rfl, hg1⟩
  have P := CellsAt.new w1 23 #[.int .i64 re, .int .i64 im]
  have gw := hg1.alloc #[.int .i64 re, .int .i64 im] 23
  clear hg1
  simp only at *
  go_wp2_with fail
  generalize w1.alloc (.cells #[.int .i64 re, .int .i64 im] 23) = u at *
  generalize w1.heap.size = B at *
  refine (A.out u).mono ?_
  rintro e w2 ⟨v1, rfl, I1, g2⟩
  have J1 := Lib.hid I1
  clear I1
  go_wp2_with fail
  refine (RA.out w2).mono ?_
  rintro e w3 ⟨v2, rfl, I2, g3⟩
  have S := Lib.hid (same_c v1 v2 angL angL_ne w3 (J1.out.gr g3) I2)
  clear J1 I2
  have gw3 := (gw.trans g2).trans g3
  have P3 := (P.gr g2).gr g3
  clear gw P g2 g3 A RA
  go_wp2_with (first
    | (go_at_call 7; refine (S.out).mono ?_; rintro e w4 ⟨rfl, g4⟩)
    | (go_at_call 10; refine (G.out _).mono ?_; rintro e w5 ⟨rfl, g5⟩)
    | (go_at_call 11; refine (RG.out _).mono ?_; rintro e w6 ⟨rfl, g6⟩)
    | (go_at_call 12; refine (I.out _).mono ?_; rintro e w7 ⟨rfl, g7⟩)
    | (go_at_call 13; refine (RI.out _).mono ?_; rintro e w8 ⟨rfl, g8⟩)
    | (go_at_call 14; refine (AL.out _).mono ?_; rintro e w9 ⟨rfl, g9⟩)
    | (go_at_call 15; refine (RM.out _).mono ?_; rintro e w10 ⟨rfl, rfl⟩))
  refine (RR.out _).mono ?_
  rintro e w11 ⟨rfl, g11⟩
  have g := (((((g4.trans g5).trans g6).trans g7).trans g8).trans g9).trans g11
  have P4 := (P3.gr g).alloc (.cells #[.int .i64 re, .int .i64 im, .int .i64 left] 34)
  have gw4 := (gw3.trans g).alloc #[.int .i64 re, .int .i64 im, .int .i64 left] 34
  have Q := CellsAt.new w11 34 #[.int .i64 re, .int .i64 im, .int .i64 left]
  have c0 := P4.cell 0
  have c1 := P4.cell 1
  have d0 := Q.cell 0
  have d1 := Q.cell 1
  have d2 := Q.cell 2
  simp only [List.getElem?_toArray, List.getElem?_cons_zero, List.getElem?_cons_succ] at c0 c1 d0 d1 d2
  clear P3 g4 g5 g6 g7 g8 g9 g11 g gw3 P4 Q
  go_wp2_with fail
  go_ret
  exact ⟨rfl, gw4⟩

set_option maxHeartbeats 4000000 in
theorem gtells_bad (x z : Int) (h : x < 0 ∨ 144115188075855872 < x ∨ z < -72057594037927936 ∨ 72057594037927936 < z)
    (HR : ∀ W, RunNot x z W) (HG : ∀ W, GainIs W) (HI : ∀ W, InvIs W) (HA : ∀ W, AngIs W) (w : World) :
    Calls Try.prog 3 #[.int .i64 x, .int .i64 z] w fun e w' => e = .returned (.bool true) ∧ Gr w w' := by
  have R := Lib.hid HR
  have G := Lib.hid HG
  have I := Lib.hid HI
  have A := Lib.hid HA
  have AL := Lib.hid (alive05_c HG HA)
  have RA := Lib.hid angles05_c
  have RG := Lib.hid gain05_c
  have RI := Lib.hid inverse05_c
  have RM := Lib.hid (may05_no x z h)
  clear HR HG HI HA h
  go_enter Try.func3, Try.ntmps3
  go_wp2_with fail
  refine (R.out _).mono ?_
  rintro e w1 ⟨rfl, hg1⟩
  have P := CellsAt.new w1 23 #[.int .i64 0, .int .i64 0]
  have gw := hg1.alloc #[.int .i64 0, .int .i64 0] 23
  clear hg1
  go_wp2_with fail
  generalize w1.alloc (.cells #[.int .i64 0, .int .i64 0] 23) = u at *
  generalize w1.heap.size = B at *
  refine (A.out u).mono ?_
  rintro e w2 ⟨v1, rfl, I1, g2⟩
  have J1 := Lib.hid I1
  clear I1
  go_wp2_with fail
  refine (RA.out w2).mono ?_
  rintro e w3 ⟨v2, rfl, I2, g3⟩
  have S := Lib.hid (same_c v1 v2 angL angL_ne w3 (J1.out.gr g3) I2)
  clear J1 I2
  have gw3 := (gw.trans g2).trans g3
  have P3 := (P.gr g2).gr g3
  clear gw P g2 g3 A RA
  go_wp2_with (first
    | (go_at_call 7; refine (S.out).mono ?_; rintro e w4 ⟨rfl, g4⟩)
    | (go_at_call 10; refine (G.out _).mono ?_; rintro e w5 ⟨rfl, g5⟩)
    | (go_at_call 11; refine (RG.out _).mono ?_; rintro e w6 ⟨rfl, g6⟩)
    | (go_at_call 12; refine (I.out _).mono ?_; rintro e w7 ⟨rfl, g7⟩)
    | (go_at_call 13; refine (RI.out _).mono ?_; rintro e w8 ⟨rfl, g8⟩)
    | (go_at_call 14; refine (AL.out _).mono ?_; rintro e w9 ⟨rfl, g9⟩))
  refine (RM.out _).mono ?_
  rintro e w10 ⟨rfl, rfl⟩
  have g := ((((g4.trans g5).trans g6).trans g7).trans g8).trans g9
  have P4 := P3.gr g
  have gw4 := gw3.trans g
  have c0 := P4.cell 0
  have c1 := P4.cell 1
  simp only [List.getElem?_toArray, List.getElem?_cons_zero, List.getElem?_cons_succ] at c0 c1
  clear P3 g4 g5 g6 g7 g8 g9 g gw3 P4
  go_wp2_with fail
  go_ret
  exact ⟨rfl, gw4⟩

end Go.Proofs.Ytaogjlmcdacbeaa
