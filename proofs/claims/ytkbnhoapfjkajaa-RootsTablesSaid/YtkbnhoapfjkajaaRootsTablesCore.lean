/- RootsTables: its walks, by what the functions answer. -/
import Derived.Test.YtkbnhoapfjkajaaRef07d
namespace Go.Proofs.Ytkbnhoapfjkajaa
open Go.ChangeShapes Go.WideShapes Go.ChangeAt Go.RowKit
set_option linter.unusedVariables false

set_option maxRecDepth 100000 in set_option maxHeartbeats 8000000 in
theorem rtables_tt (log bits format fb : Int) (xs ys : List Gi)
    (HT : Hid (∀ W, Calls Try.prog 11 #[.int .i64 log, .int .i64 bits] W fun e w' => ∃ v, e = .returned (.tuple #[v, .int .i64 0]) ∧ CxsAt w' v xs ∧ Gr W w'))
    (HW : Hid (∀ W, Calls Try.prog 12 #[.int .i64 log, .int .i64 format] W fun e w' => ∃ v, e = .returned (.tuple #[v, .int .i64 0]) ∧ CxsAt w' v ys ∧ Gr W w'))
    (HM : Hid (∀ W, Calls Try.prog 8 #[.int .i64 log, .int .i64 bits] W fun e w' => e = .returned (.bool true) ∧ w' = W))
    (RT : Hid (∀ W, Calls Try.prog 14 #[.int .i64 log, .int .i64 bits] W fun e w' => ∃ v, e = .returned v ∧ CxsAt w' v xs ∧ Gr W w'))
    (HL : Hid (∀ W, Calls Try.prog 15 #[.int .i64 log] W fun e w' => e = .returned (.bool true) ∧ w' = W))
    (HF : Hid (∀ W, Calls Try.prog 16 #[.int .i64 format] W fun e w' => e = .returned (.bool true) ∧ w' = W))
    (HB : Hid (∀ W, Calls Try.prog 17 #[.int .i64 format] W fun e w' => e = .returned (.int .i64 fb) ∧ w' = W))
    (RW : Hid (∀ W, Calls Try.prog 14 #[.int .i64 log, .int .i64 fb] W fun e w' => ∃ v, e = .returned v ∧ CxsAt w' v ys ∧ Gr W w'))
    (AL : Hid (∀ W, Calls Try.prog 9 #[] W fun e w' => e = .returned (.bool true) ∧ Gr W w'))
    (w : World) : Calls Try.prog 4 #[.int .i64 log, .int .i64 bits, .int .i64 format] w fun e w' => e = .returned (.bool true) ∧ Gr w w' := by
  have SM := Lib.hid same03_c
  go_enter Try.func4, Try.ntmps4
  go_wp2_with fail
  refine (HT.out _).mono ?_
  rintro e w1 ⟨v1, rfl, x1, g1⟩
  have X1 := Lib.hid x1
  clear x1
  go_wp2_with fail
  refine (HW.out _).mono ?_
  rintro e w2 ⟨v2, rfl, x2, g2⟩
  have X2 := Lib.hid x2
  clear x2
  have G2 := g1.trans g2
  go_wp2_with (go_at_call 8; refine (HM.out _).mono ?_; rintro e wz ⟨rfl, hwz⟩; subst wz)
  refine (RT.out _).mono ?_
  rintro e w3 ⟨v3, rfl, x3, g3⟩
  have X3 := Lib.hid x3
  clear x3
  go_wp2_with fail
  refine (SM.out v1 v3 xs w3 ((X1.out.gr g2).gr g3) X3.out).mono ?_
  rintro e w4 ⟨rfl, g4⟩
  have G4 := (G2.trans g3).trans g4
  have G24 := g3.trans g4
  go_wp2_with fail
  refine (AL.out _).mono ?_
  rintro e w5 ⟨rfl, g5⟩
  have G5 := G4.trans g5
  have G25 := G24.trans g5
  go_wp2_with (first | (go_at_call 15; refine (HL.out _).mono ?_; rintro e wz ⟨rfl, hwz⟩; subst wz) | (go_at_call 16; refine (HF.out _).mono ?_; rintro e wz ⟨rfl, hwz⟩; subst wz) | (go_at_call 17; refine (HB.out _).mono ?_; rintro e wz ⟨rfl, hwz⟩; subst wz))
  refine (RW.out _).mono ?_
  rintro e w6 ⟨v6, rfl, x6, g6⟩
  have X6 := Lib.hid x6
  clear x6
  go_wp2_with fail
  refine (SM.out v2 v6 ys w6 ((X2.out.gr G25).gr g6) X6.out).mono ?_
  rintro e w7 ⟨rfl, g7⟩
  go_wp2_with fail
  go_ret
  exact ⟨rfl, (G5.trans g6).trans g7⟩

set_option maxRecDepth 100000 in set_option maxHeartbeats 8000000 in
theorem rtables_tf (log bits format fb : Int) (xs ys : List Gi)
    (HT : Hid (∀ W, Calls Try.prog 11 #[.int .i64 log, .int .i64 bits] W fun e w' => ∃ v, e = .returned (.tuple #[v, .int .i64 0]) ∧ CxsAt w' v xs ∧ Gr W w'))
    (HW : Hid (∀ W, Calls Try.prog 12 #[.int .i64 log, .int .i64 format] W fun e w' => e = .returned (.tuple #[.slice none 0 0, .int .i64 1]) ∧ Gr W w'))
    (HM : Hid (∀ W, Calls Try.prog 8 #[.int .i64 log, .int .i64 bits] W fun e w' => e = .returned (.bool true) ∧ w' = W))
    (RT : Hid (∀ W, Calls Try.prog 14 #[.int .i64 log, .int .i64 bits] W fun e w' => ∃ v, e = .returned v ∧ CxsAt w' v xs ∧ Gr W w'))
    (lb : Bool) (fo : Bool) (hlf : (lb && fo) = false)
    (HL : Hid (∀ W, Calls Try.prog 15 #[.int .i64 log] W fun e w' => e = .returned (.bool lb) ∧ w' = W))
    (HF : Hid (∀ W, Calls Try.prog 16 #[.int .i64 format] W fun e w' => e = .returned (.bool fo) ∧ w' = W))
    (AL : Hid (∀ W, Calls Try.prog 9 #[] W fun e w' => e = .returned (.bool true) ∧ Gr W w'))
    (w : World) : Calls Try.prog 4 #[.int .i64 log, .int .i64 bits, .int .i64 format] w fun e w' => e = .returned (.bool true) ∧ Gr w w' := by
  have SM := Lib.hid same03_c
  go_enter Try.func4, Try.ntmps4
  go_wp2_with fail
  refine (HT.out _).mono ?_
  rintro e w1 ⟨v1, rfl, x1, g1⟩
  have X1 := Lib.hid x1
  clear x1
  go_wp2_with fail
  refine (HW.out _).mono ?_
  rintro e w2 ⟨rfl, g2⟩
  have G2 := g1.trans g2
  go_wp2_with (go_at_call 8; refine (HM.out _).mono ?_; rintro e wz ⟨rfl, hwz⟩; subst wz)
  refine (RT.out _).mono ?_
  rintro e w3 ⟨v3, rfl, x3, g3⟩
  have X3 := Lib.hid x3
  clear x3
  go_wp2_with fail
  refine (SM.out v1 v3 xs w3 ((X1.out.gr g2).gr g3) X3.out).mono ?_
  rintro e w4 ⟨rfl, g4⟩
  have G4 := (G2.trans g3).trans g4
  have G24 := g3.trans g4
  go_wp2_with fail
  refine (AL.out _).mono ?_
  rintro e w5 ⟨rfl, g5⟩
  have G5 := G4.trans g5
  have G25 := G24.trans g5
  cases lb
  · go_wp2_with (first | (go_at_call 15; refine (HL.out _).mono ?_; rintro e wz ⟨rfl, hwz⟩; subst wz) | (go_at_call 16; refine (HF.out _).mono ?_; rintro e wz ⟨rfl, hwz⟩; subst wz))
    go_ret
    exact ⟨rfl, G5⟩
  · cases fo
    · go_wp2_with (first | (go_at_call 15; refine (HL.out _).mono ?_; rintro e wz ⟨rfl, hwz⟩; subst wz) | (go_at_call 16; refine (HF.out _).mono ?_; rintro e wz ⟨rfl, hwz⟩; subst wz))
      go_ret
      exact ⟨rfl, G5⟩
    · cases hlf

set_option maxRecDepth 100000 in set_option maxHeartbeats 8000000 in
theorem rtables_ft (log bits format fb : Int) (xs ys : List Gi)
    (HT : Hid (∀ W, Calls Try.prog 11 #[.int .i64 log, .int .i64 bits] W fun e w' => e = .returned (.tuple #[.slice none 0 0, .int .i64 1]) ∧ Gr W w'))
    (HW : Hid (∀ W, Calls Try.prog 12 #[.int .i64 log, .int .i64 format] W fun e w' => ∃ v, e = .returned (.tuple #[v, .int .i64 0]) ∧ CxsAt w' v ys ∧ Gr W w'))
    (HM : Hid (∀ W, Calls Try.prog 8 #[.int .i64 log, .int .i64 bits] W fun e w' => e = .returned (.bool false) ∧ w' = W))
    (HL : Hid (∀ W, Calls Try.prog 15 #[.int .i64 log] W fun e w' => e = .returned (.bool true) ∧ w' = W))
    (HF : Hid (∀ W, Calls Try.prog 16 #[.int .i64 format] W fun e w' => e = .returned (.bool true) ∧ w' = W))
    (HB : Hid (∀ W, Calls Try.prog 17 #[.int .i64 format] W fun e w' => e = .returned (.int .i64 fb) ∧ w' = W))
    (RW : Hid (∀ W, Calls Try.prog 14 #[.int .i64 log, .int .i64 fb] W fun e w' => ∃ v, e = .returned v ∧ CxsAt w' v ys ∧ Gr W w'))
    (AL : Hid (∀ W, Calls Try.prog 9 #[] W fun e w' => e = .returned (.bool true) ∧ Gr W w'))
    (w : World) : Calls Try.prog 4 #[.int .i64 log, .int .i64 bits, .int .i64 format] w fun e w' => e = .returned (.bool true) ∧ Gr w w' := by
  have SM := Lib.hid same03_c
  go_enter Try.func4, Try.ntmps4
  go_wp2_with fail
  refine (HT.out _).mono ?_
  rintro e w1 ⟨rfl, g1⟩
  go_wp2_with fail
  refine (HW.out _).mono ?_
  rintro e w2 ⟨v2, rfl, x2, g2⟩
  have X2 := Lib.hid x2
  clear x2
  have G2 := g1.trans g2
  go_wp2_with (go_at_call 8; refine (HM.out _).mono ?_; rintro e wz ⟨rfl, hwz⟩; subst wz)
  have G4 := G2
  have G24 := Gr.refl w2
  go_wp2_with fail
  refine (AL.out _).mono ?_
  rintro e w5 ⟨rfl, g5⟩
  have G5 := G4.trans g5
  have G25 := G24.trans g5
  go_wp2_with (first | (go_at_call 15; refine (HL.out _).mono ?_; rintro e wz ⟨rfl, hwz⟩; subst wz) | (go_at_call 16; refine (HF.out _).mono ?_; rintro e wz ⟨rfl, hwz⟩; subst wz) | (go_at_call 17; refine (HB.out _).mono ?_; rintro e wz ⟨rfl, hwz⟩; subst wz))
  refine (RW.out _).mono ?_
  rintro e w6 ⟨v6, rfl, x6, g6⟩
  have X6 := Lib.hid x6
  clear x6
  go_wp2_with fail
  refine (SM.out v2 v6 ys w6 ((X2.out.gr G25).gr g6) X6.out).mono ?_
  rintro e w7 ⟨rfl, g7⟩
  go_wp2_with fail
  go_ret
  exact ⟨rfl, (G5.trans g6).trans g7⟩

set_option maxRecDepth 100000 in set_option maxHeartbeats 8000000 in
theorem rtables_ff (log bits format fb : Int) (xs ys : List Gi)
    (HT : Hid (∀ W, Calls Try.prog 11 #[.int .i64 log, .int .i64 bits] W fun e w' => e = .returned (.tuple #[.slice none 0 0, .int .i64 1]) ∧ Gr W w'))
    (HW : Hid (∀ W, Calls Try.prog 12 #[.int .i64 log, .int .i64 format] W fun e w' => e = .returned (.tuple #[.slice none 0 0, .int .i64 1]) ∧ Gr W w'))
    (HM : Hid (∀ W, Calls Try.prog 8 #[.int .i64 log, .int .i64 bits] W fun e w' => e = .returned (.bool false) ∧ w' = W))
    (lb : Bool) (fo : Bool) (hlf : (lb && fo) = false)
    (HL : Hid (∀ W, Calls Try.prog 15 #[.int .i64 log] W fun e w' => e = .returned (.bool lb) ∧ w' = W))
    (HF : Hid (∀ W, Calls Try.prog 16 #[.int .i64 format] W fun e w' => e = .returned (.bool fo) ∧ w' = W))
    (AL : Hid (∀ W, Calls Try.prog 9 #[] W fun e w' => e = .returned (.bool true) ∧ Gr W w'))
    (w : World) : Calls Try.prog 4 #[.int .i64 log, .int .i64 bits, .int .i64 format] w fun e w' => e = .returned (.bool true) ∧ Gr w w' := by
  have SM := Lib.hid same03_c
  go_enter Try.func4, Try.ntmps4
  go_wp2_with fail
  refine (HT.out _).mono ?_
  rintro e w1 ⟨rfl, g1⟩
  go_wp2_with fail
  refine (HW.out _).mono ?_
  rintro e w2 ⟨rfl, g2⟩
  have G2 := g1.trans g2
  go_wp2_with (go_at_call 8; refine (HM.out _).mono ?_; rintro e wz ⟨rfl, hwz⟩; subst wz)
  have G4 := G2
  have G24 := Gr.refl w2
  go_wp2_with fail
  refine (AL.out _).mono ?_
  rintro e w5 ⟨rfl, g5⟩
  have G5 := G4.trans g5
  have G25 := G24.trans g5
  cases lb
  · go_wp2_with (first | (go_at_call 15; refine (HL.out _).mono ?_; rintro e wz ⟨rfl, hwz⟩; subst wz) | (go_at_call 16; refine (HF.out _).mono ?_; rintro e wz ⟨rfl, hwz⟩; subst wz))
    go_ret
    exact ⟨rfl, G5⟩
  · cases fo
    · go_wp2_with (first | (go_at_call 15; refine (HL.out _).mono ?_; rintro e wz ⟨rfl, hwz⟩; subst wz) | (go_at_call 16; refine (HF.out _).mono ?_; rintro e wz ⟨rfl, hwz⟩; subst wz))
      go_ret
      exact ⟨rfl, G5⟩
    · cases hlf


end Go.Proofs.Ytkbnhoapfjkajaa
