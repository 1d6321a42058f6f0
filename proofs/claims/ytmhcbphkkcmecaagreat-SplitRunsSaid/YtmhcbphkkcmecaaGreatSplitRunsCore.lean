/- SplitRuns, from what package split's Run answers and what reference 12 does. -/
import Derived.Test.YtmhcbphkkcmecaaGreatRef12d
import Derived.Test.YtmhcbphkkcmecaaGreatLaw12
namespace Go.Proofs.YtmhcbphkkcmecaaGreat
open Go.ChangeShapes Go.WideShapes Go.ChangeAt Go.RowKit
set_option linter.unusedVariables false
set_option linter.unusedSimpArgs false
set_option maxRecDepth 100000


set_option maxHeartbeats 2000000 in
theorem runs_size (p : Option Addr) (l1 cap1 m1 : Nat) (f mo : Int) (inv : Bool) (xs : List Gi) (hm1 : m1 ≤ cap1) (hmin1 : (if (70 : Int) < (l1 : Int) then 70 else (l1 : Int)) = (m1 : Int)) (HP : Hid (∀ W, CxsAt W (.slice p m1 cap1) xs → Calls Tryz.prog 4 #[.slice p m1 cap1, .int .i64 f, .int .i64 mo, .bool inv] W fun e' w' => e' = .returned (.tuple #[.slice none 0 0, .int .i64 3]) ∧ Gr W w')) (HL : Hid (∀ W, Calls Tryz.prog 5 #[.int .i64 (m1 : Int)] W fun e' w' => e' = .returned (.int .i64 (-1)) ∧ w' = W)) (AL : Hid (∀ W, Calls Tryz.prog 6 #[] W fun e' w' => e' = .returned (.bool true) ∧ Gr W w'))
    (w : World) (hx : CxsAt w (.slice p m1 cap1) xs) :
    Calls Tryz.prog 3 #[.slice p l1 cap1, .int .i64 f, .int .i64 mo, .bool inv] w fun e w' => e = .returned (.bool true) ∧ Gr w w' := by
  have hcut1 := run_cut_cx p l1 cap1 m1 hm1
  have VX := Lib.hid hx
  clear hx
  go_enter Tryz.func3, Tryz.ntmps3
  go_wp2_with fail
  refine (HP.out _ VX.out).mono ?_
  rintro e w1 ⟨rfl, g1⟩
  have V1 := Lib.hid (VX.out.gr g1)
  go_wp2_with (first | (go_at_call 5; refine (HL.out _).mono ?_; rintro e wz ⟨rfl, hwz⟩; subst wz))
  refine (AL.out _).mono ?_
  rintro e w4 ⟨rfl, g4⟩
  go_wp2_with fail
  go_ret
  exact ⟨by simp, (g1).trans g4⟩

set_option maxHeartbeats 2000000 in
theorem runs_arg (p : Option Addr) (l1 cap1 m1 : Nat) (f mo : Int) (inv : Bool) (xs : List Gi) (hm1 : m1 ≤ cap1) (hmin1 : (if (70 : Int) < (l1 : Int) then 70 else (l1 : Int)) = (m1 : Int)) (L : Nat) (hL0 : ¬ (L : Int) < 0) (fo : Bool) (hk : fo = false ∨ mo < 0 ∨ 2 < mo) (HP : Hid (∀ W, CxsAt W (.slice p m1 cap1) xs → Calls Tryz.prog 4 #[.slice p m1 cap1, .int .i64 f, .int .i64 mo, .bool inv] W fun e' w' => e' = .returned (.tuple #[.slice none 0 0, .int .i64 1]) ∧ Gr W w')) (HL : Hid (∀ W, Calls Tryz.prog 5 #[.int .i64 (m1 : Int)] W fun e' w' => e' = .returned (.int .i64 (L : Int)) ∧ w' = W)) (HF : Hid (∀ W, Calls Tryz.prog 7 #[.int .i64 f] W fun e' w' => e' = .returned (.bool fo) ∧ w' = W)) (AL : Hid (∀ W, Calls Tryz.prog 6 #[] W fun e' w' => e' = .returned (.bool true) ∧ Gr W w'))
    (w : World) (hx : CxsAt w (.slice p m1 cap1) xs) :
    Calls Tryz.prog 3 #[.slice p l1 cap1, .int .i64 f, .int .i64 mo, .bool inv] w fun e w' => e = .returned (.bool true) ∧ Gr w w' := by
  have hcut1 := run_cut_cx p l1 cap1 m1 hm1
  have VX := Lib.hid hx
  clear hx
  go_enter Tryz.func3, Tryz.ntmps3
  go_wp2_with fail
  refine (HP.out _ VX.out).mono ?_
  rintro e w1 ⟨rfl, g1⟩
  have V1 := Lib.hid (VX.out.gr g1)
  rcases hk with rfl | hk | hk
  · go_wp2_with (first | (go_at_call 5; refine (HL.out _).mono ?_; rintro e wz ⟨rfl, hwz⟩; subst wz) | (go_at_call 7; refine (HF.out _).mono ?_; rintro e wz ⟨rfl, hwz⟩; subst wz))
    refine (AL.out _).mono ?_
    rintro e w4 ⟨rfl, g4⟩
    go_wp2_with fail
    go_ret
    exact ⟨by simp, g1.trans g4⟩
  · have hk2 : decide (mo < 0) = true := by simpa using hk
    cases fo
    all_goals
      go_wp2_with (first | (go_at_call 5; refine (HL.out _).mono ?_; rintro e wz ⟨rfl, hwz⟩; subst wz) | (go_at_call 7; refine (HF.out _).mono ?_; rintro e wz ⟨rfl, hwz⟩; subst wz))
      refine (AL.out _).mono ?_
      rintro e w4 ⟨rfl, g4⟩
      go_wp2_with fail
      go_ret
      exact ⟨by simp, g1.trans g4⟩
  · have hk1 : ¬ mo < 0 := by omega
    have hk2 : decide (mo < 0) = false := by simpa using hk1
    have hk3 : decide (2 < mo) = true := by simpa using hk
    cases fo
    all_goals
      go_wp2_with (first | (go_at_call 5; refine (HL.out _).mono ?_; rintro e wz ⟨rfl, hwz⟩; subst wz) | (go_at_call 7; refine (HF.out _).mono ?_; rintro e wz ⟨rfl, hwz⟩; subst wz))
      refine (AL.out _).mono ?_
      rintro e w4 ⟨rfl, g4⟩
      go_wp2_with fail
      go_ret
      exact ⟨by simp, g1.trans g4⟩

set_option maxHeartbeats 2000000 in
theorem runs_range (p : Option Addr) (l1 cap1 m1 : Nat) (f mo : Int) (inv : Bool) (xs : List Gi) (hm1 : m1 ≤ cap1) (hmin1 : (if (70 : Int) < (l1 : Int) then 70 else (l1 : Int)) = (m1 : Int)) (L : Nat) (hL0 : ¬ (L : Int) < 0) (m0 : 0 ≤ mo) (m2 : mo ≤ 2) (HP : Hid (∀ W, CxsAt W (.slice p m1 cap1) xs → Calls Tryz.prog 4 #[.slice p m1 cap1, .int .i64 f, .int .i64 mo, .bool inv] W fun e' w' => e' = .returned (.tuple #[.slice none 0 0, .int .i64 2]) ∧ Gr W w')) (HL : Hid (∀ W, Calls Tryz.prog 5 #[.int .i64 (m1 : Int)] W fun e' w' => e' = .returned (.int .i64 (L : Int)) ∧ w' = W)) (HF : Hid (∀ W, Calls Tryz.prog 7 #[.int .i64 f] W fun e' w' => e' = .returned (.bool true) ∧ w' = W)) (HH : Hid (∀ W, CxsAt W (.slice p m1 cap1) xs → Calls Tryz.prog 8 #[.slice p m1 cap1, .int .i64 f] W fun e' w' => e' = .returned (.bool false) ∧ Gr W w')) (AL : Hid (∀ W, Calls Tryz.prog 6 #[] W fun e' w' => e' = .returned (.bool true) ∧ Gr W w'))
    (w : World) (hx : CxsAt w (.slice p m1 cap1) xs) :
    Calls Tryz.prog 3 #[.slice p l1 cap1, .int .i64 f, .int .i64 mo, .bool inv] w fun e w' => e = .returned (.bool true) ∧ Gr w w' := by
  have hcut1 := run_cut_cx p l1 cap1 m1 hm1
  have VX := Lib.hid hx
  clear hx
  go_enter Tryz.func3, Tryz.ntmps3
  go_wp2_with fail
  have k0 : ¬ mo < 0 := by omega
  have k1 : ¬ 2 < mo := by omega
  have k2 : decide (mo < 0) = false := by simpa using k0
  have k3 : decide (2 < mo) = false := by simpa using k1
  refine (HP.out _ VX.out).mono ?_
  rintro e w1 ⟨rfl, g1⟩
  have V1 := Lib.hid (VX.out.gr g1)
  go_wp2_with (first | (go_at_call 5; refine (HL.out _).mono ?_; rintro e wz ⟨rfl, hwz⟩; subst wz) | (go_at_call 7; refine (HF.out _).mono ?_; rintro e wz ⟨rfl, hwz⟩; subst wz))
  refine (HH.out _ V1.out).mono ?_
  rintro e w2 ⟨rfl, g2⟩
  go_wp2_with fail
  refine (AL.out _).mono ?_
  rintro e w4 ⟨rfl, g4⟩
  go_wp2_with fail
  go_ret
  exact ⟨by simp, (g1.trans g2).trans g4⟩

set_option maxHeartbeats 2000000 in
theorem runs_ok (p : Option Addr) (l1 cap1 m1 : Nat) (f mo : Int) (inv : Bool) (xs : List Gi) (hm1 : m1 ≤ cap1) (hmin1 : (if (70 : Int) < (l1 : Int) then 70 else (l1 : Int)) = (m1 : Int)) (L : Nat) (hL0 : ¬ (L : Int) < 0) (B : Nat) (m0 : 0 ≤ mo) (m2 : mo ≤ 2) (ys ws : List Gi) (lw : ws.length = m1) (HP : Hid (∀ W, CxsAt W (.slice p m1 cap1) xs → Calls Tryz.prog 4 #[.slice p m1 cap1, .int .i64 f, .int .i64 mo, .bool inv] W fun e' w' => ∃ v', e' = .returned (.tuple #[v', .int .i64 0]) ∧ CxsAt w' v' ys ∧ Gr W w')) (HL : Hid (∀ W, Calls Tryz.prog 5 #[.int .i64 (m1 : Int)] W fun e' w' => e' = .returned (.int .i64 (L : Int)) ∧ w' = W)) (HF : Hid (∀ W, Calls Tryz.prog 7 #[.int .i64 f] W fun e' w' => e' = .returned (.bool true) ∧ w' = W)) (HH : Hid (∀ W, CxsAt W (.slice p m1 cap1) xs → Calls Tryz.prog 8 #[.slice p m1 cap1, .int .i64 f] W fun e' w' => e' = .returned (.bool true) ∧ Gr W w')) (HT : Hid (∀ W, Calls Tryz.prog 11 #[.int .i64 (L : Int), .int .i64 f] W fun e' w' => ∃ v', e' = .returned v' ∧ CxsAt w' v' ws ∧ Gr W w')) (HB : Hid (∀ W, Calls Tryz.prog 12 #[.int .i64 f] W fun e' w' => e' = .returned (.int .i64 (B : Int)) ∧ w' = W)) (HR : Hid (∀ q c W, CxsAt W (.slice p m1 cap1) xs → CxsAt W (.slice q m1 c) ws → Calls Tryz.prog 10 #[.slice p m1 cap1, .slice q m1 c, .int .i64 (B : Int), .int .i64 mo, .bool inv] W fun e' w' => ∃ v', e' = .returned v' ∧ CxsAt w' v' ys ∧ Gr W w')) (AL : Hid (∀ W, Calls Tryz.prog 6 #[] W fun e' w' => e' = .returned (.bool true) ∧ Gr W w'))
    (w : World) (hx : CxsAt w (.slice p m1 cap1) xs) :
    Calls Tryz.prog 3 #[.slice p l1 cap1, .int .i64 f, .int .i64 mo, .bool inv] w fun e w' => e = .returned (.bool true) ∧ Gr w w' := by
  have hcut1 := run_cut_cx p l1 cap1 m1 hm1
  have VX := Lib.hid hx
  clear hx
  go_enter Tryz.func3, Tryz.ntmps3
  go_wp2_with fail
  have k0 : ¬ mo < 0 := by omega
  have k1 : ¬ 2 < mo := by omega
  have k2 : decide (mo < 0) = false := by simpa using k0
  have k3 : decide (2 < mo) = false := by simpa using k1
  refine (HP.out _ VX.out).mono ?_
  rintro e w1 ⟨v1, rfl, hI1, g1⟩
  obtain ⟨p1, c1, rfl⟩ := hI1.len
  have J1 := Lib.hid hI1
  have V1 := Lib.hid (VX.out.gr g1)
  clear hI1
  go_wp2_with (first | (go_at_call 5; refine (HL.out _).mono ?_; rintro e wz ⟨rfl, hwz⟩; subst wz) | (go_at_call 7; refine (HF.out _).mono ?_; rintro e wz ⟨rfl, hwz⟩; subst wz))
  refine (HH.out _ V1.out).mono ?_
  rintro e w2 ⟨rfl, g2⟩
  go_wp2_with fail
  refine (AL.out _).mono ?_
  rintro e w3 ⟨rfl, g3⟩
  go_wp2_with fail
  refine (HT.out _).mono ?_
  rintro e w4 ⟨v4, rfl, hI4, g4⟩
  obtain ⟨p4, c4, hv4⟩ := hI4.len
  rw [lw] at hv4
  subst hv4
  have J4 := Lib.hid hI4
  have V4 := Lib.hid (V1.out.gr ((g2.trans g3).trans g4))
  clear hI4
  go_wp2_with (first | (go_at_call 12; refine (HB.out _).mono ?_; rintro e wz ⟨rfl, hwz⟩; subst wz))
  refine (HR.out _ _ _ V4.out J4.out).mono ?_
  rintro e w5 ⟨v5, rfl, hI5, g5⟩
  have HS := Lib.hid (same03_c _ _ ys w5 (J1.out.gr (((g2.trans g3).trans g4).trans g5)) hI5)
  go_wp2_with fail
  refine HS.out.mono ?_
  rintro e w6 ⟨rfl, g6⟩
  go_wp2_with fail
  go_ret
  exact ⟨rfl, (((((g1.trans g2).trans g3).trans g4).trans g5).trans g6)⟩

end Go.Proofs.YtmhcbphkkcmecaaGreat
