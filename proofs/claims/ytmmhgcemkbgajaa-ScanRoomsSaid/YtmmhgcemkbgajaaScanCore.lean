/- The statements on package scan, from what its functions answer. -/
import Derived.Test.YtmmhgcemkbgajaaRef09c
import Derived.Test.YtmmhgcemkbgajaaCxsArg
namespace Go.Proofs.Ytmmhgcemkbgajaa
open Go.ChangeShapes Go.WideShapes Go.ChangeAt Go.RowKit
set_option linter.unusedVariables false

theorem alive09_of (HR : ∀ W, Calls Try.prog 11 #[.int .i64 1000, .int .i64 0] W fun e w' => e = .returned (.tuple #[.int .i64 (room 32768 1000 : Nat), .int .i64 0]) ∧ Gr W w')
    (HP : ∀ W, Calls Try.prog 12 #[.int .i64 4, .int .i64 32768, .int .i64 0] W fun e w' => e = .returned (.tuple #[.int .i64 (preOf 4 32768 32768), .int .i64 0]) ∧ Gr W w') (w : World) :
    Calls Try.prog 9 #[] w fun e w' => e = .returned (.bool true) ∧ Gr w w' := by
  rw [show ((room 32768 1000 : Nat) : Int) = 4 by decide +kernel] at HR
  rw [show preOf 4 32768 32768 = 3 by decide] at HP
  have H1 := Lib.hid HR
  have H2 := Lib.hid HP
  clear HR HP
  go_enter Try.func9, Try.ntmps9
  go_wp2_with fail
  refine (H1.out _).mono ?_
  rintro e w1 ⟨rfl, g1⟩
  go_wp2_with fail
  refine (H2.out _).mono ?_
  rintro e w2 ⟨rfl, g2⟩
  go_wp2_with fail
  go_ret
  exact ⟨rfl, g1.trans g2⟩

theorem scanMax_t (p : Option Addr) (len cap m : Nat) (xs : List Gi) (hm : m ≤ cap) (hmin : (if (70 : Int) < (len : Int) then 70 else (len : Int)) = (m : Int)) (hn : allIn 2147483648 xs = true)
    (HM : Hid (∀ W, CxsAt W (.slice p m cap) xs → Calls Try.prog 7 #[.slice p m cap] W fun e w' => e = .returned (.tuple #[.int .i64 (maxG xs), .int .i64 0]) ∧ Gr W w'))
    (AL : Hid (∀ W, Calls Try.prog 9 #[] W fun e w' => e = .returned (.bool true) ∧ Gr W w'))
    (w : World) (hv : CxsAt w (.slice p m cap) xs) :
    Calls Try.prog 3 #[.slice p len cap] w fun e w' => e = .returned (.bool true) ∧ Gr w w' := by
  have hcut := run_cut_cx p len cap m hm
  have HN := Lib.hid fun W (h : CxsAt W (.slice p m cap) xs) => narrow09_c _ xs W h
  have HX := Lib.hid fun W (h : CxsAt W (.slice p m cap) xs) => max09_c _ xs hn W h
  rw [hn] at HN
  have V := Lib.hid hv
  clear hv hn
  generalize maxG xs = t at *
  go_enter Try.func3, Try.ntmps3
  go_wp2_with fail
  refine (HM.out _ V.out).mono ?_
  rintro e w1 ⟨rfl, g1⟩
  have V1 := Lib.hid (V.out.gr g1)
  go_wp2_with fail
  refine (HN.out _ V1.out).mono ?_
  rintro e w2 ⟨rfl, g2⟩
  have V2 := Lib.hid (V1.out.gr g2)
  go_wp2_with fail
  refine (AL.out _).mono ?_
  rintro e w3 ⟨rfl, g3⟩
  have V3 := Lib.hid (V2.out.gr g3)
  go_wp2_with fail
  refine (HX.out _ V3.out).mono ?_
  rintro e w4 ⟨rfl, g4⟩
  go_wp2_with fail
  go_ret
  exact ⟨by simp, ((g1.trans g2).trans g3).trans g4⟩

theorem scanMax_f (p : Option Addr) (len cap m : Nat) (xs : List Gi) (hm : m ≤ cap) (hmin : (if (70 : Int) < (len : Int) then 70 else (len : Int)) = (m : Int)) (hn : allIn 2147483648 xs = false)
    (HM : Hid (∀ W, CxsAt W (.slice p m cap) xs → Calls Try.prog 7 #[.slice p m cap] W fun e w' => e = .returned (.tuple #[.int .i64 0, .int .i64 2]) ∧ Gr W w'))
    (AL : Hid (∀ W, Calls Try.prog 9 #[] W fun e w' => e = .returned (.bool true) ∧ Gr W w'))
    (w : World) (hv : CxsAt w (.slice p m cap) xs) :
    Calls Try.prog 3 #[.slice p len cap] w fun e w' => e = .returned (.bool true) ∧ Gr w w' := by
  have hcut := run_cut_cx p len cap m hm
  have HN := Lib.hid fun W (h : CxsAt W (.slice p m cap) xs) => narrow09_c _ xs W h
  rw [hn] at HN
  have V := Lib.hid hv
  clear hv hn
  go_enter Try.func3, Try.ntmps3
  go_wp2_with fail
  refine (HM.out _ V.out).mono ?_
  rintro e w1 ⟨rfl, g1⟩
  have V1 := Lib.hid (V.out.gr g1)
  go_wp2_with fail
  refine (HN.out _ V1.out).mono ?_
  rintro e w2 ⟨rfl, g2⟩
  go_wp2_with fail
  refine (AL.out _).mono ?_
  rintro e w3 ⟨rfl, g3⟩
  go_wp2_with fail
  go_ret
  exact ⟨rfl, (g1.trans g2).trans g3⟩

theorem rbits_other (f : Int) (h : f < 0 ∨ 1 < f) (w : World) : Calls Try.prog 34 #[.int .i64 f] w fun e w' => e = .returned (.int .i64 31) ∧ w' = w := by
  have hf : (f == 0) = false := by simp; omega
  clear h
  go_enter Try.func34, Try.ntmps34
  go_wp2
  go_ret
  exact ⟨rfl, rfl⟩
theorem rone_other (f : Int) (h : f < 0 ∨ 1 < f) (w : World) : Calls Try.prog 29 #[.int .i64 f] w fun e w' => e = .returned (.int .i64 2147483648) ∧ w' = w := by
  have HB := Lib.hid (rbits_other f h)
  have HP := Lib.hid rpow31
  clear h
  go_enter Try.func29, Try.ntmps29
  go_wp2_with (first | (go_at_call 34; refine (HB.out _).mono ?_; rintro e wz ⟨rfl, rfl⟩) | (go_at_call 25; refine (HP.out _).mono ?_; rintro e wz ⟨rfl, rfl⟩))
  go_ret
  exact ⟨rfl, rfl⟩
theorem may09_other (m f : Int) (h : f < 0 ∨ 1 < f) : ∃ q : Bool, ∀ w : World,
    Calls Try.prog 13 #[.int .i64 m, .int .i64 f] w fun e w' => e = .returned (.bool q) ∧ w' = w := by
  have HO := Lib.hid (rone_other f h)
  clear h
  by_cases h0 : 0 ≤ m ∧ m ≤ 2147483648
  · obtain ⟨a, b⟩ := h0
    refine ⟨true, fun w => ?_⟩
    go_enter Try.func13, Try.ntmps13
    go_wp2_with (go_at_call 29; refine (HO.out _).mono ?_; rintro e wz ⟨rfl, rfl⟩)
    go_ret
    exact ⟨by simp <;> omega, rfl⟩
  · refine ⟨false, fun w => ?_⟩
    by_cases a : 0 ≤ m
    · have b : 2147483648 < m := by omega
      clear h0
      go_enter Try.func13, Try.ntmps13
      go_wp2_with (go_at_call 29; refine (HO.out _).mono ?_; rintro e wz ⟨rfl, rfl⟩)
      go_ret
      exact ⟨by simp <;> omega, rfl⟩
    · clear h0
      go_enter Try.func13, Try.ntmps13
      go_wp2_with (go_at_call 29; refine (HO.out _).mono ?_; rintro e wz ⟨rfl, rfl⟩)
      go_ret
      exact ⟨by simp <;> omega, rfl⟩

/-- Of any format, kernel and greatest part: e what Room is to tell, f what Pre is to. -/
theorem scanRooms_c (kernel m fmt s t e f rs rt : Int) (is fm : Bool)
    (HR : Hid (∀ W, Calls Try.prog 11 #[.int .i64 m, .int .i64 fmt] W fun e' w' => e' = .returned (.tuple #[.int .i64 s, .int .i64 e]) ∧ Gr W w'))
    (HP : Hid (∀ W, Calls Try.prog 12 #[.int .i64 kernel, .int .i64 m, .int .i64 fmt] W fun e' w' => e' = .returned (.tuple #[.int .i64 t, .int .i64 f]) ∧ Gr W w'))
    (HM : Hid (∀ W, Calls Try.prog 13 #[.int .i64 m, .int .i64 fmt] W fun e' w' => e' = .returned (.bool is) ∧ w' = W))
    (HF : Hid (∀ W, Calls Try.prog 14 #[.int .i64 fmt] W fun e' w' => e' = .returned (.bool fm) ∧ w' = W))
    (RR : Hid (e = 0 → ∀ W, Calls Try.prog 15 #[.int .i64 m, .int .i64 fmt] W fun e' w' => e' = .returned (.int .i64 s) ∧ w' = W))
    (RP : Hid (f = 0 → ∀ W, Calls Try.prog 16 #[.int .i64 kernel, .int .i64 m, .int .i64 fmt] W fun e' w' => e' = .returned (.int .i64 t) ∧ w' = W))
    (AL : Hid (∀ W, Calls Try.prog 9 #[] W fun e w' => e = .returned (.bool true) ∧ Gr W w'))
    (hc : (fm = false ∧ e = 1 ∧ f = 1 ∧ s = 0 ∧ t = 0) ∨ (fm = true ∧ is = false ∧ e = 2 ∧ s = 0 ∧ t = 0 ∧ ((kernel ≠ 2 ∧ kernel ≠ 4 ∧ f = 1) ∨ ((kernel = 2 ∨ kernel = 4) ∧ f = 2))) ∨
      (fm = true ∧ is = true ∧ e = 0 ∧ ((kernel ≠ 2 ∧ kernel ≠ 4 ∧ f = 1 ∧ t = 0) ∨ ((kernel = 2 ∨ kernel = 4) ∧ f = 0)))) (w : World) :
    Calls Try.prog 4 #[.int .i64 kernel, .int .i64 m, .int .i64 fmt] w fun e w' => e = .returned (.bool true) ∧ Gr w w' := by
  have gg := Gr.refl w
  have hk : kernel = 2 ∨ kernel = 4 ∨ (kernel ≠ 2 ∧ kernel ≠ 4) := by omega
  rcases hc with ⟨rfl, rfl, rfl, rfl, rfl⟩ | ⟨rfl, rfl, rfl, rfl, rfl, hf⟩ | ⟨rfl, rfl, rfl, hf⟩
  · clear RR RP
    rcases hk with rfl | rfl | ⟨h2, h4⟩
    all_goals
      try have k2 : (kernel != 2) = true := by simpa using h2
      try have k4 : (kernel != 4) = true := by simpa using h4
      cases is
      all_goals
        go_enter Try.func4, Try.ntmps4
        go_wp2_with (first
      | (go_at_call 11; refine (HR.out _).mono ?_; rintro e w3 ⟨rfl, g3⟩; replace gg := gg.trans g3; clear g3)
      | (go_at_call 12; refine (HP.out _).mono ?_; rintro e w3 ⟨rfl, g3⟩; replace gg := gg.trans g3; clear g3)
      | (go_at_call 9; refine (AL.out _).mono ?_; rintro e w3 ⟨rfl, g3⟩; replace gg := gg.trans g3; clear g3)
      | (go_at_call 13; refine (HM.out _).mono ?_; rintro e wz ⟨rfl, rfl⟩)
      | (go_at_call 14; refine (HF.out _).mono ?_; rintro e wz ⟨rfl, rfl⟩)
      | (go_at_call 15; refine (R1.out _).mono ?_; rintro e wz ⟨rfl, rfl⟩)
      | (go_at_call 16; refine (R2.out _).mono ?_; rintro e wz ⟨rfl, rfl⟩))
        go_ret
        exact ⟨rfl, gg⟩
  · clear RR
    rcases hf with ⟨h2, h4, rfl⟩ | ⟨hk2, rfl⟩
    · clear RP hk
      have k2 : (kernel != 2) = true := by simpa using h2
      have k4 : (kernel != 4) = true := by simpa using h4
      go_enter Try.func4, Try.ntmps4
      go_wp2_with (first
      | (go_at_call 11; refine (HR.out _).mono ?_; rintro e w3 ⟨rfl, g3⟩; replace gg := gg.trans g3; clear g3)
      | (go_at_call 12; refine (HP.out _).mono ?_; rintro e w3 ⟨rfl, g3⟩; replace gg := gg.trans g3; clear g3)
      | (go_at_call 9; refine (AL.out _).mono ?_; rintro e w3 ⟨rfl, g3⟩; replace gg := gg.trans g3; clear g3)
      | (go_at_call 13; refine (HM.out _).mono ?_; rintro e wz ⟨rfl, rfl⟩)
      | (go_at_call 14; refine (HF.out _).mono ?_; rintro e wz ⟨rfl, rfl⟩)
      | (go_at_call 15; refine (R1.out _).mono ?_; rintro e wz ⟨rfl, rfl⟩)
      | (go_at_call 16; refine (R2.out _).mono ?_; rintro e wz ⟨rfl, rfl⟩))
      go_ret
      exact ⟨rfl, gg⟩
    · clear RP hk
      rcases hk2 with rfl | rfl
      all_goals
        go_enter Try.func4, Try.ntmps4
        go_wp2_with (first
      | (go_at_call 11; refine (HR.out _).mono ?_; rintro e w3 ⟨rfl, g3⟩; replace gg := gg.trans g3; clear g3)
      | (go_at_call 12; refine (HP.out _).mono ?_; rintro e w3 ⟨rfl, g3⟩; replace gg := gg.trans g3; clear g3)
      | (go_at_call 9; refine (AL.out _).mono ?_; rintro e w3 ⟨rfl, g3⟩; replace gg := gg.trans g3; clear g3)
      | (go_at_call 13; refine (HM.out _).mono ?_; rintro e wz ⟨rfl, rfl⟩)
      | (go_at_call 14; refine (HF.out _).mono ?_; rintro e wz ⟨rfl, rfl⟩)
      | (go_at_call 15; refine (R1.out _).mono ?_; rintro e wz ⟨rfl, rfl⟩)
      | (go_at_call 16; refine (R2.out _).mono ?_; rintro e wz ⟨rfl, rfl⟩))
        go_ret
        exact ⟨rfl, gg⟩
  · have R1 := Lib.hid (RR.out rfl)
    clear RR
    rcases hf with ⟨h2, h4, rfl, rfl⟩ | ⟨hk2, rfl⟩
    · clear RP hk
      have k2 : (kernel != 2) = true := by simpa using h2
      have k4 : (kernel != 4) = true := by simpa using h4
      go_enter Try.func4, Try.ntmps4
      go_wp2_with (first
      | (go_at_call 11; refine (HR.out _).mono ?_; rintro e w3 ⟨rfl, g3⟩; replace gg := gg.trans g3; clear g3)
      | (go_at_call 12; refine (HP.out _).mono ?_; rintro e w3 ⟨rfl, g3⟩; replace gg := gg.trans g3; clear g3)
      | (go_at_call 9; refine (AL.out _).mono ?_; rintro e w3 ⟨rfl, g3⟩; replace gg := gg.trans g3; clear g3)
      | (go_at_call 13; refine (HM.out _).mono ?_; rintro e wz ⟨rfl, rfl⟩)
      | (go_at_call 14; refine (HF.out _).mono ?_; rintro e wz ⟨rfl, rfl⟩)
      | (go_at_call 15; refine (R1.out _).mono ?_; rintro e wz ⟨rfl, rfl⟩)
      | (go_at_call 16; refine (R2.out _).mono ?_; rintro e wz ⟨rfl, rfl⟩))
      go_ret
      exact ⟨by simp, gg⟩
    · have R2 := Lib.hid (RP.out rfl)
      clear RP hk
      rcases hk2 with rfl | rfl
      all_goals
        go_enter Try.func4, Try.ntmps4
        go_wp2_with (first
      | (go_at_call 11; refine (HR.out _).mono ?_; rintro e w3 ⟨rfl, g3⟩; replace gg := gg.trans g3; clear g3)
      | (go_at_call 12; refine (HP.out _).mono ?_; rintro e w3 ⟨rfl, g3⟩; replace gg := gg.trans g3; clear g3)
      | (go_at_call 9; refine (AL.out _).mono ?_; rintro e w3 ⟨rfl, g3⟩; replace gg := gg.trans g3; clear g3)
      | (go_at_call 13; refine (HM.out _).mono ?_; rintro e wz ⟨rfl, rfl⟩)
      | (go_at_call 14; refine (HF.out _).mono ?_; rintro e wz ⟨rfl, rfl⟩)
      | (go_at_call 15; refine (R1.out _).mono ?_; rintro e wz ⟨rfl, rfl⟩)
      | (go_at_call 16; refine (R2.out _).mono ?_; rintro e wz ⟨rfl, rfl⟩))
        go_ret
        exact ⟨by simp, gg⟩

end Go.Proofs.Ytmmhgcemkbgajaa
