/- ArcSplits: its walk. -/
import Derived.Test.YtpcbcoegmdbdfaaLaw04
namespace Go.Proofs.Ytpcbcoegmdbdfaa
open Go.ChangeShapes Go.WideShapes Go.ChangeAt Go.RowKit
set_option linter.unusedVariables false

theorem split_mod (x : Int) (m : Nat) (hm : x % 524288 + 2 = m) :
    wrap64 ((wrap64 (x.tmod 524288 + 524288)).tmod 524288 + 2) = m := by
  have h1 : -524288 < x.tmod 524288 ∧ x.tmod 524288 < 524288 := ⟨by have := Int.lt_tmod_of_pos x (show (0 : Int) < 524288 by decide); omega, Int.tmod_lt_of_pos x (by decide)⟩
  have hd := Int.tmod_def x 524288
  have h2 : x.tmod 524288 % 524288 = x % 524288 := by rw [hd]; omega
  rw [IntWalk.wrap64_in (x.tmod 524288 + 524288) ⟨by omega, by omega⟩, Int.tmod_eq_emod_of_nonneg (by omega)]
  have h3 : (x.tmod 524288 + 524288) % 524288 = x % 524288 := by omega
  rw [h3, hm]
  exact IntWalk.wrap64_in _ ⟨by omega, by omega⟩

set_option maxHeartbeats 4000000 in
theorem splits_c (x : Int) (wx : -9223372036854775808 ≤ x ∧ x ≤ 9223372036854775807) (m : Nat) (hm : x % 524288 + 2 = m) (w : World) :
    Calls Try.prog 5 #[.int .i64 x] w fun e w' => e = .returned (.bool true) ∧ Gr w w' := by
  have EM := Lib.hid (split_mod x m hm)
  have m0 : 2 ≤ m := by omega
  have m1 : m ≤ 524289 := by omega
  have HSP := split_spec m m0 m1
  have hsq : (m : Int) * m = ((m * m : Nat) : Int) := by simp
  have hsq1 : m * m ≤ 524289 * 524289 := Nat.mul_le_mul m1 m1
  obtain ⟨q, hq⟩ : ∃ q : Nat, m * m = q := ⟨_, rfl⟩
  rw [hq] at hsq hsq1 HSP
  have EQ : wrap64 (wrap64 (wrap64 ((m : Int) * m) + m) + 1) = (q : Int) + m + 1 := by
    rw [hsq, IntWalk.wrap64_in (q : Int) ⟨by omega, by omega⟩, IntWalk.wrap64_in ((q : Int) + m) ⟨by omega, by omega⟩, IntWalk.wrap64_in _ ⟨by omega, by omega⟩]
  have EQ' := Lib.hid EQ
  clear EQ
  have B0 := arcOf_bd m m0
  have B1 := arcOf_bd (m + 1) (by omega)
  have B2 := arcOf_bd (q + m + 1) (by omega)
  have HA := Lib.hid (arc_ok m m0 (by omega))
  have HB := Lib.hid (arc_ok (m + 1) (by omega) (by omega))
  have HC := Lib.hid (arc_ok (q + m + 1) (by omega) (by omega))
  have HD : Hid (∀ W, Calls Try.prog 6 #[.int .i64 5] W fun e w' => e = .returned (.tuple #[.int .i64 14223849116552215, .int .i64 0]) ∧ Gr W w') := Lib.hid fun W => by
    have := arc_ok 5 (by omega) (by omega) W
    rw [arc_5] at this
    exact this
  have HE : Hid (∀ W, Calls Try.prog 6 #[.int .i64 239] W fun e w' => e = .returned (.tuple #[.int .i64 301494449981337, .int .i64 0]) ∧ Gr W w') := Lib.hid fun W => by
    have := arc_ok 239 (by omega) (by omega) W
    rw [arc_239] at this
    exact this
  have e1 : ((m + 1 : Nat) : Int) = (m : Int) + 1 := by omega
  have e2 : ((q + m + 1 : Nat) : Int) = (q : Int) + m + 1 := by omega
  rw [e1] at HB
  rw [e2] at HC
  have HL := Lib.hid alive04_c
  have HR := Lib.hid quarter_c
  obtain ⟨A, hA⟩ : ∃ A, arcOf m = A := ⟨_, rfl⟩
  obtain ⟨B, hB⟩ : ∃ B, arcOf (m + 1) = B := ⟨_, rfl⟩
  obtain ⟨C, hC⟩ : ∃ C, arcOf (q + m + 1) = C := ⟨_, rfl⟩
  rw [hA] at HA HSP B0
  rw [hB] at HB HSP B1
  rw [hC] at HC HSP B2
  have HN := Lib.hid (near_c A ((B : Int) + C) 400 (by omega) (by omega) (by omega) (by omega))
  have HN2 := Lib.hid (near_c 56593902016227522 56593902016227523 400 (by omega) (by omega) (by omega) (by omega))
  have hba : (B : Int) ≤ A := by omega
  have HSP' := Lib.hid HSP
  clear hA hB hC HSP e1 e2 hsq hq hm wx
  go_enter Try.func5, Try.ntmps5
  go_wp2_with fail
  rw [EM.out]
  refine (HA.out _).mono ?_
  rintro e w1 ⟨rfl, hg1⟩
  go_wp2_with (go_at_call 6; with_reducible refine (HB.out _).mono ?_; rintro e w2 ⟨rfl, hg2⟩)
  rw [EQ'.out]
  refine (HC.out _).mono ?_
  rintro e w3 ⟨rfl, hg3⟩
  go_wp2_with (first
    | (go_at_call 6; with_reducible refine (HD.out _).mono ?_; rintro e w4 ⟨rfl, hg4⟩)
    | (go_at_call 6; with_reducible refine (HE.out _).mono ?_; rintro e w5 ⟨rfl, hg5⟩)
    | (go_at_call 10; refine (HL.out _).mono ?_; rintro e w6 ⟨rfl, hg6⟩)
    | (go_at_call 15; with_reducible refine (HN.out _).mono ?_; rintro e w7 ⟨rfl, rfl⟩)
    | (go_at_call 8; refine (HR.out _).mono ?_; rintro e w8 ⟨rfl, hg8⟩)
    | (go_at_call 15; with_reducible refine (HN2.out _).mono ?_; rintro e w9 ⟨rfl, rfl⟩))
  go_ret
  exact ⟨rfl, (((((hg1.trans hg2).trans hg3).trans hg4).trans hg5).trans hg6).trans hg8⟩

end Go.Proofs.Ytpcbcoegmdbdfaa
