/- GainInverse: its walk, by what the code's functions answer. -/
import Derived.Test.YtaogjlmcdacbeaaGainTellsCore
namespace Go.Proofs.Ytaogjlmcdacbeaa
open Go.ChangeShapes Go.WideShapes Go.ChangeAt Go.RowKit
set_option linter.unusedVariables false

theorem ginv_nums : 118661582157481174 * 43757185469210200 / 18446744073709551616 = 281474976710655 ∧ 118661582157481174 * 43757185469210200 % 18446744073709551616 = 18379376940529106320 := by decide +kernel

set_option maxHeartbeats 4000000 in
theorem ginv_c (z z' : Int) (ez : z' = z / 128) (wz : -9223372036854775808 ≤ z ∧ z ≤ 9223372036854775807)
    (HR : ∀ W, RunIs 43757185469210200 z' W) (HG : ∀ W, GainIs W) (HI : ∀ W, InvIs W) (HA : ∀ W, AngIs W) (w : World) :
    Calls Try.prog 5 #[.int .i64 z] w fun e w' => e = .returned (.bool true) ∧ Gr w w' := by
  have eb : z'.natAbs ≤ 72057594037927936 := by omega
  have LB := trun_bd 43757185469210200 z' (by omega) (by omega) eb 45 (by omega)
  have SQ := pt_square z' eb
  unfold pt at SQ
  have eK : gainK = 43757185469210200 := rfl
  rw [eK] at SQ
  have G := Lib.hid HG
  have I := Lib.hid HI
  have AL := Lib.hid (alive05_c HG HA)
  have R' : Hid (∀ W, Calls Try.prog 6 #[.int .i64 43757185469210200, .int .i64 z'] W fun e w' => e = .returned (.tuple #[.agg #[.int .i64 (trun 45 ⟨43757185469210200, 0, z'⟩).re, .int .i64 (trun 45 ⟨43757185469210200, 0, z'⟩).im], .int .i64 (trun 45 ⟨43757185469210200, 0, z'⟩).left, .int .i64 0]) ∧ Gr W w') := Lib.hid HR
  generalize trun 45 ⟨43757185469210200, 0, z'⟩ = s at *
  obtain ⟨re, im, left⟩ := s
  simp only at LB SQ
  have S := Lib.hid (square_c re im LB.1 LB.2.1 SQ.1 SQ.2)
  have M : Hid (∀ W, Calls Try.prog 17 #[.int .u64 118661582157481174, .int .u64 43757185469210200] W fun e w' => e = .returned (.tuple #[.int .u64 281474976710655, .int .u64 18379376940529106320]) ∧ w' = W) := Lib.hid fun W => by
    have := mul64_c 118661582157481174 43757185469210200 (by decide) (by decide) W
    rw [ginv_nums.1, ginv_nums.2] at this
    exact this
  have ad := add64_c 18379376940529106320 118661582157481174 (by decide) (by decide)
  have a1 : ((18379376940529106320 : Int) + 118661582157481174) % 18446744073709551616 = 51294448977035878 := by decide +kernel
  have a2 : ((18379376940529106320 : Int) + 118661582157481174) / 18446744073709551616 = 1 := by decide +kernel
  rw [a1, a2] at ad
  have EZ := Lib.hid ez
  clear HR HG HI HA eb LB SQ wz ez eK a1 a2
  go_enter Try.func5, Try.ntmps5
  go_wp2_with (first
    | (go_at_call 10; refine (G.out _).mono ?_; rintro e w1 ⟨rfl, g1⟩)
    | (go_at_call 12; refine (I.out _).mono ?_; rintro e w2 ⟨rfl, g2⟩)
    | (go_at_call 17; refine (M.out _).mono ?_; rintro e w3 ⟨rfl, hw⟩; rw [hw]; clear hw)
    | (go_at_call 14; refine (AL.out _).mono ?_; rintro e w4 ⟨rfl, g4⟩))
  rw [← EZ.out]
  refine (R'.out _).mono ?_
  rintro e w5 ⟨rfl, g5⟩
  clear ad G I AL M R' EZ
  go_wp2_with (go_at_call 19; refine (S.out _).mono ?_; rintro e w6 ⟨rfl, g6⟩)
  go_ret
  exact ⟨rfl, ((((g1.trans g2).trans g4).trans g5).alloc _ _).trans g6⟩

end Go.Proofs.Ytaogjlmcdacbeaa
