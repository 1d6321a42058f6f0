/- GainLeft: its walk, by what the code's functions answer. -/
import Derived.Test.YtaogjlmcdacbeaaGainTellsCore
namespace Go.Proofs.Ytaogjlmcdacbeaa
open Go.ChangeShapes Go.WideShapes Go.ChangeAt Go.RowKit
set_option linter.unusedVariables false

/-- What the law's sum is behind k angles from the end. -/
def rq : Nat → Nat
  | 0 => 8192
  | k + 1 => rq k + ang (44 - k)
set_option maxRecDepth 100000 in
theorem rq_all : (List.range 45).all (fun k => Nat.ble (ang (44 - k)) (rq k) && (Nat.ble 44 k || Nat.blt (ang (44 - k)) (ang (44 - k - 1))) && Nat.ble (rq k) 1152921504606846976) = true := by decide +kernel

theorem left_args (x z : Int) (wx : -9223372036854775808 ≤ x ∧ x ≤ 9223372036854775807) (wz : -9223372036854775808 ≤ z ∧ z ≤ 9223372036854775807) :
    bits .and .i64 (x / 64) 144115188075855871 = x / 64 % 144115188075855872 ∧ (z / 128).natAbs ≤ 72057594037927936 := by
  constructor
  · have := bits_mask (x / 64) 57 (by omega)
    exact this
  · omega

set_option maxHeartbeats 4000000 in
theorem gleft_c (x z x' z' : Int) (ex : x' = x / 64 % 144115188075855872) (ez : z' = z / 128) (wx : -9223372036854775808 ≤ x ∧ x ≤ 9223372036854775807) (wz : -9223372036854775808 ≤ z ∧ z ≤ 9223372036854775807)
    (HR : ∀ W, RunIs x' z' W) (HG : ∀ W, GainIs W) (HA : ∀ W, AngIs W) (w : World) :
    Calls Try.prog 4 #[.int .i64 x, .int .i64 z] w fun e w' => e = .returned (.bool true) ∧ Gr w w' := by
  obtain ⟨ea, eb⟩ := left_args x z wx wz
  rw [← ex] at ea
  rw [← ez] at eb
  have LB := left_small x' 0 z' eb 45 (by omega)
  rw [rest_45] at LB
  have A := Lib.hid HA
  have AL := Lib.hid (alive05_c HG HA)
  have R' : Hid (∀ W, Calls Try.prog 6 #[.int .i64 x', .int .i64 z'] W fun e w' => e = .returned (.tuple #[.agg #[.int .i64 (trun 45 ⟨x', 0, z'⟩).re, .int .i64 (trun 45 ⟨x', 0, z'⟩).im], .int .i64 (trun 45 ⟨x', 0, z'⟩).left, .int .i64 0]) ∧ Gr W w') := Lib.hid HR
  generalize trun 45 ⟨x', 0, z'⟩ = s at *
  obtain ⟨re, im, left⟩ := s
  simp only at LB
  have l1 : left ≤ 8192 := by omega
  have l2 : -8192 ≤ left := by omega
  have EZ := Lib.hid ez
  clear HR HG HA eb LB wx wz ex ez
  go_enter Try.func4, Try.ntmps4
  go_wp2_with fail
  rw [← EZ.out]
  refine (R'.out _).mono ?_
  rintro e w1 ⟨rfl, hg1⟩
  clear ea R' EZ
  go_wp2_with fail
  refine (A.out _).mono ?_
  rintro e w2 ⟨v, rfl, hI, hg2⟩
  have gw := (hg1.alloc #[.int .i64 re, .int .i64 im] 23).trans hg2
  obtain ⟨b, o, cap, rfl, hlen, hb, hc⟩ := same_len hI angL_ne
  rw [angL_len]
  have HC : Hid (∀ j, j < 45 → w2.cell? ⟨b, o + j, none⟩ = some (.int .i64 (ang j))) := Lib.hid fun j hj => hc j _ (angL_at j hj)
  have GW := Lib.hid gw
  clear hg1 hg2 hI hc hlen gw A
  go_wp2_with fail
  go_loopw [8, 10] (fun r i wr => ∃ k : Nat, k ≤ 45 ∧ i = .int .i64 (44 - (k : Int)) ∧ r = .int .i64 (rq k) ∧ Gr w2 wr) (fun _ i _ => (intOf i + 1).toNat)
  case atStart => exact ⟨0, by omega, rfl, rfl, Gr.refl _⟩
  case round =>
    obtain ⟨k, hk, rfl, rfl, hg⟩ := hrel
    by_cases hlt : k < 45
    · obtain ⟨n, hn⟩ : ∃ n, 44 - k = n := ⟨_, rfl⟩
      have e : (44 : Int) - (k : Int) = (n : Int) := by omega
      have hf := List.all_eq_true.1 rq_all k (List.mem_range.2 hlt)
      simp only [Bool.and_eq_true, Bool.or_eq_true, Nat.ble_eq, Nat.blt_eq] at hf
      obtain ⟨⟨f1, f2⟩, f3⟩ := hf
      rw [hn] at f1 f2
      have h1 := (hg.cell (p := ⟨b, o + n, none⟩) hb).trans (HC.out n (by omega))
      have hr : rq (k + 1) = rq k + ang n := by rw [rq, hn]
      have HR := Lib.hid hr
      have HE := Lib.hid e
      obtain ⟨A, hA⟩ : ∃ A : Nat, ang n = A := ⟨_, rfl⟩
      obtain ⟨T, hT⟩ : ∃ T : Nat, rq k = T := ⟨_, rfl⟩
      have m1 : decide ((T : Int) < (A : Int)) = false := by simp only [decide_eq_false_iff_not]; omega
      have m1' : decide (T < A) = false := by simp only [decide_eq_false_iff_not]; omega
      have a0 : (A : Int) ≤ 1152921504606846976 := by omega
      have t0 : (T : Int) ≤ 1152921504606846976 := by omega
      have n0 : (0 : Int) ≤ (n : Int) := by omega
      have nk : n < 45 := by omega
      have nk' : (n : Int) < 45 := by omega
      rw [hA] at h1
      by_cases hz : n = 0
      · subst hz
        rw [Nat.add_zero] at h1
        rw [e, hT, show ((0 : Nat) : Int) = 0 from rfl]
        have HAT := Lib.hid (And.intro hA hT)
        clear hr e hn f1 f2 f3 hA hT hk
        go_wp2_with fail
        go_quiet (fail)
        go_wp2_with fail
        go_roundw
        case rel => exact ⟨k + 1, by omega, congrArg (Value.int .i64) (by have := HE.out; omega), congrArg (Value.int .i64) (by rw [HR.out, HAT.out.1, HAT.out.2]; omega), hg.drewN _⟩
        case measure => simp [intOf]
      · have h2 := (hg.cell (p := ⟨b, o + (n - 1), none⟩) hb).trans (HC.out (n - 1) (by omega))
        obtain ⟨i, hi⟩ : ∃ i, n - 1 = i := ⟨_, rfl⟩
        obtain ⟨B, hB⟩ : ∃ B : Nat, ang (n - 1) = B := ⟨_, rfl⟩
        rw [hA, hB] at f2
        have f2' : A < B := by
          rcases f2 with h | h
          · omega
          · exact h
        have m2 : decide ((B : Int) ≤ (A : Int)) = false := by simp only [decide_eq_false_iff_not]; omega
        have m2' : decide (B ≤ A) = false := by simp only [decide_eq_false_iff_not]; omega
        have m3 : 0 < n := by omega
        have m4 : IntKind.i64.wrap ((n : Int) - 1) = (i : Int) := by rw [show (n : Int) - 1 = (i : Int) by omega]; exact IntWalk.i64_in _ ⟨by omega, by omega⟩
        have m5 : i < 45 := by omega
        rw [hB, hi] at h2
        rw [e, hT]
        have HAT := Lib.hid (And.intro hA hT)
        have HI := Lib.hid hi
        have M3 := Lib.hid m3
        clear hr e hn f1 f2 f2' f3 hA hT hk hB hi hz
        go_wp2_with fail
        go_quiet (fail)
        go_wp2_with fail
        go_roundw
        case rel => exact ⟨k + 1, by omega, congrArg (Value.int .i64) (by have := HE.out; have := HI.out; have := M3.out; omega), congrArg (Value.int .i64) (by rw [HR.out, HAT.out.1, HAT.out.2]; omega), hg.drewN _⟩
        case measure => have := HI.out; have := M3.out; simp [intOf]; omega
    · have he : k = 45 := by omega
      subst he
      rw [show (44 : Int) - ((45 : Nat) : Int) = -1 from rfl]
      clear hlt hk
      generalize rq 45 = T
      go_wp2_with (go_at_call 14; refine (AL.out _).mono ?_; rintro e w9 ⟨rfl, g9⟩)
      go_ret
      exact ⟨rfl, (GW.out.trans hg).trans g9⟩

end Go.Proofs.Ytaogjlmcdacbeaa
