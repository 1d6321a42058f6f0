/- What law 7's helpers answer, and the numbers of its walks. -/
import Derived.Test.YtbdglbpkbpedoaaRootCode
import Derived.Test.YtbdglbpkbpedoaaMax4
namespace Go.Proofs.Ytbdglbpkbpedoaa
open Go.ChangeShapes Go.WideShapes Go.ChangeAt Go.RowKit
set_option linter.unusedVariables false
set_option maxRecDepth 100000

theorem bits07_c (f b p : Int) (H : FB f b p) (w : World) : Calls Try.prog 29 #[.int .i64 f] w fun e w' => e = .returned (.int .i64 (b - 2)) ∧ w' = w := by
  have HB := Lib.hid (rbits_c f b p H)
  have hb : 15 ≤ b ∧ b ≤ 31 := by rcases H with ⟨_, rfl, _⟩ | ⟨_, rfl, _⟩ <;> omega
  clear H
  go_enter Try.func29, Try.ntmps29
  go_wp2_with (go_at_call 53; refine (HB.out _).mono ?_; rintro e wz ⟨rfl, rfl⟩)
  go_ret
  exact ⟨rfl, rfl⟩

/-- A length by its log, and its quarter. -/
theorem len_nums (log : Int) (l0 : 2 ≤ log) (l1 : log ≤ 6) : IsLen (2 ^ log.toNat) ∧ 4 ≤ (2 : Int) ^ log.toNat ∧ (2 : Int) ^ log.toNat ≤ 64 ∧ wrap64 (2 ^ log.toNat) = 2 ^ log.toNat ∧ ((2 : Int) ^ log.toNat).tdiv 4 = 2 ^ log.toNat / 4 ∧ 1 ≤ (2 : Int) ^ log.toNat / 4 ∧ (2 : Int) ^ log.toNat / 4 ≤ 16 := by
  have hl := len_log (2 ^ log.toNat) log l0 l1 rfl
  generalize (2 : Int) ^ log.toNat = n at *
  refine ⟨hl, ?_⟩
  rcases hl with rfl | rfl | rfl | rfl | rfl <;> exact ⟨by decide, by decide, IntWalk.wrap64_in _ (by decide), by decide, by decide, by decide⟩

theorem half_nums (log : Int) (l0 : 2 < log) (l1 : log ≤ 6) : ∃ m : Int, (m = 4 ∨ m = 8 ∨ m = 16 ∨ m = 32) ∧ (2 : Int) ^ log.toNat = 2 * m ∧ m = 2 ^ (log - 1).toNat := by
  refine ⟨2 ^ (log - 1).toNat, ?_, ?_, rfl⟩ <;> rcases (by omega : log = 3 ∨ log = 4 ∨ log = 5 ∨ log = 6) with rfl | rfl | rfl | rfl <;> decide

theorem bit_nums (b : Int) (b0 : 0 ≤ b) (b1 : b ≤ 40) : wrap64 (2 ^ b.toNat) = 2 ^ b.toNat ∧ IntKind.i64.wrap (2 ^ b.toNat) = 2 ^ b.toNat ∧ 16 ≤ (56 - b).toNat ∧ (56 - b).toNat ≤ 56 ∧ 56 - (56 - b).toNat = b.toNat ∧ (1 : Int) ≤ 2 ^ b.toNat ∧ (2 : Int) ^ b.toNat ≤ 1099511627776 := by
  have h1 : (2 : Nat) ^ b.toNat ≤ 2 ^ 40 := Nat.pow_le_pow_right (by decide) (by omega)
  have h0 : 0 < (2 : Nat) ^ b.toNat := Nat.pow_pos (by decide)
  have hc : ((2 ^ b.toNat : Nat) : Int) = 2 ^ b.toNat := by rw [Int.natCast_pow]; rfl
  generalize (2 : Nat) ^ b.toNat = N at *
  rw [← hc]
  refine ⟨IntWalk.wrap64_in _ (by omega), IntWalk.i64_in _ ⟨by omega, by omega⟩, by omega, by omega, by omega, by omega, by omega⟩

end Go.Proofs.Ytbdglbpkbpedoaa
