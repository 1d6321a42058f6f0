/- All bins of numbers, their slack; sums of halves. -/
import Derived.Test.YtpkkokcidbcopaaWide
import Derived.Test.YtpkkokcidbcopaaFlip
namespace Go.Proofs.Ytpkkokcidbcopaa
set_option linter.unusedVariables false
set_option linter.unusedSimpArgs false
set_option maxRecDepth 100000

theorem IsLog.len {n : Nat} {L : Nat} (h : IsLog (n : Int) L) : IsLen (n : Int) := by
  unfold IsLen
  rcases isLog_cases h with ⟨_, h⟩ | ⟨_, h⟩ | ⟨_, h⟩ | ⟨_, h⟩ | ⟨_, h⟩ <;> omega
/-- All bins, in order. -/
def binsG (n : Nat) (xs : List Gi) (iv : Bool) : List Gi := (List.range n).map (fun k => binG n xs iv k)
theorem binsG_len (n : Nat) (xs : List Gi) (iv : Bool) : (binsG n xs iv).length = n := by simp [binsG]
/-- The slack of numbers. -/
def slackG (n : Nat) (xs : List Gi) : Int := 2 * (n : Int) * maxG xs / 4294967296 + 2
theorem slackG_bd (n : Nat) (hn : n ≤ 64) (xs : List Gi) (hx : allIn 2147483648 xs = true) : (0 ≤ maxG xs ∧ maxG xs ≤ 2147483648) ∧ (0 ≤ 2 * (n : Int) * maxG xs ∧ 2 * (n : Int) * maxG xs ≤ 274877906944) ∧ 2 ≤ slackG n xs ∧ slackG n xs ≤ 66 := by
  have h1 := maxG_le xs 2147483648 (by omega) ((allIn_iff _ _).1 hx)
  have h0 := maxG_nonneg xs
  have h2 := Int.mul_nonneg (show 0 ≤ 2 * (n : Int) by omega) h0
  have h3 := Int.mul_le_mul (show 2 * (n : Int) ≤ 128 by omega) h1 h0 (by decide)
  unfold slackG
  refine ⟨⟨h0, h1⟩, ⟨h2, by omega⟩, by omega, by omega⟩

end Go.Proofs.Ytpkkokcidbcopaa
