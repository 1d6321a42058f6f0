/- A quad, the roots asked for, and a block's quads, in whole complex numbers. -/
import Derived.Test.YtmhcbphkkcmecaaGreatFourCode3
import Derived.Test.YtmhcbphkkcmecaaGreatGiCalls
namespace Go.Proofs.YtmhcbphkkcmecaaGreat
open Go.ChangeShapes Go.WideShapes Go.ChangeAt Go.RowKit
set_option linter.unusedVariables false
set_option maxRecDepth 100000

theorem Bd.pow {l : Int} {bits : Nat} {a : Gi} (hb : bits ≤ 29) (h : Bd (2 ^ bits) a) : Bd 1073741824 a := by
  refine h.mono ?_
  have h1 : (2 : Nat) ^ bits ≤ 2 ^ 29 := Nat.pow_le_pow_right (by decide) hb
  have h2 : ((2 ^ bits : Nat) : Int) ≤ ((2 ^ 29 : Nat) : Int) := Int.ofNat_le.2 h1
  rw [Int.natCast_pow] at h2
  simp at h2
  omega
theorem pow29 (bits : Nat) (hb : bits ≤ 29) : (1 : Int) ≤ 2 ^ bits ∧ (2 : Int) ^ bits ≤ 536870912 := by
  have h1 : (2 : Nat) ^ bits ≤ 2 ^ 29 := Nat.pow_le_pow_right (by decide) hb
  have h2 : ((2 ^ bits : Nat) : Int) ≤ ((2 ^ 29 : Nat) : Int) := Int.ofNat_le.2 h1
  rw [Int.natCast_pow] at h2
  have := pow_pos2 bits
  simp at h2
  omega

/-- A quad's terms. -/
def qterm (bits : Nat) (a w : Nat → Gi) (k : Nat) : Gi := if k = 0 then gscale bits (a 0) else gmul (a k) (w k)
theorem qterm_bd (bits : Nat) (hb : bits ≤ 29) (a w : Nat → Gi) (ha : ∀ k, k < 4 → Bd 2147483648 (a k)) (hw : ∀ k, k < 4 → 1 ≤ k → Bd (2 ^ bits) (w k)) (k : Nat) (hk : k < 4) : Bd 2305843009213693952 (qterm bits a w k) ∧ (k = 0 → Bd 1152921504606846976 (qterm bits a w k)) := by
  have hp := pow29 bits hb
  unfold qterm
  by_cases e : k = 0
  · rw [if_pos e]
    have := (ha 0 (by omega)).scale bits
    exact ⟨this.mono (by omega), fun _ => this.mono (by omega)⟩
  · rw [if_neg e]
    have := (ha k hk).mul (hw k hk (by omega))
    exact ⟨this.mono (by omega), fun h => absurd h e⟩

/-- The turns of a quad's terms. -/
def qturns (inv : Bool) (q : Int) (k : Nat) : Int := if k = 0 then 0 else if k = 1 then (if inv then q else -q) else if k = 2 then (if inv then 2 * -q else 2 * q) else (if inv then -q else q)
/-- Sums of the first terms, turned. -/
def qsum (inv : Bool) (q : Int) (t : Nat → Gi) : Nat → Gi
  | 0 => ⟨0, 0⟩
  | k + 1 => gadd (qsum inv q t k) (Gi.turn (qturns inv q k) (t k))
theorem turn_neg2 (q : Int) (a : Gi) : Gi.turn (2 * -q) a = Gi.turn (2 * q) a := by
  unfold Gi.turn
  have h : (2 * -q) % 4 = (2 * q) % 4 := by omega
  rw [h]
theorem turn_zero (a : Gi) : Gi.turn 0 a = a := rfl
theorem qsum_four (inv : Bool) (q : Int) (t : Nat → Gi) : qsum inv q t 4 = quadSum inv q (t 0) (t 1) (t 2) (t 3) := by
  cases inv
  · simp [qsum, qturns, quadSum, turns1, turn_zero, gadd]
  · simp [qsum, qturns, quadSum, turns1, turn_zero, turn_neg2, gadd]
theorem qsum_bd (inv : Bool) (q : Int) (t : Nat → Gi) (h0 : Bd 1152921504606846976 (t 0)) (h : ∀ k, k < 4 → Bd 2305843009213693952 (t k)) (k : Nat) (hk : k ≤ 4) : Bd (1152921504606846976 * 7) (qsum inv q t k) := by
  have b0 : Bd 0 (qsum inv q t 0) := Bd.mk (by simp [qsum])
  have b1 := b0.add (h0.turn (qturns inv q 0))
  have b2 := b1.add ((h 1 (by omega)).turn (qturns inv q 1))
  have b3 := b2.add ((h 2 (by omega)).turn (qturns inv q 2))
  have b4 := b3.add ((h 3 (by omega)).turn (qturns inv q 3))
  have hc : k = 0 ∨ k = 1 ∨ k = 2 ∨ k = 3 ∨ k = 4 := by omega
  rcases hc with rfl | rfl | rfl | rfl | rfl
  · exact b0.mono (by omega)
  · exact Bd.mono b1 (by omega)
  · exact Bd.mono b2 (by omega)
  · exact Bd.mono b3 (by omega)
  · exact Bd.mono b4 (by omega)

end Go.Proofs.YtmhcbphkkcmecaaGreat
