/- What package four's small functions answer. -/
import Derived.Test.YtmhcbphkkcmecaaGreatFourMath
import Derived.Test.YtmhcbphkkcmecaaGreatCx4
import Derived.Test.YtmhcbphkkcmecaaGreatCxs
import Derived.Test.YtmhcbphkkcmecaaGreatTwoCode1
import Derived.Test.YtmhcbphkkcmecaaGreatFlip
import Derived.Laws.Cover1
namespace Go.Proofs.YtmhcbphkkcmecaaGreat
open Go.ChangeShapes Go.WideShapes Go.ChangeAt Go.RowKit
set_option linter.unusedVariables false
set_option maxRecDepth 100000

/-- Which quarters may be. -/
def QuarterOk (h : Int) (n : Nat) : Prop := ∃ k : Nat, 4 * 2 ^ k ≤ n ∧ h = ((2 ^ k : Nat) : Int)

theorem quarter_all : ∀ L : Fin 7, ∀ h : Fin 17, 2 ≤ L.val → 1 ≤ h.val → h.val ≤ 2 ^ L.val / 4 → ((2 ^ L.val % h.val = 0) ↔ (h.val = 1 ∨ h.val = 2 ∨ h.val = 4 ∨ h.val = 8 ∨ h.val = 16)) := by decide +kernel

theorem quarter_iff (h L : Nat) (l0 : 2 ≤ L) (l1 : L ≤ 6) (h1 : 1 ≤ h) (h2 : h ≤ 2 ^ L / 4) : 2 ^ L % h = 0 ↔ QuarterOk h (2 ^ L) := by
  have hp := pow_le L l1
  have ha := quarter_all ⟨L, by omega⟩ ⟨h, by omega⟩ l0 h1 h2
  simp only at ha
  rw [ha]
  constructor
  · rintro (rfl | rfl | rfl | rfl | rfl)
    · exact ⟨0, by omega, rfl⟩
    · exact ⟨1, by omega, rfl⟩
    · exact ⟨2, by omega, rfl⟩
    · exact ⟨3, by omega, rfl⟩
    · exact ⟨4, by omega, rfl⟩
  · rintro ⟨k, hk, he⟩
    have hk4 : k ≤ 4 := by
      rcases Nat.lt_or_ge k 5 with g | g
      · omega
      · have := Nat.pow_le_pow_right (n := 2) (by omega) g
        omega
    have he' : h = 2 ^ k := by omega
    have hc : k = 0 ∨ k = 1 ∨ k = 2 ∨ k = 3 ∨ k = 4 := by omega
    rcases hc with rfl | rfl | rfl | rfl | rfl <;> simp at he' <;> omega

end Go.Proofs.YtmhcbphkkcmecaaGreat
