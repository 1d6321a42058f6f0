/- Twiddles are no longer than 1 and little. -/
import Derived.Test.YtmhcbphkkcmecaaGreatRef07
import Derived.Test.YtmhcbphkkcmecaaGreatSplitMath
namespace Go.Proofs.YtmhcbphkkcmecaaGreat
set_option linter.unusedVariables false
set_option maxRecDepth 100000

theorem root_len (n k : Int) (hn : IsLen n) (s : Nat) (h0 : 26 ≤ s) (h1 : s ≤ 44) : Len (2 ^ (56 - s) + 2) (rootG n k s) := by
  have hp := (root_prod n k (-k) hn s h0 h1 _ rfl).1
  rw [root_back n k hn s (by omega) (by omega), show k + -k = 0 by omega, root_zero n hn s (by omega) (by omega)] at hp
  have hq := pow_pos2 (56 - s)
  unfold Len
  generalize rootG n k s = g at *
  obtain ⟨x, y⟩ := g
  unfold Gi.less Gi.mul Gi.conj Gi.up at hp
  simp only at hp ⊢
  generalize (2 : Int) ^ (56 - s) = B at *
  have e : x * x - y * -y - B * B = x * x + y * y - B * B := by grind
  rw [e] at hp
  have e2 : (B + 2) * (B + 2) = B * B + 4 * B + 4 := by grind
  omega

theorem roots_len (n : Int) (hn : IsLen n) (bits : Nat) (h0 : 12 ≤ bits) (h1 : bits ≤ 30) (inv : Bool) (k : Nat) : Len (2 ^ bits + 2) (rootOf (rootsL n (56 - bits)) inv k) := by
  have hp := pow_pos2 bits
  have key : Len (2 ^ bits + 2) ((rootsL n (56 - bits)).getD k ⟨0, 0⟩) := by
    by_cases h : k < n.toNat
    · unfold rootsL
      rw [List.getD_eq_getElem?_getD, List.getElem?_map, List.getElem?_range h]
      have := root_len n k hn (56 - bits) (by omega) (by omega)
      rw [show 56 - (56 - bits) = bits by omega] at this
      exact this
    · rw [List.getD_eq_getElem?_getD, List.getElem?_eq_none (by rw [rootsL_len]; omega)]
      exact Len.zero _
  unfold rootOf
  cases inv
  · exact key
  · exact key.conj
theorem roots_in (n : Int) (hn : IsLen n) (bits : Nat) (h0 : 1 ≤ bits) (h1 : bits ≤ 40) (k : Nat) (hk : k < n.toNat) : Bd (2 ^ bits) ((rootsL n (56 - bits)).getD k ⟨0, 0⟩) := by
  unfold rootsL
  rw [List.getD_eq_getElem?_getD, List.getElem?_map, List.getElem?_range hk]
  have := root_bd n k hn (56 - bits) (by omega) (by omega)
  rw [show 56 - (56 - bits) = bits by omega] at this
  have e : ((2 ^ bits : Nat) : Int) = 2 ^ bits := by simp
  refine Bd.mk ?_
  simp only [Option.map_some, Option.getD_some]
  generalize (2 : Int) ^ bits = P at *
  generalize 2 ^ bits = p at *
  omega
theorem roots_first (n : Int) (hn : IsLen n) (bits : Nat) (h1 : bits ≤ 40) (inv : Bool) : rootOf (rootsL n (56 - bits)) inv 0 = ⟨2 ^ bits, 0⟩ := by
  have h4 : 0 < n.toNat := by rcases hn with rfl | rfl | rfl | rfl | rfl <;> decide
  have key : (rootsL n (56 - bits)).getD 0 ⟨0, 0⟩ = ⟨2 ^ bits, 0⟩ := by
    unfold rootsL
    rw [List.getD_eq_getElem?_getD, List.getElem?_map, List.getElem?_range h4]
    have := root_zero n hn (56 - bits) (by omega) (by omega)
    rw [show 56 - (56 - bits) = bits by omega] at this
    exact this
  unfold rootOf
  rw [key]
  cases inv <;> rfl

end Go.Proofs.YtmhcbphkkcmecaaGreat
