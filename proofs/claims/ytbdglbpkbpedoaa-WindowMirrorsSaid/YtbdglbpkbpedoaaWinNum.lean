/- Windows as lists; a list's sum; the numbers of the walks. -/
import Derived.Test.YtbdglbpkbpedoaaWinMath
import Derived.Test.YtbdglbpkbpedoaaNums
namespace Go.Proofs.Ytbdglbpkbpedoaa
set_option linter.unusedVariables false
set_option linter.unusedSimpArgs false
set_option maxRecDepth 100000

/-- A window. -/
def winL (kind : Int) (n s : Nat) : List Int := (List.range n).map (winW kind n s)
theorem winL_len (kind : Int) (n s : Nat) : (winL kind n s).length = n := by unfold winL; simp
theorem winL_at (kind : Int) (n s k : Nat) (h : k < n) : (winL kind n s)[k]? = some (winW kind n s k) := by
  unfold winL
  rw [List.getElem?_map, List.getElem?_range h]
  rfl
theorem winL_of (kind : Int) (n s k : Nat) (x : Int) (h : (winL kind n s)[k]? = some x) : k < n ∧ x = winW kind n s k := by
  have hl := (List.getElem?_eq_some_iff.1 h).1
  rw [winL_len] at hl
  rw [winL_at kind n s k hl] at h
  cases h
  exact ⟨hl, rfl⟩
theorem winL_snoc (kind : Int) (n s j : Nat) : (List.range (j + 1)).map (winW kind n s) = (List.range j).map (winW kind n s) ++ [winW kind n s j] := by
  rw [List.range_succ, List.map_append]; rfl
/-- The sum of a list. -/
def addL : List Int → Int
  | [] => 0
  | x :: l => x + addL l
theorem addL_snoc (l : List Int) (x : Int) : addL (l ++ [x]) = addL l + x := by
  induction l with
  | nil => simp [addL]
  | cons a l ih => simp only [List.cons_append, addL, ih]; omega
theorem addL_bd (l : List Int) (M : Int) (h : ∀ x ∈ l, -M ≤ x ∧ x ≤ M) : -(l.length * M) ≤ addL l ∧ addL l ≤ l.length * M := by
  induction l with
  | nil => simp [addL]
  | cons a l ih =>
    have h1 := h a List.mem_cons_self
    have h2 := ih fun x hx => h x (List.mem_cons_of_mem a hx)
    simp only [addL, List.length_cons]
    rw [show ((l.length + 1 : Nat) : Int) * M = l.length * M + M by rw [Int.natCast_add, Int.add_mul]; simp]
    omega
theorem root_re40 (n : Nat) (hn : IsLen n) (k : Int) (s : Nat) (h0 : 16 ≤ s) (h1 : s ≤ 56) : (-1099511627776 ≤ (rootG n k s).re ∧ (rootG n k s).re ≤ 1099511627776) ∧ (1 ≤ (2 : Int) ^ (56 - s) ∧ (2 : Int) ^ (56 - s) ≤ 1099511627776) := by
  have h := (root_bd n k hn s h0 h1).1
  have e : ((2 ^ (56 - s) : Nat) : Int) = 2 ^ (56 - s) := Int.natCast_pow 2 (56 - s)
  have h2 : (2 : Nat) ^ (56 - s) ≤ 2 ^ 40 := Nat.pow_le_pow_right (by decide) (by omega)
  have h3 : 0 < (2 : Nat) ^ (56 - s) := Nat.pow_pos (by decide)
  generalize (2 : Nat) ^ (56 - s) = N at *
  omega
theorem win_bd (kind : Int) (n : Nat) (hn : IsLen n) (s k : Nat) (h0 : 16 ≤ s) (h1 : s ≤ 56) : -8796093022208 ≤ winW kind n s k ∧ winW kind n s k ≤ 8796093022208 := by
  have hc := root_re40 n hn k s h0 h1
  have hd := (root_re40 n hn ((2 * k % n : Nat) : Int) s h0 h1).1
  unfold winW
  rw [rnd_half]
  generalize (2 : Int) ^ (56 - s) = O at *
  generalize (rootG n k s).re = c at *
  generalize (rootG n ((2 * k % n : Nat) : Int) s).re = d at *
  by_cases e1 : kind = 1
  · rw [if_pos e1]; omega
  · by_cases e2 : kind = 2
    · rw [if_neg e1, if_pos e2]; omega
    · by_cases e3 : kind = 3
      · rw [if_neg e1, if_neg e2, if_pos e3]; omega
      · rw [if_neg e1, if_neg e2, if_neg e3]; omega
theorem winL_bd (kind : Int) (n : Nat) (hn : IsLen n) (s : Nat) (h0 : 16 ≤ s) (h1 : s ≤ 56) : ∀ x ∈ winL kind n s, -8796093022208 ≤ x ∧ x ≤ 8796093022208 := by
  intro x hx
  obtain ⟨k, hk⟩ := List.getElem?_of_mem hx
  obtain ⟨_, rfl⟩ := winL_of kind n s k x hk
  exact win_bd kind n hn s k h0 h1
end Go.Proofs.Ytbdglbpkbpedoaa
