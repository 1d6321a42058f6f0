/- Windows' weights: they mirror, are 0 to 1, and WHann's half a length apart are 1 together. -/
import Derived.Test.YtbdglbpkbpedoaaDftMath
namespace Go.Proofs.Ytbdglbpkbpedoaa
set_option linter.unusedVariables false
set_option linter.unusedSimpArgs false
set_option maxRecDepth 100000

/-- A window's weight k, of n numbers, in 56 - s bits. -/
def winW (kind : Int) (n s k : Nat) : Int :=
  if kind = 1 then rnd (2 ^ (56 - s) - (rootG n k s).re) 1 1 else if kind = 2 then (25 * 2 ^ (56 - s) - 21 * (rootG n k s).re) / 46
  else if kind = 3 then (21 * 2 ^ (56 - s) - 25 * (rootG n k s).re + 4 * (rootG n ((2 * k % n : Nat) : Int) s).re) / 50 else 2 ^ (56 - s)
theorem rnd_half (x : Int) : rnd x 1 1 = (x + 1) / 2 := by
  unfold rnd goesUp
  simp only [show ¬ ((1 : Int) = 0) by decide, if_false, if_true, Int.pow_succ, Int.pow_zero, Int.one_mul]
  have h0 := Int.emod_nonneg x (show (2 : Int) ≠ 0 by decide)
  have h1 := Int.emod_lt_of_pos x (show (0 : Int) < 2 by decide)
  by_cases h : x % 2 = 0
  · rw [decide_eq_false (by omega)]
    simp only [cond_false]
    omega
  · rw [decide_eq_true (by omega)]
    simp only [cond_true]
    omega
theorem root_re_bd (n : Nat) (hn : IsLen n) (k : Int) (s : Nat) (h0 : 16 ≤ s) (h1 : s ≤ 43) : -(2 ^ (56 - s)) ≤ (rootG n k s).re ∧ (rootG n k s).re ≤ 2 ^ (56 - s) := by
  have h := (root_bd n k hn s h0 (by omega)).1
  have e : ((2 ^ (56 - s) : Nat) : Int) = 2 ^ (56 - s) := Int.natCast_pow 2 (56 - s)
  omega
/-- The root of the opposite place has the same Re. -/
theorem root_opp (n : Nat) (hn : IsLen n) (k k' : Nat) (hk : (k + k') % n = 0) (s : Nat) (h0 : 16 ≤ s) (h1 : s ≤ 43) : (rootG n k' s).re = (rootG n k s).re := by
  have hb := root_back n (k : Nat) hn s (by omega) (by omega)
  have e : rootG n (-((k : Nat) : Int)) s = rootG n ((k' : Nat) : Int) s := by
    unfold rootG
    have : (-((k : Nat) : Int)) % (n : Int) = ((k' : Nat) : Int) % n := by
      have hd := Nat.div_add_mod (k + k') n
      rw [hk, Nat.add_zero] at hd
      have : ((k' : Nat) : Int) = -(k : Int) + n * ((k + k') / n : Nat) := by
        have : ((n * ((k + k') / n) : Nat) : Int) = ((k + k' : Nat) : Int) := by rw [hd]
        rw [Int.natCast_mul] at this
        omega
      rw [this, Int.add_mul_emod_self_left]
    rw [this]
  rw [← e, hb]
  rfl
theorem win_mirror (kind : Int) (n : Nat) (hn : IsLen n) (s : Nat) (h0 : 16 ≤ s) (h1 : s ≤ 43) (k : Nat) (hk : k < n) : winW kind n s ((n - k) % n) = winW kind n s k := by
  have h4 : 0 < n := by unfold IsLen at hn; omega
  have e1 : (k + (n - k) % n) % n = 0 := by rw [Nat.add_mod_mod, show k + (n - k) = n by omega, Nat.mod_self]
  have e2 : (2 * k % n + 2 * ((n - k) % n) % n) % n = 0 := by
    rw [← Nat.add_mod, ← Nat.mul_add, Nat.mul_mod, e1, Nat.mul_zero, Nat.zero_mod]
  unfold winW
  rw [root_opp n hn k _ e1 s h0 h1, root_opp n hn _ _ e2 s h0 h1]
/-- WBlackman's weights are not below 0. -/
theorem black_all : ([4, 8, 16, 32, 64].all fun n : Nat => (List.range 28).all fun t => (List.range n).all fun k => decide (0 ≤ 21 * (2 : Int) ^ (40 - t) - 25 * (rootG n k (16 + t)).re + 4 * (rootG n ((2 * k % n : Nat) : Int) (16 + t)).re)) = true := by decide +kernel
theorem win_in (kind : Int) (n : Nat) (hn : IsLen n) (s : Nat) (h0 : 16 ≤ s) (h1 : s ≤ 43) (k : Nat) (hk : k < n) : 0 ≤ winW kind n s k ∧ winW kind n s k ≤ 2 ^ (56 - s) := by
  have hb := root_re_bd n hn k s h0 h1
  have hd := root_re_bd n hn ((2 * k % n : Nat) : Int) s h0 h1
  have hl : 0 ≤ 21 * (2 : Int) ^ (56 - s) - 25 * (rootG n k s).re + 4 * (rootG n ((2 * k % n : Nat) : Int) s).re := by
    have h := List.all_eq_true.1 black_all n (by unfold IsLen at hn; simp; omega)
    have h := List.all_eq_true.1 h (s - 16) (List.mem_range.2 (by omega))
    have h := of_decide_eq_true (List.all_eq_true.1 h k (List.mem_range.2 hk))
    rw [show 16 + (s - 16) = s by omega, show 40 - (s - 16) = 56 - s by omega] at h
    exact h
  unfold winW
  rw [rnd_half]
  generalize (rootG n k s).re = c at *
  generalize (rootG n ((2 * k % n : Nat) : Int) s).re = d at *
  generalize (2 : Int) ^ (56 - s) = O at *
  repeat' split
  all_goals omega
theorem win_hann (n : Nat) (hn : IsLen n) (s : Nat) (h0 : 16 ≤ s) (h1 : s ≤ 43) (k : Nat) (hk : k < n) : winW 1 n s k + winW 1 n s ((k + n / 2) % n) = 2 ^ (56 - s) ∨ winW 1 n s k + winW 1 n s ((k + n / 2) % n) = 2 ^ (56 - s) + 1 := by
  have e : (rootG n (((k + n / 2) % n : Nat) : Int) s).re = -(rootG n k s).re := by
    rw [rootG_mod n (k + n / 2) s]
    have e1 : ((k + n / 2 : Nat) : Int) = (k : Int) + (n : Int) / 4 + (n : Int) / 4 := by unfold IsLen at hn; omega
    rw [e1, root_quarter n _ hn, root_quarter n _ hn]
    simp [Gi.turn]
  unfold winW
  rw [if_pos rfl, if_pos rfl, rnd_half, rnd_half, e]
  generalize (rootG n k s).re = c at *
  generalize (2 : Int) ^ (56 - s) = O at *
  omega
/-- A number weighed is not farther from 0 than before, and 1. -/
theorem weigh_bd (x W : Int) (bits : Nat) (mo : Int) (hm : mo = 0 ∨ mo = 1 ∨ mo = 2) (h0 : 0 ≤ W) (h1 : W ≤ 2 ^ bits) : -(if x < 0 then -x else x) - 1 ≤ rnd (x * W) bits mo ∧ rnd (x * W) bits mo ≤ (if x < 0 then -x else x) + 1 := by
  have hp := pow_pos2 bits
  have ho := rnd_off (x * W) bits mo hm
  obtain ⟨a, b, _⟩ := ho
  generalize rnd (x * W) bits mo = r at *
  generalize (2 : Int) ^ bits = P at *
  have key : ∀ y : Int, 0 ≤ y → y * W ≤ y * P ∧ 0 ≤ y * W := fun y hy => ⟨Int.mul_le_mul_of_nonneg_left h1 hy, Int.mul_nonneg hy h0⟩
  by_cases hx : x < 0
  · rw [if_pos hx]
    have h := key (-x) (by omega)
    rw [Int.neg_mul, Int.neg_mul] at h
    constructor
    · refine Int.le_of_mul_le_mul_right (a := P) ?_ hp
      rw [Int.sub_mul, Int.neg_neg, Int.one_mul]
      omega
    · refine Int.le_of_mul_le_mul_right (a := P) ?_ hp
      rw [Int.add_mul, Int.neg_mul, Int.one_mul]
      omega
  · rw [if_neg hx]
    have h := key x (by omega)
    constructor
    · refine Int.le_of_mul_le_mul_right (a := P) ?_ hp
      rw [Int.sub_mul, Int.neg_mul, Int.one_mul]
      omega
    · refine Int.le_of_mul_le_mul_right (a := P) ?_ hp
      rw [Int.add_mul, Int.one_mul]
      omega

end Go.Proofs.Ytbdglbpkbpedoaa
