/- Sums of 80 bits as two numbers: their thousands of 2^20, and what is left. -/
import Derived.Test.YtpkkokcidbcopaaDftMath
namespace Go.Proofs.Ytpkkokcidbcopaa
set_option linter.unusedVariables false
set_option linter.unusedSimpArgs false
set_option maxRecDepth 100000

def wdH (v : Int) : Int := v / 1048576
def wdL (v : Int) : Int := v % 1048576
/-- In 80 bits. -/
def Wd (v : Int) : Prop := -604462909807314587353088 ≤ v ∧ v ≤ 604462909807314587353088
theorem wd_in {v : Int} (h : Wd v) : (-576460752303423488 ≤ wdH v ∧ wdH v ≤ 576460752303423488) ∧ (0 ≤ wdL v ∧ wdL v < 1048576) := by
  unfold Wd at h
  unfold wdH wdL
  omega
theorem wd_norm (h l : Int) : h + l / 1048576 = wdH (h * 1048576 + l) ∧ l - l / 1048576 * 1048576 = wdL (h * 1048576 + l) := by
  unfold wdH wdL
  omega
theorem wd_low (l : Int) : (0 ≤ l - l / 1048576 * 1048576 ∧ l - l / 1048576 * 1048576 < 1048576) := by omega
theorem wd_add (a b : Int) : (wdH a + wdH b) * 1048576 + (wdL a + wdL b) = a + b := by
  unfold wdH wdL
  omega
theorem wd_sub (a b : Int) : (wdH a - wdH b) * 1048576 + (wdL a - wdL b) = a - b := by
  unfold wdH wdL
  omega
theorem wd_times (a b : Int) : a * (b / 1048576) * 1048576 + a * (b - b / 1048576 * 1048576) = a * b := by
  rw [Int.mul_sub, ← Int.mul_assoc]
  omega
/-- A number of 32 bits, times one of 41: what it is made of. -/
theorem wd_times_bd (a b : Int) (ha : -2147483648 ≤ a ∧ a ≤ 2147483648) (hb : -1099511627776 ≤ b ∧ b ≤ 1099511627776) :
    (-1048576 ≤ b / 1048576 ∧ b / 1048576 ≤ 1048576) ∧ (-2251799813685248 ≤ a * (b / 1048576) ∧ a * (b / 1048576) ≤ 2251799813685248) ∧ (-2251799813685248 ≤ a * (b - b / 1048576 * 1048576) ∧ a * (b - b / 1048576 * 1048576) ≤ 2251799813685248) ∧ (-2361183241434822606848 ≤ a * b ∧ a * b ≤ 2361183241434822606848) := by
  have h1 : -1048576 ≤ b / 1048576 ∧ b / 1048576 ≤ 1048576 := by omega
  have h2 : -1048576 ≤ b - b / 1048576 * 1048576 ∧ b - b / 1048576 * 1048576 ≤ 1048576 := by omega
  exact ⟨h1, mulG_bd a _ 2147483648 1048576 (by decide) ha h1, mulG_bd a _ 2147483648 1048576 (by decide) ha h2, mulG_bd a b 2147483648 1099511627776 (by decide) ha hb⟩
theorem wd_down (v : Int) : wdH v / 4096 = v / 4294967296 := by
  unfold wdH
  omega

theorem part_in {l : Int} {xs : List Gi} (h : allIn l xs = true) (h0 : 0 ≤ l) (j : Nat) : (-l ≤ (xs.getD j ⟨0, 0⟩).re ∧ (xs.getD j ⟨0, 0⟩).re ≤ l) ∧ (-l ≤ (xs.getD j ⟨0, 0⟩).im ∧ (xs.getD j ⟨0, 0⟩).im ≤ l) := by
  unfold allIn at h
  rw [List.all_eq_true] at h
  simp only [Bool.and_eq_true, inB_iff] at h
  rw [List.getD_eq_getElem?_getD]
  by_cases hj : j < xs.length
  · rw [List.getElem?_eq_getElem hj]
    exact h _ (List.getElem_mem hj)
  · rw [List.getElem?_eq_none (by omega)]
    simp only [Option.getD_none]
    omega
/-- The first terms of a bin: so long they may be. -/
theorem wv_bd (n : Nat) (hn : IsLen n) (iv : Bool) (i : Nat) : (-1099511627776 ≤ (wv n iv i).re ∧ (wv n iv i).re ≤ 1099511627776) ∧ (-1099511627776 ≤ (wv n iv i).im ∧ (wv n iv i).im ≤ 1099511627776) := by
  have h := root_bd n i hn 16 (by omega) (by omega)
  unfold wv
  cases iv
  · simp only [Bool.false_eq_true, if_false]
    simp at h
    omega
  · simp only [if_true, Gi.conj]
    simp at h
    omega
theorem term_bd (n : Nat) (hn : IsLen n) (xs : List Gi) (iv : Bool) (hx : allIn 2147483648 xs = true) (k j : Nat) :
    (-4722366482869645213696 ≤ (termG n xs iv k j).re ∧ (termG n xs iv k j).re ≤ 4722366482869645213696) ∧ (-4722366482869645213696 ≤ (termG n xs iv k j).im ∧ (termG n xs iv k j).im ≤ 4722366482869645213696) := by
  have hw := wv_bd n hn iv (j * k)
  have ha := part_in hx (by decide) j
  unfold termG gmul
  have p1 := (wd_times_bd _ _ ha.1 hw.1).2.2.2
  have p2 := (wd_times_bd _ _ ha.2 hw.2).2.2.2
  have p3 := (wd_times_bd _ _ ha.1 hw.2).2.2.2
  have p4 := (wd_times_bd _ _ ha.2 hw.1).2.2.2
  simp only
  omega
theorem sum_bd (n : Nat) (hn : IsLen n) (xs : List Gi) (iv : Bool) (hx : allIn 2147483648 xs = true) (k m : Nat) (hm : m ≤ n) :
    (-302231454903657293676544 ≤ (sumG n xs iv k m).re ∧ (sumG n xs iv k m).re ≤ 302231454903657293676544) ∧ (-302231454903657293676544 ≤ (sumG n xs iv k m).im ∧ (sumG n xs iv k m).im ≤ 302231454903657293676544) := by
  have h64 : (m : Int) ≤ 64 := by unfold IsLen at hn; omega
  have h1 := isum_bd (fun j => (termG n xs iv k j).re) 4722366482869645213696 m (fun j _ => (term_bd n hn xs iv hx k j).1)
  have h2 := isum_bd (fun j => (termG n xs iv k j).im) 4722366482869645213696 m (fun j _ => (term_bd n hn xs iv hx k j).2)
  have c := Int.mul_le_mul_of_nonneg_right h64 (show (0 : Int) ≤ 4722366482869645213696 by decide)
  unfold sumG
  simp only
  omega
theorem sumG_next (n : Nat) (xs : List Gi) (iv : Bool) (k m : Nat) : sumG n xs iv k (m + 1) = gadd (sumG n xs iv k m) (termG n xs iv k m) := rfl

end Go.Proofs.Ytpkkokcidbcopaa
