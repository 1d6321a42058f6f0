import Derived.Test.YtcgeabpibkejpaaGreatNearTellsS18
namespace Go.Proofs.YtcgeabpibkejpaaGreat
section
set_option linter.unusedVariables false
set_option linter.unusedSimpArgs false
set_option maxRecDepth 100000
def isum (f : Nat → Int) : Nat → Int
 | 0 => 0
 | m + 1 => isum f m + f m
theorem isum_bd (f : Nat → Int) (l : Int) : ∀ m, (∀ i, i < m → -l ≤ f i ∧ f i ≤ l) → -(m * l) ≤ isum f m ∧ isum f m ≤ m * l
 | 0, _ => by simp [isum]
 | m + 1, h => by
   have h1 := isum_bd f l m (fun i hi => h i (by omega))
   have h2 := h m (by omega)
   have e : ((m + 1 : Nat) : Int) * l = m * l + l := by grind
   rw [e]
   simp only [isum]
   omega
def wv (n : Nat) (iv : Bool) (i : Nat) : Gi := if iv then (rootG n i 16).conj else rootG n i 16
theorem rootG_mod (n : Nat) (i : Nat) (s : Nat) : rootG n ((i % n : Nat) : Int) s = rootG n i s := by
 unfold rootG
 rw [show (((i % n : Nat) : Int) % (n : Int)) = (i : Int) % n by rw [Int.natCast_emod, Int.emod_emod]]
theorem wv_root (n : Nat) (hn : 0 < n) (iv : Bool) (i : Nat) : rootOf (rootsL n 16) iv (i % n) = wv n iv i := by
 have h : (rootsL n 16).getD (i % n) ⟨0, 0⟩ = rootG n i 16 := by
  unfold rootsL
  rw [List.getD_eq_getElem?_getD, List.getElem?_map, Int.toNat_natCast, List.getElem?_range (Nat.mod_lt _ hn)]
  exact rootG_mod n i 16
 unfold rootOf wv
 rw [h]
theorem wv_again (n : Nat) (hn : IsLen n) (iv : Bool) (i q : Nat) : wv n iv (i + n * q) = wv n iv i := by
 have h : rootG n ((i + n * q : Nat) : Int) 16 = rootG n i 16 := by
  rw [← rootG_mod n (i + n * q), Nat.add_mul_mod_self_left, rootG_mod]
 unfold wv
 rw [h]
def termG (n : Nat) (xs : List Gi) (iv : Bool) (k j : Nat) : Gi := gmul (xs.getD j ⟨0, 0⟩) (wv n iv (j * k))
def sumG (n : Nat) (xs : List Gi) (iv : Bool) (k m : Nat) : Gi := ⟨isum (fun j => (termG n xs iv k j).re) m, isum (fun j => (termG n xs iv k j).im) m⟩
def binG (n : Nat) (xs : List Gi) (iv : Bool) (k : Nat) : Gi := ⟨(sumG n xs iv k n).re / 4294967296, (sumG n xs iv k n).im / 4294967296⟩
def wdH (v : Int) : Int := v / 1048576
def wdL (v : Int) : Int := v % 1048576
def Wd (v : Int) : Prop := -604462909807314587353088 ≤ v ∧ v ≤ 604462909807314587353088
theorem wd_in {v : Int} (h : Wd v) : (-576460752303423488 ≤ wdH v ∧ wdH v ≤ 576460752303423488) ∧ (0 ≤ wdL v ∧ wdL v < 1048576) := by
 unfold Wd at h
 unfold wdH wdL
 omega
theorem wd_norm (h l : Int) : h + l / 1048576 = wdH (h * 1048576 + l) ∧ l - l / 1048576 * 1048576 = wdL (h * 1048576 + l) := by
 unfold wdH wdL
 omega
theorem wd_add (a b : Int) : (wdH a + wdH b) * 1048576 + (wdL a + wdL b) = a + b := by
 unfold wdH wdL
 omega
theorem wd_sub (a b : Int) : (wdH a - wdH b) * 1048576 + (wdL a - wdL b) = a - b := by
 unfold wdH wdL
 omega
theorem wd_times (a b : Int) : a * (b / 1048576) * 1048576 + a * (b - b / 1048576 * 1048576) = a * b := by
 rw [Int.mul_sub, ← Int.mul_assoc]
 omega
theorem wd_times_bd (a b : Int) (ha : -2147483648 ≤ a ∧ a ≤ 2147483648) (hb : -1099511627776 ≤ b ∧ b ≤ 1099511627776) :
 (-1048576 ≤ b / 1048576 ∧ b / 1048576 ≤ 1048576) ∧ (-2251799813685248 ≤ a * (b / 1048576) ∧ a * (b / 1048576) ≤ 2251799813685248) ∧ (-2251799813685248 ≤ a * (b - b / 1048576 * 1048576) ∧ a * (b - b / 1048576 * 1048576) ≤ 2251799813685248) ∧ (-2361183241434822606848 ≤ a * b ∧ a * b ≤ 2361183241434822606848) := by
 have h1 : -1048576 ≤ b / 1048576 ∧ b / 1048576 ≤ 1048576 := by omega
 have h2 : -1048576 ≤ b - b / 1048576 * 1048576 ∧ b - b / 1048576 * 1048576 ≤ 1048576 := by omega
 exact ⟨h1, mulG_bd a _ 2147483648 1048576 (by decide) ha h1, mulG_bd a _ 2147483648 1048576 (by decide) ha h2, mulG_bd a b 2147483648 1099511627776 (by decide) ha hb⟩
theorem wd_down (v : Int) : wdH v / 4096 = v / 4294967296 := by
 unfold wdH
 omega
theorem part_in {l : Int} {xs : List Gi} (h : allIn l xs = true) (h0 : 0 ≤ l) (j : Nat) : (-l ≤ (xs.getD j ⟨0, 0⟩).re ∧ (xs.getD j ⟨0, 0⟩).re ≤ l) ∧ (-l ≤ (xs.getD j ⟨0, 0⟩).im ∧ (xs.getD j ⟨0, 0⟩).im ≤ l) := by
 unfold allIn at h
 rw [List.all_eq_true] at h
 simp only [Bool.and_eq_true, inB_iff] at h
 rw [List.getD_eq_getElem?_getD]
 by_cases hj : j < xs.length
 ·rw [List.getElem?_eq_getElem hj]
  exact h _ (List.getElem_mem hj)
 ·rw [List.getElem?_eq_none (by omega)]
  simp only [Option.getD_none]
  omega
theorem wv_bd (n : Nat) (hn : IsLen n) (iv : Bool) (i : Nat) : (-1099511627776 ≤ (wv n iv i).re ∧ (wv n iv i).re ≤ 1099511627776) ∧ (-1099511627776 ≤ (wv n iv i).im ∧ (wv n iv i).im ≤ 1099511627776) := by
 have h := root_bd n i hn 16 (by omega) (by omega)
 unfold wv
 cases iv
 ·simp only [Bool.false_eq_true, if_false]
  simp at h
  omega
 ·simp only [if_true, Gi.conj]
  simp at h
  omega
theorem term_bd (n : Nat) (hn : IsLen n) (xs : List Gi) (iv : Bool) (hx : allIn 2147483648 xs = true) (k j : Nat) :
 (-4722366482869645213696 ≤ (termG n xs iv k j).re ∧ (termG n xs iv k j).re ≤ 4722366482869645213696) ∧ (-4722366482869645213696 ≤ (termG n xs iv k j).im ∧ (termG n xs iv k j).im ≤ 4722366482869645213696) := by
 have hw := wv_bd n hn iv (j * k)
 have ha := part_in hx (by decide) j
 unfold termG gmul
 have p1 := (wd_times_bd _ _ ha.1 hw.1).2.2.2
 have p2 := (wd_times_bd _ _ ha.2 hw.2).2.2.2
 have p3 := (wd_times_bd _ _ ha.1 hw.2).2.2.2
 have p4 := (wd_times_bd _ _ ha.2 hw.1).2.2.2
 simp only
 omega
theorem sum_bd (n : Nat) (hn : IsLen n) (xs : List Gi) (iv : Bool) (hx : allIn 2147483648 xs = true) (k m : Nat) (hm : m ≤ n) :
 (-302231454903657293676544 ≤ (sumG n xs iv k m).re ∧ (sumG n xs iv k m).re ≤ 302231454903657293676544) ∧ (-302231454903657293676544 ≤ (sumG n xs iv k m).im ∧ (sumG n xs iv k m).im ≤ 302231454903657293676544) := by
 have h64 : (m : Int) ≤ 64 := by unfold IsLen at hn; omega
 have h1 := isum_bd (fun j => (termG n xs iv k j).re) 4722366482869645213696 m (fun j _ => (term_bd n hn xs iv hx k j).1)
 have h2 := isum_bd (fun j => (termG n xs iv k j).im) 4722366482869645213696 m (fun j _ => (term_bd n hn xs iv hx k j).2)
 have c := Int.mul_le_mul_of_nonneg_right h64 (show (0 : Int) ≤ 4722366482869645213696 by decide)
 unfold sumG
 simp only
 omega
theorem sumG_next (n : Nat) (xs : List Gi) (iv : Bool) (k m : Nat) : sumG n xs iv k (m + 1) = gadd (sumG n xs iv k m) (termG n xs iv k m) := rfl
theorem IsLog.len {n : Nat} {L : Nat} (h : IsLog (n : Int) L) : IsLen (n : Int) := by
 unfold IsLen
 rcases isLog_cases h with ⟨_, h⟩ | ⟨_, h⟩ | ⟨_, h⟩ | ⟨_, h⟩ | ⟨_, h⟩ <;> omega
def binsG (n : Nat) (xs : List Gi) (iv : Bool) : List Gi := (List.range n).map (fun k => binG n xs iv k)
theorem binsG_len (n : Nat) (xs : List Gi) (iv : Bool) : (binsG n xs iv).length = n := by simp [binsG]
def slackG (n : Nat) (xs : List Gi) : Int := 2 * (n : Int) * maxG xs / 4294967296 + 2
theorem slackG_bd (n : Nat) (hn : n ≤ 64) (xs : List Gi) (hx : allIn 2147483648 xs = true) : (0 ≤ maxG xs ∧ maxG xs ≤ 2147483648) ∧ (0 ≤ 2 * (n : Int) * maxG xs ∧ 2 * (n : Int) * maxG xs ≤ 274877906944) ∧ 2 ≤ slackG n xs ∧ slackG n xs ≤ 66 := by
 have h1 := maxG_le xs 2147483648 (by omega) ((allIn_iff _ _).1 hx)
 have h0 := maxG_nonneg xs
 have h2 := Int.mul_nonneg (show 0 ≤ 2 * (n : Int) by omega) h0
 have h3 := Int.mul_le_mul (show 2 * (n : Int) ≤ 128 by omega) h1 h0 (by decide)
 unfold slackG
 refine ⟨⟨h0, h1⟩, ⟨h2, by omega⟩, by omega, by omega⟩
end
end Go.Proofs.YtcgeabpibkejpaaGreat
