import Derived.Test.YtdignnmpfkgkoaaGreatRows
import Derived.WalkKit
import Derived.ProofKit
import Derived.OpenShut
import Derived.Deep.RegionHeld3
import Derived.Deep.QuietTactic
import Derived.BigQuiet
import Derived.Outline
import Derived.Lib.Hide
import Derived.Laws.EntriesVeiled
import Derived.OrdersHeld
import Derived.Laws.Entries
import Derived.IntWalk
import Derived.Laws.Bits64b
namespace Go.Proofs.YtdignnmpfkgkoaaGreat
section
set_option maxHeartbeats 16000000
instance : Coe Int Value := ⟨.int .i64⟩
instance : Coe Nat Value := ⟨fun n => .int .i64 n⟩
instance : Coe Bool Value := ⟨.bool⟩
theorem kh {p : Prop} (h : p) : RowKit.Hid p := h
theorem putS : (∀ (α : Type) (l : List α) (i : Nat) (a : α), l.toArray.setIfInBounds i a = (l.set i a).toArray) ∧ (∀ (α : Type) (x a : α) (l : List α), (x :: l).set 0 a = a :: l) ∧ (∀ (α : Type) (x a : α) (l : List α) (n : Nat), (x :: l).set (n + 1) a = x :: l.set n a) ∧ (∀ (α : Type) (l : List α) (i : Nat) (h : i < l.toArray.size), l.toArray[i] = l[i]'(by simpa using h)) ∧ (∀ (α : Type) (x : α) (l : List α) (h : 0 < (x :: l).length), (x :: l)[0] = x) ∧ (∀ (α : Type) (x : α) (l : List α) (n : Nat) (h : n + 1 < (x :: l).length), (x :: l)[n + 1] = l[n]'(Nat.lt_of_succ_lt_succ h)) :=
  ⟨fun _ _ _ _ => List.setIfInBounds_toArray _ _ _, fun _ _ _ _ => rfl, fun _ _ _ _ _ => rfl, fun _ _ _ h => List.getElem_toArray h, fun _ _ _ _ => rfl, fun _ _ _ _ _ => rfl⟩
theorem getS : (∀ (α : Type) (l : List α) (i : Nat), l.toArray[i]? = l[i]?) ∧ (∀ (α : Type) (x : α) (l : List α), (x :: l)[0]? = some x) ∧ (∀ (α : Type) (x : α) (l : List α) (n : Nat), (x :: l)[n + 1]? = l[n]?) :=
  ⟨fun _ _ _ => List.getElem?_toArray, fun _ _ _ => List.getElem?_cons_zero, fun _ _ _ _ => List.getElem?_cons_succ⟩
theorem hT {P : Program} {ops : Array Oper} {Q : Exit → Act → World → Prop} {md : Region.Mode} {S : World → Prop} (i : Nat) {oi : Oper} {v : Value} {fuel : Nat} {l l' : Array Bool} {a a' : Act} {w : World} (h : wpAnyH P md ops Q S fuel l' a' w) (hi : ops[i]? = some oi := by rfl) (hs : Region.noSelect ops = true := by kernel_rfl) (hf : Region.free md ops l i = true := by kernel_rfl) (hr : (Region.ready md ops l).contains i = true := by kernel_rfl) (hQ : ∀ c a w, Q (.panic c) (a.put oi.dst v) w → Q (.panic c) a w := by exact fun _ _ _ h => h) (hw : Region.wanted oi (yielded ops a.tmps) = true := by rfl) (hS : S w := by assumption) (hy : ∀ w, S w → (execOp a.eval oi).run P w = .ok (.value v) w := by (intro w hSw; (try dsimp only at hSw); go_split_ands; go_simp; try with_reducible rfl)) (hl : l.setIfInBounds i true = l' := by first | (simp only [List.setIfInBounds_toArray, List.set_cons_zero, List.set_cons_succ] <;> rfl) | rfl) (ha : a.put oi.dst v = a' := by first | (simp only [Act.put, List.setIfInBounds_toArray, List.set_cons_zero, List.set_cons_succ, List.getElem_toArray, List.getElem_cons_zero, List.getElem_cons_succ] <;> rfl) | rfl) : wpAnyH P md ops Q S (fuel + 1) l a w := by
  subst hl ha
  exact wpAnyH_take hi hs hf hr hQ (Or.inl ⟨hw, hy⟩) hS h
theorem hN {P : Program} {ops : Array Oper} {Q : Exit → Act → World → Prop} {md : Region.Mode} {S : World → Prop} (i : Nat) {oi : Oper} {fuel : Nat} {l l' : Array Bool} {a a' : Act} {w : World} (h : wpAnyH P md ops Q S fuel l' a' w) (hi : ops[i]? = some oi := by rfl) (hs : Region.noSelect ops = true := by kernel_rfl) (hf : Region.free md ops l i = true := by kernel_rfl) (hr : (Region.ready md ops l).contains i = true := by kernel_rfl) (hQ : ∀ c a w, Q (.panic c) (a.put oi.dst undef) w → Q (.panic c) a w := by exact fun _ _ _ h => h) (hw : Region.wanted oi (yielded ops a.tmps) = false := by rfl) (hS : S w := by assumption) (hl : l.setIfInBounds i true = l' := by first | (simp only [List.setIfInBounds_toArray, List.set_cons_zero, List.set_cons_succ] <;> rfl) | rfl) (ha : a.put oi.dst undef = a' := by first | (simp only [Act.put, List.setIfInBounds_toArray, List.set_cons_zero, List.set_cons_succ, List.getElem_toArray, List.getElem_cons_zero, List.getElem_cons_succ] <;> rfl) | rfl) : wpAnyH P md ops Q S (fuel + 1) l a w := by
  subst hl ha
  exact wpAnyH_take hi hs hf hr hQ (Or.inr ⟨hw, rfl⟩) hS h
theorem hR {P : Program} {ops : Array Oper} {Q : Exit → Act → World → Prop} {md : Region.Mode} {S : World → Prop} (i : Nat) {o : Oper} {fuel : Nat} {l : Array Bool} {a : Act} {w : World} (h : ∀ K' : Act → World → Prop, Shut (∀ a w, S w → (S w → wpAnyH P md ops Q S fuel (l.setIfInBounds i true) a w) → K' a w) → if Region.wanted o (yielded ops a.tmps) = true then Oper.wp P o a w K' Q else K' (a.put o.dst undef) w) (hr : Region.ready md ops l = [i] := by kernel_rfl) (ho : ops[i]? = some o := by rfl) : wpAnyH P md ops Q S (fuel + 1) l a w := wpAnyH_ready hr (by simp) (AllReadyH.cons ho h AllReadyH.nil)
end
section
open Go.RowKit
set_option maxHeartbeats 16000000
theorem pow_pos2 (n : Nat) : (0 : Int) < 2 ^ n := Int.pow_pos (by decide)
theorem pow_le62 (n : Nat) (h : n ≤ 62) : (2 : Int) ^ n ≤ 4611686018427387904 := by
 have h1 : (2 : Nat) ^ n ≤ 2 ^ 62 := Nat.pow_le_pow_right (by decide) h
 have h2 : ((2 ^ n : Nat) : Int) ≤ ((2 ^ 62 : Nat) : Int) := Int.ofNat_le.2 h1
 rw [Int.natCast_pow] at h2
 simpa using h2
theorem pow_le61 (n : Nat) (h : n ≤ 61) : (2 : Int) ^ n ≤ 2305843009213693952 := by
 have := pow_le62 (n + 1) (by omega)
 rw [Int.pow_succ] at this
 omega
theorem div_pow_succ (x : Int) (k : Nat) : x / 2 ^ (k + 1) = x / 2 ^ k / 2 := by
 rw [Int.pow_succ]; exact (Int.ediv_ediv_of_nonneg (Int.le_of_lt (pow_pos2 k))).symm
theorem bits_mask (x : Int) (n : Nat) (h : n ≤ 62) : bits .and .i64 x ((2 : Int) ^ n - 1) = x % 2 ^ n := by
 have hp := pow_pos2 n
 have hl := pow_le62 n h
 have hnat : (2 : Nat) ^ n ≤ 2 ^ 62 := Nat.pow_le_pow_right (by decide) h
 have hpn : 0 < (2 : Nat) ^ n := Nat.pow_pos (by decide)
 have e1 : (BitVec.ofInt 64 ((2 : Int) ^ n - 1)).toNat = 2 ^ n - 1 := by
  rw [BitVec.toNat_ofInt]
  have : ((2 : Int) ^ n - 1) = (((2 : Nat) ^ n - 1 : Nat) : Int) := by
   rw [Int.ofNat_sub hpn, Int.natCast_pow]; rfl
  rw [this, ← Int.natCast_emod, Int.toNat_natCast]
  exact Nat.mod_eq_of_lt (by omega)
 have e2 : ((BitVec.ofInt 64 x).toNat : Int) = x % 18446744073709551616 := by
  rw [BitVec.toNat_ofInt, Int.toNat_of_nonneg (Int.emod_nonneg _ (by decide))]
  rfl
 have e3 : (((BitVec.ofInt 64 x &&& BitVec.ofInt 64 ((2 : Int) ^ n - 1)).toNat : Nat) : Int) = x % 2 ^ n := by
  rw [BitVec.toNat_and, e1, Nat.and_two_pow_sub_one_eq_mod, Int.natCast_emod, e2, Int.natCast_pow]
  refine Int.emod_emod_of_dvd x ?_
  exact ⟨2 ^ (64 - n), by rw [show ((2 : Nat) : Int) = 2 from rfl, ← Int.pow_add, show n + (64 - n) = 64 by omega]; rfl⟩
 have hlo := Int.emod_nonneg x (Int.ne_of_gt hp)
 have hhi := Int.emod_lt_of_pos x hp
 show IntKind.i64.wrap ((BitVec.ofInt 64 x &&& BitVec.ofInt 64 ((2 : Int) ^ n - 1)).toNat : Int) = _
 rw [e3]
 exact IntWalk.i64_in _ (by omega)
theorem div_bd (x d : Int) (h0 : -9223372036854775808 ≤ x) (h1 : x ≤ 9223372036854775807) (hd : 1 ≤ d) :
 -9223372036854775808 ≤ x / d ∧ x / d ≤ 9223372036854775807 := by
 constructor
 ·refine (Int.le_ediv_iff_mul_le (by omega)).2 ?_
  have h2 : (9223372036854775808 : Int) * 1 ≤ 9223372036854775808 * d := Int.mul_le_mul_of_nonneg_left hd (by decide)
  have h3 : (-9223372036854775808 : Int) * d = - (9223372036854775808 * d) := by rw [Int.neg_mul]
  omega
 ·by_cases hx : 0 ≤ x
  ·have := Int.ediv_le_self d hx
   omega
  ·have : x / d < 0 := Int.ediv_neg_of_neg_of_pos (by omega) (by omega)
   omega
theorem tdiv_low (x d : Int) (h0 : -9223372036854775808 ≤ x) (hx : x < 0) (hd : 1 ≤ d) (hm : x.tmod d < 0) : wrap64 (x.tdiv d - 1) = x / d := by
 have b := div_bd x d h0 (by omega) hd
 have e : x.tdiv d = x / d + 1 := by
  rw [Int.tdiv_eq_ediv]
  by_cases hv : d ∣ x
  ·rw [Int.tmod_eq_emod, if_pos (Or.inr hv), Int.emod_eq_zero_of_dvd hv] at hm
   omega
  ·rw [if_neg (by intro h; rcases h with h | h; exact absurd h (by omega); exact hv h), Int.sign_eq_one_of_pos (by omega)]
 rw [e, show x / d + 1 - 1 = x / d by omega]
 exact IntWalk.wrap64_in _ b
theorem tdiv_high (x d : Int) (hx : x < 0) (hd : 1 ≤ d) (hm : 0 ≤ x.tmod d) : x.tdiv d = x / d := by
 rw [Int.tdiv_eq_ediv]
 by_cases hv : d ∣ x
 ·rw [if_pos (Or.inr hv), Int.add_zero]
 ·rw [Int.tmod_eq_emod, if_neg (by intro h; rcases h with h | h; exact absurd h (by omega); exact hv h)] at hm
  have := Int.emod_lt_of_pos x (show 0 < d by omega)
  omega
theorem tmod_bd (x d : Int) (hx : x < 0) (hd : 1 ≤ d) : x.tmod d ≤ 0 ∧ x.tdiv d * d ≤ 0 := by
 have hq : x / d < 0 := Int.ediv_neg_of_neg_of_pos hx (by omega)
 have hr := Int.emod_lt_of_pos x (show 0 < d by omega)
 constructor
 ·rw [Int.tmod_eq_emod]
  by_cases hv : d ∣ x
  ·rw [if_pos (Or.inr hv), Int.emod_eq_zero_of_dvd hv]; omega
  ·rw [if_neg (by intro h; rcases h with h | h; exact absurd h (by omega); exact hv h)]; omega
 ·have : x.tdiv d ≤ 0 := by
   rw [Int.tdiv_eq_ediv]
   by_cases hv : d ∣ x
   ·rw [if_pos (Or.inr hv)]; omega
   ·rw [if_neg (by intro h; rcases h with h | h; exact absurd h (by omega); exact hv h), Int.sign_eq_one_of_pos (by omega)]; omega
  have := Int.mul_le_mul_of_nonneg_right this (show 0 ≤ d by omega)
  omega
theorem tdiv_mul_wrap (x d : Int) (h0 : -9223372036854775808 ≤ x) (hx : x < 0) (hd : 1 ≤ d) : wrap64 (x.tdiv d * d) = x - x.tmod d := by
 have b := tmod_bd x d hx hd
 have e := Int.mul_tdiv_add_tmod x d
 rw [Int.mul_comm] at e
 rw [IntWalk.wrap64_in _ (by omega)]
 omega
theorem tmod2_eq (x : Int) : (x.tmod 2 == 0) = decide (x % 2 = 0) := by
 rw [Int.tmod_eq_emod, Bool.eq_iff_iff]
 simp only [beq_iff_eq, decide_eq_true_eq]
 by_cases hv : 0 ≤ x ∨ (2 : Int) ∣ x
 ·rw [if_pos hv]; omega
 ·rw [if_neg hv]; omega
theorem half_even (x : Int) (h : (x.tmod 2 == 0) = true) : x.tdiv 2 = x / 2 := by
 rw [tmod2_eq] at h
 have h' : x % 2 = 0 := of_decide_eq_true h
 rw [Int.tdiv_eq_ediv, if_pos (Or.inr (by omega)), Int.add_zero]
theorem half_odd (x : Int) (h0 : -9223372036854775808 ≤ x) (hx : x ≤ 0) (h : (x.tmod 2 == 0) = false) : wrap64 (x.tdiv 2 - 1) = x / 2 := by
 rw [tmod2_eq] at h
 have h' : ¬ x % 2 = 0 := of_decide_eq_false h
 have e : x.tdiv 2 = x / 2 + 1 := by
  rw [Int.tdiv_eq_ediv, if_neg (by omega)]
  rfl
 rw [e, show x / 2 + 1 - 1 = x / 2 by omega]
 exact IntWalk.wrap64_in _ (by omega)
def evenUp (d l v : Int) : Bool := if l = v - l then (d.tmod 2 != 0) else decide (v - l < l)
def goesUp (mode d l v : Int) : Bool := if mode = 0 then false else if mode = 1 then decide (v - l ≤ l) else evenUp d l v
def rnd (x : Int) (n : Nat) (mode : Int) : Int := bif goesUp mode (x / 2 ^ n) (x % 2 ^ n) (2 ^ n) then x / 2 ^ n + 1 else x / 2 ^ n
theorem div_pow_bd (x : Int) (n : Nat) (h0 : -9223372036854775808 ≤ x) (h1 : x ≤ 9223372036854775807) :
 -9223372036854775808 ≤ x / 2 ^ n ∧ x / 2 ^ n ≤ 9223372036854775807 := by
 have hp := pow_pos2 n
 constructor
 ·refine (Int.le_ediv_iff_mul_le hp).2 ?_
  have : (1 : Int) ≤ 2 ^ n := hp
  have h2 : (9223372036854775808 : Int) * 1 ≤ 9223372036854775808 * 2 ^ n := Int.mul_le_mul_of_nonneg_left this (by decide)
  have h3 : (-9223372036854775808 : Int) * 2 ^ n = - (9223372036854775808 * 2 ^ n) := by rw [Int.neg_mul]
  omega
 ·by_cases hx : 0 ≤ x
  ·have := Int.ediv_le_self (2 ^ n) hx
   omega
  ·have : x / 2 ^ n < 0 := Int.ediv_neg_of_neg_of_pos (by omega) hp
   omega
theorem up_bd (x : Int) (n : Nat) (h0 : -9223372036854775808 ≤ x) (h1 : x ≤ 9223372036854775807) (mode : Int)
 (hu : goesUp mode (x / 2 ^ n) (x % 2 ^ n) (2 ^ n) = true) : x / 2 ^ n ≤ 9223372036854775806 := by
 cases n with
 | zero =>
   exfalso
   have e0 : x % (2 : Int) ^ 0 = 0 := by simp
   rw [e0] at hu
   simp [goesUp, evenUp] at hu
 | succ m =>
   have hm := pow_pos2 m
   have hp : (2 : Int) ^ (m + 1) = 2 * 2 ^ m := by rw [Int.pow_succ, Int.mul_comm]
   by_cases hx : 0 ≤ x
   ·have h2 : x / 2 ^ (m + 1) = x / 2 / 2 ^ m := by rw [hp]; exact (Int.ediv_ediv_of_nonneg (by decide)).symm
    have h3 := Int.ediv_le_self (2 ^ m) (show 0 ≤ x / 2 by omega)
    rw [h2]; omega
   ·have : x / 2 ^ (m + 1) < 0 := Int.ediv_neg_of_neg_of_pos (by omega) (pow_pos2 _)
    omega
end
section
open Go.RowKit
theorem goesUp_low (q l v m : Int) (_ : 0 ≤ l) (_ : 0 < v) (hm : m = 0 ∨ m = 1 ∨ m = 2) (h : goesUp m q l v = true) : v ≤ 2 * l := by
 rcases hm with rfl | rfl | rfl
 ·simp [goesUp] at h
 ·simp [goesUp] at h; omega
 ·simp only [goesUp, evenUp] at h
  rw [if_neg (by decide), if_neg (by decide)] at h
  split at h
  ·omega
  ·have := of_decide_eq_true h; omega
theorem goesUp_high (q l v m : Int) (hm : m = 1 ∨ m = 2) (h : goesUp m q l v = false) : 2 * l ≤ v := by
 rcases hm with rfl | rfl
 ·simp [goesUp] at h; omega
 ·simp only [goesUp, evenUp] at h
  rw [if_neg (by decide), if_neg (by decide)] at h
  split at h
  ·omega
  ·have := of_decide_eq_false h; omega
theorem goesUp_mono (q l k v m : Int) (hm : m = 0 ∨ m = 1 ∨ m = 2) (hk : l ≤ k) (h : goesUp m q l v = true) : goesUp m q k v = true := by
 rcases hm with rfl | rfl | rfl
 ·simp [goesUp] at h
 ·simp [goesUp] at h ⊢; omega
 ·simp only [goesUp, evenUp] at h ⊢
  rw [if_neg (by decide), if_neg (by decide)] at h ⊢
  split at h
  ·split
   ·exact h
   ·exact decide_eq_true (by omega)
  ·have := of_decide_eq_true h
   rw [if_neg (by omega)]
   exact decide_eq_true (by omega)
theorem split_of (x : Int) (n : Nat) : x = x / 2 ^ n * 2 ^ n + x % 2 ^ n := by
 have := Int.emod_add_mul_ediv x (2 ^ n)
 rw [Int.mul_comm] at this
 omega
theorem rnd_off (x : Int) (n : Nat) (m : Int) (hm : m = 0 ∨ m = 1 ∨ m = 2) :
 -(2 ^ n) < x - rnd x n m * 2 ^ n ∧ x - rnd x n m * 2 ^ n < 2 ^ n ∧ (m = 0 ∨ (2 * (x - rnd x n m * 2 ^ n) ≤ 2 ^ n ∧ -(2 ^ n) ≤ 2 * (x - rnd x n m * 2 ^ n))) := by
 have hp := pow_pos2 n
 have l0 := Int.emod_nonneg x (Int.ne_of_gt hp)
 have l1 := Int.emod_lt_of_pos x hp
 have e := split_of x n
 unfold rnd
 cases hu : goesUp m (x / 2 ^ n) (x % 2 ^ n) (2 ^ n)
 ·have hh : m = 0 ∨ 2 * (x % 2 ^ n) ≤ 2 ^ n := by
   rcases hm with h | h
   ·exact Or.inl h
   ·exact Or.inr (goesUp_high _ _ _ _ h hu)
  simp only [cond_false]
  generalize x / 2 ^ n * 2 ^ n = a at *
  generalize x % 2 ^ n = l at *
  generalize (2 : Int) ^ n = P at *
  omega
 ·have hh := goesUp_low _ _ _ _ l0 hp hm hu
  simp only [cond_true]
  rw [Int.add_mul, Int.one_mul]
  generalize x / 2 ^ n * 2 ^ n = a at *
  generalize x % 2 ^ n = l at *
  generalize (2 : Int) ^ n = P at *
  omega
theorem rnd_mono (x y : Int) (n : Nat) (m : Int) (hm : m = 0 ∨ m = 1 ∨ m = 2) (h : x ≤ y) : rnd x n m ≤ rnd y n m := by
 have hp := pow_pos2 n
 have hq := Int.ediv_le_ediv hp h
 have a1 : rnd x n m ≤ x / 2 ^ n + 1 := by unfold rnd; cases goesUp m (x / 2 ^ n) (x % 2 ^ n) (2 ^ n) <;> simp only [cond_true, cond_false] <;> omega
 have b0 : y / 2 ^ n ≤ rnd y n m := by unfold rnd; cases goesUp m (y / 2 ^ n) (y % 2 ^ n) (2 ^ n) <;> simp only [cond_true, cond_false] <;> omega
 by_cases e : x / 2 ^ n = y / 2 ^ n
 ·have ex := split_of x n
  have ey := split_of y n
  have hl : x % 2 ^ n ≤ y % 2 ^ n := by rw [e] at ex; omega
  unfold rnd
  rw [e]
  cases hu : goesUp m (y / 2 ^ n) (x % 2 ^ n) (2 ^ n)
  ·cases goesUp m (y / 2 ^ n) (y % 2 ^ n) (2 ^ n) <;> simp only [cond_true, cond_false] <;> omega
  ·rw [goesUp_mono _ _ _ _ _ hm hl hu]
   exact Int.le_refl _
 ·omega
theorem rnd_mul (x : Int) (n : Nat) (m : Int) (hm : m = 0 ∨ m = 1 ∨ m = 2) : rnd (x * 2 ^ n) n m = x := by
 have hp := pow_pos2 n
 have e1 : x * 2 ^ n / 2 ^ n = x := Int.mul_ediv_cancel _ (Int.ne_of_gt hp)
 have e2 : x * 2 ^ n % 2 ^ n = 0 := Int.mul_emod_left _ _
 unfold rnd
 rw [e1, e2]
 cases hu : goesUp m x 0 (2 ^ n)
 ·rfl
 ·have := goesUp_low _ _ _ _ (Int.le_refl 0) hp hm hu
  omega
end
section
set_option linter.unusedVariables false
set_option maxRecDepth 100000
structure Gi where
 re : Int
 im : Int
def Gi.conj (a : Gi) : Gi := ⟨a.re, -a.im⟩
def Gi.swap (a : Gi) : Gi := ⟨a.im, a.re⟩
def Gi.mul (a b : Gi) : Gi := ⟨a.re * b.re - a.im * b.im, a.re * b.im + a.im * b.re⟩
def Gi.turn (q : Int) (a : Gi) : Gi :=
 if q % 4 = 0 then a else if q % 4 = 1 then ⟨-a.im, a.re⟩ else if q % 4 = 2 then ⟨-a.re, -a.im⟩ else ⟨a.im, -a.re⟩
theorem Gi.ext2 {a b : Gi} (h1 : a.re = b.re) (h2 : a.im = b.im) : a = b := by cases a; cases b; simp_all
end
section
set_option linter.unusedVariables false
def fl : Nat → Nat → Nat
 | 0, _ => 0
 | r + 1, i => 2 * fl r i + i / 2 ^ r % 2
def rb (L : Nat) : Nat → Nat → Nat
 | 0, _ => 0
 | j + 1, i => rb L j i + (i / 2 ^ (L - 1 - j) % 2) * 2 ^ j
theorem fl_lt (r i : Nat) : fl r i < 2 ^ r := by
 induction r with
 | zero => exact Nat.one_pos
 | succ r ih => rw [fl, Nat.pow_succ]; omega
theorem rb_succ (L k i : Nat) : rb L (k + 1) i = rb L k i + (i / 2 ^ (L - 1 - k) % 2) * 2 ^ k := rfl
theorem rb_lt (L j i : Nat) : rb L j i < 2 ^ j := by
 induction j with
 | zero => exact Nat.one_pos
 | succ j ih =>
   rw [rb, Nat.pow_succ]
   rcases Nat.mod_two_eq_zero_or_one (i / 2 ^ (L - 1 - j)) with h | h <;> rw [h] <;> omega
theorem rb_fl_all : ∀ L : Fin 7, ∀ i : Fin 64, rb L.val L.val i.val = fl L.val i.val := by decide +kernel
theorem rb_fl (L i : Nat) (hL : L ≤ 6) (hi : i < 64) : rb L L i = fl L i := rb_fl_all ⟨L, by omega⟩ ⟨i, hi⟩
theorem fl_fl_all : ∀ L : Fin 7, ∀ i : Fin 64, i.val < 2 ^ L.val → fl L.val (fl L.val i.val) = i.val := by decide +kernel
theorem pow_le (L : Nat) (hL : L ≤ 6) : 2 ^ L ≤ 64 := Nat.pow_le_pow_right (n := 2) (by omega) hL
theorem fl_fl (L i : Nat) (hL : L ≤ 6) (hi : i < 2 ^ L) : fl L (fl L i) = i := fl_fl_all ⟨L, by omega⟩ ⟨i, by have := pow_le L hL; omega⟩ hi
theorem and1 (n : Int) : Go.bits .and .i64 n 1 = n % 2 := bits_mask n 1 (by omega)
theorem or1_all : ∀ f : Fin 64, ∀ b : Fin 2, Go.bits .or .i64 ((2 * f.val : Nat) : Int) ((b.val : Nat) : Int) = ((2 * f.val + b.val : Nat) : Int) := by decide +kernel
theorem or1 (f b : Nat) (hf : f < 64) (hb : b < 2) : Go.bits .or .i64 ((2 * f : Nat) : Int) ((b : Nat) : Int) = ((2 * f + b : Nat) : Int) := or1_all ⟨f, hf⟩ ⟨b, hb⟩
end
section
set_option linter.unusedVariables false
set_option maxRecDepth 100000
set_option maxHeartbeats 16000000
structure PlanV where
 fo : Int
 lo : Int
 ke : Int
 sc : Int
 mo : Int
 iv : Bool
def PlanV.same (p q : PlanV) : Bool := decide (p.fo = q.fo) && decide (p.lo = q.lo) && decide (p.ke = q.ke) && decide (p.sc = q.sc) && decide (p.mo = q.mo) && (p.iv == q.iv)
theorem PlanV.same_eq {p q : PlanV} : p.same q = true ↔ p = q := by
 obtain ⟨a, b, c, d, e, f⟩ := p
 obtain ⟨a', b', c', d', e', f'⟩ := q
 simp [PlanV.same, and_assoc]
instance : DecidableEq PlanV := fun p q => decidable_of_iff _ PlanV.same_eq
def fieldsOk (fo lo ke sc mo : Int) : Bool := decide (0 ≤ fo ∧ fo < 2) && (decide (2 ≤ lo ∧ lo < 7) && (decide (0 ≤ ke ∧ ke < 3) && (decide (0 ≤ sc ∧ sc < 3) && decide (0 ≤ mo ∧ mo < 3))))
def okF (fo lo ke sc mo : Int) : Bool := fieldsOk fo lo ke sc mo && !(decide (ke = 2) && !decide (sc = 0))
theorem fieldsOk_iff {fo lo ke sc mo : Int} : fieldsOk fo lo ke sc mo = true ↔ (0 ≤ fo ∧ fo < 2) ∧ (2 ≤ lo ∧ lo < 7) ∧ (0 ≤ ke ∧ ke < 3) ∧ (0 ≤ sc ∧ sc < 3) ∧ (0 ≤ mo ∧ mo < 3) := by
 simp [fieldsOk]
theorem okF_iff {fo lo ke sc mo : Int} : okF fo lo ke sc mo = true ↔ ((0 ≤ fo ∧ fo < 2) ∧ (2 ≤ lo ∧ lo < 7) ∧ (0 ≤ ke ∧ ke < 3) ∧ (0 ≤ sc ∧ sc < 3) ∧ (0 ≤ mo ∧ mo < 3)) ∧ (ke = 2 → sc = 0) := by
 unfold okF
 rw [Bool.and_eq_true, fieldsOk_iff]
 by_cases h : ke = 2 <;> by_cases k : sc = 0 <;> simp [h, k]
def passK (ke lo h : Int) : Int := if ke = 0 ∨ (lo.tmod 2 = 1 ∧ h = 1) then 2 else 4
def passG (ke lo n : Int) : Nat → Int → List Gi
 | 0, _ => []
 | f + 1, h => if h < n then ⟨passK ke lo h, h⟩ :: passG ke lo n f (h * passK ke lo h) else []
def passL (ke lo : Int) : List Gi := if ke = 2 then [] else passG ke lo (2 ^ lo.toNat) 7 1
theorem passK_two (ke lo h : Int) : 2 ≤ passK ke lo h ∧ passK ke lo h ≤ 4 := by
 unfold passK
 split <;> omega
def Rest (ke lo n h : Int) (l : List Gi) : Prop := ∃ f : Nat, n ≤ h * 2 ^ f ∧ l = passG ke lo n f h
theorem Rest.done {ke lo n h : Int} {l : List Gi} (H : Rest ke lo n h l) (hn : ¬ h < n) : l = [] := by
 obtain ⟨f, _, rfl⟩ := H
 cases f with
 | zero => rfl
 | succ f => simp [passG, hn]
theorem Rest.step {ke lo n h : Int} {l : List Gi} (H : Rest ke lo n h l) (h1 : 1 ≤ h) (hn : h < n) : ∃ l', l = ⟨passK ke lo h, h⟩ :: l' ∧ Rest ke lo n (h * passK ke lo h) l' := by
 obtain ⟨f, hf, rfl⟩ := H
 cases f with
 | zero => simp at hf; omega
 | succ f =>
   refine ⟨passG ke lo n f (h * passK ke lo h), by rw [passG, if_pos hn], f, ?_, rfl⟩;have k2 := (passK_two ke lo h).1
   have e : h * 2 ^ (f + 1) = h * 2 * 2 ^ f := by rw [Int.pow_succ, Int.mul_comm (2 ^ f) 2, Int.mul_assoc]
   rw [e] at hf
   have hm : h * 2 ≤ h * passK ke lo h := Int.mul_le_mul_of_nonneg_left k2 (by omega)
   exact Int.le_trans hf (Int.mul_le_mul_of_nonneg_right hm (Int.le_of_lt (Int.pow_pos (by decide))))
theorem passL_rest (ke lo n : Int) (hk : ¬ ke = 2) (h0 : 2 ≤ lo) (h1 : lo < 7) (hn : n = 2 ^ lo.toNat) : Rest ke lo n 1 (passL ke lo) := by
 refine ⟨7, ?_, by unfold passL; rw [if_neg hk, hn]⟩
 have : lo = 2 ∨ lo = 3 ∨ lo = 4 ∨ lo = 5 ∨ lo = 6 := by omega
 rcases this with rfl | rfl | rfl | rfl | rfl <;> rw [hn] <;> decide
theorem pow_log (lo n : Int) (h0 : 2 ≤ lo) (h1 : lo < 7) (hn : n = 2 ^ lo.toNat) : 4 ≤ n ∧ n ≤ 64 ∧ 2 ^ min lo.toNat 64 = n := by
 have : lo = 2 ∨ lo = 3 ∨ lo = 4 ∨ lo = 5 ∨ lo = 6 := by omega
 rcases this with rfl | rfl | rfl | rfl | rfl <;> rw [hn] <;> decide
end
end Go.Proofs.YtdignnmpfkgkoaaGreat
