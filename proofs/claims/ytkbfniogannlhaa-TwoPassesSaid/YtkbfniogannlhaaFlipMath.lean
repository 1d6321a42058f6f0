/- Places told from behind, in plain numbers. -/
import Derived.Test.YtkbfniogannlhaaMath
import Derived.WalkKit
import Derived.Laws.Bits64b

namespace Go.Proofs.Ytkbfniogannlhaa
set_option linter.unusedVariables false

/-- The first r bits of i, told from behind. -/
def fl : Nat → Nat → Nat
  | 0, _ => 0
  | r + 1, i => 2 * fl r i + i / 2 ^ r % 2

/-- The sum by definition: the first j terms of it, of L bits. -/
def rb (L : Nat) : Nat → Nat → Nat
  | 0, _ => 0
  | j + 1, i => rb L j i + (i / 2 ^ (L - 1 - j) % 2) * 2 ^ j

theorem fl_lt (r i : Nat) : fl r i < 2 ^ r := by
  induction r with
  | zero => exact Nat.one_pos
  | succ r ih => rw [fl, Nat.pow_succ]; omega

theorem rb_succ (L k i : Nat) : rb L (k + 1) i = rb L k i + (i / 2 ^ (L - 1 - k) % 2) * 2 ^ k := rfl

theorem rb_lt (L j i : Nat) : rb L j i < 2 ^ j := by
  induction j with
  | zero => exact Nat.one_pos
  | succ j ih =>
    rw [rb, Nat.pow_succ]
    rcases Nat.mod_two_eq_zero_or_one (i / 2 ^ (L - 1 - j)) with h | h <;> rw [h] <;> omega

theorem rb_fl_all : ∀ L : Fin 7, ∀ i : Fin 64, rb L.val L.val i.val = fl L.val i.val := by decide +kernel
theorem rb_fl (L i : Nat) (hL : L ≤ 6) (hi : i < 64) : rb L L i = fl L i := rb_fl_all ⟨L, by omega⟩ ⟨i, hi⟩

theorem fl_fl_all : ∀ L : Fin 7, ∀ i : Fin 64, i.val < 2 ^ L.val → fl L.val (fl L.val i.val) = i.val := by decide +kernel
theorem pow_le (L : Nat) (hL : L ≤ 6) : 2 ^ L ≤ 64 := Nat.pow_le_pow_right (n := 2) (by omega) hL
theorem fl_fl (L i : Nat) (hL : L ≤ 6) (hi : i < 2 ^ L) : fl L (fl L i) = i := fl_fl_all ⟨L, by omega⟩ ⟨i, by have := pow_le L hL; omega⟩ hi

theorem fl_half_all : ∀ L : Fin 6, ∀ i : Fin 32, i.val < 2 ^ L.val → fl (L.val + 1) i.val = 2 * fl L.val i.val := by decide +kernel
/-- The first half of the places flipped, halved, are those of half the length. -/
theorem fl_half (L i : Nat) (hL : L ≤ 5) (hi : i < 2 ^ L) : fl (L + 1) i = 2 * fl L i := fl_half_all ⟨L, by omega⟩ ⟨i, by have := Nat.pow_le_pow_right (n := 2) (by omega) hL; omega⟩ hi

theorem and1 (n : Int) : Go.bits .and .i64 n 1 = n % 2 := bits_mask n 1 (by omega)
theorem or1_all : ∀ f : Fin 64, ∀ b : Fin 2, Go.bits .or .i64 ((2 * f.val : Nat) : Int) ((b.val : Nat) : Int) = ((2 * f.val + b.val : Nat) : Int) := by decide +kernel
theorem or1 (f b : Nat) (hf : f < 64) (hb : b < 2) : Go.bits .or .i64 ((2 * f : Nat) : Int) ((b : Nat) : Int) = ((2 * f + b : Nat) : Int) := or1_all ⟨f, hf⟩ ⟨b, hb⟩

/-- Which places of 2^L are among the first j flipped: as bits of one number. -/
def seen (L : Nat) : Nat → Nat
  | 0 => 0
  | j + 1 => seen L j ||| 1 <<< fl L j

theorem seen_lt_all : ∀ L : Fin 7, ∀ j : Fin 65, j.val ≤ 2 ^ L.val → seen L.val j.val < 18446744073709551616 := by decide +kernel
theorem seen_lt (L j : Nat) (hL : L ≤ 6) (hj : j ≤ 2 ^ L) : seen L j < 18446744073709551616 := seen_lt_all ⟨L, by omega⟩ ⟨j, by have := pow_le L hL; omega⟩ hj
theorem seen_new_all : ∀ L : Fin 7, ∀ j : Fin 64, j.val < 2 ^ L.val → seen L.val j.val / 2 ^ fl L.val j.val % 2 = 0 := by decide +kernel
theorem seen_new (L j : Nat) (hL : L ≤ 6) (hj : j < 2 ^ L) : seen L j / 2 ^ fl L j % 2 = 0 := seen_new_all ⟨L, by omega⟩ ⟨j, by have := pow_le L hL; omega⟩ hj

theorem seen_and (s f : Nat) (hs : s < 18446744073709551616) (hn : s / 2 ^ f % 2 = 0) : Go.bits .and .u64 ((s : Int) / 2 ^ f) 1 = 0 := by
  have h1 : s / 2 ^ f ≤ s := Nat.div_le_self _ _
  rw [show (s : Int) / 2 ^ f = ((s / 2 ^ f : Nat) : Int) by simp, show (1 : Int) = ((1 : Nat) : Int) from rfl, Go.bits_and_u64_nat _ 1 (by omega) (by omega), Nat.and_one_is_mod, hn]
  rfl

theorem seen_or (s f : Nat) (hs : s < 18446744073709551616) (hf : f < 64) : Go.bits .or .u64 (s : Int) (IntKind.u64.wrap (2 ^ f)) = ((s ||| 1 <<< f : Nat) : Int) := by
  have h1 : 2 ^ f ≤ 2 ^ 63 := Nat.pow_le_pow_right (by omega) (by omega)
  rw [Nat.one_shiftLeft, show (2 : Int) ^ f = ((2 ^ f : Nat) : Int) by simp]
  generalize 2 ^ f = p at *
  rw [show IntKind.u64.wrap (p : Int) = (p : Int) by rw [IntKind.wrap_u64]; omega, Go.bits_or_u64_nat _ _ hs (by omega)]

end Go.Proofs.Ytkbfniogannlhaa
