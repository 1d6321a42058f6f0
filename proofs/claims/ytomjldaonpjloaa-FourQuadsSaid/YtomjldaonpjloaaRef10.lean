/- What reference 10's functions on settings, roots and halves answer. · What reference 10's Up and Down answer. · Reference 10's pairs and roots, in numbers. · Why a pass of kernel 2 or 4 may not be: what reference 10's May answers. -/
import Derived.Test.YtomjldaonpjloaaTwoMath
import Derived.Test.YtomjldaonpjloaaRef09
import Derived.Test.YtomjldaonpjloaaCxs
import Derived.Test.YtomjldaonpjloaaFlip
import Derived.Deep.Cut
import Derived.Deep.CutRange
namespace Go.Proofs.Ytomjldaonpjloaa
open Go.ChangeShapes Go.WideShapes Go.ChangeAt Go.RowKit
set_option linter.unusedVariables false
set_option maxRecDepth 100000

/-- May bits, a shift and a mode be? -/
def SetsOk (b s mo : Int) : Prop := (0 ≤ b ∧ b ≤ 29) ∧ (0 ≤ s ∧ s ≤ 3) ∧ 0 ≤ mo ∧ mo ≤ 2

theorem settings10_yes (b s mo : Int) (h : SetsOk b s mo) (w : World) :
    Calls Try.prog 18 #[.int .i64 b, .int .i64 s, .int .i64 mo] w fun e w' => e = .returned (.bool true) ∧ w' = w := by
  obtain ⟨⟨h1, h2⟩, ⟨h3, h4⟩, h5, h6⟩ := h
  go_enter Try.func18, Try.ntmps18
  go_wp2_with fail
  go_ret
  exact ⟨by simp <;> omega, rfl⟩

theorem settings10_no (b s mo : Int) (h : ¬ SetsOk b s mo) (w : World) :
    Calls Try.prog 18 #[.int .i64 b, .int .i64 s, .int .i64 mo] w fun e w' => e = .returned (.bool false) ∧ w' = w := by
  unfold SetsOk at h
  have hc : b < 0 ∨ (0 ≤ b ∧ 29 < b) ∨ (0 ≤ b ∧ b ≤ 29 ∧ s < 0) ∨ (0 ≤ b ∧ b ≤ 29 ∧ 0 ≤ s ∧ 3 < s) ∨ (0 ≤ b ∧ b ≤ 29 ∧ 0 ≤ s ∧ s ≤ 3 ∧ mo < 0) ∨ (0 ≤ b ∧ b ≤ 29 ∧ 0 ≤ s ∧ s ≤ 3 ∧ 0 ≤ mo ∧ 2 < mo) := by omega
  clear h
  rcases hc with h1 | ⟨h1, h2⟩ | ⟨h1, h2, h3⟩ | ⟨h1, h2, h3, h4⟩ | ⟨h1, h2, h3, h4, h5⟩ | ⟨h1, h2, h3, h4, h5, h6⟩
  all_goals
    go_enter Try.func18, Try.ntmps18
    go_wp2_with fail
    go_ret
    exact ⟨by simp <;> omega, rfl⟩

theorem pow08_c' (k : Nat) (p : Int) (h : (2 : Int) ^ k = p) (h1 : k ≤ 62) (w : World) :
    Calls Try.prog 21 #[.int .i64 (k : Int)] w fun e w' => e = .returned (.int .i64 p) ∧ w' = w := by
  have := pow_c (k : Int) (by omega) (by omega) w
  rwa [Int.toNat_natCast, h] at this

theorem scale10_c (x y : Int) (bits : Nat) (P r0 r1 : Int) (hb : bits ≤ 29) (hP : (2 : Int) ^ bits = P) (h0 : wrap64 (x * P) = r0) (h1 : wrap64 (y * P) = r1) (w : World) :
    Calls Try.prog 35 #[.agg #[.int .i64 x, .int .i64 y], .int .i64 bits] w fun e w' => e = .returned (.agg #[.int .i64 r0, .int .i64 r1]) ∧ Gr w w' := by
  have HP := Lib.hid (pow08_c' bits P hP (by omega))
  clear hP hb
  go_enter Try.func35, Try.ntmps35
  go_wp2_with (go_at_call 21; refine (HP.out _).mono ?_; rintro e wz ⟨rfl, rfl⟩)
  refine bodyPost_ret (v := .agg #[.int .i64 r0, .int .i64 r1]) ?_ rfl ⟨rfl, ?_⟩
  · simp [results, Try.results35, go_sem]
  · exact by repeat (first | exact Gr.refl _ | assumption | apply Gr.drew | apply Gr.alloc | (refine Gr.setCell ?_ (by first | (simp; done) | (simp; omega)) _))

/-- Which halves may be. -/
def HalfOk (h : Int) (n : Nat) : Prop := ∃ k : Nat, 2 ^ k < n ∧ h = ((2 ^ k : Nat) : Int)

end Go.Proofs.Ytomjldaonpjloaa

namespace Go.Proofs.Ytomjldaonpjloaa
open Go.ChangeShapes Go.WideShapes Go.ChangeAt Go.RowKit
set_option linter.unusedVariables false

end Go.Proofs.Ytomjldaonpjloaa

namespace Go.Proofs.Ytomjldaonpjloaa
open Go.ChangeShapes Go.WideShapes Go.ChangeAt Go.RowKit
set_option linter.unusedVariables false

/-- The numbers of a pair: nothing runs over. -/
theorem pair_nums (a b w : Gi) (bits : Nat) (hb : bits ≤ 29) (ha : absI a.re ≤ 2147483648 ∧ absI a.im ≤ 2147483648) (hbb : absI b.re ≤ 2147483648 ∧ absI b.im ≤ 2147483648) (hw : absI w.re ≤ 2 ^ bits ∧ absI w.im ≤ 2 ^ bits) :
    (∀ x y : Int, (x = b.re ∨ x = b.im) → (y = w.re ∨ y = w.im) → -1152921504606846976 ≤ x * y ∧ x * y ≤ 1152921504606846976) ∧
    (-1152921504606846976 ≤ a.re * 2 ^ bits ∧ a.re * 2 ^ bits ≤ 1152921504606846976) ∧ (-1152921504606846976 ≤ a.im * 2 ^ bits ∧ a.im * 2 ^ bits ≤ 1152921504606846976) ∧ (2 : Int) ^ bits ≤ 536870912 ∧ 0 < (2 : Int) ^ bits := by
  have hp := pow_pos2 bits
  have hp2 : (2 : Int) ^ bits ≤ 536870912 := by
    have h1 : (2 : Nat) ^ bits ≤ 2 ^ 29 := Nat.pow_le_pow_right (by decide) hb
    have h2 : ((2 ^ bits : Nat) : Int) ≤ ((2 ^ 29 : Nat) : Int) := Int.ofNat_le.2 h1
    rw [Int.natCast_pow] at h2
    simpa using h2
  have hq : (2147483648 : Int) * 2 ^ bits ≤ 1152921504606846976 := by omega
  have a1 := absI_le.1 ha.1
  have a2 := absI_le.1 ha.2
  have b1 := absI_le.1 hbb.1
  have b2 := absI_le.1 hbb.2
  have w1 := absI_le.1 hw.1
  have w2 := absI_le.1 hw.2
  have m1 := mulG_bd a.re (2 ^ bits) 2147483648 (2 ^ bits) (by omega) a1 (by omega)
  have m2 := mulG_bd a.im (2 ^ bits) 2147483648 (2 ^ bits) (by omega) a2 (by omega)
  refine ⟨fun x y hx hy => ?_, by omega, by omega, hp2, hp⟩
  have hx2 : -2147483648 ≤ x ∧ x ≤ 2147483648 := by rcases hx with rfl | rfl <;> assumption
  have hy2 : -(2 ^ bits) ≤ y ∧ y ≤ 2 ^ bits := by rcases hy with rfl | rfl <;> assumption
  have m3 := mulG_bd x y 2147483648 (2 ^ bits) (by omega) hx2 hy2
  generalize x * y = t at *
  omega

end Go.Proofs.Ytomjldaonpjloaa

namespace Go.Proofs.Ytomjldaonpjloaa
open Go.ChangeShapes Go.WideShapes Go.ChangeAt Go.RowKit
set_option linter.unusedVariables false

/-- Why a pass of n numbers, m roots, may not be: e; 0: it may. part: its halves or quarters may be; inx, inw: no part is too great. -/
def WhyIs (n m : Nat) (part : Bool) (b s mo : Int) (inx inw : Bool) (e : Int) : Prop :=
  ((¬ ∃ L, IsLog (n : Int) L) ∧ e = 3) ∨
  ((∃ L, IsLog (n : Int) L) ∧ m ≠ n ∧ e = 5) ∨
  ((∃ L, IsLog (n : Int) L) ∧ m = n ∧ (part = false ∨ ¬ SetsOk b s mo) ∧ e = 1) ∨
  ((∃ L, IsLog (n : Int) L) ∧ m = n ∧ part = true ∧ SetsOk b s mo ∧ (inx && inw) = false ∧ e = 2) ∨
  ((∃ L, IsLog (n : Int) L) ∧ m = n ∧ part = true ∧ SetsOk b s mo ∧ inx = true ∧ inw = true ∧ e = 0)

theorem whyIs_ex (n m : Nat) (part : Bool) (b s mo : Int) (inx inw : Bool) : ∃ e, WhyIs n m part b s mo inx inw e := by
  unfold WhyIs
  by_cases h1 : ∃ L, IsLog (n : Int) L
  · by_cases h2 : m = n
    · by_cases h3 : part = true ∧ SetsOk b s mo
      · by_cases h4 : (inx && inw) = true
        · rw [Bool.and_eq_true] at h4
          exact ⟨0, .inr (.inr (.inr (.inr ⟨h1, h2, h3.1, h3.2, h4.1, h4.2, rfl⟩)))⟩
        · exact ⟨2, .inr (.inr (.inr (.inl ⟨h1, h2, h3.1, h3.2, by simpa using h4, rfl⟩)))⟩
      · refine ⟨1, .inr (.inr (.inl ⟨h1, h2, ?_, rfl⟩))⟩
        cases part
        · exact .inl rfl
        · exact .inr fun h => h3 ⟨rfl, h⟩
    · exact ⟨5, .inr (.inl ⟨h1, h2, rfl⟩)⟩
  · exact ⟨3, .inl ⟨h1, rfl⟩⟩

end Go.Proofs.Ytomjldaonpjloaa
