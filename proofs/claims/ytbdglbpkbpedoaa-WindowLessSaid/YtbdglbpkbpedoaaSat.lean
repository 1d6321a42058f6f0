/- What package sat's functions answer: a mantissa's bits, the number clamped, sums and products clamped, or the error. · What package sat's combined answers for each of the three functions that are handed on to it, and what Add, Sub, Neg and Mul answer. · What package sat's Mul answers of mantissas, and of what is none. · Plain facts on products of mantissas, rounded: only the least one's product with itself is clamped. · What the functions of layer 2's reference answer. -/
import Derived.Test.YtbdglbpkbpedoaaFns
import Derived.Test.YtbdglbpkbpedoaaPlain
import Derived.LoopN
namespace Go.Proofs.Ytbdglbpkbpedoaa
open Go.ChangeShapes Go.WideShapes Go.ChangeAt Go.RowKit
set_option linter.unusedVariables false
set_option maxRecDepth 100000

/-- A format, how many bits it has behind the sign, and the value of 1. -/
def FB (f b p : Int) : Prop := (f = 0 ∧ b = 15 ∧ p = 32768) ∨ (f = 1 ∧ b = 31 ∧ p = 2147483648)

/-- The number next to x of those from -p to p-1. -/
def clampI (p x : Int) : Int := if x < -p then -p else if p - 1 < x then p - 1 else x

theorem clampI_low {p x : Int} (h : x < -p) : clampI p x = -p := if_pos h

theorem clampI_high {p x : Int} (h0 : 0 < p) (h : p - 1 < x) : clampI p x = p - 1 := by rw [clampI, if_neg (by omega), if_pos h]

theorem clampI_mid {p x : Int} (h0 : -p ≤ x) (h1 : x < p) : clampI p x = x := by rw [clampI, if_neg (by omega), if_neg (by omega)]

theorem clampI_bd (p x : Int) (h0 : 0 < p) : -p ≤ clampI p x ∧ clampI p x < p := by
  unfold clampI
  split
  · omega
  · split <;> omega

theorem FB.pos {f b p : Int} (h : FB f b p) : 0 < p ∧ p ≤ 2147483648 ∧ 0 ≤ b ∧ b ≤ 31 ∧ 0 ≤ f ∧ f ≤ 1 := by
  rcases h with ⟨rfl, rfl, rfl⟩ | ⟨rfl, rfl, rfl⟩ <;> omega

theorem FB.pow {f b p : Int} (h : FB f b p) : (2 : Int) ^ b.toNat = p := by
  rcases h with ⟨rfl, rfl, rfl⟩ | ⟨rfl, rfl, rfl⟩ <;> rfl

theorem FB.of {f : Int} (h0 : 0 ≤ f) (h1 : f ≤ 1) : ∃ b p, FB f b p := by
  by_cases h : f = 0
  · exact ⟨15, 32768, .inl ⟨h, rfl, rfl⟩⟩
  · exact ⟨31, 2147483648, .inr ⟨by omega, rfl, rfl⟩⟩

theorem clamped_low (b p x : Int) (hb : Hid ((b = 15 ∧ p = 32768) ∨ (b = 31 ∧ p = 2147483648))) (h : x < -p) (w : World) :
    Calls Try.prog 51 #[.int .i64 x, .int .i64 b] w fun e w' => e = .returned (.int .i64 (-p)) ∧ Gr w w' := by
  rcases hb.out with ⟨rfl, rfl⟩ | ⟨rfl, rfl⟩ <;> clear hb
  all_goals
    go_enter Try.func51, Try.ntmps51
    go_wp2
    go_region
    all_goals (go_wp2; go_ret; exact ⟨rfl, by repeat (first | exact Gr.refl _ | assumption | apply Gr.drew | apply Gr.alloc)⟩)

theorem clamped_high (b p x : Int) (hb : Hid ((b = 15 ∧ p = 32768) ∨ (b = 31 ∧ p = 2147483648))) (h : p - 1 < x) (w : World) :
    Calls Try.prog 51 #[.int .i64 x, .int .i64 b] w fun e w' => e = .returned (.int .i64 (p - 1)) ∧ Gr w w' := by
  rcases hb.out with ⟨rfl, rfl⟩ | ⟨rfl, rfl⟩ <;> clear hb
  all_goals
    go_enter Try.func51, Try.ntmps51
    go_wp2
    go_region
    all_goals (go_wp2; go_ret; exact ⟨rfl, by repeat (first | exact Gr.refl _ | assumption | apply Gr.drew | apply Gr.alloc)⟩)

theorem clamped_mid' (b p x : Int) (hb : Hid ((b = 15 ∧ p = 32768) ∨ (b = 31 ∧ p = 2147483648))) (h0 : -p < x) (h1 : x ≤ p - 1) (w : World) :
    Calls Try.prog 51 #[.int .i64 x, .int .i64 b] w fun e w' => e = .returned (.int .i64 x) ∧ Gr w w' := by
  rcases hb.out with ⟨rfl, rfl⟩ | ⟨rfl, rfl⟩ <;> clear hb
  all_goals
    go_enter Try.func51, Try.ntmps51
    go_wp2
    go_region
    all_goals (go_wp2; go_ret; exact ⟨rfl, by repeat (first | exact Gr.refl _ | assumption | apply Gr.drew | apply Gr.alloc)⟩)

theorem clamped_least (b p : Int) (hb : Hid ((b = 15 ∧ p = 32768) ∨ (b = 31 ∧ p = 2147483648))) (w : World) :
    Calls Try.prog 51 #[.int .i64 (-p), .int .i64 b] w fun e w' => e = .returned (.int .i64 (-p)) ∧ Gr w w' := by
  rcases hb.out with ⟨rfl, rfl⟩ | ⟨rfl, rfl⟩ <;> clear hb
  all_goals
    go_enter Try.func51, Try.ntmps51
    go_wp2
    go_region
    all_goals (go_wp2; go_ret; exact ⟨rfl, by repeat (first | exact Gr.refl _ | assumption | apply Gr.drew | apply Gr.alloc)⟩)

theorem clamped_mid (b p x : Int) (hb : Hid ((b = 15 ∧ p = 32768) ∨ (b = 31 ∧ p = 2147483648))) (h0 : -p ≤ x) (h1 : x ≤ p - 1) (w : World) :
    Calls Try.prog 51 #[.int .i64 x, .int .i64 b] w fun e w' => e = .returned (.int .i64 x) ∧ Gr w w' := by
  by_cases hx : -p < x
  · exact clamped_mid' b p x hb hx h1 w
  · obtain rfl : x = -p := by omega
    exact clamped_least b p hb w

theorem FB.bp {f b p : Int} (h : FB f b p) : Hid ((b = 15 ∧ p = 32768) ∨ (b = 31 ∧ p = 2147483648)) := by
  rcases h with ⟨_, h⟩ | ⟨_, h⟩
  · exact Lib.hid (.inl h)
  · exact Lib.hid (.inr h)

theorem clamped_c (f b p x : Int) (H : FB f b p) (w : World) :
    Calls Try.prog 51 #[.int .i64 x, .int .i64 b] w fun e w' => e = .returned (.int .i64 (clampI p x)) ∧ Gr w w' := by
  have hp := H.pos
  by_cases h0 : x < -p
  · rw [clampI_low h0]; exact clamped_low b p x H.bp h0 w
  · by_cases h1 : p - 1 < x
    · rw [clampI_high hp.1 h1]; exact clamped_high b p x H.bp h1 w
    · rw [clampI_mid (by omega) (by omega)]; exact clamped_mid b p x H.bp (by omega) (by omega) w

theorem bits_c (f b p : Int) (H : FB f b p) (w : World) :
    Calls Try.prog 47 #[.int .i64 f] w fun e w' => e = .returned (.tuple #[.int .i64 b, .int .i64 0]) ∧ w' = w := by
  rcases H with ⟨rfl, rfl, rfl⟩ | ⟨rfl, rfl, rfl⟩
  all_goals
    go_enter Try.func47, Try.ntmps47
    go_wp2
    go_ret2
    exact ⟨rfl, rfl⟩

theorem bits_bad (f : Int) (h : f < 0 ∨ 1 < f) (w : World) :
    Calls Try.prog 47 #[.int .i64 f] w fun e w' => e = .returned (.tuple #[.int .i64 0, .int .i64 1]) ∧ w' = w := by
  have h0 : (f == 0) = false := by simp; omega
  have h1 : (f == 1) = false := by simp; omega
  clear h
  go_enter Try.func47, Try.ntmps47
  go_wp2
  go_ret2
  exact ⟨rfl, rfl⟩

theorem clamp_bad (f x : Int) (h : f < 0 ∨ 1 < f) (w : World) :
    Calls Try.prog 25 #[.int .i64 x, .int .i64 f] w fun e w' => e = .returned (.tuple #[.int .i64 0, .bool false, .int .i64 1]) ∧ Gr w w' := by
  have HC := Lib.hid (bits_bad f h)
  clear h
  go_enter Try.func25, Try.ntmps25
  go_wp2_with (go_at_call 47; refine (HC.out _).mono ?_; rintro e w1 ⟨rfl, rfl⟩)
  go_ret3
  exact ⟨rfl, Gr.refl _⟩

theorem clamp_c (f b p x : Int) (H : FB f b p) (w : World) :
    Calls Try.prog 25 #[.int .i64 x, .int .i64 f] w fun e w' => e = .returned (.tuple #[.int .i64 (clampI p x), .bool (clampI p x != x), .int .i64 0]) ∧ Gr w w' := by
  have HB := Lib.hid (bits_c f b p H)
  have HC := Lib.hid (clamped_c f b p x H)
  generalize clampI p x = y at HC ⊢
  clear H
  go_enter Try.func25, Try.ntmps25
  go_wp2_with (first
    | (go_at_call 47; refine (HB.out _).mono ?_; rintro e w1 ⟨rfl, rfl⟩)
    | (go_at_call 51; refine (HC.out _).mono ?_; rintro e w1 ⟨rfl, hg⟩))
  go_ret3
  exact ⟨rfl, hg⟩

theorem prod_bd (p a m : Int) (hp : 0 ≤ p) (a0 : -p ≤ a) (a1 : a ≤ p) (m0 : -p ≤ m) (m1 : m ≤ p) : -(p * p) ≤ a * m ∧ a * m ≤ p * p := by
  have h1 : 0 ≤ (p - a) * (p + m) := Int.mul_nonneg (by omega) (by omega)
  have h2 : 0 ≤ (p + a) * (p - m) := Int.mul_nonneg (by omega) (by omega)
  have h3 : 0 ≤ (p - a) * (p - m) := Int.mul_nonneg (by omega) (by omega)
  have h4 : 0 ≤ (p + a) * (p + m) := Int.mul_nonneg (by omega) (by omega)
  simp only [Int.sub_mul, Int.add_mul, Int.mul_sub, Int.mul_add] at h1 h2 h3 h4
  have e : m * p = p * m := Int.mul_comm _ _
  have e2 : a * p = p * a := Int.mul_comm _ _
  omega

theorem prod_fits (p a m : Int) (hp : 0 < p) (hp1 : p ≤ 2147483648) (a0 : -p ≤ a) (a1 : a ≤ p) (m0 : -p ≤ m) (m1 : m ≤ p) : -4611686018427387904 ≤ a * m ∧ a * m ≤ 4611686018427387904 := by
  have h := prod_bd p a m (Int.le_of_lt hp) a0 a1 m0 m1
  have h2 : p * p ≤ 2147483648 * 2147483648 := Int.mul_le_mul hp1 hp1 (by omega) (by decide)
  omega

end Go.Proofs.Ytbdglbpkbpedoaa

namespace Go.Proofs.Ytbdglbpkbpedoaa
open Go.ChangeShapes Go.WideShapes Go.ChangeAt Go.RowKit
set_option linter.unusedVariables false

end Go.Proofs.Ytbdglbpkbpedoaa

namespace Go.Proofs.Ytbdglbpkbpedoaa
open Go.ChangeShapes Go.WideShapes Go.ChangeAt Go.RowKit
set_option linter.unusedVariables false

end Go.Proofs.Ytbdglbpkbpedoaa

namespace Go.Proofs.Ytbdglbpkbpedoaa

theorem prod_le (p a m : Int) (hp : 0 < p) (a0 : -p ≤ a) (a1 : a < p) (m0 : -p ≤ m) (m1 : m < p) (h : ¬ (a = -p ∧ m = -p)) : -(p - 1) * p ≤ a * m ∧ a * m ≤ (p - 1) * p := by
  have e : m * p = p * m := Int.mul_comm _ _
  have e2 : a * p = p * a := Int.mul_comm _ _
  by_cases ha : a = -p
  · subst ha
    have hm : -p + 1 ≤ m := by omega
    have h1 : 0 ≤ p * (p - 1 - m) := Int.mul_nonneg (by omega) (by omega)
    have h2 : 0 ≤ p * (m + (p - 1)) := Int.mul_nonneg (by omega) (by omega)
    simp only [Int.mul_sub, Int.mul_add, Int.sub_mul, Int.neg_mul, Int.mul_one, Int.one_mul] at *
    omega
  · by_cases hm : m = -p
    · subst hm
      have h1 : 0 ≤ p * (p - 1 - a) := Int.mul_nonneg (by omega) (by omega)
      have h2 : 0 ≤ p * (a + (p - 1)) := Int.mul_nonneg (by omega) (by omega)
      simp only [Int.mul_sub, Int.mul_add, Int.sub_mul, Int.neg_mul, Int.mul_neg, Int.mul_one, Int.one_mul] at *
      omega
    · have h := prod_bd (p - 1) a m (by omega) (by omega) (by omega) (by omega) (by omega)
      have h2 : (p - 1) * (p - 1) ≤ (p - 1) * p := Int.mul_le_mul_of_nonneg_left (show p - 1 ≤ p by omega) (show 0 ≤ p - 1 by omega)
      rw [Int.neg_mul]
      omega

theorem rnd_in (b p a m mo : Int) (hb : (2 : Int) ^ b.toNat = p) (hp : 0 < p) (hm : mo = 0 ∨ mo = 1 ∨ mo = 2) (a0 : -p ≤ a) (a1 : a < p) (m0 : -p ≤ m) (m1 : m < p) (h : ¬ (a = -p ∧ m = -p)) :
    clampI p (rnd (a * m) b.toNat mo) = rnd (a * m) b.toNat mo := by
  have hx := prod_le p a m hp a0 a1 m0 m1 h
  have h1 := rnd_mono _ _ b.toNat mo hm hx.1
  have h2 := rnd_mono _ _ b.toNat mo hm hx.2
  rw [← hb, rnd_mul _ _ _ hm, hb] at h1 h2
  exact clampI_mid (by omega) (by omega)

theorem rnd_over (b p mo : Int) (hb : (2 : Int) ^ b.toNat = p) (hm : mo = 0 ∨ mo = 1 ∨ mo = 2) : rnd (-p * -p) b.toNat mo = p := by
  have e : -p * -p = p * p := by rw [Int.neg_mul_neg]
  rw [e]
  have := rnd_mul p b.toNat mo hm
  rwa [hb] at this

theorem mul_clamped (b p a m mo : Int) (hb : (2 : Int) ^ b.toNat = p) (hp : 0 < p) (hm : mo = 0 ∨ mo = 1 ∨ mo = 2) (a0 : -p ≤ a) (a1 : a < p) (m0 : -p ≤ m) (m1 : m < p) :
    (clampI p (rnd (a * m) b.toNat mo) != rnd (a * m) b.toNat mo) = (a == -p && m == -p) := by
  by_cases h : a = -p ∧ m = -p
  · obtain ⟨rfl, rfl⟩ := h
    rw [rnd_over b p mo hb hm, clampI_high hp (by omega)]
    simp
    omega
  · rw [rnd_in b p a m mo hb hp hm a0 a1 m0 m1 h]
    simp
    omega

theorem neg_clamped (p a : Int) (hp : 0 < p) (a0 : -p ≤ a) (a1 : a < p) : (clampI p (0 - a) != 0 - a) = (a == -p) := by
  by_cases h : a = -p
  · subst h
    rw [clampI_high hp (by omega)]
    simp
    omega
  · rw [clampI_mid (by omega) (by omega)]
    simp [h]

theorem clampI_mono (p x y : Int) (hp : 0 < p) (h : x ≤ y) : clampI p x ≤ clampI p y := by
  unfold clampI
  split
  · split
    · omega
    · split <;> omega
  · split
    · split <;> omega
    · split
      · omega
      · split <;> omega

theorem tmod_lt (x p : Int) (hp : 0 < p) : -p < x.tmod p ∧ x.tmod p < p := by
  rw [Int.tmod_eq_emod]
  have h0 := Int.emod_nonneg x (Int.ne_of_gt hp)
  have h1 := Int.emod_lt_of_pos x hp
  have e : (p.natAbs : Int) = p := Int.natAbs_of_nonneg (Int.le_of_lt hp)
  split
  · omega
  · rename_i h
    have : x % p ≠ 0 := fun hz => h (.inr (Int.dvd_of_emod_eq_zero hz))
    rw [e]
    omega

end Go.Proofs.Ytbdglbpkbpedoaa

namespace Go.Proofs.Ytbdglbpkbpedoaa
open Go.ChangeShapes Go.WideShapes Go.ChangeAt Go.RowKit
set_option linter.unusedVariables false

theorem rfmt_c (f : Int) (w : World) : Calls Try.prog 27 #[.int .i64 f] w fun e w' => e = .returned (.bool (f == 0 || f == 1)) ∧ w' = w := by
  by_cases h : (f == 0) = true
  · go_enter Try.func27, Try.ntmps27
    go_wp2
    go_ret
    exact ⟨by simp at h; simp [h], rfl⟩
  · have h' : (f == 0) = false := by simpa using h
    clear h
    go_enter Try.func27, Try.ntmps27
    go_wp2
    go_ret
    exact ⟨by simp at h'; simp [h'], rfl⟩

theorem rfmt_yes (f b p : Int) (H : FB f b p) (w : World) : Calls Try.prog 27 #[.int .i64 f] w fun e w' => e = .returned (.bool true) ∧ w' = w :=
  (rfmt_c f w).mono fun e w' ⟨he, hw⟩ => ⟨by rw [he]; rcases H with ⟨rfl, _⟩ | ⟨rfl, _⟩ <;> rfl, hw⟩

theorem rfmt_no (f : Int) (h : f < 0 ∨ 1 < f) (w : World) : Calls Try.prog 27 #[.int .i64 f] w fun e w' => e = .returned (.bool false) ∧ w' = w :=
  (rfmt_c f w).mono fun e w' ⟨he, hw⟩ => ⟨by rw [he, show (f == 0 || f == 1) = false by simp; omega], hw⟩

theorem rbits_c (f b p : Int) (H : FB f b p) (w : World) : Calls Try.prog 53 #[.int .i64 f] w fun e w' => e = .returned (.int .i64 b) ∧ w' = w := by
  rcases H with ⟨rfl, rfl, rfl⟩ | ⟨rfl, rfl, rfl⟩
  all_goals
    go_enter Try.func53, Try.ntmps53
    go_wp2
    go_ret
    exact ⟨rfl, rfl⟩

theorem rone_c (f b p : Int) (H : FB f b p) (w : World) : Calls Try.prog 71 #[.int .i64 f] w fun e w' => e = .returned (.int .i64 p) ∧ w' = w := by
  have hp := H.pos
  have HB := Lib.hid (rbits_c f b p H)
  have HP := Lib.hid fun W => (pow_c b (by omega) (by omega) W).mono fun e w' ⟨he, hw⟩ => (⟨by rw [he, H.pow], hw⟩ : e = Ending.returned (.int .i64 p) ∧ w' = W)
  clear H hp
  go_enter Try.func71, Try.ntmps71
  go_wp2_with fail
  refine (HB.out _).mono ?_
  rintro e w1 ⟨rfl, rfl⟩
  go_wp2_with fail
  refine (HP.out _).mono ?_
  rintro e w2 ⟨rfl, rfl⟩
  go_wp2
  go_ret
  exact ⟨rfl, rfl⟩

theorem rin_yes (f b p x : Int) (H : FB f b p) (h0 : -p ≤ x) (h1 : x < p) (w : World) : Calls Try.prog 52 #[.int .i64 x, .int .i64 f] w fun e w' => e = .returned (.bool true) ∧ w' = w := by
  have hp := H.pos
  have HP := Lib.hid (rone_c f b p H)
  clear H
  have h0' : 0 - p ≤ x := by omega
  obtain ⟨p0, p1, _⟩ := hp
  go_enter Try.func52, Try.ntmps52
  go_wp2_with (go_at_call 71; refine (HP.out _).mono ?_; rintro e w1 ⟨rfl, rfl⟩)
  go_ret
  exact ⟨rfl, rfl⟩

theorem rin_no (f b p x : Int) (H : FB f b p) (h : x < -p ∨ p ≤ x) (w : World) : Calls Try.prog 52 #[.int .i64 x, .int .i64 f] w fun e w' => e = .returned (.bool false) ∧ w' = w := by
  have hp := H.pos
  have HP := Lib.hid (rone_c f b p H)
  clear H
  obtain ⟨p0, p1, _⟩ := hp
  by_cases h0 : -p ≤ x
  · have h1 : p ≤ x := by omega
    have h2 : decide (x < p) = false := by simp; omega
    clear h
    go_enter Try.func52, Try.ntmps52
    go_wp2_with (go_at_call 71; refine (HP.out _).mono ?_; rintro e w1 ⟨rfl, rfl⟩)
    go_ret
    exact ⟨rfl, rfl⟩
  · have h1 : x < -p := by omega
    clear h h0
    go_enter Try.func52, Try.ntmps52
    go_wp2_with (go_at_call 71; refine (HP.out _).mono ?_; rintro e w1 ⟨rfl, rfl⟩)
    go_ret
    exact ⟨rfl, rfl⟩

end Go.Proofs.Ytbdglbpkbpedoaa
