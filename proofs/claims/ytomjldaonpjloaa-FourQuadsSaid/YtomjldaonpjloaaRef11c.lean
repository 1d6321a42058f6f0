/- What reference 11's Quarter and Pass answer. -/
import Derived.Test.YtomjldaonpjloaaRef11b
import Derived.Test.YtomjldaonpjloaaFourCode1
namespace Go.Proofs.Ytomjldaonpjloaa
open Go.ChangeShapes Go.WideShapes Go.ChangeAt Go.RowKit
set_option linter.unusedVariables false
set_option maxRecDepth 100000
set_option linter.unusedSimpArgs false

theorem quarter_half (h : Int) (n : Nat) : QuarterOk h n ↔ HalfOk h n ∧ 4 * h ≤ n := by
  constructor
  · rintro ⟨k, hk, rfl⟩
    exact ⟨⟨k, by have := Nat.one_le_two_pow (n := k); omega, rfl⟩, by omega⟩
  · rintro ⟨⟨k, hk, rfl⟩, h4⟩
    exact ⟨k, by omega, rfl⟩

/-- Products, in whole complex numbers. -/
theorem prods11_c (a b c d u v x : Gi) (bits : Nat) (hb : bits ≤ 29) (ha : Bd 2147483648 a) (hbb : Bd 2147483648 b) (hc : Bd 2147483648 c) (hd : Bd 2147483648 d) (hu : Bd (2 ^ bits) u) (hv : Bd (2 ^ bits) v) (hx : Bd (2 ^ bits) x) (w : World) :
    Calls Try.prog 22 #[.agg #[.int .i64 (a).re, .int .i64 (a).im], .agg #[.int .i64 (b).re, .int .i64 (b).im], .agg #[.int .i64 (c).re, .int .i64 (c).im], .agg #[.int .i64 (d).re, .int .i64 (d).im], .agg #[.int .i64 (u).re, .int .i64 (u).im], .agg #[.int .i64 (v).re, .int .i64 (v).im], .agg #[.int .i64 (x).re, .int .i64 (x).im], .int .i64 bits] w fun e w' => e = .returned (.agg #[.int .i64 (gscale bits a).re, .int .i64 (gscale bits a).im, .int .i64 (gmul b u).re, .int .i64 (gmul b u).im, .int .i64 (gmul c v).re, .int .i64 (gmul c v).im, .int .i64 (gmul d x).re, .int .i64 (gmul d x).im]) ∧ Gr w w' := by
  have l : ∀ y, Bd (2 ^ bits) y → absI y.re ≤ 1073741824 ∧ absI y.im ≤ 1073741824 := by
    intro y hy
    have h1 : (2 : Nat) ^ bits ≤ 2 ^ 29 := Nat.pow_le_pow_right (by decide) hb
    have h2 : ((2 ^ bits : Nat) : Int) ≤ ((2 ^ 29 : Nat) : Int) := Int.ofNat_le.2 h1
    rw [Int.natCast_pow] at h2
    simp at h2
    exact hy.mono (by omega)
  have hs := (ha.scale bits).le
  have h1 : (2 : Nat) ^ bits ≤ 2 ^ 29 := Nat.pow_le_pow_right (by decide) hb
  have h2 : ((2 ^ bits : Nat) : Int) ≤ ((2 ^ 29 : Nat) : Int) := Int.ofNat_le.2 h1
  rw [Int.natCast_pow] at h2
  simp at h2
  have hs' : (-1152921504606846976 ≤ a.re * 2 ^ bits ∧ a.re * 2 ^ bits ≤ 1152921504606846976) ∧ -1152921504606846976 ≤ a.im * 2 ^ bits ∧ a.im * 2 ^ bits ≤ 1152921504606846976 := by
    unfold gscale at hs
    simp only at hs
    omega
  exact prods11_of a b c d u v x (gscale bits a) (gmul b u) (gmul c v) (gmul d x) bits
    (Lib.hid (scale10_c a.re a.im bits _ _ _ hb rfl (IntWalk.wrap64_in _ (by omega)) (IntWalk.wrap64_in _ (by omega))))
    (Lib.hid (rtimes_gi b u hbb (l u hu))) (Lib.hid (rtimes_gi c v hc (l v hv))) (Lib.hid (rtimes_gi d x hd (l x hx))) w

/-- Number q of a quad, by reference 11. -/
theorem out11_c (t0 t1 t2 t3 : Gi) (q bits s : Nat) (mo : Int) (inv : Bool) (hq : q < 4) (hb : bits ≤ 29) (hs : s ≤ 3) (m0 : 0 ≤ mo) (m1 : mo ≤ 2) (h0 : Bd 1152921504606846976 t0) (h1 : Bd 2305843009213693952 t1) (h2 : Bd 2305843009213693952 t2) (h3 : Bd 2305843009213693952 t3) (w : World) :
    Calls Try.prog 23 #[.agg #[.int .i64 (t0).re, .int .i64 (t0).im, .int .i64 (t1).re, .int .i64 (t1).im, .int .i64 (t2).re, .int .i64 (t2).im, .int .i64 (t3).re, .int .i64 (t3).im], .int .i64 (q : Int), .int .i64 bits, .int .i64 s, .int .i64 mo, .bool inv] w fun e w' => e = .returned (.agg #[.int .i64 (grnd (bits + s) mo (quadSum inv q t0 t1 t2 t3)).re, .int .i64 (grnd (bits + s) mo (quadSum inv q t0 t1 t2 t3)).im]) ∧ Gr w w' := by
  have hn : wrap64 ((bits : Int) + s) = ((bits + s : Nat) : Int) := by rw [IntWalk.wrap64_in _ (by omega)]; omega
  have HT : ∀ (t : Gi) (k : Int), Bd 2305843009213693952 t → ∀ W, Calls Try.prog 38 #[.agg #[.int .i64 (t).re, .int .i64 (t).im], .int .i64 k] W fun e w' => e = .returned (.agg #[.int .i64 (Gi.turn k t).re, .int .i64 (Gi.turn k t).im]) ∧ Gr W w' := fun t k h W => by
    have := h.le
    exact rturn_gi t k (by omega) W
  have b1 := h0.add (h1.turn (turns1 inv q))
  have b2 := b1.add (h2.turn (2 * q))
  have b3 := b2.add (h3.turn (-(turns1 inv q)))
  have HS : ∀ (a b : Gi) (l : Int), Bd l (gadd a b) → l ≤ 9223372036854775807 → ∀ W, Calls Try.prog 37 #[.agg #[.int .i64 (a).re, .int .i64 (a).im], .agg #[.int .i64 (b).re, .int .i64 (b).im]] W fun e w' => e = .returned (.agg #[.int .i64 (gadd a b).re, .int .i64 (gadd a b).im]) ∧ Gr W w' := fun a b l h hl W => by
    have := h.le
    exact rsum_gi a b (by unfold gadd at this; simp only at this; omega) (by unfold gadd at this; simp only at this; omega) W
  have HF := fun W => rshift03_gi (quadSum inv q t0 t1 t2 t3) (bits + s) mo (by have := Bd.le b3; unfold quadSum; omega) (by omega) m0 m1 W
  cases inv
  · refine out11_false t0 t1 t2 t3 (gadd t0 (Gi.turn (-(q : Int)) t1)) (gadd (gadd t0 (Gi.turn (-(q : Int)) t1)) (Gi.turn (2 * q) t2)) (gadd (gadd (gadd t0 (Gi.turn (-(q : Int)) t1)) (Gi.turn (2 * q) t2)) (Gi.turn q t3)) _ (Gi.turn (-(q : Int)) t1) (Gi.turn (2 * q) t2) (Gi.turn q t3) q bits s _ mo (by omega) (by omega) hn
      (Lib.hid (HT t1 _ h1)) (Lib.hid (HS _ _ _ b1 (by omega))) (Lib.hid (HT t2 _ h2)) (Lib.hid (HS _ _ _ b2 (by omega))) (Lib.hid (HT t3 _ h3)) (Lib.hid (HS _ _ _ ?_ (Int.le_refl _))) (Lib.hid ?_) w
    · simp only [turns1, Bool.false_eq_true, if_false, Int.neg_neg] at b3
      exact Bd.mono b3 (by omega)
    · have := HF
      simp only [quadSum, turns1, Bool.false_eq_true, if_false, Int.neg_neg] at this ⊢
      exact this
  · refine out11_true t0 t1 t2 t3 (gadd t0 (Gi.turn (q : Int) t1)) (gadd (gadd t0 (Gi.turn (q : Int) t1)) (Gi.turn (2 * q) t2)) (gadd (gadd (gadd t0 (Gi.turn (q : Int) t1)) (Gi.turn (2 * q) t2)) (Gi.turn (-(q : Int)) t3)) _ (Gi.turn (q : Int) t1) (Gi.turn (2 * q) t2) (Gi.turn (-(q : Int)) t3) q bits s _ mo (by omega) (by omega) hn
      (Lib.hid (HT t1 _ h1)) (Lib.hid (HS _ _ _ b1 (by omega))) (Lib.hid (HT t2 _ h2)) (Lib.hid (HS _ _ _ b2 (by omega))) (Lib.hid (HT t3 _ h3)) (Lib.hid (HS _ _ _ b3 (by omega))) (Lib.hid HF) w


end Go.Proofs.Ytomjldaonpjloaa
