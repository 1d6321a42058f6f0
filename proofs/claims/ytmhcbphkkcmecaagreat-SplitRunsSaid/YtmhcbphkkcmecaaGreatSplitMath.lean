/- The transform of kernel split, in whole complex numbers: what it is, how great it may become, what becomes of the same number and of one number alone. -/
import Derived.Test.YtmhcbphkkcmecaaGreatFourMath
namespace Go.Proofs.YtmhcbphkkcmecaaGreat
set_option linter.unusedVariables false
set_option linter.unusedSimpArgs false
set_option maxRecDepth 100000

def gsub (a b : Gi) : Gi := ⟨a.re - b.re, a.im - b.im⟩
/-- Number q of four that are joined. -/
def joinG (bits : Nat) (mo : Int) (inv : Bool) (q : Nat) (u v y z w w3 : Gi) : Gi :=
  grnd (bits + 2) mo (if 2 ≤ q then gsub (gscale (bits + 1) (if q % 2 = 1 then v else u)) (if q % 2 = 1 then Gi.turn (turns1 inv 1) (gsub (gmul y w) (gmul z w3)) else gadd (gmul y w) (gmul z w3))
    else gadd (gscale (bits + 1) (if q % 2 = 1 then v else u)) (if q % 2 = 1 then Gi.turn (turns1 inv 1) (gsub (gmul y w) (gmul z w3)) else gadd (gmul y w) (gmul z w3)))
/-- The transform of 2^l numbers, of a length n, with roots W. -/
def spl (bits : Nat) (mo : Int) (inv : Bool) (W : Nat → Gi) (n : Nat) : Nat → (Nat → Gi) → Nat → Gi
  | 0, f, i => f i
  | 1, f, i => if i = 0 then grnd 1 mo (gadd (f 0) (f 1)) else grnd 1 mo (gsub (f 0) (f 1))
  | l + 2, f, i =>
    joinG bits mo inv (i / 2 ^ l) (spl bits mo inv W n (l + 1) (fun j => f (2 * j)) (i % 2 ^ l)) (spl bits mo inv W n (l + 1) (fun j => f (2 * j)) (2 ^ l + i % 2 ^ l))
      (spl bits mo inv W n l (fun j => f (4 * j + 1)) (i % 2 ^ l)) (spl bits mo inv W n l (fun j => f (4 * j + 3)) (i % 2 ^ l)) (W (i % 2 ^ l * (n / 2 ^ (l + 2)))) (W (3 * (i % 2 ^ l) * (n / 2 ^ (l + 2))))

theorem spl_two (bits : Nat) (mo : Int) (inv : Bool) (W : Nat → Gi) (n l : Nat) (f : Nat → Gi) (i : Nat) : spl bits mo inv W n (l + 2) f i =
    joinG bits mo inv (i / 2 ^ l) (spl bits mo inv W n (l + 1) (fun j => f (2 * j)) (i % 2 ^ l)) (spl bits mo inv W n (l + 1) (fun j => f (2 * j)) (2 ^ l + i % 2 ^ l))
      (spl bits mo inv W n l (fun j => f (4 * j + 1)) (i % 2 ^ l)) (spl bits mo inv W n l (fun j => f (4 * j + 3)) (i % 2 ^ l)) (W (i % 2 ^ l * (n / 2 ^ (l + 2)))) (W (3 * (i % 2 ^ l) * (n / 2 ^ (l + 2)))) := rfl

/-- Places within a length. -/
theorem spl_places (l i : Nat) : i % 2 ^ l < 2 ^ l ∧ 2 ^ l + i % 2 ^ l < 2 ^ (l + 1) ∧ (∀ j, j < 2 ^ (l + 1) → 2 * j < 2 ^ (l + 2)) ∧ ∀ j, j < 2 ^ l → 4 * j + 1 < 2 ^ (l + 2) ∧ 4 * j + 3 < 2 ^ (l + 2) := by
  have hp := Nat.mod_lt i (Nat.two_pow_pos l)
  have e1 : 2 ^ (l + 1) = 2 * 2 ^ l := by rw [Nat.pow_succ]; omega
  have e2 : 2 ^ (l + 2) = 4 * 2 ^ l := by rw [Nat.pow_succ, Nat.pow_succ]; omega
  rw [e1, e2]
  exact ⟨hp, by omega, fun j hj => by omega, fun j hj => by omega⟩

theorem spl_congr (bits : Nat) (mo : Int) (inv : Bool) (W : Nat → Gi) (n : Nat) : ∀ l (f g : Nat → Gi), (∀ i, i < 2 ^ l → f i = g i) → ∀ i, i < 2 ^ l → spl bits mo inv W n l f i = spl bits mo inv W n l g i
  | 0, f, g, h, i, hi => h i hi
  | 1, f, g, h, i, hi => by
    unfold spl
    rw [h 0 (by omega), h 1 (by omega)]
  | l + 2, f, g, h, i, hi => by
    obtain ⟨h1, h2, h3, h4⟩ := spl_places l i
    rw [spl_two, spl_two, spl_congr bits mo inv W n (l + 1) (fun j => f (2 * j)) (fun j => g (2 * j)) (fun j hj => h _ (h3 j hj)) _ (by omega), spl_congr bits mo inv W n (l + 1) (fun j => f (2 * j)) (fun j => g (2 * j)) (fun j hj => h _ (h3 j hj)) _ h2,
      spl_congr bits mo inv W n l (fun j => f (4 * j + 1)) (fun j => g (4 * j + 1)) (fun j hj => h _ (h4 j hj).1) _ h1, spl_congr bits mo inv W n l (fun j => f (4 * j + 3)) (fun j => g (4 * j + 3)) (fun j hj => h _ (h4 j hj).2) _ h1]

theorem spl_congrW (bits : Nat) (mo : Int) (inv : Bool) (W V : Nat → Gi) (n : Nat) (hW : ∀ i, W i = V i) : spl bits mo inv W n = spl bits mo inv V n := by
  have : W = V := funext hW
  rw [this]

/-- A number's length is at most R. -/
def Len (R : Int) (a : Gi) : Prop := a.re * a.re + a.im * a.im ≤ R * R

theorem sq_le (x R : Int) (hR : 0 ≤ R) (h : x * x ≤ R * R) : -R ≤ x ∧ x ≤ R := by
  constructor
  · refine Int.not_lt.1 fun k => ?_
    have h1 := Int.mul_le_mul (a := R + 1) (b := R + 1) (c := -x) (d := -x) (by omega) (by omega) (by omega) (by omega)
    rw [Int.neg_mul_neg] at h1
    have h2 : (R + 1) * (R + 1) = R * R + 2 * R + 1 := by grind
    omega
  · refine Int.not_lt.1 fun k => ?_
    have h1 := Int.mul_le_mul (a := R + 1) (b := R + 1) (c := x) (d := x) (by omega) (by omega) (by omega) (by omega)
    have h2 : (R + 1) * (R + 1) = R * R + 2 * R + 1 := by grind
    omega
theorem sq_nonneg (x : Int) : 0 ≤ x * x := by
  rcases Int.le_total 0 x with h | h
  · exact Int.mul_nonneg h h
  · rw [← Int.neg_mul_neg]; exact Int.mul_nonneg (by omega) (by omega)
theorem Len.bd {R : Int} {a : Gi} (hR : 0 ≤ R) (h : Len R a) : Bd R a := by
  unfold Len at h
  have h1 := sq_nonneg a.re
  have h2 := sq_nonneg a.im
  exact Bd.mk ⟨sq_le _ _ hR (by omega), sq_le _ _ hR (by omega)⟩
theorem Len.mono {R S : Int} {a : Gi} (hR : 0 ≤ R) (h : Len R a) (e : R ≤ S) : Len S a := Int.le_trans h (Int.mul_le_mul e e hR (by omega))
theorem Len.zero (R : Int) : Len R ⟨0, 0⟩ := by unfold Len; simpa using sq_nonneg R
/-- The length of a product is the product of the lengths. -/
theorem Len.mul {R S : Int} {a b : Gi} (hR : 0 ≤ R) (h : Len R a) (k : Len S b) : Len (R * S) (gmul a b) := by
  unfold Len gmul at *
  simp only
  have e : (a.re * b.re - a.im * b.im) * (a.re * b.re - a.im * b.im) + (a.re * b.im + a.im * b.re) * (a.re * b.im + a.im * b.re) = (a.re * a.re + a.im * a.im) * (b.re * b.re + b.im * b.im) := by grind
  rw [e, show R * S * (R * S) = (R * R) * (S * S) by grind]
  have h1 := sq_nonneg b.re
  have h2 := sq_nonneg b.im
  exact Int.mul_le_mul h k (by omega) (sq_nonneg R)
/-- A sum is no longer than both together. -/
theorem Len.add {R S : Int} {a b : Gi} (hR : 0 ≤ R) (hS : 0 ≤ S) (h : Len R a) (k : Len S b) : Len (R + S) (gadd a b) := by
  unfold Len gadd at *
  simp only
  have hd : -(R * S) ≤ a.re * b.re + a.im * b.im ∧ a.re * b.re + a.im * b.im ≤ R * S := by
    refine sq_le _ _ (Int.mul_nonneg hR hS) ?_
    have h1 := sq_nonneg (a.re * b.im - a.im * b.re)
    have h2 := sq_nonneg b.re
    have h3 := sq_nonneg b.im
    have h4 : (a.re * a.re + a.im * a.im) * (b.re * b.re + b.im * b.im) ≤ (R * R) * (S * S) := Int.mul_le_mul h k (by omega) (sq_nonneg R)
    have e : (a.re * b.re + a.im * b.im) * (a.re * b.re + a.im * b.im) + (a.re * b.im - a.im * b.re) * (a.re * b.im - a.im * b.re) = (a.re * a.re + a.im * a.im) * (b.re * b.re + b.im * b.im) := by grind
    have e2 : R * S * (R * S) = (R * R) * (S * S) := by grind
    omega
  have e3 : (a.re + b.re) * (a.re + b.re) + (a.im + b.im) * (a.im + b.im) = (a.re * a.re + a.im * a.im) + 2 * (a.re * b.re + a.im * b.im) + (b.re * b.re + b.im * b.im) := by grind
  have e4 : (R + S) * (R + S) = R * R + 2 * (R * S) + S * S := by grind
  omega
theorem Len.neg {R : Int} {a : Gi} (h : Len R a) : Len R ⟨-a.re, -a.im⟩ := by
  unfold Len at *
  simp only [Int.neg_mul_neg]
  exact h
theorem Len.sub {R S : Int} {a b : Gi} (hR : 0 ≤ R) (hS : 0 ≤ S) (h : Len R a) (k : Len S b) : Len (R + S) (gsub a b) := by
  have e : gsub a b = gadd a ⟨-b.re, -b.im⟩ := by unfold gsub gadd; simp only [Int.sub_eq_add_neg]
  rw [e]
  exact h.add hR hS k.neg
theorem Len.turn {R : Int} {a : Gi} (h : Len R a) (q : Int) : Len R (Gi.turn q a) := by
  unfold Len at *
  have hc : q % 4 = 0 ∨ q % 4 = 1 ∨ q % 4 = 2 ∨ q % 4 = 3 := by omega
  rcases hc with e | e | e | e <;> (unfold Gi.turn; simp only [e]; first | exact h | (simp [Int.neg_mul_neg]; first | exact h | omega))
theorem Len.conj {R : Int} {a : Gi} (h : Len R a) : Len R a.conj := by
  unfold Len Gi.conj at *
  simp only [Int.neg_mul_neg]
  exact h
theorem Len.scale {R : Int} {a : Gi} (h : Len R a) (bits : Nat) : Len (R * 2 ^ bits) (gscale bits a) := by
  unfold Len gscale at *
  simp only
  generalize hP : (2 : Int) ^ bits = P
  have e : a.re * P * (a.re * P) + a.im * P * (a.im * P) = (a.re * a.re + a.im * a.im) * (P * P) := by grind
  rw [e, show R * P * (R * P) = R * R * (P * P) by grind]
  exact Int.mul_le_mul_of_nonneg_right h (sq_nonneg P)
/-- A number divided by 2^n and rounded is no longer than it was divided, and 2. -/
theorem Len.rnd {R : Int} {a : Gi} (n : Nat) (mo : Int) (hm : mo = 0 ∨ mo = 1 ∨ mo = 2) (hR : 0 ≤ R) (h : Len (R * 2 ^ n) a) : Len (R + 2) (grnd n mo a) := by
  have h1 := rnd_off a.re n mo hm
  have h2 := rnd_off a.im n mo hm
  have hp := pow_pos2 n
  unfold grnd
  generalize Go.Proofs.YtmhcbphkkcmecaaGreat.rnd a.re n mo = x at *
  generalize Go.Proofs.YtmhcbphkkcmecaaGreat.rnd a.im n mo = y at *
  generalize (2 : Int) ^ n = P at *
  have he : Len (2 * P) ⟨x * P - a.re, y * P - a.im⟩ := by
    unfold Len
    simp only
    have e1 : (x * P - a.re) * (x * P - a.re) ≤ P * P := by
      have := Int.mul_le_mul (a := absI (x * P - a.re)) (b := absI (x * P - a.re)) (c := P) (d := P) (absI_le.2 (by omega)) (absI_le.2 (by omega)) (absI_nonneg _) (by omega)
      refine Int.le_trans (Int.le_of_eq ?_) this
      unfold absI
      split
      · rw [Int.neg_mul_neg]
      · rfl
    have e2 : (y * P - a.im) * (y * P - a.im) ≤ P * P := by
      have := Int.mul_le_mul (a := absI (y * P - a.im)) (b := absI (y * P - a.im)) (c := P) (d := P) (absI_le.2 (by omega)) (absI_le.2 (by omega)) (absI_nonneg _) (by omega)
      refine Int.le_trans (Int.le_of_eq ?_) this
      unfold absI
      split
      · rw [Int.neg_mul_neg]
      · rfl
    have e3 := sq_nonneg P
    have e4 : 2 * P * (2 * P) = 4 * (P * P) := by grind
    omega
  have ha := h.add (Int.mul_nonneg hR (by omega)) (by omega) he
  unfold Len gadd at ha
  unfold Len
  simp only at ha ⊢
  have e5 : a.re + (x * P - a.re) = x * P := by omega
  have e6 : a.im + (y * P - a.im) = y * P := by omega
  rw [e5, e6, show x * P * (x * P) + y * P * (y * P) = (x * x + y * y) * (P * P) by grind, show (R * P + 2 * P) * (R * P + 2 * P) = (R + 2) * (R + 2) * (P * P) by grind] at ha
  exact Int.le_of_mul_le_mul_right ha (Int.mul_pos hp hp)

theorem join_len (bits : Nat) (mo : Int) (inv : Bool) (q : Nat) (u v y z w w3 : Gi) (R : Int) (hm : mo = 0 ∨ mo = 1 ∨ mo = 2) (hR : 0 ≤ R) (hB : R ≤ 3 * 2 ^ bits) (hu : Len R u) (hv : Len R v) (hy : Len R y) (hz : Len R z) (hw : Len (2 ^ bits + 2) w) (hw3 : Len (2 ^ bits + 2) w3) :
    Len (R + 5) (joinG bits mo inv q u v y z w w3) := by
  have hp := pow_pos2 bits
  have hs : ∀ a, Len R a → Len (R * 2 ^ (bits + 1)) (gscale (bits + 1) a) := fun a h => h.scale _
  have ht : ∀ a b, Len R a → Len (2 ^ bits + 2) b → Len (R * (2 ^ bits + 2)) (gmul a b) := fun a b h k => h.mul hR k
  have e1 : R * 2 ^ (bits + 1) = 2 * (R * 2 ^ bits) := by rw [Int.pow_succ]; grind
  have e2 : R * (2 ^ bits + 2) = R * 2 ^ bits + 2 * R := by grind
  have e3 : (R + 3) * 2 ^ (bits + 2) = 4 * (R * 2 ^ bits) + 12 * 2 ^ bits := by rw [Int.pow_succ, Int.pow_succ]; grind
  have h0 : 0 ≤ R * 2 ^ bits := Int.mul_nonneg hR (by omega)
  have key : ∀ a b, Len (R * 2 ^ (bits + 1)) a → Len (R * (2 ^ bits + 2) + R * (2 ^ bits + 2)) b → Len ((R + 3) * 2 ^ (bits + 2)) (gadd a b) ∧ Len ((R + 3) * 2 ^ (bits + 2)) (gsub a b) := by
    intro a b ha hb
    exact ⟨(ha.add (by omega) (by omega) hb).mono (by omega) (by omega), (ha.sub (by omega) (by omega) hb).mono (by omega) (by omega)⟩
  have hp1 : Len (R * (2 ^ bits + 2) + R * (2 ^ bits + 2)) (gadd (gmul y w) (gmul z w3)) := (ht y w hy hw).add (by omega) (by omega) (ht z w3 hz hw3)
  have hp2 : Len (R * (2 ^ bits + 2) + R * (2 ^ bits + 2)) (Gi.turn (turns1 inv 1) (gsub (gmul y w) (gmul z w3))) := ((ht y w hy hw).sub (by omega) (by omega) (ht z w3 hz hw3)).turn _
  unfold joinG
  refine Len.mono (by omega) (Len.rnd (R := R + 3) (bits + 2) mo hm (by omega) ?_) (by omega)
  split
  · split
    · exact (key _ _ (hs v hv) hp2).2
    · exact (key _ _ (hs u hu) hp1).2
  · split
    · exact (key _ _ (hs v hv) hp2).1
    · exact (key _ _ (hs u hu) hp1).1

theorem spl_len (bits : Nat) (mo : Int) (inv : Bool) (W : Nat → Gi) (n : Nat) (hm : mo = 0 ∨ mo = 1 ∨ mo = 2) (hW : ∀ k, Len (2 ^ bits + 2) (W k)) : ∀ (l : Nat) (R : Int) (f : Nat → Gi), 0 ≤ R → R + 5 * l ≤ 3 * 2 ^ bits → (∀ i, i < 2 ^ l → Len R (f i)) →
    ∀ i, i < 2 ^ l → Len (R + 5 * l) (spl bits mo inv W n l f i)
  | 0, R, f, hR, hB, h, i, hi => by
    have := h i hi
    simpa [spl] using this
  | 1, R, f, hR, hB, h, i, hi => by
    have h0 := h 0 (by omega)
    have h1 := h 1 (by omega)
    have e : R * 2 ^ 1 = R + R := by omega
    unfold spl
    split
    · refine Len.mono (by omega) (Len.rnd (R := R) 1 mo hm hR ?_) (by omega)
      rw [e]
      exact h0.add hR hR h1
    · refine Len.mono (by omega) (Len.rnd (R := R) 1 mo hm hR ?_) (by omega)
      rw [e]
      exact h0.sub hR hR h1
  | l + 2, R, f, hR, hB, h, i, hi => by
    obtain ⟨h1, h2, h3, h4⟩ := spl_places l i
    have ih1 := spl_len bits mo inv W n hm hW (l + 1) R (fun j => f (2 * j)) hR (by omega) (fun j hj => h _ (h3 j hj))
    have ih2 := spl_len bits mo inv W n hm hW l R (fun j => f (4 * j + 1)) hR (by omega) (fun j hj => h _ (h4 j hj).1)
    have ih3 := spl_len bits mo inv W n hm hW l R (fun j => f (4 * j + 3)) hR (by omega) (fun j hj => h _ (h4 j hj).2)
    rw [spl_two]
    refine Len.mono (by omega) (join_len bits mo inv _ _ _ _ _ _ _ (R + 5 * (l + 1 : Nat)) hm (by omega) (by omega) (ih1 _ (by omega)) (ih1 _ h2) ((ih2 _ h1).mono (by omega) (by omega)) ((ih3 _ h1).mono (by omega) (by omega)) (hW _) (hW _)) (by omega)

theorem grnd_up (a : Gi) (n : Nat) (mo : Int) (hm : mo = 0 ∨ mo = 1 ∨ mo = 2) (b : Gi) (hx : a.re = b.re * 2 ^ n) (hy : a.im = b.im * 2 ^ n) : grnd n mo a = b := by
  unfold grnd
  rw [hx, hy, rnd_mul _ _ _ hm, rnd_mul _ _ _ hm]

/-- The same number n times. -/
theorem spl_same (bits : Nat) (mo : Int) (inv : Bool) (W : Nat → Gi) (n : Nat) (a : Gi) (hm : mo = 0 ∨ mo = 1 ∨ mo = 2) (hW : W 0 = ⟨2 ^ bits, 0⟩) : ∀ (l i : Nat), i < 2 ^ l → spl bits mo inv W n l (fun _ => a) i = if i = 0 then a else ⟨0, 0⟩
  | 0, i, hi => by
    have : i = 0 := by omega
    simp [this, spl]
  | 1, i, hi => by
    unfold spl
    split
    · exact grnd_up _ _ _ hm _ (by unfold gadd; simp only; omega) (by unfold gadd; simp only; omega)
    · exact grnd_up _ _ _ hm _ (by unfold gsub; simp only; omega) (by unfold gsub; simp only; omega)
  | l + 2, i, hi => by
    obtain ⟨h1, h2, h3, h4⟩ := spl_places l i
    have hp := Nat.two_pow_pos l
    rw [spl_two, spl_same bits mo inv W n a hm hW (l + 1) _ (by omega), spl_same bits mo inv W n a hm hW (l + 1) _ h2, spl_same bits mo inv W n a hm hW l _ h1, if_neg (show ¬ 2 ^ l + i % 2 ^ l = 0 by omega)]
    by_cases hk : i % 2 ^ l = 0
    · have hq : (if i = 0 then a else (⟨0, 0⟩ : Gi)) = if i / 2 ^ l = 0 then a else ⟨0, 0⟩ := by
        have e : i = 0 ↔ i / 2 ^ l = 0 := by
          constructor
          · rintro rfl; simp
          · intro h
            have := Nat.div_add_mod i (2 ^ l)
            rw [h, hk] at this
            omega
        by_cases h : i = 0
        · rw [if_pos h, if_pos (e.1 h)]
        · rw [if_neg h, if_neg (fun k => h (e.2 k))]
      rw [hq, if_pos hk, hk, Nat.mul_zero, Nat.zero_mul, hW]
      generalize i / 2 ^ l = q
      have e1 : (2 : Int) ^ (bits + 1) = 2 * 2 ^ bits := by rw [Int.pow_succ]; omega
      have e2 : (2 : Int) ^ (bits + 2) = 4 * 2 ^ bits := by rw [Int.pow_succ, Int.pow_succ]; omega
      have t0 : Gi.turn (turns1 inv 1) (gsub (gmul a ⟨2 ^ bits, 0⟩) (gmul a ⟨2 ^ bits, 0⟩)) = ⟨0, 0⟩ := by
        have : gsub (gmul a ⟨2 ^ bits, 0⟩) (gmul a ⟨2 ^ bits, 0⟩) = ⟨0, 0⟩ := Gi.ext2 (Int.sub_self _) (Int.sub_self _)
        rw [this]
        cases inv <;> rfl
      unfold joinG
      rw [t0]
      have hr : ∀ b c : Gi, gsub b c = ⟨b.re - c.re, b.im - c.im⟩ := fun _ _ => rfl
      have hs : ∀ b c : Gi, gadd b c = ⟨b.re + c.re, b.im + c.im⟩ := fun _ _ => rfl
      have hu : gscale (bits + 1) a = ⟨a.re * (2 * 2 ^ bits), a.im * (2 * 2 ^ bits)⟩ := by unfold gscale; rw [e1]
      have hv : gscale (bits + 1) ⟨0, 0⟩ = ⟨0, 0⟩ := by unfold gscale; simp only [Int.zero_mul]
      have hw : gmul a ⟨2 ^ bits, 0⟩ = ⟨a.re * 2 ^ bits, a.im * 2 ^ bits⟩ := by unfold gmul; simp
      have h5 : q = 0 ∨ (¬ q = 0 ∧ ¬ 2 ≤ q ∧ q % 2 = 1) ∨ (¬ q = 0 ∧ 2 ≤ q ∧ q % 2 = 1) ∨ (¬ q = 0 ∧ 2 ≤ q ∧ ¬ q % 2 = 1) := by omega
      rw [hw]
      rcases h5 with h | ⟨h, h', h''⟩ | ⟨h, h', h''⟩ | ⟨h, h', h''⟩
      · subst h
        simp only [hs, hu, hv, show ¬ 2 ≤ 0 by omega, show ¬ 0 % 2 = 1 by omega, if_false, if_true]
        exact grnd_up _ _ _ hm _ (by rw [e2]; simp only; grind) (by rw [e2]; simp only; grind)
      · simp only [hs, hu, hv, h, h', h'', if_false, if_true]
        exact grnd_up _ _ _ hm _ (by simp) (by simp)
      · simp only [hr, hu, hv, h, h', h'', if_false, if_true]
        exact grnd_up _ _ _ hm _ (by simp) (by simp)
      · simp only [hr, hs, hu, hv, h, h', h'', if_false, if_true]
        exact grnd_up _ _ _ hm _ (by simp only; grind) (by simp only; grind)
    · rw [if_neg hk, if_neg (show ¬ i = 0 by rintro rfl; simp at hk)]
      unfold joinG
      have t0 : Gi.turn (turns1 inv 1) (gsub (gmul ⟨0, 0⟩ (W (i % 2 ^ l * (n / 2 ^ (l + 2))))) (gmul ⟨0, 0⟩ (W (3 * (i % 2 ^ l) * (n / 2 ^ (l + 2)))))) = ⟨0, 0⟩ := by
        have : ∀ b c, gsub (gmul ⟨0, 0⟩ b) (gmul ⟨0, 0⟩ c) = ⟨0, 0⟩ := by intro b c; unfold gsub gmul; simp
        rw [this]
        cases inv <;> rfl
      rw [t0]
      have h1 : ∀ b c : Gi, gadd (gmul ⟨0, 0⟩ b) (gmul ⟨0, 0⟩ c) = ⟨0, 0⟩ := by intro b c; unfold gadd gmul; simp
      have hv : gscale (bits + 1) ⟨0, 0⟩ = ⟨0, 0⟩ := by unfold gscale; simp
      simp only [h1, ite_self, hv]
      refine grnd_up _ _ _ hm _ ?_ ?_ <;> (split <;> simp [gsub, gadd])

/-- One number, the first, and all others 0. -/
theorem spl_one (bits : Nat) (mo : Int) (inv : Bool) (W : Nat → Gi) (n : Nat) (a : Gi) (hm : mo = 0 ∨ mo = 1 ∨ mo = 2) (hW : W 0 = ⟨2 ^ bits, 0⟩) : ∀ (l i : Nat), i < 2 ^ l →
    absI ((spl bits mo inv W n l (fun j => if j = 0 then a else ⟨0, 0⟩) i).re * 2 ^ l - a.re) ≤ 2 * 2 ^ l - 2 ∧ absI ((spl bits mo inv W n l (fun j => if j = 0 then a else ⟨0, 0⟩) i).im * 2 ^ l - a.im) ≤ 2 * 2 ^ l - 2
  | 0, i, hi => by
    have : i = 0 := by omega
    subst this
    simp [spl, absI]
  | 1, i, hi => by
    have h1 := rnd_off a.re 1 mo hm
    have h2 := rnd_off a.im 1 mo hm
    have e : ∀ b, grnd 1 mo b = ⟨rnd b.re 1 mo, rnd b.im 1 mo⟩ := fun b => rfl
    have e2 : spl bits mo inv W n 1 (fun j => if j = 0 then a else ⟨0, 0⟩) i = ⟨rnd a.re 1 mo, rnd a.im 1 mo⟩ := by
      unfold spl
      split
      · rw [e]; unfold gadd; simp
      · rw [e]; unfold gsub; simp
    rw [e2]
    simp only
    exact ⟨absI_le.2 (by omega), absI_le.2 (by omega)⟩
  | l + 2, i, hi => by
    obtain ⟨h1, h2, h3, h4⟩ := spl_places l i
    have c1 : (fun j => (fun j => if j = 0 then a else (⟨0, 0⟩ : Gi)) (2 * j)) = fun j => if j = 0 then a else ⟨0, 0⟩ := by
      funext j
      by_cases hj : j = 0
      · simp [hj]
      · simp only [if_neg hj, if_neg (show ¬ 2 * j = 0 by omega)]
    have c2 : (fun j => (fun j => if j = 0 then a else (⟨0, 0⟩ : Gi)) (4 * j + 1)) = fun _ => ⟨0, 0⟩ := by funext j; simp
    have c3 : (fun j => (fun j => if j = 0 then a else (⟨0, 0⟩ : Gi)) (4 * j + 3)) = fun _ => ⟨0, 0⟩ := by funext j; simp
    have z : ∀ k, k < 2 ^ l → spl bits mo inv W n l (fun _ => (⟨0, 0⟩ : Gi)) k = ⟨0, 0⟩ := fun k hk => by rw [spl_same bits mo inv W n _ hm hW l k hk]; split <;> rfl
    rw [spl_two, c1, c2, c3, z _ h1]
    have i1 := spl_one bits mo inv W n a hm hW (l + 1) _ (show i % 2 ^ l < 2 ^ (l + 1) by omega)
    have i2 := spl_one bits mo inv W n a hm hW (l + 1) _ h2
    obtain ⟨b, hb, hj⟩ : ∃ b, (absI (b.re * 2 ^ (l + 1) - a.re) ≤ 2 * 2 ^ (l + 1) - 2 ∧ absI (b.im * 2 ^ (l + 1) - a.im) ≤ 2 * 2 ^ (l + 1) - 2) ∧ joinG bits mo inv (i / 2 ^ l) (spl bits mo inv W n (l + 1) (fun j => if j = 0 then a else ⟨0, 0⟩) (i % 2 ^ l)) (spl bits mo inv W n (l + 1) (fun j => if j = 0 then a else ⟨0, 0⟩) (2 ^ l + i % 2 ^ l)) ⟨0, 0⟩ ⟨0, 0⟩ (W (i % 2 ^ l * (n / 2 ^ (l + 2)))) (W (3 * (i % 2 ^ l) * (n / 2 ^ (l + 2)))) = grnd (bits + 2) mo (gscale (bits + 1) b) := by
      refine ⟨if i / 2 ^ l % 2 = 1 then spl bits mo inv W n (l + 1) (fun j => if j = 0 then a else ⟨0, 0⟩) (2 ^ l + i % 2 ^ l) else spl bits mo inv W n (l + 1) (fun j => if j = 0 then a else ⟨0, 0⟩) (i % 2 ^ l), ?_, ?_⟩
      · split
        · exact i2
        · exact i1
      · have : ∀ b c, gsub (gmul ⟨0, 0⟩ b) (gmul ⟨0, 0⟩ c) = ⟨0, 0⟩ := by intro b c; unfold gsub gmul; simp
        have h5 : ∀ b c, gadd (gmul ⟨0, 0⟩ b) (gmul ⟨0, 0⟩ c) = ⟨0, 0⟩ := by intro b c; unfold gadd gmul; simp
        have h6 : Gi.turn (turns1 inv 1) ⟨0, 0⟩ = ⟨0, 0⟩ := by cases inv <;> rfl
        have h7 : ∀ b, gsub b ⟨0, 0⟩ = b := fun b => by unfold gsub; simp
        have h8 : ∀ b, gadd b ⟨0, 0⟩ = b := fun b => by unfold gadd; simp
        unfold joinG
        rw [this, h5, h6, ite_self, h7, h8, ite_self]
    rw [hj]
    clear hj i1 i2
    have o1 := rnd_off (b.re * 2 ^ (bits + 1)) (bits + 2) mo hm
    have o2 := rnd_off (b.im * 2 ^ (bits + 1)) (bits + 2) mo hm
    have e1 : (2 : Int) ^ (bits + 2) = 2 * 2 ^ (bits + 1) := by rw [Int.pow_succ]; omega
    have e2 : (2 : Int) ^ (l + 2) = 2 * 2 ^ (l + 1) := by rw [Int.pow_succ]; omega
    have hp := pow_pos2 (bits + 1)
    have hq := pow_pos2 (l + 1)
    have key : ∀ x r c : Int, (-(2 ^ (bits + 2)) < x * 2 ^ (bits + 1) - r * 2 ^ (bits + 2) ∧ x * 2 ^ (bits + 1) - r * 2 ^ (bits + 2) < 2 ^ (bits + 2)) → absI (x * 2 ^ (l + 1) - c) ≤ 2 * 2 ^ (l + 1) - 2 → absI (r * 2 ^ (l + 2) - c) ≤ 2 * 2 ^ (l + 2) - 2 := by
      intro x r c ho hx
      have hx := absI_le.1 hx
      have hd : -1 ≤ x - 2 * r ∧ x - 2 * r ≤ 1 := by
        rw [e1] at ho
        generalize (2 : Int) ^ (bits + 1) = P at *
        have e3 : x * P - r * (2 * P) = (x - 2 * r) * P := by grind
        rw [e3] at ho
        generalize x - 2 * r = d at *
        constructor
        · refine Int.not_lt.1 fun k => ?_
          have := Int.mul_le_mul_of_nonneg_right (show d ≤ -2 by omega) (show 0 ≤ P by omega)
          omega
        · refine Int.not_lt.1 fun k => ?_
          have := Int.mul_le_mul_of_nonneg_right (show 2 ≤ d by omega) (show 0 ≤ P by omega)
          omega
      rw [e2]
      generalize (2 : Int) ^ (l + 1) = Q at *
      have e4 : r * (2 * Q) - c = (x * Q - c) - (x - 2 * r) * Q := by grind
      rw [e4]
      have b1 : -Q ≤ (x - 2 * r) * Q ∧ (x - 2 * r) * Q ≤ Q := by
        have k1 := Int.mul_le_mul_of_nonneg_right hd.1 (show 0 ≤ Q by omega)
        have k2 := Int.mul_le_mul_of_nonneg_right hd.2 (show 0 ≤ Q by omega)
        omega
      exact absI_le.2 (by omega)
    unfold grnd gscale
    simp only
    exact ⟨key _ _ _ ⟨o1.1, o1.2.1⟩ hb.1, key _ _ _ ⟨o2.1, o2.2.1⟩ hb.2⟩

end Go.Proofs.YtmhcbphkkcmecaaGreat
