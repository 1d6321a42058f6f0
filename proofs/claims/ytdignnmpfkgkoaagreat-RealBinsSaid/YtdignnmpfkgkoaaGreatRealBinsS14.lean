import Derived.Test.YtdignnmpfkgkoaaGreatRealBinsS8
import Derived.Test.YtdignnmpfkgkoaaGreatRealBinsS12
namespace Go.Proofs.YtdignnmpfkgkoaaGreat
section
set_option linter.unusedVariables false
set_option linter.unusedSimpArgs false
set_option maxRecDepth 100000
set_option maxHeartbeats 16000000
def gsub (a b : Gi) : Gi := ⟨a.re - b.re, a.im - b.im⟩
def joinG (bits : Nat) (mo : Int) (inv : Bool) (q : Nat) (u v y z w w3 : Gi) : Gi :=
 grnd (bits + 2) mo (if 2 ≤ q then gsub (gscale (bits + 1) (if q % 2 = 1 then v else u)) (if q % 2 = 1 then Gi.turn (turns1 inv 1) (gsub (gmul y w) (gmul z w3)) else gadd (gmul y w) (gmul z w3))
  else gadd (gscale (bits + 1) (if q % 2 = 1 then v else u)) (if q % 2 = 1 then Gi.turn (turns1 inv 1) (gsub (gmul y w) (gmul z w3)) else gadd (gmul y w) (gmul z w3)))
def spl (bits : Nat) (mo : Int) (inv : Bool) (W : Nat → Gi) (n : Nat) : Nat → (Nat → Gi) → Nat → Gi
 | 0, f, i => f i
 | 1, f, i => if i = 0 then grnd 1 mo (gadd (f 0) (f 1)) else grnd 1 mo (gsub (f 0) (f 1))
 | l + 2, f, i =>
   joinG bits mo inv (i / 2 ^ l) (spl bits mo inv W n (l + 1) (fun j => f (2 * j)) (i % 2 ^ l)) (spl bits mo inv W n (l + 1) (fun j => f (2 * j)) (2 ^ l + i % 2 ^ l))
    (spl bits mo inv W n l (fun j => f (4 * j + 1)) (i % 2 ^ l)) (spl bits mo inv W n l (fun j => f (4 * j + 3)) (i % 2 ^ l)) (W (i % 2 ^ l * (n / 2 ^ (l + 2)))) (W (3 * (i % 2 ^ l) * (n / 2 ^ (l + 2))))
theorem spl_two (bits : Nat) (mo : Int) (inv : Bool) (W : Nat → Gi) (n l : Nat) (f : Nat → Gi) (i : Nat) : spl bits mo inv W n (l + 2) f i =
 joinG bits mo inv (i / 2 ^ l) (spl bits mo inv W n (l + 1) (fun j => f (2 * j)) (i % 2 ^ l)) (spl bits mo inv W n (l + 1) (fun j => f (2 * j)) (2 ^ l + i % 2 ^ l))
  (spl bits mo inv W n l (fun j => f (4 * j + 1)) (i % 2 ^ l)) (spl bits mo inv W n l (fun j => f (4 * j + 3)) (i % 2 ^ l)) (W (i % 2 ^ l * (n / 2 ^ (l + 2)))) (W (3 * (i % 2 ^ l) * (n / 2 ^ (l + 2)))) := rfl
theorem spl_places (l i : Nat) : i % 2 ^ l < 2 ^ l ∧ 2 ^ l + i % 2 ^ l < 2 ^ (l + 1) ∧ (∀ j, j < 2 ^ (l + 1) → 2 * j < 2 ^ (l + 2)) ∧ ∀ j, j < 2 ^ l → 4 * j + 1 < 2 ^ (l + 2) ∧ 4 * j + 3 < 2 ^ (l + 2) := by
 have hp := Nat.mod_lt i (Nat.two_pow_pos l)
 have e1 : 2 ^ (l + 1) = 2 * 2 ^ l := by rw [Nat.pow_succ]; omega
 have e2 : 2 ^ (l + 2) = 4 * 2 ^ l := by rw [Nat.pow_succ, Nat.pow_succ]; omega
 rw [e1, e2]
 exact ⟨hp, by omega, fun j hj => by omega, fun j hj => by omega⟩
theorem spl_congr (bits : Nat) (mo : Int) (inv : Bool) (W : Nat → Gi) (n : Nat) : ∀ l (f g : Nat → Gi), (∀ i, i < 2 ^ l → f i = g i) → ∀ i, i < 2 ^ l → spl bits mo inv W n l f i = spl bits mo inv W n l g i
 | 0, f, g, h, i, hi => h i hi
 | 1, f, g, h, i, hi => by
   unfold spl;rw [h 0 (by omega), h 1 (by omega)]
 | l + 2, f, g, h, i, hi => by
   obtain ⟨h1, h2, h3, h4⟩ := spl_places l i;rw [spl_two, spl_two, spl_congr bits mo inv W n (l + 1) (fun j => f (2 * j)) (fun j => g (2 * j)) (fun j hj => h _ (h3 j hj)) _ (by omega), spl_congr bits mo inv W n (l + 1) (fun j => f (2 * j)) (fun j => g (2 * j)) (fun j hj => h _ (h3 j hj)) _ h2,
    spl_congr bits mo inv W n l (fun j => f (4 * j + 1)) (fun j => g (4 * j + 1)) (fun j hj => h _ (h4 j hj).1) _ h1, spl_congr bits mo inv W n l (fun j => f (4 * j + 3)) (fun j => g (4 * j + 3)) (fun j hj => h _ (h4 j hj).2) _ h1]
def Len (R : Int) (a : Gi) : Prop := a.re * a.re + a.im * a.im ≤ R * R
theorem sq_le (x R : Int) (hR : 0 ≤ R) (h : x * x ≤ R * R) : -R ≤ x ∧ x ≤ R := by
 constructor
 ·refine Int.not_lt.1 fun k => ?_
  have h1 := Int.mul_le_mul (a := R + 1) (b := R + 1) (c := -x) (d := -x) (by omega) (by omega) (by omega) (by omega);rw [Int.neg_mul_neg] at h1
  have h2 : (R + 1) * (R + 1) = R * R + 2 * R + 1 := by grind
  omega
 ·refine Int.not_lt.1 fun k => ?_
  have h1 := Int.mul_le_mul (a := R + 1) (b := R + 1) (c := x) (d := x) (by omega) (by omega) (by omega) (by omega)
  have h2 : (R + 1) * (R + 1) = R * R + 2 * R + 1 := by grind
  omega
theorem sq_nonneg12 (x : Int) : 0 ≤ x * x := by
 rcases Int.le_total 0 x with h | h
 ·exact Int.mul_nonneg h h
 ·rw [← Int.neg_mul_neg]; exact Int.mul_nonneg (by omega) (by omega)
theorem Len.bd {R : Int} {a : Gi} (hR : 0 ≤ R) (h : Len R a) : Bd R a := by
 unfold Len at h
 have h1 := sq_nonneg12 a.re
 have h2 := sq_nonneg12 a.im
 exact Bd.mk ⟨sq_le _ _ hR (by omega), sq_le _ _ hR (by omega)⟩
theorem Len.mono {R S : Int} {a : Gi} (hR : 0 ≤ R) (h : Len R a) (e : R ≤ S) : Len S a := Int.le_trans h (Int.mul_le_mul e e hR (by omega))
theorem Len.zero (R : Int) : Len R ⟨0, 0⟩ := by unfold Len; simpa using sq_nonneg12 R
theorem Len.mul {R S : Int} {a b : Gi} (hR : 0 ≤ R) (h : Len R a) (k : Len S b) : Len (R * S) (gmul a b) := by
 unfold Len gmul at *
 simp only
 have e : (a.re * b.re - a.im * b.im) * (a.re * b.re - a.im * b.im) + (a.re * b.im + a.im * b.re) * (a.re * b.im + a.im * b.re) = (a.re * a.re + a.im * a.im) * (b.re * b.re + b.im * b.im) := by grind
 rw [e, show R * S * (R * S) = (R * R) * (S * S) by grind]
 have h1 := sq_nonneg12 b.re
 have h2 := sq_nonneg12 b.im
 exact Int.mul_le_mul h k (by omega) (sq_nonneg12 R)
theorem Len.add {R S : Int} {a b : Gi} (hR : 0 ≤ R) (hS : 0 ≤ S) (h : Len R a) (k : Len S b) : Len (R + S) (gadd a b) := by
 unfold Len gadd at *
 simp only
 have hd : -(R * S) ≤ a.re * b.re + a.im * b.im ∧ a.re * b.re + a.im * b.im ≤ R * S := by
  refine sq_le _ _ (Int.mul_nonneg hR hS) ?_;have h1 := sq_nonneg12 (a.re * b.im - a.im * b.re);have h2 := sq_nonneg12 b.re;have h3 := sq_nonneg12 b.im
  have h4 : (a.re * a.re + a.im * a.im) * (b.re * b.re + b.im * b.im) ≤ (R * R) * (S * S) := Int.mul_le_mul h k (by omega) (sq_nonneg12 R)
  have e : (a.re * b.re + a.im * b.im) * (a.re * b.re + a.im * b.im) + (a.re * b.im - a.im * b.re) * (a.re * b.im - a.im * b.re) = (a.re * a.re + a.im * a.im) * (b.re * b.re + b.im * b.im) := by grind
  have e2 : R * S * (R * S) = (R * R) * (S * S) := by grind
  omega
 have e3 : (a.re + b.re) * (a.re + b.re) + (a.im + b.im) * (a.im + b.im) = (a.re * a.re + a.im * a.im) + 2 * (a.re * b.re + a.im * b.im) + (b.re * b.re + b.im * b.im) := by grind
 have e4 : (R + S) * (R + S) = R * R + 2 * (R * S) + S * S := by grind
 omega
theorem Len.neg {R : Int} {a : Gi} (h : Len R a) : Len R ⟨-a.re, -a.im⟩ := by
 unfold Len at *
 simp only [Int.neg_mul_neg]
 exact h
theorem Len.sub {R S : Int} {a b : Gi} (hR : 0 ≤ R) (hS : 0 ≤ S) (h : Len R a) (k : Len S b) : Len (R + S) (gsub a b) := by
 have e : gsub a b = gadd a ⟨-b.re, -b.im⟩ := by unfold gsub gadd; simp only [Int.sub_eq_add_neg]
 rw [e]
 exact h.add hR hS k.neg
theorem Len.turn {R : Int} {a : Gi} (h : Len R a) (q : Int) : Len R (Gi.turn q a) := by
 unfold Len at *
 have hc : q % 4 = 0 ∨ q % 4 = 1 ∨ q % 4 = 2 ∨ q % 4 = 3 := by omega
 rcases hc with e | e | e | e <;> (unfold Gi.turn; simp only [e]; first | exact h | (simp [Int.neg_mul_neg]; first | exact h | omega))
theorem Len.conj {R : Int} {a : Gi} (h : Len R a) : Len R a.conj := by
 unfold Len Gi.conj at *
 simp only [Int.neg_mul_neg]
 exact h
theorem Len.scale {R : Int} {a : Gi} (h : Len R a) (bits : Nat) : Len (R * 2 ^ bits) (gscale bits a) := by
 unfold Len gscale at *
 simp only
 generalize hP : (2 : Int) ^ bits = P
 have e : a.re * P * (a.re * P) + a.im * P * (a.im * P) = (a.re * a.re + a.im * a.im) * (P * P) := by grind
 rw [e, show R * P * (R * P) = R * R * (P * P) by grind]
 exact Int.mul_le_mul_of_nonneg_right h (sq_nonneg12 P)
theorem Len.rnd {R : Int} {a : Gi} (n : Nat) (mo : Int) (hm : mo = 0 ∨ mo = 1 ∨ mo = 2) (hR : 0 ≤ R) (h : Len (R * 2 ^ n) a) : Len (R + 2) (grnd n mo a) := by
 have h1 := rnd_off a.re n mo hm
 have h2 := rnd_off a.im n mo hm
 have hp := pow_pos2 n
 unfold grnd
 generalize Go.Proofs.YtdignnmpfkgkoaaGreat.rnd a.re n mo = x at *
 generalize Go.Proofs.YtdignnmpfkgkoaaGreat.rnd a.im n mo = y at *
 generalize (2 : Int) ^ n = P at *
 have he : Len (2 * P) ⟨x * P - a.re, y * P - a.im⟩ := by
  unfold Len
  simp only
  have e1 : (x * P - a.re) * (x * P - a.re) ≤ P * P := by
   have := Int.mul_le_mul (a := absI (x * P - a.re)) (b := absI (x * P - a.re)) (c := P) (d := P) (absI_le.2 (by omega)) (absI_le.2 (by omega)) (absI_nonneg _) (by omega)
   refine Int.le_trans (Int.le_of_eq ?_) this;unfold absI
   split
   ·rw [Int.neg_mul_neg]
   ·rfl
  have e2 : (y * P - a.im) * (y * P - a.im) ≤ P * P := by
   have := Int.mul_le_mul (a := absI (y * P - a.im)) (b := absI (y * P - a.im)) (c := P) (d := P) (absI_le.2 (by omega)) (absI_le.2 (by omega)) (absI_nonneg _) (by omega)
   refine Int.le_trans (Int.le_of_eq ?_) this;unfold absI
   split
   ·rw [Int.neg_mul_neg]
   ·rfl
  have e3 := sq_nonneg12 P
  have e4 : 2 * P * (2 * P) = 4 * (P * P) := by grind
  omega
 have ha := h.add (Int.mul_nonneg hR (by omega)) (by omega) he
 unfold Len gadd at ha
 unfold Len
 simp only at ha ⊢
 have e5 : a.re + (x * P - a.re) = x * P := by omega
 have e6 : a.im + (y * P - a.im) = y * P := by omega
 rw [e5, e6, show x * P * (x * P) + y * P * (y * P) = (x * x + y * y) * (P * P) by grind, show (R * P + 2 * P) * (R * P + 2 * P) = (R + 2) * (R + 2) * (P * P) by grind] at ha
 exact Int.le_of_mul_le_mul_right ha (Int.mul_pos hp hp)
theorem join_len (bits : Nat) (mo : Int) (inv : Bool) (q : Nat) (u v y z w w3 : Gi) (R : Int) (hm : mo = 0 ∨ mo = 1 ∨ mo = 2) (hR : 0 ≤ R) (hB : R ≤ 3 * 2 ^ bits) (hu : Len R u) (hv : Len R v) (hy : Len R y) (hz : Len R z) (hw : Len (2 ^ bits + 2) w) (hw3 : Len (2 ^ bits + 2) w3) :
 Len (R + 5) (joinG bits mo inv q u v y z w w3) := by
 have hp := pow_pos2 bits
 have hs : ∀ a, Len R a → Len (R * 2 ^ (bits + 1)) (gscale (bits + 1) a) := fun a h => h.scale _
 have ht : ∀ a b, Len R a → Len (2 ^ bits + 2) b → Len (R * (2 ^ bits + 2)) (gmul a b) := fun a b h k => h.mul hR k
 have e1 : R * 2 ^ (bits + 1) = 2 * (R * 2 ^ bits) := by rw [Int.pow_succ]; grind
 have e2 : R * (2 ^ bits + 2) = R * 2 ^ bits + 2 * R := by grind
 have e3 : (R + 3) * 2 ^ (bits + 2) = 4 * (R * 2 ^ bits) + 12 * 2 ^ bits := by rw [Int.pow_succ, Int.pow_succ]; grind
 have h0 : 0 ≤ R * 2 ^ bits := Int.mul_nonneg hR (by omega)
 have key : ∀ a b, Len (R * 2 ^ (bits + 1)) a → Len (R * (2 ^ bits + 2) + R * (2 ^ bits + 2)) b → Len ((R + 3) * 2 ^ (bits + 2)) (gadd a b) ∧ Len ((R + 3) * 2 ^ (bits + 2)) (gsub a b) := by
  intro a b ha hb
  exact ⟨(ha.add (by omega) (by omega) hb).mono (by omega) (by omega), (ha.sub (by omega) (by omega) hb).mono (by omega) (by omega)⟩
 have hp1 : Len (R * (2 ^ bits + 2) + R * (2 ^ bits + 2)) (gadd (gmul y w) (gmul z w3)) := (ht y w hy hw).add (by omega) (by omega) (ht z w3 hz hw3)
 have hp2 : Len (R * (2 ^ bits + 2) + R * (2 ^ bits + 2)) (Gi.turn (turns1 inv 1) (gsub (gmul y w) (gmul z w3))) := ((ht y w hy hw).sub (by omega) (by omega) (ht z w3 hz hw3)).turn _
 unfold joinG
 refine Len.mono (by omega) (Len.rnd (R := R + 3) (bits + 2) mo hm (by omega) ?_) (by omega)
 split
 ·split
  ·exact (key _ _ (hs v hv) hp2).2
  ·exact (key _ _ (hs u hu) hp1).2
 ·split
  ·exact (key _ _ (hs v hv) hp2).1
  ·exact (key _ _ (hs u hu) hp1).1
theorem spl_len (bits : Nat) (mo : Int) (inv : Bool) (W : Nat → Gi) (n : Nat) (hm : mo = 0 ∨ mo = 1 ∨ mo = 2) (hW : ∀ k, Len (2 ^ bits + 2) (W k)) : ∀ (l : Nat) (R : Int) (f : Nat → Gi), 0 ≤ R → R + 5 * l ≤ 3 * 2 ^ bits → (∀ i, i < 2 ^ l → Len R (f i)) →
 ∀ i, i < 2 ^ l → Len (R + 5 * l) (spl bits mo inv W n l f i)
 | 0, R, f, hR, hB, h, i, hi => by
   have := h i hi
   simpa [spl] using this
 | 1, R, f, hR, hB, h, i, hi => by
   have h0 := h 0 (by omega);have h1 := h 1 (by omega)
   have e : R * 2 ^ 1 = R + R := by omega
   unfold spl
   split
   ·refine Len.mono (by omega) (Len.rnd (R := R) 1 mo hm hR ?_) (by omega)
    rw [e]
    exact h0.add hR hR h1
   ·refine Len.mono (by omega) (Len.rnd (R := R) 1 mo hm hR ?_) (by omega)
    rw [e]
    exact h0.sub hR hR h1
 | l + 2, R, f, hR, hB, h, i, hi => by
   obtain ⟨h1, h2, h3, h4⟩ := spl_places l i;have ih1 := spl_len bits mo inv W n hm hW (l + 1) R (fun j => f (2 * j)) hR (by omega) (fun j hj => h _ (h3 j hj));have ih2 := spl_len bits mo inv W n hm hW l R (fun j => f (4 * j + 1)) hR (by omega) (fun j hj => h _ (h4 j hj).1);have ih3 := spl_len bits mo inv W n hm hW l R (fun j => f (4 * j + 3)) hR (by omega) (fun j hj => h _ (h4 j hj).2);rw [spl_two];refine Len.mono (by omega) (join_len bits mo inv _ _ _ _ _ _ _ (R + 5 * (l + 1 : Nat)) hm (by omega) (by omega) (ih1 _ (by omega)) (ih1 _ h2) ((ih2 _ h1).mono (by omega) (by omega)) ((ih3 _ h1).mono (by omega) (by omega)) (hW _) (hW _)) (by omega)
end
section
open Go.ChangeShapes Go.WideShapes Go.ChangeAt Go.RowKit
set_option linter.unusedVariables false
set_option maxRecDepth 100000
set_option maxHeartbeats 16000000
theorem tDown_c (b s mo n : Int) (hn : IntKind.i64.wrap (b + s) = n) (w : World) :
 CW 204 #[.agg #[b, s, mo]] w (.int .i64 n) :=by
 delta CW
 go_in
 go_wp2_with fail
 go_ret
 exact ⟨by rw [← hn]; rfl, (Gr.refl w).alloc _ _⟩
def SetsOk2 (b s mo : Int) : Prop := (0 ≤ b ∧ b ≤ 29) ∧ (0 ≤ s ∧ s ≤ 3) ∧ 0 ≤ mo ∧ mo ≤ 2
theorem tMayBe_last (b s mo x e : Int) (hb : 0 ≤ b ∧ b ≤ 29) (hs : 0 ≤ s ∧ s ≤ 3) (z : Bool) (hz : (e == 0) = z)
 (HS : Hid (∀ W, Calls Tryz.prog 70 #[.int .i64 0, .int .i64 (b + s), mo] W fun e' w' => e' = .returned (.tuple #[x, e]) ∧ Gr W w')) (w : World) :
 CW 201 #[.agg #[b, s, mo]] w (.bool z) :=by
 delta CW
 have HD := kh (tDown_c b s mo (b + s) (IntWalk.i64_in _ ⟨by omega, by omega⟩))
 go_in
 go_wp2_with fail
 obtain ⟨u, hU⟩ : ∃ u, u = w.alloc (.cells #[b, s, mo] 201) := ⟨_, rfl⟩
 have gu : Gr w u := by rw [hU]; exact (Gr.refl w).alloc _ _
 have zu : w.heap.size < u.heap.size := by rw [hU]; simp
 have d0 : u.cell? ⟨w.heap.size, 0, none⟩ = some (.int .i64 b) := by rw [hU]; go_simp
 have d1 : u.cell? ⟨w.heap.size, 1, none⟩ = some (.int .i64 s) := by rw [hU]; go_simp
 have d2 : u.cell? ⟨w.heap.size, 2, none⟩ = some (.int .i64 mo) := by rw [hU]; go_simp
 rw [← hU]
 clear hU
 go_region_held3 (fun W => W.cell? ⟨w.heap.size, 0, none⟩ = some (.int .i64 b) ∧ W.cell? ⟨w.heap.size, 1, none⟩ = some (.int .i64 s) ∧ W.cell? ⟨w.heap.size, 2, none⟩ = some (.int .i64 mo) ∧ Gr u W) (first | (go_split_ands; refine ⟨?_, ?_, ?_, ?_⟩; (all_goals (first | assumption | exact Gr.refl _ | exact Gr.drew (Gr.refl _) | exact Gr.drew (by assumption) | (go_keep; done) | ((refine (Gr.cell (by assumption) ?_).trans ?_ <;> (first | assumption)); done)))))
  (first | (go_at_call 204; go_split_ands; ((with_reducible refine (HD.out _).mono ?_); rintro e w' ⟨rfl, hg⟩; have hgw : Gr u w' := Gr.trans (by first | assumption | exact Gr.drew (Gr.refl _) | exact Gr.drew (by assumption) | exact Gr.refl _) hg)) | (go_at_call 70; go_split_ands; ((with_reducible refine (HS.out _).mono ?_); rintro e w' ⟨rfl, hg⟩; have hgw : Gr u w' := Gr.trans (by first | assumption | exact Gr.drew (Gr.refl _) | exact Gr.drew (by assumption) | exact Gr.refl _) hg)))
 go_wp2_with fail
 go_ret
 exact ⟨rfl, gu.trans (by (try go_split_ands); assumption)⟩
theorem tMayBe_yes (b s mo : Int) (h : SetsOk2 b s mo) (w : World) :
 CW 201 #[.agg #[b, s, mo]] w (.bool true) :=by
 delta CW
 obtain ⟨h1, h2, h3, h4⟩ := h
 exact tMayBe_last b s mo _ 0 h1 h2 true rfl (kh (shift_ok 0 (b + s) mo (by omega) (by omega) (by omega) h3 h4)) w
theorem tMayBe_no (b s mo : Int) (h : ¬ SetsOk2 b s mo) (w : World) :
 CW 201 #[.agg #[b, s, mo]] w (.bool false) :=by
 delta CW
 unfold SetsOk2 at h
 by_cases hb : 0 ≤ b ∧ b ≤ 29
 ·by_cases hs : 0 ≤ s ∧ s ≤ 3
  ·exact tMayBe_last b s mo 0 1 hb hs false rfl (kh (shift_bad 0 (b + s) mo (.inl (by omega)))) w
  ·have hc : s < 0 ∨ (0 ≤ s ∧ 3 < s) := by omega
   obtain ⟨b0, b1⟩ := hb;clear h hs
   rcases hc with h1 | ⟨h1, h2⟩
   all_goals
    go_in;go_wp2_with fail
    go_ret
    exact ⟨rfl, (Gr.refl w).alloc _ _⟩
 ·have hc : b < 0 ∨ (0 ≤ b ∧ 29 < b) := by omega
  clear h hb
  rcases hc with h1 | ⟨h1, h2⟩
  all_goals
   go_in;go_wp2_with fail
   go_ret
   exact ⟨rfl, (Gr.refl w).alloc _ _⟩
theorem tWithin_c (v : Value) (xs : List Gi) (l : Int) (hl0 : 0 ≤ l) (hl1 : l ≤ 2147483648) (w : World) (hv : CxsAt w v xs) :
 CW 202 #[l, v] w (.bool (allIn l xs)) :=by
 delta CW
 by_cases hx : xs = []
 ·subst hx
  obtain ⟨p, cap, rfl⟩ := hv.len;rw [show ([] : List Gi).length = 0 from rfl];clear hv;go_in;go_wp2_with fail;refine wp_loop_rounds 1 ?_;rw [rounds_succ];go_wp2_with fail
  go_ret
  exact ⟨rfl, Gr.refl _⟩
 ·obtain ⟨b, o, cap, rfl, hlen, hb, hc⟩ := hv.at hx
  have HC := kh hc;have HN := kh fun (k : Nat) (a : Gi) (h : xs[k]? = some a) => allIn_no (l := l) h
  have HS := kh fun (k : Nat) (a : Gi) (h : xs[k]? = some a) => allIn_snoc (l := l) h
  have HA : allIn l (xs.take xs.length) = allIn l xs := by rw [List.take_length]
  clear hc hv hx;go_in;go_wp2_with fail
  go_loopw [6, 9] (fun _ i wr => ∃ k : Nat, k ≤ xs.length ∧ i = .int .i64 k ∧ allIn l (xs.take k) = true ∧ Gr w wr) (fun _ i _ => xs.length - (intOf i).toNat)
  case atStart => exact ⟨0, Nat.zero_le _, rfl, rfl, Gr.refl _⟩
  case round =>
   obtain ⟨k, hk, rfl, hall, hl⟩ := hrel
   by_cases hlt : k < xs.length
   ·obtain ⟨x, hx⟩ := get_of_lt hlt
    have h1 := (hl.cell (p := ⟨b, o + k * 2, none⟩) hb).trans (HC.out k x hx).1;have h2 := (hl.cell (p := ⟨b, o + k * 2 + 1, none⟩) hb).trans (HC.out k x hx).2
    have hbl : b < wr.heap.size := Nat.lt_of_lt_of_le hb hl.size
    have HN1 := kh (HN.out k x hx);have HS1 := kh (HS.out k x hx hall);obtain ⟨re, im⟩ := x
    simp only at h1 h2 HN1 HS1
    clear hx hall HA HN HS HC
    have hll : IntKind.i64.wrap (-l) = -l := IntWalk.i64_in _ ⟨by omega, by omega⟩
    have hu : ∀ a b, ∀ c d : Int, (inB l a && inB l b) = true → -l ≤ a ∧ a ≤ l ∧ -l ≤ b ∧ b ≤ l := by
     intro a b c d h
     rw [Bool.and_eq_true, inB_iff, inB_iff] at h
     omega
    by_cases hq : (inB l re && inB l im) = true
    ·have HS2 := kh (HS1.out hq)
     obtain ⟨q1, q2, q3, q4⟩ := hu re im 0 0 hq;clear HN1 HS1 hq hu
     by_cases hm : im < re
     ·go_wp2_with fail
      go_roundw
      case rel => exact ⟨k + 1, by omega, by go_num, HS2.out, hl.alloc _ _⟩
      case measure => simp [intOf]; omega
     ·go_wp2_with fail
      go_roundw
      case rel => exact ⟨k + 1, by omega, by go_num, HS2.out, hl.alloc _ _⟩
      case measure => simp [intOf]; omega
    ·have hq' : (inB l re && inB l im) = false := by simpa using hq
     have HN2 := kh (HN1.out hq')
     have hor : re < -l ∨ l < re ∨ im < -l ∨ l < im := by
      refine Classical.byContradiction fun h => hq ?_
      rw [Bool.and_eq_true, inB_iff, inB_iff]
      omega
     clear HN1 HS1 hq hq' hu
     have hcs : (im < re ∧ im < -l) ∨ (im < re ∧ -l ≤ im ∧ l < re) ∨ (re ≤ im ∧ re < -l) ∨ (re ≤ im ∧ -l ≤ re ∧ l < im) := by omega
     clear hor
     rcases hcs with ⟨t1, t2⟩ | ⟨t1, t2, t3⟩ | ⟨t1, t2⟩ | ⟨t1, t2, t3⟩
     all_goals
      go_wp2_with fail
     all_goals
      go_ret
      exact ⟨by rw [HN2.out]; rfl, hl.alloc _ _⟩
   ·obtain rfl : k = xs.length := by omega
    rw [HA] at hall;have HL := kh hall;clear hall HA;go_wp2_with fail
    go_ret
    exact ⟨by rw [HL.out]; rfl, hl⟩
def HalfOk2 (h : Int) (n : Nat) : Prop := ∃ k : Nat, 2 ^ k < n ∧ h = ((2 ^ k : Nat) : Int)
theorem tHalves_c (h : Int) (n : Nat) (hn : n ≤ 70) (b : Bool) (hb : b = true ↔ HalfOk2 h n) (w : World) :
 Calls Tryz.prog 200 #[h, n] w fun e w' => e = .returned (.bool b) ∧ w' = w := by
 have HB := kh hb
 clear hb
 go_in
 go_wp2_with fail
 go_loop [5] (fun v => ∃ j p : Nat, j ≤ 7 ∧ p = 2 ^ j ∧ p ≤ 128 ∧ v = .int .i64 p ∧ ∀ i, i < j → h ≠ ((2 ^ i : Nat) : Int)) (fun v => 128 - (intOf v).toNat)
 case atStart => exact ⟨0, 1, by omega, rfl, by omega, rfl, fun i hi => absurd hi (Nat.not_lt_zero _)⟩
 case round =>
  obtain ⟨j, p, hj, hp, hp128, rfl, hall⟩ := hrel;have HP := kh (And.intro hp hall)
  have hp1 : 1 ≤ p := by rw [hp]; exact Nat.one_le_two_pow
  clear hp hall
  by_cases hlt : p < n
  ·have hlt2 : (p : Int) < n := by omega
   by_cases he : h = (p : Int)
   ·obtain rfl : b = true := HB.out.2 ⟨j, by rw [← HP.out.1]; exact hlt, by rw [← HP.out.1]; exact he⟩
    have he2 : (h == (p : Int)) = true := by simpa using he
    clear he;go_wp2_with fail
    go_ret
    exact ⟨rfl, rfl⟩
   ·have he2 : (h == (p : Int)) = false := by simpa using he
    have HE := kh he;clear he
    have hj6 : j ≤ 6 := by
     rcases Nat.lt_or_ge j 7 with g | g
     ·omega
     ·have e7 : j = 7 := by omega
      have := HP.out.1
      rw [e7] at this
      omega
    go_wp2_with fail
    go_round
    case rel =>
     refine ⟨j + 1, 2 * p, by omega, by rw [HP.out.1, Nat.pow_succ]; omega, ?_, by go_num, fun i hi => ?_⟩
     ·have : 2 ^ (j + 1) ≤ 2 ^ 7 := Nat.pow_le_pow_right (by omega) (by omega)
      rw [HP.out.1];rw [Nat.pow_succ] at this
      omega
     ·rcases Nat.lt_or_ge i j with g | g
      ·exact HP.out.2 i g
      ·obtain rfl : i = j := by omega
       rw [← HP.out.1]
       exact HE.out
    case measure => simp [intOf] <;> omega
  ·have hlt2 : (n : Int) ≤ p := by omega
   have hbf : b = false := by
    cases hbb : b
    ·rfl
    ·obtain ⟨k, h1, h2⟩ := HB.out.1 hbb
     have hkj : k < j := by
      rcases Nat.lt_or_ge k j with g | g
      ·exact g
      ·have := Nat.pow_le_pow_right (n := 2) (by omega) g
       have := HP.out.1
       omega
     exact absurd h2 (HP.out.2 k hkj)
   subst hbf;clear HB;go_wp2_with fail
   go_ret
   exact ⟨rfl, rfl⟩
theorem tAsked_c (g : Gi) (inv : Bool) (l : Int) (hl : l ≤ 2147483648) (hg : absI g.re ≤ l ∧ absI g.im ≤ l) (w : World) :
 CW 185 #[.agg #[g.re, g.im], inv] w (.agg #[(if inv then g.conj else g).re, (if inv then g.conj else g).im]) :=by
 delta CW
 have h1 := absI_le.1 hg.1
 have h2 := absI_le.1 hg.2
 have HC := kh (cxconj_ok g.re g.im (by simp only [Bool.and_eq_true, inB_iff]; omega))
 obtain ⟨re, im⟩ := g
 simp only at HC
 clear hg h1 h2
 cases inv
 ·simp only [Bool.false_eq_true, if_false]
  go_in;go_wp2_with fail;refine bodyPost_ret (v := .agg #[re, im]) ?_ rfl ⟨rfl, ?_⟩
  ·simp [results, Tryz.results185, go_sem]
  ·exact by repeat (first | exact Gr.refl _ | assumption | apply Gr.drew | apply Gr.alloc | (refine Gr.setCell ?_ (by first | (simp; done) | (simp; omega)) _))
 ·simp only [if_true, Gi.conj]
  go_in;go_wp2_with fail;have R0 := (CellsAt.new w 50 #[re, im]).alloc (.cells #[.int .i64 0, .int .i64 0] 50);have R1 := CellsAt.new (w.alloc (.cells #[re, im] 50)) 50 #[.int .i64 0, .int .i64 0];have g0 := ((Gr.refl w).alloc #[re, im] 50).alloc #[.int .i64 0, .int .i64 0] 50;rw [World.size_alloc] at R1;refine (HC.out _).mono ?_;rintro e w2 ⟨rfl, g2⟩;have S0 := R0.gr g2;have S1 := R1.gr g2;have gw := g0.trans g2;have c0 := S0.cell 0;have c1 := S0.cell 1;obtain ⟨f0, f1⟩ := S0.f2;have c2 := S1.cell 0;have c3 := S1.cell 1;obtain ⟨f2, f3⟩ := S1.f2;have hl2 := S1.lt;have hl0 := S0.lt;simp only [getS] at c0 c1 c2 c3;clear R0 R1 g0 S0 S1 g2;go_wp2_with fail;refine bodyPost_ret (v := .agg #[re, .int .i64 (-im)]) ?_ rfl ⟨rfl, ?_⟩
  ·simp [results, Tryz.f185, go_sem, c2, c3]
  ·exact ((((gw.setCell (a := ⟨w.heap.size, 0, none⟩) (by simp) _).setCell (a := ⟨w.heap.size, 1, none⟩) (by simp) _)).setCell (by simp) _).setCell (by simp) _
theorem q4g (q : Int) : q % 4 = 0 ∨ q % 4 = 1 ∨ q % 4 = 2 ∨ q % 4 = 3 := by omega
theorem rturn_gi (a : Gi) (q : Int) (h : a.re.natAbs ≤ 2305843009213693952 ∧ a.im.natAbs ≤ 2305843009213693952) (w : World) :
 CW 80 #[.agg #[a.re, a.im], q] w (.agg #[(a.turn q).re, (a.turn q).im]) :=by
 delta CW
 have h0 : wrap64 (-a.re) = -a.re := IntWalk.wrap64_in _ (by omega)
 have h1 : wrap64 (-a.im) = -a.im := IntWalk.wrap64_in _ (by omega)
 have ht := tmod4 q
 unfold Gi.turn
 rcases q4g q with hm | hm | hm | hm <;> rw [hm] at ht <;> simp only [hm]
 ·exact rturn_0 a.re a.im q _ _ _ h0 h1 rfl (by omega) w
 ·exact rturn_1 a.re a.im q _ _ _ h0 h1 rfl (by omega) w
 ·exact rturn_2 a.re a.im q _ _ _ h0 h1 rfl (by omega) w
 ·exact rturn_3 a.re a.im q _ _ _ h0 h1 rfl (by omega) w
theorem rconj_gi (a : Gi) (h : a.im.natAbs ≤ 2305843009213693952) (w : World) :
 Calls Tryz.prog 79 #[.agg #[a.re, a.im]] w fun e w' => e = .returned (.agg #[a.conj.re, a.conj.im]) ∧ Gr w w' :=
 rconj_c a.re a.im _ (IntWalk.wrap64_in _ (by omega)) w
theorem cxconj_gi (a : Gi) (h : a.re.natAbs ≤ 2305843009213693952 ∧ a.im.natAbs ≤ 2305843009213693952) (w : World) :
 Calls Tryz.prog 116 #[.agg #[a.re, a.im]] w fun e w' => e = .returned (.tuple #[.agg #[a.conj.re, a.conj.im], .int .i64 0]) ∧ Gr w w' :=
 cxconj_ok a.re a.im (by simp only [Bool.and_eq_true, inB_iff]; omega) w
theorem cxturn_gi (a : Gi) (q : Int) (h : a.re.natAbs ≤ 2305843009213693952 ∧ a.im.natAbs ≤ 2305843009213693952) (w : World) :
 CW 125 #[.agg #[a.re, a.im], q] w (.tuple #[.agg #[(a.turn q).re, (a.turn q).im], .int .i64 0]) :=by
 delta CW
 have hB : (inB 2305843009213693952 a.re && inB 2305843009213693952 a.im) = true := by simp only [Bool.and_eq_true, inB_iff]; omega
 have ha := and3 q
 unfold Gi.turn
 rcases q4g q with hm | hm | hm | hm <;> rw [hm] at ha <;> simp only [hm]
 ·exact cxturn_0 a.re a.im q hB ha w
 ·exact cxturn_1 a.re a.im q hB ha w
 ·exact cxturn_2 a.re a.im q hB ha w
 ·exact cxturn_3 a.re a.im q hB ha w
theorem cxtimes_gi (a w : Gi) (ha : absI a.re ≤ 2147483648 ∧ absI a.im ≤ 2147483648) (hw : absI w.re ≤ 1073741824 ∧ absI w.im ≤ 1073741824) (W : World) :
 Calls Tryz.prog 128 #[.agg #[a.re, a.im], .agg #[w.re, w.im]] W fun e w' => e = .returned (.tuple #[.agg #[(gmul a w).re, (gmul a w).im], .int .i64 0]) ∧ Gr W w' := by
 have a1 := absI_le.1 ha.1
 have a2 := absI_le.1 ha.2
 have b1 := absI_le.1 hw.1
 have b2 := absI_le.1 hw.2
 exact cxtimes_ok a.re a.im w.re w.im (by simp only [Bool.or_eq_true, Bool.and_eq_true, inB_iff]; omega) W
theorem cxshift_gi (a : Gi) (n : Nat) (mo : Int) (h : (-9223372036854775808 ≤ a.re ∧ a.re ≤ 9223372036854775807) ∧ -9223372036854775808 ≤ a.im ∧ a.im ≤ 9223372036854775807) (hn : n ≤ 62) (m0 : 0 ≤ mo) (m1 : mo ≤ 2) (W : World) :
 Calls Tryz.prog 129 #[.agg #[a.re, a.im], (n : Int), mo] W fun e w' => e = .returned (.tuple #[.agg #[(grnd n mo a).re, (grnd n mo a).im], .int .i64 0]) ∧ Gr W w' := by
 have := cxshift_ok a.re a.im (n : Int) mo h.1 h.2 (by omega) (by omega) m0 m1 W
 rwa [Int.toNat_natCast] at this
theorem rtimes_gi (a w : Gi) (ha : absI a.re ≤ 2147483648 ∧ absI a.im ≤ 2147483648) (hw : absI w.re ≤ 1073741824 ∧ absI w.im ≤ 1073741824) (W : World) :
 Calls Tryz.prog 84 #[.agg #[a.re, a.im], .agg #[w.re, w.im]] W fun e w' => e = .returned (.agg #[(gmul a w).re, (gmul a w).im]) ∧ Gr W w' := by
 have a1 := absI_le.1 ha.1
 have a2 := absI_le.1 ha.2
 have b1 := absI_le.1 hw.1
 have b2 := absI_le.1 hw.2
 have m1 := mulG_bd a.re w.re 2147483648 1073741824 (by omega) a1 b1
 have m2 := mulG_bd a.im w.im 2147483648 1073741824 (by omega) a2 b2
 have m3 := mulG_bd a.re w.im 2147483648 1073741824 (by omega) a1 b2
 have m4 := mulG_bd a.im w.re 2147483648 1073741824 (by omega) a2 b1
 exact rtimes_c a.re a.im w.re w.im _ _ _ _ _ _ (IntWalk.wrap64_in _ (by omega)) (IntWalk.wrap64_in _ (by omega)) (IntWalk.wrap64_in _ (by omega)) (IntWalk.wrap64_in _ (by omega)) (IntWalk.wrap64_in _ (by omega)) (IntWalk.wrap64_in _ (by omega)) W
theorem rsum_gi (a b : Gi) (h0 : -9223372036854775808 ≤ a.re + b.re ∧ a.re + b.re ≤ 9223372036854775807) (h1 : -9223372036854775808 ≤ a.im + b.im ∧ a.im + b.im ≤ 9223372036854775807) (W : World) :
 Calls Tryz.prog 82 #[.agg #[a.re, a.im], .agg #[b.re, b.im]] W fun e w' => e = .returned (.agg #[(gadd a b).re, (gadd a b).im]) ∧ Gr W w' :=
 rsum_c a.re a.im b.re b.im _ _ (IntWalk.wrap64_in _ h0) (IntWalk.wrap64_in _ h1) W
theorem rshift03_gi (a : Gi) (n : Nat) (mo : Int) (h : (-9223372036854775808 ≤ a.re ∧ a.re ≤ 9223372036854775807) ∧ -9223372036854775808 ≤ a.im ∧ a.im ≤ 9223372036854775807) (hn : n ≤ 62) (m0 : 0 ≤ mo) (m1 : mo ≤ 2) (w : World) :
 CW 85 #[.agg #[a.re, a.im], (n : Int), mo] w (.agg #[(grnd n mo a).re, (grnd n mo a).im]) :=by
 delta CW
 have HX := kh (refShift_c a.re (n : Int) mo h.1 (by omega) (by omega) m0 m1)
 have HY := kh (refShift_c a.im (n : Int) mo h.2 (by omega) (by omega) m0 m1)
 rw [Int.toNat_natCast] at HX HY
 unfold grnd
 obtain ⟨x, y⟩ := a
 simp only at HX HY ⊢
 generalize rnd x n mo = r0 at HX ⊢
 generalize rnd y n mo = r1 at HY ⊢
 clear h hn m0 m1
 go_in
 go_wp2_with fail
 go_region_held3 (fun W => W.cell? ⟨w.heap.size, 0, none⟩ = some (.int .i64 x) ∧ W.cell? ⟨w.heap.size, 1, none⟩ = some (.int .i64 y))
  (go_keep)
  (first | (go_at_call 135; ((with_reducible refine (HX.out _).mono ?_); rintro e w' ⟨rfl, rfl⟩)) | (go_at_call 135; ((with_reducible refine (HY.out _).mono ?_); rintro e w' ⟨rfl, rfl⟩)))
 go_wp2
 refine bodyPost_ret (v := .agg #[r0, r1]) ?_ rfl ⟨rfl, ?_⟩
 ·simp [results, Tryz.results85, go_sem]
 ·exact by repeat (first | exact Gr.refl _ | assumption | apply Gr.drew | apply Gr.alloc | (refine Gr.setCell ?_ (by first | (simp; done) | (simp; omega)) _))
end
end Go.Proofs.YtdignnmpfkgkoaaGreat
