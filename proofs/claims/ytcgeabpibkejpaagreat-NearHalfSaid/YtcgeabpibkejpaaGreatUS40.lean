import Derived.Test.YtcgeabpibkejpaaGreatUS39
namespace Go.Proofs.YtcgeabpibkejpaaGreat
section
set_option linter.unusedVariables false
set_option linter.unusedSimpArgs false
set_option maxRecDepth 100000
theorem gi_eq {a b : Gi} (h1 : a.re = b.re) (h2 : a.im = b.im) : a = b := Gi.ext2 h1 h2
def csum (f : Nat → Gi) (m : Nat) : Gi := ⟨isum (fun t => (f t).re) m, isum (fun t => (f t).im) m⟩
theorem csum_next (f : Nat → Gi) (m : Nat) : csum f (m + 1) = gadd (csum f m) (f m) := rfl
theorem csum_len (f : Nat → Gi) (R : Int) (hR : 0 ≤ R) : ∀ m, (∀ t, t < m → Len R (f t)) → Len (m * R) (csum f m)
 | 0, _ => by
   have : csum f 0 = ⟨0, 0⟩ := rfl
   rw [this]
   exact Len.zero _
 | m + 1, h => by
   have h1 := csum_len f R hR m (fun t ht => h t (by omega))
   rw [csum_next, show ((m + 1 : Nat) : Int) * R = m * R + R by grind]
   exact Len.add (Int.mul_nonneg (by omega) hR) hR h1 (h m (by omega))
theorem csum_congr {f g : Nat → Gi} {m : Nat} (h : ∀ t, t < m → f t = g t) : csum f m = csum g m := by
 unfold csum
 rw [isum_congr (f := fun t => (f t).re) (g := fun t => (g t).re) (fun t ht => by rw [h t ht]), isum_congr (f := fun t => (f t).im) (g := fun t => (g t).im) (fun t ht => by rw [h t ht])]
theorem csum_mul (f : Nat → Gi) (w : Gi) : ∀ m, gmul (csum f m) w = csum (fun t => gmul (f t) w) m
 | 0 => by simp [csum, isum, gmul]
 | m + 1 => by
   rw [csum_next, csum_next, ← csum_mul f w m]
   apply gi_eq <;> simp only [gmul, gadd] <;> grind
theorem csum_up (f : Nat → Gi) (s : Int) : ∀ m, gup s (csum f m) = csum (fun t => gup s (f t)) m
 | 0 => by simp [csum, isum, gup]
 | m + 1 => by
   rw [csum_next, csum_next, ← csum_up f s m]
   apply gi_eq <;> simp only [gup, gadd] <;> grind
theorem csum_sub (f g : Nat → Gi) : ∀ m, gsubS (csum f m) (csum g m) = csum (fun t => gsubS (f t) (g t)) m
 | 0 => by simp [csum, isum, gsubS]
 | m + 1 => by
   rw [csum_next, csum_next, csum_next, ← csum_sub f g m]
   apply gi_eq <;> simp only [gsubS, gadd] <;> omega
theorem isum_two_parts (f : Nat → Int) : ∀ m, isum f (2 * m) = isum (fun t => f (2 * t)) m + isum (fun t => f (2 * t + 1)) m
 | 0 => rfl
 | m + 1 => by
   rw [show 2 * (m + 1) = 2 * m + 1 + 1 by omega]
   simp only [isum]
   rw [isum_two_parts f m]
   omega
theorem csum_parts (f : Nat → Gi) (m : Nat) : csum f (2 * m) = gadd (csum (fun t => f (2 * t)) m) (csum (fun t => f (2 * t + 1)) m) := by
 apply gi_eq
 ·exact isum_two_parts _ m
 ·exact isum_two_parts _ m
def fsum (n : Nat) (xs : List Gi) (iv : Bool) (s d e g m : Nat) : Gi := csum (fun t => gmul (xs.getD (s + d * t) ⟨0, 0⟩) (wv n iv (e + g * t))) m
theorem fsum_parts (n : Nat) (xs : List Gi) (iv : Bool) (s d g m : Nat) : fsum n xs iv s d 0 g (2 * m) = gadd (fsum n xs iv s (2 * d) 0 (2 * g) m) (fsum n xs iv (s + d) (2 * d) g (2 * g) m) := by
 unfold fsum
 rw [csum_parts]
 congr 1
 ·exact csum_congr fun t _ => by rw [show d * (2 * t) = 2 * d * t by rw [Nat.mul_left_comm, Nat.mul_assoc], show g * (2 * t) = 2 * g * t by rw [Nat.mul_left_comm, Nat.mul_assoc]]
 ·exact csum_congr fun t _ => by
   rw [show s + d * (2 * t + 1) = s + d + 2 * d * t by rw [Nat.mul_add, Nat.mul_left_comm, Nat.mul_assoc]; omega, show 0 + g * (2 * t + 1) = g + 2 * g * t by rw [Nat.mul_add, Nat.mul_left_comm, Nat.mul_assoc]; omega]
theorem fsum_turns (n : Nat) (hn : IsLen n) (xs : List Gi) (iv : Bool) (s d e e' g g' m : Nat) (he : ∃ q, e' = e + n * q) (hg : ∃ q, g' = g + n * q) : fsum n xs iv s d e' g' m = fsum n xs iv s d e g m := by
 obtain ⟨q, rfl⟩ := he
 obtain ⟨r, rfl⟩ := hg
 unfold fsum
 exact csum_congr fun t _ => by rw [show e + n * q + (g + n * r) * t = e + g * t + n * (q + r * t) by rw [Nat.add_mul, Nat.mul_add, Nat.mul_assoc n r t]; omega, wv_again n hn]
theorem fsum_half (n : Nat) (hn : IsLen n) (xs : List Gi) (iv : Bool) (s d e g m : Nat) : fsum n xs iv s d (e + n / 2) g m = gneg (fsum n xs iv s d e g m) := by
 unfold fsum
 have h : ∀ f : Nat → Gi, csum (fun t => gneg (f t)) m = gneg (csum f m) := fun f => by
  apply gi_eq
  ·exact isum_neg _ m
  ·exact isum_neg _ m
 rw [← h]
 exact csum_congr fun t _ => by
  rw [show e + n / 2 + g * t = e + g * t + n / 2 by omega, wv_half n hn]
  apply gi_eq <;> simp only [gmul, gneg] <;> grind
theorem fsum_moved (n : Nat) (hn : IsLen n) (xs : List Gi) (iv : Bool) (s d e g m : Nat) (X : Int) (hX : 0 ≤ X) (hx : ∀ j, Len X (xs.getD j ⟨0, 0⟩)) :
 Len (m * (X * 1649267441664)) (gsubS (gmul (fsum n xs iv s d 0 g m) (wv n iv e)) (gup 1099511627776 (fsum n xs iv s d e g m))) := by
 unfold fsum
 rw [csum_mul, csum_up, csum_sub]
 refine csum_len _ _ (Int.mul_nonneg hX (by decide)) m fun t _ => ?_
 have h := Len.mul hX (hx (s + d * t)) (prod_near n hn iv (0 + g * t) e)
 rw [show 0 + g * t + e = e + g * t by omega] at h
 refine Eq.mp (congrArg _ ?_) h
 apply gi_eq <;> simp only [gmul, gsubS, gup] <;> grind
def Near (e : Int) (pow : Nat) (c V : Gi) : Prop := Len (e * 2 ^ (pow + 40)) (gsubS (gup (64 * 2 ^ (pow + 40)) c) (gup 64 V))
theorem Len.up {R s : Int} {a : Gi} (hs : 0 ≤ s) (h : Len R a) : Len (R * s) (gup s a) := by
 unfold Len gup
 unfold Len at h
 simp only
 have e1 : a.re * s * (a.re * s) + a.im * s * (a.im * s) = (a.re * a.re + a.im * a.im) * (s * s) := by grind
 have e2 : R * s * (R * s) = R * R * (s * s) := by grind
 rw [e1, e2]
 exact Int.mul_le_mul_of_nonneg_right h (Int.mul_nonneg hs hs)
theorem Len.down {R s : Int} {a : Gi} (hs : 0 < s) (h : Len (R * s) (gup s a)) : Len R a := by
 unfold Len gup at h
 unfold Len
 simp only at h
 have e1 : a.re * s * (a.re * s) + a.im * s * (a.im * s) = (a.re * a.re + a.im * a.im) * (s * s) := by grind
 have e2 : R * s * (R * s) = R * R * (s * s) := by grind
 rw [e1, e2] at h
 exact Int.le_of_mul_le_mul_right h (Int.mul_pos hs hs)
theorem near_rnd (x : Int) (n : Nat) (mo : Int) (hm : mo = 0 ∨ mo = 1 ∨ mo = 2) : -(2 ^ n) ≤ 2 ^ n * rnd x n mo - x ∧ 2 ^ n * rnd x n mo - x ≤ 2 ^ n := by
 have hp : (0 : Int) < 2 ^ n := Int.pow_pos (by decide)
 have h1 := Int.emod_nonneg x (Int.ne_of_gt hp)
 have h2 := Int.emod_lt_of_pos x hp
 have h3 := Int.mul_ediv_add_emod x (2 ^ n)
 unfold rnd
 generalize (2 : Int) ^ n = P at *
 generalize x / P = q at *
 generalize x % P = r at *
 cases goesUp mo q r P
 ·simp only [cond_false]
  omega
 ·simp only [cond_true, Int.mul_add, Int.mul_one]
  omega
theorem gnear_rnd (n : Nat) (mo : Int) (hm : mo = 0 ∨ mo = 1 ∨ mo = 2) (a : Gi) : Len (91 * 2 ^ n) (gup 64 (gsubS (gup (2 ^ n) (grnd n mo a)) a)) := by
 have h1 := near_rnd a.re n mo hm
 have h2 := near_rnd a.im n mo hm
 have hp : (0 : Int) < 2 ^ n := Int.pow_pos (by decide)
 unfold Len gup gsubS grnd
 simp only
 rw [Int.mul_comm (rnd a.re n mo), Int.mul_comm (rnd a.im n mo)]
 generalize 2 ^ n * rnd a.re n mo - a.re = x at *
 generalize 2 ^ n * rnd a.im n mo - a.im = y at *
 generalize (2 : Int) ^ n = P at *
 have s1 : x * x ≤ P * P := by
  have : 0 ≤ (P - x) * (P + x) := Int.mul_nonneg (by omega) (by omega)
  have e : (P - x) * (P + x) = P * P - x * x := by grind
  omega
 have s2 : y * y ≤ P * P := by
  have : 0 ≤ (P - y) * (P + y) := Int.mul_nonneg (by omega) (by omega)
  have e : (P - y) * (P + y) = P * P - y * y := by grind
  omega
 have e1 : x * 64 * (x * 64) + y * 64 * (y * 64) = 4096 * (x * x) + 4096 * (y * y) := by grind
 have e2 : 91 * P * (91 * P) = 8281 * (P * P) := by grind
 rw [e1, e2]
 have hPP := Int.mul_nonneg (Int.le_of_lt hp) (Int.le_of_lt hp)
 omega
theorem term_near {e R δ H : Int} {pow B : Nat} {c V w A U : Gi} (he : 0 ≤ e) (hR : 0 ≤ R) (hδ : 0 ≤ δ) (hH : 0 ≤ H) (hB : B ≤ 40) (hc : Near e pow c V) (hcR : Len R c) (hw : Len δ (gsubS (gup (2 ^ (40 - B)) w) A)) (hA : Len 1099511627777 A) (hU : Len H (gsubS (gmul V A) (gup 1099511627776 U))) :
 Len (64 * 2 ^ (pow + 40) * (R * δ) + e * 2 ^ (pow + 40) * 1099511627777 + 64 * H) (gup 1099511627776 (gsubS (gup (64 * 2 ^ (pow + 40 - B)) (gmul c w)) (gup 64 U))) := by
 have hp : (0 : Int) ≤ 2 ^ (pow + 40) := Int.le_of_lt (Int.pow_pos (by decide))
 have t1 := Len.up (s := 64 * 2 ^ (pow + 40)) (by omega) (Len.mul hR hcR hw)
 have t2 := Len.mul (Int.mul_nonneg he hp) hc hA
 have t3 := Len.up (s := 64) (by decide) hU
 have hs := Len.add (Int.add_nonneg (Int.mul_nonneg (Int.mul_nonneg hR hδ) (by omega)) (Int.mul_nonneg (Int.mul_nonneg he hp) (by decide))) (Int.mul_nonneg hH (by decide)) (Len.add (Int.mul_nonneg (Int.mul_nonneg hR hδ) (by omega)) (Int.mul_nonneg (Int.mul_nonneg he hp) (by decide)) t1 t2) t3
 have eR : R * δ * (64 * 2 ^ (pow + 40)) + e * 2 ^ (pow + 40) * 1099511627777 + H * 64 = 64 * 2 ^ (pow + 40) * (R * δ) + e * 2 ^ (pow + 40) * 1099511627777 + 64 * H := by grind
 rw [eR] at hs
 have ep : (2 : Int) ^ (pow + 40 - B) * 1099511627776 = 2 ^ (pow + 40) * 2 ^ (40 - B) := by
  have h1 : (2 : Int) ^ (pow + 40) = 2 ^ (pow + 40 - B) * 2 ^ B := by rw [← Int.pow_add]; congr 1; omega
  have h2 : (2 : Int) ^ B * 2 ^ (40 - B) = 1099511627776 := by rw [← Int.pow_add, show B + (40 - B) = 40 by omega]; rfl
  rw [h1, Int.mul_assoc, h2]
 refine Eq.mp (congrArg _ ?_) hs
 generalize (2 : Int) ^ (pow + 40 - B) = S at *
 generalize (2 : Int) ^ (pow + 40) = P at *
 generalize (2 : Int) ^ (40 - B) = Q at *
 clear hs t1 t2 t3 eR hc hcR hw hA hU
 apply gi_eq
 ·simp only [gmul, gsubS, gup, gadd]
  grind
 ·simp only [gmul, gsubS, gup, gadd]
  grind
def Terms (K : Int) (pow B : Nat) (T U : Gi) : Prop := Len K (gup 1099511627776 (gsubS (gup (64 * 2 ^ (pow + 40 - B)) T) (gup 64 U)))
theorem Terms.add {K K' : Int} {pow B : Nat} {T U T' U' : Gi} (hK : 0 ≤ K) (hK' : 0 ≤ K') (h : Terms K pow B T U) (h' : Terms K' pow B T' U') : Terms (K + K') pow B (gadd T T') (gadd U U') := by
 have hs := Len.add hK hK' h h'
 unfold Terms
 refine Eq.mp (congrArg _ ?_) hs
 apply gi_eq <;> simp only [gadd, gup, gsubS] <;> grind
theorem sum_near {e e' K : Int} {pow B s : Nat} {mo : Int} {c V T U : Gi} (hm : mo = 0 ∨ mo = 1 ∨ mo = 2) (he : 0 ≤ e) (hK0 : 0 ≤ K) (hB : B ≤ 40) (hc : Near e pow c V) (hT : Terms K pow B T U)
 (hK : 91 * 2 ^ (pow + s + 40) * 1099511627776 + e * 2 ^ (pow + 40) * 1099511627776 + K ≤ e' * 2 ^ (pow + s + 40) * 1099511627776) : Near e' (pow + s) (grnd (B + s) mo (gadd (gscale B c) T)) (gadd V U) := by
 have hp : (0 : Int) ≤ 2 ^ (pow + 40) := Int.le_of_lt (Int.pow_pos (by decide))
 have hps : (0 : Int) ≤ 2 ^ (pow + s + 40) := Int.le_of_lt (Int.pow_pos (by decide))
 have hpB : (0 : Int) ≤ 2 ^ (pow + 40 - B) := Int.le_of_lt (Int.pow_pos (by decide))
 have eB : (2 : Int) ^ (pow + 40 - B) * 2 ^ (B + s) = 2 ^ (pow + s + 40) := by rw [← Int.pow_add]; congr 1; omega
 have eP : (2 : Int) ^ (pow + 40 - B) * 2 ^ B = 2 ^ (pow + 40) := by rw [← Int.pow_add]; congr 1; omega
 have t1 := Len.up (s := 2 ^ (pow + 40 - B) * 1099511627776) (by omega) (gnear_rnd (B + s) mo hm (gadd (gscale B c) T))
 have t2 := Len.up (s := 1099511627776) (by decide) hc
 have e1 : 91 * 2 ^ (B + s) * (2 ^ (pow + 40 - B) * 1099511627776) = 91 * (2 : Int) ^ (pow + s + 40) * 1099511627776 := by rw [← eB]; grind
 rw [e1] at t1
 have hs := Len.add (Int.add_nonneg (by omega) (Int.mul_nonneg (Int.mul_nonneg he hp) (by decide))) hK0 (Len.add (by omega) (Int.mul_nonneg (Int.mul_nonneg he hp) (by decide)) t1 t2) hT
 have hs := Len.mono (Int.add_nonneg (Int.add_nonneg (by omega) (Int.mul_nonneg (Int.mul_nonneg he hp) (by decide))) hK0) hs hK
 unfold Near
 refine Len.down (s := 1099511627776) (by decide) ?_
 refine Eq.mp (congrArg _ ?_) hs
 generalize grnd (B + s) mo (gadd (gscale B c) T) = r at *
 simp only [gscale, gadd, gup, gsubS]
 generalize (2 : Int) ^ (pow + 40 - B) = S at *
 generalize (2 : Int) ^ (pow + 40) = P at *
 generalize (2 : Int) ^ (pow + s + 40) = Q at *
 generalize (2 : Int) ^ (B + s) = W at *
 generalize (2 : Int) ^ B = Z at *
 clear hs t1 t2 hT hc hK e1
 apply gi_eq
 ·simp only
  grind
 ·simp only
  grind
theorem fl_low (i b : Nat) (hb : b < 2) : ∀ r, fl (r + 1) (2 * i + b) = fl r i + b * 2 ^ r
 | 0 => by
   simp only [fl, Nat.pow_zero, Nat.div_one]
   omega
 | r + 1 => by
   have h : fl (r + 2) (2 * i + b) = 2 * fl (r + 1) (2 * i + b) + (2 * i + b) / 2 ^ (r + 1) % 2 := rfl
   have e : (2 * i + b) / 2 ^ (r + 1) = i / 2 ^ r := by
    rw [Nat.pow_succ, Nat.mul_comm (2 ^ r) 2, ← Nat.div_div_eq_div_mul, show (2 * i + b) / 2 = i by omega]
   rw [h, fl_low i b hb r, e, Nat.pow_succ]
   show _ = 2 * fl r i + i / 2 ^ r % 2 + b * (2 ^ r * 2)
   rw [Nat.mul_add, show b * (2 ^ r * 2) = 2 * (b * 2 ^ r) by rw [← Nat.mul_assoc, Nat.mul_comm]]
   omega
def idG (n L : Nat) (xs : List Gi) (iv : Bool) (l i : Nat) : Gi := fsum n xs iv (fl (L - l) (i / 2 ^ l)) (2 ^ (L - l)) 0 (2 ^ (L - l) * (i % 2 ^ l)) (2 ^ l)
theorem idG_at (n L : Nat) (xs : List Gi) (iv : Bool) (l q b r : Nat) (hl : l < L) (hb : b < 2) (hr : r < 2 ^ l) :
 idG n L xs iv l (2 ^ l * (2 * q + b) + r) = fsum n xs iv (fl (L - l - 1) q + b * 2 ^ (L - l - 1)) (2 * 2 ^ (L - l - 1)) 0 (2 * 2 ^ (L - l - 1) * r) (2 ^ l) := by
 have hp : 0 < 2 ^ l := Nat.two_pow_pos l
 obtain ⟨k, hk⟩ : ∃ k, L - l = k + 1 := ⟨L - l - 1, by omega⟩
 unfold idG
 rw [Nat.mul_add_div hp, Nat.div_eq_of_lt hr, Nat.add_zero, Nat.mul_add_mod, Nat.mod_eq_of_lt hr, hk, Nat.add_sub_cancel, fl_low q b hb k, Nat.pow_succ, Nat.mul_comm (2 ^ k) 2]
theorem idG_next (n L : Nat) (hn : IsLen n) (hnL : n = 2 ^ L) (xs : List Gi) (iv : Bool) (l q c r : Nat) (hl : l < L) (hc : c < 2) (hr : r < 2 ^ l) :
 idG n L xs iv (l + 1) (2 ^ (l + 1) * q + (2 ^ l * c + r)) = gadd (idG n L xs iv l (2 ^ l * (2 * q) + r)) (if c = 0 then fsum n xs iv (fl (L - l - 1) q + 2 ^ (L - l - 1)) (2 * 2 ^ (L - l - 1)) (2 ^ (L - l - 1) * r) (2 * 2 ^ (L - l - 1) * r) (2 ^ l)
  else gneg (fsum n xs iv (fl (L - l - 1) q + 2 ^ (L - l - 1)) (2 * 2 ^ (L - l - 1)) (2 ^ (L - l - 1) * r) (2 * 2 ^ (L - l - 1) * r) (2 ^ l))) := by
 have h0 := idG_at n L xs iv l q 0 r hl (by decide) hr
 rw [Nat.zero_mul, Nat.add_zero, Nat.add_zero] at h0
 rw [h0]
 have hp : 0 < 2 ^ (l + 1) := Nat.two_pow_pos _
 have e2 : 2 ^ (l + 1) = 2 * 2 ^ l := by rw [Nat.pow_succ, Nat.mul_comm]
 have hlt : 2 ^ l * c + r < 2 ^ (l + 1) := by
  rw [e2]
  have : 2 ^ l * c ≤ 2 ^ l * 1 := Nat.mul_le_mul_left _ (by omega)
  omega
 have hD : 2 ^ (L - l - 1) * 2 ^ l = n / 2 := by
  have h : 2 ^ (L - l - 1) * 2 ^ l * 2 = n := by rw [hnL, ← Nat.pow_add, ← Nat.pow_succ]; congr 1; omega
  omega
 unfold idG
 rw [Nat.mul_add_div hp, Nat.div_eq_of_lt hlt, Nat.add_zero, Nat.mul_add_mod, Nat.mod_eq_of_lt hlt, show L - (l + 1) = L - l - 1 by omega, e2, fsum_parts]
 simp only [Nat.add_zero]
 generalize 2 ^ (L - l - 1) = d at *
 have hn2 : n = 2 * (n / 2) := by unfold IsLen at hn; omega
 have hc : c = 0 ∨ c = 1 := by omega
 rcases hc with rfl | rfl
 ·rw [if_pos rfl, Nat.mul_zero, Nat.zero_add, Nat.mul_assoc 2 d r]
 ·rw [if_neg (by decide), Nat.mul_one, Nat.mul_add, hD]
  congr 1
  ·exact fsum_turns n hn xs iv _ _ 0 0 (2 * d * r) _ _ ⟨0, by simp⟩ ⟨1, by rw [Nat.mul_add, ← Nat.mul_assoc]; omega⟩
  ·rw [Nat.add_comm (n / 2) (d * r)]
   rw [fsum_turns n hn xs iv _ _ (d * r + n / 2) (d * r + n / 2) (2 * d * r) (2 * (d * r + n / 2)) _ ⟨0, by simp⟩ ⟨1, by rw [Nat.mul_add, ← Nat.mul_assoc]; omega⟩, fsum_half n hn]
def NearL (e : Int) (pow : Nat) (n L : Nat) (xs : List Gi) (iv : Bool) (l : Nat) (ys : List Gi) : Prop := ∀ i, i < n → Near e pow (ys.getD i ⟨0, 0⟩) (idG n L xs iv l i)
theorem Len.negG {R : Int} {a : Gi} (h : Len R a) : Len R (gneg a) := h.neg
theorem Terms.neg {K : Int} {pow B : Nat} {T U : Gi} (h : Terms K pow B T U) : Terms K pow B (gneg T) (gneg U) := by
 have := Len.negG h
 unfold Terms
 refine Eq.mp (congrArg _ ?_) this
 apply gi_eq <;> simp only [gneg, gup, gsubS] <;> grind
theorem pairUp_grnd (bits s : Nat) (mo : Int) (a b w : Gi) : pairUp bits s mo a b w = grnd (bits + s) mo (gadd (gscale bits a) (gmul b w)) := rfl
theorem pairDown_grnd (bits s : Nat) (mo : Int) (a b w : Gi) : pairDown bits s mo a b w = grnd (bits + s) mo (gadd (gscale bits a) (gneg (gmul b w))) := by
 unfold pairDown psub grnd gadd gscale gneg
 simp only [Int.sub_eq_add_neg]
theorem getD_map_range {f : Nat → Gi} {n i : Nat} (hi : i < n) : ((List.range n).map f).getD i ⟨0, 0⟩ = f i := by
 rw [List.getD_eq_getElem?_getD, List.getElem?_map, List.getElem?_range hi]
 rfl
def termK (e : Int) (pow : Nat) (R δ : Int) (m : Nat) (X : Int) : Int := 64 * 2 ^ (pow + 40) * (R * δ) + e * 2 ^ (pow + 40) * 1099511627777 + 64 * (m * (X * 1649267441664))
theorem termK_nonneg {e R δ X : Int} {pow m : Nat} (he : 0 ≤ e) (hR : 0 ≤ R) (hδ : 0 ≤ δ) (hX : 0 ≤ X) : 0 ≤ termK e pow R δ m X := by
 have hp : (0 : Int) ≤ 2 ^ (pow + 40) := Int.le_of_lt (Int.pow_pos (by decide))
 have a := Int.mul_nonneg (show (0 : Int) ≤ 64 * 2 ^ (pow + 40) by omega) (Int.mul_nonneg hR hδ)
 have b := Int.mul_nonneg (Int.mul_nonneg he hp) (show (0 : Int) ≤ 1099511627777 by decide)
 have c := Int.mul_nonneg (show (0 : Int) ≤ (m : Int) by omega) (Int.mul_nonneg hX (show (0 : Int) ≤ 1649267441664 by decide))
 unfold termK
 omega
theorem split_place (n m u i : Nat) (hm : 0 < m) (hn : n = 2 * m * u) (hi : i < n) : ∃ q c r, i = 2 * m * q + (m * c + r) ∧ c < 2 ∧ r < m ∧ i % (2 * m) = m * c + r ∧ 2 * m * q + 2 * m ≤ n := by
 have hd := Nat.mod_lt i (show 0 < 2 * m by omega)
 have hdm := Nat.div_add_mod i (2 * m)
 have hq : i / (2 * m) < u := by
  apply Nat.div_lt_of_lt_mul
  rw [← hn]
  exact hi
 have hle : 2 * m * (i / (2 * m)) + 2 * m ≤ n := by
  have : 2 * m * (i / (2 * m) + 1) ≤ 2 * m * u := Nat.mul_le_mul_left _ hq
  rw [Nat.mul_add] at this
  omega
 by_cases h : i % (2 * m) < m
 ·exact ⟨i / (2 * m), 0, i % (2 * m), by omega, by decide, h, by omega, hle⟩
 ·exact ⟨i / (2 * m), 1, i % (2 * m) - m, by omega, by decide, by omega, by omega, hle⟩
theorem two_nearL {n L l s B : Nat} {e e' R δ X : Int} {pow : Nat} {xs ys ws : List Gi} {iv : Bool} {mo : Int} (hn : IsLen n) (hnL : n = 2 ^ L) (hl : l < L) (hm : mo = 0 ∨ mo = 1 ∨ mo = 2) (he : 0 ≤ e) (hR : 0 ≤ R) (hδ : 0 ≤ δ) (hX : 0 ≤ X) (hB : B ≤ 40)
 (hx : ∀ j, Len X (xs.getD j ⟨0, 0⟩)) (hlen : ys.length = n) (hy : ∀ i, Len R (ys.getD i ⟨0, 0⟩)) (hw : ∀ k, k < n → Len δ (gsubS (gup (2 ^ (40 - B)) (rootOf ws iv k)) (wv n iv k)))
 (h : NearL e pow n L xs iv l ys) (hK : 91 * 2 ^ (pow + s + 40) * 1099511627776 + e * 2 ^ (pow + 40) * 1099511627776 + termK e pow R δ (2 ^ l) X ≤ e' * 2 ^ (pow + s + 40) * 1099511627776) :
 NearL e' (pow + s) n L xs iv (l + 1) (twoL ys ws (2 ^ l) B s mo iv) := by
 have hp : 0 < 2 ^ l := Nat.two_pow_pos l
 have e2 : 2 ^ (l + 1) = 2 * 2 ^ l := by rw [Nat.pow_succ, Nat.mul_comm]
 have hu : n = 2 * 2 ^ l * 2 ^ (L - l - 1) := by
  rw [hnL, ← e2, ← Nat.pow_add]
  congr 1
  omega
 intro i hi
 obtain ⟨q, c, r, hi2, hc, hr, hmod, hle⟩ := split_place n (2 ^ l) _ i hp hu hi
 have hdiv : n / (2 * 2 ^ l) = 2 ^ (L - l - 1) := by
  rw [hu, Nat.mul_div_cancel_left _ (by omega)]
 have hk : 2 ^ (L - l - 1) * r < n := by
  have : 2 ^ (L - l - 1) * r < 2 ^ (L - l - 1) * 2 ^ l := Nat.mul_lt_mul_of_pos_left hr (Nat.two_pow_pos _)
  rw [Nat.mul_comm (2 ^ (L - l - 1)) (2 ^ l)] at this
  rw [hu, Nat.mul_assoc]
  omega
 have hid := idG_next n L hn hnL xs iv l q c r hl hc hr
 rw [e2, ← hi2] at hid
 have hb := idG_at n L xs iv l q 1 r hl (by decide) hr
 rw [Nat.one_mul] at hb
 have ha := h (2 * 2 ^ l * q + r) (by omega)
 have hbn := h (2 * 2 ^ l * q + 2 ^ l + r) (by omega)
 rw [show 2 * 2 ^ l * q + r = 2 ^ l * (2 * q) + r by rw [Nat.mul_comm 2 (2 ^ l), Nat.mul_assoc]] at ha
 rw [show 2 * 2 ^ l * q + 2 ^ l + r = 2 ^ l * (2 * q + 1) + r by rw [Nat.mul_add, Nat.mul_one, ← Nat.mul_assoc, Nat.mul_comm (2 ^ l) 2]] at hbn
 have hmv := fsum_moved n hn xs iv (fl (L - l - 1) q + 2 ^ (L - l - 1)) (2 * 2 ^ (L - l - 1)) (2 ^ (L - l - 1) * r) (2 * 2 ^ (L - l - 1) * r) (2 ^ l) X hX hx
 rw [← hb] at hmv
 have ht : Terms (termK e pow R δ (2 ^ l) X) pow B _ _ := term_near he hR hδ (Int.mul_nonneg (by omega) (Int.mul_nonneg hX (by decide))) hB hbn (hy _) (hw _ hk) (wv_len n hn iv _) hmv
 unfold twoL
 rw [hlen, getD_map_range hi]
 unfold twoAt
 rw [hlen, hmod, hdiv, hid]
 have hK0 := termK_nonneg (pow := pow) (m := 2 ^ l) he hR hδ hX
 have hcc : c = 0 ∨ c = 1 := by omega
 rcases hcc with rfl | rfl
 ·rw [if_pos (by omega), if_pos rfl, Nat.mul_zero, Nat.zero_add, pairUp_grnd, Nat.mul_comm r]
  have ei : i = 2 ^ l * (2 * q) + r := by rw [hi2, Nat.mul_comm 2 (2 ^ l), Nat.mul_assoc]; omega
  have ej : i + 2 ^ l = 2 ^ l * (2 * q + 1) + r := by rw [ei, Nat.mul_add]; omega
  rw [ej, ei]
  exact sum_near hm he hK0 hB ha ht hK
 ·rw [if_neg (by omega), if_neg (by decide), Nat.mul_one, Nat.add_sub_cancel_left, pairDown_grnd, Nat.mul_comm r]
  have ei : i = 2 ^ l * (2 * q + 1) + r := by rw [hi2, Nat.mul_comm 2 (2 ^ l), Nat.mul_add, Nat.mul_assoc]; omega
  have ej : i - 2 ^ l = 2 ^ l * (2 * q) + r := by rw [ei, Nat.mul_add]; omega
  rw [ej, ei]
  exact sum_near hm he hK0 hB ha ht.neg hK
theorem turn_after (p q : Int) (a : Gi) : (a.turn q).turn p = a.turn (p + q) := by
 unfold Gi.turn
 rcases q4 p with hp | hp | hp | hp <;> rcases q4 q with hq | hq | hq | hq
 all_goals
  have h : (p + q) % 4 = 0 ∨ (p + q) % 4 = 1 ∨ (p + q) % 4 = 2 ∨ (p + q) % 4 = 3 := q4 _
  rcases h with h | h | h | h <;> first | (exfalso; omega) | (simp [hp, hq, h])
theorem turn_same (p q : Int) (h : p % 4 = q % 4) (a : Gi) : a.turn p = a.turn q := turn_congr p q h a
theorem conj_turn (q : Int) (a : Gi) : (a.turn q).conj = a.conj.turn (-q) := by
 unfold Gi.turn Gi.conj
 rcases q4 q with hq | hq | hq | hq
 ·have : -q % 4 = 0 := by omega
  simp [hq, this]
 ·have : -q % 4 = 3 := by omega
  simp [hq, this]
 ·have : -q % 4 = 2 := by omega
  simp [hq, this]
 ·have : -q % 4 = 1 := by omega
  simp [hq, this]
theorem root_quarters (n : Nat) (hn : IsLen n) (i : Nat) : ∀ c : Nat, rootG n ((i + c * (n / 4) : Nat) : Int) 16 = (rootG n i 16).turn (-c)
 | 0 => by simp [Gi.turn]
 | c + 1 => by
   have h := root_quarter n ((i + c * (n / 4) : Nat) : Int) hn 16
   rw [root_quarters n hn i c, turn_after] at h
   rw [show ((i + (c + 1) * (n / 4) : Nat) : Int) = ((i + c * (n / 4) : Nat) : Int) + (n : Int) / 4 by rw [Nat.add_mul]; omega, h]
   congr 1
   omega
theorem wv_quarters (n : Nat) (hn : IsLen n) (iv : Bool) (i c : Nat) : wv n iv (i + c * (n / 4)) = (wv n iv i).turn (turns1 iv c) := by
 unfold wv turns1
 rw [root_quarters n hn i c]
 cases iv
 ·rfl
 ·simp only [if_true]
  rw [conj_turn, Int.neg_neg]
theorem gmul_turn (q : Int) (a w : Gi) : gmul a (w.turn q) = (gmul a w).turn q := by
 unfold Gi.turn
 rcases q4 q with h | h | h | h <;> simp [h, gmul] <;> constructor <;> grind
theorem csum_turn (q : Int) (f : Nat → Gi) : ∀ m, csum (fun t => (f t).turn q) m = (csum f m).turn q
 | 0 => by
   unfold Gi.turn
   rcases q4 q with h | h | h | h <;> simp [h, csum, isum]
 | m + 1 => by
   rw [csum_next, csum_next, csum_turn q f m]
   unfold Gi.turn
   rcases q4 q with h | h | h | h <;> simp [h, gadd] <;> omega
theorem fsum_quarters (n : Nat) (hn : IsLen n) (xs : List Gi) (iv : Bool) (s d e g m c : Nat) : fsum n xs iv s d (e + c * (n / 4)) g m = (fsum n xs iv s d e g m).turn (turns1 iv c) := by
 unfold fsum
 rw [← csum_turn]
 exact csum_congr fun t _ => by rw [show e + c * (n / 4) + g * t = e + g * t + c * (n / 4) by omega, wv_quarters n hn, gmul_turn]
theorem fsum_split (n : Nat) (xs : List Gi) (iv : Bool) (s d e g m : Nat) : fsum n xs iv s d e g (2 * m) = gadd (fsum n xs iv s (2 * d) e (2 * g) m) (fsum n xs iv (s + d) (2 * d) (e + g) (2 * g) m) := by
 unfold fsum
 rw [csum_parts]
 congr 1
 ·exact csum_congr fun t _ => by rw [show d * (2 * t) = 2 * d * t by rw [Nat.mul_left_comm, Nat.mul_assoc], show g * (2 * t) = 2 * g * t by rw [Nat.mul_left_comm, Nat.mul_assoc]]
 ·exact csum_congr fun t _ => by
   rw [show s + d * (2 * t + 1) = s + d + 2 * d * t by rw [Nat.mul_add, Nat.mul_left_comm, Nat.mul_assoc]; omega, show e + g * (2 * t + 1) = e + g + 2 * g * t by rw [Nat.mul_add, Nat.mul_left_comm, Nat.mul_assoc]; omega]
theorem Terms.turn {K : Int} {pow B : Nat} {T U : Gi} (h : Terms K pow B T U) (q : Int) : Terms K pow B (T.turn q) (U.turn q) := by
 have := Len.turn h q
 unfold Terms
 refine Eq.mp (congrArg _ ?_) this
 unfold Gi.turn
 rcases q4 q with h | h | h | h <;> simp [h, gup, gsubS] <;> first | done | (constructor <;> grind) | grind
theorem idG_at4 (n L : Nat) (xs : List Gi) (iv : Bool) (l q a b r : Nat) (hl : l + 1 < L) (ha : a < 2) (hb : b < 2) (hr : r < 2 ^ l) :
 idG n L xs iv l (2 ^ l * (2 * (2 * q + a) + b) + r) = fsum n xs iv (fl (L - l - 2) q + a * 2 ^ (L - l - 2) + b * (2 * 2 ^ (L - l - 2))) (4 * 2 ^ (L - l - 2)) 0 (4 * 2 ^ (L - l - 2) * r) (2 ^ l) := by
 have h := idG_at n L xs iv l (2 * q + a) b r (by omega) hb hr
 obtain ⟨k, hk⟩ : ∃ k, L - l - 1 = k + 1 := ⟨L - l - 2, by omega⟩
 rw [hk, fl_low q a ha k, Nat.pow_succ, show 2 * (2 ^ k * 2) = 4 * 2 ^ k by omega] at h
 rw [show L - l - 2 = k by omega, h, Nat.mul_comm (2 ^ k) 2]
theorem idG_four (n L : Nat) (hn : IsLen n) (hnL : n = 2 ^ L) (xs : List Gi) (iv : Bool) (l q c r : Nat) (hl : l + 1 < L) (hc : c < 4) (hr : r < 2 ^ l) :
 idG n L xs iv (l + 2) (2 ^ (l + 2) * q + (2 ^ l * c + r)) =
  gadd (idG n L xs iv l (2 ^ l * (2 * (2 * q)) + r)) (gadd (gadd ((fsum n xs iv (fl (L - l - 2) q + 2 ^ (L - l - 2)) (4 * 2 ^ (L - l - 2)) (2 ^ (L - l - 2) * r) (4 * 2 ^ (L - l - 2) * r) (2 ^ l)).turn (turns1 iv c))
   ((fsum n xs iv (fl (L - l - 2) q + 2 * 2 ^ (L - l - 2)) (4 * 2 ^ (L - l - 2)) (2 * 2 ^ (L - l - 2) * r) (4 * 2 ^ (L - l - 2) * r) (2 ^ l)).turn (2 * c)))
   ((fsum n xs iv (fl (L - l - 2) q + 2 ^ (L - l - 2) + 2 * 2 ^ (L - l - 2)) (4 * 2 ^ (L - l - 2)) (3 * 2 ^ (L - l - 2) * r) (4 * 2 ^ (L - l - 2) * r) (2 ^ l)).turn (-(turns1 iv c)))) := by
 have h0 := idG_at4 n L xs iv l q 0 0 r hl (by decide) (by decide) hr
 simp only [Nat.zero_mul, Nat.add_zero] at h0
 rw [h0]
 have hp : 0 < 2 ^ (l + 2) := Nat.two_pow_pos _
 have e2 : 2 ^ (l + 2) = 2 * (2 * 2 ^ l) := by rw [Nat.pow_add]; omega
 have hlt : 2 ^ l * c + r < 2 ^ (l + 2) := by
  rw [e2]
  have : 2 ^ l * c ≤ 2 ^ l * 3 := Nat.mul_le_mul_left _ (by omega)
  omega
 have hD : 2 ^ (L - l - 2) * 2 ^ l = n / 4 := by
  have h : 2 ^ (L - l - 2) * 2 ^ l * 4 = n := by rw [hnL, ← Nat.pow_add, show (4 : Nat) = 2 ^ 2 from rfl, ← Nat.pow_add]; congr 1; omega
  omega
 unfold idG
 rw [Nat.mul_add_div hp, Nat.div_eq_of_lt hlt, Nat.mul_add_mod, Nat.mod_eq_of_lt hlt, show L - (l + 2) = L - l - 2 by omega, e2, fsum_split, fsum_split, fsum_split]
 simp only [Nat.add_zero, Nat.zero_add]
 generalize 2 ^ (L - l - 2) = d at *
 have hg : d * (2 ^ l * c + r) = d * r + c * (n / 4) := by rw [Nat.mul_add, ← Nat.mul_assoc, hD, Nat.mul_comm (n / 4) c, Nat.add_comm]
 have hn4 : n = 4 * (n / 4) := by unfold IsLen at hn; omega
 rw [hg]
 have f4 : ∀ s e, fsum n xs iv s (2 * (2 * d)) e (2 * (2 * (d * r + c * (n / 4)))) (2 ^ l) = fsum n xs iv s (4 * d) e (4 * d * r) (2 ^ l) := fun s e => by
  rw [show 2 * (2 * d) = 4 * d by omega]
  have hcn : c * n = 4 * (c * (n / 4)) := by rw [Nat.mul_left_comm, ← hn4]
  exact fsum_turns n hn xs iv _ _ e e (4 * d * r) _ _ ⟨0, by simp⟩ ⟨c, by rw [Nat.mul_assoc 4 d r, Nat.mul_comm n c, hcn]; omega⟩
 rw [f4, f4, f4, f4]
 rw [show d * r + c * (n / 4) + 2 * (d * r + c * (n / 4)) = 3 * d * r + (3 * c) * (n / 4) by rw [Nat.mul_assoc 3 d r, Nat.mul_assoc 3 c]; omega, show 2 * (d * r + c * (n / 4)) = 2 * d * r + (2 * c) * (n / 4) by rw [Nat.mul_assoc 2 d r, Nat.mul_assoc 2 c]; omega]
 rw [fsum_quarters n hn, fsum_quarters n hn, fsum_quarters n hn]
 have t2 : ∀ a : Gi, a.turn (turns1 iv ((2 * c : Nat) : Int)) = a.turn (2 * (c : Int)) := fun a => turn_same _ _ (by unfold turns1; split <;> omega) a
 have t3 : ∀ a : Gi, a.turn (turns1 iv ((3 * c : Nat) : Int)) = a.turn (-(turns1 iv c)) := fun a => turn_same _ _ (by unfold turns1; split <;> omega) a
 rw [t2, t3]
 apply gi_eq <;> simp only [gadd] <;> omega
theorem quad_place (n h u i : Nat) (hn : n = 4 * h * u) (h1 : 1 ≤ h) (hi : i < n) : ∃ q c j, i - i % (4 * h) = 4 * h * q ∧ i % h = j ∧ j < h ∧ c < 4 ∧ i = 4 * h * q + (h * c + j) ∧ (i - (i - i % (4 * h))) / h = c ∧ 4 * h * q + 4 * h ≤ n := by
 have hd := Nat.mod_lt i (show 0 < 4 * h by omega)
 have hdm := Nat.div_add_mod i (4 * h)
 have hd2 := Nat.mod_lt (i % (4 * h)) (show 0 < h by omega)
 have hdm2 := Nat.div_add_mod (i % (4 * h)) h
 generalize i / (4 * h) = q at hdm
 generalize i % (4 * h) = k at hd hdm hd2 hdm2 ⊢
 generalize hc : k / h = c at hdm2
 generalize k % h = j at hd2 hdm2
 have hc4 : c < 4 := by
  apply Classical.byContradiction
  intro hcc
  have : h * 4 ≤ h * c := Nat.mul_le_mul_left _ (by omega)
  omega
 have e2 : 4 * h * q = h * (4 * q) := by rw [Nat.mul_comm 4 h, Nat.mul_assoc]
 have hqu : q < u := by
  apply Classical.byContradiction
  intro hcc
  have : 4 * h * u ≤ 4 * h * q := Nat.mul_le_mul_left _ (by omega)
  omega
 have hle : 4 * h * q + 4 * h ≤ n := by
  have : 4 * h * (q + 1) ≤ 4 * h * u := Nat.mul_le_mul_left _ hqu
  rw [Nat.mul_add] at this
  omega
 refine ⟨q, c, j, by omega, ?_, hd2, hc4, by omega, ?_, hle⟩
 ·rw [show i = h * (4 * q + c) + j by rw [Nat.mul_add]; omega, Nat.mul_add_mod]
  exact Nat.mod_eq_of_lt hd2
 ·rw [show i - (i - k) = k by omega]
  exact hc
theorem quad_grnd (bits s : Nat) (mo : Int) (inv : Bool) (q : Int) (a0 a1 a2 a3 w1 w2 w3 : Gi) :
 quadOut bits s mo inv q a0 a1 a2 a3 w1 w2 w3 = grnd (bits + s) mo (gadd (gscale bits a0) (gadd (gadd ((gmul a1 w1).turn (turns1 inv q)) ((gmul a2 w2).turn (2 * q))) ((gmul a3 w3).turn (-(turns1 inv q))))) := by
 unfold quadOut quadSum
 congr 1
 apply gi_eq <;> simp only [gadd] <;> omega
theorem four_nearL {n L l s B : Nat} {e e' R δ X : Int} {pow : Nat} {xs ys ws : List Gi} {iv : Bool} {mo : Int} (hn : IsLen n) (hnL : n = 2 ^ L) (hl : l + 1 < L) (hm : mo = 0 ∨ mo = 1 ∨ mo = 2) (he : 0 ≤ e) (hR : 0 ≤ R) (hδ : 0 ≤ δ) (hX : 0 ≤ X) (hB : B ≤ 40)
 (hx : ∀ j, Len X (xs.getD j ⟨0, 0⟩)) (hlen : ys.length = n) (hy : ∀ i, Len R (ys.getD i ⟨0, 0⟩)) (hw : ∀ k, k < n → Len δ (gsubS (gup (2 ^ (40 - B)) (rootOf ws iv k)) (wv n iv k)))
 (h : NearL e pow n L xs iv l ys) (hK : 91 * 2 ^ (pow + s + 40) * 1099511627776 + e * 2 ^ (pow + 40) * 1099511627776 + 3 * termK e pow R δ (2 ^ l) X ≤ e' * 2 ^ (pow + s + 40) * 1099511627776) :
 NearL e' (pow + s) n L xs iv (l + 2) (fourL ys ws (2 ^ l) B s mo iv) := by
 have hp : 0 < 2 ^ l := Nat.two_pow_pos l
 have hpd : 0 < 2 ^ (L - l - 2) := Nat.two_pow_pos _
 have e2 : 2 ^ (l + 2) = 4 * 2 ^ l := by rw [Nat.pow_add]; omega
 have hu : n = 4 * 2 ^ l * 2 ^ (L - l - 2) := by
  rw [hnL, ← e2, ← Nat.pow_add]
  congr 1
  omega
 intro i hi
 obtain ⟨q, c, r, f1, f2, hr, hc, hi2, f3, hle⟩ := quad_place n (2 ^ l) _ i hu hp hi
 have hdiv : n / (4 * 2 ^ l) = 2 ^ (L - l - 2) := by rw [hu, Nat.mul_div_cancel_left _ (by omega)]
 have hk : 4 * (2 ^ (L - l - 2) * r) < n := by
  have : 2 ^ (L - l - 2) * r < 2 ^ (L - l - 2) * 2 ^ l := Nat.mul_lt_mul_of_pos_left hr hpd
  rw [Nat.mul_comm (2 ^ (L - l - 2)) (2 ^ l)] at this
  rw [hu, Nat.mul_assoc]
  omega
 have hid := idG_four n L hn hnL xs iv l q c r hl hc hr
 rw [e2, ← hi2] at hid
 have q0 : 2 ^ l * (2 * (2 * q)) + r = 4 * 2 ^ l * q + r := by rw [show 2 * (2 * q) = 4 * q by omega, Nat.mul_left_comm, Nat.mul_assoc]
 have q1 : 2 ^ l * (2 * (2 * q + 0) + 1) + r = 4 * 2 ^ l * q + 2 ^ l + r := by rw [Nat.mul_add, Nat.add_zero, show 2 * (2 * q) = 4 * q by omega, Nat.mul_left_comm, Nat.mul_assoc]; omega
 have q2 : 2 ^ l * (2 * (2 * q + 1) + 0) + r = 4 * 2 ^ l * q + 2 * 2 ^ l + r := by rw [show 2 * (2 * q + 1) + 0 = 4 * q + 2 by omega, Nat.mul_add, Nat.mul_left_comm, Nat.mul_assoc]; omega
 have q3 : 2 ^ l * (2 * (2 * q + 1) + 1) + r = 4 * 2 ^ l * q + 3 * 2 ^ l + r := by rw [show 2 * (2 * q + 1) + 1 = 4 * q + 3 by omega, Nat.mul_add, Nat.mul_left_comm, Nat.mul_assoc]; omega
 have b1 := idG_at4 n L xs iv l q 0 1 r hl (by decide) (by decide) hr
 have b2 := idG_at4 n L xs iv l q 1 0 r hl (by decide) (by decide) hr
 have b3 := idG_at4 n L xs iv l q 1 1 r hl (by decide) (by decide) hr
 simp only [Nat.zero_mul, Nat.one_mul, Nat.add_zero] at b1 b2 b3
 rw [Nat.add_zero] at q1 q2
 have h0 := h (4 * 2 ^ l * q + r) (by omega)
 have h1 := h (4 * 2 ^ l * q + 2 ^ l + r) (by omega)
 have h2 := h (4 * 2 ^ l * q + 2 * 2 ^ l + r) (by omega)
 have h3 := h (4 * 2 ^ l * q + 3 * 2 ^ l + r) (by omega)
 rw [← q0] at h0
 rw [← q1] at h1
 rw [← q2] at h2
 rw [← q3] at h3
 have hH : (0 : Int) ≤ (2 ^ l : Nat) * (X * 1649267441664) := Int.mul_nonneg (by omega) (Int.mul_nonneg hX (by decide))
 generalize hd : 2 ^ (L - l - 2) = d at *
 have m1 := fsum_moved n hn xs iv (fl (L - l - 2) q + 2 * d) (4 * d) (2 * d * r) (4 * d * r) (2 ^ l) X hX hx
 have m2 := fsum_moved n hn xs iv (fl (L - l - 2) q + d) (4 * d) (d * r) (4 * d * r) (2 ^ l) X hX hx
 have m3 := fsum_moved n hn xs iv (fl (L - l - 2) q + d + 2 * d) (4 * d) (3 * d * r) (4 * d * r) (2 ^ l) X hX hx
 rw [← b1] at m1
 rw [← b2] at m2
 rw [← b3] at m3
 have t1 : Terms (termK e pow R δ (2 ^ l) X) pow B _ _ := term_near he hR hδ hH hB h1 (hy _) (hw (2 * d * r) (by rw [Nat.mul_assoc]; omega)) (wv_len n hn iv _) m1
 have t2 : Terms (termK e pow R δ (2 ^ l) X) pow B _ _ := term_near he hR hδ hH hB h2 (hy _) (hw (d * r) (by omega)) (wv_len n hn iv _) m2
 have t3 : Terms (termK e pow R δ (2 ^ l) X) pow B _ _ := term_near he hR hδ hH hB h3 (hy _) (hw (3 * d * r) (by rw [Nat.mul_assoc]; omega)) (wv_len n hn iv _) m3
 have hK0 := termK_nonneg (pow := pow) (m := 2 ^ l) he hR hδ hX
 have ht := Terms.add (by omega) hK0 (Terms.add hK0 hK0 (t2.turn (turns1 iv c)) (t1.turn (2 * c))) (t3.turn (-(turns1 iv c)))
 unfold fourL
 rw [hlen, getD_map_range hi]
 unfold fourAt
 simp only
 rw [hlen, f3, f1, f2, hdiv, hid, quad_grnd]
 rw [show 4 * 2 ^ l * q + r = 2 ^ l * (2 * (2 * q)) + r from q0.symm, show 4 * 2 ^ l * q + 2 * 2 ^ l + r = 2 ^ l * (2 * (2 * q + 1)) + r from q2.symm, show 4 * 2 ^ l * q + 2 ^ l + r = 2 ^ l * (2 * (2 * q) + 1) + r from q1.symm, show 4 * 2 ^ l * q + 3 * 2 ^ l + r = 2 ^ l * (2 * (2 * q + 1) + 1) + r from q3.symm]
 rw [show r * d = d * r from Nat.mul_comm _ _, show 2 * r * d = 2 * d * r by rw [Nat.mul_assoc, Nat.mul_comm r d, Nat.mul_assoc], show 3 * r * d = 3 * d * r by rw [Nat.mul_assoc, Nat.mul_comm r d, Nat.mul_assoc]]
 exact sum_near hm he (by omega) hB h0 ht (by omega)
end
end Go.Proofs.YtcgeabpibkejpaaGreat
