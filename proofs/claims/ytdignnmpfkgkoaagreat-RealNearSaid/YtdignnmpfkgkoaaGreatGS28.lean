import Derived.Test.YtdignnmpfkgkoaaGreatGS27
namespace Go.Proofs.YtdignnmpfkgkoaaGreat
section
set_option linter.unusedVariables false
set_option linter.unusedSimpArgs false
set_option maxRecDepth 100000
theorem fl_low (i b : Nat) (hb : b < 2) : ∀ r, fl (r + 1) (2 * i + b) = fl r i + b * 2 ^ r
 | 0 => by
   simp only [fl, Nat.pow_zero, Nat.div_one]
   omega
 | r + 1 => by
   have h : fl (r + 2) (2 * i + b) = 2 * fl (r + 1) (2 * i + b) + (2 * i + b) / 2 ^ (r + 1) % 2 := rfl
   have e : (2 * i + b) / 2 ^ (r + 1) = i / 2 ^ r := by
    rw [Nat.pow_succ, Nat.mul_comm (2 ^ r) 2, ← Nat.div_div_eq_div_mul, show (2 * i + b) / 2 = i by omega]
   rw [h, fl_low i b hb r, e, Nat.pow_succ]
   show _ = 2 * fl r i + i / 2 ^ r % 2 + b * (2 ^ r * 2)
   rw [Nat.mul_add, show b * (2 ^ r * 2) = 2 * (b * 2 ^ r) by rw [← Nat.mul_assoc, Nat.mul_comm]]
   omega
def idG (n L : Nat) (xs : List Gi) (iv : Bool) (l i : Nat) : Gi := fsum n xs iv (fl (L - l) (i / 2 ^ l)) (2 ^ (L - l)) 0 (2 ^ (L - l) * (i % 2 ^ l)) (2 ^ l)
theorem idG_at (n L : Nat) (xs : List Gi) (iv : Bool) (l q b r : Nat) (hl : l < L) (hb : b < 2) (hr : r < 2 ^ l) :
 idG n L xs iv l (2 ^ l * (2 * q + b) + r) = fsum n xs iv (fl (L - l - 1) q + b * 2 ^ (L - l - 1)) (2 * 2 ^ (L - l - 1)) 0 (2 * 2 ^ (L - l - 1) * r) (2 ^ l) := by
 have hp : 0 < 2 ^ l := Nat.two_pow_pos l
 obtain ⟨k, hk⟩ : ∃ k, L - l = k + 1 := ⟨L - l - 1, by omega⟩
 unfold idG
 rw [Nat.mul_add_div hp, Nat.div_eq_of_lt hr, Nat.add_zero, Nat.mul_add_mod, Nat.mod_eq_of_lt hr, hk, Nat.add_sub_cancel, fl_low q b hb k, Nat.pow_succ, Nat.mul_comm (2 ^ k) 2]
theorem idG_next (n L : Nat) (hn : IsLen n) (hnL : n = 2 ^ L) (xs : List Gi) (iv : Bool) (l q c r : Nat) (hl : l < L) (hc : c < 2) (hr : r < 2 ^ l) :
 idG n L xs iv (l + 1) (2 ^ (l + 1) * q + (2 ^ l * c + r)) = gadd (idG n L xs iv l (2 ^ l * (2 * q) + r)) (if c = 0 then fsum n xs iv (fl (L - l - 1) q + 2 ^ (L - l - 1)) (2 * 2 ^ (L - l - 1)) (2 ^ (L - l - 1) * r) (2 * 2 ^ (L - l - 1) * r) (2 ^ l)
  else gneg (fsum n xs iv (fl (L - l - 1) q + 2 ^ (L - l - 1)) (2 * 2 ^ (L - l - 1)) (2 ^ (L - l - 1) * r) (2 * 2 ^ (L - l - 1) * r) (2 ^ l))) := by
 have h0 := idG_at n L xs iv l q 0 r hl (by decide) hr
 rw [Nat.zero_mul, Nat.add_zero, Nat.add_zero] at h0
 rw [h0]
 have hp : 0 < 2 ^ (l + 1) := Nat.two_pow_pos _
 have e2 : 2 ^ (l + 1) = 2 * 2 ^ l := by rw [Nat.pow_succ, Nat.mul_comm]
 have hlt : 2 ^ l * c + r < 2 ^ (l + 1) := by
  rw [e2]
  have : 2 ^ l * c ≤ 2 ^ l * 1 := Nat.mul_le_mul_left _ (by omega)
  omega
 have hD : 2 ^ (L - l - 1) * 2 ^ l = n / 2 := by
  have h : 2 ^ (L - l - 1) * 2 ^ l * 2 = n := by rw [hnL, ← Nat.pow_add, ← Nat.pow_succ]; congr 1; omega
  omega
 unfold idG
 rw [Nat.mul_add_div hp, Nat.div_eq_of_lt hlt, Nat.add_zero, Nat.mul_add_mod, Nat.mod_eq_of_lt hlt, show L - (l + 1) = L - l - 1 by omega, e2, fsum_parts]
 simp only [Nat.add_zero]
 generalize 2 ^ (L - l - 1) = d at *
 have hn2 : n = 2 * (n / 2) := by unfold IsLen at hn; omega
 have hc : c = 0 ∨ c = 1 := by omega
 rcases hc with rfl | rfl
 ·rw [if_pos rfl, Nat.mul_zero, Nat.zero_add, Nat.mul_assoc 2 d r]
 ·rw [if_neg (by decide), Nat.mul_one, Nat.mul_add, hD]
  congr 1
  ·exact fsum_turns n hn xs iv _ _ 0 0 (2 * d * r) _ _ ⟨0, by simp⟩ ⟨1, by rw [Nat.mul_add, ← Nat.mul_assoc]; omega⟩
  ·rw [Nat.add_comm (n / 2) (d * r)]
   rw [fsum_turns n hn xs iv _ _ (d * r + n / 2) (d * r + n / 2) (2 * d * r) (2 * (d * r + n / 2)) _ ⟨0, by simp⟩ ⟨1, by rw [Nat.mul_add, ← Nat.mul_assoc]; omega⟩, fsum_half n hn]
def NearL (e : Int) (pow : Nat) (n L : Nat) (xs : List Gi) (iv : Bool) (l : Nat) (ys : List Gi) : Prop := ∀ i, i < n → Near e pow (ys.getD i ⟨0, 0⟩) (idG n L xs iv l i)
theorem Len.negG {R : Int} {a : Gi} (h : Len R a) : Len R (gneg a) := h.neg
theorem Terms.neg {K : Int} {pow B : Nat} {T U : Gi} (h : Terms K pow B T U) : Terms K pow B (gneg T) (gneg U) := by
 have := Len.negG h
 unfold Terms
 refine Eq.mp (congrArg _ ?_) this
 apply gi_eq <;> simp only [gneg, gup, gsubS] <;> grind
theorem pairUp_grnd (bits s : Nat) (mo : Int) (a b w : Gi) : pairUp bits s mo a b w = grnd (bits + s) mo (gadd (gscale bits a) (gmul b w)) := rfl
theorem pairDown_grnd (bits s : Nat) (mo : Int) (a b w : Gi) : pairDown bits s mo a b w = grnd (bits + s) mo (gadd (gscale bits a) (gneg (gmul b w))) := by
 unfold pairDown psub grnd gadd gscale gneg
 simp only [Int.sub_eq_add_neg]
theorem getD_map_range {f : Nat → Gi} {n i : Nat} (hi : i < n) : ((List.range n).map f).getD i ⟨0, 0⟩ = f i := by
 rw [List.getD_eq_getElem?_getD, List.getElem?_map, List.getElem?_range hi]
 rfl
def termK (e : Int) (pow : Nat) (R δ : Int) (m : Nat) (X : Int) : Int := 64 * 2 ^ (pow + 40) * (R * δ) + e * 2 ^ (pow + 40) * 1099511627777 + 64 * (m * (X * 1649267441664))
theorem termK_nonneg {e R δ X : Int} {pow m : Nat} (he : 0 ≤ e) (hR : 0 ≤ R) (hδ : 0 ≤ δ) (hX : 0 ≤ X) : 0 ≤ termK e pow R δ m X := by
 have hp : (0 : Int) ≤ 2 ^ (pow + 40) := Int.le_of_lt (Int.pow_pos (by decide))
 have a := Int.mul_nonneg (show (0 : Int) ≤ 64 * 2 ^ (pow + 40) by omega) (Int.mul_nonneg hR hδ)
 have b := Int.mul_nonneg (Int.mul_nonneg he hp) (show (0 : Int) ≤ 1099511627777 by decide)
 have c := Int.mul_nonneg (show (0 : Int) ≤ (m : Int) by omega) (Int.mul_nonneg hX (show (0 : Int) ≤ 1649267441664 by decide))
 unfold termK
 omega
theorem split_place (n m u i : Nat) (hm : 0 < m) (hn : n = 2 * m * u) (hi : i < n) : ∃ q c r, i = 2 * m * q + (m * c + r) ∧ c < 2 ∧ r < m ∧ i % (2 * m) = m * c + r ∧ 2 * m * q + 2 * m ≤ n := by
 have hd := Nat.mod_lt i (show 0 < 2 * m by omega)
 have hdm := Nat.div_add_mod i (2 * m)
 have hq : i / (2 * m) < u := by
  apply Nat.div_lt_of_lt_mul
  rw [← hn]
  exact hi
 have hle : 2 * m * (i / (2 * m)) + 2 * m ≤ n := by
  have : 2 * m * (i / (2 * m) + 1) ≤ 2 * m * u := Nat.mul_le_mul_left _ hq
  rw [Nat.mul_add] at this
  omega
 by_cases h : i % (2 * m) < m
 ·exact ⟨i / (2 * m), 0, i % (2 * m), by omega, by decide, h, by omega, hle⟩
 ·exact ⟨i / (2 * m), 1, i % (2 * m) - m, by omega, by decide, by omega, by omega, hle⟩
theorem two_nearL {n L l s B : Nat} {e e' R δ X : Int} {pow : Nat} {xs ys ws : List Gi} {iv : Bool} {mo : Int} (hn : IsLen n) (hnL : n = 2 ^ L) (hl : l < L) (hm : mo = 0 ∨ mo = 1 ∨ mo = 2) (he : 0 ≤ e) (hR : 0 ≤ R) (hδ : 0 ≤ δ) (hX : 0 ≤ X) (hB : B ≤ 40)
 (hx : ∀ j, Len X (xs.getD j ⟨0, 0⟩)) (hlen : ys.length = n) (hy : ∀ i, Len R (ys.getD i ⟨0, 0⟩)) (hw : ∀ k, k < n → Len δ (gsubS (gup (2 ^ (40 - B)) (rootOf ws iv k)) (wv n iv k)))
 (h : NearL e pow n L xs iv l ys) (hK : 91 * 2 ^ (pow + s + 40) * 1099511627776 + e * 2 ^ (pow + 40) * 1099511627776 + termK e pow R δ (2 ^ l) X ≤ e' * 2 ^ (pow + s + 40) * 1099511627776) :
 NearL e' (pow + s) n L xs iv (l + 1) (twoL ys ws (2 ^ l) B s mo iv) := by
 have hp : 0 < 2 ^ l := Nat.two_pow_pos l
 have e2 : 2 ^ (l + 1) = 2 * 2 ^ l := by rw [Nat.pow_succ, Nat.mul_comm]
 have hu : n = 2 * 2 ^ l * 2 ^ (L - l - 1) := by
  rw [hnL, ← e2, ← Nat.pow_add]
  congr 1
  omega
 intro i hi
 obtain ⟨q, c, r, hi2, hc, hr, hmod, hle⟩ := split_place n (2 ^ l) _ i hp hu hi
 have hdiv : n / (2 * 2 ^ l) = 2 ^ (L - l - 1) := by
  rw [hu, Nat.mul_div_cancel_left _ (by omega)]
 have hk : 2 ^ (L - l - 1) * r < n := by
  have : 2 ^ (L - l - 1) * r < 2 ^ (L - l - 1) * 2 ^ l := Nat.mul_lt_mul_of_pos_left hr (Nat.two_pow_pos _)
  rw [Nat.mul_comm (2 ^ (L - l - 1)) (2 ^ l)] at this
  rw [hu, Nat.mul_assoc]
  omega
 have hid := idG_next n L hn hnL xs iv l q c r hl hc hr
 rw [e2, ← hi2] at hid
 have hb := idG_at n L xs iv l q 1 r hl (by decide) hr
 rw [Nat.one_mul] at hb
 have ha := h (2 * 2 ^ l * q + r) (by omega)
 have hbn := h (2 * 2 ^ l * q + 2 ^ l + r) (by omega)
 rw [show 2 * 2 ^ l * q + r = 2 ^ l * (2 * q) + r by rw [Nat.mul_comm 2 (2 ^ l), Nat.mul_assoc]] at ha
 rw [show 2 * 2 ^ l * q + 2 ^ l + r = 2 ^ l * (2 * q + 1) + r by rw [Nat.mul_add, Nat.mul_one, ← Nat.mul_assoc, Nat.mul_comm (2 ^ l) 2]] at hbn
 have hmv := fsum_moved n hn xs iv (fl (L - l - 1) q + 2 ^ (L - l - 1)) (2 * 2 ^ (L - l - 1)) (2 ^ (L - l - 1) * r) (2 * 2 ^ (L - l - 1) * r) (2 ^ l) X hX hx
 rw [← hb] at hmv
 have ht : Terms (termK e pow R δ (2 ^ l) X) pow B _ _ := term_near he hR hδ (Int.mul_nonneg (by omega) (Int.mul_nonneg hX (by decide))) hB hbn (hy _) (hw _ hk) (wv_len n hn iv _) hmv
 unfold twoL
 rw [hlen, getD_map_range hi]
 unfold twoAt
 rw [hlen, hmod, hdiv, hid]
 have hK0 := termK_nonneg (pow := pow) (m := 2 ^ l) he hR hδ hX
 have hcc : c = 0 ∨ c = 1 := by omega
 rcases hcc with rfl | rfl
 ·rw [if_pos (by omega), if_pos rfl, Nat.mul_zero, Nat.zero_add, pairUp_grnd, Nat.mul_comm r]
  have ei : i = 2 ^ l * (2 * q) + r := by rw [hi2, Nat.mul_comm 2 (2 ^ l), Nat.mul_assoc]; omega
  have ej : i + 2 ^ l = 2 ^ l * (2 * q + 1) + r := by rw [ei, Nat.mul_add]; omega
  rw [ej, ei]
  exact sum_near hm he hK0 hB ha ht hK
 ·rw [if_neg (by omega), if_neg (by decide), Nat.mul_one, Nat.add_sub_cancel_left, pairDown_grnd, Nat.mul_comm r]
  have ei : i = 2 ^ l * (2 * q + 1) + r := by rw [hi2, Nat.mul_comm 2 (2 ^ l), Nat.mul_add, Nat.mul_assoc]; omega
  have ej : i - 2 ^ l = 2 ^ l * (2 * q) + r := by rw [ei, Nat.mul_add]; omega
  rw [ej, ei]
  exact sum_near hm he hK0 hB ha ht.neg hK
theorem turn_after (p q : Int) (a : Gi) : (a.turn q).turn p = a.turn (p + q) := by
 unfold Gi.turn
 rcases q4 p with hp | hp | hp | hp <;> rcases q4 q with hq | hq | hq | hq
 all_goals
  have h : (p + q) % 4 = 0 ∨ (p + q) % 4 = 1 ∨ (p + q) % 4 = 2 ∨ (p + q) % 4 = 3 := q4 _
  rcases h with h | h | h | h <;> first | (exfalso; omega) | (simp [hp, hq, h])
theorem turn_same (p q : Int) (h : p % 4 = q % 4) (a : Gi) : a.turn p = a.turn q := turn_congr p q h a
theorem conj_turn (q : Int) (a : Gi) : (a.turn q).conj = a.conj.turn (-q) := by
 unfold Gi.turn Gi.conj
 rcases q4 q with hq | hq | hq | hq
 ·have : -q % 4 = 0 := by omega
  simp [hq, this]
 ·have : -q % 4 = 3 := by omega
  simp [hq, this]
 ·have : -q % 4 = 2 := by omega
  simp [hq, this]
 ·have : -q % 4 = 1 := by omega
  simp [hq, this]
theorem root_quarters (n : Nat) (hn : IsLen n) (i : Nat) : ∀ c : Nat, rootG n ((i + c * (n / 4) : Nat) : Int) 16 = (rootG n i 16).turn (-c)
 | 0 => by simp [Gi.turn]
 | c + 1 => by
   have h := root_quarter n ((i + c * (n / 4) : Nat) : Int) hn 16
   rw [root_quarters n hn i c, turn_after] at h
   rw [show ((i + (c + 1) * (n / 4) : Nat) : Int) = ((i + c * (n / 4) : Nat) : Int) + (n : Int) / 4 by rw [Nat.add_mul]; omega, h]
   congr 1
   omega
theorem wv_quarters (n : Nat) (hn : IsLen n) (iv : Bool) (i c : Nat) : wv n iv (i + c * (n / 4)) = (wv n iv i).turn (turns1 iv c) := by
 unfold wv turns1
 rw [root_quarters n hn i c]
 cases iv
 ·rfl
 ·simp only [if_true]
  rw [conj_turn, Int.neg_neg]
theorem gmul_turn (q : Int) (a w : Gi) : gmul a (w.turn q) = (gmul a w).turn q := by
 unfold Gi.turn
 rcases q4 q with h | h | h | h <;> simp [h, gmul] <;> constructor <;> grind
theorem csum_turn (q : Int) (f : Nat → Gi) : ∀ m, csum (fun t => (f t).turn q) m = (csum f m).turn q
 | 0 => by
   unfold Gi.turn
   rcases q4 q with h | h | h | h <;> simp [h, csum, isum]
 | m + 1 => by
   rw [csum_next, csum_next, csum_turn q f m]
   unfold Gi.turn
   rcases q4 q with h | h | h | h <;> simp [h, gadd] <;> omega
theorem fsum_quarters (n : Nat) (hn : IsLen n) (xs : List Gi) (iv : Bool) (s d e g m c : Nat) : fsum n xs iv s d (e + c * (n / 4)) g m = (fsum n xs iv s d e g m).turn (turns1 iv c) := by
 unfold fsum
 rw [← csum_turn]
 exact csum_congr fun t _ => by rw [show e + c * (n / 4) + g * t = e + g * t + c * (n / 4) by omega, wv_quarters n hn, gmul_turn]
theorem fsum_split (n : Nat) (xs : List Gi) (iv : Bool) (s d e g m : Nat) : fsum n xs iv s d e g (2 * m) = gadd (fsum n xs iv s (2 * d) e (2 * g) m) (fsum n xs iv (s + d) (2 * d) (e + g) (2 * g) m) := by
 unfold fsum
 rw [csum_parts]
 congr 1
 ·exact csum_congr fun t _ => by rw [show d * (2 * t) = 2 * d * t by rw [Nat.mul_left_comm, Nat.mul_assoc], show g * (2 * t) = 2 * g * t by rw [Nat.mul_left_comm, Nat.mul_assoc]]
 ·exact csum_congr fun t _ => by
   rw [show s + d * (2 * t + 1) = s + d + 2 * d * t by rw [Nat.mul_add, Nat.mul_left_comm, Nat.mul_assoc]; omega, show e + g * (2 * t + 1) = e + g + 2 * g * t by rw [Nat.mul_add, Nat.mul_left_comm, Nat.mul_assoc]; omega]
theorem Terms.turn {K : Int} {pow B : Nat} {T U : Gi} (h : Terms K pow B T U) (q : Int) : Terms K pow B (T.turn q) (U.turn q) := by
 have := Len.turn h q
 unfold Terms
 refine Eq.mp (congrArg _ ?_) this
 unfold Gi.turn
 rcases q4 q with h | h | h | h <;> simp [h, gup, gsubS] <;> first | done | (constructor <;> grind) | grind
theorem idG_at4 (n L : Nat) (xs : List Gi) (iv : Bool) (l q a b r : Nat) (hl : l + 1 < L) (ha : a < 2) (hb : b < 2) (hr : r < 2 ^ l) :
 idG n L xs iv l (2 ^ l * (2 * (2 * q + a) + b) + r) = fsum n xs iv (fl (L - l - 2) q + a * 2 ^ (L - l - 2) + b * (2 * 2 ^ (L - l - 2))) (4 * 2 ^ (L - l - 2)) 0 (4 * 2 ^ (L - l - 2) * r) (2 ^ l) := by
 have h := idG_at n L xs iv l (2 * q + a) b r (by omega) hb hr
 obtain ⟨k, hk⟩ : ∃ k, L - l - 1 = k + 1 := ⟨L - l - 2, by omega⟩
 rw [hk, fl_low q a ha k, Nat.pow_succ, show 2 * (2 ^ k * 2) = 4 * 2 ^ k by omega] at h
 rw [show L - l - 2 = k by omega, h, Nat.mul_comm (2 ^ k) 2]
theorem idG_four (n L : Nat) (hn : IsLen n) (hnL : n = 2 ^ L) (xs : List Gi) (iv : Bool) (l q c r : Nat) (hl : l + 1 < L) (hc : c < 4) (hr : r < 2 ^ l) :
 idG n L xs iv (l + 2) (2 ^ (l + 2) * q + (2 ^ l * c + r)) =
  gadd (idG n L xs iv l (2 ^ l * (2 * (2 * q)) + r)) (gadd (gadd ((fsum n xs iv (fl (L - l - 2) q + 2 ^ (L - l - 2)) (4 * 2 ^ (L - l - 2)) (2 ^ (L - l - 2) * r) (4 * 2 ^ (L - l - 2) * r) (2 ^ l)).turn (turns1 iv c))
   ((fsum n xs iv (fl (L - l - 2) q + 2 * 2 ^ (L - l - 2)) (4 * 2 ^ (L - l - 2)) (2 * 2 ^ (L - l - 2) * r) (4 * 2 ^ (L - l - 2) * r) (2 ^ l)).turn (2 * c)))
   ((fsum n xs iv (fl (L - l - 2) q + 2 ^ (L - l - 2) + 2 * 2 ^ (L - l - 2)) (4 * 2 ^ (L - l - 2)) (3 * 2 ^ (L - l - 2) * r) (4 * 2 ^ (L - l - 2) * r) (2 ^ l)).turn (-(turns1 iv c)))) := by
 have h0 := idG_at4 n L xs iv l q 0 0 r hl (by decide) (by decide) hr
 simp only [Nat.zero_mul, Nat.add_zero] at h0
 rw [h0]
 have hp : 0 < 2 ^ (l + 2) := Nat.two_pow_pos _
 have e2 : 2 ^ (l + 2) = 2 * (2 * 2 ^ l) := by rw [Nat.pow_add]; omega
 have hlt : 2 ^ l * c + r < 2 ^ (l + 2) := by
  rw [e2]
  have : 2 ^ l * c ≤ 2 ^ l * 3 := Nat.mul_le_mul_left _ (by omega)
  omega
 have hD : 2 ^ (L - l - 2) * 2 ^ l = n / 4 := by
  have h : 2 ^ (L - l - 2) * 2 ^ l * 4 = n := by rw [hnL, ← Nat.pow_add, show (4 : Nat) = 2 ^ 2 from rfl, ← Nat.pow_add]; congr 1; omega
  omega
 unfold idG
 rw [Nat.mul_add_div hp, Nat.div_eq_of_lt hlt, Nat.mul_add_mod, Nat.mod_eq_of_lt hlt, show L - (l + 2) = L - l - 2 by omega, e2, fsum_split, fsum_split, fsum_split]
 simp only [Nat.add_zero, Nat.zero_add]
 generalize 2 ^ (L - l - 2) = d at *
 have hg : d * (2 ^ l * c + r) = d * r + c * (n / 4) := by rw [Nat.mul_add, ← Nat.mul_assoc, hD, Nat.mul_comm (n / 4) c, Nat.add_comm]
 have hn4 : n = 4 * (n / 4) := by unfold IsLen at hn; omega
 rw [hg]
 have f4 : ∀ s e, fsum n xs iv s (2 * (2 * d)) e (2 * (2 * (d * r + c * (n / 4)))) (2 ^ l) = fsum n xs iv s (4 * d) e (4 * d * r) (2 ^ l) := fun s e => by
  rw [show 2 * (2 * d) = 4 * d by omega]
  have hcn : c * n = 4 * (c * (n / 4)) := by rw [Nat.mul_left_comm, ← hn4]
  exact fsum_turns n hn xs iv _ _ e e (4 * d * r) _ _ ⟨0, by simp⟩ ⟨c, by rw [Nat.mul_assoc 4 d r, Nat.mul_comm n c, hcn]; omega⟩
 rw [f4, f4, f4, f4]
 rw [show d * r + c * (n / 4) + 2 * (d * r + c * (n / 4)) = 3 * d * r + (3 * c) * (n / 4) by rw [Nat.mul_assoc 3 d r, Nat.mul_assoc 3 c]; omega, show 2 * (d * r + c * (n / 4)) = 2 * d * r + (2 * c) * (n / 4) by rw [Nat.mul_assoc 2 d r, Nat.mul_assoc 2 c]; omega]
 rw [fsum_quarters n hn, fsum_quarters n hn, fsum_quarters n hn]
 have t2 : ∀ a : Gi, a.turn (turns1 iv ((2 * c : Nat) : Int)) = a.turn (2 * (c : Int)) := fun a => turn_same _ _ (by unfold turns1; split <;> omega) a
 have t3 : ∀ a : Gi, a.turn (turns1 iv ((3 * c : Nat) : Int)) = a.turn (-(turns1 iv c)) := fun a => turn_same _ _ (by unfold turns1; split <;> omega) a
 rw [t2, t3]
 apply gi_eq <;> simp only [gadd] <;> omega
theorem quad_place (n h u i : Nat) (hn : n = 4 * h * u) (h1 : 1 ≤ h) (hi : i < n) : ∃ q c j, i - i % (4 * h) = 4 * h * q ∧ i % h = j ∧ j < h ∧ c < 4 ∧ i = 4 * h * q + (h * c + j) ∧ (i - (i - i % (4 * h))) / h = c ∧ 4 * h * q + 4 * h ≤ n := by
 have hd := Nat.mod_lt i (show 0 < 4 * h by omega)
 have hdm := Nat.div_add_mod i (4 * h)
 have hd2 := Nat.mod_lt (i % (4 * h)) (show 0 < h by omega)
 have hdm2 := Nat.div_add_mod (i % (4 * h)) h
 generalize i / (4 * h) = q at hdm
 generalize i % (4 * h) = k at hd hdm hd2 hdm2 ⊢
 generalize hc : k / h = c at hdm2
 generalize k % h = j at hd2 hdm2
 have hc4 : c < 4 := by
  apply Classical.byContradiction
  intro hcc
  have : h * 4 ≤ h * c := Nat.mul_le_mul_left _ (by omega)
  omega
 have e2 : 4 * h * q = h * (4 * q) := by rw [Nat.mul_comm 4 h, Nat.mul_assoc]
 have hqu : q < u := by
  apply Classical.byContradiction
  intro hcc
  have : 4 * h * u ≤ 4 * h * q := Nat.mul_le_mul_left _ (by omega)
  omega
 have hle : 4 * h * q + 4 * h ≤ n := by
  have : 4 * h * (q + 1) ≤ 4 * h * u := Nat.mul_le_mul_left _ hqu
  rw [Nat.mul_add] at this
  omega
 refine ⟨q, c, j, by omega, ?_, hd2, hc4, by omega, ?_, hle⟩
 ·rw [show i = h * (4 * q + c) + j by rw [Nat.mul_add]; omega, Nat.mul_add_mod]
  exact Nat.mod_eq_of_lt hd2
 ·rw [show i - (i - k) = k by omega]
  exact hc
theorem quad_grnd (bits s : Nat) (mo : Int) (inv : Bool) (q : Int) (a0 a1 a2 a3 w1 w2 w3 : Gi) :
 quadOut bits s mo inv q a0 a1 a2 a3 w1 w2 w3 = grnd (bits + s) mo (gadd (gscale bits a0) (gadd (gadd ((gmul a1 w1).turn (turns1 inv q)) ((gmul a2 w2).turn (2 * q))) ((gmul a3 w3).turn (-(turns1 inv q))))) := by
 unfold quadOut quadSum
 congr 1
 apply gi_eq <;> simp only [gadd] <;> omega
theorem four_nearL {n L l s B : Nat} {e e' R δ X : Int} {pow : Nat} {xs ys ws : List Gi} {iv : Bool} {mo : Int} (hn : IsLen n) (hnL : n = 2 ^ L) (hl : l + 1 < L) (hm : mo = 0 ∨ mo = 1 ∨ mo = 2) (he : 0 ≤ e) (hR : 0 ≤ R) (hδ : 0 ≤ δ) (hX : 0 ≤ X) (hB : B ≤ 40)
 (hx : ∀ j, Len X (xs.getD j ⟨0, 0⟩)) (hlen : ys.length = n) (hy : ∀ i, Len R (ys.getD i ⟨0, 0⟩)) (hw : ∀ k, k < n → Len δ (gsubS (gup (2 ^ (40 - B)) (rootOf ws iv k)) (wv n iv k)))
 (h : NearL e pow n L xs iv l ys) (hK : 91 * 2 ^ (pow + s + 40) * 1099511627776 + e * 2 ^ (pow + 40) * 1099511627776 + 3 * termK e pow R δ (2 ^ l) X ≤ e' * 2 ^ (pow + s + 40) * 1099511627776) :
 NearL e' (pow + s) n L xs iv (l + 2) (fourL ys ws (2 ^ l) B s mo iv) := by
 have hp : 0 < 2 ^ l := Nat.two_pow_pos l
 have hpd : 0 < 2 ^ (L - l - 2) := Nat.two_pow_pos _
 have e2 : 2 ^ (l + 2) = 4 * 2 ^ l := by rw [Nat.pow_add]; omega
 have hu : n = 4 * 2 ^ l * 2 ^ (L - l - 2) := by
  rw [hnL, ← e2, ← Nat.pow_add]
  congr 1
  omega
 intro i hi
 obtain ⟨q, c, r, f1, f2, hr, hc, hi2, f3, hle⟩ := quad_place n (2 ^ l) _ i hu hp hi
 have hdiv : n / (4 * 2 ^ l) = 2 ^ (L - l - 2) := by rw [hu, Nat.mul_div_cancel_left _ (by omega)]
 have hk : 4 * (2 ^ (L - l - 2) * r) < n := by
  have : 2 ^ (L - l - 2) * r < 2 ^ (L - l - 2) * 2 ^ l := Nat.mul_lt_mul_of_pos_left hr hpd
  rw [Nat.mul_comm (2 ^ (L - l - 2)) (2 ^ l)] at this
  rw [hu, Nat.mul_assoc]
  omega
 have hid := idG_four n L hn hnL xs iv l q c r hl hc hr
 rw [e2, ← hi2] at hid
 have q0 : 2 ^ l * (2 * (2 * q)) + r = 4 * 2 ^ l * q + r := by rw [show 2 * (2 * q) = 4 * q by omega, Nat.mul_left_comm, Nat.mul_assoc]
 have q1 : 2 ^ l * (2 * (2 * q + 0) + 1) + r = 4 * 2 ^ l * q + 2 ^ l + r := by rw [Nat.mul_add, Nat.add_zero, show 2 * (2 * q) = 4 * q by omega, Nat.mul_left_comm, Nat.mul_assoc]; omega
 have q2 : 2 ^ l * (2 * (2 * q + 1) + 0) + r = 4 * 2 ^ l * q + 2 * 2 ^ l + r := by rw [show 2 * (2 * q + 1) + 0 = 4 * q + 2 by omega, Nat.mul_add, Nat.mul_left_comm, Nat.mul_assoc]; omega
 have q3 : 2 ^ l * (2 * (2 * q + 1) + 1) + r = 4 * 2 ^ l * q + 3 * 2 ^ l + r := by rw [show 2 * (2 * q + 1) + 1 = 4 * q + 3 by omega, Nat.mul_add, Nat.mul_left_comm, Nat.mul_assoc]; omega
 have b1 := idG_at4 n L xs iv l q 0 1 r hl (by decide) (by decide) hr
 have b2 := idG_at4 n L xs iv l q 1 0 r hl (by decide) (by decide) hr
 have b3 := idG_at4 n L xs iv l q 1 1 r hl (by decide) (by decide) hr
 simp only [Nat.zero_mul, Nat.one_mul, Nat.add_zero] at b1 b2 b3
 rw [Nat.add_zero] at q1 q2
 have h0 := h (4 * 2 ^ l * q + r) (by omega)
 have h1 := h (4 * 2 ^ l * q + 2 ^ l + r) (by omega)
 have h2 := h (4 * 2 ^ l * q + 2 * 2 ^ l + r) (by omega)
 have h3 := h (4 * 2 ^ l * q + 3 * 2 ^ l + r) (by omega)
 rw [← q0] at h0
 rw [← q1] at h1
 rw [← q2] at h2
 rw [← q3] at h3
 have hH : (0 : Int) ≤ (2 ^ l : Nat) * (X * 1649267441664) := Int.mul_nonneg (by omega) (Int.mul_nonneg hX (by decide))
 generalize hd : 2 ^ (L - l - 2) = d at *
 have m1 := fsum_moved n hn xs iv (fl (L - l - 2) q + 2 * d) (4 * d) (2 * d * r) (4 * d * r) (2 ^ l) X hX hx
 have m2 := fsum_moved n hn xs iv (fl (L - l - 2) q + d) (4 * d) (d * r) (4 * d * r) (2 ^ l) X hX hx
 have m3 := fsum_moved n hn xs iv (fl (L - l - 2) q + d + 2 * d) (4 * d) (3 * d * r) (4 * d * r) (2 ^ l) X hX hx
 rw [← b1] at m1
 rw [← b2] at m2
 rw [← b3] at m3
 have t1 : Terms (termK e pow R δ (2 ^ l) X) pow B _ _ := term_near he hR hδ hH hB h1 (hy _) (hw (2 * d * r) (by rw [Nat.mul_assoc]; omega)) (wv_len n hn iv _) m1
 have t2 : Terms (termK e pow R δ (2 ^ l) X) pow B _ _ := term_near he hR hδ hH hB h2 (hy _) (hw (d * r) (by omega)) (wv_len n hn iv _) m2
 have t3 : Terms (termK e pow R δ (2 ^ l) X) pow B _ _ := term_near he hR hδ hH hB h3 (hy _) (hw (3 * d * r) (by rw [Nat.mul_assoc]; omega)) (wv_len n hn iv _) m3
 have hK0 := termK_nonneg (pow := pow) (m := 2 ^ l) he hR hδ hX
 have ht := Terms.add (by omega) hK0 (Terms.add hK0 hK0 (t2.turn (turns1 iv c)) (t1.turn (2 * c))) (t3.turn (-(turns1 iv c)))
 unfold fourL
 rw [hlen, getD_map_range hi]
 unfold fourAt
 simp only
 rw [hlen, f3, f1, f2, hdiv, hid, quad_grnd]
 rw [show 4 * 2 ^ l * q + r = 2 ^ l * (2 * (2 * q)) + r from q0.symm, show 4 * 2 ^ l * q + 2 * 2 ^ l + r = 2 ^ l * (2 * (2 * q + 1)) + r from q2.symm, show 4 * 2 ^ l * q + 2 ^ l + r = 2 ^ l * (2 * (2 * q) + 1) + r from q1.symm, show 4 * 2 ^ l * q + 3 * 2 ^ l + r = 2 ^ l * (2 * (2 * q + 1) + 1) + r from q3.symm]
 rw [show r * d = d * r from Nat.mul_comm _ _, show 2 * r * d = 2 * d * r by rw [Nat.mul_assoc, Nat.mul_comm r d, Nat.mul_assoc], show 3 * r * d = 3 * d * r by rw [Nat.mul_assoc, Nat.mul_comm r d, Nat.mul_assoc]]
 exact sum_near hm he (by omega) hB h0 ht (by omega)
def spG (n : Nat) (xs : List Gi) (iv : Bool) (s d l i : Nat) : Gi := fsum n xs iv s d 0 (d * i) (2 ^ l)
theorem spG_again (n : Nat) (hn : IsLen n) (xs : List Gi) (iv : Bool) (s d l i q : Nat) (hd : d * 2 ^ l = n) : spG n xs iv s d l (i + 2 ^ l * q) = spG n xs iv s d l i :=
 fsum_turns n hn xs iv _ _ 0 0 (d * i) _ _ ⟨0, by simp⟩ ⟨q, by rw [Nat.mul_add, ← Nat.mul_assoc, hd]⟩
theorem spG_four (n : Nat) (hn : IsLen n) (xs : List Gi) (iv : Bool) (s d l c r : Nat) (hd : d * 2 ^ (l + 2) = n) :
 spG n xs iv s d (l + 2) (2 ^ l * c + r) = gadd (spG n xs iv s (2 * d) (l + 1) (2 ^ l * c + r)) (gadd ((fsum n xs iv (s + d) (4 * d) (d * r) (4 * d * r) (2 ^ l)).turn (turns1 iv c)) ((fsum n xs iv (s + 3 * d) (4 * d) (3 * d * r) (4 * d * r) (2 ^ l)).turn (-(turns1 iv c)))) := by
 have e2 : 2 ^ (l + 2) = 2 * (2 * 2 ^ l) := by rw [Nat.pow_add]; omega
 have hD : d * 2 ^ l = n / 4 := by
  have h : d * 2 ^ l * 4 = n := by rw [← hd, e2, show 2 * (2 * 2 ^ l) = 2 ^ l * 4 by omega, Nat.mul_assoc]
  omega
 have hn4 : n = 4 * (n / 4) := by unfold IsLen at hn; omega
 unfold spG
 rw [e2, fsum_split, fsum_split n xs iv (s + d), show 2 ^ (l + 1) = 2 * 2 ^ l by rw [Nat.pow_succ, Nat.mul_comm]]
 have hg : d * (2 ^ l * c + r) = d * r + c * (n / 4) := by rw [Nat.mul_add, ← Nat.mul_assoc, hD, Nat.mul_comm (n / 4) c, Nat.add_comm]
 have hcn : c * n = 4 * (c * (n / 4)) := by rw [Nat.mul_left_comm, ← hn4]
 have f4 : ∀ s e, fsum n xs iv s (2 * (2 * d)) e (2 * (2 * (d * r + c * (n / 4)))) (2 ^ l) = fsum n xs iv s (4 * d) e (4 * d * r) (2 ^ l) := fun s e => by
  rw [show 2 * (2 * d) = 4 * d by omega]
  exact fsum_turns n hn xs iv _ _ e e (4 * d * r) _ _ ⟨0, by simp⟩ ⟨c, by rw [Nat.mul_assoc 4 d r, Nat.mul_comm n c, hcn]; omega⟩
 have h1 : 2 * (d * (2 ^ l * c + r)) = 2 * d * (2 ^ l * c + r) := (Nat.mul_assoc 2 d _).symm
 rw [h1]
 rw [show 2 * (2 * d * (2 ^ l * c + r)) = 2 * (2 * (d * r + c * (n / 4))) by rw [← hg, Nat.mul_assoc 2 d], f4, f4]
 rw [show 0 + d * (2 ^ l * c + r) = d * r + c * (n / 4) by rw [hg]; omega, show d * r + c * (n / 4) + 2 * d * (2 ^ l * c + r) = 3 * d * r + (3 * c) * (n / 4) by rw [Nat.mul_assoc 2 d, hg, Nat.mul_assoc 3 d r, Nat.mul_assoc 3 c]; omega, show s + d + 2 * d = s + 3 * d by omega]
 rw [fsum_quarters n hn, fsum_quarters n hn]
 have t3 : ∀ a : Gi, a.turn (turns1 iv ((3 * c : Nat) : Int)) = a.turn (-(turns1 iv c)) := fun a => turn_same _ _ (by unfold turns1; split <;> omega) a
 rw [t3]
theorem join_grnd (bits : Nat) (mo : Int) (inv : Bool) (q : Nat) (hq : q < 4) (u v y z w w3 : Gi) :
 joinG bits mo inv q u v y z w w3 = grnd (bits + 2) mo (gadd (gscale (bits + 1) (if q % 2 = 1 then v else u)) (gadd ((gmul y w).turn (turns1 inv q)) ((gmul z w3).turn (-(turns1 inv q))))) := by
 have hc : q = 0 ∨ q = 1 ∨ q = 2 ∨ q = 3 := by omega
 unfold joinG
 congr 1
 rcases hc with rfl | rfl | rfl | rfl <;> cases inv <;> apply gi_eq <;> simp [turns1, Gi.turn, gadd, gsub] <;> omega
theorem half_near {e : Int} {pow : Nat} {c V : Gi} {B : Nat} {mo : Int} {e' K : Int} {T U : Gi} (hm : mo = 0 ∨ mo = 1 ∨ mo = 2) (he : 0 ≤ e) (hK0 : 0 ≤ K) (hB : B ≤ 40) (hc : Near e (pow + 1) c V) (hT : Terms K pow B T U)
 (hK : 91 * 2 ^ (pow + 2 + 40) * 1099511627776 + e * 2 ^ (pow + 1 + 40) * 1099511627776 + K ≤ e' * 2 ^ (pow + 2 + 40) * 1099511627776) : Near e' (pow + 2) (grnd (B + 2) mo (gadd (gscale (B + 1) c) T)) (gadd V U) := by
 have ep : (2 : Int) ^ (pow + 1 + 40) = 2 * 2 ^ (pow + 40) := by rw [show pow + 1 + 40 = (pow + 40) + 1 by omega, Int.pow_succ, Int.mul_comm]
 have h1 : Near (2 * e) pow (gup 2 c) V := by
  unfold Near at hc ⊢
  rw [ep] at hc
  rw [show 2 * e * 2 ^ (pow + 40) = e * (2 * 2 ^ (pow + 40)) by grind]
  refine Eq.mp (congrArg _ ?_) hc
  apply gi_eq <;> simp only [gup, gsubS] <;> grind
 have e2 : gscale (B + 1) c = gscale B (gup 2 c) := by
  apply gi_eq <;> simp only [gscale, gup] <;> rw [Int.pow_succ] <;> grind
 rw [e2]
 exact sum_near hm (by omega) hK0 hB h1 hT (by rw [ep] at hK; rw [show 2 * e * 2 ^ (pow + 40) = e * (2 * 2 ^ (pow + 40)) by grind]; exact hK)
def spE (l : Nat) : Int := 91 + 223 * l
theorem split_near (n : Nat) (hn : IsLen n) (xs : List Gi) (iv : Bool) (mo : Int) (hm : mo = 0 ∨ mo = 1 ∨ mo = 2) (B pow : Nat) (hB : B ≤ 39) (W : Nat → Gi) (R0 R δ X : Int) (hR0 : 0 ≤ R0) (hRR0 : R0 + 35 ≤ R) (hR3 : R0 + 35 ≤ 3 * 2 ^ B) (hWl : ∀ k, Len (2 ^ B + 2) (W k)) (hδ : 0 ≤ δ) (hX : 0 ≤ X) (hx : ∀ j, Len X (xs.getD j ⟨0, 0⟩))
 (hW : ∀ k, k < n → Len δ (gsubS (gup (2 ^ (40 - B)) (W k)) (wv n iv k)))
 (hK1 : ∀ l, l ≤ 5 → 91 * 2 ^ (pow + l + 2 + 40) * 1099511627776 + spE (l + 1) * 2 ^ (pow + l + 1 + 40) * 1099511627776 + 2 * termK (spE l) (pow + l) R δ (2 ^ l) X ≤ spE (l + 2) * 2 ^ (pow + l + 2 + 40) * 1099511627776) :
 ∀ (l s d : Nat) (f : Nat → Gi), l ≤ 7 → d * 2 ^ l = n → (∀ i, i < 2 ^ l → Near 91 pow (f i) (gup 1099511627776 (xs.getD (s + d * i) ⟨0, 0⟩))) → (∀ i, i < 2 ^ l → Len R0 (f i)) →
  ∀ i, i < 2 ^ l → Near (spE l) (pow + l) (spl B mo iv W n l f i) (spG n xs iv s d l i)
 | 0, s, d, f, _, hd, hf, _, i, hi => by
   have h0 : i = 0 := by simpa using hi
   subst h0
   have h := hf 0 (by decide)
   have e : spG n xs iv s d 0 0 = gup 1099511627776 (xs.getD (s + d * 0) ⟨0, 0⟩) := by
    unfold spG fsum
    apply gi_eq <;> simp [csum, isum, wv_zero n hn, gmul, gup]
   rw [e]
   exact h
 | 1, s, d, f, _, hd, hf, hRR, i, hi => by
   have n0 := hf 0 (by decide)
   have n1 := hf 1 (by decide)
   have hp : (0 : Int) < 2 ^ (pow + 40) := Int.pow_pos (by decide)
   have ep : (2 : Int) ^ (pow + 1 + 40) = 2 * 2 ^ (pow + 40) := by rw [show pow + 1 + 40 = (pow + 40) + 1 by omega, Int.pow_succ, Int.mul_comm]
   have hT : Terms (91 * 2 ^ (pow + 40) * 1099511627776) pow 0 (f 1) (gup 1099511627776 (xs.getD (s + d * 1) ⟨0, 0⟩)) := Len.up (by decide) n1
   have hd2 : d = n / 2 := by omega
   have key : ∀ (T U : Gi), Terms (91 * 2 ^ (pow + 40) * 1099511627776) pow 0 T U → Near (spE 1) (pow + 1) (grnd 1 mo (gadd (f 0) T)) (gadd (gup 1099511627776 (xs.getD (s + d * 0) ⟨0, 0⟩)) U) := fun T U h => by
    have := sum_near (e' := spE 1) (s := 1) hm (by decide) (by omega) (by decide) n0 h (by rw [ep]; simp only [spE]; omega)
    have e : gscale 0 (f 0) = f 0 := by apply gi_eq <;> simp [gscale]
    rw [e] at this
    exact this
   have hc : i = 0 ∨ i = 1 := by
    have : i < 2 := hi
    omega
   rcases hc with rfl | rfl
   ·have e : spG n xs iv s d 1 0 = gadd (gup 1099511627776 (xs.getD (s + d * 0) ⟨0, 0⟩)) (gup 1099511627776 (xs.getD (s + d * 1) ⟨0, 0⟩)) := by
     unfold spG fsum
     apply gi_eq <;> simp [csum, isum, wv_zero n hn, gmul, gup, gadd]
    rw [e]
    exact key _ _ hT
   ·have w0 : wv n iv d = gneg ⟨1099511627776, 0⟩ := by
     have := wv_half n hn iv 0
     rw [wv_zero n hn, Nat.zero_add, ← hd2] at this
     exact this
    have e : spG n xs iv s d 1 1 = gadd (gup 1099511627776 (xs.getD (s + d * 0) ⟨0, 0⟩)) (gneg (gup 1099511627776 (xs.getD (s + d * 1) ⟨0, 0⟩))) := by
     unfold spG fsum
     apply gi_eq <;> simp [csum, isum, wv_zero n hn, w0, gmul, gup, gadd, gneg] <;> omega
    have e1 : spl B mo iv W n 1 f 1 = grnd 1 mo (gadd (f 0) (gneg (f 1))) := by
     show grnd 1 mo (gsub (f 0) (f 1)) = _
     congr 1
    rw [e, e1]
    exact key _ _ hT.neg
 | l + 2, s, d, f, hl, hd, hf, hRR, i, hi => by
   have e2 : 2 ^ (l + 2) = 4 * 2 ^ l := by rw [Nat.pow_add]; omega
   have e1 : 2 ^ (l + 1) = 2 * 2 ^ l := by rw [Nat.pow_succ, Nat.mul_comm]
   have hp : 0 < 2 ^ l := Nat.two_pow_pos l
   have hd0 : 0 < d := by
    apply Nat.pos_of_ne_zero
    rintro rfl
    rw [Nat.zero_mul] at hd
    unfold IsLen at hn
    omega
   have hr := Nat.mod_lt i hp
   have hdm := Nat.div_add_mod i (2 ^ l)
   have hq : i / 2 ^ l < 4 := Nat.div_lt_of_lt_mul (by rw [Nat.mul_comm, ← e2]; exact hi)
   have hdiv : n / 2 ^ (l + 2) = d := by rw [← hd, Nat.mul_div_cancel _ (by omega)]
   rw [spl_two, hdiv]
   generalize i / 2 ^ l = q at *
   generalize i % 2 ^ l = r at *
   have hd4 : 4 * (d * 2 ^ l) = n := by rw [← hd, e2, Nat.mul_left_comm]
   have hd2 : 2 * d * 2 ^ (l + 1) = n := by
    rw [e1, show 2 * d * (2 * 2 ^ l) = 4 * (d * 2 ^ l) by rw [Nat.mul_assoc, Nat.mul_left_comm d 2]; omega]
    exact hd4
   have hk : 4 * (d * r) < n := by
    have : d * r < d * 2 ^ l := Nat.mul_lt_mul_of_pos_left hr hd0
    omega
   have hU := split_near n hn xs iv mo hm B pow hB W R0 R δ X hR0 hRR0 hR3 hWl hδ hX hx hW hK1 (l + 1) s (2 * d) (fun j => f (2 * j)) (by omega) hd2 (fun i hi => by
    have := hf (2 * i) (by omega)
    rw [show d * (2 * i) = 2 * d * i by rw [Nat.mul_left_comm, Nat.mul_assoc]] at this
    exact this) (fun i hi => hRR (2 * i) (by omega))
   have hY := split_near n hn xs iv mo hm B pow hB W R0 R δ X hR0 hRR0 hR3 hWl hδ hX hx hW hK1 l (s + d) (4 * d) (fun j => f (4 * j + 1)) (by omega) (by rw [← hd, e2, Nat.mul_assoc, Nat.mul_left_comm]) (fun i hi => by
    have := hf (4 * i + 1) (by omega)
    rw [show s + d * (4 * i + 1) = s + d + 4 * d * i by rw [Nat.mul_add, Nat.mul_left_comm, Nat.mul_assoc]; omega] at this
    exact this) (fun i hi => hRR (4 * i + 1) (by omega)) r hr
   have hZ := split_near n hn xs iv mo hm B pow hB W R0 R δ X hR0 hRR0 hR3 hWl hδ hX hx hW hK1 l (s + 3 * d) (4 * d) (fun j => f (4 * j + 3)) (by omega) (by rw [← hd, e2, Nat.mul_assoc, Nat.mul_left_comm]) (fun i hi => by
    have := hf (4 * i + 3) (by omega)
    rw [show s + d * (4 * i + 3) = s + 3 * d + 4 * d * i by rw [Nat.mul_add, Nat.mul_left_comm, Nat.mul_assoc, Nat.mul_comm d 3]; omega] at this
    exact this) (fun i hi => hRR (4 * i + 3) (by omega)) r hr
   have hH : (0 : Int) ≤ (2 ^ l : Nat) * (X * 1649267441664) := Int.mul_nonneg (by omega) (Int.mul_nonneg hX (by decide))
   have hE : (0 : Int) ≤ spE l := by unfold spE; omega
   have hE1 : (0 : Int) ≤ spE (l + 1) := by unfold spE; omega
   have mY := fsum_moved n hn xs iv (s + d) (4 * d) (d * r) (4 * d * r) (2 ^ l) X hX hx
   have mZ := fsum_moved n hn xs iv (s + 3 * d) (4 * d) (3 * d * r) (4 * d * r) (2 ^ l) X hX hx
   have tY : Terms (termK (spE l) (pow + l) R δ (2 ^ l) X) (pow + l) B _ _ := term_near hE (by omega) hδ hH (by omega) hY (Len.mono (by omega) (spl_len B mo iv W n hm hWl l R0 _ hR0 (by omega) (fun i hi => hRR (4 * i + 1) (by omega)) r hr) (by omega)) (hW (d * r) (by omega)) (wv_len n hn iv _) mY
   have tZ : Terms (termK (spE l) (pow + l) R δ (2 ^ l) X) (pow + l) B _ _ := term_near hE (by omega) hδ hH (by omega) hZ (Len.mono (by omega) (spl_len B mo iv W n hm hWl l R0 _ hR0 (by omega) (fun i hi => hRR (4 * i + 3) (by omega)) r hr) (by omega)) (hW (3 * d * r) (by rw [Nat.mul_assoc]; omega)) (wv_len n hn iv _) mZ
   have hK0 := termK_nonneg (pow := pow + l) (m := 2 ^ l) (R := R) hE (by omega) hδ hX
   have ht := Terms.add hK0 hK0 (tY.turn (turns1 iv q)) (tZ.turn (-(turns1 iv q)))
   rw [join_grnd B mo iv q hq, show r * d = d * r from Nat.mul_comm _ _, show 3 * r * d = 3 * d * r by rw [Nat.mul_assoc, Nat.mul_comm r d, Nat.mul_assoc]]
   have hsp := spG_four n hn xs iv s d l q r hd
   rw [hdm] at hsp
   rw [hsp, ← hdm]
   have hUq : Near (spE (l + 1)) (pow + (l + 1)) (if q % 2 = 1 then spl B mo iv W n (l + 1) (fun j => f (2 * j)) (2 ^ l + r) else spl B mo iv W n (l + 1) (fun j => f (2 * j)) r) (spG n xs iv s (2 * d) (l + 1) (2 ^ l * q + r)) := by
    have hdd := hd2
    have ha := spG_again n hn xs iv s (2 * d) (l + 1) (2 ^ l * (q % 2) + r) (q / 2) hdd
    have hqq := Nat.div_add_mod q 2
    rw [show 2 ^ l * (q % 2) + r + 2 ^ (l + 1) * (q / 2) = 2 ^ l * q + r by
     rw [e1, show 2 * 2 ^ l * (q / 2) = 2 ^ l * (2 * (q / 2)) by rw [Nat.mul_comm 2, Nat.mul_assoc]]
     have : 2 ^ l * (2 * (q / 2) + q % 2) = 2 ^ l * q := by rw [hqq]
     rw [Nat.mul_add] at this
     omega] at ha
    rw [ha]
    by_cases h : q % 2 = 1
    ·rw [if_pos h, h, Nat.mul_one]
     exact hU (2 ^ l + r) (by omega)
    ·rw [if_neg h, show q % 2 = 0 by omega, Nat.mul_zero, Nat.zero_add]
     exact hU r (by omega)
   exact half_near (pow := pow + l) hm hE1 (by omega) (by omega) hUq ht (by
    refine Int.le_trans (Int.le_of_eq ?_) (hK1 l (by omega))
    rw [Int.two_mul])
theorem room_all (k c0 : Int) (P C S e e' Q Y T : Int) (hP : 0 ≤ P) (hC : 0 ≤ C) (hk : 0 ≤ k) (hT : T ≤ 96 * Y * P) (h : k * (64 * Q + e + 96 * Y) ≤ (c0 - 91) * S * C) (hu : (k + 1) * e + c0 * S ≤ e' * S) :
 91 * (S * P) * C + e * P * C + k * (64 * P * Q + e * P * (C + 1) + T) ≤ e' * (S * P) * C := by
 have a := Int.mul_le_mul_of_nonneg_left h hP
 have b := Int.mul_le_mul_of_nonneg_left hu (Int.mul_nonneg hP hC)
 have t := Int.mul_le_mul_of_nonneg_left hT hk
 have e1 : 91 * (S * P) * C + e * P * C + k * (64 * P * Q + e * P * (C + 1) + T) = P * (k * (64 * Q + e + 96 * Y)) + P * C * ((k + 1) * e) + P * C * (91 * S) + (k * T - k * (96 * Y * P)) := by grind
 have e2 : e' * (S * P) * C = P * C * (e' * S) := by grind
 have e3 : P * ((c0 - 91) * S * C) + P * C * (91 * S) = P * C * (c0 * S) := by grind
 have e4 : P * C * ((k + 1) * e + c0 * S) = P * C * ((k + 1) * e) + P * C * (c0 * S) := by grind
 rw [e1, e2]
 rw [e4] at b
 omega
theorem term_room (m pow : Nat) (X Y : Int) (h : (m : Int) * X ≤ Y * 2 ^ pow) : 64 * ((m : Int) * (X * 1649267441664)) ≤ 96 * Y * 2 ^ (pow + 40) := by
 rw [Int.pow_add, show (2 : Int) ^ 40 = 1099511627776 from rfl]
 generalize (2 : Int) ^ pow = P at *
 have e1 : 64 * ((m : Int) * (X * 1649267441664)) = 105553116266496 * (m * X) := by grind
 have e2 : 96 * Y * (P * 1099511627776) = 105553116266496 * (Y * P) := by grind
 rw [e1, e2]
 omega
theorem up_room (a : Int) (s : Nat) : a ≤ upB a s * 2 ^ s := by
 unfold upB
 have hp : (0 : Int) < 2 ^ s := Int.pow_pos (by decide)
 have := Int.ediv_mul_le (-a) (Int.ne_of_gt hp)
 rw [Int.neg_mul]
 omega
theorem step_room (k c0 e e' R δ X Y : Int) (pow s m : Nat) (hk : 0 ≤ k) (hY : (m : Int) * X ≤ Y * 2 ^ pow) (h : k * (64 * (R * δ) + e + 96 * Y) ≤ (c0 - 91) * 2 ^ s * 1099511627776) (hu : (k + 1) * e + c0 * 2 ^ s ≤ e' * 2 ^ s) :
 91 * 2 ^ (pow + s + 40) * 1099511627776 + e * 2 ^ (pow + 40) * 1099511627776 + k * termK e pow R δ m X ≤ e' * 2 ^ (pow + s + 40) * 1099511627776 := by
 have hp : (0 : Int) ≤ 2 ^ (pow + 40) := Int.le_of_lt (Int.pow_pos (by decide))
 have ep : (2 : Int) ^ (pow + s + 40) = 2 ^ s * 2 ^ (pow + 40) := by rw [← Int.pow_add]; congr 1; omega
 have := room_all k c0 (2 ^ (pow + 40)) 1099511627776 (2 ^ s) e e' (R * δ) Y _ hp (by decide) hk (term_room m pow X Y hY) h hu
 rw [ep]
 unfold termK
 exact this
theorem stepB_room (e k sc s : Int) (hk : k = 2 ∨ k = 4) (hs : 0 ≤ s) (h2 : sc = 2 → s = 0) :
 (k - 1 + 1) * e + (if sc = 2 then (if k = 2 then 608 else 1632) else (if k = 2 then 224 else 288)) * 2 ^ s.toNat ≤ stepB e k sc s * 2 ^ s.toNat := by
 have a := up_room (2 * e) s.toNat
 have b := up_room (4 * e) s.toNat
 unfold stepB
 by_cases hc : sc = 2
 ·rw [if_pos hc, if_pos hc, h2 hc]
  rcases hk with rfl | rfl
  ·rw [if_pos rfl, if_pos rfl]
   simp
  ·rw [if_neg (by decide), if_neg (by decide)]
   simp
 ·rw [if_neg hc, if_neg hc]
  generalize (2 : Int) ^ s.toNat = P at *
  rcases hk with rfl | rfl
  ·rw [if_pos rfl, if_pos rfl]
   rw [Int.add_mul (upB (2 * e) s.toNat)]
   omega
  ·rw [if_neg (by decide), if_neg (by decide)]
   rw [Int.add_mul (upB (4 * e) s.toNat)]
   omega
end
end Go.Proofs.YtdignnmpfkgkoaaGreat
