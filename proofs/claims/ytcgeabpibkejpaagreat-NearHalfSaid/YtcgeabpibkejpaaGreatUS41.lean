import Derived.Test.YtcgeabpibkejpaaGreatUS40
namespace Go.Proofs.YtcgeabpibkejpaaGreat
section
set_option linter.unusedVariables false
set_option linter.unusedSimpArgs false
set_option maxRecDepth 100000
def spG (n : Nat) (xs : List Gi) (iv : Bool) (s d l i : Nat) : Gi := fsum n xs iv s d 0 (d * i) (2 ^ l)
theorem spG_again (n : Nat) (hn : IsLen n) (xs : List Gi) (iv : Bool) (s d l i q : Nat) (hd : d * 2 ^ l = n) : spG n xs iv s d l (i + 2 ^ l * q) = spG n xs iv s d l i :=
 fsum_turns n hn xs iv _ _ 0 0 (d * i) _ _ ⟨0, by simp⟩ ⟨q, by rw [Nat.mul_add, ← Nat.mul_assoc, hd]⟩
theorem spG_four (n : Nat) (hn : IsLen n) (xs : List Gi) (iv : Bool) (s d l c r : Nat) (hd : d * 2 ^ (l + 2) = n) :
 spG n xs iv s d (l + 2) (2 ^ l * c + r) = gadd (spG n xs iv s (2 * d) (l + 1) (2 ^ l * c + r)) (gadd ((fsum n xs iv (s + d) (4 * d) (d * r) (4 * d * r) (2 ^ l)).turn (turns1 iv c)) ((fsum n xs iv (s + 3 * d) (4 * d) (3 * d * r) (4 * d * r) (2 ^ l)).turn (-(turns1 iv c)))) := by
 have e2 : 2 ^ (l + 2) = 2 * (2 * 2 ^ l) := by rw [Nat.pow_add]; omega
 have hD : d * 2 ^ l = n / 4 := by
  have h : d * 2 ^ l * 4 = n := by rw [← hd, e2, show 2 * (2 * 2 ^ l) = 2 ^ l * 4 by omega, Nat.mul_assoc]
  omega
 have hn4 : n = 4 * (n / 4) := by unfold IsLen at hn; omega
 unfold spG
 rw [e2, fsum_split, fsum_split n xs iv (s + d), show 2 ^ (l + 1) = 2 * 2 ^ l by rw [Nat.pow_succ, Nat.mul_comm]]
 have hg : d * (2 ^ l * c + r) = d * r + c * (n / 4) := by rw [Nat.mul_add, ← Nat.mul_assoc, hD, Nat.mul_comm (n / 4) c, Nat.add_comm]
 have hcn : c * n = 4 * (c * (n / 4)) := by rw [Nat.mul_left_comm, ← hn4]
 have f4 : ∀ s e, fsum n xs iv s (2 * (2 * d)) e (2 * (2 * (d * r + c * (n / 4)))) (2 ^ l) = fsum n xs iv s (4 * d) e (4 * d * r) (2 ^ l) := fun s e => by
  rw [show 2 * (2 * d) = 4 * d by omega]
  exact fsum_turns n hn xs iv _ _ e e (4 * d * r) _ _ ⟨0, by simp⟩ ⟨c, by rw [Nat.mul_assoc 4 d r, Nat.mul_comm n c, hcn]; omega⟩
 have h1 : 2 * (d * (2 ^ l * c + r)) = 2 * d * (2 ^ l * c + r) := (Nat.mul_assoc 2 d _).symm
 rw [h1]
 rw [show 2 * (2 * d * (2 ^ l * c + r)) = 2 * (2 * (d * r + c * (n / 4))) by rw [← hg, Nat.mul_assoc 2 d], f4, f4]
 rw [show 0 + d * (2 ^ l * c + r) = d * r + c * (n / 4) by rw [hg]; omega, show d * r + c * (n / 4) + 2 * d * (2 ^ l * c + r) = 3 * d * r + (3 * c) * (n / 4) by rw [Nat.mul_assoc 2 d, hg, Nat.mul_assoc 3 d r, Nat.mul_assoc 3 c]; omega, show s + d + 2 * d = s + 3 * d by omega]
 rw [fsum_quarters n hn, fsum_quarters n hn]
 have t3 : ∀ a : Gi, a.turn (turns1 iv ((3 * c : Nat) : Int)) = a.turn (-(turns1 iv c)) := fun a => turn_same _ _ (by unfold turns1; split <;> omega) a
 rw [t3]
theorem join_grnd (bits : Nat) (mo : Int) (inv : Bool) (q : Nat) (hq : q < 4) (u v y z w w3 : Gi) :
 joinG bits mo inv q u v y z w w3 = grnd (bits + 2) mo (gadd (gscale (bits + 1) (if q % 2 = 1 then v else u)) (gadd ((gmul y w).turn (turns1 inv q)) ((gmul z w3).turn (-(turns1 inv q))))) := by
 have hc : q = 0 ∨ q = 1 ∨ q = 2 ∨ q = 3 := by omega
 unfold joinG
 congr 1
 rcases hc with rfl | rfl | rfl | rfl <;> cases inv <;> apply gi_eq <;> simp [turns1, Gi.turn, gadd, gsub] <;> omega
theorem half_near {e : Int} {pow : Nat} {c V : Gi} {B : Nat} {mo : Int} {e' K : Int} {T U : Gi} (hm : mo = 0 ∨ mo = 1 ∨ mo = 2) (he : 0 ≤ e) (hK0 : 0 ≤ K) (hB : B ≤ 40) (hc : Near e (pow + 1) c V) (hT : Terms K pow B T U)
 (hK : 91 * 2 ^ (pow + 2 + 40) * 1099511627776 + e * 2 ^ (pow + 1 + 40) * 1099511627776 + K ≤ e' * 2 ^ (pow + 2 + 40) * 1099511627776) : Near e' (pow + 2) (grnd (B + 2) mo (gadd (gscale (B + 1) c) T)) (gadd V U) := by
 have ep : (2 : Int) ^ (pow + 1 + 40) = 2 * 2 ^ (pow + 40) := by rw [show pow + 1 + 40 = (pow + 40) + 1 by omega, Int.pow_succ, Int.mul_comm]
 have h1 : Near (2 * e) pow (gup 2 c) V := by
  unfold Near at hc ⊢
  rw [ep] at hc
  rw [show 2 * e * 2 ^ (pow + 40) = e * (2 * 2 ^ (pow + 40)) by grind]
  refine Eq.mp (congrArg _ ?_) hc
  apply gi_eq <;> simp only [gup, gsubS] <;> grind
 have e2 : gscale (B + 1) c = gscale B (gup 2 c) := by
  apply gi_eq <;> simp only [gscale, gup] <;> rw [Int.pow_succ] <;> grind
 rw [e2]
 exact sum_near hm (by omega) hK0 hB h1 hT (by rw [ep] at hK; rw [show 2 * e * 2 ^ (pow + 40) = e * (2 * 2 ^ (pow + 40)) by grind]; exact hK)
def spE (l : Nat) : Int := 91 + 224 * l
theorem split_near (n : Nat) (hn : IsLen n) (xs : List Gi) (iv : Bool) (mo : Int) (hm : mo = 0 ∨ mo = 1 ∨ mo = 2) (B pow : Nat) (hB : B ≤ 39) (W : Nat → Gi) (R0 R δ X : Int) (hR0 : 0 ≤ R0) (hRR0 : R0 + 35 ≤ R) (hR3 : R0 + 35 ≤ 3 * 2 ^ B) (hWl : ∀ k, Len (2 ^ B + 2) (W k)) (hδ : 0 ≤ δ) (hX : 0 ≤ X) (hx : ∀ j, Len X (xs.getD j ⟨0, 0⟩))
 (hW : ∀ k, k < n → Len δ (gsubS (gup (2 ^ (40 - B)) (W k)) (wv n iv k)))
 (hK1 : ∀ l, l ≤ 5 → 91 * 2 ^ (pow + l + 2 + 40) * 1099511627776 + spE (l + 1) * 2 ^ (pow + l + 1 + 40) * 1099511627776 + 2 * termK (spE l) (pow + l) R δ (2 ^ l) X ≤ spE (l + 2) * 2 ^ (pow + l + 2 + 40) * 1099511627776) :
 ∀ (l s d : Nat) (f : Nat → Gi), l ≤ 7 → d * 2 ^ l = n → (∀ i, i < 2 ^ l → Near 91 pow (f i) (gup 1099511627776 (xs.getD (s + d * i) ⟨0, 0⟩))) → (∀ i, i < 2 ^ l → Len R0 (f i)) →
  ∀ i, i < 2 ^ l → Near (spE l) (pow + l) (spl B mo iv W n l f i) (spG n xs iv s d l i)
 | 0, s, d, f, _, hd, hf, _, i, hi => by
   have h0 : i = 0 := by simpa using hi
   subst h0
   have h := hf 0 (by decide)
   have e : spG n xs iv s d 0 0 = gup 1099511627776 (xs.getD (s + d * 0) ⟨0, 0⟩) := by
    unfold spG fsum
    apply gi_eq <;> simp [csum, isum, wv_zero n hn, gmul, gup]
   rw [e]
   exact h
 | 1, s, d, f, _, hd, hf, hRR, i, hi => by
   have n0 := hf 0 (by decide)
   have n1 := hf 1 (by decide)
   have hp : (0 : Int) < 2 ^ (pow + 40) := Int.pow_pos (by decide)
   have ep : (2 : Int) ^ (pow + 1 + 40) = 2 * 2 ^ (pow + 40) := by rw [show pow + 1 + 40 = (pow + 40) + 1 by omega, Int.pow_succ, Int.mul_comm]
   have hT : Terms (91 * 2 ^ (pow + 40) * 1099511627776) pow 0 (f 1) (gup 1099511627776 (xs.getD (s + d * 1) ⟨0, 0⟩)) := Len.up (by decide) n1
   have hd2 : d = n / 2 := by omega
   have key : ∀ (T U : Gi), Terms (91 * 2 ^ (pow + 40) * 1099511627776) pow 0 T U → Near (spE 1) (pow + 1) (grnd 1 mo (gadd (f 0) T)) (gadd (gup 1099511627776 (xs.getD (s + d * 0) ⟨0, 0⟩)) U) := fun T U h => by
    have := sum_near (e' := spE 1) (s := 1) hm (by decide) (by omega) (by decide) n0 h (by rw [ep]; simp only [spE]; omega)
    have e : gscale 0 (f 0) = f 0 := by apply gi_eq <;> simp [gscale]
    rw [e] at this
    exact this
   have hc : i = 0 ∨ i = 1 := by
    have : i < 2 := hi
    omega
   rcases hc with rfl | rfl
   ·have e : spG n xs iv s d 1 0 = gadd (gup 1099511627776 (xs.getD (s + d * 0) ⟨0, 0⟩)) (gup 1099511627776 (xs.getD (s + d * 1) ⟨0, 0⟩)) := by
     unfold spG fsum
     apply gi_eq <;> simp [csum, isum, wv_zero n hn, gmul, gup, gadd]
    rw [e]
    exact key _ _ hT
   ·have w0 : wv n iv d = gneg ⟨1099511627776, 0⟩ := by
     have := wv_half n hn iv 0
     rw [wv_zero n hn, Nat.zero_add, ← hd2] at this
     exact this
    have e : spG n xs iv s d 1 1 = gadd (gup 1099511627776 (xs.getD (s + d * 0) ⟨0, 0⟩)) (gneg (gup 1099511627776 (xs.getD (s + d * 1) ⟨0, 0⟩))) := by
     unfold spG fsum
     apply gi_eq <;> simp [csum, isum, wv_zero n hn, w0, gmul, gup, gadd, gneg] <;> omega
    have e1 : spl B mo iv W n 1 f 1 = grnd 1 mo (gadd (f 0) (gneg (f 1))) := by
     show grnd 1 mo (gsub (f 0) (f 1)) = _
     congr 1
    rw [e, e1]
    exact key _ _ hT.neg
 | l + 2, s, d, f, hl, hd, hf, hRR, i, hi => by
   have e2 : 2 ^ (l + 2) = 4 * 2 ^ l := by rw [Nat.pow_add]; omega
   have e1 : 2 ^ (l + 1) = 2 * 2 ^ l := by rw [Nat.pow_succ, Nat.mul_comm]
   have hp : 0 < 2 ^ l := Nat.two_pow_pos l
   have hd0 : 0 < d := by
    apply Nat.pos_of_ne_zero
    rintro rfl
    rw [Nat.zero_mul] at hd
    unfold IsLen at hn
    omega
   have hr := Nat.mod_lt i hp
   have hdm := Nat.div_add_mod i (2 ^ l)
   have hq : i / 2 ^ l < 4 := Nat.div_lt_of_lt_mul (by rw [Nat.mul_comm, ← e2]; exact hi)
   have hdiv : n / 2 ^ (l + 2) = d := by rw [← hd, Nat.mul_div_cancel _ (by omega)]
   rw [spl_two, hdiv]
   generalize i / 2 ^ l = q at *
   generalize i % 2 ^ l = r at *
   have hd4 : 4 * (d * 2 ^ l) = n := by rw [← hd, e2, Nat.mul_left_comm]
   have hd2 : 2 * d * 2 ^ (l + 1) = n := by
    rw [e1, show 2 * d * (2 * 2 ^ l) = 4 * (d * 2 ^ l) by rw [Nat.mul_assoc, Nat.mul_left_comm d 2]; omega]
    exact hd4
   have hk : 4 * (d * r) < n := by
    have : d * r < d * 2 ^ l := Nat.mul_lt_mul_of_pos_left hr hd0
    omega
   have hU := split_near n hn xs iv mo hm B pow hB W R0 R δ X hR0 hRR0 hR3 hWl hδ hX hx hW hK1 (l + 1) s (2 * d) (fun j => f (2 * j)) (by omega) hd2 (fun i hi => by
    have := hf (2 * i) (by omega)
    rw [show d * (2 * i) = 2 * d * i by rw [Nat.mul_left_comm, Nat.mul_assoc]] at this
    exact this) (fun i hi => hRR (2 * i) (by omega))
   have hY := split_near n hn xs iv mo hm B pow hB W R0 R δ X hR0 hRR0 hR3 hWl hδ hX hx hW hK1 l (s + d) (4 * d) (fun j => f (4 * j + 1)) (by omega) (by rw [← hd, e2, Nat.mul_assoc, Nat.mul_left_comm]) (fun i hi => by
    have := hf (4 * i + 1) (by omega)
    rw [show s + d * (4 * i + 1) = s + d + 4 * d * i by rw [Nat.mul_add, Nat.mul_left_comm, Nat.mul_assoc]; omega] at this
    exact this) (fun i hi => hRR (4 * i + 1) (by omega)) r hr
   have hZ := split_near n hn xs iv mo hm B pow hB W R0 R δ X hR0 hRR0 hR3 hWl hδ hX hx hW hK1 l (s + 3 * d) (4 * d) (fun j => f (4 * j + 3)) (by omega) (by rw [← hd, e2, Nat.mul_assoc, Nat.mul_left_comm]) (fun i hi => by
    have := hf (4 * i + 3) (by omega)
    rw [show s + d * (4 * i + 3) = s + 3 * d + 4 * d * i by rw [Nat.mul_add, Nat.mul_left_comm, Nat.mul_assoc, Nat.mul_comm d 3]; omega] at this
    exact this) (fun i hi => hRR (4 * i + 3) (by omega)) r hr
   have hH : (0 : Int) ≤ (2 ^ l : Nat) * (X * 1649267441664) := Int.mul_nonneg (by omega) (Int.mul_nonneg hX (by decide))
   have hE : (0 : Int) ≤ spE l := by unfold spE; omega
   have hE1 : (0 : Int) ≤ spE (l + 1) := by unfold spE; omega
   have mY := fsum_moved n hn xs iv (s + d) (4 * d) (d * r) (4 * d * r) (2 ^ l) X hX hx
   have mZ := fsum_moved n hn xs iv (s + 3 * d) (4 * d) (3 * d * r) (4 * d * r) (2 ^ l) X hX hx
   have tY : Terms (termK (spE l) (pow + l) R δ (2 ^ l) X) (pow + l) B _ _ := term_near hE (by omega) hδ hH (by omega) hY (Len.mono (by omega) (spl_len B mo iv W n hm hWl l R0 _ hR0 (by omega) (fun i hi => hRR (4 * i + 1) (by omega)) r hr) (by omega)) (hW (d * r) (by omega)) (wv_len n hn iv _) mY
   have tZ : Terms (termK (spE l) (pow + l) R δ (2 ^ l) X) (pow + l) B _ _ := term_near hE (by omega) hδ hH (by omega) hZ (Len.mono (by omega) (spl_len B mo iv W n hm hWl l R0 _ hR0 (by omega) (fun i hi => hRR (4 * i + 3) (by omega)) r hr) (by omega)) (hW (3 * d * r) (by rw [Nat.mul_assoc]; omega)) (wv_len n hn iv _) mZ
   have hK0 := termK_nonneg (pow := pow + l) (m := 2 ^ l) (R := R) hE (by omega) hδ hX
   have ht := Terms.add hK0 hK0 (tY.turn (turns1 iv q)) (tZ.turn (-(turns1 iv q)))
   rw [join_grnd B mo iv q hq, show r * d = d * r from Nat.mul_comm _ _, show 3 * r * d = 3 * d * r by rw [Nat.mul_assoc, Nat.mul_comm r d, Nat.mul_assoc]]
   have hsp := spG_four n hn xs iv s d l q r hd
   rw [hdm] at hsp
   rw [hsp, ← hdm]
   have hUq : Near (spE (l + 1)) (pow + (l + 1)) (if q % 2 = 1 then spl B mo iv W n (l + 1) (fun j => f (2 * j)) (2 ^ l + r) else spl B mo iv W n (l + 1) (fun j => f (2 * j)) r) (spG n xs iv s (2 * d) (l + 1) (2 ^ l * q + r)) := by
    have hdd := hd2
    have ha := spG_again n hn xs iv s (2 * d) (l + 1) (2 ^ l * (q % 2) + r) (q / 2) hdd
    have hqq := Nat.div_add_mod q 2
    rw [show 2 ^ l * (q % 2) + r + 2 ^ (l + 1) * (q / 2) = 2 ^ l * q + r by
     rw [e1, show 2 * 2 ^ l * (q / 2) = 2 ^ l * (2 * (q / 2)) by rw [Nat.mul_comm 2, Nat.mul_assoc]]
     have : 2 ^ l * (2 * (q / 2) + q % 2) = 2 ^ l * q := by rw [hqq]
     rw [Nat.mul_add] at this
     omega] at ha
    rw [ha]
    by_cases h : q % 2 = 1
    ·rw [if_pos h, h, Nat.mul_one]
     exact hU (2 ^ l + r) (by omega)
    ·rw [if_neg h, show q % 2 = 0 by omega, Nat.mul_zero, Nat.zero_add]
     exact hU r (by omega)
   exact half_near (pow := pow + l) hm hE1 (by omega) (by omega) hUq ht (by
    refine Int.le_trans (Int.le_of_eq ?_) (hK1 l (by omega))
    rw [Int.two_mul])
theorem room_all (k c0 : Int) (P C S e e' Q Y T : Int) (hP : 0 ≤ P) (hC : 0 ≤ C) (hk : 0 ≤ k) (hT : T ≤ 96 * Y * P) (h : k * (64 * Q + e + 96 * Y) ≤ (c0 - 91) * S * C) (hu : (k + 1) * e + c0 * S ≤ e' * S) :
 91 * (S * P) * C + e * P * C + k * (64 * P * Q + e * P * (C + 1) + T) ≤ e' * (S * P) * C := by
 have a := Int.mul_le_mul_of_nonneg_left h hP
 have b := Int.mul_le_mul_of_nonneg_left hu (Int.mul_nonneg hP hC)
 have t := Int.mul_le_mul_of_nonneg_left hT hk
 have e1 : 91 * (S * P) * C + e * P * C + k * (64 * P * Q + e * P * (C + 1) + T) = P * (k * (64 * Q + e + 96 * Y)) + P * C * ((k + 1) * e) + P * C * (91 * S) + (k * T - k * (96 * Y * P)) := by grind
 have e2 : e' * (S * P) * C = P * C * (e' * S) := by grind
 have e3 : P * ((c0 - 91) * S * C) + P * C * (91 * S) = P * C * (c0 * S) := by grind
 have e4 : P * C * ((k + 1) * e + c0 * S) = P * C * ((k + 1) * e) + P * C * (c0 * S) := by grind
 rw [e1, e2]
 rw [e4] at b
 omega
theorem term_room (m pow : Nat) (X Y : Int) (h : (m : Int) * X ≤ Y * 2 ^ pow) : 64 * ((m : Int) * (X * 1649267441664)) ≤ 96 * Y * 2 ^ (pow + 40) := by
 rw [Int.pow_add, show (2 : Int) ^ 40 = 1099511627776 from rfl]
 generalize (2 : Int) ^ pow = P at *
 have e1 : 64 * ((m : Int) * (X * 1649267441664)) = 105553116266496 * (m * X) := by grind
 have e2 : 96 * Y * (P * 1099511627776) = 105553116266496 * (Y * P) := by grind
 rw [e1, e2]
 omega
theorem up_room (a : Int) (s : Nat) : a ≤ upB a s * 2 ^ s := by
 unfold upB
 have hp : (0 : Int) < 2 ^ s := Int.pow_pos (by decide)
 have := Int.ediv_mul_le (-a) (Int.ne_of_gt hp)
 rw [Int.neg_mul]
 omega
theorem step_room (k c0 e e' R δ X Y : Int) (pow s m : Nat) (hk : 0 ≤ k) (hY : (m : Int) * X ≤ Y * 2 ^ pow) (h : k * (64 * (R * δ) + e + 96 * Y) ≤ (c0 - 91) * 2 ^ s * 1099511627776) (hu : (k + 1) * e + c0 * 2 ^ s ≤ e' * 2 ^ s) :
 91 * 2 ^ (pow + s + 40) * 1099511627776 + e * 2 ^ (pow + 40) * 1099511627776 + k * termK e pow R δ m X ≤ e' * 2 ^ (pow + s + 40) * 1099511627776 := by
 have hp : (0 : Int) ≤ 2 ^ (pow + 40) := Int.le_of_lt (Int.pow_pos (by decide))
 have ep : (2 : Int) ^ (pow + s + 40) = 2 ^ s * 2 ^ (pow + 40) := by rw [← Int.pow_add]; congr 1; omega
 have := room_all k c0 (2 ^ (pow + 40)) 1099511627776 (2 ^ s) e e' (R * δ) Y _ hp (by decide) hk (term_room m pow X Y hY) h hu
 rw [ep]
 unfold termK
 exact this
theorem stepB_room (e k sc s : Int) (hk : k = 2 ∨ k = 4) (hs : 0 ≤ s) (h2 : sc = 2 → s = 0) :
 (k - 1 + 1) * e + (if sc = 2 then (if k = 2 then 608 else 1632) else (if k = 2 then 224 else 288)) * 2 ^ s.toNat ≤ stepB e k sc s * 2 ^ s.toNat := by
 have a := up_room (2 * e) s.toNat
 have b := up_room (4 * e) s.toNat
 unfold stepB
 by_cases hc : sc = 2
 ·rw [if_pos hc, if_pos hc, h2 hc]
  rcases hk with rfl | rfl
  ·rw [if_pos rfl, if_pos rfl]
   simp
  ·rw [if_neg (by decide), if_neg (by decide)]
   simp
 ·rw [if_neg hc, if_neg hc]
  generalize (2 : Int) ^ s.toNat = P at *
  rcases hk with rfl | rfl
  ·rw [if_pos rfl, if_pos rfl]
   rw [Int.add_mul (upB (2 * e) s.toNat)]
   omega
  ·rw [if_neg (by decide), if_neg (by decide)]
   rw [Int.add_mul (upB (4 * e) s.toNat)]
   omega
end
section
open Go.ChangeShapes Go.WideShapes Go.ChangeAt Go.RowKit
set_option linter.unusedVariables false
set_option linter.unusedSimpArgs false
set_option maxRecDepth 100000
def z0 : Gi := ⟨0, 0⟩
def chainB (n : Nat) : List Gi → Nat → Bool
 | [], h => h == n
 | q :: l, h => (q.im == (h : Int)) && ((q.re == 2 && n % (2 * h) == 0 && chainB n l (2 * h)) || (q.re == 4 && n % (4 * h) == 0 && chainB n l (4 * h)))
theorem passL_chain (ke lo : Int) (hk : ke = 0 ∨ ke = 1) (h0 : 2 ≤ lo) (h1 : lo < 7) : chainB (2 ^ lo.toNat) (passL ke lo) 1 = true := by
 have hl : lo = 2 ∨ lo = 3 ∨ lo = 4 ∨ lo = 5 ∨ lo = 6 := by omega
 rcases hk with rfl | rfl <;> rcases hl with rfl | rfl | rfl | rfl | rfl <;> decide +kernel
section
variable {p mo : Int} {iv : Bool} {B : Nat} {ws : List Gi}
end
end
section
set_option linter.unusedVariables false
set_option linter.unusedSimpArgs false
set_option maxRecDepth 100000
def addB (k sc : Int) : Int := if sc = 2 then (if k = 2 then 608 else 1632) else (if k = 2 then 224 else 288)
def Room (sc p δ X Y : Int) (b : BV) (q : Gi) (pow : Nat) : Prop :=
 ∃ R : Int, 0 ≤ R ∧ (∀ i, Len R (b.X.getD i ⟨0, 0⟩)) ∧ q.im * X ≤ Y * 2 ^ pow ∧ (q.re - 1) * (64 * (R * δ) + 1000000000 + 96 * Y) ≤ (addB q.re sc - 91) * 2 ^ (shOf sc q.re p b.X).toNat * 1099511627776
theorem map_clamp {p : Int} {ys : List Gi} (h : ys.any (offG p) = false) : ys.map (clampG p) = ys := any_off.1 h
theorem next_X {sc mo p : Int} {iv : Bool} {B : Nat} {ws : List Gi} {b : BV} {q : Gi} (h : (nextB sc mo p iv B ws b q).sat = false) : (nextB sc mo p iv B ws b q).X = passV B mo iv ws b.X (shOf sc q.re p b.X) q ∧ b.sat = false := by
 unfold nextB at h ⊢
 simp only at h ⊢
 by_cases hc : sc = 2
 ·rw [if_pos hc] at h ⊢
  rw [Bool.or_eq_false_iff] at h
  exact ⟨map_clamp h.2, h.1⟩
 ·rw [if_neg hc] at h ⊢
  exact ⟨rfl, h⟩
theorem fold_sat {sc mo p : Int} {iv : Bool} {B : Nat} {ws : List Gi} : ∀ (l : List Gi) (b : BV), (l.foldl (nextB sc mo p iv B ws) b).sat = false → b.sat = false
 | [], b, h => h
 | q :: l, b, h => (next_X (fold_sat l _ h)).2
theorem pass_near {n L B : Nat} {sc mo δ X Y : Int} {iv : Bool} {ws xs : List Gi} (hn : IsLen n) (hnL : n = 2 ^ L) (hm : mo = 0 ∨ mo = 1 ∨ mo = 2) (hδ : 0 ≤ δ) (hX : 0 ≤ X) (hB : B ≤ 40)
 (hx : ∀ j, Len X (xs.getD j ⟨0, 0⟩)) (hw : ∀ k, k < n → Len δ (gsubS (gup (2 ^ (40 - B)) (rootOf ws iv k)) (wv n iv k)))
 (q : Gi) (l : List Gi) (j : Nat) (ys : List Gi) (e R : Int) (pow s : Nat) (hc : chainB n (q :: l) (2 ^ j) = true) (hj : j ≤ L) (he : 0 ≤ e) (he9 : e ≤ 1000000000) (hl : ys.length = n) (hN : NearL e pow n L xs iv j ys)
 (h2s : sc = 2 → (s : Int) = 0) (hR0 : 0 ≤ R) (hRy : ∀ i, Len R (ys.getD i ⟨0, 0⟩)) (hYm : q.im * X ≤ Y * 2 ^ pow) (hroom : (q.re - 1) * (64 * (R * δ) + 1000000000 + 96 * Y) ≤ (addB q.re sc - 91) * 2 ^ s * 1099511627776) :
 ∃ j', j' ≤ L ∧ chainB n l (2 ^ j') = true ∧ NearL (stepB e q.re sc s) (pow + s) n L xs iv j' (passV B mo iv ws ys s q) := by
 obtain ⟨re, im⟩ := q
 have h4n : 0 < n := by unfold IsLen at hn; omega
 have hp := Nat.two_pow_pos j
 simp only [chainB, Bool.and_eq_true, Bool.or_eq_true, beq_iff_eq] at hc
 obtain ⟨him, hcase⟩ := hc
 subst him
 simp only at hYm hroom
 rcases hcase with ⟨⟨hre, hdiv⟩, hch⟩ | ⟨⟨hre, hdiv⟩, hch⟩
 ·subst hre
  have hu := stepB_room e 2 sc s (.inl rfl) (by omega) h2s
  rw [Int.toNat_natCast] at hu
  have hjl : j < L := by
   apply Classical.byContradiction
   intro h
   have : j = L := by omega
   subst this
   rw [← hnL] at hdiv
   rw [Nat.mod_eq_of_lt (by omega)] at hdiv
   omega
  refine ⟨j + 1, by omega, by rw [Nat.pow_succ, Nat.mul_comm]; exact hch, ?_⟩
  simp only [passV]
  rw [if_neg (by decide), Int.toNat_natCast, Int.toNat_natCast]
  have hK := step_room 1 (addB 2 sc) e (stepB e 2 sc s) R δ X Y pow s (2 ^ j) (by decide) hYm (Int.le_trans (Int.mul_le_mul_of_nonneg_left (show 64 * (R * δ) + e + 96 * Y ≤ 64 * (R * δ) + 1000000000 + 96 * Y by omega) (by decide)) hroom) hu
  rw [Int.one_mul] at hK
  exact two_nearL hn hnL hjl hm he hR0 hδ hX hB hx hl hRy hw hN hK
 ·subst hre
  have hu := stepB_room e 4 sc s (.inr rfl) (by omega) h2s
  rw [Int.toNat_natCast] at hu
  have hjl : j + 1 < L := by
   apply Classical.byContradiction
   intro h
   have hc : j = L ∨ j + 1 = L := by omega
   have hlt : n < 4 * 2 ^ j := by
    rcases hc with rfl | rfl
    ·omega
    ·rw [hnL, Nat.pow_succ]
     omega
   rw [Nat.mod_eq_of_lt hlt] at hdiv
   omega
  refine ⟨j + 2, by omega, by rw [show 2 ^ (j + 2) = 4 * 2 ^ j by rw [Nat.pow_add]; omega]; exact hch, ?_⟩
  simp only [passV, if_true]
  rw [Int.toNat_natCast, Int.toNat_natCast]
  have hK := step_room 3 (addB 4 sc) e (stepB e 4 sc s) R δ X Y pow s (2 ^ j) (by decide) hYm (Int.le_trans (Int.mul_le_mul_of_nonneg_left (show 64 * (R * δ) + e + 96 * Y ≤ 64 * (R * δ) + 1000000000 + 96 * Y by omega) (by decide)) hroom) hu
  exact four_nearL hn hnL hjl hm he hR0 hδ hX hB hx hl hRy hw hN hK
structure Fold (n L : Nat) (sc : Int) (xs : List Gi) (iv : Bool) (l : List Gi) (b c : BV) (e : Int) (pow : Nat) : Prop where
 out : ∃ ss, c.sh = b.sh ++ ss ∧ b.ex ≤ c.ex ∧ NearL (runB sc e l ss) (pow + (c.ex - b.ex).toNat) n L xs iv L c.X
set_option maxHeartbeats 1000000 in
theorem fold_near {n L B : Nat} {sc mo p δ X Y : Int} {iv : Bool} {ws xs : List Gi} (hn : IsLen n) (hnL : n = 2 ^ L) (hm : mo = 0 ∨ mo = 1 ∨ mo = 2) (hδ : 0 ≤ δ) (hX : 0 ≤ X) (hB : B ≤ 40)
 (hx : ∀ j, Len X (xs.getD j ⟨0, 0⟩)) (hw : ∀ k, k < n → Len δ (gsubS (gup (2 ^ (40 - B)) (rootOf ws iv k)) (wv n iv k))) (l : List Gi) :
 ∀ (j : Nat) (b : BV) (e M : Int) (pow : Nat), chainB n l (2 ^ j) = true → j ≤ L → 0 ≤ e → e ≤ M → M * 4 ^ l.length + 1632 * (4 ^ l.length - 1) ≤ 1000000000 → b.X.length = n → NearL e pow n L xs iv j b.X → (l.foldl (nextB sc mo p iv B ws) b).sat = false →
  (∀ pre q suf, l = pre ++ q :: suf → Room sc p δ X Y (pre.foldl (nextB sc mo p iv B ws) b) q (pow + ((pre.foldl (nextB sc mo p iv B ws) b).ex - b.ex).toNat)) →
  Fold n L sc xs iv l b (l.foldl (nextB sc mo p iv B ws) b) e pow := by
 induction l with
 | nil =>
   intro j b e M pow hc hj he hM hE hl hN hs hR
   have hjn : 2 ^ j = n := eq_of_beq hc
   have hjL : j = L := by
    rw [hnL] at hjn
    exact (Nat.pow_right_inj (by decide : 1 < 2)).1 hjn
   subst hjL
   refine ⟨[], by simp, Int.le_refl _, ?_⟩
   simp only [List.foldl_nil, Int.sub_self, Int.toNat_zero, Nat.add_zero, runB]
   exact hN
 | cons q l ih =>
   intro j b e M pow hc hj he hM hE hl hN hs hR
   rw [List.foldl_cons] at hs ⊢
   obtain ⟨hX1, hb0⟩ := next_X (fold_sat l _ hs)
   obtain ⟨R, hR0, hRy, hYm, hroom⟩ := hR [] q l rfl
   simp only [List.foldl_nil, Int.sub_self, Int.toNat_zero, Nat.add_zero] at hRy hYm hroom
   have hsb := shOf_bd sc q.re p b.X
   obtain ⟨s, hsN⟩ : ∃ s : Nat, shOf sc q.re p b.X = s := ⟨(shOf sc q.re p b.X).toNat, by omega⟩
   have h2s : sc = 2 → (s : Int) = 0 := fun h => by rw [← hsN]; unfold shOf; rw [if_neg (by omega), if_neg (by omega)]
   have hex : (nextB sc mo p iv B ws b q).ex = b.ex + s := by simp only [nextB, hsN]
   have hsh : (nextB sc mo p iv B ws b q).sh = b.sh ++ [(s : Int)] := by simp only [nextB, hsN]
   have hlen1 : (nextB sc mo p iv B ws b q).X.length = n := by rw [hX1, passV_len]; exact hl
   rw [hsN] at hroom hX1
   rw [Int.toNat_natCast] at hroom
   have hq : (4 : Int) ^ (q :: l).length = 4 * 4 ^ l.length := by rw [List.length_cons, Int.pow_succ, Int.mul_comm]
   rw [hq] at hE
   have h4 : (1 : Int) ≤ 4 ^ l.length := by
    have : (0 : Int) < 4 ^ l.length := Int.pow_pos (by decide)
    omega
   generalize hF : (4 : Int) ^ l.length = F at hE h4 ih
   have hM1 : M ≤ M * (4 * F) := by
    have := Int.mul_le_mul_of_nonneg_left (show (1 : Int) ≤ 4 * F by omega) (show 0 ≤ M by omega)
    omega
   have hpos := stepB_pos e q.re sc s he (by omega)
   have hE1 : (4 * M + 1632) * F + 1632 * (F - 1) ≤ 1000000000 := by
    have e1 : (4 * M + 1632) * F + 1632 * (F - 1) = M * (4 * F) + 1632 * (4 * F - 1) - 1632 * (2 * F) := by grind
    omega
   obtain ⟨j', hj', hch, hN'⟩ := pass_near hn hnL hm hδ hX hB hx hw q l j b.X e R pow s hc hj he (by omega) hl hN h2s hR0 hRy hYm hroom
   rw [← hX1] at hN'
   have hg := ih j' (nextB sc mo p iv B ws b q) (stepB e q.re sc s) (4 * M + 1632) (pow + s) hch hj' hpos.1 (by omega) hE1 hlen1 hN' hs (fun pre r suf hl' => by
    have h := hR (q :: pre) r suf (by rw [hl']; rfl)
    rw [List.foldl_cons] at h
    have hge : (nextB sc mo p iv B ws b q).ex ≤ (pre.foldl (nextB sc mo p iv B ws) (nextB sc mo p iv B ws b q)).ex := (behind_ex iv ws pre _).1
    rw [show pow + s + ((pre.foldl (nextB sc mo p iv B ws) (nextB sc mo p iv B ws b q)).ex - (nextB sc mo p iv B ws b q).ex).toNat = pow + ((pre.foldl (nextB sc mo p iv B ws) (nextB sc mo p iv B ws b q)).ex - b.ex).toNat by omega]
    exact h)
   obtain ⟨ss, g1, g2, g3⟩ := hg.out
   refine ⟨⟨(s : Int) :: ss, ?_, by omega, ?_⟩⟩
   ·rw [g1, hsh, List.append_assoc]
    rfl
   ·rw [show pow + ((l.foldl (nextB sc mo p iv B ws) (nextB sc mo p iv B ws b q)).ex - b.ex).toNat = pow + s + ((l.foldl (nextB sc mo p iv B ws) (nextB sc mo p iv B ws b q)).ex - (nextB sc mo p iv B ws b q).ex).toNat by omega]
    exact g3
theorem idG_start (n L : Nat) (hn : IsLen n) (hnL : n = 2 ^ L) (xs : List Gi) (iv : Bool) (i : Nat) : idG n L xs iv 0 i = gup 1099511627776 (xs.getD (fl L i) ⟨0, 0⟩) := by
 unfold idG fsum
 apply gi_eq <;> simp [csum, isum, Nat.mod_one, wv_zero n hn, gmul, gup]
theorem near_same (c : Gi) : Near 0 0 c (gup 1099511627776 c) := by
 unfold Near Len gsubS gup
 simp only [Int.zero_mul, Nat.zero_add, show (2 : Int) ^ 40 = 1099511627776 by decide]
 rw [show c.re * (64 * 1099511627776) - c.re * 1099511627776 * 64 = 0 by omega, show c.im * (64 * 1099511627776) - c.im * 1099511627776 * 64 = 0 by omega]
 decide
theorem near_first (mo : Int) (hm : mo = 0 ∨ mo = 1 ∨ mo = 2) (a : Gi) : Near 91 1 (shG 1 mo a) (gup 1099511627776 a) := by
 have h := Len.up (s := 1099511627776) (by decide) (gnear_rnd 1 mo hm a)
 have e : shG 1 mo a = grnd 1 mo a := by unfold shG grnd; rw [if_pos (by decide)]; rfl
 rw [e]
 unfold Near
 rw [show (91 : Int) * 2 ^ 1 * 1099511627776 = 91 * 2 ^ (1 + 40) by decide] at h
 refine Eq.mp (congrArg _ ?_) h
 apply gi_eq <;> simp only [gup, gsubS, show (2 : Int) ^ (1 + 40) = 2199023255552 by decide, show (2 : Int) ^ 1 = 2 by decide] <;> omega
def dlB (B : Nat) : Int := if B = 13 then 72400000 else 1440
def lnP (p : Int) : Int := if p = 32768 then 46341 else 3037000500
theorem dlB_nonneg (B : Nat) : 0 ≤ dlB B := by unfold dlB; split <;> decide
theorem lnP_nonneg (p : Int) : 0 ≤ lnP p := by unfold lnP; split <;> decide
theorem len_conj_wv (n : Nat) (iv : Bool) (k : Nat) (s δ : Int) (w : Gi) (h : nq (gsubS (gup s w) (rootG n k 16)) ≤ δ * δ) : Len δ (gsubS (gup s (if iv then w.conj else w)) (wv n iv k)) := by
 unfold wv Len
 unfold nq at h
 cases iv
 ·exact h
 ·simp only [if_true, Gi.conj, gsubS, gup] at h ⊢
  refine Int.le_trans (Int.le_of_eq ?_) h
  grind
theorem tw_near {fo b p lo ke sc mo : Int} {L n B : Nat} (H : PlF fo b p lo ke sc mo L n B) (iv : Bool) (k : Nat) (hk : k < n) : Len (dlB B) (gsubS (gup (2 ^ (40 - B)) (rootOf (tw n B) iv k)) (wv n iv k)) := by
 obtain ⟨_, h4, hlen⟩ := H.lens
 have h := List.all_eq_true.1 tw_nears n (by unfold IsLen at hlen; simp; omega)
 have h := List.all_eq_true.1 h k (List.mem_range.2 hk)
 rw [Bool.and_eq_true, decide_eq_true_eq, decide_eq_true_eq] at h
 have e : (tw n B).getD k ⟨0, 0⟩ = rootG n k (56 - B) := by rw [tw_eq, getD_map_range hk]
 unfold rootOf
 rw [e]
 rcases H.sizes with ⟨_, _, _, rfl⟩ | ⟨_, _, _, rfl⟩
 ·exact len_conj_wv n iv k _ _ _ h.1
 ·exact len_conj_wv n iv k _ _ _ h.2
theorem len_of_bd {m R : Int} {ys : List Gi} (h0 : 0 ≤ m) (hR : 2 * (m * m) ≤ R * R) (h : ∀ a ∈ ys, (-m ≤ a.re ∧ a.re ≤ m) ∧ (-m ≤ a.im ∧ a.im ≤ m)) (i : Nat) : Len R (ys.getD i ⟨0, 0⟩) := by
 have hz : 0 ≤ m * m := Int.mul_nonneg h0 h0
 by_cases hi : i < ys.length
 ·have hb := h _ (getD_mem ys i hi)
  have e1 := sqR_le _ _ hb.1.1 hb.1.2
  have e2 := sqR_le _ _ hb.2.1 hb.2.2
  unfold Len
  omega
 ·rw [List.getD_eq_getElem?_getD, List.getElem?_eq_none (by omega)]
  exact Len.zero R
theorem man_len {fo b p lo ke sc mo : Int} {L n B : Nat} (H : PlF fo b p lo ke sc mo L n B) {ys : List Gi} (h : ManB p ys) (i : Nat) : Len (lnP p) (ys.getD i ⟨0, 0⟩) := by
 have hb : ∀ a ∈ ys, (-p ≤ a.re ∧ a.re ≤ p) ∧ (-p ≤ a.im ∧ a.im ≤ p) := fun a ha => by have := h a ha; omega
 rcases H.sizes with ⟨_, _, rfl, _⟩ | ⟨_, _, rfl, _⟩
 ·exact len_of_bd (by decide) (by decide) hb i
 ·exact len_of_bd (by decide) (by decide) hb i
theorem upX_man {fo b p lo ke sc mo : Int} {L n B : Nat} (H : PlF fo b p lo ke sc mo L n B) {xs : List Gi} (hm : ManB p xs) : ManB p (upX sc p mo xs) := by
 unfold upX
 split
 ·intro y hy
  obtain ⟨a, ha, rfl⟩ := List.mem_map.1 hy
  exact (ready_part H hm a ha).1
 ·exact hm
theorem room_of {sc p δ X R : Int} {b : BV} {q : Gi} {pow : Nat} (hR : 0 ≤ R) (hl : ∀ i, Len R (b.X.getD i ⟨0, 0⟩)) (hX : 0 ≤ X) (h0 : 0 ≤ q.im) (h1 : q.im ≤ 32)
 (h : (q.re - 1) * (64 * (R * δ) + 1000000000 + 3072 * X) ≤ (addB q.re sc - 91) * 2 ^ (shOf sc q.re p b.X).toNat * 1099511627776) : Room sc p δ X (32 * X) b q pow := by
 refine ⟨R, hR, hl, ?_, ?_⟩
 ·have hp : (1 : Int) ≤ 2 ^ pow := by
   have : (0 : Int) < 2 ^ pow := Int.pow_pos (by decide)
   omega
  have a := Int.mul_le_mul_of_nonneg_right h1 hX
  have c := Int.mul_le_mul_of_nonneg_left hp (show 0 ≤ 32 * X by omega)
  omega
 ·rw [show 96 * (32 * X) = 3072 * X by omega]
  exact h
section
variable {fo b p lo ke sc mo : Int} {L n B : Nat} {xs : List Gi}
def lnH (p : Int) : Int := if p = 32768 then 28378 else 1859775400
theorem half_len (H : PlF fo b p lo ke sc mo L n B) (hs : sc = 0) (iv : Bool) (hl : xs.length = n) (hm : ManB p xs) (j : Nat) (hj : j ≤ (passL ke lo).length) (i : Nat) : Len (lnH p) ((behindB ke lo sc mo p iv L B (tw n B) xs j).X.getD i ⟨0, 0⟩) := by
 obtain ⟨hmo, _, _, k0, k1⟩ := H.kinds
 obtain ⟨⟨l2, l6⟩, h4, hlen⟩ := H.lens
 have hlo := H.lo
 subst hs
 have hr := ready_half H rfl hl hm
 have e : (behindB ke lo 0 mo p iv L B (tw n B) xs j).X = ((passL ke lo).take j).foldl (stepV 0 p B mo iv (tw n B)) (readyB ke 0 mo p L xs).X := behind_X (by decide) iv (tw n B) _ _
 have hk : ∀ q ∈ (passL ke lo).take j, q.re = 2 ∨ q.re = 4 := fun q hq => (passL_fits ke lo k0 k1 (by omega) (by omega) q (List.mem_of_mem_take hq)).1
 have h6 := passL_len6 ke lo k0 k1 (by omega) (by omega)
 have hc : ((passL ke lo).take j).length ≤ 6 := by rw [List.length_take]; omega
 rw [e, tw_eq]
 unfold Len
 rcases H.sizes with ⟨_, _, rfl, rfl⟩ | ⟨_, _, rfl, rfl⟩
 ·have h := runV_half15 n hlen mo iv hmo ((passL ke lo).take j) _ _ hk hr (by decide) (by omega)
  have h := h.getD (by omega) i
  unfold nq at h
  exact Int.le_trans h (by simp only [lnH, if_true]; omega)
 ·have h := runV_half31 n hlen mo iv hmo ((passL ke lo).take j) _ _ hk hr (by decide) (by omega)
  have h := h.getD (by omega) i
  unfold nq at h
  exact Int.le_trans h (by simp only [lnH, show ¬ ((2147483648 : Int) = 32768) by decide, if_false]; omega)
end
end
end Go.Proofs.YtcgeabpibkejpaaGreat
