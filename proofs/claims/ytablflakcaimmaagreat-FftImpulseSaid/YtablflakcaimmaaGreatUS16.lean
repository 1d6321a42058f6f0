import Derived.Deep.AppendLies
import Derived.Test.YtablflakcaimmaaGreatUS12
import Derived.Test.YtablflakcaimmaaGreatUS15
namespace Go.Proofs.YtablflakcaimmaaGreat
section
set_option linter.unusedVariables false
set_option maxRecDepth 100000
def shOf (sc k p : Int) (xs : List Gi) : Int := if sc = 0 then (if k = 4 then 2 else 1) else if sc = 1 then preOf k p (maxG xs) else 0
def passV (bits : Nat) (mo : Int) (inv : Bool) (ws xs : List Gi) (s : Int) (q : Gi) : List Gi := if q.re = 4 then fourL xs ws q.im.toNat bits s.toNat mo inv else twoL xs ws q.im.toNat bits s.toNat mo inv
def stepV (sc p : Int) (bits : Nat) (mo : Int) (inv : Bool) (ws xs : List Gi) (q : Gi) : List Gi := passV bits mo inv ws xs (shOf sc q.re p xs) q
theorem passV_len (bits : Nat) (mo : Int) (inv : Bool) (ws xs : List Gi) (s : Int) (q : Gi) : (passV bits mo inv ws xs s q).length = xs.length := by
 unfold passV
 split
 ·exact fourL_len _ _ _ _ _ _ _
 ·exact twoL_len _ _ _ _ _ _ _
def Fits (n : Nat) (q : Gi) : Prop := (q.re = 2 ∨ q.re = 4) ∧ ∃ h u : Nat, q.im = h ∧ 1 ≤ h ∧ 1 ≤ u ∧ (n : Int) = q.re * h * u
theorem passL_fits (ke lo : Int) (k0 : 0 ≤ ke) (k1 : ke < 3) (h0 : 2 ≤ lo) (h1 : lo < 7) : ∀ q ∈ passL ke lo, Fits (2 ^ lo.toNat) q := by
 have hk : ke = 0 ∨ ke = 1 ∨ ke = 2 := by omega
 have hl : lo = 2 ∨ lo = 3 ∨ lo = 4 ∨ lo = 5 ∨ lo = 6 := by omega
 have key : ((passL ke lo).all fun q => (decide (q.re = 2) || decide (q.re = 4)) && decide (1 ≤ q.im) && decide (1 ≤ 2 ^ lo.toNat / (q.re * q.im)) && decide ((2 : Int) ^ lo.toNat = q.re * q.im * (2 ^ lo.toNat / (q.re * q.im)))) = true := by
  rcases hk with rfl | rfl | rfl <;> rcases hl with rfl | rfl | rfl | rfl | rfl <;> decide +kernel
 intro q hq
 have h := List.all_eq_true.1 key q hq
 simp only [Bool.and_eq_true, Bool.or_eq_true, decide_eq_true_eq] at h
 obtain ⟨⟨⟨h1, h2⟩, h3⟩, h4⟩ := h
 refine ⟨h1, q.im.toNat, (2 ^ lo.toNat / (q.re * q.im)).toNat, by omega, by omega, by omega, ?_⟩
 rw [Int.toNat_of_nonneg (by omega), Int.toNat_of_nonneg (by omega), ← h4]
 simp
theorem stepV_half15 (n : Nat) (hn : IsLen n) (mo : Int) (inv : Bool) (hmo : mo = 0 ∨ mo = 1 ∨ mo = 2) (xs : List Gi) (q : Gi) (N : Int) (hq : q.re = 2 ∨ q.re = 4) (hx : AllN N xs) (h0 : 0 ≤ N) (hN : N ≤ 805306368) : AllN (N + 16777216) (stepV 0 32768 13 mo inv ((List.range n).map fun k : Nat => rootG n k 43) xs q) := by
 have hw := (tw_all15 n hn).1
 unfold stepV passV shOf
 rcases hq with e | e
 ·rw [if_neg (by omega), if_pos rfl, if_neg (by omega)]
  exact twoL_half15 xs _ _ N mo inv hmo hx hw h0 hN
 ·rw [if_pos e, if_pos rfl, if_pos e]
  exact fourL_half15 xs _ _ N mo inv hmo hx hw h0 hN
theorem runV_half15 (n : Nat) (hn : IsLen n) (mo : Int) (inv : Bool) (hmo : mo = 0 ∨ mo = 1 ∨ mo = 2) : ∀ (L : List Gi) (xs : List Gi) (N : Int), (∀ q ∈ L, q.re = 2 ∨ q.re = 4) → AllN N xs → 0 ≤ N → N + 16777216 * L.length ≤ 805306368 → AllN (N + 16777216 * L.length) (L.foldl (stepV 0 32768 13 mo inv ((List.range n).map fun k : Nat => rootG n k 43)) xs)
 | [], xs, N, _, hx, _, _ => by simpa using hx
 | q :: L, xs, N, hq, hx, h0, hN => by
   rw [List.length_cons] at hN ⊢
   have h1 := stepV_half15 n hn mo inv hmo xs q N (hq q (by simp)) hx h0 (by omega)
   have := runV_half15 n hn mo inv hmo L _ (N + 16777216) (fun r hr => hq r (by simp [hr])) h1 (by omega) (by omega)
   rw [show N + 16777216 * ((L.length + 1 : Nat) : Int) = N + 16777216 + 16777216 * L.length by omega]
   exact this
theorem stepV_block15 (n : Nat) (hn : IsLen n) (mo : Int) (inv : Bool) (hmo : mo = 0 ∨ mo = 1 ∨ mo = 2) (xs : List Gi) (q : Gi) (V : Int) (hq : Fits n q) (hl : xs.length = n) (hb : ∀ x ∈ xs, Bd 32768 x) (hV : V ≤ 4194304) (hx : ∃ x ∈ xs, V ≤ nq x) :
 (∀ y ∈ stepV 1 32768 13 mo inv ((List.range n).map fun k : Nat => rootG n k 43) xs q, Bd 32767 y) ∧ ∃ y ∈ stepV 1 32768 13 mo inv ((List.range n).map fun k : Nat => rootG n k 43) xs q, V - 262144 ≤ nq y := by
 have hw := (tw_all15 n hn).2
 have hr := fun k hk => tw_root15 n hn inv k hk
 obtain ⟨m, hm⟩ : ∃ m, maxG xs = m := ⟨_, rfl⟩
 have hp : m ≤ 32768 := by rw [← hm]; exact maxG_le xs 32768 (by decide) hb
 obtain ⟨hk, h, u, e1, h1, hu, e2⟩ := hq
 have et : q.im.toNat = h := by omega
 unfold stepV passV shOf preOf
 rw [hm, et]
 rcases hk with e | e
 ·have en : xs.length = 2 * h * u := by rw [e] at e2; rw [hl]; exact Int.ofNat.inj (by simpa using e2)
  rw [if_neg (by omega), if_neg (by decide), if_pos rfl, if_neg (by omega)]
  by_cases c1 : m ≤ 32768 / 4
  ·rw [if_pos c1]
   exact two_block15_0 xs _ h u mo m V inv hmo en h1 hu hm hp (by omega) (fun k hk => hr k (by omega)) hw hV hx
  ·rw [if_neg c1]
   by_cases c2 : m ≤ 32768 / 2
   ·rw [if_pos c2]
    exact two_block15_1 xs _ h u mo m V inv hmo en h1 hu hm hp (by omega) (fun k hk => hr k (by omega)) hw hV hx
   ·rw [if_neg c2]
    exact two_block15_2 xs _ h u mo m V inv hmo en h1 hu hm hp (by omega) (fun k hk => hr k (by omega)) hw hV hx
 ·have en : xs.length = 4 * h * u := by rw [e] at e2; rw [hl]; exact Int.ofNat.inj (by simpa using e2)
  have hr2 := fun k (hk : k < xs.length) => (⟨(hr k (by omega)).1, (hr k (by omega)).2.1⟩ : 67059721 ≤ nq (rootOf ((List.range n).map fun k : Nat => rootG n k 43) inv k) ∧ nq (rootOf ((List.range n).map fun k : Nat => rootG n k 43) inv k) ≤ 67158025)
  rw [if_pos e, if_neg (by decide), if_pos rfl, if_pos e]
  by_cases c0 : m ≤ 32768 / 8
  ·rw [if_pos c0]
   exact four_block15_0 xs _ h u mo m V inv hmo en h1 hu hm hp (by omega) hr2 hw hV hx
  ·rw [if_neg c0]
   by_cases c1 : m ≤ 32768 / 4
   ·rw [if_pos c1]
    exact four_block15_1 xs _ h u mo m V inv hmo en h1 hu hm hp (by omega) hr2 hw hV hx
   ·rw [if_neg c1]
    by_cases c2 : m ≤ 32768 / 2
    ·rw [if_pos c2]
     exact four_block15_2 xs _ h u mo m V inv hmo en h1 hu hm hp (by omega) hr2 hw hV hx
    ·rw [if_neg c2]
     exact four_block15_3 xs _ h u mo m V inv hmo en h1 hu hm hp (by omega) hr2 hw hV hx
theorem runV_block15 (n : Nat) (hn : IsLen n) (mo : Int) (inv : Bool) (hmo : mo = 0 ∨ mo = 1 ∨ mo = 2) : ∀ (L : List Gi) (xs : List Gi) (V : Int), (∀ q ∈ L, Fits n q) → xs.length = n → (∀ x ∈ xs, Bd 32767 x) → V ≤ 4194304 → (∃ x ∈ xs, V ≤ nq x) →
 (∀ y ∈ L.foldl (stepV 1 32768 13 mo inv ((List.range n).map fun k : Nat => rootG n k 43)) xs, Bd 32767 y) ∧ ∃ y ∈ L.foldl (stepV 1 32768 13 mo inv ((List.range n).map fun k : Nat => rootG n k 43)) xs, V - 262144 * L.length ≤ nq y
 | [], xs, V, _, _, hb, _, hx => ⟨hb, by simpa using hx⟩
 | q :: L, xs, V, hq, hl, hb, hV, hx => by
   have h1 := stepV_block15 n hn mo inv hmo xs q V (hq q (by simp)) hl (fun x hx => (hb x hx).mono (by decide)) hV hx
   have := runV_block15 n hn mo inv hmo L _ (V - 262144) (fun r hr => hq r (by simp [hr])) (by unfold stepV; rw [passV_len]; exact hl) h1.1 (by omega) h1.2
   rw [List.length_cons]
   rw [show V - 262144 * ((L.length + 1 : Nat) : Int) = V - 262144 - 262144 * L.length by omega]
   exact this
theorem stepV_half31 (n : Nat) (hn : IsLen n) (mo : Int) (inv : Bool) (hmo : mo = 0 ∨ mo = 1 ∨ mo = 2) (xs : List Gi) (q : Gi) (N : Int) (hq : q.re = 2 ∨ q.re = 4) (hx : AllN N xs) (h0 : 0 ≤ N) (hN : N ≤ 3458764513820540928) : AllN (N + 72057594037927936) (stepV 0 2147483648 29 mo inv ((List.range n).map fun k : Nat => rootG n k 27) xs q) := by
 have hw := (tw_all31 n hn).1
 unfold stepV passV shOf
 rcases hq with e | e
 ·rw [if_neg (by omega), if_pos rfl, if_neg (by omega)]
  exact twoL_half31 xs _ _ N mo inv hmo hx hw h0 hN
 ·rw [if_pos e, if_pos rfl, if_pos e]
  exact fourL_half31 xs _ _ N mo inv hmo hx hw h0 hN
theorem runV_half31 (n : Nat) (hn : IsLen n) (mo : Int) (inv : Bool) (hmo : mo = 0 ∨ mo = 1 ∨ mo = 2) : ∀ (L : List Gi) (xs : List Gi) (N : Int), (∀ q ∈ L, q.re = 2 ∨ q.re = 4) → AllN N xs → 0 ≤ N → N + 72057594037927936 * L.length ≤ 3458764513820540928 → AllN (N + 72057594037927936 * L.length) (L.foldl (stepV 0 2147483648 29 mo inv ((List.range n).map fun k : Nat => rootG n k 27)) xs)
 | [], xs, N, _, hx, _, _ => by simpa using hx
 | q :: L, xs, N, hq, hx, h0, hN => by
   rw [List.length_cons] at hN ⊢
   have h1 := stepV_half31 n hn mo inv hmo xs q N (hq q (by simp)) hx h0 (by omega)
   have := runV_half31 n hn mo inv hmo L _ (N + 72057594037927936) (fun r hr => hq r (by simp [hr])) h1 (by omega) (by omega)
   rw [show N + 72057594037927936 * ((L.length + 1 : Nat) : Int) = N + 72057594037927936 + 72057594037927936 * L.length by omega]
   exact this
theorem stepV_block31 (n : Nat) (hn : IsLen n) (mo : Int) (inv : Bool) (hmo : mo = 0 ∨ mo = 1 ∨ mo = 2) (xs : List Gi) (q : Gi) (V : Int) (hq : Fits n q) (hl : xs.length = n) (hb : ∀ x ∈ xs, Bd 2147483648 x) (hV : V ≤ 18014398509481984) (hx : ∃ x ∈ xs, V ≤ nq x) :
 (∀ y ∈ stepV 1 2147483648 29 mo inv ((List.range n).map fun k : Nat => rootG n k 27) xs q, Bd 2147483647 y) ∧ ∃ y ∈ stepV 1 2147483648 29 mo inv ((List.range n).map fun k : Nat => rootG n k 27) xs q, V - 1125899906842624 ≤ nq y := by
 have hw := (tw_all31 n hn).2
 have hr := fun k hk => tw_root31 n hn inv k hk
 obtain ⟨m, hm⟩ : ∃ m, maxG xs = m := ⟨_, rfl⟩
 have hp : m ≤ 2147483648 := by rw [← hm]; exact maxG_le xs 2147483648 (by decide) hb
 obtain ⟨hk, h, u, e1, h1, hu, e2⟩ := hq
 have et : q.im.toNat = h := by omega
 unfold stepV passV shOf preOf
 rw [hm, et]
 rcases hk with e | e
 ·have en : xs.length = 2 * h * u := by rw [e] at e2; rw [hl]; exact Int.ofNat.inj (by simpa using e2)
  rw [if_neg (by omega), if_neg (by decide), if_pos rfl, if_neg (by omega)]
  by_cases c1 : m ≤ 2147483648 / 4
  ·rw [if_pos c1]
   exact two_block31_0 xs _ h u mo m V inv hmo en h1 hu hm hp (by omega) (fun k hk => hr k (by omega)) hw hV hx
  ·rw [if_neg c1]
   by_cases c2 : m ≤ 2147483648 / 2
   ·rw [if_pos c2]
    exact two_block31_1 xs _ h u mo m V inv hmo en h1 hu hm hp (by omega) (fun k hk => hr k (by omega)) hw hV hx
   ·rw [if_neg c2]
    exact two_block31_2 xs _ h u mo m V inv hmo en h1 hu hm hp (by omega) (fun k hk => hr k (by omega)) hw hV hx
 ·have en : xs.length = 4 * h * u := by rw [e] at e2; rw [hl]; exact Int.ofNat.inj (by simpa using e2)
  have hr2 := fun k (hk : k < xs.length) => (⟨(hr k (by omega)).1, (hr k (by omega)).2.1⟩ : 288230372930486281 ≤ nq (rootOf ((List.range n).map fun k : Nat => rootG n k 27) inv k) ∧ nq (rootOf ((List.range n).map fun k : Nat => rootG n k 27) inv k) ≤ 288230379372937225)
  rw [if_pos e, if_neg (by decide), if_pos rfl, if_pos e]
  by_cases c0 : m ≤ 2147483648 / 8
  ·rw [if_pos c0]
   exact four_block31_0 xs _ h u mo m V inv hmo en h1 hu hm hp (by omega) hr2 hw hV hx
  ·rw [if_neg c0]
   by_cases c1 : m ≤ 2147483648 / 4
   ·rw [if_pos c1]
    exact four_block31_1 xs _ h u mo m V inv hmo en h1 hu hm hp (by omega) hr2 hw hV hx
   ·rw [if_neg c1]
    by_cases c2 : m ≤ 2147483648 / 2
    ·rw [if_pos c2]
     exact four_block31_2 xs _ h u mo m V inv hmo en h1 hu hm hp (by omega) hr2 hw hV hx
    ·rw [if_neg c2]
     exact four_block31_3 xs _ h u mo m V inv hmo en h1 hu hm hp (by omega) hr2 hw hV hx
theorem runV_block31 (n : Nat) (hn : IsLen n) (mo : Int) (inv : Bool) (hmo : mo = 0 ∨ mo = 1 ∨ mo = 2) : ∀ (L : List Gi) (xs : List Gi) (V : Int), (∀ q ∈ L, Fits n q) → xs.length = n → (∀ x ∈ xs, Bd 2147483647 x) → V ≤ 18014398509481984 → (∃ x ∈ xs, V ≤ nq x) →
 (∀ y ∈ L.foldl (stepV 1 2147483648 29 mo inv ((List.range n).map fun k : Nat => rootG n k 27)) xs, Bd 2147483647 y) ∧ ∃ y ∈ L.foldl (stepV 1 2147483648 29 mo inv ((List.range n).map fun k : Nat => rootG n k 27)) xs, V - 1125899906842624 * L.length ≤ nq y
 | [], xs, V, _, _, hb, _, hx => ⟨hb, by simpa using hx⟩
 | q :: L, xs, V, hq, hl, hb, hV, hx => by
   have h1 := stepV_block31 n hn mo inv hmo xs q V (hq q (by simp)) hl (fun x hx => (hb x hx).mono (by decide)) hV hx
   have := runV_block31 n hn mo inv hmo L _ (V - 1125899906842624) (fun r hr => hq r (by simp [hr])) (by unfold stepV; rw [passV_len]; exact hl) h1.1 (by omega) h1.2
   rw [List.length_cons]
   rw [show V - 1125899906842624 * ((L.length + 1 : Nat) : Int) = V - 1125899906842624 - 1125899906842624 * L.length by omega]
   exact this
theorem two_fits (xs ws : List Gi) (h u bits s : Nat) (mo m T : Int) (inv : Bool) (hmo : mo = 0 ∨ mo = 1 ∨ mo = 2) (hn : xs.length = 2 * h * u) (h1 : 1 ≤ h) (hm : maxG xs = m) (hw : ∀ w ∈ ws, Bd (2 ^ bits) w) (hT : 3 * m < T * 2 ^ s) : ∀ y ∈ twoL xs ws h bits s mo inv, Bd T y := by
 have hm0 : 0 ≤ m := by rw [← hm]; exact maxG_nonneg xs
 have hb : ∀ x ∈ xs, Bd m x := fun x hx => by rw [← hm]; exact maxG_ge xs x hx
 have hp := pow_pos2 s
 have h2 := pow_pos2 bits
 have c : ∀ z : Int, (z - 1) * 2 ^ s ≤ 3 * m → z ≤ T := fun z hz => by
  have := Int.lt_of_mul_lt_mul_right (Int.lt_of_le_of_lt hz hT) (by omega)
  omega
 refine twoL_all xs ws h u bits s mo inv _ hn h1 fun a d k y ha hd hy => ?_
 have g := pair_grow bits s mo m a d (rootOf ws inv k) hmo hm0 (hb a ha) (hb d hd) (bd_root _ ws inv k (by omega) hw) y hy
 exact ⟨c _ g.1, c _ g.2⟩
theorem four_fits (xs ws : List Gi) (h bits s : Nat) (mo m T : Int) (inv : Bool) (hmo : mo = 0 ∨ mo = 1 ∨ mo = 2) (hm : maxG xs = m) (hw : ∀ w ∈ ws, Bd (2 ^ bits) w) (hT : 7 * m < T * 2 ^ s) : ∀ y ∈ fourL xs ws h bits s mo inv, Bd T y := by
 have hm0 : 0 ≤ m := by rw [← hm]; exact maxG_nonneg xs
 have hb : ∀ x ∈ xs, Bd m x := fun x hx => by rw [← hm]; exact maxG_ge xs x hx
 have hp := pow_pos2 s
 have c : ∀ z : Int, (z - 1) * 2 ^ s ≤ 7 * m → z ≤ T := fun z hz => by
  have := Int.lt_of_mul_lt_mul_right (Int.lt_of_le_of_lt hz hT) (by omega)
  omega
 intro y hy
 have g := fourL_grow xs ws h bits s mo m inv hmo hm0 hb hw y hy
 exact ⟨c _ g.1, c _ g.2⟩
theorem stepV_fits15 (n : Nat) (hn : IsLen n) (mo : Int) (inv : Bool) (hmo : mo = 0 ∨ mo = 1 ∨ mo = 2) (xs : List Gi) (q : Gi) (hq : Fits n q) (hl : xs.length = n) (hb : ∀ x ∈ xs, Bd 32768 x) :
 ∀ y ∈ stepV 1 32768 13 mo inv ((List.range n).map fun k : Nat => rootG n k 43) xs q, Bd 32767 y := by
 have hw : ∀ w ∈ ((List.range n).map fun k : Nat => rootG n k 43), Bd (2 ^ 13) w := (tw_all15 n hn).2
 obtain ⟨m, hm⟩ : ∃ m, maxG xs = m := ⟨_, rfl⟩
 have hp : m ≤ 32768 := by rw [← hm]; exact maxG_le xs 32768 (by decide) hb
 obtain ⟨hk, h, u, e1, h1, hu, e2⟩ := hq
 have et : q.im.toNat = h := by omega
 unfold stepV passV shOf preOf
 rw [hm, et]
 rcases hk with e | e
 ·have en : xs.length = 2 * h * u := by rw [e] at e2; rw [hl]; exact Int.ofNat.inj (by simpa using e2)
  rw [if_neg (by omega), if_neg (by decide), if_pos rfl, if_neg (by omega)]
  refine two_fits xs _ h u 13 _ mo m 32767 inv hmo en h1 hm hw ?_
  by_cases c1 : m ≤ 32768 / 4
  ·rw [if_pos c1]; (show _ < _ * 2 ^ 0); simp only [Int.reducePow]; omega
  ·rw [if_neg c1]
   by_cases c2 : m ≤ 32768 / 2
   ·rw [if_pos c2]; (show _ < _ * 2 ^ 1); simp only [Int.reducePow]; omega
   ·rw [if_neg c2]; (show _ < _ * 2 ^ 2); simp only [Int.reducePow]; omega
 ·rw [if_pos e, if_neg (by decide), if_pos rfl, if_pos e]
  refine four_fits xs _ h 13 _ mo m 32767 inv hmo hm hw ?_
  by_cases c0 : m ≤ 32768 / 8
  ·rw [if_pos c0]; (show _ < _ * 2 ^ 0); simp only [Int.reducePow]; omega
  ·rw [if_neg c0]
   by_cases c1 : m ≤ 32768 / 4
   ·rw [if_pos c1]; (show _ < _ * 2 ^ 1); simp only [Int.reducePow]; omega
   ·rw [if_neg c1]
    by_cases c2 : m ≤ 32768 / 2
    ·rw [if_pos c2]; (show _ < _ * 2 ^ 2); simp only [Int.reducePow]; omega
    ·rw [if_neg c2]; (show _ < _ * 2 ^ 3); simp only [Int.reducePow]; omega
theorem stepV_fits31 (n : Nat) (hn : IsLen n) (mo : Int) (inv : Bool) (hmo : mo = 0 ∨ mo = 1 ∨ mo = 2) (xs : List Gi) (q : Gi) (hq : Fits n q) (hl : xs.length = n) (hb : ∀ x ∈ xs, Bd 2147483648 x) :
 ∀ y ∈ stepV 1 2147483648 29 mo inv ((List.range n).map fun k : Nat => rootG n k 27) xs q, Bd 2147483647 y := by
 have hw : ∀ w ∈ ((List.range n).map fun k : Nat => rootG n k 27), Bd (2 ^ 29) w := (tw_all31 n hn).2
 obtain ⟨m, hm⟩ : ∃ m, maxG xs = m := ⟨_, rfl⟩
 have hp : m ≤ 2147483648 := by rw [← hm]; exact maxG_le xs 2147483648 (by decide) hb
 obtain ⟨hk, h, u, e1, h1, hu, e2⟩ := hq
 have et : q.im.toNat = h := by omega
 unfold stepV passV shOf preOf
 rw [hm, et]
 rcases hk with e | e
 ·have en : xs.length = 2 * h * u := by rw [e] at e2; rw [hl]; exact Int.ofNat.inj (by simpa using e2)
  rw [if_neg (by omega), if_neg (by decide), if_pos rfl, if_neg (by omega)]
  refine two_fits xs _ h u 29 _ mo m 2147483647 inv hmo en h1 hm hw ?_
  by_cases c1 : m ≤ 2147483648 / 4
  ·rw [if_pos c1]; (show _ < _ * 2 ^ 0); simp only [Int.reducePow]; omega
  ·rw [if_neg c1]
   by_cases c2 : m ≤ 2147483648 / 2
   ·rw [if_pos c2]; (show _ < _ * 2 ^ 1); simp only [Int.reducePow]; omega
   ·rw [if_neg c2]; (show _ < _ * 2 ^ 2); simp only [Int.reducePow]; omega
 ·rw [if_pos e, if_neg (by decide), if_pos rfl, if_pos e]
  refine four_fits xs _ h 29 _ mo m 2147483647 inv hmo hm hw ?_
  by_cases c0 : m ≤ 2147483648 / 8
  ·rw [if_pos c0]; (show _ < _ * 2 ^ 0); simp only [Int.reducePow]; omega
  ·rw [if_neg c0]
   by_cases c1 : m ≤ 2147483648 / 4
   ·rw [if_pos c1]; (show _ < _ * 2 ^ 1); simp only [Int.reducePow]; omega
   ·rw [if_neg c1]
    by_cases c2 : m ≤ 2147483648 / 2
    ·rw [if_pos c2]; (show _ < _ * 2 ^ 2); simp only [Int.reducePow]; omega
    ·rw [if_neg c2]; (show _ < _ * 2 ^ 3); simp only [Int.reducePow]; omega
end
section
open Go.ChangeShapes Go.WideShapes Go.ChangeAt Go.RowKit
set_option linter.unusedVariables false
set_option linter.unusedSimpArgs false
set_option maxRecDepth 100000
def clampG (p : Int) (a : Gi) : Gi := ⟨clampI p a.re, clampI p a.im⟩
end
end Go.Proofs.YtablflakcaimmaaGreat
