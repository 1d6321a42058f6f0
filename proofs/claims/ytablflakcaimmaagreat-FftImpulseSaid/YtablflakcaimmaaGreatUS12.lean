import Derived.Test.YtablflakcaimmaaGreatUS11
namespace Go.Proofs.YtablflakcaimmaaGreat
section
set_option linter.unusedVariables false
set_option maxRecDepth 100000
theorem mod_half (h i : Nat) (h1 : 1 ≤ h) (hr : i % (2 * h) < h) : (i + h) % (2 * h) = i % (2 * h) + h := by
 have hd := Nat.div_add_mod i (2 * h)
 generalize i % (2 * h) = r at *
 generalize i / (2 * h) = c at *
 rw [← hd, Nat.add_assoc, Nat.mul_add_mod, Nat.mod_eq_of_lt (by omega)]
theorem half_in (h u i n : Nat) (hn : n = 2 * h * u) (h1 : 1 ≤ h) (hi : i < n) (hr : i % (2 * h) < h) : i + h < n := by
 have hd := Nat.div_add_mod i (2 * h)
 have hc : i / (2 * h) < u := by
  rw [Nat.div_lt_iff_lt_mul (by omega)]
  rw [hn, Nat.mul_comm] at hi
  exact hi
 generalize i % (2 * h) = r at *
 generalize i / (2 * h) = c at *
 have h2 : 2 * h * (c + 1) ≤ 2 * h * u := Nat.mul_le_mul_left _ hc
 rw [Nat.mul_succ] at h2
 omega
theorem root_in (h u r n : Nat) (hn : n = 2 * h * u) (h1 : 1 ≤ h) (hu : 1 ≤ u) (hr : r < h) : r * u < n := by
 have h2 : (r + 1) * u ≤ h * u := Nat.mul_le_mul_right _ hr
 rw [Nat.succ_mul] at h2
 rw [hn, Nat.mul_assoc]
 omega
theorem getD_mem (xs : List Gi) (i : Nat) (h : i < xs.length) : xs.getD i ⟨0, 0⟩ ∈ xs := by
 rw [List.getD_eq_getElem?_getD, List.getElem?_eq_getElem h]
 exact List.getElem_mem h
theorem mem_twoL (xs ws : List Gi) (h bits s : Nat) (mo : Int) (inv : Bool) (i : Nat) (hi : i < xs.length) : twoAt xs ws h bits s mo inv i ∈ twoL xs ws h bits s mo inv :=
 List.mem_map.2 ⟨i, List.mem_range.2 hi, rfl⟩
theorem twoL_keeps (xs ws : List Gi) (h u bits s : Nat) (mo V : Int) (inv : Bool) (P : Gi → Prop) (hn : xs.length = 2 * h * u) (h1 : 1 ≤ h) (hu : 1 ≤ u)
 (hpair : ∀ a b k, a ∈ xs → b ∈ xs → k < xs.length → (V ≤ nq a ∨ V ≤ nq b) → P (pairUp bits s mo a b (rootOf ws inv k)) ∨ P (pairDown bits s mo a b (rootOf ws inv k)))
 (hx : ∃ x ∈ xs, V ≤ nq x) : ∃ y ∈ twoL xs ws h bits s mo inv, P y := by
 have key : ∀ i, i < xs.length → i % (2 * h) < h → (V ≤ nq (xs.getD i ⟨0, 0⟩) ∨ V ≤ nq (xs.getD (i + h) ⟨0, 0⟩)) → ∃ y ∈ twoL xs ws h bits s mo inv, P y := by
  intro i hi hr hv
  have hi2 := half_in h u i xs.length hn h1 hi hr
  have hm := mod_half h i h1 hr
  have hlu : xs.length / (2 * h) = u := by rw [hn]; exact Nat.mul_div_cancel_left _ (by omega)
  have e1 : twoAt xs ws h bits s mo inv i = pairUp bits s mo (xs.getD i ⟨0, 0⟩) (xs.getD (i + h) ⟨0, 0⟩) (rootOf ws inv (i % (2 * h) * u)) := by
   unfold twoAt
   rw [if_pos hr, hlu]
  have e2 : twoAt xs ws h bits s mo inv (i + h) = pairDown bits s mo (xs.getD i ⟨0, 0⟩) (xs.getD (i + h) ⟨0, 0⟩) (rootOf ws inv (i % (2 * h) * u)) := by
   unfold twoAt
   rw [hm, if_neg (by omega), hlu, Nat.add_sub_cancel, Nat.add_sub_cancel]
  rcases hpair _ _ _ (getD_mem xs i hi) (getD_mem xs (i + h) hi2) (root_in h u (i % (2 * h)) xs.length hn h1 hu hr) hv with g | g
  ·exact ⟨_, mem_twoL xs ws h bits s mo inv i hi, by rw [e1]; exact g⟩
  ·exact ⟨_, mem_twoL xs ws h bits s mo inv (i + h) hi2, by rw [e2]; exact g⟩
 obtain ⟨x, hm, hv⟩ := hx
 obtain ⟨i, hi, rfl⟩ := List.getElem_of_mem hm
 have eg : ∀ j (hj : j < xs.length), xs.getD j ⟨0, 0⟩ = xs[j] := fun j hj => by rw [List.getD_eq_getElem?_getD, List.getElem?_eq_getElem hj]; rfl
 by_cases hr : i % (2 * h) < h
 ·exact key i hi hr (.inl (by rw [eg i hi]; exact hv))
 ·have hlt : i % (2 * h) < 2 * h := Nat.mod_lt _ (by omega)
  have hge : h ≤ i := Nat.le_trans (Nat.le_of_not_lt hr) (Nat.mod_le _ _)
  have hm2 : (i - h) % (2 * h) = i % (2 * h) - h := by
   have hd := Nat.div_add_mod i (2 * h)
   generalize i % (2 * h) = r at *
   generalize i / (2 * h) = c at *
   rw [show i - h = 2 * h * c + (r - h) by omega, Nat.mul_add_mod, Nat.mod_eq_of_lt (by omega)]
  have e : i - h + h = i := by omega
  exact key (i - h) (by omega) (by rw [hm2]; omega) (.inr (by rw [e, eg i hi]; exact hv))
theorem place_four (h c q j : Nat) (hq : q < 4) (hj : j < h) : (4 * h * c + (q * h + j)) % (4 * h) = q * h + j ∧ (4 * h * c + (q * h + j)) % h = j ∧ (q * h + j) / h = q := by
 have hl : q * h + j < 4 * h := by
  have : (q + 1) * h ≤ 4 * h := Nat.mul_le_mul_right _ hq
  rw [Nat.succ_mul] at this
  omega
 refine ⟨by rw [Nat.mul_add_mod, Nat.mod_eq_of_lt hl], ?_, by rw [Nat.mul_comm, Nat.mul_add_div (by omega), Nat.div_eq_of_lt hj, Nat.add_zero]⟩
 rw [show 4 * h * c + (q * h + j) = h * (4 * c + q) + j by grind, Nat.mul_add_mod, Nat.mod_eq_of_lt hj]
theorem four_in (h u c q j n : Nat) (hn : n = 4 * h * u) (hc : c < u) (hq : q < 4) (hj : j < h) : 4 * h * c + (q * h + j) < n := by
 have hl : q * h + j < 4 * h := by
  have : (q + 1) * h ≤ 4 * h := Nat.mul_le_mul_right _ hq
  rw [Nat.succ_mul] at this
  omega
 have h2 : 4 * h * (c + 1) ≤ 4 * h * u := Nat.mul_le_mul_left _ hc
 rw [Nat.mul_succ] at h2
 omega
theorem root_four (h u j n : Nat) (hn : n = 4 * h * u) (hu : 1 ≤ u) (hj : j < h) : j * u < n ∧ 2 * j * u < n ∧ 3 * j * u < n := by
 have h2 : (j + 1) * u ≤ h * u := Nat.mul_le_mul_right _ hj
 rw [Nat.succ_mul] at h2
 have e2 : 2 * j * u = 2 * (j * u) := Nat.mul_assoc _ _ _
 have e3 : 3 * j * u = 3 * (j * u) := Nat.mul_assoc _ _ _
 have e4 : 4 * h * u = 4 * (h * u) := Nat.mul_assoc _ _ _
 rw [hn, e2, e3, e4]
 omega
theorem mem_fourL (xs ws : List Gi) (h bits s : Nat) (mo : Int) (inv : Bool) (i : Nat) (hi : i < xs.length) : fourAt xs ws h bits s mo inv i ∈ fourL xs ws h bits s mo inv :=
 List.mem_map.2 ⟨i, List.mem_range.2 hi, rfl⟩
theorem fourL_keeps (xs ws : List Gi) (h u bits s : Nat) (mo V : Int) (inv : Bool) (P : Gi → Prop) (hn : xs.length = 4 * h * u) (h1 : 1 ≤ h) (hu : 1 ≤ u)
 (hquad : ∀ a0 a1 a2 a3 k1 k2 k3, a0 ∈ xs → a1 ∈ xs → a2 ∈ xs → a3 ∈ xs → k1 < xs.length → k2 < xs.length → k3 < xs.length → (V ≤ nq a0 ∨ V ≤ nq a1 ∨ V ≤ nq a2 ∨ V ≤ nq a3) →
  P (quadOut bits s mo inv 0 a0 a1 a2 a3 (rootOf ws inv k1) (rootOf ws inv k2) (rootOf ws inv k3)) ∨ P (quadOut bits s mo inv 1 a0 a1 a2 a3 (rootOf ws inv k1) (rootOf ws inv k2) (rootOf ws inv k3)) ∨
  P (quadOut bits s mo inv 2 a0 a1 a2 a3 (rootOf ws inv k1) (rootOf ws inv k2) (rootOf ws inv k3)) ∨ P (quadOut bits s mo inv 3 a0 a1 a2 a3 (rootOf ws inv k1) (rootOf ws inv k2) (rootOf ws inv k3)))
 (hx : ∃ x ∈ xs, V ≤ nq x) : ∃ y ∈ fourL xs ws h bits s mo inv, P y := by
 obtain ⟨x, hm, hv⟩ := hx
 obtain ⟨i, hi, rfl⟩ := List.getElem_of_mem hm
 have eg : ∀ j (hj : j < xs.length), xs.getD j ⟨0, 0⟩ = xs[j] := fun j hj => by rw [List.getD_eq_getElem?_getD, List.getElem?_eq_getElem hj]; rfl
 have hrt := Nat.mod_lt i (show 0 < 4 * h by omega)
 have hd := Nat.div_add_mod i (4 * h)
 have hc : i / (4 * h) < u := by
  rw [Nat.div_lt_iff_lt_mul (by omega)]
  rw [hn, Nat.mul_comm] at hi
  exact hi
 have hq : i % (4 * h) / h < 4 := by rw [Nat.div_lt_iff_lt_mul (by omega)]; exact hrt
 have hj : i % (4 * h) % h < h := Nat.mod_lt _ (by omega)
 have hd2 := Nat.div_add_mod (i % (4 * h)) h
 obtain ⟨c, hcc⟩ : ∃ c, i / (4 * h) = c := ⟨_, rfl⟩
 obtain ⟨q, hqq⟩ : ∃ q, i % (4 * h) / h = q := ⟨_, rfl⟩
 obtain ⟨j, hjj⟩ : ∃ j, i % (4 * h) % h = j := ⟨_, rfl⟩
 rw [hjj, hqq] at hd2
 rw [← hd2, hcc, Nat.mul_comm h q] at hd
 rw [hcc] at hc
 rw [hqq] at hq
 rw [hjj] at hj
 clear hcc hqq hjj hd2 hrt
 have hlu : xs.length / (4 * h) = u := by rw [hn]; exact Nat.mul_div_cancel_left _ (by omega)
 have inn := fun p (hp : p < 4) => four_in h u c p j xs.length hn hc hp hj
 have ea : ∀ p, p < 4 → fourAt xs ws h bits s mo inv (4 * h * c + (p * h + j)) = quadOut bits s mo inv (p : Int) (xs.getD (4 * h * c + j) ⟨0, 0⟩) (xs.getD (4 * h * c + 2 * h + j) ⟨0, 0⟩) (xs.getD (4 * h * c + h + j) ⟨0, 0⟩) (xs.getD (4 * h * c + 3 * h + j) ⟨0, 0⟩) (rootOf ws inv (j * u)) (rootOf ws inv (2 * j * u)) (rootOf ws inv (3 * j * u)) := fun p hp => by
  have hpl := place_four h c p j hp hj
  unfold fourAt
  simp only [hpl.1, hpl.2.1, hlu, Nat.add_sub_cancel, Nat.add_sub_cancel_left, hpl.2.2]
 obtain ⟨r1, r2, r3⟩ := root_four h u j xs.length hn hu hj
 have m0 := getD_mem xs (4 * h * c + j) (by have := inn 0 (by omega); omega)
 have m1 := getD_mem xs (4 * h * c + 2 * h + j) (by have := inn 2 (by omega); omega)
 have m2 := getD_mem xs (4 * h * c + h + j) (by have := inn 1 (by omega); omega)
 have m3 := getD_mem xs (4 * h * c + 3 * h + j) (by have := inn 3 (by omega); omega)
 have hvv : V ≤ nq (xs.getD (4 * h * c + j) ⟨0, 0⟩) ∨ V ≤ nq (xs.getD (4 * h * c + 2 * h + j) ⟨0, 0⟩) ∨ V ≤ nq (xs.getD (4 * h * c + h + j) ⟨0, 0⟩) ∨ V ≤ nq (xs.getD (4 * h * c + 3 * h + j) ⟨0, 0⟩) := by
  rw [← eg i hi] at hv
  have hq4 : q = 0 ∨ q = 1 ∨ q = 2 ∨ q = 3 := by omega
  rcases hq4 with rfl | rfl | rfl | rfl
  ·exact .inl (by rw [show 4 * h * c + j = i by omega]; exact hv)
  ·exact .inr (.inr (.inl (by rw [show 4 * h * c + h + j = i by omega]; exact hv)))
  ·exact .inr (.inl (by rw [show 4 * h * c + 2 * h + j = i by omega]; exact hv))
  ·exact .inr (.inr (.inr (by rw [show 4 * h * c + 3 * h + j = i by omega]; exact hv)))
 rcases hquad _ _ _ _ _ _ _ m0 m1 m2 m3 r1 r2 r3 hvv with g | g | g | g
 ·exact ⟨_, mem_fourL xs ws h bits s mo inv _ (inn 0 (by omega)), by rw [ea 0 (by omega)]; exact g⟩
 ·exact ⟨_, mem_fourL xs ws h bits s mo inv _ (inn 1 (by omega)), by rw [ea 1 (by omega)]; exact g⟩
 ·exact ⟨_, mem_fourL xs ws h bits s mo inv _ (inn 2 (by omega)), by rw [ea 2 (by omega)]; exact g⟩
 ·exact ⟨_, mem_fourL xs ws h bits s mo inv _ (inn 3 (by omega)), by rw [ea 3 (by omega)]; exact g⟩
theorem nq_of_bd (m : Int) (a : Gi) (h : Bd m a) (h0 : 0 ≤ m) : nq a ≤ 2 * (m * m) := by
 have h1 := h.le
 have sq : ∀ x : Int, -m ≤ x → x ≤ m → x * x ≤ m * m := fun x h2 h3 => by
  rcases Int.le_total 0 x with g | g
  ·exact Int.mul_le_mul h3 h3 g h0
  ·have := Int.mul_le_mul (show -x ≤ m by omega) (show -x ≤ m by omega) (by omega) h0
   rwa [Int.neg_mul_neg] at this
 have := sq a.re h1.1.1 h1.1.2
 have := sq a.im h1.2.1 h1.2.2
 unfold nq
 omega
theorem maxG_at (xs : List Gi) (h : 0 < maxG xs) : ∃ x ∈ xs, maxG xs * maxG xs ≤ nq x := by
 have key : ∀ l : Int, 0 ≤ l → (∀ x ∈ xs, absI x.re ≤ l ∧ absI x.im ≤ l) → maxG xs ≤ l := fun l h0 h1 => maxG_le xs l h0 h1
 refine Classical.byContradiction fun hno => ?_
 have := key (maxG xs - 1) (by omega) (fun x hx => by
  have hb := maxG_ge xs x hx
  have hn : ¬ maxG xs * maxG xs ≤ nq x := fun g => hno ⟨x, hx, g⟩
  have part : ∀ y : Int, absI y ≤ maxG xs → ¬ maxG xs * maxG xs ≤ y * y → absI y ≤ maxG xs - 1 := fun y h1 h2 => by
   have h3 := absI_le.1 h1
   rcases Int.lt_or_le (absI y) (maxG xs) with g | g
   ·omega
   ·exfalso
    apply h2
    have e : absI y = maxG xs := by omega
    unfold absI at e
    split at e
    ·rw [← e, Int.neg_mul_neg]; exact Int.le_refl _
    ·rw [← e]; exact Int.le_refl _
  have s1 := nsq_nonneg x.re
  have s2 := nsq_nonneg x.im
  unfold nq at hn
  exact ⟨part _ hb.1 (by omega), part _ hb.2 (by omega)⟩)
 omega
theorem bd_root (T : Int) (ws : List Gi) (inv : Bool) (k : Nat) (h0 : 0 ≤ T) (h : ∀ w ∈ ws, Bd T w) : Bd T (rootOf ws inv k) := by
 have hg : Bd T (ws.getD k ⟨0, 0⟩) := by
  rw [List.getD_eq_getElem?_getD]
  cases hx : ws[k]? with
  | none => exact Bd.mk (by simp; omega)
  | some x => exact h x (List.mem_of_getElem? hx)
 unfold rootOf
 cases inv
 ·exact hg
 ·have := hg.le
  simp only [if_true]
  unfold Gi.conj
  exact Bd.mk (by simp only; omega)
theorem pair_grow (bits s : Nat) (mo m : Int) (a b w : Gi) (hm : mo = 0 ∨ mo = 1 ∨ mo = 2) (h0 : 0 ≤ m) (ha : Bd m a) (hb : Bd m b) (hw : Bd (2 ^ bits) w) :
 (∀ y, y = pairUp bits s mo a b w ∨ y = pairDown bits s mo a b w → (absI y.re - 1) * 2 ^ s ≤ 3 * m ∧ (absI y.im - 1) * 2 ^ s ≤ 3 * m) := by
 have hp := Bd.mul hb hw
 have p1 := part_grow a.re (gmul b w).re m bits s mo hm ha.1 hp.1 h0
 have p2 := part_grow a.im (gmul b w).im m bits s mo hm ha.2 hp.2 h0
 intro y hy
 rcases hy with rfl | rfl
 ·exact ⟨p1.1, p2.1⟩
 ·exact ⟨p1.2, p2.2⟩
theorem twoL_all (xs ws : List Gi) (h u bits s : Nat) (mo : Int) (inv : Bool) (Q : Gi → Prop) (hn : xs.length = 2 * h * u) (h1 : 1 ≤ h)
 (hpair : ∀ a b k y, a ∈ xs → b ∈ xs → (y = pairUp bits s mo a b (rootOf ws inv k) ∨ y = pairDown bits s mo a b (rootOf ws inv k)) → Q y) : ∀ y ∈ twoL xs ws h bits s mo inv, Q y := by
 intro y hy
 obtain ⟨i, hi, rfl⟩ := List.mem_map.1 hy
 have hi := List.mem_range.1 hi
 unfold twoAt
 split
 ·rename_i hr
  exact hpair _ _ _ _ (getD_mem xs i hi) (getD_mem xs (i + h) (half_in h u i xs.length hn h1 hi hr)) (.inl rfl)
 ·rename_i hr
  have hge : h ≤ i := Nat.le_trans (Nat.le_of_not_lt hr) (Nat.mod_le _ _)
  exact hpair _ _ _ _ (getD_mem xs (i - h) (by omega)) (getD_mem xs i hi) (.inr rfl)
theorem two_block15_0 (xs ws : List Gi) (h u : Nat) (mo m V : Int) (inv : Bool) (hmo : mo = 0 ∨ mo = 1 ∨ mo = 2) (hn : xs.length = 2 * h * u) (h1 : 1 ≤ h) (hu : 1 ≤ u) (hm : maxG xs = m) (hp : m ≤ 32768) (hs : m ≤ 8192)
 (hr : ∀ k, k < xs.length → 67059721 ≤ nq (rootOf ws inv k) ∧ nq (rootOf ws inv k) ≤ 67158025 ∧ Bd 8192 (rootOf ws inv k)) (hw : ∀ w ∈ ws, Bd 8192 w) (hV : V ≤ 4194304) (hx : ∃ x ∈ xs, V ≤ nq x) :
 (∀ y ∈ twoL xs ws h 13 0 mo inv, Bd 32767 y) ∧ ∃ y ∈ twoL xs ws h 13 0 mo inv, V - 262144 ≤ nq y := by
 have hm0 : 0 ≤ m := by rw [← hm]; exact maxG_nonneg xs
 have hb : ∀ x ∈ xs, Bd m x := fun x hx => by rw [← hm]; exact maxG_ge xs x hx
 have hmm : m * m ≤ 8192 * 8192 := Int.mul_le_mul (by omega) (by omega) hm0 (by decide)
 have hnq : ∀ x ∈ xs, nq x ≤ 134217728 := fun x hx => by
  have := nq_of_bd m x (hb x hx) hm0
  omega
 constructor
 ·refine twoL_all xs ws h u 13 0 mo inv _ hn h1 fun a c k y ha hc hy => ?_
  have g := pair_grow 13 0 mo m a c (rootOf ws inv k) hmo hm0 (hb a ha) (hb c hc) (bd_root _ ws inv k (by decide) hw) y hy
  simp only [Int.reducePow] at g
  exact ⟨by omega, by omega⟩
 ·obtain ⟨y, hy, hv⟩ := twoL_keeps xs ws h u 13 0 mo V inv (fun y => V ≤ 1 * (nq y + 262144)) hn h1 hu (fun a c k ha hc hk hv => two_low15_0 a c (rootOf ws inv k) mo V hmo (by omega) hv (hnq a ha) (hnq c hc) (hr k hk).1 (hr k hk).2.1) hx
  exact ⟨y, hy, by omega⟩
theorem two_block15_1 (xs ws : List Gi) (h u : Nat) (mo m V : Int) (inv : Bool) (hmo : mo = 0 ∨ mo = 1 ∨ mo = 2) (hn : xs.length = 2 * h * u) (h1 : 1 ≤ h) (hu : 1 ≤ u) (hm : maxG xs = m) (hp : m ≤ 32768) (hs : 8192 < m ∧ m ≤ 16384)
 (hr : ∀ k, k < xs.length → 67059721 ≤ nq (rootOf ws inv k) ∧ nq (rootOf ws inv k) ≤ 67158025 ∧ Bd 8192 (rootOf ws inv k)) (hw : ∀ w ∈ ws, Bd 8192 w) (hV : V ≤ 4194304) (hx : ∃ x ∈ xs, V ≤ nq x) :
 (∀ y ∈ twoL xs ws h 13 1 mo inv, Bd 32767 y) ∧ ∃ y ∈ twoL xs ws h 13 1 mo inv, V - 262144 ≤ nq y := by
 have hm0 : 0 ≤ m := by rw [← hm]; exact maxG_nonneg xs
 have hb : ∀ x ∈ xs, Bd m x := fun x hx => by rw [← hm]; exact maxG_ge xs x hx
 have hmm : m * m ≤ 16384 * 16384 := Int.mul_le_mul (by omega) (by omega) hm0 (by decide)
 have hnq : ∀ x ∈ xs, nq x ≤ 536870912 := fun x hx => by
  have := nq_of_bd m x (hb x hx) hm0
  omega
 constructor
 ·refine twoL_all xs ws h u 13 1 mo inv _ hn h1 fun a c k y ha hc hy => ?_
  have g := pair_grow 13 1 mo m a c (rootOf ws inv k) hmo hm0 (hb a ha) (hb c hc) (bd_root _ ws inv k (by decide) hw) y hy
  simp only [Int.reducePow] at g
  exact ⟨by omega, by omega⟩
 ·obtain ⟨x, hx1, hx2⟩ := maxG_at xs (by omega)
  have hms : 8192 * 8192 ≤ m * m := Int.mul_le_mul (by omega) (by omega) (by decide) hm0
  rw [hm] at hx2
  obtain ⟨y, hy, hv⟩ := twoL_keeps xs ws h u 13 1 mo 67108864 inv (fun y => 67108864 ≤ 4 * (nq y + 262144)) hn h1 hu (fun a c k ha hc hk hv => two_low15_1 a c (rootOf ws inv k) mo 67108864 hmo (by decide) hv (hnq a ha) (hnq c hc) (hr k hk).1 (hr k hk).2.1) ⟨x, hx1, by omega⟩
  exact ⟨y, hy, by omega⟩
theorem two_block15_2 (xs ws : List Gi) (h u : Nat) (mo m V : Int) (inv : Bool) (hmo : mo = 0 ∨ mo = 1 ∨ mo = 2) (hn : xs.length = 2 * h * u) (h1 : 1 ≤ h) (hu : 1 ≤ u) (hm : maxG xs = m) (hp : m ≤ 32768) (hs : 16384 < m)
 (hr : ∀ k, k < xs.length → 67059721 ≤ nq (rootOf ws inv k) ∧ nq (rootOf ws inv k) ≤ 67158025 ∧ Bd 8192 (rootOf ws inv k)) (hw : ∀ w ∈ ws, Bd 8192 w) (hV : V ≤ 4194304) (hx : ∃ x ∈ xs, V ≤ nq x) :
 (∀ y ∈ twoL xs ws h 13 2 mo inv, Bd 32767 y) ∧ ∃ y ∈ twoL xs ws h 13 2 mo inv, V - 262144 ≤ nq y := by
 have hm0 : 0 ≤ m := by rw [← hm]; exact maxG_nonneg xs
 have hb : ∀ x ∈ xs, Bd m x := fun x hx => by rw [← hm]; exact maxG_ge xs x hx
 have hmm : m * m ≤ 32768 * 32768 := Int.mul_le_mul (by omega) (by omega) hm0 (by decide)
 have hnq : ∀ x ∈ xs, nq x ≤ 2147483648 := fun x hx => by
  have := nq_of_bd m x (hb x hx) hm0
  omega
 constructor
 ·refine twoL_all xs ws h u 13 2 mo inv _ hn h1 fun a c k y ha hc hy => ?_
  have g := pair_grow 13 2 mo m a c (rootOf ws inv k) hmo hm0 (hb a ha) (hb c hc) (bd_root _ ws inv k (by decide) hw) y hy
  simp only [Int.reducePow] at g
  exact ⟨by omega, by omega⟩
 ·obtain ⟨x, hx1, hx2⟩ := maxG_at xs (by omega)
  have hms : 16384 * 16384 ≤ m * m := Int.mul_le_mul (by omega) (by omega) (by decide) hm0
  rw [hm] at hx2
  obtain ⟨y, hy, hv⟩ := twoL_keeps xs ws h u 13 2 mo 268435456 inv (fun y => 268435456 ≤ 16 * (nq y + 262144)) hn h1 hu (fun a c k ha hc hk hv => two_low15_2 a c (rootOf ws inv k) mo 268435456 hmo (by decide) hv (hnq a ha) (hnq c hc) (hr k hk).1 (hr k hk).2.1) ⟨x, hx1, by omega⟩
  exact ⟨y, hy, by omega⟩
theorem two_block31_0 (xs ws : List Gi) (h u : Nat) (mo m V : Int) (inv : Bool) (hmo : mo = 0 ∨ mo = 1 ∨ mo = 2) (hn : xs.length = 2 * h * u) (h1 : 1 ≤ h) (hu : 1 ≤ u) (hm : maxG xs = m) (hp : m ≤ 2147483648) (hs : m ≤ 536870912)
 (hr : ∀ k, k < xs.length → 288230372930486281 ≤ nq (rootOf ws inv k) ∧ nq (rootOf ws inv k) ≤ 288230379372937225 ∧ Bd 536870912 (rootOf ws inv k)) (hw : ∀ w ∈ ws, Bd 536870912 w) (hV : V ≤ 18014398509481984) (hx : ∃ x ∈ xs, V ≤ nq x) :
 (∀ y ∈ twoL xs ws h 29 0 mo inv, Bd 2147483647 y) ∧ ∃ y ∈ twoL xs ws h 29 0 mo inv, V - 1125899906842624 ≤ nq y := by
 have hm0 : 0 ≤ m := by rw [← hm]; exact maxG_nonneg xs
 have hb : ∀ x ∈ xs, Bd m x := fun x hx => by rw [← hm]; exact maxG_ge xs x hx
 have hmm : m * m ≤ 536870912 * 536870912 := Int.mul_le_mul (by omega) (by omega) hm0 (by decide)
 have hnq : ∀ x ∈ xs, nq x ≤ 576460752303423488 := fun x hx => by
  have := nq_of_bd m x (hb x hx) hm0
  omega
 constructor
 ·refine twoL_all xs ws h u 29 0 mo inv _ hn h1 fun a c k y ha hc hy => ?_
  have g := pair_grow 29 0 mo m a c (rootOf ws inv k) hmo hm0 (hb a ha) (hb c hc) (bd_root _ ws inv k (by decide) hw) y hy
  simp only [Int.reducePow] at g
  exact ⟨by omega, by omega⟩
 ·obtain ⟨y, hy, hv⟩ := twoL_keeps xs ws h u 29 0 mo V inv (fun y => V ≤ 1 * (nq y + 1125899906842624)) hn h1 hu (fun a c k ha hc hk hv => two_low31_0 a c (rootOf ws inv k) mo V hmo (by omega) hv (hnq a ha) (hnq c hc) (hr k hk).1 (hr k hk).2.1) hx
  exact ⟨y, hy, by omega⟩
theorem two_block31_1 (xs ws : List Gi) (h u : Nat) (mo m V : Int) (inv : Bool) (hmo : mo = 0 ∨ mo = 1 ∨ mo = 2) (hn : xs.length = 2 * h * u) (h1 : 1 ≤ h) (hu : 1 ≤ u) (hm : maxG xs = m) (hp : m ≤ 2147483648) (hs : 536870912 < m ∧ m ≤ 1073741824)
 (hr : ∀ k, k < xs.length → 288230372930486281 ≤ nq (rootOf ws inv k) ∧ nq (rootOf ws inv k) ≤ 288230379372937225 ∧ Bd 536870912 (rootOf ws inv k)) (hw : ∀ w ∈ ws, Bd 536870912 w) (hV : V ≤ 18014398509481984) (hx : ∃ x ∈ xs, V ≤ nq x) :
 (∀ y ∈ twoL xs ws h 29 1 mo inv, Bd 2147483647 y) ∧ ∃ y ∈ twoL xs ws h 29 1 mo inv, V - 1125899906842624 ≤ nq y := by
 have hm0 : 0 ≤ m := by rw [← hm]; exact maxG_nonneg xs
 have hb : ∀ x ∈ xs, Bd m x := fun x hx => by rw [← hm]; exact maxG_ge xs x hx
 have hmm : m * m ≤ 1073741824 * 1073741824 := Int.mul_le_mul (by omega) (by omega) hm0 (by decide)
 have hnq : ∀ x ∈ xs, nq x ≤ 2305843009213693952 := fun x hx => by
  have := nq_of_bd m x (hb x hx) hm0
  omega
 constructor
 ·refine twoL_all xs ws h u 29 1 mo inv _ hn h1 fun a c k y ha hc hy => ?_
  have g := pair_grow 29 1 mo m a c (rootOf ws inv k) hmo hm0 (hb a ha) (hb c hc) (bd_root _ ws inv k (by decide) hw) y hy
  simp only [Int.reducePow] at g
  exact ⟨by omega, by omega⟩
 ·obtain ⟨x, hx1, hx2⟩ := maxG_at xs (by omega)
  have hms : 536870912 * 536870912 ≤ m * m := Int.mul_le_mul (by omega) (by omega) (by decide) hm0
  rw [hm] at hx2
  obtain ⟨y, hy, hv⟩ := twoL_keeps xs ws h u 29 1 mo 288230376151711744 inv (fun y => 288230376151711744 ≤ 4 * (nq y + 1125899906842624)) hn h1 hu (fun a c k ha hc hk hv => two_low31_1 a c (rootOf ws inv k) mo 288230376151711744 hmo (by decide) hv (hnq a ha) (hnq c hc) (hr k hk).1 (hr k hk).2.1) ⟨x, hx1, by omega⟩
  exact ⟨y, hy, by omega⟩
theorem two_block31_2 (xs ws : List Gi) (h u : Nat) (mo m V : Int) (inv : Bool) (hmo : mo = 0 ∨ mo = 1 ∨ mo = 2) (hn : xs.length = 2 * h * u) (h1 : 1 ≤ h) (hu : 1 ≤ u) (hm : maxG xs = m) (hp : m ≤ 2147483648) (hs : 1073741824 < m)
 (hr : ∀ k, k < xs.length → 288230372930486281 ≤ nq (rootOf ws inv k) ∧ nq (rootOf ws inv k) ≤ 288230379372937225 ∧ Bd 536870912 (rootOf ws inv k)) (hw : ∀ w ∈ ws, Bd 536870912 w) (hV : V ≤ 18014398509481984) (hx : ∃ x ∈ xs, V ≤ nq x) :
 (∀ y ∈ twoL xs ws h 29 2 mo inv, Bd 2147483647 y) ∧ ∃ y ∈ twoL xs ws h 29 2 mo inv, V - 1125899906842624 ≤ nq y := by
 have hm0 : 0 ≤ m := by rw [← hm]; exact maxG_nonneg xs
 have hb : ∀ x ∈ xs, Bd m x := fun x hx => by rw [← hm]; exact maxG_ge xs x hx
 have hmm : m * m ≤ 2147483648 * 2147483648 := Int.mul_le_mul (by omega) (by omega) hm0 (by decide)
 have hnq : ∀ x ∈ xs, nq x ≤ 9223372036854775808 := fun x hx => by
  have := nq_of_bd m x (hb x hx) hm0
  omega
 constructor
 ·refine twoL_all xs ws h u 29 2 mo inv _ hn h1 fun a c k y ha hc hy => ?_
  have g := pair_grow 29 2 mo m a c (rootOf ws inv k) hmo hm0 (hb a ha) (hb c hc) (bd_root _ ws inv k (by decide) hw) y hy
  simp only [Int.reducePow] at g
  exact ⟨by omega, by omega⟩
 ·obtain ⟨x, hx1, hx2⟩ := maxG_at xs (by omega)
  have hms : 1073741824 * 1073741824 ≤ m * m := Int.mul_le_mul (by omega) (by omega) (by decide) hm0
  rw [hm] at hx2
  obtain ⟨y, hy, hv⟩ := twoL_keeps xs ws h u 29 2 mo 1152921504606846976 inv (fun y => 1152921504606846976 ≤ 16 * (nq y + 1125899906842624)) hn h1 hu (fun a c k ha hc hk hv => two_low31_2 a c (rootOf ws inv k) mo 1152921504606846976 hmo (by decide) hv (hnq a ha) (hnq c hc) (hr k hk).1 (hr k hk).2.1) ⟨x, hx1, by omega⟩
  exact ⟨y, hy, by omega⟩
theorem Bd.getD {m : Int} {xs : List Gi} (h : ∀ x ∈ xs, Bd m x) (h0 : 0 ≤ m) (i : Nat) : Bd m (xs.getD i ⟨0, 0⟩) := by
 rw [List.getD_eq_getElem?_getD]
 cases hx : xs[i]? with
 | none => exact Bd.mk (by simp; omega)
 | some x => exact h x (List.mem_of_getElem? hx)
theorem fourL_grow (xs ws : List Gi) (h bits s : Nat) (mo m : Int) (inv : Bool) (hmo : mo = 0 ∨ mo = 1 ∨ mo = 2) (h0 : 0 ≤ m) (hb : ∀ x ∈ xs, Bd m x) (hw : ∀ w ∈ ws, Bd (2 ^ bits) w) : ∀ y ∈ fourL xs ws h bits s mo inv, (absI y.re - 1) * 2 ^ s ≤ 7 * m ∧ (absI y.im - 1) * 2 ^ s ≤ 7 * m := by
 intro y hy
 obtain ⟨i, hi, rfl⟩ := List.mem_map.1 hy
 have h2 := pow_pos2 bits
 unfold fourAt
 exact quad_grow bits s mo inv _ m _ _ _ _ _ _ _ hmo (Bd.getD hb h0 _) (Bd.getD hb h0 _) (Bd.getD hb h0 _) (Bd.getD hb h0 _) (bd_root _ ws inv _ (by omega) hw) (bd_root _ ws inv _ (by omega) hw) (bd_root _ ws inv _ (by omega) hw)
theorem four_block15_0 (xs ws : List Gi) (h u : Nat) (mo m V : Int) (inv : Bool) (hmo : mo = 0 ∨ mo = 1 ∨ mo = 2) (hn : xs.length = 4 * h * u) (h1 : 1 ≤ h) (hu : 1 ≤ u) (hm : maxG xs = m) (hp : m ≤ 32768) (hs : m ≤ 4096)
 (hr : ∀ k, k < xs.length → 67059721 ≤ nq (rootOf ws inv k) ∧ nq (rootOf ws inv k) ≤ 67158025) (hw : ∀ w ∈ ws, Bd 8192 w) (hV : V ≤ 4194304) (hx : ∃ x ∈ xs, V ≤ nq x) :
 (∀ y ∈ fourL xs ws h 13 0 mo inv, Bd 32767 y) ∧ ∃ y ∈ fourL xs ws h 13 0 mo inv, V - 262144 ≤ nq y := by
 have hm0 : 0 ≤ m := by rw [← hm]; exact maxG_nonneg xs
 have hb : ∀ x ∈ xs, Bd m x := fun x hx => by rw [← hm]; exact maxG_ge xs x hx
 have hmm : m * m ≤ 4096 * 4096 := Int.mul_le_mul (by omega) (by omega) hm0 (by decide)
 have hnq : ∀ x ∈ xs, nq x ≤ 33554432 := fun x hx => by
  have := nq_of_bd m x (hb x hx) hm0
  omega
 constructor
 ·intro y hy
  have g := fourL_grow xs ws h 13 0 mo m inv hmo hm0 hb hw y hy
  simp only [Int.reducePow] at g
  exact ⟨by omega, by omega⟩
 ·obtain ⟨y, hy, hv⟩ := fourL_keeps xs ws h u 13 0 mo V inv (fun y => V ≤ 1 * (nq y + 262144)) hn h1 hu (fun a0 a1 a2 a3 k1 k2 k3 g0 g1 g2 g3 j1 j2 j3 hv => four_low15_0 inv a0 a1 a2 a3 (rootOf ws inv k1) (rootOf ws inv k2) (rootOf ws inv k3) mo V hmo hv (hnq a0 g0) (hnq a1 g1) (hnq a2 g2) (hnq a3 g3) (hr k1 j1).1 (hr k1 j1).2 (hr k2 j2).1 (hr k2 j2).2 (hr k3 j3).1 (hr k3 j3).2) hx
  exact ⟨y, hy, by omega⟩
theorem four_block15_1 (xs ws : List Gi) (h u : Nat) (mo m V : Int) (inv : Bool) (hmo : mo = 0 ∨ mo = 1 ∨ mo = 2) (hn : xs.length = 4 * h * u) (h1 : 1 ≤ h) (hu : 1 ≤ u) (hm : maxG xs = m) (hp : m ≤ 32768) (hs : 4096 < m ∧ m ≤ 8192)
 (hr : ∀ k, k < xs.length → 67059721 ≤ nq (rootOf ws inv k) ∧ nq (rootOf ws inv k) ≤ 67158025) (hw : ∀ w ∈ ws, Bd 8192 w) (hV : V ≤ 4194304) (hx : ∃ x ∈ xs, V ≤ nq x) :
 (∀ y ∈ fourL xs ws h 13 1 mo inv, Bd 32767 y) ∧ ∃ y ∈ fourL xs ws h 13 1 mo inv, V - 262144 ≤ nq y := by
 have hm0 : 0 ≤ m := by rw [← hm]; exact maxG_nonneg xs
 have hb : ∀ x ∈ xs, Bd m x := fun x hx => by rw [← hm]; exact maxG_ge xs x hx
 have hmm : m * m ≤ 8192 * 8192 := Int.mul_le_mul (by omega) (by omega) hm0 (by decide)
 have hnq : ∀ x ∈ xs, nq x ≤ 134217728 := fun x hx => by
  have := nq_of_bd m x (hb x hx) hm0
  omega
 constructor
 ·intro y hy
  have g := fourL_grow xs ws h 13 1 mo m inv hmo hm0 hb hw y hy
  simp only [Int.reducePow] at g
  exact ⟨by omega, by omega⟩
 ·obtain ⟨x, hx1, hx2⟩ := maxG_at xs (by omega)
  have hms : 4096 * 4096 ≤ m * m := Int.mul_le_mul (by omega) (by omega) (by decide) hm0
  rw [hm] at hx2
  obtain ⟨y, hy, hv⟩ := fourL_keeps xs ws h u 13 1 mo 16777216 inv (fun y => 16777216 ≤ 4 * (nq y + 262144)) hn h1 hu (fun a0 a1 a2 a3 k1 k2 k3 g0 g1 g2 g3 j1 j2 j3 hv => four_low15_1 inv a0 a1 a2 a3 (rootOf ws inv k1) (rootOf ws inv k2) (rootOf ws inv k3) mo 16777216 hmo hv (hnq a0 g0) (hnq a1 g1) (hnq a2 g2) (hnq a3 g3) (hr k1 j1).1 (hr k1 j1).2 (hr k2 j2).1 (hr k2 j2).2 (hr k3 j3).1 (hr k3 j3).2) ⟨x, hx1, by omega⟩
  exact ⟨y, hy, by omega⟩
theorem four_block15_2 (xs ws : List Gi) (h u : Nat) (mo m V : Int) (inv : Bool) (hmo : mo = 0 ∨ mo = 1 ∨ mo = 2) (hn : xs.length = 4 * h * u) (h1 : 1 ≤ h) (hu : 1 ≤ u) (hm : maxG xs = m) (hp : m ≤ 32768) (hs : 8192 < m ∧ m ≤ 16384)
 (hr : ∀ k, k < xs.length → 67059721 ≤ nq (rootOf ws inv k) ∧ nq (rootOf ws inv k) ≤ 67158025) (hw : ∀ w ∈ ws, Bd 8192 w) (hV : V ≤ 4194304) (hx : ∃ x ∈ xs, V ≤ nq x) :
 (∀ y ∈ fourL xs ws h 13 2 mo inv, Bd 32767 y) ∧ ∃ y ∈ fourL xs ws h 13 2 mo inv, V - 262144 ≤ nq y := by
 have hm0 : 0 ≤ m := by rw [← hm]; exact maxG_nonneg xs
 have hb : ∀ x ∈ xs, Bd m x := fun x hx => by rw [← hm]; exact maxG_ge xs x hx
 have hmm : m * m ≤ 16384 * 16384 := Int.mul_le_mul (by omega) (by omega) hm0 (by decide)
 have hnq : ∀ x ∈ xs, nq x ≤ 536870912 := fun x hx => by
  have := nq_of_bd m x (hb x hx) hm0
  omega
 constructor
 ·intro y hy
  have g := fourL_grow xs ws h 13 2 mo m inv hmo hm0 hb hw y hy
  simp only [Int.reducePow] at g
  exact ⟨by omega, by omega⟩
 ·obtain ⟨x, hx1, hx2⟩ := maxG_at xs (by omega)
  have hms : 8192 * 8192 ≤ m * m := Int.mul_le_mul (by omega) (by omega) (by decide) hm0
  rw [hm] at hx2
  obtain ⟨y, hy, hv⟩ := fourL_keeps xs ws h u 13 2 mo 67108864 inv (fun y => 67108864 ≤ 16 * (nq y + 262144)) hn h1 hu (fun a0 a1 a2 a3 k1 k2 k3 g0 g1 g2 g3 j1 j2 j3 hv => four_low15_2 inv a0 a1 a2 a3 (rootOf ws inv k1) (rootOf ws inv k2) (rootOf ws inv k3) mo 67108864 hmo hv (hnq a0 g0) (hnq a1 g1) (hnq a2 g2) (hnq a3 g3) (hr k1 j1).1 (hr k1 j1).2 (hr k2 j2).1 (hr k2 j2).2 (hr k3 j3).1 (hr k3 j3).2) ⟨x, hx1, by omega⟩
  exact ⟨y, hy, by omega⟩
theorem four_block15_3 (xs ws : List Gi) (h u : Nat) (mo m V : Int) (inv : Bool) (hmo : mo = 0 ∨ mo = 1 ∨ mo = 2) (hn : xs.length = 4 * h * u) (h1 : 1 ≤ h) (hu : 1 ≤ u) (hm : maxG xs = m) (hp : m ≤ 32768) (hs : 16384 < m)
 (hr : ∀ k, k < xs.length → 67059721 ≤ nq (rootOf ws inv k) ∧ nq (rootOf ws inv k) ≤ 67158025) (hw : ∀ w ∈ ws, Bd 8192 w) (hV : V ≤ 4194304) (hx : ∃ x ∈ xs, V ≤ nq x) :
 (∀ y ∈ fourL xs ws h 13 3 mo inv, Bd 32767 y) ∧ ∃ y ∈ fourL xs ws h 13 3 mo inv, V - 262144 ≤ nq y := by
 have hm0 : 0 ≤ m := by rw [← hm]; exact maxG_nonneg xs
 have hb : ∀ x ∈ xs, Bd m x := fun x hx => by rw [← hm]; exact maxG_ge xs x hx
 have hmm : m * m ≤ 32768 * 32768 := Int.mul_le_mul (by omega) (by omega) hm0 (by decide)
 have hnq : ∀ x ∈ xs, nq x ≤ 2147483648 := fun x hx => by
  have := nq_of_bd m x (hb x hx) hm0
  omega
 constructor
 ·intro y hy
  have g := fourL_grow xs ws h 13 3 mo m inv hmo hm0 hb hw y hy
  simp only [Int.reducePow] at g
  exact ⟨by omega, by omega⟩
 ·obtain ⟨x, hx1, hx2⟩ := maxG_at xs (by omega)
  have hms : 16384 * 16384 ≤ m * m := Int.mul_le_mul (by omega) (by omega) (by decide) hm0
  rw [hm] at hx2
  obtain ⟨y, hy, hv⟩ := fourL_keeps xs ws h u 13 3 mo 268435456 inv (fun y => 268435456 ≤ 64 * (nq y + 262144)) hn h1 hu (fun a0 a1 a2 a3 k1 k2 k3 g0 g1 g2 g3 j1 j2 j3 hv => four_low15_3 inv a0 a1 a2 a3 (rootOf ws inv k1) (rootOf ws inv k2) (rootOf ws inv k3) mo 268435456 hmo hv (hnq a0 g0) (hnq a1 g1) (hnq a2 g2) (hnq a3 g3) (hr k1 j1).1 (hr k1 j1).2 (hr k2 j2).1 (hr k2 j2).2 (hr k3 j3).1 (hr k3 j3).2) ⟨x, hx1, by omega⟩
  exact ⟨y, hy, by omega⟩
theorem four_block31_0 (xs ws : List Gi) (h u : Nat) (mo m V : Int) (inv : Bool) (hmo : mo = 0 ∨ mo = 1 ∨ mo = 2) (hn : xs.length = 4 * h * u) (h1 : 1 ≤ h) (hu : 1 ≤ u) (hm : maxG xs = m) (hp : m ≤ 2147483648) (hs : m ≤ 268435456)
 (hr : ∀ k, k < xs.length → 288230372930486281 ≤ nq (rootOf ws inv k) ∧ nq (rootOf ws inv k) ≤ 288230379372937225) (hw : ∀ w ∈ ws, Bd 536870912 w) (hV : V ≤ 18014398509481984) (hx : ∃ x ∈ xs, V ≤ nq x) :
 (∀ y ∈ fourL xs ws h 29 0 mo inv, Bd 2147483647 y) ∧ ∃ y ∈ fourL xs ws h 29 0 mo inv, V - 1125899906842624 ≤ nq y := by
 have hm0 : 0 ≤ m := by rw [← hm]; exact maxG_nonneg xs
 have hb : ∀ x ∈ xs, Bd m x := fun x hx => by rw [← hm]; exact maxG_ge xs x hx
 have hmm : m * m ≤ 268435456 * 268435456 := Int.mul_le_mul (by omega) (by omega) hm0 (by decide)
 have hnq : ∀ x ∈ xs, nq x ≤ 144115188075855872 := fun x hx => by
  have := nq_of_bd m x (hb x hx) hm0
  omega
 constructor
 ·intro y hy
  have g := fourL_grow xs ws h 29 0 mo m inv hmo hm0 hb hw y hy
  simp only [Int.reducePow] at g
  exact ⟨by omega, by omega⟩
 ·obtain ⟨y, hy, hv⟩ := fourL_keeps xs ws h u 29 0 mo V inv (fun y => V ≤ 1 * (nq y + 1125899906842624)) hn h1 hu (fun a0 a1 a2 a3 k1 k2 k3 g0 g1 g2 g3 j1 j2 j3 hv => four_low31_0 inv a0 a1 a2 a3 (rootOf ws inv k1) (rootOf ws inv k2) (rootOf ws inv k3) mo V hmo hv (hnq a0 g0) (hnq a1 g1) (hnq a2 g2) (hnq a3 g3) (hr k1 j1).1 (hr k1 j1).2 (hr k2 j2).1 (hr k2 j2).2 (hr k3 j3).1 (hr k3 j3).2) hx
  exact ⟨y, hy, by omega⟩
theorem four_block31_1 (xs ws : List Gi) (h u : Nat) (mo m V : Int) (inv : Bool) (hmo : mo = 0 ∨ mo = 1 ∨ mo = 2) (hn : xs.length = 4 * h * u) (h1 : 1 ≤ h) (hu : 1 ≤ u) (hm : maxG xs = m) (hp : m ≤ 2147483648) (hs : 268435456 < m ∧ m ≤ 536870912)
 (hr : ∀ k, k < xs.length → 288230372930486281 ≤ nq (rootOf ws inv k) ∧ nq (rootOf ws inv k) ≤ 288230379372937225) (hw : ∀ w ∈ ws, Bd 536870912 w) (hV : V ≤ 18014398509481984) (hx : ∃ x ∈ xs, V ≤ nq x) :
 (∀ y ∈ fourL xs ws h 29 1 mo inv, Bd 2147483647 y) ∧ ∃ y ∈ fourL xs ws h 29 1 mo inv, V - 1125899906842624 ≤ nq y := by
 have hm0 : 0 ≤ m := by rw [← hm]; exact maxG_nonneg xs
 have hb : ∀ x ∈ xs, Bd m x := fun x hx => by rw [← hm]; exact maxG_ge xs x hx
 have hmm : m * m ≤ 536870912 * 536870912 := Int.mul_le_mul (by omega) (by omega) hm0 (by decide)
 have hnq : ∀ x ∈ xs, nq x ≤ 576460752303423488 := fun x hx => by
  have := nq_of_bd m x (hb x hx) hm0
  omega
 constructor
 ·intro y hy
  have g := fourL_grow xs ws h 29 1 mo m inv hmo hm0 hb hw y hy
  simp only [Int.reducePow] at g
  exact ⟨by omega, by omega⟩
 ·obtain ⟨x, hx1, hx2⟩ := maxG_at xs (by omega)
  have hms : 268435456 * 268435456 ≤ m * m := Int.mul_le_mul (by omega) (by omega) (by decide) hm0
  rw [hm] at hx2
  obtain ⟨y, hy, hv⟩ := fourL_keeps xs ws h u 29 1 mo 72057594037927936 inv (fun y => 72057594037927936 ≤ 4 * (nq y + 1125899906842624)) hn h1 hu (fun a0 a1 a2 a3 k1 k2 k3 g0 g1 g2 g3 j1 j2 j3 hv => four_low31_1 inv a0 a1 a2 a3 (rootOf ws inv k1) (rootOf ws inv k2) (rootOf ws inv k3) mo 72057594037927936 hmo hv (hnq a0 g0) (hnq a1 g1) (hnq a2 g2) (hnq a3 g3) (hr k1 j1).1 (hr k1 j1).2 (hr k2 j2).1 (hr k2 j2).2 (hr k3 j3).1 (hr k3 j3).2) ⟨x, hx1, by omega⟩
  exact ⟨y, hy, by omega⟩
theorem four_block31_2 (xs ws : List Gi) (h u : Nat) (mo m V : Int) (inv : Bool) (hmo : mo = 0 ∨ mo = 1 ∨ mo = 2) (hn : xs.length = 4 * h * u) (h1 : 1 ≤ h) (hu : 1 ≤ u) (hm : maxG xs = m) (hp : m ≤ 2147483648) (hs : 536870912 < m ∧ m ≤ 1073741824)
 (hr : ∀ k, k < xs.length → 288230372930486281 ≤ nq (rootOf ws inv k) ∧ nq (rootOf ws inv k) ≤ 288230379372937225) (hw : ∀ w ∈ ws, Bd 536870912 w) (hV : V ≤ 18014398509481984) (hx : ∃ x ∈ xs, V ≤ nq x) :
 (∀ y ∈ fourL xs ws h 29 2 mo inv, Bd 2147483647 y) ∧ ∃ y ∈ fourL xs ws h 29 2 mo inv, V - 1125899906842624 ≤ nq y := by
 have hm0 : 0 ≤ m := by rw [← hm]; exact maxG_nonneg xs
 have hb : ∀ x ∈ xs, Bd m x := fun x hx => by rw [← hm]; exact maxG_ge xs x hx
 have hmm : m * m ≤ 1073741824 * 1073741824 := Int.mul_le_mul (by omega) (by omega) hm0 (by decide)
 have hnq : ∀ x ∈ xs, nq x ≤ 2305843009213693952 := fun x hx => by
  have := nq_of_bd m x (hb x hx) hm0
  omega
 constructor
 ·intro y hy
  have g := fourL_grow xs ws h 29 2 mo m inv hmo hm0 hb hw y hy
  simp only [Int.reducePow] at g
  exact ⟨by omega, by omega⟩
 ·obtain ⟨x, hx1, hx2⟩ := maxG_at xs (by omega)
  have hms : 536870912 * 536870912 ≤ m * m := Int.mul_le_mul (by omega) (by omega) (by decide) hm0
  rw [hm] at hx2
  obtain ⟨y, hy, hv⟩ := fourL_keeps xs ws h u 29 2 mo 288230376151711744 inv (fun y => 288230376151711744 ≤ 16 * (nq y + 1125899906842624)) hn h1 hu (fun a0 a1 a2 a3 k1 k2 k3 g0 g1 g2 g3 j1 j2 j3 hv => four_low31_2 inv a0 a1 a2 a3 (rootOf ws inv k1) (rootOf ws inv k2) (rootOf ws inv k3) mo 288230376151711744 hmo hv (hnq a0 g0) (hnq a1 g1) (hnq a2 g2) (hnq a3 g3) (hr k1 j1).1 (hr k1 j1).2 (hr k2 j2).1 (hr k2 j2).2 (hr k3 j3).1 (hr k3 j3).2) ⟨x, hx1, by omega⟩
  exact ⟨y, hy, by omega⟩
theorem four_block31_3 (xs ws : List Gi) (h u : Nat) (mo m V : Int) (inv : Bool) (hmo : mo = 0 ∨ mo = 1 ∨ mo = 2) (hn : xs.length = 4 * h * u) (h1 : 1 ≤ h) (hu : 1 ≤ u) (hm : maxG xs = m) (hp : m ≤ 2147483648) (hs : 1073741824 < m)
 (hr : ∀ k, k < xs.length → 288230372930486281 ≤ nq (rootOf ws inv k) ∧ nq (rootOf ws inv k) ≤ 288230379372937225) (hw : ∀ w ∈ ws, Bd 536870912 w) (hV : V ≤ 18014398509481984) (hx : ∃ x ∈ xs, V ≤ nq x) :
 (∀ y ∈ fourL xs ws h 29 3 mo inv, Bd 2147483647 y) ∧ ∃ y ∈ fourL xs ws h 29 3 mo inv, V - 1125899906842624 ≤ nq y := by
 have hm0 : 0 ≤ m := by rw [← hm]; exact maxG_nonneg xs
 have hb : ∀ x ∈ xs, Bd m x := fun x hx => by rw [← hm]; exact maxG_ge xs x hx
 have hmm : m * m ≤ 2147483648 * 2147483648 := Int.mul_le_mul (by omega) (by omega) hm0 (by decide)
 have hnq : ∀ x ∈ xs, nq x ≤ 9223372036854775808 := fun x hx => by
  have := nq_of_bd m x (hb x hx) hm0
  omega
 constructor
 ·intro y hy
  have g := fourL_grow xs ws h 29 3 mo m inv hmo hm0 hb hw y hy
  simp only [Int.reducePow] at g
  exact ⟨by omega, by omega⟩
 ·obtain ⟨x, hx1, hx2⟩ := maxG_at xs (by omega)
  have hms : 1073741824 * 1073741824 ≤ m * m := Int.mul_le_mul (by omega) (by omega) (by decide) hm0
  rw [hm] at hx2
  obtain ⟨y, hy, hv⟩ := fourL_keeps xs ws h u 29 3 mo 1152921504606846976 inv (fun y => 1152921504606846976 ≤ 64 * (nq y + 1125899906842624)) hn h1 hu (fun a0 a1 a2 a3 k1 k2 k3 g0 g1 g2 g3 j1 j2 j3 hv => four_low31_3 inv a0 a1 a2 a3 (rootOf ws inv k1) (rootOf ws inv k2) (rootOf ws inv k3) mo 1152921504606846976 hmo hv (hnq a0 g0) (hnq a1 g1) (hnq a2 g2) (hnq a3 g3) (hr k1 j1).1 (hr k1 j1).2 (hr k2 j2).1 (hr k2 j2).2 (hr k3 j3).1 (hr k3 j3).2) ⟨x, hx1, by omega⟩
  exact ⟨y, hy, by omega⟩
end
end Go.Proofs.YtablflakcaimmaaGreat
