import Derived.Test.YtdignnmpfkgkoaaGreatRealBinsS8
namespace Go.Proofs.YtdignnmpfkgkoaaGreat
section
set_option linter.unusedVariables false
set_option maxRecDepth 100000
set_option maxHeartbeats 16000000
def nq (a : Gi) : Int := a.re * a.re + a.im * a.im
theorem nsq_nonneg (x : Int) : 0 ≤ x * x := by
 rcases Int.le_total 0 x with h | h
 ·exact Int.mul_nonneg h h
 ·exact Int.mul_nonneg_of_nonpos_of_nonpos h h
theorem nq_nonneg (a : Gi) : 0 ≤ nq a := Int.add_nonneg (nsq_nonneg _) (nsq_nonneg _)
theorem nq_mul (a w : Gi) : nq (gmul a w) = nq a * nq w := by unfold nq gmul; grind
theorem nq_scale (n : Nat) (a : Gi) : nq (gscale n a) = nq a * (2 ^ n * 2 ^ n) := by unfold nq gscale; generalize (2 : Int) ^ n = t; grind
theorem nq_add (a b : Gi) : nq (gadd a b) ≤ 2 * nq a + 2 * nq b := by
 have h1 := nsq_nonneg (a.re - b.re)
 have h2 := nsq_nonneg (a.im - b.im)
 unfold nq gadd
 simp only
 grind
def gles (a b : Gi) : Gi := ⟨a.re - b.re, a.im - b.im⟩
theorem nq_sub (a b : Gi) : nq (gles a b) ≤ 2 * nq a + 2 * nq b := by
 have h1 := nsq_nonneg (a.re + b.re)
 have h2 := nsq_nonneg (a.im + b.im)
 unfold nq gles
 simp only
 grind
theorem nq_turn (q : Int) (a : Gi) : nq (Gi.turn q a) = nq a := by
 unfold Gi.turn nq
 repeat' split
 all_goals first | (simp only; done) | (simp only; grind) | grind
theorem nq_add4 (a b c d : Gi) : nq (gadd (gadd (gadd a b) c) d) ≤ 4 * (nq a + nq b + nq c + nq d) := by
 have e : gadd (gadd (gadd a b) c) d = gadd (gadd a b) (gadd c d) := by unfold gadd; simp only [Gi.mk.injEq]; omega
 rw [e]
 have h1 := nq_add (gadd a b) (gadd c d)
 have h2 := nq_add a b
 have h3 := nq_add c d
 omega
theorem quad_nq (inv : Bool) (q : Int) (t0 t1 t2 t3 : Gi) : nq (quadSum inv q t0 t1 t2 t3) ≤ 4 * (nq t0 + nq t1 + nq t2 + nq t3) := by
 have := nq_add4 t0 (Gi.turn (turns1 inv q) t1) (Gi.turn (2 * q) t2) (Gi.turn (-(turns1 inv q)) t3)
 rw [nq_turn, nq_turn, nq_turn] at this
 exact this
theorem sq_lt (l x : Int) (hl : 0 ≤ l) (h : l < x) : l * l < x * x :=
 Int.lt_of_le_of_lt (Int.mul_le_mul_of_nonneg_left (Int.le_of_lt h) hl) (Int.mul_lt_mul_of_pos_right h (by omega))
theorem part_le (x l : Int) (hl : 0 ≤ l) (h : x * x ≤ l * l) : -l ≤ x ∧ x ≤ l := by
 constructor
 ·rcases Int.lt_or_le x (-l) with g | g
  ·exfalso
   have h1 : l * l < (-x) * (-x) := sq_lt l (-x) hl (by omega)
   rw [Int.neg_mul_neg] at h1
   omega
  ·exact g
 ·rcases Int.lt_or_le l x with g | g
  ·exfalso
   have h1 := sq_lt l x hl g
   omega
  ·exact g
theorem rnd_sq (z y P l : Int) (hP : 0 < P) (h1 : -P < z - y * P) (h2 : z - y * P < P) (hz : -(l * P) ≤ z ∧ z ≤ l * P) :
 (y * P) * (y * P) ≤ z * z + (2 * l + 1) * (P * P) ∧ z * z ≤ (y * P) * (y * P) + (2 * l + 3) * (P * P) := by
 obtain ⟨d, hd⟩ : ∃ d, d = z - y * P := ⟨_, rfl⟩
 have ey : y * P = z - d := by omega
 rw [← hd] at h1 h2
 rw [ey]
 clear ey hd
 have hl : 0 ≤ l * P := by omega
 have b1 : d * d ≤ P * P := by
  have := part_le
  rcases Int.le_total 0 d with g | g
  ·exact Int.mul_le_mul (by omega) (by omega) g (by omega)
  ·have := Int.mul_le_mul (show -d ≤ P by omega) (show -d ≤ P by omega) (by omega) (by omega)
   rwa [Int.neg_mul_neg] at this
 have b2 : -(l * (P * P)) ≤ z * d ∧ z * d ≤ l * (P * P) := by
  have h := mulG_bd z d (l * P) P hl hz ⟨by omega, by omega⟩;rw [Int.mul_assoc] at h
  exact h
 have b3 : 0 ≤ d * d := nsq_nonneg d
 generalize hq : P * P = q at *
 have e1 : (z - d) * (z - d) = z * z - 2 * (z * d) + d * d := by grind
 rw [e1]
 have e2 : (2 * l + 1) * q = 2 * (l * q) + q := by grind
 have e3 : (2 * l + 3) * q = 2 * (l * q) + 3 * q := by grind
 rw [e2, e3]
 generalize l * q = lq at *
 generalize z * z = zz at *
 generalize z * d = zd at *
 generalize d * d = dd at *
 constructor <;> omega
theorem grnd_nq (z : Gi) (n : Nat) (mo l Q : Int) (hm : mo = 0 ∨ mo = 1 ∨ mo = 2) (hl : 0 ≤ l) (h : nq z ≤ l * l * (2 ^ n * 2 ^ n)) :
 nq (grnd n mo z) * (2 ^ n * 2 ^ n) ≤ nq z + (4 * l + 2) * (2 ^ n * 2 ^ n) ∧ nq z ≤ nq (grnd n mo z) * (2 ^ n * 2 ^ n) + (4 * l + 6) * (2 ^ n * 2 ^ n) := by
 have hP := pow_pos2 n
 have r1 := rnd_off z.re n mo hm
 have r2 := rnd_off z.im n mo hm
 generalize (2 : Int) ^ n = P at *
 have e : l * l * (P * P) = l * P * (l * P) := by grind
 rw [e] at h
 have hlP : 0 ≤ l * P := Int.mul_nonneg hl (by omega)
 have z1 := nsq_nonneg z.re
 have z2 := nsq_nonneg z.im
 unfold nq at h
 have p1 := part_le z.re (l * P) hlP (by omega)
 have p2 := part_le z.im (l * P) hlP (by omega)
 have k1 := rnd_sq z.re (rnd z.re n mo) P l hP r1.1 r1.2.1 p1
 have k2 := rnd_sq z.im (rnd z.im n mo) P l hP r2.1 r2.2.1 p2
 have e1 : nq (grnd n mo z) * (P * P) = rnd z.re n mo * P * (rnd z.re n mo * P) + rnd z.im n mo * P * (rnd z.im n mo * P) := by unfold nq grnd; simp only; grind
 rw [e1]
 unfold nq
 have e2 : (4 * l + 2) * (P * P) = (2 * l + 1) * (P * P) + (2 * l + 1) * (P * P) := by grind
 have e3 : (4 * l + 6) * (P * P) = (2 * l + 3) * (P * P) + (2 * l + 3) * (P * P) := by grind
 rw [e2, e3]
 omega
theorem two_half15 (a b w z : Gi) (N mo : Int) (hm : mo = 0 ∨ mo = 1 ∨ mo = 2) (ha : nq a ≤ N) (hb : nq b ≤ N) (hw : nq w ≤ 67158025) (hN : N ≤ 805306368)
 (hz : nq z ≤ 2 * nq (gscale 13 a) + 2 * nq (gmul b w)) : nq (grnd (13 + 1) mo z) ≤ N + 16777216 := by
 have h0 := nq_nonneg a
 have h1 := nq_nonneg b
 have h2 := nq_nonneg w
 have hbw : nq b * nq w ≤ N * 67158025 := Int.mul_le_mul hb hw h2 (by omega)
 rw [nq_scale, nq_mul] at hz
 have e : (2 : Int) ^ 13 = 8192 := by decide
 rw [e] at hz
 have k := grnd_nq z (13 + 1) mo 32768 0 hm (by decide) (by
  rw [show (2 : Int) ^ (13 + 1) = 16384 by decide]
  omega)
 rw [show (2 : Int) ^ (13 + 1) = 16384 by decide] at k
 generalize nq (grnd (13 + 1) mo z) = y at *
 generalize nq b * nq w = bw at *
 omega
theorem four_half15 (inv : Bool) (q : Int) (a0 a1 a2 a3 w1 w2 w3 : Gi) (N mo : Int) (hm : mo = 0 ∨ mo = 1 ∨ mo = 2) (h0 : nq a0 ≤ N) (h1 : nq a1 ≤ N) (h2 : nq a2 ≤ N) (h3 : nq a3 ≤ N) (k1 : nq w1 ≤ 67158025) (k2 : nq w2 ≤ 67158025) (k3 : nq w3 ≤ 67158025) (hN : N ≤ 805306368) :
 nq (quadOut 13 2 mo inv q a0 a1 a2 a3 w1 w2 w3) ≤ N + 16777216 := by
 have n0 := nq_nonneg a0
 have n1 := nq_nonneg w1
 have n2 := nq_nonneg w2
 have n3 := nq_nonneg w3
 have b1 : nq a1 * nq w1 ≤ N * 67158025 := Int.mul_le_mul h1 k1 n1 (by omega)
 have b2 : nq a2 * nq w2 ≤ N * 67158025 := Int.mul_le_mul h2 k2 n2 (by omega)
 have b3 : nq a3 * nq w3 ≤ N * 67158025 := Int.mul_le_mul h3 k3 n3 (by omega)
 have hz := quad_nq inv q (gscale 13 a0) (gmul a1 w1) (gmul a2 w2) (gmul a3 w3)
 rw [nq_scale, nq_mul, nq_mul, nq_mul] at hz
 have e : (2 : Int) ^ 13 = 8192 := by decide
 rw [e] at hz
 unfold quadOut
 generalize quadSum inv q (gscale 13 a0) (gmul a1 w1) (gmul a2 w2) (gmul a3 w3) = z at *
 have k := grnd_nq z (13 + 2) mo 32768 0 hm (by decide) (by
  rw [show (2 : Int) ^ (13 + 2) = 32768 by decide]
  omega)
 rw [show (2 : Int) ^ (13 + 2) = 32768 by decide] at k
 generalize nq (grnd (13 + 2) mo z) = y at *
 generalize nq a1 * nq w1 = c1 at *
 generalize nq a2 * nq w2 = c2 at *
 generalize nq a3 * nq w3 = c3 at *
 omega
theorem pair_half15 (a b w : Gi) (N mo : Int) (hm : mo = 0 ∨ mo = 1 ∨ mo = 2) (ha : nq a ≤ N) (hb : nq b ≤ N) (hw : nq w ≤ 67158025) (hN : N ≤ 805306368) : nq (pairUp 13 1 mo a b w) ≤ N + 16777216 ∧ nq (pairDown 13 1 mo a b w) ≤ N + 16777216 :=
 ⟨two_half15 a b w (gadd (gscale 13 a) (gmul b w)) N mo hm ha hb hw hN (nq_add _ _), two_half15 a b w (gles (gscale 13 a) (gmul b w)) N mo hm ha hb hw hN (nq_sub _ _)⟩
theorem nq_in15 (a : Gi) (h : nq a ≤ 805306368) : (-32767 ≤ a.re ∧ a.re ≤ 32767) ∧ (-32767 ≤ a.im ∧ a.im ≤ 32767) := by
 have h1 := nsq_nonneg a.re
 have h2 := nsq_nonneg a.im
 unfold nq at h
 exact ⟨part_le a.re 32767 (by decide) (by omega), part_le a.im 32767 (by decide) (by omega)⟩
theorem two_half31 (a b w z : Gi) (N mo : Int) (hm : mo = 0 ∨ mo = 1 ∨ mo = 2) (ha : nq a ≤ N) (hb : nq b ≤ N) (hw : nq w ≤ 288230379372937225) (hN : N ≤ 3458764513820540928)
 (hz : nq z ≤ 2 * nq (gscale 29 a) + 2 * nq (gmul b w)) : nq (grnd (29 + 1) mo z) ≤ N + 72057594037927936 := by
 have h0 := nq_nonneg a
 have h1 := nq_nonneg b
 have h2 := nq_nonneg w
 have hbw : nq b * nq w ≤ N * 288230379372937225 := Int.mul_le_mul hb hw h2 (by omega)
 rw [nq_scale, nq_mul] at hz
 have e : (2 : Int) ^ 29 = 536870912 := by decide
 rw [e] at hz
 have k := grnd_nq z (29 + 1) mo 2147483648 0 hm (by decide) (by
  rw [show (2 : Int) ^ (29 + 1) = 1073741824 by decide]
  omega)
 rw [show (2 : Int) ^ (29 + 1) = 1073741824 by decide] at k
 generalize nq (grnd (29 + 1) mo z) = y at *
 generalize nq b * nq w = bw at *
 omega
theorem four_half31 (inv : Bool) (q : Int) (a0 a1 a2 a3 w1 w2 w3 : Gi) (N mo : Int) (hm : mo = 0 ∨ mo = 1 ∨ mo = 2) (h0 : nq a0 ≤ N) (h1 : nq a1 ≤ N) (h2 : nq a2 ≤ N) (h3 : nq a3 ≤ N) (k1 : nq w1 ≤ 288230379372937225) (k2 : nq w2 ≤ 288230379372937225) (k3 : nq w3 ≤ 288230379372937225) (hN : N ≤ 3458764513820540928) :
 nq (quadOut 29 2 mo inv q a0 a1 a2 a3 w1 w2 w3) ≤ N + 72057594037927936 := by
 have n0 := nq_nonneg a0
 have n1 := nq_nonneg w1
 have n2 := nq_nonneg w2
 have n3 := nq_nonneg w3
 have b1 : nq a1 * nq w1 ≤ N * 288230379372937225 := Int.mul_le_mul h1 k1 n1 (by omega)
 have b2 : nq a2 * nq w2 ≤ N * 288230379372937225 := Int.mul_le_mul h2 k2 n2 (by omega)
 have b3 : nq a3 * nq w3 ≤ N * 288230379372937225 := Int.mul_le_mul h3 k3 n3 (by omega)
 have hz := quad_nq inv q (gscale 29 a0) (gmul a1 w1) (gmul a2 w2) (gmul a3 w3)
 rw [nq_scale, nq_mul, nq_mul, nq_mul] at hz
 have e : (2 : Int) ^ 29 = 536870912 := by decide
 rw [e] at hz
 unfold quadOut
 generalize quadSum inv q (gscale 29 a0) (gmul a1 w1) (gmul a2 w2) (gmul a3 w3) = z at *
 have k := grnd_nq z (29 + 2) mo 2147483648 0 hm (by decide) (by
  rw [show (2 : Int) ^ (29 + 2) = 2147483648 by decide]
  omega)
 rw [show (2 : Int) ^ (29 + 2) = 2147483648 by decide] at k
 generalize nq (grnd (29 + 2) mo z) = y at *
 generalize nq a1 * nq w1 = c1 at *
 generalize nq a2 * nq w2 = c2 at *
 generalize nq a3 * nq w3 = c3 at *
 omega
theorem pair_half31 (a b w : Gi) (N mo : Int) (hm : mo = 0 ∨ mo = 1 ∨ mo = 2) (ha : nq a ≤ N) (hb : nq b ≤ N) (hw : nq w ≤ 288230379372937225) (hN : N ≤ 3458764513820540928) : nq (pairUp 29 1 mo a b w) ≤ N + 72057594037927936 ∧ nq (pairDown 29 1 mo a b w) ≤ N + 72057594037927936 :=
 ⟨two_half31 a b w (gadd (gscale 29 a) (gmul b w)) N mo hm ha hb hw hN (nq_add _ _), two_half31 a b w (gles (gscale 29 a) (gmul b w)) N mo hm ha hb hw hN (nq_sub _ _)⟩
theorem nq_in31 (a : Gi) (h : nq a ≤ 3458764513820540928) : (-2147483647 ≤ a.re ∧ a.re ≤ 2147483647) ∧ (-2147483647 ≤ a.im ∧ a.im ≤ 2147483647) := by
 have h1 := nsq_nonneg a.re
 have h2 := nsq_nonneg a.im
 unfold nq at h
 exact ⟨part_le a.re 2147483647 (by decide) (by omega), part_le a.im 2147483647 (by decide) (by omega)⟩
def AllN (N : Int) (xs : List Gi) : Prop := ∀ x ∈ xs, nq x ≤ N
theorem AllN.getD {N : Int} {xs : List Gi} (h : AllN N xs) (h0 : 0 ≤ N) (i : Nat) : nq (xs.getD i ⟨0, 0⟩) ≤ N := by
 rw [List.getD_eq_getElem?_getD]
 cases hx : xs[i]? with
 | none => simp [nq]; exact h0
 | some x => exact h x (List.mem_of_getElem? hx)
theorem AllN.root {N : Int} {ws : List Gi} (h : AllN N ws) (h0 : 0 ≤ N) (inv : Bool) (k : Nat) : nq (rootOf ws inv k) ≤ N := by
 unfold rootOf
 cases inv
 ·exact h.getD h0 k
 ·have := h.getD h0 k
  simp only [if_true];unfold Gi.conj nq at *
  simp only
  rw [Int.neg_mul_neg]
  exact this
theorem twoL_half15 (xs ws : List Gi) (h : Nat) (N mo : Int) (inv : Bool) (hm : mo = 0 ∨ mo = 1 ∨ mo = 2) (hx : AllN N xs) (hw : AllN 67158025 ws) (h0 : 0 ≤ N) (hN : N ≤ 805306368) : AllN (N + 16777216) (twoL xs ws h 13 1 mo inv) := by
 intro y hy
 obtain ⟨i, _, rfl⟩ := List.mem_map.1 hy
 unfold twoAt
 split
 ·exact (pair_half15 _ _ _ N mo hm (hx.getD h0 _) (hx.getD h0 _) (hw.root (by decide) inv _) hN).1
 ·exact (pair_half15 _ _ _ N mo hm (hx.getD h0 _) (hx.getD h0 _) (hw.root (by decide) inv _) hN).2
theorem fourL_half15 (xs ws : List Gi) (h : Nat) (N mo : Int) (inv : Bool) (hm : mo = 0 ∨ mo = 1 ∨ mo = 2) (hx : AllN N xs) (hw : AllN 67158025 ws) (h0 : 0 ≤ N) (hN : N ≤ 805306368) : AllN (N + 16777216) (fourL xs ws h 13 2 mo inv) := by
 intro y hy
 obtain ⟨i, _, rfl⟩ := List.mem_map.1 hy
 unfold fourAt
 exact four_half15 inv _ _ _ _ _ _ _ _ N mo hm (hx.getD h0 _) (hx.getD h0 _) (hx.getD h0 _) (hx.getD h0 _) (hw.root (by decide) inv _) (hw.root (by decide) inv _) (hw.root (by decide) inv _) hN
theorem twoL_half31 (xs ws : List Gi) (h : Nat) (N mo : Int) (inv : Bool) (hm : mo = 0 ∨ mo = 1 ∨ mo = 2) (hx : AllN N xs) (hw : AllN 288230379372937225 ws) (h0 : 0 ≤ N) (hN : N ≤ 3458764513820540928) : AllN (N + 72057594037927936) (twoL xs ws h 29 1 mo inv) := by
 intro y hy
 obtain ⟨i, _, rfl⟩ := List.mem_map.1 hy
 unfold twoAt
 split
 ·exact (pair_half31 _ _ _ N mo hm (hx.getD h0 _) (hx.getD h0 _) (hw.root (by decide) inv _) hN).1
 ·exact (pair_half31 _ _ _ N mo hm (hx.getD h0 _) (hx.getD h0 _) (hw.root (by decide) inv _) hN).2
theorem fourL_half31 (xs ws : List Gi) (h : Nat) (N mo : Int) (inv : Bool) (hm : mo = 0 ∨ mo = 1 ∨ mo = 2) (hx : AllN N xs) (hw : AllN 288230379372937225 ws) (h0 : 0 ≤ N) (hN : N ≤ 3458764513820540928) : AllN (N + 72057594037927936) (fourL xs ws h 29 2 mo inv) := by
 intro y hy
 obtain ⟨i, _, rfl⟩ := List.mem_map.1 hy
 unfold fourAt
 exact four_half31 inv _ _ _ _ _ _ _ _ N mo hm (hx.getD h0 _) (hx.getD h0 _) (hx.getD h0 _) (hx.getD h0 _) (hw.root (by decide) inv _) (hw.root (by decide) inv _) (hw.root (by decide) inv _) hN
theorem half_in (h u i n : Nat) (hn : n = 2 * h * u) (h1 : 1 ≤ h) (hi : i < n) (hr : i % (2 * h) < h) : i + h < n := by
 have hd := Nat.div_add_mod i (2 * h)
 have hc : i / (2 * h) < u := by
  rw [Nat.div_lt_iff_lt_mul (by omega)];rw [hn, Nat.mul_comm] at hi
  exact hi
 generalize i % (2 * h) = r at *
 generalize i / (2 * h) = c at *
 have h2 : 2 * h * (c + 1) ≤ 2 * h * u := Nat.mul_le_mul_left _ hc
 rw [Nat.mul_succ] at h2
 omega
theorem getD_mem (xs : List Gi) (i : Nat) (h : i < xs.length) : xs.getD i ⟨0, 0⟩ ∈ xs := by
 rw [List.getD_eq_getElem?_getD, List.getElem?_eq_getElem h]
 exact List.getElem_mem h
theorem bd_root (T : Int) (ws : List Gi) (inv : Bool) (k : Nat) (h0 : 0 ≤ T) (h : ∀ w ∈ ws, Bd T w) : Bd T (rootOf ws inv k) := by
 have hg : Bd T (ws.getD k ⟨0, 0⟩) := by
  rw [List.getD_eq_getElem?_getD]
  cases hx : ws[k]? with
  | none => exact Bd.mk (by simp; omega)
  | some x => exact h x (List.mem_of_getElem? hx)
 unfold rootOf
 cases inv
 ·exact hg
 ·have := hg.le
  simp only [if_true];unfold Gi.conj
  exact Bd.mk (by simp only; omega)
theorem pair_grow (bits s : Nat) (mo m : Int) (a b w : Gi) (hm : mo = 0 ∨ mo = 1 ∨ mo = 2) (h0 : 0 ≤ m) (ha : Bd m a) (hb : Bd m b) (hw : Bd (2 ^ bits) w) :
 (∀ y, y = pairUp bits s mo a b w ∨ y = pairDown bits s mo a b w → (absI y.re - 1) * 2 ^ s ≤ 3 * m ∧ (absI y.im - 1) * 2 ^ s ≤ 3 * m) := by
 have hp := Bd.mul hb hw
 have p1 := part_grow a.re (gmul b w).re m bits s mo hm ha.1 hp.1 h0
 have p2 := part_grow a.im (gmul b w).im m bits s mo hm ha.2 hp.2 h0
 intro y hy
 rcases hy with rfl | rfl
 ·exact ⟨p1.1, p2.1⟩
 ·exact ⟨p1.2, p2.2⟩
theorem twoL_all (xs ws : List Gi) (h u bits s : Nat) (mo : Int) (inv : Bool) (Q : Gi → Prop) (hn : xs.length = 2 * h * u) (h1 : 1 ≤ h)
 (hpair : ∀ a b k y, a ∈ xs → b ∈ xs → (y = pairUp bits s mo a b (rootOf ws inv k) ∨ y = pairDown bits s mo a b (rootOf ws inv k)) → Q y) : ∀ y ∈ twoL xs ws h bits s mo inv, Q y := by
 intro y hy
 obtain ⟨i, hi, rfl⟩ := List.mem_map.1 hy
 have hi := List.mem_range.1 hi
 unfold twoAt
 split
 ·rename_i hr
  exact hpair _ _ _ _ (getD_mem xs i hi) (getD_mem xs (i + h) (half_in h u i xs.length hn h1 hi hr)) (.inl rfl)
 ·rename_i hr
  have hge : h ≤ i := Nat.le_trans (Nat.le_of_not_lt hr) (Nat.mod_le _ _)
  exact hpair _ _ _ _ (getD_mem xs (i - h) (by omega)) (getD_mem xs i hi) (.inr rfl)
theorem Bd.getD {m : Int} {xs : List Gi} (h : ∀ x ∈ xs, Bd m x) (h0 : 0 ≤ m) (i : Nat) : Bd m (xs.getD i ⟨0, 0⟩) := by
 rw [List.getD_eq_getElem?_getD]
 cases hx : xs[i]? with
 | none => exact Bd.mk (by simp; omega)
 | some x => exact h x (List.mem_of_getElem? hx)
theorem fourL_grow (xs ws : List Gi) (h bits s : Nat) (mo m : Int) (inv : Bool) (hmo : mo = 0 ∨ mo = 1 ∨ mo = 2) (h0 : 0 ≤ m) (hb : ∀ x ∈ xs, Bd m x) (hw : ∀ w ∈ ws, Bd (2 ^ bits) w) : ∀ y ∈ fourL xs ws h bits s mo inv, (absI y.re - 1) * 2 ^ s ≤ 7 * m ∧ (absI y.im - 1) * 2 ^ s ≤ 7 * m := by
 intro y hy
 obtain ⟨i, hi, rfl⟩ := List.mem_map.1 hy
 have h2 := pow_pos2 bits
 unfold fourAt
 exact quad_grow bits s mo inv _ m _ _ _ _ _ _ _ hmo (Bd.getD hb h0 _) (Bd.getD hb h0 _) (Bd.getD hb h0 _) (Bd.getD hb h0 _) (bd_root _ ws inv _ (by omega) hw) (bd_root _ ws inv _ (by omega) hw) (bd_root _ ws inv _ (by omega) hw)
end
section
set_option maxHeartbeats 16000000
def arcN : Nat → Nat → Nat → Nat → Nat
 | 0, _, _, _ => 0
 | f + 1, n, p, d => if p = 0 then 0 else p / d - arcN f n (p / n / n) (d + 2)
def arcOf (n : Nat) : Nat := arcN 40 n (72057594037927936 / n) 1
theorem arcN_zero (f n d : Nat) : arcN f n 0 d = 0 := by
 cases f with
 | zero => rfl
 | succ f => simp [arcN]
end
section
def arcP (n : Nat) : Nat → Nat
 | 0 => 72057594037927936 / n
 | j + 1 => arcP n j / n / n
def arcM (n j : Nat) : Nat := arcP n j / (2 * j + 1)
def arcT (n j : Nat) : Int := if j % 2 = 1 then -(arcM n j : Int) else (arcM n j : Int)
def arcS (n : Nat) : Nat → Int
 | 0 => 0
 | k + 1 => arcS n k + arcT n k
theorem arcP_le (n j : Nat) (h : 2 ≤ n) : arcP n (j + 1) * 4 ≤ arcP n j := by
 rw [arcP, Nat.div_div_eq_div_mul]
 have h1 : 2 * 2 ≤ n * n := Nat.mul_le_mul h h
 have h2 := Nat.div_mul_le_self (arcP n j) (n * n)
 have h3 : arcP n j / (n * n) * 4 ≤ arcP n j / (n * n) * (n * n) := Nat.mul_le_mul_left _ h1
 omega
theorem arcP_bd (n j : Nat) (h : 2 ≤ n) : arcP n j * 4 ^ j ≤ 36028797018963968 := by
 induction j with
 | zero =>
   rw [arcP, Nat.pow_zero, Nat.mul_one]
   exact Nat.div_le_div_left h (by decide)
 | succ j ih =>
   have h1 := arcP_le n j h
   have h2 : arcP n (j + 1) * 4 ^ (j + 1) = arcP n (j + 1) * 4 * 4 ^ j := by rw [Nat.pow_succ, Nat.mul_assoc, Nat.mul_comm (4 ^ j) 4]
   have h3 : arcP n (j + 1) * 4 * 4 ^ j ≤ arcP n j * 4 ^ j := Nat.mul_le_mul_right _ h1
   omega
theorem arcP_28 (n : Nat) (h : 2 ≤ n) : arcP n 28 = 0 := by
 have h1 := arcP_bd n 28 h
 have e : (4 : Nat) ^ 28 = 72057594037927936 := by decide
 rw [e] at h1
 omega
theorem arcP_top (n j : Nat) (h : 2 ≤ n) : arcP n j ≤ 36028797018963968 := by
 induction j with
 | zero => have := arcP_bd n 0 h; simpa using this
 | succ j ih => have := arcP_le n j h; omega
theorem arcP_zero (n j k : Nat) (h : 2 ≤ n) (hj : j ≤ k) (h0 : arcP n j = 0) : arcP n k = 0 := by
 induction k with
 | zero => rw [show j = 0 by omega] at h0; exact h0
 | succ k ih =>
   by_cases e : j = k + 1
   ·rw [← e]; exact h0
   ·have := ih (by omega)
    have := arcP_le n k h
    omega
theorem arcP_live (n j : Nat) (h : 2 ≤ n) (h0 : 0 < arcP n j) : j < 28 := by
 by_cases hj : j < 28
 ·exact hj
 ·have := arcP_zero n 28 j h (by omega) (arcP_28 n h)
  omega
theorem arcM_le (n j : Nat) (h : 2 ≤ n) : arcM n (j + 1) ≤ arcM n j := by
 have h1 := arcP_le n j h
 unfold arcM
 exact Nat.le_trans (Nat.div_le_div_right (c := 2 * (j + 1) + 1) (show arcP n (j + 1) ≤ arcP n j by omega)) (Nat.div_le_div_left (by omega) (by omega))
theorem arcN_le (f n p d : Nat) : arcN f n p d ≤ p / d := by
 cases f with
 | zero => simp [arcN]
 | succ f =>
   rw [arcN]
   split
   ·exact Nat.zero_le _
   ·exact Nat.sub_le _ _
theorem arcN_succ (f n j : Nat) (h : 2 ≤ n) : (arcN (f + 1) n (arcP n j) (2 * j + 1) : Int) = (arcM n j : Int) - (arcN f n (arcP n (j + 1)) (2 * (j + 1) + 1) : Int) := by
 have hl := arcN_le f n (arcP n (j + 1)) (2 * (j + 1) + 1)
 have hm := arcM_le n j h
 rw [arcN]
 split
 ·rename_i h0
  have h1 : arcP n (j + 1) = 0 := arcP_zero n j (j + 1) h (by omega) h0
  rw [h1, arcN_zero, arcM, h0]
  simp
 ·have e : arcP n (j + 1) = arcP n j / n / n := rfl
  rw [← e, show 2 * j + 1 + 2 = 2 * (j + 1) + 1 by omega, arcM];rw [arcM, arcM] at hm
  omega
theorem arc_rest (n k f : Nat) (h : 2 ≤ n) : arcS n k + (if k % 2 = 1 then -(arcN f n (arcP n k) (2 * k + 1) : Int) else (arcN f n (arcP n k) (2 * k + 1) : Int)) = (arcN (f + k) n (arcP n 0) 1 : Int) := by
 induction k generalizing f with
 | zero => simp [arcS]
 | succ k ih =>
   have e := arcN_succ f n k h;have i := ih (f + 1);rw [show f + (k + 1) = f + 1 + k by omega, ← i, e, arcS, arcT]
   by_cases hk : k % 2 = 1
   ·rw [if_pos hk, if_neg (by omega), if_pos hk]; omega
   ·rw [if_neg hk, if_pos (by omega), if_neg hk]; omega
theorem arcS_all (n k : Nat) (h : 2 ≤ n) (hk : k ≤ 40) (h0 : arcP n k = 0) : arcS n k = (arcOf n : Int) := by
 have r := arc_rest n k (40 - k) h
 rw [h0, arcN_zero, show 40 - k + k = 40 by omega] at r
 rw [arcOf, ← show arcP n 0 = 72057594037927936 / n from rfl, ← r]
 by_cases hk : k % 2 = 1
 ·rw [if_pos hk]; simp
 ·rw [if_neg hk]; simp
theorem arcS_bd (n k : Nat) (h : 2 ≤ n) : 0 ≤ arcS n k ∧ arcS n k ≤ 36028797018963968 := by
 have r1 := arc_rest n k 0 h
 have r := arc_rest n k 40 h
 have t := arcN_le (40 + k) n (arcP n 0) 1
 have t0 := arcP_top n 0 h
 have lk := arcN_le 40 n (arcP n k) (2 * k + 1)
 by_cases hk : k % 2 = 1
 ·rw [if_pos hk] at r1 r
  simp only [arcN] at r1;have t1 := arcN_le (0 + k) n (arcP n 0) 1;rw [Nat.div_one] at t1 t
  omega
 ·rw [if_neg hk] at r1 r
  simp only [arcN] at r1;have t1 := arcN_le (0 + k) n (arcP n 0) 1;rw [Nat.div_one] at t1 t
  omega
theorem arcM_top (n j : Nat) (h : 2 ≤ n) : arcM n j ≤ 36028797018963968 :=
 Nat.le_trans (Nat.div_le_self _ _) (arcP_top n j h)
end
end Go.Proofs.YtdignnmpfkgkoaaGreat
