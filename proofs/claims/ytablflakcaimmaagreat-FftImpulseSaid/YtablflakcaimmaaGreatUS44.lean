import Derived.Test.YtablflakcaimmaaGreatUS36
namespace Go.Proofs.YtablflakcaimmaaGreat
section
open Go.ChangeShapes Go.WideShapes Go.ChangeAt Go.RowKit
set_option linter.unusedVariables false
set_option linter.unusedSimpArgs false
set_option maxRecDepth 100000
def z0 : Gi := ⟨0, 0⟩
def times (m : Nat) (a : Gi) : Gi := ⟨m * a.re, m * a.im⟩
def impF (m n : Nat) (a : Gi) : List Gi := (List.range n).map fun i => if i < m then a else z0
def sumF (m n : Nat) (a : Gi) : List Gi := (List.range n).map fun i => if i % m = 0 then times m a else z0
theorem imp_len (m n : Nat) (a : Gi) : (impF m n a).length = n := by simp [impF]
theorem sum_len (m n : Nat) (a : Gi) : (sumF m n a).length = n := by simp [sumF]
theorem imp_get (m n : Nat) (a : Gi) (i : Nat) : (impF m n a).getD i ⟨0, 0⟩ = if i < n ∧ i < m then a else z0 := by
 unfold impF
 rw [List.getD_eq_getElem?_getD, List.getElem?_map]
 by_cases h : i < n
 ·rw [List.getElem?_range h]
  simp [h]
 ·rw [List.getElem?_eq_none (by simp; omega)]
  simp [h, z0]
theorem sum_get (m n : Nat) (a : Gi) (i : Nat) (h : i < n) : (sumF m n a).getD i ⟨0, 0⟩ = if i % m = 0 then times m a else z0 := by
 unfold sumF
 rw [List.getD_eq_getElem?_getD, List.getElem?_map, List.getElem?_range h]
 rfl
theorem rnd_up (x : Int) (n : Nat) (mo : Int) (hm : mo = 0 ∨ mo = 1 ∨ mo = 2) : rnd (x * 2 ^ n) n mo = x := rnd_mul x n mo hm
theorem gmul_z (w : Gi) : gmul z0 w = z0 := by simp [gmul, z0]
theorem gmul_p (a : Gi) (bits : Nat) : gmul a ⟨2 ^ bits, 0⟩ = gscale bits a := by simp [gmul, gscale]
theorem padd_z (bits : Nat) (mo : Int) (hm : mo = 0 ∨ mo = 1 ∨ mo = 2) (a : Gi) : padd bits (bits + 0) mo a z0 = a := by
 unfold padd
 simp only [z0, Int.add_zero, Nat.add_zero, rnd_up _ _ _ hm]
theorem psub_z (bits : Nat) (mo : Int) (hm : mo = 0 ∨ mo = 1 ∨ mo = 2) (a : Gi) : psub bits (bits + 0) mo a z0 = a := by
 unfold psub
 simp only [z0, Int.sub_zero, Nat.add_zero, rnd_up _ _ _ hm]
theorem padd_two (bits : Nat) (mo : Int) (hm : mo = 0 ∨ mo = 1 ∨ mo = 2) (m : Nat) (a : Gi) : padd bits (bits + 0) mo (times m a) (gscale bits (times m a)) = times (2 * m) a := by
 unfold padd
 simp only [gscale, times, Nat.add_zero, ← Int.add_mul, rnd_up _ _ _ hm]
 congr 1 <;> grind
theorem psub_two (bits : Nat) (mo : Int) (hm : mo = 0 ∨ mo = 1 ∨ mo = 2) (a : Gi) : psub bits (bits + 0) mo a (gscale bits a) = z0 := by
 unfold psub
 simp only [gscale, Int.sub_self, Nat.add_zero, z0]
 have := rnd_up 0 bits mo hm
 rw [Int.zero_mul] at this
 rw [this]
theorem two_imp (n h u : Nat) (hn : n = 2 * h * u) (h1 : 1 ≤ h) (ws : List Gi) (bits : Nat) (mo : Int) (hm : mo = 0 ∨ mo = 1 ∨ mo = 2) (inv : Bool) (a : Gi) : twoL (impF h n a) ws h bits 0 mo inv = impF (2 * h) n a := by
 unfold twoL
 rw [imp_len]
 conv => rhs; unfold impF
 apply List.map_congr_left
 intro i hi
 rw [List.mem_range] at hi
 unfold twoAt
 rw [imp_len]
 have hd := Nat.mod_lt i (show 0 < 2 * h by omega)
 have hdm := Nat.div_add_mod i (2 * h)
 split
 ·rename_i hc
  rw [imp_get h n a (i + h), if_neg (by omega)]
  unfold pairUp
  rw [gmul_z, padd_z _ _ hm, imp_get]
  by_cases hi2 : i < 2 * h
  ·rw [Nat.mod_eq_of_lt hi2] at hc
   rw [if_pos ⟨hi, hc⟩, if_pos hi2]
  ·rw [if_neg (by omega), if_neg hi2]
 ·rename_i hc
  have hih : h ≤ i := by
   have := Nat.mod_le i (2 * h)
   omega
  rw [imp_get h n a i, if_neg (by omega)]
  unfold pairDown
  rw [gmul_z, psub_z _ _ hm, imp_get]
  by_cases hi2 : i < 2 * h
  ·rw [if_pos (by omega), if_pos hi2]
  ·rw [if_neg (by omega), if_neg hi2]
theorem mod_up (i h q r : Nat) (e : i = h * q + r) (hr : r < h) : i % h = r := by rw [e, Nat.mul_add_mod]; exact Nat.mod_eq_of_lt hr
theorem two_sum {inv : Bool} (n h u : Nat) (hn : n = 2 * h * u) (h1 : 1 ≤ h) (ws : List Gi) (bits : Nat) (hw : rootOf ws inv 0 = ⟨2 ^ bits, 0⟩) (mo : Int) (hm : mo = 0 ∨ mo = 1 ∨ mo = 2) (a : Gi) : twoL (sumF h n a) ws h bits 0 mo inv = sumF (2 * h) n a := by
 unfold twoL
 rw [sum_len]
 conv => rhs; unfold sumF
 apply List.map_congr_left
 intro i hi
 rw [List.mem_range] at hi
 unfold twoAt
 rw [sum_len]
 have hd := Nat.mod_lt i (show 0 < 2 * h by omega)
 have hdm := Nat.div_add_mod i (2 * h)
 generalize hq : i / (2 * h) = q at hdm
 generalize hk : i % (2 * h) = k at hd hdm
 have e2 : 2 * h * q = h * (2 * q) := by rw [Nat.mul_comm 2 h, Nat.mul_assoc]
 have hqu : q < u := by
  apply Classical.byContradiction
  intro hc
  have : 2 * h * u ≤ 2 * h * q := Nat.mul_le_mul_left _ (by omega)
  omega
 have hle : 2 * h * q + 2 * h ≤ n := by
  have : 2 * h * (q + 1) ≤ 2 * h * u := Nat.mul_le_mul_left _ hqu
  rw [Nat.mul_add] at this
  omega
 split
 ·rename_i hc
  have m1 : i % h = k := mod_up i h (2 * q) k (by omega) hc
  have m2 : (i + h) % h = k := by rw [Nat.add_mod_right]; exact m1
  rw [sum_get h n a (i + h) (by omega), sum_get h n a i hi, m1, m2]
  unfold pairUp
  by_cases h0 : k = 0
  ·subst h0
   simp only [if_true, Nat.zero_mul]
   rw [hw, gmul_p, padd_two _ _ hm]
  ·rw [if_neg h0, if_neg h0, gmul_z, padd_z _ _ hm]
 ·rename_i hc
  have m1 : i % h = k - h := mod_up i h (2 * q + 1) (k - h) (by rw [Nat.mul_add]; omega) (by omega)
  have m2 : (i - h) % h = k - h := mod_up (i - h) h (2 * q) (k - h) (by omega) (by omega)
  rw [sum_get h n a i hi, sum_get h n a (i - h) (by omega), m1, m2]
  unfold pairDown
  rw [if_neg (show ¬ k = 0 by omega)]
  by_cases h0 : k - h = 0
  ·rw [h0]
   simp only [if_true, Nat.zero_mul]
   rw [hw, gmul_p, psub_two _ _ hm]
  ·rw [if_neg h0, gmul_z, psub_z _ _ hm]
theorem imp_grnd (bits : Nat) (mo : Int) (hm : mo = 0 ∨ mo = 1 ∨ mo = 2) (a : Gi) : grnd (bits + 0) mo (gscale bits a) = a := by
 unfold grnd gscale
 simp only [Nat.add_zero, rnd_up _ _ _ hm]
theorem turn_z (q : Int) : Gi.turn q z0 = z0 := by
 unfold Gi.turn z0
 repeat' split
 all_goals rfl
theorem gadd_z (a : Gi) : gadd a z0 = a := by simp [gadd, z0]
theorem quad_z (bits : Nat) (mo : Int) (hm : mo = 0 ∨ mo = 1 ∨ mo = 2) (inv : Bool) (q : Int) (a w1 w2 w3 : Gi) : quadOut bits 0 mo inv q a z0 z0 z0 w1 w2 w3 = a := by
 unfold quadOut quadSum
 rw [gmul_z, gmul_z, gmul_z, turn_z, turn_z, turn_z, gadd_z, gadd_z, gadd_z, imp_grnd _ _ hm]
theorem imp_quad (bits : Nat) (mo : Int) (hm : mo = 0 ∨ mo = 1 ∨ mo = 2) (inv : Bool) (q : Nat) (hq : q < 4) (m : Nat) (a : Gi) (w : Gi) (hw : w = ⟨2 ^ bits, 0⟩) :
 quadOut bits 0 mo inv (q : Int) (times m a) (times m a) (times m a) (times m a) w w w = if q = 0 then times (4 * m) a else z0 := by
 subst hw
 unfold quadOut
 rw [gmul_p]
 have e4 : quadSum inv 0 (gscale bits (times m a)) (gscale bits (times m a)) (gscale bits (times m a)) (gscale bits (times m a)) = gscale bits (times (4 * m) a) := by
  cases inv <;> simp only [quadSum, turns1, Gi.turn, gadd, gscale, times] <;> simp <;> constructor <;> grind
 have ez : gscale bits z0 = z0 := by simp [gscale, z0]
 have e0 : q ≠ 0 → quadSum inv q (gscale bits (times m a)) (gscale bits (times m a)) (gscale bits (times m a)) (gscale bits (times m a)) = gscale bits z0 := by
  intro h0
  rw [ez]
  generalize gscale bits (times m a) = t
  have hc : q = 1 ∨ q = 2 ∨ q = 3 := by omega
  obtain ⟨x, y⟩ := t
  rcases hc with rfl | rfl | rfl <;> cases inv <;> simp [quadSum, turns1, Gi.turn, gadd, z0] <;> constructor <;> omega
 by_cases h0 : q = 0
 ·subst h0
  rw [if_pos rfl]
  exact (congrArg _ e4).trans (imp_grnd _ _ hm _)
 ·rw [if_neg h0, e0 h0, imp_grnd _ _ hm]
theorem four_parts (n h u i : Nat) (hn : n = 4 * h * u) (h1 : 1 ≤ h) (hi : i < n) : ∃ q c j, i - i % (4 * h) = 4 * h * q ∧ i % h = j ∧ j < h ∧ c < 4 ∧ i = 4 * h * q + (h * c + j) ∧ (i - (i - i % (4 * h))) / h = c ∧ 4 * h * q + 4 * h ≤ n := by
 have hd := Nat.mod_lt i (show 0 < 4 * h by omega)
 have hdm := Nat.div_add_mod i (4 * h)
 have hd2 := Nat.mod_lt (i % (4 * h)) (show 0 < h by omega)
 have hdm2 := Nat.div_add_mod (i % (4 * h)) h
 generalize i / (4 * h) = q at hdm
 generalize i % (4 * h) = k at hd hdm hd2 hdm2 ⊢
 generalize hc : k / h = c at hdm2
 generalize k % h = j at hd2 hdm2
 have hc4 : c < 4 := by
  apply Classical.byContradiction
  intro hcc
  have : h * 4 ≤ h * c := Nat.mul_le_mul_left _ (by omega)
  omega
 have e2 : 4 * h * q = h * (4 * q) := by rw [Nat.mul_comm 4 h, Nat.mul_assoc]
 have hqu : q < u := by
  apply Classical.byContradiction
  intro hcc
  have : 4 * h * u ≤ 4 * h * q := Nat.mul_le_mul_left _ (by omega)
  omega
 have hle : 4 * h * q + 4 * h ≤ n := by
  have : 4 * h * (q + 1) ≤ 4 * h * u := Nat.mul_le_mul_left _ hqu
  rw [Nat.mul_add] at this
  omega
 refine ⟨q, c, j, by omega, mod_up i h (4 * q + c) j (by rw [Nat.mul_add]; omega) hd2, hd2, hc4, by omega, ?_, hle⟩
 rw [show i - (i - k) = k by omega]
 exact hc
theorem four_imp (n h u : Nat) (hn : n = 4 * h * u) (h1 : 1 ≤ h) (ws : List Gi) (bits : Nat) (mo : Int) (hm : mo = 0 ∨ mo = 1 ∨ mo = 2) (inv : Bool) (a : Gi) : fourL (impF h n a) ws h bits 0 mo inv = impF (4 * h) n a := by
 unfold fourL
 rw [imp_len]
 conv => rhs; unfold impF
 apply List.map_congr_left
 intro i hi
 rw [List.mem_range] at hi
 obtain ⟨q, c, j, e1, e2, e3, e4, e5, e6, e7⟩ := four_parts n h u i hn h1 hi
 unfold fourAt
 simp only [imp_get, imp_len]
 rw [e1, e2, if_neg (show ¬ (4 * h * q + 2 * h + j < n ∧ 4 * h * q + 2 * h + j < h) by omega), if_neg (show ¬ (4 * h * q + h + j < n ∧ 4 * h * q + h + j < h) by omega), if_neg (show ¬ (4 * h * q + 3 * h + j < n ∧ 4 * h * q + 3 * h + j < h) by omega), quad_z _ _ hm]
 have hcj : h * c + j < 4 * h := by
  have : h * c ≤ h * 3 := Nat.mul_le_mul_left _ (by omega)
  omega
 by_cases hq : q = 0
 ·subst hq
  rw [if_pos (by omega), if_pos (by omega)]
 ·have : 4 * h * 1 ≤ 4 * h * q := Nat.mul_le_mul_left _ (by omega)
  rw [if_neg (by omega), if_neg (by omega)]
theorem four_sum (n h u : Nat) (hn : n = 4 * h * u) (h1 : 1 ≤ h) (ws : List Gi) (bits : Nat) (inv : Bool) (hw : rootOf ws inv 0 = ⟨2 ^ bits, 0⟩) (mo : Int) (hm : mo = 0 ∨ mo = 1 ∨ mo = 2) (a : Gi) : fourL (sumF h n a) ws h bits 0 mo inv = sumF (4 * h) n a := by
 unfold fourL
 rw [sum_len]
 conv => rhs; unfold sumF
 apply List.map_congr_left
 intro i hi
 rw [List.mem_range] at hi
 obtain ⟨q, c, j, e1, e2, e3, e4, e5, e6, e7⟩ := four_parts n h u i hn h1 hi
 have hcj : h * c + j < 4 * h := by
  have : h * c ≤ h * 3 := Nat.mul_le_mul_left _ (by omega)
  omega
 have g0 : 4 * h * q = h * (4 * q) := by rw [Nat.mul_comm 4 h, Nat.mul_assoc]
 have mi : i % (4 * h) = h * c + j := mod_up i (4 * h) q _ e5 hcj
 have m0 : (4 * h * q + j) % h = j := mod_up _ h (4 * q) j (by omega) e3
 have m1 : (4 * h * q + 2 * h + j) % h = j := mod_up _ h (4 * q + 2) j (by rw [Nat.mul_add]; omega) e3
 have m2 : (4 * h * q + h + j) % h = j := mod_up _ h (4 * q + 1) j (by rw [Nat.mul_add]; omega) e3
 have m3 : (4 * h * q + 3 * h + j) % h = j := mod_up _ h (4 * q + 3) j (by rw [Nat.mul_add]; omega) e3
 unfold fourAt
 simp only [sum_len]
 rw [e6, e1, e2, sum_get h n a _ (by omega), sum_get h n a _ (by omega), sum_get h n a _ (by omega), sum_get h n a _ (by omega), m0, m1, m2, m3, mi]
 by_cases h0 : j = 0
 ·subst h0
  simp only [if_true, Nat.zero_mul, Nat.mul_zero, Nat.add_zero]
  rw [hw, imp_quad _ _ hm inv c e4 h a _ rfl]
  by_cases hc : c = 0
  ·subst hc
   simp
  ·rw [if_neg hc, if_neg (by
    intro e
    rcases Nat.mul_eq_zero.1 e with e | e <;> omega)]
 ·rw [if_neg h0, quad_z _ _ hm, if_neg (by omega)]
def chainB (n : Nat) : List Gi → Nat → Bool
 | [], h => h == n
 | q :: l, h => (q.im == (h : Int)) && ((q.re == 2 && n % (2 * h) == 0 && chainB n l (2 * h)) || (q.re == 4 && n % (4 * h) == 0 && chainB n l (4 * h)))
theorem passL_chain (ke lo : Int) (hk : ke = 0 ∨ ke = 1) (h0 : 2 ≤ lo) (h1 : lo < 7) : chainB (2 ^ lo.toNat) (passL ke lo) 1 = true := by
 have hl : lo = 2 ∨ lo = 3 ∨ lo = 4 ∨ lo = 5 ∨ lo = 6 := by omega
 rcases hk with rfl | rfl <;> rcases hl with rfl | rfl | rfl | rfl | rfl <;> decide +kernel
section
variable {p mo : Int} {iv : Bool} {B : Nat} {ws : List Gi}
theorem next_kept (b : BV) (q : Gi) (Y : List Gi) (hY : passV B mo iv ws b.X 0 q = Y) (hm : ManB p Y) (hs : b.sat = false) (he : b.ex = 0) :
 (nextB 2 mo p iv B ws b q).X = Y ∧ (nextB 2 mo p iv B ws b q).sat = false ∧ (nextB 2 mo p iv B ws b q).ex = 0 := by
 have e0 : shOf 2 q.re p b.X = 0 := rfl
 have e1 : stepV 2 p B mo iv ws b.X q = Y := by unfold stepV; rw [e0]; exact hY
 simp only [nextB, if_true, e0, e1, manB_id hm, hs, he, Bool.false_or]
 exact ⟨trivial, any_off.2 (manB_id hm), rfl⟩
theorem imp_mul_bd (m : Nat) (x : Int) (hm : m ≤ 64) (h0 : -499 ≤ x) (h1 : x ≤ 499) : -32768 ≤ (m : Int) * x ∧ (m : Int) * x ≤ 32767 := by
 have a := Int.mul_le_mul_of_nonneg_left h1 (show (0 : Int) ≤ m by omega)
 have b := Int.mul_le_mul_of_nonneg_left h0 (show (0 : Int) ≤ m by omega)
 omega
theorem man_imp (m n : Nat) (a : Gi) (hp : 32768 ≤ p) (h0 : -499 ≤ a.re ∧ a.re ≤ 499) (h1 : -499 ≤ a.im ∧ a.im ≤ 499) : ManB p (impF m n a) := by
 intro y hy
 obtain ⟨i, _, rfl⟩ := List.mem_map.1 hy
 split
 ·omega
 ·simp only [z0]; omega
theorem man_sum (m n : Nat) (a : Gi) (hm : m ≤ 64) (hp : 32768 ≤ p) (h0 : -499 ≤ a.re ∧ a.re ≤ 499) (h1 : -499 ≤ a.im ∧ a.im ≤ 499) : ManB p (sumF m n a) := by
 intro y hy
 obtain ⟨i, _, rfl⟩ := List.mem_map.1 hy
 have e0 := imp_mul_bd m a.re hm h0.1 h0.2
 have e1 := imp_mul_bd m a.im hm h1.1 h1.2
 split
 ·simp only [times]; omega
 ·simp only [z0]; omega
theorem fold_imp (n : Nat) (hm : mo = 0 ∨ mo = 1 ∨ mo = 2) (a : Gi) (hp : 32768 ≤ p) (h0 : -499 ≤ a.re ∧ a.re ≤ 499) (h1 : -499 ≤ a.im ∧ a.im ≤ 499) : ∀ (l : List Gi) (h : Nat) (b : BV), 1 ≤ h → chainB n l h = true → b.X = impF h n a → b.sat = false → b.ex = 0 →
 (l.foldl (nextB 2 mo p iv B ws) b).X = impF n n a ∧ (l.foldl (nextB 2 mo p iv B ws) b).sat = false ∧ (l.foldl (nextB 2 mo p iv B ws) b).ex = 0
 | [], h, b, _, hc, hX, hs, he => by
   have := eq_of_beq hc
   subst this
   exact ⟨hX, hs, he⟩
 | q :: l, h, b, hh, hc, hX, hs, he => by
   simp only [chainB, Bool.and_eq_true, Bool.or_eq_true, beq_iff_eq] at hc
   obtain ⟨hi, ⟨⟨e, e2⟩, e3⟩ | ⟨⟨e, e2⟩, e3⟩⟩ := hc
   ·have hn : n = 2 * h * (n / (2 * h)) := by have := Nat.div_add_mod n (2 * h); omega
    obtain ⟨f1, f2, f3⟩ := next_kept (p := p) (mo := mo) (iv := iv) (B := B) (ws := ws) b q (impF (2 * h) n a) (by
     unfold passV
     rw [if_neg (by omega), hi, hX]
     exact two_imp n h _ hn hh ws B mo hm iv a) (man_imp _ _ _ hp h0 h1) hs he
    rw [List.foldl_cons]
    exact fold_imp n hm a hp h0 h1 l (2 * h) _ (by omega) e3 f1 f2 f3
   ·have hn : n = 4 * h * (n / (4 * h)) := by have := Nat.div_add_mod n (4 * h); omega
    obtain ⟨f1, f2, f3⟩ := next_kept (p := p) (mo := mo) (iv := iv) (B := B) (ws := ws) b q (impF (4 * h) n a) (by
     unfold passV
     rw [if_pos e, hi, hX]
     exact four_imp n h _ hn hh ws B mo hm iv a) (man_imp _ _ _ hp h0 h1) hs he
    rw [List.foldl_cons]
    exact fold_imp n hm a hp h0 h1 l (4 * h) _ (by omega) e3 f1 f2 f3
theorem chain_le (n : Nat) (hn0 : 0 < n) : ∀ (l : List Gi) (h : Nat), 1 ≤ h → chainB n l h = true → h ≤ n
 | [], h, _, hc => Nat.le_of_eq (eq_of_beq hc)
 | q :: l, h, hh, hc => by
   simp only [chainB, Bool.and_eq_true, Bool.or_eq_true, beq_iff_eq] at hc
   obtain ⟨_, ⟨_, e3⟩ | ⟨_, e3⟩⟩ := hc
   ·have := chain_le n hn0 l _ (by omega) e3
    omega
   ·have := chain_le n hn0 l _ (by omega) e3
    omega
theorem fold_sum (n : Nat) (hn0 : 0 < n) (hn64 : n ≤ 64) (hw : rootOf ws iv 0 = ⟨2 ^ B, 0⟩) (hm : mo = 0 ∨ mo = 1 ∨ mo = 2) (a : Gi) (hp : 32768 ≤ p) (h0 : -499 ≤ a.re ∧ a.re ≤ 499) (h1 : -499 ≤ a.im ∧ a.im ≤ 499) : ∀ (l : List Gi) (h : Nat) (b : BV), 1 ≤ h → chainB n l h = true → b.X = sumF h n a → b.sat = false → b.ex = 0 →
 (l.foldl (nextB 2 mo p iv B ws) b).X = sumF n n a ∧ (l.foldl (nextB 2 mo p iv B ws) b).sat = false ∧ (l.foldl (nextB 2 mo p iv B ws) b).ex = 0
 | [], h, b, _, hc, hX, hs, he => by
   have := eq_of_beq hc
   subst this
   exact ⟨hX, hs, he⟩
 | q :: l, h, b, hh, hc, hX, hs, he => by
   simp only [chainB, Bool.and_eq_true, Bool.or_eq_true, beq_iff_eq] at hc
   obtain ⟨hi, ⟨⟨e, e2⟩, e3⟩ | ⟨⟨e, e2⟩, e3⟩⟩ := hc
   ·have hn : n = 2 * h * (n / (2 * h)) := by have := Nat.div_add_mod n (2 * h); omega
    have hle := chain_le n hn0 l (2 * h) (by omega) e3
    obtain ⟨f1, f2, f3⟩ := next_kept (p := p) (mo := mo) (iv := iv) (B := B) (ws := ws) b q (sumF (2 * h) n a) (by
     unfold passV
     rw [if_neg (by omega), hi, hX]
     exact two_sum n h _ hn hh ws B hw mo hm a) (man_sum _ _ _ (by omega) hp h0 h1) hs he
    rw [List.foldl_cons]
    exact fold_sum n hn0 hn64 hw hm a hp h0 h1 l (2 * h) _ (by omega) e3 f1 f2 f3
   ·have hn : n = 4 * h * (n / (4 * h)) := by have := Nat.div_add_mod n (4 * h); omega
    have hle := chain_le n hn0 l (4 * h) (by omega) e3
    obtain ⟨f1, f2, f3⟩ := next_kept (p := p) (mo := mo) (iv := iv) (B := B) (ws := ws) b q (sumF (4 * h) n a) (by
     unfold passV
     rw [if_pos e, hi, hX]
     exact four_sum n h _ hn hh ws B iv hw mo hm a) (man_sum _ _ _ (by omega) hp h0 h1) hs he
    rw [List.foldl_cons]
    exact fold_sum n hn0 hn64 hw hm a hp h0 h1 l (4 * h) _ (by omega) e3 f1 f2 f3
end
theorem fl_zero (L : Nat) (l2 : 2 ≤ L) (l6 : L ≤ 6) (k : Nat) (hk : k < 2 ^ L) : fl L k < 1 ↔ k < 1 := by
 have key : ([2, 3, 4, 5, 6].all fun L : Nat => (List.range (2 ^ L)).all fun k => decide (fl L k < 1) == decide (k < 1)) = true := by decide +kernel
 have h := List.all_eq_true.1 key L (by simp; omega)
 have h := List.all_eq_true.1 h k (List.mem_range.2 hk)
 have := eq_of_beq h
 exact decide_eq_decide.1 this
theorem flip_imp (L n : Nat) (l2 : 2 ≤ L) (l6 : L ≤ 6) (hn : n = 2 ^ L) (a : Gi) : flipL L (impF 1 n a) = impF 1 n a := by
 subst hn
 unfold flipL
 conv => rhs; unfold impF
 apply List.map_congr_left
 intro k hk
 rw [List.mem_range] at hk
 refine (imp_get 1 _ a _).trans ?_
 have := fl_zero L l2 l6 k hk
 have hf := fl_lt L k
 by_cases h : k < 1
 ·rw [if_pos ⟨hf, this.2 h⟩, if_pos h]
 ·rw [if_neg (fun e => h (this.1 e.2)), if_neg h]
theorem flip_all (L n : Nat) (hn : n = 2 ^ L) (a : Gi) : flipL L (impF n n a) = impF n n a := by
 subst hn
 unfold flipL
 conv => rhs; unfold impF
 apply List.map_congr_left
 intro k hk
 rw [List.mem_range] at hk
 refine (imp_get _ _ a _).trans ?_
 rw [if_pos ⟨fl_lt L k, fl_lt L k⟩, if_pos hk]
theorem sum_one (n : Nat) (a : Gi) : sumF 1 n a = impF n n a := by
 unfold sumF impF
 apply List.map_congr_left
 intro k hk
 rw [List.mem_range] at hk
 rw [if_pos (Nat.mod_one k), if_pos hk]
 simp [times]
theorem sh_none (mo : Int) (xs : List Gi) : xs.map (shG 0 mo) = xs := by
 have : shG 0 mo = id := by
  funext a
  unfold shG
  rw [if_pos (by decide)]
  simp only [show (0 : Int).toNat = 0 from rfl, rnd0]
  rfl
 rw [this, List.map_id]
theorem imp_run (fo lo ke mo : Int) (iv : Bool) (a : Gi) (n : Nat) (hk : okF fo lo ke 2 mo = true) (hke : ke = 0 ∨ ke = 1) (hn : n = 2 ^ lo.toNat) (h0 : -499 ≤ a.re ∧ a.re ≤ 499) (h1 : -499 ≤ a.im ∧ a.im ≤ 499) :
 ((runF fo lo ke 2 mo iv (impF 1 n a)).X = impF n n a ∧ (runF fo lo ke 2 mo iv (impF 1 n a)).sat = false) ∧ ((runF fo lo ke 2 mo iv (impF n n a)).X = sumF n n a ∧ (runF fo lo ke 2 mo iv (impF n n a)).sat = false) := by
 have H := plF_of hk
 obtain ⟨hmo, _⟩ := H.kinds
 obtain ⟨⟨l2, l6⟩, h4, hlen⟩ := H.lens
 have hp : 32768 ≤ oneB fo := by unfold oneB; split <;> omega
 have hf := okF_iff.1 hk
 have hc := passL_chain ke lo hke hf.1.2.1.1 hf.1.2.1.2
 have hw := roots_first ((2 ^ lo.toNat : Nat) : Int) hlen (if fo = 0 then 13 else 29) (by split <;> omega) iv
 subst hn
 have hk2 : ¬ ke = 2 := by omega
 simp only [runF, runB15, if_neg hk2, behindB, List.take_length]
 constructor
 ·obtain ⟨a1, a2, _⟩ := fold_imp (p := oneB fo) (mo := mo) (iv := iv) (B := if fo = 0 then 13 else 29) (ws := tw (2 ^ lo.toNat) (if fo = 0 then 13 else 29)) (2 ^ lo.toNat) hmo a hp h0 h1 (passL ke lo) 1 (readyB ke 2 mo (oneB fo) lo.toNat (impF 1 (2 ^ lo.toNat) a)) (Nat.le_refl _) hc
   (by unfold readyB; rw [if_neg (by omega)]; show (flipL _ _).map (shG 0 mo) = _; rw [sh_none, flip_imp lo.toNat _ l2 l6 rfl]) rfl rfl
  exact ⟨a1, a2⟩
 ·obtain ⟨a1, a2, _⟩ := fold_sum (p := oneB fo) (mo := mo) (iv := iv) (B := if fo = 0 then 13 else 29) (ws := tw (2 ^ lo.toNat) (if fo = 0 then 13 else 29)) (2 ^ lo.toNat) (by omega) h4.2 hw hmo a hp h0 h1 (passL ke lo) 1 (readyB ke 2 mo (oneB fo) lo.toNat (impF (2 ^ lo.toNat) (2 ^ lo.toNat) a)) (Nat.le_refl _) hc
   (by unfold readyB; rw [if_neg (by omega)]; show (flipL _ _).map (shG 0 mo) = _; rw [sh_none, flip_all lo.toNat _ rfl, sum_one]) rfl rfl
  exact ⟨a1, a2⟩
end
end Go.Proofs.YtablflakcaimmaaGreat
