import Derived.Test.YtdignnmpfkgkoaaGreatGS28
namespace Go.Proofs.YtdignnmpfkgkoaaGreat
section
open Go.ChangeShapes Go.WideShapes Go.ChangeAt Go.RowKit
set_option linter.unusedVariables false
set_option maxRecDepth 100000
def oneB (fo : Int) : Int := if fo = 0 then 32768 else 2147483648
def whyB (fo lo ke sc mo : Int) (op : Bool) (xs : List Gi) : Int := if okF fo lo ke sc mo = true then (if (xs.length : Int) = 2 ^ lo.toNat then (if partsB (-(oneB fo)) (if op = true then oneB fo else oneB fo - 1) xs = true then 0 else 2) else 3) else 4
theorem fb_of {fo lo ke sc mo : Int} (h : okF fo lo ke sc mo = true) : ∃ b, FB fo b (oneB fo) ∧ b = (if fo = 0 then 15 else 31) := by
 have hf := okF_iff.1 h
 have hc : fo = 0 ∨ fo = 1 := by omega
 rcases hc with rfl | rfl
 ·exact ⟨15, .inl ⟨rfl, rfl, rfl⟩, rfl⟩
 ·exact ⟨31, .inr ⟨rfl, rfl, rfl⟩, rfl⟩
theorem plF_of {fo lo ke sc mo : Int} (h : okF fo lo ke sc mo = true) : PlF fo (if fo = 0 then 15 else 31) (oneB fo) lo ke sc mo lo.toNat (2 ^ lo.toNat) (if fo = 0 then 13 else 29) := by
 have hf := okF_iff.1 h
 obtain ⟨b, hb, rfl⟩ := fb_of h
 refine ⟨hb, h, by omega, rfl, ?_⟩
 split <;> rfl
theorem why_yes {fo lo ke sc mo : Int} {op : Bool} {xs : List Gi} (h : whyB fo lo ke sc mo op xs = 0) : okF fo lo ke sc mo = true ∧ xs.length = 2 ^ lo.toNat ∧ partsB (-(oneB fo)) (if op = true then oneB fo else oneB fo - 1) xs = true := by
 unfold whyB at h
 by_cases h1 : okF fo lo ke sc mo = true
 ·rw [if_pos h1] at h
  by_cases h2 : (xs.length : Int) = 2 ^ lo.toNat
  ·rw [if_pos h2] at h
   by_cases h3 : partsB (-(oneB fo)) (if op = true then oneB fo else oneB fo - 1) xs = true
   ·exact ⟨h1, Int.ofNat.inj (by rw [Int.ofNat_eq_natCast, Int.ofNat_eq_natCast, h2]; simp), h3⟩
   ·rw [if_neg h3] at h
    cases h
  ·rw [if_neg h2] at h
   cases h
 ·rw [if_neg h1] at h
  cases h
def FftSaid (F : FuncId) (V : Int → Int → Int → Int → Int → Bool → List Gi → BV) : Prop :=
 (∀ (fo lo ke sc mo : Int) (iv : Bool) (v : Value) (xs : List Gi), whyB fo lo ke sc mo false xs = 0 → ∀ W, CxsAt W v xs → Calls Tryz.prog F #[v, .agg #[.int .i64 fo, .int .i64 lo, .int .i64 ke, .int .i64 sc, .int .i64 mo, .bool iv]] W fun e w' =>
  ∃ vx vs, e = .returned (.tuple #[.agg #[vx, .int .i64 (V fo lo ke sc mo iv xs).ex, .bool (V fo lo ke sc mo iv xs).sat, vs], .int .i64 0]) ∧ CxsAt w' vx (V fo lo ke sc mo iv xs).X ∧ NumsAt w' vs (V fo lo ke sc mo iv xs).sh ∧ Gr W w') ∧
 (∀ (fo lo ke sc mo : Int) (iv : Bool) (v : Value) (xs : List Gi) (y : Int), whyB fo lo ke sc mo false xs = y → y ≠ 0 → ∀ W, CxsAt W v xs → Calls Tryz.prog F #[v, .agg #[.int .i64 fo, .int .i64 lo, .int .i64 ke, .int .i64 sc, .int .i64 mo, .bool iv]] W fun e w' =>
  e = .returned (.tuple #[.agg #[.slice none 0 0, .int .i64 0, .bool false, .slice none 0 0], .int .i64 y]) ∧ Gr W w')
def runF (fo lo ke sc mo : Int) (iv : Bool) (xs : List Gi) : BV := runB15 ke lo sc mo (oneB fo) iv lo.toNat (if fo = 0 then 13 else 29) (tw (2 ^ lo.toNat) (if fo = 0 then 13 else 29)) xs
def readyF (fo lo ke sc mo : Int) (iv : Bool) (xs : List Gi) : BV := readyB ke sc mo (oneB fo) lo.toNat xs
end
section
open Go.ChangeShapes Go.WideShapes Go.ChangeAt Go.RowKit
set_option linter.unusedVariables false
set_option linter.unusedSimpArgs false
set_option maxRecDepth 100000
def z0 : Gi := ⟨0, 0⟩
def times (m : Nat) (a : Gi) : Gi := ⟨m * a.re, m * a.im⟩
def impF (m n : Nat) (a : Gi) : List Gi := (List.range n).map fun i => if i < m then a else z0
def sumF (m n : Nat) (a : Gi) : List Gi := (List.range n).map fun i => if i % m = 0 then times m a else z0
theorem sum_len (m n : Nat) (a : Gi) : (sumF m n a).length = n := by simp [sumF]
theorem imp_get (m n : Nat) (a : Gi) (i : Nat) : (impF m n a).getD i ⟨0, 0⟩ = if i < n ∧ i < m then a else z0 := by
 unfold impF
 rw [List.getD_eq_getElem?_getD, List.getElem?_map]
 by_cases h : i < n
 ·rw [List.getElem?_range h]
  simp [h]
 ·rw [List.getElem?_eq_none (by simp; omega)]
  simp [h, z0]
theorem sum_get (m n : Nat) (a : Gi) (i : Nat) (h : i < n) : (sumF m n a).getD i ⟨0, 0⟩ = if i % m = 0 then times m a else z0 := by
 unfold sumF
 rw [List.getD_eq_getElem?_getD, List.getElem?_map, List.getElem?_range h]
 rfl
theorem rnd_up (x : Int) (n : Nat) (mo : Int) (hm : mo = 0 ∨ mo = 1 ∨ mo = 2) : rnd (x * 2 ^ n) n mo = x := rnd_mul x n mo hm
theorem gmul_z (w : Gi) : gmul z0 w = z0 := by simp [gmul, z0]
theorem gmul_p (a : Gi) (bits : Nat) : gmul a ⟨2 ^ bits, 0⟩ = gscale bits a := by simp [gmul, gscale]
theorem padd_z (bits : Nat) (mo : Int) (hm : mo = 0 ∨ mo = 1 ∨ mo = 2) (a : Gi) : padd bits (bits + 0) mo a z0 = a := by
 unfold padd
 simp only [z0, Int.add_zero, Nat.add_zero, rnd_up _ _ _ hm]
theorem psub_z (bits : Nat) (mo : Int) (hm : mo = 0 ∨ mo = 1 ∨ mo = 2) (a : Gi) : psub bits (bits + 0) mo a z0 = a := by
 unfold psub
 simp only [z0, Int.sub_zero, Nat.add_zero, rnd_up _ _ _ hm]
theorem padd_two (bits : Nat) (mo : Int) (hm : mo = 0 ∨ mo = 1 ∨ mo = 2) (m : Nat) (a : Gi) : padd bits (bits + 0) mo (times m a) (gscale bits (times m a)) = times (2 * m) a := by
 unfold padd
 simp only [gscale, times, Nat.add_zero, ← Int.add_mul, rnd_up _ _ _ hm]
 congr 1 <;> grind
theorem psub_two (bits : Nat) (mo : Int) (hm : mo = 0 ∨ mo = 1 ∨ mo = 2) (a : Gi) : psub bits (bits + 0) mo a (gscale bits a) = z0 := by
 unfold psub
 simp only [gscale, Int.sub_self, Nat.add_zero, z0]
 have := rnd_up 0 bits mo hm
 rw [Int.zero_mul] at this
 rw [this]
theorem mod_up (i h q r : Nat) (e : i = h * q + r) (hr : r < h) : i % h = r := by rw [e, Nat.mul_add_mod]; exact Nat.mod_eq_of_lt hr
theorem two_sum {inv : Bool} (n h u : Nat) (hn : n = 2 * h * u) (h1 : 1 ≤ h) (ws : List Gi) (bits : Nat) (hw : rootOf ws inv 0 = ⟨2 ^ bits, 0⟩) (mo : Int) (hm : mo = 0 ∨ mo = 1 ∨ mo = 2) (a : Gi) : twoL (sumF h n a) ws h bits 0 mo inv = sumF (2 * h) n a := by
 unfold twoL
 rw [sum_len]
 conv => rhs; unfold sumF
 apply List.map_congr_left
 intro i hi
 rw [List.mem_range] at hi
 unfold twoAt
 rw [sum_len]
 have hd := Nat.mod_lt i (show 0 < 2 * h by omega)
 have hdm := Nat.div_add_mod i (2 * h)
 generalize hq : i / (2 * h) = q at hdm
 generalize hk : i % (2 * h) = k at hd hdm
 have e2 : 2 * h * q = h * (2 * q) := by rw [Nat.mul_comm 2 h, Nat.mul_assoc]
 have hqu : q < u := by
  apply Classical.byContradiction
  intro hc
  have : 2 * h * u ≤ 2 * h * q := Nat.mul_le_mul_left _ (by omega)
  omega
 have hle : 2 * h * q + 2 * h ≤ n := by
  have : 2 * h * (q + 1) ≤ 2 * h * u := Nat.mul_le_mul_left _ hqu
  rw [Nat.mul_add] at this
  omega
 split
 ·rename_i hc
  have m1 : i % h = k := mod_up i h (2 * q) k (by omega) hc
  have m2 : (i + h) % h = k := by rw [Nat.add_mod_right]; exact m1
  rw [sum_get h n a (i + h) (by omega), sum_get h n a i hi, m1, m2]
  unfold pairUp
  by_cases h0 : k = 0
  ·subst h0
   simp only [if_true, Nat.zero_mul]
   rw [hw, gmul_p, padd_two _ _ hm]
  ·rw [if_neg h0, if_neg h0, gmul_z, padd_z _ _ hm]
 ·rename_i hc
  have m1 : i % h = k - h := mod_up i h (2 * q + 1) (k - h) (by rw [Nat.mul_add]; omega) (by omega)
  have m2 : (i - h) % h = k - h := mod_up (i - h) h (2 * q) (k - h) (by omega) (by omega)
  rw [sum_get h n a i hi, sum_get h n a (i - h) (by omega), m1, m2]
  unfold pairDown
  rw [if_neg (show ¬ k = 0 by omega)]
  by_cases h0 : k - h = 0
  ·rw [h0]
   simp only [if_true, Nat.zero_mul]
   rw [hw, gmul_p, psub_two _ _ hm]
  ·rw [if_neg h0, gmul_z, psub_z _ _ hm]
theorem imp_grnd (bits : Nat) (mo : Int) (hm : mo = 0 ∨ mo = 1 ∨ mo = 2) (a : Gi) : grnd (bits + 0) mo (gscale bits a) = a := by
 unfold grnd gscale
 simp only [Nat.add_zero, rnd_up _ _ _ hm]
theorem turn_z (q : Int) : Gi.turn q z0 = z0 := by
 unfold Gi.turn z0
 repeat' split
 all_goals rfl
theorem gadd_z (a : Gi) : gadd a z0 = a := by simp [gadd, z0]
theorem quad_z (bits : Nat) (mo : Int) (hm : mo = 0 ∨ mo = 1 ∨ mo = 2) (inv : Bool) (q : Int) (a w1 w2 w3 : Gi) : quadOut bits 0 mo inv q a z0 z0 z0 w1 w2 w3 = a := by
 unfold quadOut quadSum
 rw [gmul_z, gmul_z, gmul_z, turn_z, turn_z, turn_z, gadd_z, gadd_z, gadd_z, imp_grnd _ _ hm]
theorem imp_quad (bits : Nat) (mo : Int) (hm : mo = 0 ∨ mo = 1 ∨ mo = 2) (inv : Bool) (q : Nat) (hq : q < 4) (m : Nat) (a : Gi) (w : Gi) (hw : w = ⟨2 ^ bits, 0⟩) :
 quadOut bits 0 mo inv (q : Int) (times m a) (times m a) (times m a) (times m a) w w w = if q = 0 then times (4 * m) a else z0 := by
 subst hw
 unfold quadOut
 rw [gmul_p]
 have e4 : quadSum inv 0 (gscale bits (times m a)) (gscale bits (times m a)) (gscale bits (times m a)) (gscale bits (times m a)) = gscale bits (times (4 * m) a) := by
  cases inv <;> simp only [quadSum, turns1, Gi.turn, gadd, gscale, times] <;> simp <;> constructor <;> grind
 have ez : gscale bits z0 = z0 := by simp [gscale, z0]
 have e0 : q ≠ 0 → quadSum inv q (gscale bits (times m a)) (gscale bits (times m a)) (gscale bits (times m a)) (gscale bits (times m a)) = gscale bits z0 := by
  intro h0
  rw [ez]
  generalize gscale bits (times m a) = t
  have hc : q = 1 ∨ q = 2 ∨ q = 3 := by omega
  obtain ⟨x, y⟩ := t
  rcases hc with rfl | rfl | rfl <;> cases inv <;> simp [quadSum, turns1, Gi.turn, gadd, z0] <;> constructor <;> omega
 by_cases h0 : q = 0
 ·subst h0
  rw [if_pos rfl]
  exact (congrArg _ e4).trans (imp_grnd _ _ hm _)
 ·rw [if_neg h0, e0 h0, imp_grnd _ _ hm]
theorem four_parts (n h u i : Nat) (hn : n = 4 * h * u) (h1 : 1 ≤ h) (hi : i < n) : ∃ q c j, i - i % (4 * h) = 4 * h * q ∧ i % h = j ∧ j < h ∧ c < 4 ∧ i = 4 * h * q + (h * c + j) ∧ (i - (i - i % (4 * h))) / h = c ∧ 4 * h * q + 4 * h ≤ n := by
 have hd := Nat.mod_lt i (show 0 < 4 * h by omega)
 have hdm := Nat.div_add_mod i (4 * h)
 have hd2 := Nat.mod_lt (i % (4 * h)) (show 0 < h by omega)
 have hdm2 := Nat.div_add_mod (i % (4 * h)) h
 generalize i / (4 * h) = q at hdm
 generalize i % (4 * h) = k at hd hdm hd2 hdm2 ⊢
 generalize hc : k / h = c at hdm2
 generalize k % h = j at hd2 hdm2
 have hc4 : c < 4 := by
  apply Classical.byContradiction
  intro hcc
  have : h * 4 ≤ h * c := Nat.mul_le_mul_left _ (by omega)
  omega
 have e2 : 4 * h * q = h * (4 * q) := by rw [Nat.mul_comm 4 h, Nat.mul_assoc]
 have hqu : q < u := by
  apply Classical.byContradiction
  intro hcc
  have : 4 * h * u ≤ 4 * h * q := Nat.mul_le_mul_left _ (by omega)
  omega
 have hle : 4 * h * q + 4 * h ≤ n := by
  have : 4 * h * (q + 1) ≤ 4 * h * u := Nat.mul_le_mul_left _ hqu
  rw [Nat.mul_add] at this
  omega
 refine ⟨q, c, j, by omega, mod_up i h (4 * q + c) j (by rw [Nat.mul_add]; omega) hd2, hd2, hc4, by omega, ?_, hle⟩
 rw [show i - (i - k) = k by omega]
 exact hc
theorem four_sum (n h u : Nat) (hn : n = 4 * h * u) (h1 : 1 ≤ h) (ws : List Gi) (bits : Nat) (inv : Bool) (hw : rootOf ws inv 0 = ⟨2 ^ bits, 0⟩) (mo : Int) (hm : mo = 0 ∨ mo = 1 ∨ mo = 2) (a : Gi) : fourL (sumF h n a) ws h bits 0 mo inv = sumF (4 * h) n a := by
 unfold fourL
 rw [sum_len]
 conv => rhs; unfold sumF
 apply List.map_congr_left
 intro i hi
 rw [List.mem_range] at hi
 obtain ⟨q, c, j, e1, e2, e3, e4, e5, e6, e7⟩ := four_parts n h u i hn h1 hi
 have hcj : h * c + j < 4 * h := by
  have : h * c ≤ h * 3 := Nat.mul_le_mul_left _ (by omega)
  omega
 have g0 : 4 * h * q = h * (4 * q) := by rw [Nat.mul_comm 4 h, Nat.mul_assoc]
 have mi : i % (4 * h) = h * c + j := mod_up i (4 * h) q _ e5 hcj
 have m0 : (4 * h * q + j) % h = j := mod_up _ h (4 * q) j (by omega) e3
 have m1 : (4 * h * q + 2 * h + j) % h = j := mod_up _ h (4 * q + 2) j (by rw [Nat.mul_add]; omega) e3
 have m2 : (4 * h * q + h + j) % h = j := mod_up _ h (4 * q + 1) j (by rw [Nat.mul_add]; omega) e3
 have m3 : (4 * h * q + 3 * h + j) % h = j := mod_up _ h (4 * q + 3) j (by rw [Nat.mul_add]; omega) e3
 unfold fourAt
 simp only [sum_len]
 rw [e6, e1, e2, sum_get h n a _ (by omega), sum_get h n a _ (by omega), sum_get h n a _ (by omega), sum_get h n a _ (by omega), m0, m1, m2, m3, mi]
 by_cases h0 : j = 0
 ·subst h0
  simp only [if_true, Nat.zero_mul, Nat.mul_zero, Nat.add_zero]
  rw [hw, imp_quad _ _ hm inv c e4 h a _ rfl]
  by_cases hc : c = 0
  ·subst hc
   simp
  ·rw [if_neg hc, if_neg (by
    intro e
    rcases Nat.mul_eq_zero.1 e with e | e <;> omega)]
 ·rw [if_neg h0, quad_z _ _ hm, if_neg (by omega)]
def chainB (n : Nat) : List Gi → Nat → Bool
 | [], h => h == n
 | q :: l, h => (q.im == (h : Int)) && ((q.re == 2 && n % (2 * h) == 0 && chainB n l (2 * h)) || (q.re == 4 && n % (4 * h) == 0 && chainB n l (4 * h)))
theorem passL_chain (ke lo : Int) (hk : ke = 0 ∨ ke = 1) (h0 : 2 ≤ lo) (h1 : lo < 7) : chainB (2 ^ lo.toNat) (passL ke lo) 1 = true := by
 have hl : lo = 2 ∨ lo = 3 ∨ lo = 4 ∨ lo = 5 ∨ lo = 6 := by omega
 rcases hk with rfl | rfl <;> rcases hl with rfl | rfl | rfl | rfl | rfl <;> decide +kernel
section
variable {p mo : Int} {iv : Bool} {B : Nat} {ws : List Gi}
end
theorem flip_all (L n : Nat) (hn : n = 2 ^ L) (a : Gi) : flipL L (impF n n a) = impF n n a := by
 subst hn
 unfold flipL
 conv => rhs; unfold impF
 apply List.map_congr_left
 intro k hk
 rw [List.mem_range] at hk
 refine (imp_get _ _ a _).trans ?_
 rw [if_pos ⟨fl_lt L k, fl_lt L k⟩, if_pos hk]
theorem sum_one (n : Nat) (a : Gi) : sumF 1 n a = impF n n a := by
 unfold sumF impF
 apply List.map_congr_left
 intro k hk
 rw [List.mem_range] at hk
 rw [if_pos (Nat.mod_one k), if_pos hk]
 simp [times]
theorem sh_none (mo : Int) (xs : List Gi) : xs.map (shG 0 mo) = xs := by
 have : shG 0 mo = id := by
  funext a
  unfold shG
  rw [if_pos (by decide)]
  simp only [show (0 : Int).toNat = 0 from rfl, rnd0]
  rfl
 rw [this, List.map_id]
end
section
set_option linter.unusedVariables false
set_option linter.unusedSimpArgs false
set_option maxRecDepth 100000
def addB (k sc : Int) : Int := if sc = 2 then (if k = 2 then 608 else 1632) else (if k = 2 then 224 else 288)
def Room (sc p δ X Y : Int) (b : BV) (q : Gi) (pow : Nat) : Prop :=
 ∃ R : Int, 0 ≤ R ∧ (∀ i, Len R (b.X.getD i ⟨0, 0⟩)) ∧ q.im * X ≤ Y * 2 ^ pow ∧ (q.re - 1) * (64 * (R * δ) + 1000000000 + 96 * Y) ≤ (addB q.re sc - 92) * 2 ^ (shOf sc q.re p b.X).toNat * 1099511627776
theorem map_clamp {p : Int} {ys : List Gi} (h : ys.any (offG p) = false) : ys.map (clampG p) = ys := any_off.1 h
theorem next_X {sc mo p : Int} {iv : Bool} {B : Nat} {ws : List Gi} {b : BV} {q : Gi} (h : (nextB sc mo p iv B ws b q).sat = false) : (nextB sc mo p iv B ws b q).X = passV B mo iv ws b.X (shOf sc q.re p b.X) q ∧ b.sat = false := by
 unfold nextB at h ⊢
 simp only at h ⊢
 by_cases hc : sc = 2
 ·rw [if_pos hc] at h ⊢
  rw [Bool.or_eq_false_iff] at h
  exact ⟨map_clamp h.2, h.1⟩
 ·rw [if_neg hc] at h ⊢
  exact ⟨rfl, h⟩
theorem fold_sat {sc mo p : Int} {iv : Bool} {B : Nat} {ws : List Gi} : ∀ (l : List Gi) (b : BV), (l.foldl (nextB sc mo p iv B ws) b).sat = false → b.sat = false
 | [], b, h => h
 | q :: l, b, h => (next_X (fold_sat l _ h)).2
theorem pass_near {n L B : Nat} {sc mo δ X Y : Int} {iv : Bool} {ws xs : List Gi} (hn : IsLen n) (hnL : n = 2 ^ L) (hm : mo = 0 ∨ mo = 1 ∨ mo = 2) (hδ : 0 ≤ δ) (hX : 0 ≤ X) (hB : B ≤ 40)
 (hx : ∀ j, Len X (xs.getD j ⟨0, 0⟩)) (hw : ∀ k, k < n → Len δ (gsubS (gup (2 ^ (40 - B)) (rootOf ws iv k)) (wv n iv k)))
 (q : Gi) (l : List Gi) (j : Nat) (ys : List Gi) (e R : Int) (pow s : Nat) (hc : chainB n (q :: l) (2 ^ j) = true) (hj : j ≤ L) (he : 0 ≤ e) (he9 : e ≤ 1000000000) (hl : ys.length = n) (hN : NearL e pow n L xs iv j ys)
 (h2s : sc = 2 → (s : Int) = 0) (hR0 : 0 ≤ R) (hRy : ∀ i, Len R (ys.getD i ⟨0, 0⟩)) (hYm : q.im * X ≤ Y * 2 ^ pow) (hroom : (q.re - 1) * (64 * (R * δ) + 1000000000 + 96 * Y) ≤ (addB q.re sc - 92) * 2 ^ s * 1099511627776) :
 ∃ j', j' ≤ L ∧ chainB n l (2 ^ j') = true ∧ NearL (stepB e q.re sc s - 1) (pow + s) n L xs iv j' (passV B mo iv ws ys s q) := by
 obtain ⟨re, im⟩ := q
 have h4n : 0 < n := by unfold IsLen at hn; omega
 have hp := Nat.two_pow_pos j
 simp only [chainB, Bool.and_eq_true, Bool.or_eq_true, beq_iff_eq] at hc
 obtain ⟨him, hcase⟩ := hc
 subst him
 simp only at hYm hroom
 rcases hcase with ⟨⟨hre, hdiv⟩, hch⟩ | ⟨⟨hre, hdiv⟩, hch⟩
 ·subst hre
  have hu := stepB_room e 2 sc s (.inl rfl) (by omega) h2s
  rw [Int.toNat_natCast] at hu
  have hjl : j < L := by
   apply Classical.byContradiction
   intro h
   have : j = L := by omega
   subst this
   rw [← hnL] at hdiv
   rw [Nat.mod_eq_of_lt (by omega)] at hdiv
   omega
  refine ⟨j + 1, by omega, by rw [Nat.pow_succ, Nat.mul_comm]; exact hch, ?_⟩
  simp only [passV]
  rw [if_neg (by decide), Int.toNat_natCast, Int.toNat_natCast]
  have hK := step_room 1 (addB 2 sc - 1) e (stepB e 2 sc s - 1) R δ X Y pow s (2 ^ j) (by decide) hYm (Int.le_trans (Int.mul_le_mul_of_nonneg_left (show 64 * (R * δ) + e + 96 * Y ≤ 64 * (R * δ) + 1000000000 + 96 * Y by omega) (by decide)) (by rw [show (91 : Int) = 92 - 1 from rfl]; refine Int.le_trans hroom (Int.le_of_eq ?_); grind)) (by rw [Int.sub_mul, Int.sub_mul, Int.one_mul]; unfold addB; omega)
  rw [Int.one_mul] at hK
  exact two_nearL hn hnL hjl hm he hR0 hδ hX hB hx hl hRy hw hN hK
 ·subst hre
  have hu := stepB_room e 4 sc s (.inr rfl) (by omega) h2s
  rw [Int.toNat_natCast] at hu
  have hjl : j + 1 < L := by
   apply Classical.byContradiction
   intro h
   have hc : j = L ∨ j + 1 = L := by omega
   have hlt : n < 4 * 2 ^ j := by
    rcases hc with rfl | rfl
    ·omega
    ·rw [hnL, Nat.pow_succ]
     omega
   rw [Nat.mod_eq_of_lt hlt] at hdiv
   omega
  refine ⟨j + 2, by omega, by rw [show 2 ^ (j + 2) = 4 * 2 ^ j by rw [Nat.pow_add]; omega]; exact hch, ?_⟩
  simp only [passV, if_true]
  rw [Int.toNat_natCast, Int.toNat_natCast]
  have hK := step_room 3 (addB 4 sc - 1) e (stepB e 4 sc s - 1) R δ X Y pow s (2 ^ j) (by decide) hYm (Int.le_trans (Int.mul_le_mul_of_nonneg_left (show 64 * (R * δ) + e + 96 * Y ≤ 64 * (R * δ) + 1000000000 + 96 * Y by omega) (by decide)) (by rw [show (91 : Int) = 92 - 1 from rfl]; refine Int.le_trans hroom (Int.le_of_eq ?_); grind)) (by rw [Int.sub_mul, Int.sub_mul, Int.one_mul]; unfold addB; omega)
  exact four_nearL hn hnL hjl hm he hR0 hδ hX hB hx hl hRy hw hN hK
theorem stepB_one (e k sc : Int) (s : Nat) (he : 0 ≤ e) : 1 ≤ stepB e k sc s := by
 unfold stepB upB
 have hp : (0 : Int) < 2 ^ ((s : Int).toNat) := Int.pow_pos (by decide)
 have h2 : (-(2 * e)) / 2 ^ ((s : Int).toNat) ≤ 0 := Int.ediv_nonpos_of_nonpos_of_neg (by omega) hp
 have h4 : (-(4 * e)) / 2 ^ ((s : Int).toNat) ≤ 0 := Int.ediv_nonpos_of_nonpos_of_neg (by omega) hp
 repeat' split
 all_goals omega
theorem Near.mono {e e' : Int} {pow : Nat} {c V : Gi} (h0 : 0 ≤ e) (h : Near e pow c V) (hle : e ≤ e') : Near e' pow c V := by
 have hp : (0 : Int) ≤ 2 ^ (pow + 40) := Int.le_of_lt (Int.pow_pos (by decide))
 exact Len.mono (Int.mul_nonneg h0 hp) h (Int.mul_le_mul_of_nonneg_right hle hp)
structure Fold (n L : Nat) (sc : Int) (xs : List Gi) (iv : Bool) (l : List Gi) (b c : BV) (e g : Int) (pow : Nat) : Prop where
 out : ∃ ss, c.sh = b.sh ++ ss ∧ b.ex ≤ c.ex ∧ NearL (runB sc e l ss - if l = [] then g else 1) (pow + (c.ex - b.ex).toNat) n L xs iv L c.X ∧ (1 ≤ e → 1 ≤ runB sc e l ss) ∧ (l = [] ∨ 1 ≤ runB sc e l ss)
set_option maxHeartbeats 1000000 in
theorem fold_near {n L B : Nat} {sc mo p δ X Y : Int} {iv : Bool} {ws xs : List Gi} (hn : IsLen n) (hnL : n = 2 ^ L) (hm : mo = 0 ∨ mo = 1 ∨ mo = 2) (hδ : 0 ≤ δ) (hX : 0 ≤ X) (hB : B ≤ 40)
 (hx : ∀ j, Len X (xs.getD j ⟨0, 0⟩)) (hw : ∀ k, k < n → Len δ (gsubS (gup (2 ^ (40 - B)) (rootOf ws iv k)) (wv n iv k))) (l : List Gi) :
 ∀ (j : Nat) (b : BV) (e g M : Int) (pow : Nat), 0 ≤ g → g ≤ e → chainB n l (2 ^ j) = true → j ≤ L → 0 ≤ e → e ≤ M → M * 4 ^ l.length + 1632 * (4 ^ l.length - 1) ≤ 1000000000 → b.X.length = n → NearL (e - g) pow n L xs iv j b.X → (l.foldl (nextB sc mo p iv B ws) b).sat = false →
  (∀ pre q suf, l = pre ++ q :: suf → Room sc p δ X Y (pre.foldl (nextB sc mo p iv B ws) b) q (pow + ((pre.foldl (nextB sc mo p iv B ws) b).ex - b.ex).toNat)) →
  Fold n L sc xs iv l b (l.foldl (nextB sc mo p iv B ws) b) e g pow := by
 induction l with
 | nil =>
   intro j b e g M pow hg0 hge hc hj he hM hE hl hN hs hR
   have hjn : 2 ^ j = n := eq_of_beq hc
   have hjL : j = L := by
    rw [hnL] at hjn
    exact (Nat.pow_right_inj (by decide : 1 < 2)).1 hjn
   subst hjL
   refine ⟨[], by simp, Int.le_refl _, ?_, fun h => h, .inl rfl⟩
   simp only [List.foldl_nil, Int.sub_self, Int.toNat_zero, Nat.add_zero, runB, if_true]
   exact hN
 | cons q l ih =>
   intro j b e g M pow hg0 hge hc hj he hM hE hl hN hs hR
   rw [List.foldl_cons] at hs ⊢
   obtain ⟨hX1, hb0⟩ := next_X (fold_sat l _ hs)
   obtain ⟨R, hR0, hRy, hYm, hroom⟩ := hR [] q l rfl
   simp only [List.foldl_nil, Int.sub_self, Int.toNat_zero, Nat.add_zero] at hRy hYm hroom
   have hsb := shOf_bd sc q.re p b.X
   obtain ⟨s, hsN⟩ : ∃ s : Nat, shOf sc q.re p b.X = s := ⟨(shOf sc q.re p b.X).toNat, by omega⟩
   have h2s : sc = 2 → (s : Int) = 0 := fun h => by rw [← hsN]; unfold shOf; rw [if_neg (by omega), if_neg (by omega)]
   have hex : (nextB sc mo p iv B ws b q).ex = b.ex + s := by simp only [nextB, hsN]
   have hsh : (nextB sc mo p iv B ws b q).sh = b.sh ++ [(s : Int)] := by simp only [nextB, hsN]
   have hlen1 : (nextB sc mo p iv B ws b q).X.length = n := by rw [hX1, passV_len]; exact hl
   rw [hsN] at hroom hX1
   rw [Int.toNat_natCast] at hroom
   have hq : (4 : Int) ^ (q :: l).length = 4 * 4 ^ l.length := by rw [List.length_cons, Int.pow_succ, Int.mul_comm]
   rw [hq] at hE
   have h4 : (1 : Int) ≤ 4 ^ l.length := by
    have : (0 : Int) < 4 ^ l.length := Int.pow_pos (by decide)
    omega
   generalize hF : (4 : Int) ^ l.length = F at hE h4 ih
   have hM1 : M ≤ M * (4 * F) := by
    have := Int.mul_le_mul_of_nonneg_left (show (1 : Int) ≤ 4 * F by omega) (show 0 ≤ M by omega)
    omega
   have hpos := stepB_pos e q.re sc s he (by omega)
   have hE1 : (4 * M + 1632) * F + 1632 * (F - 1) ≤ 1000000000 := by
    have e1 : (4 * M + 1632) * F + 1632 * (F - 1) = M * (4 * F) + 1632 * (4 * F - 1) - 1632 * (2 * F) := by grind
    omega
   have hN : NearL e pow n L xs iv j b.X := fun i hi => Near.mono (by omega) (hN i hi) (by omega)
   obtain ⟨j', hj', hch, hN'⟩ := pass_near hn hnL hm hδ hX hB hx hw q l j b.X e R pow s hc hj he (by omega) hl hN h2s hR0 hRy hYm hroom
   rw [← hX1] at hN'
   have hst1 := stepB_one e q.re sc s he
   have hg := ih j' (nextB sc mo p iv B ws b q) (stepB e q.re sc s) 1 (4 * M + 1632) (pow + s) (by decide) hst1 hch hj' hpos.1 (by omega) hE1 hlen1 hN' hs (fun pre r suf hl' => by
    have h := hR (q :: pre) r suf (by rw [hl']; rfl)
    rw [List.foldl_cons] at h
    have hge : (nextB sc mo p iv B ws b q).ex ≤ (pre.foldl (nextB sc mo p iv B ws) (nextB sc mo p iv B ws b q)).ex := (behind_ex iv ws pre _).1
    rw [show pow + s + ((pre.foldl (nextB sc mo p iv B ws) (nextB sc mo p iv B ws b q)).ex - (nextB sc mo p iv B ws b q).ex).toNat = pow + ((pre.foldl (nextB sc mo p iv B ws) (nextB sc mo p iv B ws b q)).ex - b.ex).toNat by omega]
    exact h)
   obtain ⟨ss, g1, g2, g3, g4, g5⟩ := hg.out
   refine ⟨⟨(s : Int) :: ss, ?_, by omega, ?_, fun _ => g4 hst1, .inr (g4 hst1)⟩⟩
   ·rw [g1, hsh, List.append_assoc]
    rfl
   ·rw [show pow + ((l.foldl (nextB sc mo p iv B ws) (nextB sc mo p iv B ws b q)).ex - b.ex).toNat = pow + s + ((l.foldl (nextB sc mo p iv B ws) (nextB sc mo p iv B ws b q)).ex - (nextB sc mo p iv B ws b q).ex).toNat by omega]
    rw [if_neg (by simp)]
    simp only [ite_self] at g3
    exact g3
theorem part_in {l : Int} {xs : List Gi} (h : allIn l xs = true) (h0 : 0 ≤ l) (j : Nat) : (-l ≤ (xs.getD j ⟨0, 0⟩).re ∧ (xs.getD j ⟨0, 0⟩).re ≤ l) ∧ (-l ≤ (xs.getD j ⟨0, 0⟩).im ∧ (xs.getD j ⟨0, 0⟩).im ≤ l) := by
 unfold allIn at h
 rw [List.all_eq_true] at h
 simp only [Bool.and_eq_true, inB_iff] at h
 rw [List.getD_eq_getElem?_getD]
 by_cases hj : j < xs.length
 ·rw [List.getElem?_eq_getElem hj]
  exact h _ (List.getElem_mem hj)
 ·rw [List.getElem?_eq_none (by omega)]
  simp only [Option.getD_none]
  omega
theorem wv_bd (n : Nat) (hn : IsLen n) (iv : Bool) (i : Nat) : (-1099511627776 ≤ (wv n iv i).re ∧ (wv n iv i).re ≤ 1099511627776) ∧ (-1099511627776 ≤ (wv n iv i).im ∧ (wv n iv i).im ≤ 1099511627776) := by
 have h := root_bd n i hn 16 (by omega) (by omega)
 unfold wv
 cases iv
 ·simp only [Bool.false_eq_true, if_false]
  simp at h
  omega
 ·simp only [if_true, Gi.conj]
  simp at h
  omega
theorem sumG_next (n : Nat) (xs : List Gi) (iv : Bool) (k m : Nat) : sumG n xs iv k (m + 1) = gadd (sumG n xs iv k m) (termG n xs iv k m) := rfl
theorem IsLog.len {n : Nat} {L : Nat} (h : IsLog (n : Int) L) : IsLen (n : Int) := by
 unfold IsLen
 rcases isLog_cases h with ⟨_, h⟩ | ⟨_, h⟩ | ⟨_, h⟩ | ⟨_, h⟩ | ⟨_, h⟩ <;> omega
def binsG (n : Nat) (xs : List Gi) (iv : Bool) : List Gi := (List.range n).map (fun k => binG n xs iv k)
theorem binsG_len (n : Nat) (xs : List Gi) (iv : Bool) : (binsG n xs iv).length = n := by simp [binsG]
def slackG (n : Nat) (xs : List Gi) : Int := 2 * (n : Int) * maxG xs / 4294967296 + 2
theorem slackG_bd (n : Nat) (hn : n ≤ 64) (xs : List Gi) (hx : allIn 2147483648 xs = true) : (0 ≤ maxG xs ∧ maxG xs ≤ 2147483648) ∧ (0 ≤ 2 * (n : Int) * maxG xs ∧ 2 * (n : Int) * maxG xs ≤ 274877906944) ∧ 2 ≤ slackG n xs ∧ slackG n xs ≤ 66 := by
 have h1 := maxG_le xs 2147483648 (by omega) ((allIn_iff _ _).1 hx)
 have h0 := maxG_nonneg xs
 have h2 := Int.mul_nonneg (show 0 ≤ 2 * (n : Int) by omega) h0
 have h3 := Int.mul_le_mul (show 2 * (n : Int) ≤ 128 by omega) h1 h0 (by decide)
 unfold slackG
 refine ⟨⟨h0, h1⟩, ⟨h2, by omega⟩, by omega, by omega⟩
def upX (sc p mo : Int) (xs : List Gi) : List Gi := if sc = 1 then xs.map (shG (atFirst sc p xs) mo) else xs
theorem upX_len (sc p mo : Int) (xs : List Gi) : (upX sc p mo xs).length = xs.length := by unfold upX; split <;> simp
theorem idG_start (n L : Nat) (hn : IsLen n) (hnL : n = 2 ^ L) (xs : List Gi) (iv : Bool) (i : Nat) : idG n L xs iv 0 i = gup 1099511627776 (xs.getD (fl L i) ⟨0, 0⟩) := by
 unfold idG fsum
 apply gi_eq <;> simp [csum, isum, Nat.mod_one, wv_zero n hn, gmul, gup]
theorem near_same (c : Gi) : Near 0 0 c (gup 1099511627776 c) := by
 unfold Near Len gsubS gup
 simp only [Int.zero_mul, Nat.zero_add, show (2 : Int) ^ 40 = 1099511627776 by decide]
 rw [show c.re * (64 * 1099511627776) - c.re * 1099511627776 * 64 = 0 by omega, show c.im * (64 * 1099511627776) - c.im * 1099511627776 * 64 = 0 by omega]
 decide
theorem near_first (mo : Int) (hm : mo = 0 ∨ mo = 1 ∨ mo = 2) (a : Gi) : Near 91 1 (shG 1 mo a) (gup 1099511627776 a) := by
 have h := Len.up (s := 1099511627776) (by decide) (gnear_rnd 1 mo hm a)
 have e : shG 1 mo a = grnd 1 mo a := by unfold shG grnd; rw [if_pos (by decide)]; rfl
 rw [e]
 unfold Near
 rw [show (91 : Int) * 2 ^ 1 * 1099511627776 = 91 * 2 ^ (1 + 40) by decide] at h
 refine Eq.mp (congrArg _ ?_) h
 apply gi_eq <;> simp only [gup, gsubS, show (2 : Int) ^ (1 + 40) = 2199023255552 by decide, show (2 : Int) ^ 1 = 2 by decide] <;> omega
def dlB (B : Nat) : Int := if B = 13 then 72400000 else 1440
def lnP (p : Int) : Int := if p = 32768 then 46341 else 3037000500
theorem dlB_nonneg (B : Nat) : 0 ≤ dlB B := by unfold dlB; split <;> decide
theorem lnP_nonneg (p : Int) : 0 ≤ lnP p := by unfold lnP; split <;> decide
theorem len_conj_wv (n : Nat) (iv : Bool) (k : Nat) (s δ : Int) (w : Gi) (h : nq (gsubS (gup s w) (rootG n k 16)) ≤ δ * δ) : Len δ (gsubS (gup s (if iv then w.conj else w)) (wv n iv k)) := by
 unfold wv Len
 unfold nq at h
 cases iv
 ·exact h
 ·simp only [if_true, Gi.conj, gsubS, gup] at h ⊢
  refine Int.le_trans (Int.le_of_eq ?_) h
  grind
theorem tw_near {fo b p lo ke sc mo : Int} {L n B : Nat} (H : PlF fo b p lo ke sc mo L n B) (iv : Bool) (k : Nat) (hk : k < n) : Len (dlB B) (gsubS (gup (2 ^ (40 - B)) (rootOf (tw n B) iv k)) (wv n iv k)) := by
 obtain ⟨_, h4, hlen⟩ := H.lens
 have h := List.all_eq_true.1 tw_nears n (by unfold IsLen at hlen; simp; omega)
 have h := List.all_eq_true.1 h k (List.mem_range.2 hk)
 rw [Bool.and_eq_true, decide_eq_true_eq, decide_eq_true_eq] at h
 have e : (tw n B).getD k ⟨0, 0⟩ = rootG n k (56 - B) := by rw [tw_eq, getD_map_range hk]
 unfold rootOf
 rw [e]
 rcases H.sizes with ⟨_, _, _, rfl⟩ | ⟨_, _, _, rfl⟩
 ·exact len_conj_wv n iv k _ _ _ h.1
 ·exact len_conj_wv n iv k _ _ _ h.2
theorem len_of_bd {m R : Int} {ys : List Gi} (h0 : 0 ≤ m) (hR : 2 * (m * m) ≤ R * R) (h : ∀ a ∈ ys, (-m ≤ a.re ∧ a.re ≤ m) ∧ (-m ≤ a.im ∧ a.im ≤ m)) (i : Nat) : Len R (ys.getD i ⟨0, 0⟩) := by
 have hz : 0 ≤ m * m := Int.mul_nonneg h0 h0
 by_cases hi : i < ys.length
 ·have hb := h _ (getD_mem ys i hi)
  have e1 := sqR_le _ _ hb.1.1 hb.1.2
  have e2 := sqR_le _ _ hb.2.1 hb.2.2
  unfold Len
  omega
 ·rw [List.getD_eq_getElem?_getD, List.getElem?_eq_none (by omega)]
  exact Len.zero R
theorem man_len {fo b p lo ke sc mo : Int} {L n B : Nat} (H : PlF fo b p lo ke sc mo L n B) {ys : List Gi} (h : ManB p ys) (i : Nat) : Len (lnP p) (ys.getD i ⟨0, 0⟩) := by
 have hb : ∀ a ∈ ys, (-p ≤ a.re ∧ a.re ≤ p) ∧ (-p ≤ a.im ∧ a.im ≤ p) := fun a ha => by have := h a ha; omega
 rcases H.sizes with ⟨_, _, rfl, _⟩ | ⟨_, _, rfl, _⟩
 ·exact len_of_bd (by decide) (by decide) hb i
 ·exact len_of_bd (by decide) (by decide) hb i
theorem upX_man {fo b p lo ke sc mo : Int} {L n B : Nat} (H : PlF fo b p lo ke sc mo L n B) {xs : List Gi} (hm : ManB p xs) : ManB p (upX sc p mo xs) := by
 unfold upX
 split
 ·intro y hy
  obtain ⟨a, ha, rfl⟩ := List.mem_map.1 hy
  exact (ready_part H hm a ha).1
 ·exact hm
theorem room_of {sc p δ X R : Int} {b : BV} {q : Gi} {pow : Nat} (hR : 0 ≤ R) (hl : ∀ i, Len R (b.X.getD i ⟨0, 0⟩)) (hX : 0 ≤ X) (h0 : 0 ≤ q.im) (h1 : q.im ≤ 32)
 (h : (q.re - 1) * (64 * (R * δ) + 1000000000 + 3072 * X) ≤ (addB q.re sc - 92) * 2 ^ (shOf sc q.re p b.X).toNat * 1099511627776) : Room sc p δ X (32 * X) b q pow := by
 refine ⟨R, hR, hl, ?_, ?_⟩
 ·have hp : (1 : Int) ≤ 2 ^ pow := by
   have : (0 : Int) < 2 ^ pow := Int.pow_pos (by decide)
   omega
  have a := Int.mul_le_mul_of_nonneg_right h1 hX
  have c := Int.mul_le_mul_of_nonneg_left hp (show 0 ≤ 32 * X by omega)
  omega
 ·rw [show 96 * (32 * X) = 3072 * X by omega]
  exact h
section
variable {fo b p lo ke sc mo : Int} {L n B : Nat} {xs : List Gi}
def lnH (p : Int) : Int := if p = 32768 then 28378 else 1859775400
theorem half_len (H : PlF fo b p lo ke sc mo L n B) (hs : sc = 0) (iv : Bool) (hl : xs.length = n) (hm : ManB p xs) (j : Nat) (hj : j ≤ (passL ke lo).length) (i : Nat) : Len (lnH p) ((behindB ke lo sc mo p iv L B (tw n B) xs j).X.getD i ⟨0, 0⟩) := by
 obtain ⟨hmo, _, _, k0, k1⟩ := H.kinds
 obtain ⟨⟨l2, l6⟩, h4, hlen⟩ := H.lens
 have hlo := H.lo
 subst hs
 have hr := ready_half H rfl hl hm
 have e : (behindB ke lo 0 mo p iv L B (tw n B) xs j).X = ((passL ke lo).take j).foldl (stepV 0 p B mo iv (tw n B)) (readyB ke 0 mo p L xs).X := behind_X (by decide) iv (tw n B) _ _
 have hk : ∀ q ∈ (passL ke lo).take j, q.re = 2 ∨ q.re = 4 := fun q hq => (passL_fits ke lo k0 k1 (by omega) (by omega) q (List.mem_of_mem_take hq)).1
 have h6 := passL_len6 ke lo k0 k1 (by omega) (by omega)
 have hc : ((passL ke lo).take j).length ≤ 6 := by rw [List.length_take]; omega
 rw [e, tw_eq]
 unfold Len
 rcases H.sizes with ⟨_, _, rfl, rfl⟩ | ⟨_, _, rfl, rfl⟩
 ·have h := runV_half15 n hlen mo iv hmo ((passL ke lo).take j) _ _ hk hr (by decide) (by omega)
  have h := h.getD (by omega) i
  unfold nq at h
  exact Int.le_trans h (by simp only [lnH, if_true]; omega)
 ·have h := runV_half31 n hlen mo iv hmo ((passL ke lo).take j) _ _ hk hr (by decide) (by omega)
  have h := h.getD (by omega) i
  unfold nq at h
  exact Int.le_trans h (by simp only [lnH, show ¬ ((2147483648 : Int) = 32768) by decide, if_false]; omega)
end
end
end Go.Proofs.YtdignnmpfkgkoaaGreat
