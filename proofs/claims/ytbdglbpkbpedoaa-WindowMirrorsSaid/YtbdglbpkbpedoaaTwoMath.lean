/- How great numbers are, in plain numbers: the greatest part, room, a pass's shift, shifts either way. · Pairs and passes of kernel 2, in plain numbers. -/
import Derived.Test.YtbdglbpkbpedoaaPlain
import Derived.Test.YtbdglbpkbpedoaaCx
namespace Go.Proofs.Ytbdglbpkbpedoaa
set_option linter.unusedVariables false
set_option maxRecDepth 100000

def absI (n : Int) : Int := if n < 0 then -n else n
theorem absI_nonneg (n : Int) : 0 ≤ absI n := by unfold absI; split <;> omega
theorem absI_le {n l : Int} : absI n ≤ l ↔ -l ≤ n ∧ n ≤ l := by unfold absI; split <;> omega
theorem absI_bd (n : Int) : -(absI n) ≤ n ∧ n ≤ absI n := by unfold absI; split <;> omega

/-- One more number's greatest part. -/
def mx (m : Int) (a : Gi) : Int := max (max m (absI a.re)) (absI a.im)
/-- The greatest part. -/
def maxG (xs : List Gi) : Int := xs.foldl mx 0
theorem maxG_snoc (xs : List Gi) (a : Gi) : maxG (xs ++ [a]) = mx (maxG xs) a := by unfold maxG; rw [List.foldl_append]; rfl
theorem maxG_nonneg (xs : List Gi) : 0 ≤ maxG xs := by
  have h : ∀ (ys : List Gi) (m : Int), 0 ≤ m → 0 ≤ ys.foldl mx m := by
    intro ys
    induction ys with
    | nil => exact fun m h => h
    | cons a ys ih => exact fun m h => ih _ (by unfold mx; omega)
  exact h xs 0 (Int.le_refl 0)
theorem maxG_le (xs : List Gi) (l : Int) (hl : 0 ≤ l) (h : ∀ a ∈ xs, absI a.re ≤ l ∧ absI a.im ≤ l) : maxG xs ≤ l := by
  have g : ∀ (ys : List Gi) (m : Int), m ≤ l → (∀ a ∈ ys, absI a.re ≤ l ∧ absI a.im ≤ l) → ys.foldl mx m ≤ l := by
    intro ys
    induction ys with
    | nil => exact fun m h _ => h
    | cons a ys ih =>
      intro m hm hy
      have ha := hy a (List.mem_cons_self ..)
      exact ih _ (by unfold mx; omega) (fun b hb => hy b (List.mem_cons_of_mem _ hb))
  exact g xs 0 hl h
theorem maxG_ge (xs : List Gi) : ∀ a ∈ xs, absI a.re ≤ maxG xs ∧ absI a.im ≤ maxG xs := by
  have g : ∀ (ys : List Gi) (m : Int), m ≤ ys.foldl mx m ∧ ∀ a ∈ ys, absI a.re ≤ ys.foldl mx m ∧ absI a.im ≤ ys.foldl mx m := by
    intro ys
    induction ys with
    | nil => exact fun m => ⟨Int.le_refl _, fun a ha => by cases ha⟩
    | cons a ys ih =>
      intro m
      obtain ⟨h1, h2⟩ := ih (mx m a)
      have h3 : m ≤ mx m a ∧ absI a.re ≤ mx m a ∧ absI a.im ≤ mx m a := by unfold mx; omega
      refine ⟨by show m ≤ ys.foldl mx (mx m a); omega, fun b hb => ?_⟩
      show absI b.re ≤ ys.foldl mx (mx m a) ∧ absI b.im ≤ ys.foldl mx (mx m a)
      rcases List.mem_cons.1 hb with rfl | hb
      · omega
      · exact h2 b hb
  exact (g xs 0).2

/-- Are all parts from -l to l? -/
def allIn (l : Int) (xs : List Gi) : Bool := xs.all (fun a => inB l a.re && inB l a.im)
theorem allIn_iff (l : Int) (xs : List Gi) : allIn l xs = true ↔ ∀ a ∈ xs, absI a.re ≤ l ∧ absI a.im ≤ l := by
  unfold allIn
  rw [List.all_eq_true]
  constructor
  · intro h a ha
    have := h a ha
    simp only [Bool.and_eq_true, inB_iff] at this
    exact ⟨absI_le.2 this.1, absI_le.2 this.2⟩
  · intro h a ha
    have := h a ha
    simp only [Bool.and_eq_true, inB_iff]
    exact ⟨absI_le.1 this.1, absI_le.1 this.2⟩
theorem allIn_no {l : Int} {xs : List Gi} {k : Nat} {a : Gi} (hk : xs[k]? = some a) (h : (inB l a.re && inB l a.im) = false) : allIn l xs = false := by
  unfold allIn
  rw [Bool.eq_false_iff, Ne, List.all_eq_true]
  intro g
  have := g a (List.mem_of_getElem? hk)
  rw [this] at h
  cases h
theorem allIn_snoc {l : Int} {xs : List Gi} {k : Nat} {a : Gi} (hk : xs[k]? = some a) (h1 : allIn l (xs.take k) = true) (h : (inB l a.re && inB l a.im) = true) : allIn l (xs.take (k + 1)) = true := by
  rw [List.take_add_one, hk]
  unfold allIn at h1 ⊢
  rw [List.all_append, h1]
  simpa using h

theorem pow_le31 (n : Nat) (h : n ≤ 31) : (2 : Int) ^ n ≤ 2147483648 := by
  have h1 : (2 : Nat) ^ n ≤ 2 ^ 31 := Nat.pow_le_pow_right (by decide) h
  have h2 : ((2 ^ n : Nat) : Int) ≤ ((2 ^ 31 : Nat) : Int) := Int.ofNat_le.2 h1
  rw [Int.natCast_pow] at h2
  simpa using h2

/-- The greatest s, not more than k, with which m times 2^s is not more than a half of p; 0, if there is none. -/
def roomTo (p m : Int) : Nat → Nat
  | 0 => 0
  | k + 1 => if 0 < m ∧ m * 2 ^ (k + 1) ≤ p / 2 then k + 1 else roomTo p m k
def room (p m : Int) : Nat := roomTo p m 31

theorem roomTo_succ (p m : Int) (k : Nat) : roomTo p m (k + 1) = if 0 < m ∧ m * 2 ^ (k + 1) ≤ p / 2 then k + 1 else roomTo p m k := rfl
theorem roomTo_le (p m : Int) (k : Nat) : roomTo p m k ≤ k := by
  induction k with
  | zero => exact Nat.le_refl _
  | succ k ih => rw [roomTo]; split <;> omega
theorem roomTo_fits (p m : Int) (k : Nat) (h : 0 < roomTo p m k) : 0 < m ∧ m * 2 ^ roomTo p m k ≤ p / 2 := by
  induction k with
  | zero => exact absurd h (Nat.lt_irrefl _)
  | succ k ih =>
    rw [roomTo] at h ⊢
    split
    · assumption
    · rename_i hn
      rw [if_neg hn] at h
      exact ih h
theorem roomTo_great (p m : Int) (k j : Nat) (hj : roomTo p m k < j) (hk : j ≤ k) (hm : 0 < m) : p / 2 < m * 2 ^ j := by
  induction k with
  | zero => omega
  | succ k ih =>
    rw [roomTo] at hj
    split at hj
    · omega
    · rename_i hn
      by_cases e : j = k + 1
      · subst e
        exact Int.not_le.1 (fun h => hn ⟨hm, h⟩)
      · exact ih hj (by omega)
/-- The room, told by what it is. -/
theorem room_unique (p m : Int) (s : Nat) (hp : p < 4294967296) (hs : s ≤ 31) (h1 : 0 < s → 0 < m ∧ m * 2 ^ s ≤ p / 2) (h2 : 0 < m → p / 2 < m * 2 ^ (s + 1)) : s = room p m := by
  have a1 := roomTo_le p m 31
  have a2 := roomTo_fits p m 31
  unfold room
  rcases Nat.lt_trichotomy s (roomTo p m 31) with h | h | h
  · obtain ⟨hm, b⟩ := a2 (by omega)
    have c := h2 hm
    have d : m * 2 ^ (s + 1) ≤ m * 2 ^ roomTo p m 31 := Int.mul_le_mul_of_nonneg_left (by exact_mod_cast Nat.pow_le_pow_right (n := 2) (by omega) (show s + 1 ≤ roomTo p m 31 by omega)) (by omega)
    omega
  · exact h
  · obtain ⟨hm, b⟩ := h1 (by omega)
    have c := roomTo_great p m 31 s h hs hm
    omega
theorem room_fits (p m : Int) (h : 0 < room p m) : 0 < m ∧ m * 2 ^ room p m ≤ p / 2 := roomTo_fits p m 31 h
theorem room_le (p m : Int) : room p m ≤ 31 := roomTo_le p m 31
/-- With one more it does not fit. -/
theorem room_great (p m : Int) (hm : 0 < m) (hp : p ≤ 4294967296) : p / 2 < m * 2 ^ (room p m + 1) := by
  by_cases h : room p m + 1 ≤ 31
  · exact roomTo_great p m 31 (room p m + 1) (Nat.lt_succ_self _) h hm
  · have e : room p m = 31 := by have := room_le p m; omega
    rw [e]
    have : (2 : Int) ^ (31 + 1) = 4294967296 := by decide
    rw [this]
    omega

/-- How far a pass shifts down. -/
def preOf (kernel p m : Int) : Int :=
  if kernel = 4 then (if m ≤ p / 8 then 0 else 1 + (if m ≤ p / 4 then 0 else if m ≤ p / 2 then 1 else 2)) else if m ≤ p / 4 then 0 else if m ≤ p / 2 then 1 else 2

/-- A number shifted down, or put up. -/
def shG (s mo : Int) (a : Gi) : Gi := if 0 ≤ s then ⟨rnd a.re s.toNat mo, rnd a.im s.toNat mo⟩ else ⟨a.re * 2 ^ (-s).toNat, a.im * 2 ^ (-s).toNat⟩

/-- Put up and shifted down again. -/
theorem shG_back (s mo : Int) (hs : 0 ≤ s) (hm : mo = 0 ∨ mo = 1 ∨ mo = 2) (a : Gi) : shG s mo (shG (-s) mo a) = a := by
  unfold shG
  by_cases h0 : s = 0
  · subst h0
    have h1 := rnd_mul a.re 0 mo hm
    have h2 := rnd_mul a.im 0 mo hm
    simp only [Int.pow_zero, Int.mul_one] at h1 h2
    simp [h1, h2]
  · rw [if_pos hs, if_neg (by omega), Int.neg_neg, rnd_mul _ _ _ hm, rnd_mul _ _ _ hm]

end Go.Proofs.Ytbdglbpkbpedoaa

namespace Go.Proofs.Ytbdglbpkbpedoaa
set_option linter.unusedVariables false

/-- Two numbers' product. -/
def gmul (b w : Gi) : Gi := ⟨b.re * w.re - b.im * w.im, b.re * w.im + b.im * w.re⟩
/-- A number times 2^bits, and another one: each part divided by 2^n and rounded. -/
def padd (bits n : Nat) (mo : Int) (a t : Gi) : Gi := ⟨rnd (a.re * 2 ^ bits + t.re) n mo, rnd (a.im * 2 ^ bits + t.im) n mo⟩
def psub (bits n : Nat) (mo : Int) (a t : Gi) : Gi := ⟨rnd (a.re * 2 ^ bits - t.re) n mo, rnd (a.im * 2 ^ bits - t.im) n mo⟩
/-- A pair: sum and difference. -/
def pairUp (bits s : Nat) (mo : Int) (a b w : Gi) : Gi := padd bits (bits + s) mo a (gmul b w)
def pairDown (bits s : Nat) (mo : Int) (a b w : Gi) : Gi := psub bits (bits + s) mo a (gmul b w)

theorem mulG_bd (x y k l : Int) (hk : 0 ≤ k) (hx : -k ≤ x ∧ x ≤ k) (hy : -l ≤ y ∧ y ≤ l) : -(k * l) ≤ x * y ∧ x * y ≤ k * l := by
  have hl : 0 ≤ l := by omega
  have h1 : (x * y).natAbs ≤ (k * l).natAbs := by
    rw [Int.natAbs_mul, Int.natAbs_mul]
    exact Nat.mul_le_mul (by omega) (by omega)
  have h2 : 0 ≤ k * l := Int.mul_nonneg hk hl
  omega

/-- A product's parts: twice the greatest part times the root's. -/
theorem gmul_bd (b w : Gi) (k l : Int) (hk : 0 ≤ k) (hb : absI b.re ≤ k ∧ absI b.im ≤ k) (hw : absI w.re ≤ l ∧ absI w.im ≤ l) :
    absI (gmul b w).re ≤ 2 * (k * l) ∧ absI (gmul b w).im ≤ 2 * (k * l) := by
  have b1 := absI_le.1 hb.1
  have b2 := absI_le.1 hb.2
  have w1 := absI_le.1 hw.1
  have w2 := absI_le.1 hw.2
  have m1 := mulG_bd b.re w.re k l hk b1 w1
  have m2 := mulG_bd b.im w.im k l hk b2 w2
  have m3 := mulG_bd b.re w.im k l hk b1 w2
  have m4 := mulG_bd b.im w.re k l hk b2 w1
  unfold gmul
  generalize b.re * w.re = p1 at *
  generalize b.im * w.im = p2 at *
  generalize b.re * w.im = p3 at *
  generalize b.im * w.re = p4 at *
  generalize k * l = q at *
  exact ⟨absI_le.2 (by simp only; omega), absI_le.2 (by simp only; omega)⟩

/-- What is rounded is no more than the number divided, and 1. -/
theorem rnd_grow (x M : Int) (n : Nat) (mo : Int) (hm : mo = 0 ∨ mo = 1 ∨ mo = 2) (hx : absI x ≤ M) : (absI (rnd x n mo) - 1) * 2 ^ n < M + 1 := by
  have h := rnd_off x n mo hm
  have hp := pow_pos2 n
  have hx1 := absI_le.1 hx
  obtain ⟨h1, h2, _⟩ := h
  generalize rnd x n mo = r at *
  rw [Int.sub_mul, Int.one_mul]
  unfold absI
  split
  · rw [Int.neg_mul]
    generalize r * 2 ^ n = t at *
    generalize (2 : Int) ^ n = P at *
    omega
  · generalize r * 2 ^ n = t at *
    generalize (2 : Int) ^ n = P at *
    omega

/-- A part of a pair: (n - 1) 2^s is not more than 3 times the greatest one. -/
theorem part_grow (x p m : Int) (bits s : Nat) (mo : Int) (hm : mo = 0 ∨ mo = 1 ∨ mo = 2) (hx : absI x ≤ m) (hp : absI p ≤ 2 * (m * 2 ^ bits)) (h0 : 0 ≤ m) :
    (absI (rnd (x * 2 ^ bits + p) (bits + s) mo) - 1) * 2 ^ s ≤ 3 * m ∧ (absI (rnd (x * 2 ^ bits - p) (bits + s) mo) - 1) * 2 ^ s ≤ 3 * m := by
  have hb := pow_pos2 bits
  have hx1 := absI_le.1 hx
  have hp1 := absI_le.1 hp
  have e1 : -(m * 2 ^ bits) ≤ x * 2 ^ bits ∧ x * 2 ^ bits ≤ m * 2 ^ bits := by
    have a := Int.mul_le_mul_of_nonneg_right hx1.1 (Int.le_of_lt hb)
    have b := Int.mul_le_mul_of_nonneg_right hx1.2 (Int.le_of_lt hb)
    rw [Int.neg_mul] at a
    exact ⟨a, b⟩
  have key : ∀ t : Int, absI t ≤ 3 * (m * 2 ^ bits) → (absI (rnd t (bits + s) mo) - 1) * 2 ^ s ≤ 3 * m := by
    intro t ht
    have g := rnd_grow t _ (bits + s) mo hm ht
    rw [Int.pow_add, Int.mul_comm (2 ^ bits) (2 ^ s), ← Int.mul_assoc] at g
    generalize (absI (rnd t (bits + s) mo) - 1) * 2 ^ s = y at *
    have g2 : y * 2 ^ bits < (3 * m) * 2 ^ bits + 1 := by rw [Int.mul_assoc]; exact g
    refine Int.not_lt.1 fun h => ?_
    have g3 : (3 * m + 1) * 2 ^ bits ≤ y * 2 ^ bits := Int.mul_le_mul_of_nonneg_right (by omega) (Int.le_of_lt hb)
    rw [Int.add_mul, Int.one_mul] at g3
    omega
  generalize x * 2 ^ bits = X at *
  generalize hM : m * 2 ^ bits = M at *
  exact ⟨key _ (absI_le.2 (by omega)), key _ (absI_le.2 (by omega))⟩

theorem rnd_of_zero (n : Nat) (mo : Int) (hm : mo = 0 ∨ mo = 1 ∨ mo = 2) : rnd 0 n mo = 0 := by
  have := rnd_mul 0 n mo hm
  rwa [Int.zero_mul] at this

/-- Sum and difference together are the first one doubled, to 2; so is their difference. -/
theorem pair_sums (x p : Int) (n : Nat) (mo : Int) (hm : mo = 0 ∨ mo = 1 ∨ mo = 2) :
    absI ((rnd (x + p) n mo + rnd (x - p) n mo) * 2 ^ n - 2 * x) ≤ 2 * 2 ^ n ∧ absI ((rnd (x + p) n mo + -rnd (x - p) n mo) * 2 ^ n - 2 * p) ≤ 2 * 2 ^ n := by
  have h1 := rnd_off (x + p) n mo hm
  have h2 := rnd_off (x - p) n mo hm
  obtain ⟨a1, a2, _⟩ := h1
  obtain ⟨b1, b2, _⟩ := h2
  generalize rnd (x + p) n mo = u at *
  generalize rnd (x - p) n mo = v at *
  rw [Int.add_mul, Int.add_mul, Int.neg_mul]
  generalize u * 2 ^ n = U at *
  generalize v * 2 ^ n = V at *
  generalize (2 : Int) ^ n = P at *
  exact ⟨absI_le.2 (by omega), absI_le.2 (by omega)⟩

/-- The root of a table, that may be conjugate. -/
def rootOf (ws : List Gi) (inv : Bool) (k : Nat) : Gi := if inv then (ws.getD k ⟨0, 0⟩).conj else ws.getD k ⟨0, 0⟩
/-- Number i behind a pass of halves h. -/
def twoAt (xs ws : List Gi) (h bits s : Nat) (mo : Int) (inv : Bool) (i : Nat) : Gi :=
  if i % (2 * h) < h then pairUp bits s mo (xs.getD i ⟨0, 0⟩) (xs.getD (i + h) ⟨0, 0⟩) (rootOf ws inv (i % (2 * h) * (xs.length / (2 * h))))
  else pairDown bits s mo (xs.getD (i - h) ⟨0, 0⟩) (xs.getD i ⟨0, 0⟩) (rootOf ws inv ((i % (2 * h) - h) * (xs.length / (2 * h))))
def twoL (xs ws : List Gi) (h bits s : Nat) (mo : Int) (inv : Bool) : List Gi := (List.range xs.length).map (twoAt xs ws h bits s mo inv)
theorem twoL_len (xs ws : List Gi) (h bits s : Nat) (mo : Int) (inv : Bool) : (twoL xs ws h bits s mo inv).length = xs.length := by unfold twoL; simp

end Go.Proofs.Ytbdglbpkbpedoaa
