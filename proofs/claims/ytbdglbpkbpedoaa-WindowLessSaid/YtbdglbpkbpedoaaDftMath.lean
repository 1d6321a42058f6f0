/- Bins of the transform of whole numbers: what is exact, and what all are together. -/
import Derived.Test.YtbdglbpkbpedoaaRef07
import Derived.Test.YtbdglbpkbpedoaaTwoMath
import Derived.Test.YtbdglbpkbpedoaaFourMath
namespace Go.Proofs.Ytbdglbpkbpedoaa
set_option linter.unusedVariables false
set_option linter.unusedSimpArgs false
set_option maxRecDepth 100000

/-- So many numbers together. -/
def isum (f : Nat → Int) : Nat → Int
  | 0 => 0
  | m + 1 => isum f m + f m
theorem isum_congr {f g : Nat → Int} : ∀ {m : Nat}, (∀ i, i < m → f i = g i) → isum f m = isum g m
  | 0, _ => rfl
  | m + 1, h => by
    unfold isum
    rw [isum_congr (m := m) (fun i hi => h i (by omega)), h m (by omega)]
theorem isum_add (f g : Nat → Int) : ∀ m, isum (fun i => f i + g i) m = isum f m + isum g m
  | 0 => rfl
  | m + 1 => by
    simp only [isum]
    rw [isum_add f g m]
    omega
theorem isum_sub (f g : Nat → Int) : ∀ m, isum (fun i => f i - g i) m = isum f m - isum g m
  | 0 => rfl
  | m + 1 => by
    simp only [isum]
    rw [isum_sub f g m]
    omega
theorem isum_mul (a : Int) (f : Nat → Int) : ∀ m, isum (fun i => a * f i) m = a * isum f m
  | 0 => by simp [isum]
  | m + 1 => by
    simp only [isum]
    rw [isum_mul a f m, Int.mul_add]
theorem isum_neg (f : Nat → Int) (m : Nat) : isum (fun i => -f i) m = -isum f m := by
  have h := isum_sub (fun _ => 0) f m
  have e : isum (fun _ => (0 : Int)) m = 0 := by
    induction m with
    | zero => rfl
    | succ m ih => unfold isum; rw [ih (by rw [isum_sub])]; rfl
  rw [e] at h
  simpa using h
theorem isum_zero (m : Nat) : isum (fun _ => 0) m = 0 := by
  induction m with
  | zero => rfl
  | succ m ih => unfold isum; rw [ih]; rfl
theorem isum_const (c : Int) (m : Nat) : isum (fun _ => c) m = m * c := by
  induction m with
  | zero => simp [isum]
  | succ m ih => unfold isum; rw [ih]; grind
theorem isum_swap (g : Nat → Nat → Int) (n : Nat) : ∀ m, isum (fun k => isum (fun j => g j k) n) m = isum (fun j => isum (fun k => g j k) m) n
  | 0 => by simp only [isum]; rw [isum_zero]
  | m + 1 => by
    simp only [isum]
    rw [isum_swap g n m, isum_add]
theorem isum_first (f : Nat → Int) : ∀ m, isum (fun i => f (i + 1)) m = isum f m + f m - f 0
  | 0 => by simp [isum]
  | m + 1 => by
    simp only [isum]
    rw [isum_first f m]
    omega
/-- What comes again behind n: moved on it is the same sum. -/
theorem isum_move (f : Nat → Int) (n : Nat) (h : ∀ i, f (i + n) = f i) : ∀ d, isum (fun i => f (i + d)) n = isum f n
  | 0 => rfl
  | d + 1 => by
    have e := isum_first (fun i => f (i + d)) n
    rw [isum_move f n h d] at e
    rw [show (fun i => f (i + (d + 1))) = fun i => f (i + 1 + d) by funext i; rw [show i + (d + 1) = i + 1 + d by omega], e, show n + d = d + n by omega, h d, Nat.zero_add]
    omega
theorem isum_bd (f : Nat → Int) (l : Int) : ∀ m, (∀ i, i < m → -l ≤ f i ∧ f i ≤ l) → -(m * l) ≤ isum f m ∧ isum f m ≤ m * l
  | 0, _ => by simp [isum]
  | m + 1, h => by
    have h1 := isum_bd f l m (fun i hi => h i (by omega))
    have h2 := h m (by omega)
    have e : ((m + 1 : Nat) : Int) * l = m * l + l := by grind
    rw [e]
    simp only [isum]
    omega
/-- Sums of what was divided by 2^32, rounded down. -/
theorem isum_floor (f : Nat → Int) : ∀ m, isum f m - 4294967295 * m ≤ 4294967296 * isum (fun i => f i / 4294967296) m ∧ 4294967296 * isum (fun i => f i / 4294967296) m ≤ isum f m
  | 0 => by simp [isum]
  | m + 1 => by
    have h := isum_floor f m
    simp only [isum]
    omega

/-- A root, that may be conjugate. -/
def wv (n : Nat) (iv : Bool) (i : Nat) : Gi := if iv then (rootG n i 16).conj else rootG n i 16
theorem rootG_mod (n : Nat) (i : Nat) (s : Nat) : rootG n ((i % n : Nat) : Int) s = rootG n i s := by
  unfold rootG
  rw [show (((i % n : Nat) : Int) % (n : Int)) = (i : Int) % n by rw [Int.natCast_emod, Int.emod_emod]]
theorem wv_root (n : Nat) (hn : 0 < n) (iv : Bool) (i : Nat) : rootOf (rootsL n 16) iv (i % n) = wv n iv i := by
  have h : (rootsL n 16).getD (i % n) ⟨0, 0⟩ = rootG n i 16 := by
    unfold rootsL
    rw [List.getD_eq_getElem?_getD, List.getElem?_map, Int.toNat_natCast, List.getElem?_range (Nat.mod_lt _ hn)]
    exact rootG_mod n i 16
  unfold rootOf wv
  rw [h]
theorem wv_again (n : Nat) (hn : IsLen n) (iv : Bool) (i q : Nat) : wv n iv (i + n * q) = wv n iv i := by
  have h : rootG n ((i + n * q : Nat) : Int) 16 = rootG n i 16 := by
    rw [← rootG_mod n (i + n * q), Nat.add_mul_mod_self_left, rootG_mod]
  unfold wv
  rw [h]
def gneg (a : Gi) : Gi := ⟨-a.re, -a.im⟩
theorem wv_half (n : Nat) (hn : IsLen n) (iv : Bool) (i : Nat) : wv n iv (i + n / 2) = gneg (wv n iv i) := by
  have h : rootG n ((i + n / 2 : Nat) : Int) 16 = gneg (rootG n i 16) := by
    have e : ((i + n / 2 : Nat) : Int) = (i : Int) + (n : Int) / 4 + (n : Int) / 4 := by unfold IsLen at hn; omega
    rw [e, root_quarter n _ hn, root_quarter n _ hn]
    simp [Gi.turn, gneg]
  unfold wv
  rw [h]
  cases iv <;> simp [gneg, Gi.conj]
theorem half_steps : ([4, 8, 16, 32, 64].all fun n : Nat => (List.range n).all fun j => j == 0 || (List.range n).any fun d => j * d % n == n / 2) = true := by decide +kernel
theorem half_step (n : Nat) (hn : IsLen n) (j : Nat) (hj : j < n) (h0 : j ≠ 0) : ∃ d q, j * d = n / 2 + n * q := by
  have h := List.all_eq_true.1 half_steps n (by unfold IsLen at hn; simp; omega)
  have h := List.all_eq_true.1 h j (List.mem_range.2 hj)
  simp only [Bool.or_eq_true, beq_iff_eq, List.any_eq_true] at h
  obtain ⟨d, _, hd⟩ := h.resolve_left h0
  exact ⟨d, j * d / n, by have := Nat.div_add_mod (j * d) n; omega⟩
/-- All powers of a root but 1 are none together. -/
theorem wv_none (n : Nat) (hn : IsLen n) (iv : Bool) (j : Nat) (hj : j < n) (h0 : j ≠ 0) : isum (fun k => (wv n iv (j * k)).re) n = 0 ∧ isum (fun k => (wv n iv (j * k)).im) n = 0 := by
  obtain ⟨d, q, hd⟩ := half_step n hn j hj h0
  have step : ∀ k, wv n iv (j * (k + d)) = gneg (wv n iv (j * k)) := fun k => by
    rw [Nat.mul_add, hd, ← Nat.add_assoc, wv_again n hn, wv_half n hn]
  have again : ∀ k, wv n iv (j * (k + n)) = wv n iv (j * k) := fun k => by
    rw [Nat.mul_add, Nat.mul_comm j n, wv_again n hn]
  have hr := isum_move (fun k => (wv n iv (j * k)).re) n (fun i => by rw [again]) d
  have hi := isum_move (fun k => (wv n iv (j * k)).im) n (fun i => by rw [again]) d
  simp only [step, gneg] at hr hi
  rw [isum_neg] at hr hi
  omega
theorem wv_zero (n : Nat) (hn : IsLen n) (iv : Bool) : wv n iv 0 = ⟨1099511627776, 0⟩ := by
  have h := root_zero n hn 16 (by omega) (by omega)
  unfold wv
  rw [show ((0 : Nat) : Int) = 0 from rfl, h]
  cases iv <;> rfl
theorem wv_back (n : Nat) (hn : IsLen n) (j k k' : Nat) (hk : (k + k') % n = 0) : wv n true (j * k') = wv n false (j * k) := by
  have hb := root_back n (j * k : Nat) hn 16 (by omega) (by omega)
  have e : rootG n (-((j * k : Nat) : Int)) 16 = rootG n ((j * k' : Nat) : Int) 16 := by
    unfold rootG
    have : (-((j * k : Nat) : Int)) % (n : Int) = ((j * k' : Nat) : Int) % n := by
      obtain ⟨q, hq⟩ : ∃ q, k + k' = n * q := ⟨(k + k') / n, by have := Nat.div_add_mod (k + k') n; omega⟩
      have e2 : ((j * k' : Nat) : Int) = -((j * k : Nat) : Int) + (n : Int) * (j * q : Nat) := by
        have : j * k + j * k' = n * (j * q) := by rw [← Nat.mul_add, hq, Nat.mul_left_comm]
        have h2 : ((j * k : Nat) : Int) + ((j * k' : Nat) : Int) = (n : Int) * ((j * q : Nat) : Int) := by exact_mod_cast this
        omega
      rw [e2, Int.add_mul_emod_self_left]
    rw [this]
  rw [e] at hb
  unfold wv
  simp only [if_true, Bool.false_eq_true, if_false]
  rw [hb]
  simp [Gi.conj]

/-- What bin k is before it is divided: the first m terms of it. -/
def termG (n : Nat) (xs : List Gi) (iv : Bool) (k j : Nat) : Gi := gmul (xs.getD j ⟨0, 0⟩) (wv n iv (j * k))
def sumG (n : Nat) (xs : List Gi) (iv : Bool) (k m : Nat) : Gi := ⟨isum (fun j => (termG n xs iv k j).re) m, isum (fun j => (termG n xs iv k j).im) m⟩
/-- Bin k, in 256ths. -/
def binG (n : Nat) (xs : List Gi) (iv : Bool) (k : Nat) : Gi := ⟨(sumG n xs iv k n).re / 4294967296, (sumG n xs iv k n).im / 4294967296⟩
theorem binG_mod (n : Nat) (hn : IsLen n) (xs : List Gi) (iv : Bool) (k q : Nat) : binG n xs iv (k + n * q) = binG n xs iv k := by
  unfold binG sumG termG
  simp only [Nat.mul_add, show ∀ j : Nat, j * (n * q) = n * (j * q) from fun j => Nat.mul_left_comm j n q, wv_again n hn]
theorem binG_back (n : Nat) (hn : IsLen n) (xs : List Gi) (k k' : Nat) (hk : (k + k') % n = 0) : binG n xs true k' = binG n xs false k := by
  unfold binG sumG termG
  simp only [wv_back n hn _ k k' hk]
theorem binG_zero (n : Nat) (hn : IsLen n) (xs : List Gi) (iv : Bool) : binG n xs iv 0 = ⟨256 * isum (fun j => (xs.getD j ⟨0, 0⟩).re) n, 256 * isum (fun j => (xs.getD j ⟨0, 0⟩).im) n⟩ := by
  unfold binG sumG termG
  simp only [Nat.mul_zero, wv_zero n hn, gmul, Int.mul_zero, Int.sub_zero, Int.zero_add]
  rw [show (fun j => (xs.getD j ⟨0, 0⟩).re * 1099511627776) = fun j => 1099511627776 * (xs.getD j ⟨0, 0⟩).re from funext fun j => Int.mul_comm _ _, show (fun j => (xs.getD j ⟨0, 0⟩).im * 1099511627776) = fun j => 1099511627776 * (xs.getD j ⟨0, 0⟩).im from funext fun j => Int.mul_comm _ _, isum_mul, isum_mul]
  congr 1 <;> omega
theorem isum_only (f : Nat → Int) : ∀ n, (∀ j, j < n → j ≠ 0 → f j = 0) → 0 < n → isum f n = f 0
  | 0, _, h => absurd h (by omega)
  | 1, _, _ => by simp [isum]
  | n + 2, h, _ => by
    have e := isum_only f (n + 1) (fun j hj h0 => h j (by omega) h0) (by omega)
    rw [show n + 2 = (n + 1) + 1 from rfl]
    rw [show isum f (n + 1 + 1) = isum f (n + 1) + f (n + 1) from rfl, e, h (n + 1) (by omega) (by omega)]
    omega
theorem isum_two (a b : Int) (f g : Nat → Int) (m : Nat) : isum (fun k => a * f k - b * g k) m = a * isum f m - b * isum g m ∧ isum (fun k => a * f k + b * g k) m = a * isum f m + b * isum g m := by
  constructor
  · rw [isum_sub, isum_mul, isum_mul]
  · rw [isum_add, isum_mul, isum_mul]
/-- All bins together, before they are divided: a length's times the first number. -/
theorem sums_all (n : Nat) (hn : IsLen n) (xs : List Gi) (iv : Bool) : isum (fun k => (sumG n xs iv k n).re) n = n * 1099511627776 * (xs.getD 0 ⟨0, 0⟩).re ∧ isum (fun k => (sumG n xs iv k n).im) n = n * 1099511627776 * (xs.getD 0 ⟨0, 0⟩).im := by
  have h4 : 0 < n := by unfold IsLen at hn; omega
  have e0 : isum (fun k => (wv n iv (0 * k)).re) n = n * 1099511627776 ∧ isum (fun k => (wv n iv (0 * k)).im) n = 0 := by
    simp only [Nat.zero_mul, wv_zero n hn]
    exact ⟨isum_const _ _, isum_zero _⟩
  unfold sumG termG gmul
  simp only
  constructor
  · rw [isum_swap, isum_only _ n (fun j hj h0 => ?_) h4]
    · rw [(isum_two _ _ _ _ n).1, e0.1, e0.2]
      grind
    · rw [(isum_two _ _ _ _ n).1, (wv_none n hn iv j hj h0).1, (wv_none n hn iv j hj h0).2]
      simp
  · rw [isum_swap, isum_only _ n (fun j hj h0 => ?_) h4]
    · rw [(isum_two _ _ _ _ n).2, e0.1, e0.2]
      grind
    · rw [(isum_two _ _ _ _ n).2, (wv_none n hn iv j hj h0).1, (wv_none n hn iv j hj h0).2]
      simp
/-- All bins together, in 256ths. -/
theorem bins_all (n : Nat) (hn : IsLen n) (xs : List Gi) (iv : Bool) :
    (-(n : Int) ≤ isum (fun k => (binG n xs iv k).re) n - n * 256 * (xs.getD 0 ⟨0, 0⟩).re ∧ isum (fun k => (binG n xs iv k).re) n - n * 256 * (xs.getD 0 ⟨0, 0⟩).re ≤ n) ∧
    (-(n : Int) ≤ isum (fun k => (binG n xs iv k).im) n - n * 256 * (xs.getD 0 ⟨0, 0⟩).im ∧ isum (fun k => (binG n xs iv k).im) n - n * 256 * (xs.getD 0 ⟨0, 0⟩).im ≤ n) := by
  obtain ⟨a, b⟩ := sums_all n hn xs iv
  have fa := isum_floor (fun k => (sumG n xs iv k n).re) n
  have fb := isum_floor (fun k => (sumG n xs iv k n).im) n
  rw [a] at fa
  rw [b] at fb
  unfold binG
  simp only
  rw [show (n : Int) * 1099511627776 * (xs.getD 0 ⟨0, 0⟩).re = 4294967296 * (n * 256 * (xs.getD 0 ⟨0, 0⟩).re) by grind] at fa
  rw [show (n : Int) * 1099511627776 * (xs.getD 0 ⟨0, 0⟩).im = 4294967296 * (n * 256 * (xs.getD 0 ⟨0, 0⟩).im) by grind] at fb
  generalize (n : Int) * 256 * (xs.getD 0 ⟨0, 0⟩).re = p at *
  generalize (n : Int) * 256 * (xs.getD 0 ⟨0, 0⟩).im = q at *
  omega

end Go.Proofs.Ytbdglbpkbpedoaa
