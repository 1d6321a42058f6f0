import Derived.Test.YtdignnmpfkgkoaaGreatRealUntanglesS21
import Derived.Test.YtdignnmpfkgkoaaGreatRealUntanglesS30
namespace Go.Proofs.YtdignnmpfkgkoaaGreat
section
open Go.ChangeShapes Go.WideShapes Go.ChangeAt Go.RowKit
set_option linter.unusedVariables false
set_option maxRecDepth 100000
structure PlF (fo b p lo ke sc mo : Int) (L n B : Nat) : Prop where
 fb : FB fo b p
 ok : okF fo lo ke sc mo = true
 lo : lo = L
 n : n = 2 ^ L
 bits : b = B + 2
section
variable {fo b p lo ke sc mo : Int} {L n B : Nat}
theorem PlF.lens (H : PlF fo b p lo ke sc mo L n B) : (2 ≤ L ∧ L ≤ 6) ∧ (4 ≤ n ∧ n ≤ 64) ∧ IsLen (n : Int) := by
 have h := okF_iff.1 H.ok
 have hl := H.lo
 have hL : L = 2 ∨ L = 3 ∨ L = 4 ∨ L = 5 ∨ L = 6 := by omega
 have hn := H.n
 unfold IsLen
 rcases hL with rfl | rfl | rfl | rfl | rfl <;> simp only [Nat.reducePow] at hn <;> omega
theorem PlF.kinds (H : PlF fo b p lo ke sc mo L n B) : (mo = 0 ∨ mo = 1 ∨ mo = 2) ∧ (sc = 0 ∨ sc = 1 ∨ sc = 2) ∧ (ke = 2 → sc = 0) ∧ 0 ≤ ke ∧ ke < 3 := by
 have h := okF_iff.1 H.ok
 refine ⟨by omega, by omega, h.2, by omega, by omega⟩
theorem PlF.sizes (H : PlF fo b p lo ke sc mo L n B) : (fo = 0 ∧ b = 15 ∧ p = 32768 ∧ B = 13) ∨ (fo = 1 ∧ b = 31 ∧ p = 2147483648 ∧ B = 29) := by
 have h := H.bits
 rcases H.fb with ⟨h1, h2, h3⟩ | ⟨h1, h2, h3⟩
 ·left; exact ⟨h1, h2, h3, by omega⟩
 ·right; exact ⟨h1, h2, h3, by omega⟩
end
def tw (n B : Nat) : List Gi := rootsL n (56 - B)
theorem tw_eq (n B : Nat) : tw n B = (List.range n).map fun k : Nat => rootG n k (56 - B) := by unfold tw rootsL; rw [Int.toNat_natCast]
theorem tw_len (n B : Nat) : (tw n B).length = n := by rw [tw_eq]; simp
theorem shOf_bd (sc k p : Int) (xs : List Gi) : 0 ≤ shOf sc k p xs ∧ shOf sc k p xs ≤ 3 := by
 unfold shOf preOf
 repeat' split
 all_goals omega
theorem flip_mem {L : Nat} {xs : List Gi} (h : xs.length = 2 ^ L) {a : Gi} (ha : a ∈ flipL L xs) : a ∈ xs := by
 unfold flipL at ha
 obtain ⟨k, hk, rfl⟩ := List.mem_map.1 ha
 exact getD_mem xs _ (by rw [h]; exact fl_lt L k)
theorem rnd_one (x p : Int) (mo : Int) (hm : mo = 0 ∨ mo = 1 ∨ mo = 2) (h0 : -(2 * p) ≤ x) (h1 : x ≤ 2 * p) : -p ≤ rnd x 1 mo ∧ rnd x 1 mo ≤ p := by
 have e1 := rnd_mul p 1 mo hm
 have e2 := rnd_mul (-p) 1 mo hm
 have a := rnd_mono x (p * 2 ^ 1) 1 mo hm (by omega)
 have b := rnd_mono (-p * 2 ^ 1) x 1 mo hm (by omega)
 rw [e1] at a
 rw [e2] at b
 exact ⟨b, a⟩
theorem rnd_none (x : Int) (mo : Int) (hm : mo = 0 ∨ mo = 1 ∨ mo = 2) : rnd x 0 mo = x := by
 have := rnd_mul x 0 mo hm
 simpa using this
theorem upR_bd (x m q : Int) (r : Nat) (hx : absI x ≤ m) (hm : m * 2 ^ r ≤ q) : -q ≤ x * 2 ^ r ∧ x * 2 ^ r ≤ q := by
 have hp : (0 : Int) < 2 ^ r := Int.pow_pos (by decide)
 have h1 : x ≤ m := by unfold absI at hx; split at hx <;> omega
 have h2 : -x ≤ m := by unfold absI at hx; split at hx <;> omega
 have a := Int.mul_le_mul_of_nonneg_right h1 (Int.le_of_lt hp)
 have b := Int.mul_le_mul_of_nonneg_right h2 (Int.le_of_lt hp)
 rw [Int.neg_mul] at b
 omega
section
variable {fo b p lo ke sc mo : Int} {L n B : Nat} {xs : List Gi}
theorem ready_part (H : PlF fo b p lo ke sc mo L n B) (hm : ManB p xs) (a : Gi) (ha : a ∈ xs) :
 ((-p ≤ (shG (atFirst sc p xs) mo a).re ∧ (shG (atFirst sc p xs) mo a).re ≤ p - 1) ∧ (-p ≤ (shG (atFirst sc p xs) mo a).im ∧ (shG (atFirst sc p xs) mo a).im ≤ p - 1)) ∧
 (sc = 0 → ((-(p / 2) ≤ (shG (atFirst sc p xs) mo a).re ∧ (shG (atFirst sc p xs) mo a).re ≤ p / 2) ∧ (-(p / 2) ≤ (shG (atFirst sc p xs) mo a).im ∧ (shG (atFirst sc p xs) mo a).im ≤ p / 2))) := by
 obtain ⟨hmo, hsc, _⟩ := H.kinds
 have hp : p = 2 * (p / 2) ∧ 4 ≤ p := by rcases H.sizes with h | h <;> omega
 have h := hm a ha
 unfold atFirst
 rcases hsc with rfl | rfl | rfl
 ·rw [if_pos rfl]
  have e1 := rnd_one a.re (p / 2) mo hmo (by omega) (by omega)
  have e2 := rnd_one a.im (p / 2) mo hmo (by omega) (by omega)
  unfold shG
  rw [if_pos (by decide)]
  simp only [show (1 : Int).toNat = 1 from rfl]
  exact ⟨by omega, fun _ => by omega⟩
 ·rw [if_neg (by decide), if_pos rfl]
  refine ⟨?_, fun h => absurd h (by decide)⟩
  by_cases hr : room p (maxG xs) = 0
  ·rw [hr]
   simp only [shG, Int.natCast_zero, Int.neg_zero, Int.le_refl, if_true, Int.toNat_zero, rnd_none _ mo hmo]
   exact h
  ·have hf := (room_fits p (maxG xs) (by omega)).2
   have hg := maxG_ge xs a ha
   have u1 := upR_bd a.re (maxG xs) (p / 2) _ hg.1 hf
   have u2 := upR_bd a.im (maxG xs) (p / 2) _ hg.2 hf
   unfold shG
   rw [if_neg (by omega)]
   simp only [Int.neg_neg, Int.toNat_natCast]
   omega
 ·rw [if_neg (by decide), if_neg (by decide)]
  refine ⟨?_, fun h => absurd h (by decide)⟩
  simp only [shG, Int.le_refl, if_true, Int.toNat_zero, rnd_none _ mo hmo]
  exact h
theorem ready_mem (H : PlF fo b p lo ke sc mo L n B) (hl : xs.length = n) {y : Gi} (hy : y ∈ (readyB ke sc mo p L xs).X) : ∃ a ∈ xs, y = shG (atFirst sc p xs) mo a := by
 obtain ⟨a, ha, rfl⟩ := List.mem_map.1 hy
 refine ⟨a, ?_, rfl⟩
 split at ha
 ·exact ha
 ·exact flip_mem (by rw [hl, H.n]) ha
theorem ready_man (H : PlF fo b p lo ke sc mo L n B) (hl : xs.length = n) (hm : ManB p xs) : ManB p (readyB ke sc mo p L xs).X := by
 intro y hy
 obtain ⟨a, ha, rfl⟩ := ready_mem H hl hy
 exact (ready_part H hm a ha).1
theorem ready_len (H : PlF fo b p lo ke sc mo L n B) (hl : xs.length = n) : (readyB ke sc mo p L xs).X.length = n := by
 unfold readyB
 rw [List.length_map]
 split
 ·exact hl
 ·rw [flipL_len, H.n]
theorem sqR_le (x q : Int) (h0 : -q ≤ x) (h1 : x ≤ q) : x * x ≤ q * q := by
 have a : 0 ≤ (q - x) * (q + x) := Int.mul_nonneg (by omega) (by omega)
 have e : (q - x) * (q + x) = q * q - x * x := by grind
 omega
theorem ready_half (H : PlF fo b p lo ke sc mo L n B) (hs : sc = 0) (hl : xs.length = n) (hm : ManB p xs) : AllN (2 * ((p / 2) * (p / 2))) (readyB ke sc mo p L xs).X := by
 intro y hy
 obtain ⟨a, ha, rfl⟩ := ready_mem H hl hy
 have h := (ready_part H hm a ha).2 hs
 have e1 := sqR_le _ _ h.1.1 h.1.2
 have e2 := sqR_le _ _ h.2.1 h.2.2
 unfold nq
 omega
theorem behind_X (hs : sc ≠ 2) (iv : Bool) (ws : List Gi) : ∀ (l : List Gi) (b0 : BV), (l.foldl (nextB sc mo p iv B ws) b0).X = l.foldl (stepV sc p B mo iv ws) b0.X
 | [], b0 => rfl
 | q :: l, b0 => by
   rw [List.foldl_cons, List.foldl_cons, behind_X hs iv ws l]
   simp only [nextB, if_neg hs]
theorem next_len (iv : Bool) (ws : List Gi) (b0 : BV) (q : Gi) : (nextB sc mo p iv B ws b0 q).X.length = b0.X.length := by
 unfold nextB stepV
 split
 ·rw [List.length_map, passV_len]
 ·exact passV_len _ _ _ _ _ _ _
theorem bd_man {p : Int} {ys : List Gi} (h : ∀ y ∈ ys, Bd (p - 1) y) : ManB p ys := by
 intro y hy
 have := bd_iff.1 (h y hy)
 omega
theorem man_bd {p : Int} {ys : List Gi} (h : ManB p ys) : ∀ y ∈ ys, Bd p y := by
 intro y hy
 have := h y hy
 exact bd_iff.2 (by omega)
theorem block_man (H : PlF fo b p lo ke sc mo L n B) (hs : sc = 1) (iv : Bool) {ys : List Gi} (hl : ys.length = n) (hm : ManB p ys) (q : Gi) (hq : Fits n q) : ManB p (stepV sc p B mo iv (tw n B) ys q) := by
 obtain ⟨hmo, _⟩ := H.kinds
 obtain ⟨_, h4, hlen⟩ := H.lens
 subst hs
 rw [tw_eq]
 rcases H.sizes with ⟨_, _, rfl, rfl⟩ | ⟨_, _, rfl, rfl⟩
 ·exact bd_man (stepV_fits15 n hlen mo iv hmo ys q hq hl (man_bd hm))
 ·exact bd_man (stepV_fits31 n hlen mo iv hmo ys q hq hl (man_bd hm))
theorem behind_man (H : PlF fo b p lo ke sc mo L n B) (iv : Bool) (hl : xs.length = n) (hm : ManB p xs) : ∀ j, j ≤ (passL ke lo).length → (behindB ke lo sc mo p iv L B (tw n B) xs j).X.length = n ∧ ManB p (behindB ke lo sc mo p iv L B (tw n B) xs j).X := by
 obtain ⟨hmo, hsc, _, k0, k1⟩ := H.kinds
 obtain ⟨⟨l2, l6⟩, h4, hlen⟩ := H.lens
 have hlo := H.lo
 have hfit : ∀ q ∈ passL ke lo, Fits n q := by
  have := passL_fits ke lo k0 k1 (by omega) (by omega)
  rw [H.n]
  rw [show lo.toNat = L by omega] at this
  exact this
 have h6 : (passL ke lo).length ≤ 6 := by
  have hk : ke = 0 ∨ ke = 1 ∨ ke = 2 := by omega
  have hl : lo = 2 ∨ lo = 3 ∨ lo = 4 ∨ lo = 5 ∨ lo = 6 := by omega
  rcases hk with rfl | rfl | rfl <;> rcases hl with rfl | rfl | rfl | rfl | rfl <;> decide +kernel
 have hlens : ∀ j, j ≤ (passL ke lo).length → (behindB ke lo sc mo p iv L B (tw n B) xs j).X.length = n := by
  intro j
  induction j with
  | zero => intro _; exact ready_len H hl
  | succ j ih =>
    intro hj
    obtain ⟨q, hq⟩ := get_of_lt (show j < (passL ke lo).length by omega)
    rw [behindB_next hq, next_len]
    exact ih (by omega)
 intro j hj
 refine ⟨hlens j hj, ?_⟩
 rcases hsc with rfl | rfl | rfl
 ·
  have hr := ready_half H rfl hl hm
  have e : (behindB ke lo 0 mo p iv L B (tw n B) xs j).X = ((passL ke lo).take j).foldl (stepV 0 p B mo iv (tw n B)) (readyB ke 0 mo p L xs).X := behind_X (by decide) iv (tw n B) _ _
  have hk : ∀ q ∈ (passL ke lo).take j, q.re = 2 ∨ q.re = 4 := fun q hq => (hfit q (List.mem_of_mem_take hq)).1
  have hc : ((passL ke lo).take j).length ≤ 6 := by rw [List.length_take]; omega
  rw [e, tw_eq]
  rcases H.sizes with ⟨_, _, rfl, rfl⟩ | ⟨_, _, rfl, rfl⟩
  ·have := runV_half15 n hlen mo iv hmo ((passL ke lo).take j) _ _ hk hr (by decide) (by omega)
   exact fun y hy => by
    have hy := nq_in15 y (Int.le_trans (this y hy) (by omega))
    omega
  ·have := runV_half31 n hlen mo iv hmo ((passL ke lo).take j) _ _ hk hr (by decide) (by omega)
   exact fun y hy => by
    have hy := nq_in31 y (Int.le_trans (this y hy) (by omega))
    omega
 ·induction j with
  | zero => exact ready_man H hl hm
  | succ j ih =>
    obtain ⟨q, hq⟩ := get_of_lt (show j < (passL ke lo).length by omega)
    rw [behindB_next hq]
    simp only [nextB, show ¬ ((1 : Int) = 2) by decide, if_false]
    exact block_man H rfl iv (hlens j (by omega)) (ih (by omega)) q (hfit q (List.mem_of_getElem? hq))
 ·cases j with
  | zero => exact ready_man H hl hm
  | succ j =>
    obtain ⟨q, hq⟩ := get_of_lt (show j < (passL ke lo).length by omega)
    rw [behindB_next hq]
    simp only [nextB, if_true]
    exact manB_clamp (by rcases H.sizes with h | h <;> omega) _
end
end
section
set_option linter.unusedVariables false
set_option linter.unusedSimpArgs false
set_option maxRecDepth 100000
def untG (T : Nat) (mo : Int) (a b w : Gi) : Gi := grnd (T + 2) mo (gadd (gscale T (gadd a b)) (gmul (Gi.turn (-1) (gsub a b)) w))
theorem turn_back (a : Gi) : Gi.turn (-1) a = ⟨a.im, -a.re⟩ := by unfold Gi.turn; simp
def packG (rs : List Int) : List Gi := (List.range (rs.length / 2)).map fun j => ⟨rs.getD (2 * j) 0, rs.getD (2 * j + 1) 0⟩
theorem packG_len (rs : List Int) : (packG rs).length = rs.length / 2 := by simp [packG]
def untAt (T : Nat) (mo : Int) (X ws : List Gi) (k : Nat) : Gi := untG T mo (X.getD (k % X.length) ⟨0, 0⟩) (X.getD ((X.length - k) % X.length) ⟨0, 0⟩).conj (ws.getD k ⟨0, 0⟩)
def untL (T : Nat) (mo : Int) (X ws : List Gi) : List Gi := (List.range (X.length + 1)).map (untAt T mo X ws)
theorem untL_len (T : Nat) (mo : Int) (X ws : List Gi) : (untL T mo X ws).length = X.length + 1 := by simp [untL]
end
end Go.Proofs.YtdignnmpfkgkoaaGreat
