/- Losses as numbers: of a pass, of a plan's passes; what halves loses little; a greater shift loses no more. -/
import Derived.Test.YtmjghakodgihiaaPlanMath
namespace Go.Proofs.Ytmjghakodgihiaa
set_option linter.unusedVariables false
set_option maxRecDepth 100000

/-- Divided by 2 to a number, rounded up. -/
def upB (n : Int) (s : Nat) : Int := -(-n / 2 ^ s)
def baseB (k : Int) : Int := if k = 2 then 224 else 288
def stepB (e k sc s : Int) : Int := if sc = 2 then (if k = 2 then 2 * e + 608 else 4 * e + 1632) else if k = 2 then upB (2 * e) s.toNat + 224 else upB (4 * e) s.toNat + 288
def startB (sc : Int) : Int := if sc = 0 then 91 else 0
def topB (sc k : Int) : Int := if sc = 2 then 0 else if (sc = 1 ∧ k = 2) ∨ (sc = 0 ∧ k = 4) then 2 else if sc = 1 then 3 else 1
/-- May a pass of that kernel shift so? -/
def fitB (sc k l : Int) : Bool := decide (0 ≤ l ∧ l ≤ topB sc k) && (decide (sc = 1) || decide (l = topB sc k))
def fitsB (sc : Int) : List Gi → List Int → Bool
  | [], [] => true
  | p :: ps, l :: ls => fitB sc p.re l && fitsB sc ps ls
  | _, _ => false
def runB (sc : Int) (e : Int) : List Gi → List Int → Int
  | p :: ps, l :: ls => runB sc (stepB e p.re sc l) ps ls
  | _, _ => e
def ofB (sc ke lo : Int) (l : List Int) : Int := runB sc (startB sc) (passL ke lo) l + (if ke = 2 then 224 * lo else 0)
def mayB (e k sc s : Int) : Bool := decide (0 ≤ e ∧ e ≤ 1099511627776) && ((decide (k = 2) || decide (k = 4)) && (decide (0 ≤ sc ∧ sc ≤ 2) && decide (0 ≤ s ∧ s ≤ 3)))
theorem mayB_iff {e k sc s : Int} : mayB e k sc s = true ↔ (0 ≤ e ∧ e ≤ 1099511627776) ∧ (k = 2 ∨ k = 4) ∧ (0 ≤ sc ∧ sc ≤ 2) ∧ (0 ≤ s ∧ s ≤ 3) := by simp [mayB]
theorem fitB_iff {sc k l : Int} : fitB sc k l = true ↔ (0 ≤ l ∧ l ≤ topB sc k) ∧ (sc = 1 ∨ l = topB sc k) := by simp [fitB]

theorem upB_mono (a b : Int) (s : Nat) (h : a ≤ b) : upB a s ≤ upB b s := by
  unfold upB
  have := Int.ediv_le_ediv (show (0 : Int) < 2 ^ s from Int.pow_pos (by decide)) (show -b ≤ -a by omega)
  omega
theorem upB_anti (a : Int) (s t : Nat) (h : 0 ≤ a) (hst : s ≤ t) (ht : t ≤ 4) : upB a t ≤ upB a s := by
  have hs : s = 0 ∨ s = 1 ∨ s = 2 ∨ s = 3 ∨ s = 4 := by omega
  have ht : t = 0 ∨ t = 1 ∨ t = 2 ∨ t = 3 ∨ t = 4 := by omega
  unfold upB
  rcases hs with rfl | rfl | rfl | rfl | rfl <;> rcases ht with rfl | rfl | rfl | rfl | rfl <;> simp only [Int.reducePow] <;> omega
theorem upB_pos (a : Int) (s : Nat) (h : 0 ≤ a) (hs : s ≤ 4) : 0 ≤ upB a s ∧ upB a s ≤ a ∧ a ≤ 16 * upB a s := by
  have hs : s = 0 ∨ s = 1 ∨ s = 2 ∨ s = 3 ∨ s = 4 := by omega
  unfold upB
  rcases hs with rfl | rfl | rfl | rfl | rfl <;> simp only [Int.reducePow] <;> omega
/-- With more lost ahead not less is lost. -/
theorem stepB_mono (e e' k sc s : Int) (h : e ≤ e') : stepB e k sc s ≤ stepB e' k sc s := by
  have h2 := upB_mono (2 * e) (2 * e') s.toNat (by omega)
  have h4 := upB_mono (4 * e) (4 * e') s.toNat (by omega)
  unfold stepB
  repeat' split
  all_goals omega
/-- With a greater shift not more. -/
theorem stepB_anti (e k sc s s' : Int) (he : 0 ≤ e) (h : s ≤ s') (h0 : 0 ≤ s) (h4 : s' ≤ 4) : stepB e k sc s' ≤ stepB e k sc s := by
  have h2 := upB_anti (2 * e) s.toNat s'.toNat (by omega) (by omega) (by omega)
  have h4 := upB_anti (4 * e) s.toNat s'.toNat (by omega) (by omega) (by omega)
  unfold stepB
  repeat' split
  all_goals omega
theorem stepB_pos (e k sc s : Int) (he : 0 ≤ e) (hs : s ≤ 4) : 0 ≤ stepB e k sc s ∧ stepB e k sc s ≤ 4 * e + 1632 := by
  have h2 := upB_pos (2 * e) s.toNat (by omega) (by omega)
  have h4 := upB_pos (4 * e) s.toNat (by omega) (by omega)
  unfold stepB
  repeat' split
  all_goals omega
/-- A pass loses something always. -/
theorem stepB_more (e k sc s : Int) (he : 0 ≤ e) (hs : s ≤ 3) : e / 8 < stepB e k sc s := by
  have key : ∀ t : Nat, t ≤ 3 → ∀ c : Int, 1 ≤ c → e / 8 ≤ upB (c * e) t := fun t ht c hc => by
    refine Int.le_trans ?_ (upB_mono e (c * e) t (by have := Int.mul_le_mul_of_nonneg_right hc he; omega))
    have hs : t = 0 ∨ t = 1 ∨ t = 2 ∨ t = 3 := by omega
    unfold upB
    rcases hs with rfl | rfl | rfl | rfl <;> simp only [Int.reducePow] <;> omega
  have h2 := key s.toNat (by omega) 2 (by omega)
  have h4 := key s.toNat (by omega) 4 (by omega)
  unfold stepB
  repeat' split
  all_goals omega

theorem topB_le (sc k : Int) : 0 ≤ topB sc k ∧ topB sc k ≤ 3 := by
  unfold topB
  repeat' split
  all_goals omega
theorem runB_mono (sc : Int) (ps : List Gi) : ∀ (ls : List Int) (e e' : Int), e ≤ e' → runB sc e ps ls ≤ runB sc e' ps ls := by
  induction ps with
  | nil => intro ls e e' h; exact h
  | cons p ps ih =>
    intro ls e e' h
    cases ls with
    | nil => exact h
    | cons l ls => exact ih ls _ _ (stepB_mono _ _ _ _ _ h)
theorem runB_pos (sc : Int) (ps : List Gi) : ∀ (ls : List Int) (e : Int), 0 ≤ e → fitsB sc ps ls = true → 0 ≤ runB sc e ps ls := by
  induction ps with
  | nil => intro ls e h _; exact h
  | cons p ps ih =>
    intro ls e h hf
    cases ls with
    | nil => exact h
    | cons l ls =>
      simp only [fitsB, Bool.and_eq_true, fitB_iff] at hf
      have := topB_le sc p.re
      exact ih ls _ (stepB_pos _ _ _ _ h (by omega)).1 hf.2
theorem fitsB_len (sc : Int) (ps : List Gi) : ∀ ls : List Int, fitsB sc ps ls = true → ls.length = ps.length := by
  induction ps with
  | nil => intro ls h; cases ls with | nil => rfl | cons l ls => cases h
  | cons p ps ih =>
    intro ls h
    cases ls with
    | nil => cases h
    | cons l ls =>
      simp only [fitsB, Bool.and_eq_true] at h
      simp [ih ls h.2]
/-- With one shift greater not more is lost. -/
theorem runB_more (sc : Int) (ps : List Gi) : ∀ (ls : List Int) (e : Int) (i : Nat) (x : Int), 0 ≤ e → fitsB sc ps ls = true → fitsB sc ps (ls.set i (x + 1)) = true → ls[i]? = some x → runB sc e ps (ls.set i (x + 1)) ≤ runB sc e ps ls := by
  induction ps with
  | nil => intro ls e i x h hf hg hx; cases ls with | nil => cases hx | cons l ls => cases hf
  | cons p ps ih =>
    intro ls e i x h hf hg hx
    cases ls with
    | nil => cases hx
    | cons l ls =>
      cases i with
      | zero =>
        simp only [List.getElem?_cons_zero, Option.some.injEq] at hx
        subst hx
        simp only [List.set_cons_zero, fitsB, Bool.and_eq_true, fitB_iff] at hf hg
        simp only [List.set_cons_zero, runB]
        have := topB_le sc p.re
        exact runB_mono _ _ _ _ _ (stepB_anti _ _ _ _ _ h (by omega) (by omega) (by omega))
      | succ i =>
        simp only [List.set_cons_succ, fitsB, Bool.and_eq_true, fitB_iff] at hf hg
        simp only [List.set_cons_succ, runB]
        have := topB_le sc p.re
        exact ih ls _ i x (stepB_pos _ _ _ _ h (by omega)).1 hf.2 hg.2 (by simpa using hx)
/-- What halves shifts as it must. -/
theorem fitsB_fixed (sc : Int) (hsc : sc ≠ 1) (ps : List Gi) : ∀ ls : List Int, fitsB sc ps ls = true → ls = ps.map fun p => topB sc p.re := by
  induction ps with
  | nil => intro ls h; cases ls with | nil => rfl | cons l ls => cases h
  | cons p ps ih =>
    intro ls h
    cases ls with
    | nil => cases h
    | cons l ls =>
      simp only [fitsB, Bool.and_eq_true, fitB_iff] at h
      rw [List.map_cons, ← ih ls h.2]
      rcases h.1.2 with e | e
      · exact absurd e hsc
      · rw [e]
theorem half_least (ke lo : Int) (l : List Int) (k0 : 0 ≤ ke) (k1 : ke < 3) (h0 : 2 ≤ lo) (h1 : lo < 7) (hf : fitsB 0 (passL ke lo) l = true) : ofB 0 ke lo l ≤ 64 * (6 * lo + 4) := by
  rw [fitsB_fixed 0 (by decide) _ _ hf]
  have hk : ke = 0 ∨ ke = 1 ∨ ke = 2 := by omega
  have hl : lo = 2 ∨ lo = 3 ∨ lo = 4 ∨ lo = 5 ∨ lo = 6 := by omega
  rcases hk with rfl | rfl | rfl <;> rcases hl with rfl | rfl | rfl | rfl | rfl <;> decide +kernel
theorem passG_kern (ke lo n : Int) : ∀ (f : Nat) (h : Int), ∀ x ∈ passG ke lo n f h, x.re = 2 ∨ x.re = 4
  | 0, h, x, hx => by cases hx
  | f + 1, h, x, hx => by
    unfold passG at hx
    split at hx
    · rcases List.mem_cons.1 hx with rfl | hx
      · simp only [passK]; split <;> simp
      · exact passG_kern ke lo n f _ x hx
    · cases hx
theorem passL_kern (ke lo : Int) : ∀ x ∈ passL ke lo, x.re = 2 ∨ x.re = 4 := by
  unfold passL
  split
  · intro x hx; cases hx
  · exact passG_kern _ _ _ _ _
theorem passL_len6 (ke lo : Int) (k0 : 0 ≤ ke) (k1 : ke < 3) (h0 : 2 ≤ lo) (h1 : lo < 7) : (passL ke lo).length ≤ 6 := by
  have hk : ke = 0 ∨ ke = 1 ∨ ke = 2 := by omega
  have hl : lo = 2 ∨ lo = 3 ∨ lo = 4 ∨ lo = 5 ∨ lo = 6 := by omega
  rcases hk with rfl | rfl | rfl <;> rcases hl with rfl | rfl | rfl | rfl | rfl <;> decide +kernel
theorem runB_snoc (sc : Int) (p : Gi) (l : Int) : ∀ (ps : List Gi) (ls : List Int) (e : Int), ps.length = ls.length → runB sc e (ps ++ [p]) (ls ++ [l]) = stepB (runB sc e ps ls) p.re sc l
  | [], [], e, _ => rfl
  | [], l' :: ls, e, h => by simp at h
  | p' :: ps, [], e, h => by simp at h
  | p' :: ps, l' :: ls, e, h => by
    simp only [List.cons_append, runB]
    exact runB_snoc sc p l ps ls _ (by simpa using h)
theorem fitsB_snoc (sc : Int) (p : Gi) (l : Int) : ∀ (ps : List Gi) (ls : List Int), ps.length = ls.length → fitsB sc (ps ++ [p]) (ls ++ [l]) = (fitsB sc ps ls && fitB sc p.re l)
  | [], [], _ => by simp [fitsB]
  | [], l' :: ls, h => by simp at h
  | p' :: ps, [], h => by simp at h
  | p' :: ps, l' :: ls, h => by
    simp only [List.cons_append, fitsB]
    rw [fitsB_snoc sc p l ps ls (by simpa using h), Bool.and_assoc]
theorem fitsB_no (sc : Int) (ps : List Gi) (ls : List Int) (h : ps.length ≠ ls.length) : fitsB sc ps ls = false := by
  cases hf : fitsB sc ps ls
  · rfl
  · exact absurd (fitsB_len sc ps ls hf).symm h
theorem fitsB_at (sc : Int) (ps : List Gi) : ∀ (ls : List Int) (j : Nat) (p : Gi) (l : Int), fitsB sc ps ls = true → ps[j]? = some p → ls[j]? = some l → fitB sc p.re l = true := by
  induction ps with
  | nil => intro ls j p l hf hp; cases hp
  | cons q ps ih =>
    intro ls j p l hf hp hl
    cases ls with
    | nil => cases hl
    | cons m ls =>
      simp only [fitsB, Bool.and_eq_true] at hf
      cases j with
      | zero => simp only [List.getElem?_cons_zero, Option.some.injEq] at hp hl; rw [← hp, ← hl]; exact hf.1
      | succ j => exact ih ls j p l hf.2 (by simpa using hp) (by simpa using hl)
theorem fitsB_off (sc : Int) (ps : List Gi) : ∀ (ls : List Int) (j : Nat) (p : Gi) (l : Int), ps[j]? = some p → ls[j]? = some l → fitB sc p.re l = false → fitsB sc ps ls = false := by
  intro ls j p l hp hl h
  cases hf : fitsB sc ps ls
  · rfl
  · rw [fitsB_at sc ps ls j p l hf hp hl] at h; cases h
theorem fitsB_all (sc : Int) (ps : List Gi) : ∀ (ls : List Int), ps.length = ls.length → (∀ (j : Nat) p l, ps[j]? = some p → ls[j]? = some l → fitB sc p.re l = true) → fitsB sc ps ls = true := by
  induction ps with
  | nil => intro ls h _; cases ls with | nil => rfl | cons l ls => simp at h
  | cons q ps ih =>
    intro ls h hf
    cases ls with
    | nil => simp at h
    | cons m ls =>
      simp only [fitsB, Bool.and_eq_true]
      exact ⟨hf 0 q m rfl rfl, ih ls (by simpa using h) fun j p l hp hl => hf (j + 1) p l (by simpa using hp) (by simpa using hl)⟩
/-- What is lost behind the first passes. -/
def lostB (sc ke lo : Int) (ls : List Int) (j : Nat) : Int := runB sc (startB sc) ((passL ke lo).take j) (ls.take j)
theorem runB_le (sc : Int) : ∀ (ps : List Gi) (ls : List Int) (e : Int), 0 ≤ e → (∀ (j : Nat) p l, ps[j]? = some p → ls[j]? = some l → fitB sc p.re l = true) → 0 ≤ runB sc e ps ls ∧ runB sc e ps ls + 1000 ≤ (e + 1000) * 4 ^ ps.length
  | [], ls, e, h, _ => by simp [runB, h]
  | p :: ps, [], e, h, _ => by
    refine ⟨h, ?_⟩
    have : (1 : Int) ≤ 4 ^ (p :: ps).length := Int.pow_pos (by decide)
    have := Int.mul_le_mul_of_nonneg_left this (show 0 ≤ e + 1000 by omega)
    simp only [runB]
    omega
  | p :: ps, l :: ls, e, h, hf => by
    have h0 := fitB_iff.1 (hf 0 p l rfl rfl)
    have ht := topB_le sc p.re
    have hs := stepB_pos e p.re sc l h (by omega)
    have ih := runB_le sc ps ls (stepB e p.re sc l) hs.1 (fun j p l hp hl => hf (j + 1) p l (by simpa using hp) (by simpa using hl))
    refine ⟨ih.1, Int.le_trans ih.2 ?_⟩
    have hp : (0 : Int) ≤ 4 ^ ps.length := Int.le_of_lt (Int.pow_pos (by decide))
    have h1 := Int.mul_le_mul_of_nonneg_right (show stepB e p.re sc l + 1000 ≤ (e + 1000) * 4 by omega) hp
    rw [List.length_cons, Int.pow_succ, Int.mul_comm (4 ^ ps.length) 4, ← Int.mul_assoc]
    exact h1
theorem lostB_nums (sc ke lo : Int) (ls : List Int) (j : Nat) (k0 : 0 ≤ ke) (k1 : ke < 3) (h0 : 2 ≤ lo) (h1 : lo < 7) (hf : fitsB sc (passL ke lo) ls = true) : 0 ≤ lostB sc ke lo ls j ∧ lostB sc ke lo ls j ≤ 16777216 := by
  have h6 := passL_len6 ke lo k0 k1 h0 h1
  have hst : 0 ≤ startB sc ∧ startB sc ≤ 91 := by unfold startB; split <;> omega
  have hr := runB_le sc ((passL ke lo).take j) (ls.take j) (startB sc) hst.1 (fun i p l hp hl => by
    rw [List.getElem?_take] at hp hl
    split at hp
    · rename_i hij
      rw [if_pos hij] at hl
      exact fitsB_at sc _ ls i p l hf hp hl
    · cases hp)
  refine ⟨hr.1, ?_⟩
  have hlen : ((passL ke lo).take j).length ≤ 6 := by rw [List.length_take]; omega
  have h4 : (4 : Int) ^ ((passL ke lo).take j).length ≤ 4 ^ 6 := by
    generalize ((passL ke lo).take j).length = m at *
    have : m = 0 ∨ m = 1 ∨ m = 2 ∨ m = 3 ∨ m = 4 ∨ m = 5 ∨ m = 6 := by omega
    rcases this with rfl | rfl | rfl | rfl | rfl | rfl | rfl <;> decide
  have hp : (0 : Int) ≤ 4 ^ ((passL ke lo).take j).length := Int.le_of_lt (Int.pow_pos (by decide))
  generalize (4 : Int) ^ ((passL ke lo).take j).length = q at *
  have h2 := Int.mul_le_mul_of_nonneg_right (show startB sc + 1000 ≤ 1091 by omega) hp
  have h3 : lostB sc ke lo ls j = runB sc (startB sc) ((passL ke lo).take j) (ls.take j) := rfl
  omega
end Go.Proofs.Ytmjghakodgihiaa
