/- Plans as numbers: which may be, their passes, all in order. -/
import Derived.Test.YtomjldaonpjloaaPlain
namespace Go.Proofs.Ytomjldaonpjloaa
set_option linter.unusedVariables false
set_option maxRecDepth 100000

/-- A plan. -/
structure PlanV where
  fo : Int
  lo : Int
  ke : Int
  sc : Int
  mo : Int
  iv : Bool

def PlanV.same (p q : PlanV) : Bool := decide (p.fo = q.fo) && decide (p.lo = q.lo) && decide (p.ke = q.ke) && decide (p.sc = q.sc) && decide (p.mo = q.mo) && (p.iv == q.iv)
theorem PlanV.same_eq {p q : PlanV} : p.same q = true ↔ p = q := by
  obtain ⟨a, b, c, d, e, f⟩ := p
  obtain ⟨a', b', c', d', e', f'⟩ := q
  simp [PlanV.same, and_assoc]
instance : DecidableEq PlanV := fun p q => decidable_of_iff _ PlanV.same_eq

def fieldsOk (fo lo ke sc mo : Int) : Bool := decide (0 ≤ fo ∧ fo < 2) && (decide (2 ≤ lo ∧ lo < 7) && (decide (0 ≤ ke ∧ ke < 3) && (decide (0 ≤ sc ∧ sc < 3) && decide (0 ≤ mo ∧ mo < 3))))
def okF (fo lo ke sc mo : Int) : Bool := fieldsOk fo lo ke sc mo && !(decide (ke = 2) && !decide (sc = 0))
def okP (p : PlanV) : Bool := okF p.fo p.lo p.ke p.sc p.mo
theorem fieldsOk_iff {fo lo ke sc mo : Int} : fieldsOk fo lo ke sc mo = true ↔ (0 ≤ fo ∧ fo < 2) ∧ (2 ≤ lo ∧ lo < 7) ∧ (0 ≤ ke ∧ ke < 3) ∧ (0 ≤ sc ∧ sc < 3) ∧ (0 ≤ mo ∧ mo < 3) := by
  simp [fieldsOk]
theorem okF_iff {fo lo ke sc mo : Int} : okF fo lo ke sc mo = true ↔ ((0 ≤ fo ∧ fo < 2) ∧ (2 ≤ lo ∧ lo < 7) ∧ (0 ≤ ke ∧ ke < 3) ∧ (0 ≤ sc ∧ sc < 3) ∧ (0 ≤ mo ∧ mo < 3)) ∧ (ke = 2 → sc = 0) := by
  unfold okF
  rw [Bool.and_eq_true, fieldsOk_iff]
  by_cases h : ke = 2 <;> by_cases k : sc = 0 <;> simp [h, k]

/-- A kernel's pass. -/
def passK (ke lo h : Int) : Int := if ke = 0 ∨ (lo.tmod 2 = 1 ∧ h = 1) then 2 else 4
/-- The passes from blocks of h on, to n. -/
def passG (ke lo n : Int) : Nat → Int → List Gi
  | 0, _ => []
  | f + 1, h => if h < n then ⟨passK ke lo h, h⟩ :: passG ke lo n f (h * passK ke lo h) else []
/-- A plan's passes. -/
def passL (ke lo : Int) : List Gi := if ke = 2 then [] else passG ke lo (2 ^ lo.toNat) 7 1

theorem passK_two (ke lo h : Int) : 2 ≤ passK ke lo h ∧ passK ke lo h ≤ 4 := by
  unfold passK
  split <;> omega
/-- What is left of a plan's passes, from blocks of h on. -/
def Rest (ke lo n h : Int) (l : List Gi) : Prop := ∃ f : Nat, n ≤ h * 2 ^ f ∧ l = passG ke lo n f h
theorem Rest.done {ke lo n h : Int} {l : List Gi} (H : Rest ke lo n h l) (hn : ¬ h < n) : l = [] := by
  obtain ⟨f, _, rfl⟩ := H
  cases f with
  | zero => rfl
  | succ f => simp [passG, hn]
theorem Rest.step {ke lo n h : Int} {l : List Gi} (H : Rest ke lo n h l) (h1 : 1 ≤ h) (hn : h < n) : ∃ l', l = ⟨passK ke lo h, h⟩ :: l' ∧ Rest ke lo n (h * passK ke lo h) l' := by
  obtain ⟨f, hf, rfl⟩ := H
  cases f with
  | zero => simp at hf; omega
  | succ f =>
    refine ⟨passG ke lo n f (h * passK ke lo h), by rw [passG, if_pos hn], f, ?_, rfl⟩
    have k2 := (passK_two ke lo h).1
    have e : h * 2 ^ (f + 1) = h * 2 * 2 ^ f := by rw [Int.pow_succ, Int.mul_comm (2 ^ f) 2, Int.mul_assoc]
    rw [e] at hf
    have hm : h * 2 ≤ h * passK ke lo h := Int.mul_le_mul_of_nonneg_left k2 (by omega)
    exact Int.le_trans hf (Int.mul_le_mul_of_nonneg_right hm (Int.le_of_lt (Int.pow_pos (by decide))))
theorem passL_rest (ke lo n : Int) (hk : ¬ ke = 2) (h0 : 2 ≤ lo) (h1 : lo < 7) (hn : n = 2 ^ lo.toNat) : Rest ke lo n 1 (passL ke lo) := by
  refine ⟨7, ?_, by unfold passL; rw [if_neg hk, hn]⟩
  have : lo = 2 ∨ lo = 3 ∨ lo = 4 ∨ lo = 5 ∨ lo = 6 := by omega
  rcases this with rfl | rfl | rfl | rfl | rfl <;> rw [hn] <;> decide
theorem pow_log (lo n : Int) (h0 : 2 ≤ lo) (h1 : lo < 7) (hn : n = 2 ^ lo.toNat) : 4 ≤ n ∧ n ≤ 64 ∧ 2 ^ min lo.toNat 64 = n := by
  have : lo = 2 ∨ lo = 3 ∨ lo = 4 ∨ lo = 5 ∨ lo = 6 := by omega
  rcases this with rfl | rfl | rfl | rfl | rfl <;> rw [hn] <;> decide

/-- Plan n, by its digits. -/
def planN (n : Int) : PlanV := ⟨n / 2 / 3 / 3 / 3 / 5 % 2, 2 + n / 2 / 3 / 3 / 3 % 5, n / 2 / 3 / 3 % 3, n / 2 / 3 % 3, n / 2 % 3, decide (n % 2 = 1)⟩
def upN (n : Nat) : List PlanV := ((List.range n).map (fun k : Nat => planN k)).filter okP
def everyL : List PlanV := upN 540
theorem upN_succ (n : Nat) : upN (n + 1) = upN n ++ (if okP (planN n) then [planN n] else []) := by
  unfold upN
  rw [List.range_succ, List.map_append, List.filter_append]
  congr 1
  simp only [List.map_cons, List.map_nil, List.filter_cons, List.filter_nil]
theorem upN_len (n : Nat) : (upN n).length ≤ n := by
  unfold upN
  refine Nat.le_trans (List.length_filter_le _ _) ?_
  simp

/-- A plan's of all scales, modes and ways, as the reference tells them. -/
def scalesL (fo lo ke : Int) : List PlanV := [0, 1, 2].flatMap fun s : Int => [0, 1, 2].flatMap fun m : Int => if okF fo lo ke s m then [⟨fo, lo, ke, s, m, false⟩, ⟨fo, lo, ke, s, m, true⟩] else []
def everyR : List PlanV := [0, 1].flatMap fun f : Int => [2, 3, 4, 5, 6].flatMap fun l : Int => [0, 1, 2].flatMap fun k : Int => scalesL f l k
theorem every_same : everyR = everyL := by decide +kernel
theorem everyL_len : everyL.length = 420 := by decide +kernel
end Go.Proofs.Ytomjldaonpjloaa
