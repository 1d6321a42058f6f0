/- Plans as numbers: which may be, their passes, all in order. -/
import Derived.Test.YtmjghakodgihiaaPlain
namespace Go.Proofs.Ytmjghakodgihiaa
set_option linter.unusedVariables false
set_option maxRecDepth 100000

/-- A plan. -/
structure PlanV where
  fo : Int
  lo : Int
  ke : Int
  sc : Int
  mo : Int
  iv : Bool

def PlanV.same (p q : PlanV) : Bool := decide (p.fo = q.fo) && decide (p.lo = q.lo) && decide (p.ke = q.ke) && decide (p.sc = q.sc) && decide (p.mo = q.mo) && (p.iv == q.iv)
theorem PlanV.same_eq {p q : PlanV} : p.same q = true ↔ p = q := by
  obtain ⟨a, b, c, d, e, f⟩ := p
  obtain ⟨a', b', c', d', e', f'⟩ := q
  simp [PlanV.same, and_assoc]
instance : DecidableEq PlanV := fun p q => decidable_of_iff _ PlanV.same_eq

def fieldsOk (fo lo ke sc mo : Int) : Bool := decide (0 ≤ fo ∧ fo < 2) && (decide (2 ≤ lo ∧ lo < 7) && (decide (0 ≤ ke ∧ ke < 3) && (decide (0 ≤ sc ∧ sc < 3) && decide (0 ≤ mo ∧ mo < 3))))
def okF (fo lo ke sc mo : Int) : Bool := fieldsOk fo lo ke sc mo && !(decide (ke = 2) && !decide (sc = 0))
def okP (p : PlanV) : Bool := okF p.fo p.lo p.ke p.sc p.mo
theorem fieldsOk_iff {fo lo ke sc mo : Int} : fieldsOk fo lo ke sc mo = true ↔ (0 ≤ fo ∧ fo < 2) ∧ (2 ≤ lo ∧ lo < 7) ∧ (0 ≤ ke ∧ ke < 3) ∧ (0 ≤ sc ∧ sc < 3) ∧ (0 ≤ mo ∧ mo < 3) := by
  simp [fieldsOk]
theorem okF_iff {fo lo ke sc mo : Int} : okF fo lo ke sc mo = true ↔ ((0 ≤ fo ∧ fo < 2) ∧ (2 ≤ lo ∧ lo < 7) ∧ (0 ≤ ke ∧ ke < 3) ∧ (0 ≤ sc ∧ sc < 3) ∧ (0 ≤ mo ∧ mo < 3)) ∧ (ke = 2 → sc = 0) := by
  unfold okF
  rw [Bool.and_eq_true, fieldsOk_iff]
  by_cases h : ke = 2 <;> by_cases k : sc = 0 <;> simp [h, k]

/-- A kernel's pass. -/
def passK (ke lo h : Int) : Int := if ke = 0 ∨ (lo.tmod 2 = 1 ∧ h = 1) then 2 else 4
/-- The passes from blocks of h on, to n. -/
def passG (ke lo n : Int) : Nat → Int → List Gi
  | 0, _ => []
  | f + 1, h => if h < n then ⟨passK ke lo h, h⟩ :: passG ke lo n f (h * passK ke lo h) else []
/-- A plan's passes. -/
def passL (ke lo : Int) : List Gi := if ke = 2 then [] else passG ke lo (2 ^ lo.toNat) 7 1

theorem passK_two (ke lo h : Int) : 2 ≤ passK ke lo h ∧ passK ke lo h ≤ 4 := by
  unfold passK
  split <;> omega
/-- What is left of a plan's passes, from blocks of h on. -/
def Rest (ke lo n h : Int) (l : List Gi) : Prop := ∃ f : Nat, n ≤ h * 2 ^ f ∧ l = passG ke lo n f h
theorem Rest.done {ke lo n h : Int} {l : List Gi} (H : Rest ke lo n h l) (hn : ¬ h < n) : l = [] := by
  obtain ⟨f, _, rfl⟩ := H
  cases f with
  | zero => rfl
  | succ f => simp [passG, hn]
theorem Rest.step {ke lo n h : Int} {l : List Gi} (H : Rest ke lo n h l) (h1 : 1 ≤ h) (hn : h < n) : ∃ l', l = ⟨passK ke lo h, h⟩ :: l' ∧ Rest ke lo n (h * passK ke lo h) l' := by
  obtain ⟨f, hf, rfl⟩ := H
  cases f with
  | zero => simp at hf; omega
  | succ f =>
    refine ⟨passG ke lo n f (h * passK ke lo h), by rw [passG, if_pos hn], f, ?_, rfl⟩
    have k2 := (passK_two ke lo h).1
    have e : h * 2 ^ (f + 1) = h * 2 * 2 ^ f := by rw [Int.pow_succ, Int.mul_comm (2 ^ f) 2, Int.mul_assoc]
    rw [e] at hf
    have hm : h * 2 ≤ h * passK ke lo h := Int.mul_le_mul_of_nonneg_left k2 (by omega)
    exact Int.le_trans hf (Int.mul_le_mul_of_nonneg_right hm (Int.le_of_lt (Int.pow_pos (by decide))))
theorem passL_rest (ke lo n : Int) (hk : ¬ ke = 2) (h0 : 2 ≤ lo) (h1 : lo < 7) (hn : n = 2 ^ lo.toNat) : Rest ke lo n 1 (passL ke lo) := by
  refine ⟨7, ?_, by unfold passL; rw [if_neg hk, hn]⟩
  have : lo = 2 ∨ lo = 3 ∨ lo = 4 ∨ lo = 5 ∨ lo = 6 := by omega
  rcases this with rfl | rfl | rfl | rfl | rfl <;> rw [hn] <;> decide
theorem pow_log (lo n : Int) (h0 : 2 ≤ lo) (h1 : lo < 7) (hn : n = 2 ^ lo.toNat) : 4 ≤ n ∧ n ≤ 64 ∧ 2 ^ min lo.toNat 64 = n := by
  have : lo = 2 ∨ lo = 3 ∨ lo = 4 ∨ lo = 5 ∨ lo = 6 := by omega
  rcases this with rfl | rfl | rfl | rfl | rfl <;> rw [hn] <;> decide

/-- Plan n, by its digits. -/
def planN (n : Int) : PlanV := ⟨n / 2 / 3 / 3 / 3 / 5 % 2, 2 + n / 2 / 3 / 3 / 3 % 5, n / 2 / 3 / 3 % 3, n / 2 / 3 % 3, n / 2 % 3, decide (n % 2 = 1)⟩
def upN (n : Nat) : List PlanV := ((List.range n).map (fun k : Nat => planN k)).filter okP
def everyL : List PlanV := upN 540
theorem upN_succ (n : Nat) : upN (n + 1) = upN n ++ (if okP (planN n) then [planN n] else []) := by
  unfold upN
  rw [List.range_succ, List.map_append, List.filter_append]
  congr 1
  simp only [List.map_cons, List.map_nil, List.filter_cons, List.filter_nil]
theorem upN_len (n : Nat) : (upN n).length ≤ n := by
  unfold upN
  refine Nat.le_trans (List.length_filter_le _ _) ?_
  simp

/-- A plan's of one scale and one mode. -/
def oneM (fo lo ke s m : Int) : List PlanV := if okF fo lo ke s m then [⟨fo, lo, ke, s, m, false⟩, ⟨fo, lo, ke, s, m, true⟩] else []
def upM (fo lo ke s : Int) (j : Nat) : List PlanV := (List.range j).flatMap fun m : Nat => oneM fo lo ke s m
def upS (fo lo ke : Int) (k : Nat) : List PlanV := (List.range k).flatMap fun s : Nat => upM fo lo ke s 3
/-- A plan's of all scales, modes and ways, as the reference tells them. -/
def scalesL (fo lo ke : Int) : List PlanV := upS fo lo ke 3
def upK (fo lo : Int) (k : Nat) : List PlanV := (List.range k).flatMap fun x : Nat => scalesL fo lo x
def upL (fo : Int) (k : Nat) : List PlanV := (List.range k).flatMap fun x : Nat => upK fo ((2 + x : Nat) : Int) 3
def upF (k : Nat) : List PlanV := (List.range k).flatMap fun x : Nat => upL x 5
theorem range_flat {α : Type} (f : Nat → List α) (k : Nat) : (List.range (k + 1)).flatMap f = (List.range k).flatMap f ++ f k := by
  rw [List.range_succ, List.flatMap_append]
  simp
theorem upM_succ (fo lo ke s : Int) (j : Nat) : upM fo lo ke s (j + 1) = upM fo lo ke s j ++ oneM fo lo ke s j := range_flat _ _
theorem upS_succ (fo lo ke : Int) (k : Nat) : upS fo lo ke (k + 1) = upS fo lo ke k ++ upM fo lo ke k 3 := range_flat _ _
theorem upK_succ (fo lo : Int) (k : Nat) : upK fo lo (k + 1) = upK fo lo k ++ scalesL fo lo k := range_flat _ _
theorem upL_succ (fo : Int) (k : Nat) : upL fo (k + 1) = upL fo k ++ upK fo ((2 + k : Nat) : Int) 3 := range_flat _ _
theorem upF_succ (k : Nat) : upF (k + 1) = upF k ++ upL k 5 := range_flat _ _
theorem scalesL_len (fo lo ke : Int) (h0 : 0 ≤ fo) (h1 : fo < 2) (l0 : 2 ≤ lo) (l1 : lo < 7) (k0 : 0 ≤ ke) (k1 : ke < 3) : 1 ≤ (scalesL fo lo ke).length ∧ (scalesL fo lo ke).length ≤ 18 := by
  have hf : fo = 0 ∨ fo = 1 := by omega
  have hl : lo = 2 ∨ lo = 3 ∨ lo = 4 ∨ lo = 5 ∨ lo = 6 := by omega
  have hk : ke = 0 ∨ ke = 1 ∨ ke = 2 := by omega
  rcases hf with rfl | rfl <;> rcases hl with rfl | rfl | rfl | rfl | rfl <;> rcases hk with rfl | rfl | rfl <;> decide +kernel
theorem every_same : upF 2 = everyL := by decide +kernel
theorem everyL_len : everyL.length = 420 := by decide +kernel
end Go.Proofs.Ytmjghakodgihiaa
