/- What package four's makeQuads and Pass answer, in whole complex numbers. -/
import Derived.Test.YtmhcbphkkcmecaaGreatFourCode4
import Derived.Test.YtmhcbphkkcmecaaGreatCopied
namespace Go.Proofs.YtmhcbphkkcmecaaGreat
open Go.ChangeShapes Go.WideShapes Go.ChangeAt Go.RowKit
set_option linter.unusedVariables false
set_option maxRecDepth 100000
set_option linter.unusedSimpArgs false

/-- A root of a table of a limit. -/
theorem rootOf_in (ws : List Gi) (inv : Bool) (k : Nat) (l : Int) (hl : 0 ≤ l) (h : allIn l ws = true) : Bd l (rootOf ws inv k) := by
  have h0 : Bd l (ws.getD k ⟨0, 0⟩) := by
    rw [List.getD_eq_getElem?_getD]
    cases e : ws[k]? with
    | none => exact Bd.mk (by simp; omega)
    | some a => exact (allIn_iff l ws).1 h a (List.mem_of_getElem? e)
  unfold rootOf
  cases inv
  · exact h0
  · have := h0.le
    exact Bd.mk (by simp only [if_true, Gi.conj]; omega)

/-- Number q of the quad of place j of a block from F on. -/
def blockQuad (bits s : Nat) (mo : Int) (inv : Bool) (ws : List Gi) (F h u : Nat) (f : Nat → Gi) (j q : Nat) : Gi :=
  quadOut bits s mo inv q (f (F + (0 * h + j))) (f (F + (2 * h + j))) (f (F + (1 * h + j))) (f (F + (3 * h + j))) (rootOf ws inv (1 * (j * u))) (rootOf ws inv (2 * (j * u))) (rootOf ws inv (3 * (j * u)))

/-- The first k blocks are done. -/
def doneTo (xs ws : List Gi) (h bits s : Nat) (mo : Int) (inv : Bool) (k i : Nat) : Gi := if i < 4 * h * k then fourAt xs ws h bits s mo inv i else xs.getD i ⟨0, 0⟩
theorem pass_nums4 (h u k n f : Nat) (hn : n = 4 * h * u) (hf : f = 4 * h * k) (hk : k < u) (hn64 : n ≤ 64) (h1 : 1 ≤ h) :
    (f : Int) < (n : Int) ∧ wrap64 (4 * (h : Int)) = ((4 * h : Nat) : Int) ∧ (f : Int) + ((4 * h : Nat) : Int) = ((f + 4 * h : Nat) : Int) ∧ f + 4 * h ≤ n ∧ f + 4 * h = 4 * h * (k + 1) ∧ ((f + 4 * h : Nat) : Int) ≤ (n : Int) ∧ f ≤ f + 4 * h ∧ ¬ f + 4 * h = f ∧ f + 4 * h - f = 4 * h := by
  have k1 : 4 * h * (k + 1) ≤ 4 * h * u := Nat.mul_le_mul_left _ hk
  have k2 : 4 * h * (k + 1) = f + 4 * h := by rw [Nat.mul_succ, hf]
  have k3 := wmul 4 h (by omega)
  exact ⟨by omega, k3, by omega, by omega, by omega, by omega, by omega, by omega, by omega⟩
theorem done_next (xs ws : List Gi) (h u bits s : Nat) (mo : Int) (inv : Bool) (k i : Nat) (h1 : 1 ≤ h) (hu : 1 ≤ u) (hn : xs.length = 4 * h * u) :
    (if 4 * h * k ≤ i ∧ i < 4 * h * k + 4 * h then blockQuad bits s mo inv ws (4 * h * k) h u (doneTo xs ws h bits s mo inv k) ((i - 4 * h * k) % h) ((i - 4 * h * k) / h) else doneTo xs ws h bits s mo inv k i) = doneTo xs ws h bits s mo inv (k + 1) i := by
  by_cases c : 4 * h * k ≤ i ∧ i < 4 * h * k + 4 * h
  · rw [if_pos c]
    have hd : ∀ x, doneTo xs ws h bits s mo inv k (4 * h * k + x) = xs.getD (4 * h * k + x) ⟨0, 0⟩ := fun x => by unfold doneTo; rw [if_neg (by omega)]
    have hu2 : xs.length / (4 * h) = u := by rw [hn]; exact Nat.mul_div_cancel_left _ (by omega)
    have hr : i - i % (4 * h) = 4 * h * k ∧ i % (4 * h) = i - 4 * h * k := by
      have e : i = 4 * h * k + (i - 4 * h * k) := by omega
      have e2 : i % (4 * h) = i - 4 * h * k := by
        rw [e, Nat.mul_add_mod, Nat.mod_eq_of_lt (by omega)]
        omega
      omega
    have hm : i % h = (i - 4 * h * k) % h := by
      have e : i = h * (4 * k) + (i - 4 * h * k) := by
        have : h * (4 * k) = 4 * h * k := by rw [Nat.mul_comm 4 h, Nat.mul_assoc]
        omega
      rw [show i % h = (h * (4 * k) + (i - 4 * h * k)) % h by rw [← e], Nat.mul_add_mod]
    have hg : doneTo xs ws h bits s mo inv (k + 1) i = fourAt xs ws h bits s mo inv i := by
      unfold doneTo
      rw [if_pos (by rw [Nat.mul_succ]; omega)]
    rw [hg]
    unfold blockQuad fourAt
    simp only [hd, hu2, hr.1, hm, Nat.one_mul, Nat.zero_mul, Nat.zero_add]
    simp only [Nat.mul_assoc, Nat.add_assoc]
  · rw [if_neg c]
    unfold doneTo
    rw [Nat.mul_succ]
    by_cases d : i < 4 * h * k
    · rw [if_pos d, if_pos (by omega)]
    · rw [if_neg d, if_neg (by omega)]


end Go.Proofs.YtmhcbphkkcmecaaGreat
