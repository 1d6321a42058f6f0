/- What reference 10's Pass answers. -/
import Derived.Test.YtomjldaonpjloaaRef10
import Derived.Deep.AppendLies
namespace Go.Proofs.Ytomjldaonpjloaa
open Go.ChangeShapes Go.WideShapes Go.ChangeAt Go.RowKit
set_option linter.unusedVariables false
set_option maxRecDepth 100000

theorem twoAt_eq (xs ws : List Gi) (h bits s : Nat) (mo : Int) (inv : Bool) (i : Nat) : twoAt xs ws h bits s mo inv i =
    if i % (2 * h) < h then pairUp bits s mo (xs.getD i ⟨0, 0⟩) (xs.getD (i + h) ⟨0, 0⟩) (rootOf ws inv (i % (2 * h) * (xs.length / (2 * h)))) else pairDown bits s mo (xs.getD (i - h) ⟨0, 0⟩) (xs.getD i ⟨0, 0⟩) (rootOf ws inv ((i % (2 * h) - h) * (xs.length / (2 * h)))) := rfl

theorem rootOf_bd (ws : List Gi) (inv : Bool) (k : Nat) (l : Int) (hk : k < ws.length) (h : allIn l ws = true) : absI (rootOf ws inv k).re ≤ l ∧ absI (rootOf ws inv k).im ≤ l := by
  obtain ⟨x, hx⟩ := get_of_lt hk
  have hb := (allIn_iff _ _).1 h x (List.mem_of_getElem? hx)
  have hg : ws.getD k ⟨0, 0⟩ = x := by rw [List.getD_eq_getElem?_getD, hx]; rfl
  unfold rootOf
  rw [hg]
  cases inv
  · exact hb
  · refine ⟨hb.1, ?_⟩
    have := absI_le.1 hb.2
    exact absI_le.2 (by show -l ≤ -x.im ∧ -x.im ≤ l; omega)

/-- Where a number's fellow and its root lie. -/
theorem pass_nums (n h u i : Nat) (hn : n = 2 * h * u) (h1 : 1 ≤ h) (hi : i < n) :
    (i % (2 * h) < h → i + h < n ∧ i % (2 * h) * u < n) ∧ (h ≤ i % (2 * h) → h ≤ i ∧ (i % (2 * h) - h) * u < n) ∧ i % (2 * h) < 2 * h ∧ n / (2 * h) = u := by
  have hd : 0 < 2 * h := by omega
  have e := Nat.div_add_mod i (2 * h)
  have hlt := Nat.mod_lt i hd
  have hq : i / (2 * h) < u := by
    rw [Nat.div_lt_iff_lt_mul hd, Nat.mul_comm u, ← hn]
    exact hi
  have hq2 : 2 * h * (i / (2 * h)) + 2 * h ≤ n := by
    rw [hn, ← Nat.mul_succ]
    exact Nat.mul_le_mul_left _ hq
  have hu : 1 ≤ u := Nat.lt_of_le_of_lt (Nat.zero_le _) hq
  have hhu : h * u < n := by
    rw [hn, Nat.mul_assoc]
    have : 1 ≤ h * u := Nat.mul_le_mul h1 hu
    omega
  refine ⟨fun hj => ⟨by omega, ?_⟩, fun hj => ⟨?_, ?_⟩, hlt, ?_⟩
  · exact Nat.lt_of_le_of_lt (Nat.mul_le_mul_right u (Nat.le_of_lt hj)) hhu
  · exact Nat.le_trans hj (Nat.mod_le _ _)
  · exact Nat.lt_of_le_of_lt (Nat.mul_le_mul_right u (by omega)) hhu
  · rw [hn]
    exact Nat.mul_div_cancel_left u hd

theorem pass_walk (n h u i : Nat) (hn : n = 2 * h * u) (h1 : 1 ≤ h) (hi : i < n) (hn64 : n ≤ 64) :
    (i : Int).tmod ((2 * h : Nat) : Int) = ((i % (2 * h) : Nat) : Int) ∧ (n : Int).tdiv ((2 * h : Nat) : Int) = u ∧ IntKind.i64.wrap (u : Int) = u ∧ ¬ ((2 * h : Nat) : Int) = 0 ∧
    (i % (2 * h) < h → IntKind.i64.wrap (((i % (2 * h) : Nat) : Int) * u) = ((i % (2 * h) * u : Nat) : Int) ∧ IntKind.i64.wrap ((i : Int) + h) = ((i + h : Nat) : Int)) ∧
    (h ≤ i % (2 * h) → IntKind.i64.wrap (((i % (2 * h) : Nat) : Int) - h) = ((i % (2 * h) - h : Nat) : Int) ∧ IntKind.i64.wrap (((i % (2 * h) - h : Nat) : Int) * u) = (((i % (2 * h) - h) * u : Nat) : Int) ∧ IntKind.i64.wrap ((i : Int) - h) = ((i - h : Nat) : Int)) := by
  have hp := pass_nums n h u i hn h1 hi
  have e1 : (n : Int).tdiv ((2 * h : Nat) : Int) = ((n / (2 * h) : Nat) : Int) := by rw [Int.tdiv_eq_ediv_of_nonneg (by omega)]; simp
  rw [hp.2.2.2] at e1
  have e2 : (i : Int).tmod ((2 * h : Nat) : Int) = ((i % (2 * h) : Nat) : Int) := by rw [Int.tmod_eq_emod_of_nonneg (by omega)]; simp
  have hu : u ≤ n := by rw [← hp.2.2.2]; exact Nat.div_le_self _ _
  refine ⟨e2, e1, ?_, by omega, fun hj => ?_, fun hj => ?_⟩
  · clear hp e1 e2 hn
    exact IntWalk.i64_in _ ⟨by omega, by omega⟩
  · obtain ⟨h2, h3⟩ := hp.1 hj
    rw [show ((i % (2 * h) : Nat) : Int) * u = ((i % (2 * h) * u : Nat) : Int) by simp]
    generalize i % (2 * h) * u = k at *
    clear hp e1 e2 hn hu hj
    exact ⟨IntWalk.i64_in _ ⟨by omega, by omega⟩, by rw [IntWalk.i64_in _ ⟨by omega, by omega⟩]; omega⟩
  · obtain ⟨h2, h3⟩ := hp.2.1 hj
    have h4 : i % (2 * h) ≤ i := Nat.mod_le _ _
    rw [show ((i % (2 * h) - h : Nat) : Int) * u = (((i % (2 * h) - h) * u : Nat) : Int) by simp]
    generalize (i % (2 * h) - h) * u = k at *
    generalize i % (2 * h) = j at *
    clear hp e1 e2 hn hu
    exact ⟨by rw [IntWalk.i64_in _ ⟨by omega, by omega⟩]; omega, IntWalk.i64_in _ ⟨by omega, by omega⟩, by rw [IntWalk.i64_in _ ⟨by omega, by omega⟩]; omega⟩

end Go.Proofs.Ytomjldaonpjloaa
