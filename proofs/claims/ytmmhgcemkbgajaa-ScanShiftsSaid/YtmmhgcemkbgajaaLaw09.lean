/- The numbers of the statements on package scan. -/
import Derived.Test.YtmmhgcemkbgajaaScanCore2
import Derived.Test.YtmmhgcemkbgajaaScanCore3
namespace Go.Proofs.Ytmmhgcemkbgajaa
open Go.ChangeShapes Go.WideShapes Go.ChangeAt Go.RowKit
set_option linter.unusedVariables false

/-- How many are taken. -/
theorem cut70 (n : Nat) : ∃ m : Nat, m ≤ n ∧ m ≤ 70 ∧ (if (70 : Int) < (n : Int) then 70 else (n : Int)) = (m : Int) := by
  by_cases h : (70 : Int) < (n : Int)
  · exact ⟨70, by omega, by omega, by rw [if_pos h]; rfl⟩
  · exact ⟨n, Nat.le_refl _, by omega, by rw [if_neg h]⟩

/-- x rem k plus k, rem k: 0 to k - 1. -/
theorem rem_again (x k : Int) (hk : 0 < k) (hk2 : k ≤ 4294967296) : ∃ r r2 m : Int, x.tmod k = r ∧ wrap64 (r + k) = r2 ∧ r2.tmod k = m ∧ 0 ≤ m ∧ m < k := by
  have h1 := Int.lt_tmod_of_pos x hk
  have h2 := Int.tmod_lt_of_pos x hk
  refine ⟨_, _, _, rfl, rfl, rfl, ?_⟩
  rw [IntWalk.wrap64_in _ (by omega), Int.tmod_eq_emod_of_nonneg (by omega)]
  exact ⟨Int.emod_nonneg _ (by omega), Int.emod_lt_of_pos _ hk⟩

/-- The numbers of a greatest part's room and shifts, as they are reckoned. -/
theorem fit_nums (b : Nat) (p m : Int) (hb : (b = 15 ∧ p = 32768) ∨ (b = 31 ∧ p = 2147483648)) (h0 : 0 ≤ m) (h1 : m ≤ p) : ∃ t2 t4 : Nat, preOf 2 p m = (t2 : Int) ∧ preOf 4 p m = (t4 : Int) ∧
    decide ((2 : Int) < t2) = false ∧ decide ((3 : Int) < t4) = false ∧ m ≤ 2 ^ (b - 2 + t2) ∧ m ≤ 2 ^ (b - 3 + t4) ∧ b - 2 + t2 ≤ 31 ∧ b - 3 + t4 ≤ 31 := by
  have h2 : preOf 2 p m = if m ≤ p / 4 then 0 else if m ≤ p / 2 then 1 else 2 := by unfold preOf; rw [if_neg (by omega)]
  have h4 : preOf 4 p m = if m ≤ p / 8 then 0 else 1 + (if m ≤ p / 4 then 0 else if m ≤ p / 2 then 1 else 2) := by unfold preOf; rw [if_pos rfl]
  rw [h2, h4]
  clear h2 h4
  by_cases c1 : m ≤ p / 8
  · rw [if_pos c1, if_pos (show m ≤ p / 4 by omega)]
    rcases hb with ⟨rfl, rfl⟩ | ⟨rfl, rfl⟩
    all_goals
      refine ⟨0, 0, rfl, rfl, by decide, by decide, ?_, ?_, by omega, by omega⟩
      all_goals
        simp
        omega
  · rw [if_neg c1]
    by_cases c2 : m ≤ p / 4
    · rw [if_pos c2]
      rcases hb with ⟨rfl, rfl⟩ | ⟨rfl, rfl⟩
      all_goals
        refine ⟨0, 1, rfl, rfl, by decide, by decide, ?_, ?_, by omega, by omega⟩
        all_goals
          simp
          omega
    · rw [if_neg c2]
      by_cases c3 : m ≤ p / 2
      · rw [if_pos c3]
        rcases hb with ⟨rfl, rfl⟩ | ⟨rfl, rfl⟩
        all_goals
          refine ⟨1, 2, rfl, rfl, by decide, by decide, ?_, ?_, by omega, by omega⟩
          all_goals
            simp
            omega
      · rw [if_neg c3]
        rcases hb with ⟨rfl, rfl⟩ | ⟨rfl, rfl⟩
        all_goals
          refine ⟨2, 3, rfl, rfl, by decide, by decide, ?_, ?_, by omega, by omega⟩
          all_goals
            simp
            omega

theorem shl_num (n : Nat) (hn : n ≤ 31) : IntKind.i64.wrap (2 ^ min n 64) = 2 ^ n := by
  rw [show min n 64 = n by omega]
  have h1 := pow_le31 n hn
  have h2 := pow_pos2 n
  generalize (2 : Int) ^ n = p at *
  exact IntWalk.i64_in _ ⟨by omega, by omega⟩

theorem upG_bd (s : Nat) (xs : List Gi) (mo : Int) (hs : s ≤ 31) (hin : (-(s : Int)) < 0 → allIn (2 ^ (62 + -(s : Int)).toNat) xs = true) (hb : ∀ a ∈ xs, (Lit.int .i64 a.re).wf = true ∧ (Lit.int .i64 a.im).wf = true) (hm : mo = 0 ∨ mo = 1 ∨ mo = 2) :
    ∀ a ∈ xs.map (shG (-(s : Int)) mo), (Lit.int .i64 a.re).wf = true ∧ (Lit.int .i64 a.im).wf = true := by
  intro a ha
  obtain ⟨x, hx, rfl⟩ := List.mem_map.1 ha
  by_cases h0 : s = 0
  · subst h0
    have h1 := rnd_mul x.re 0 mo hm
    have h2 := rnd_mul x.im 0 mo hm
    simp only [Int.pow_zero, Int.mul_one] at h1 h2
    have e : shG (-((0 : Nat) : Int)) mo x = x := by
      unfold shG
      simp [h1, h2]
    rw [e]
    exact hb x hx
  · have h := (allIn_iff _ _).1 (hin (by omega)) x hx
    have e : shG (-(s : Int)) mo x = ⟨x.re * 2 ^ s, x.im * 2 ^ s⟩ := by
      unfold shG
      rw [if_neg (by omega), Int.neg_neg, Int.toNat_natCast]
    rw [e]
    have hpp : (2 : Int) ^ (62 + -(s : Int)).toNat * 2 ^ s = 4611686018427387904 := by
      rw [← Int.pow_add, show (62 + -(s : Int)).toNat + s = 62 by omega]; rfl
    have hp0 := pow_pos2 s
    have g1 := absI_le.1 h.1
    have g2 := absI_le.1 h.2
    generalize (2 : Int) ^ (62 + -(s : Int)).toNat = l at *
    generalize (2 : Int) ^ s = P at *
    have b1 : x.re * P ≤ l * P := Int.mul_le_mul_of_nonneg_right g1.2 (by omega)
    have b2 : -l * P ≤ x.re * P := Int.mul_le_mul_of_nonneg_right g1.1 (by omega)
    have b3 : x.im * P ≤ l * P := Int.mul_le_mul_of_nonneg_right g2.2 (by omega)
    have b4 : -l * P ≤ x.im * P := Int.mul_le_mul_of_nonneg_right g2.1 (by omega)
    rw [Int.neg_mul] at b2 b4
    exact ⟨WalkArith.wf_i64 (by show _ ≤ x.re * P ∧ x.re * P ≤ _; omega), WalkArith.wf_i64 (by show _ ≤ x.im * P ∧ x.im * P ≤ _; omega)⟩

theorem map_back (s : Nat) (xs : List Gi) (mo : Int) (hm : mo = 0 ∨ mo = 1 ∨ mo = 2) : (xs.map (shG (-(s : Int)) mo)).map (shG s mo) = xs := by
  rw [List.map_map]
  have : ((shG (s : Int) mo) ∘ (shG (-(s : Int)) mo)) = id := by
    funext a
    exact shG_back s mo (by omega) hm a
  rw [this, List.map_id]

end Go.Proofs.Ytmmhgcemkbgajaa
