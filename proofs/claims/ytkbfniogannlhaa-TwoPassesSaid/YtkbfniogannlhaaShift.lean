/- What round.Shift answers: for each mode and each number of places, the quotient rounded; else the error; the world has at most new blocks. -/
import Derived.Test.YtkbfniogannlhaaFns
import Derived.Laws.EntriesVeiled
namespace Go.Proofs.Ytkbfniogannlhaa
open Go.ChangeShapes Go.WideShapes Go.ChangeAt Go.RowKit
set_option linter.unusedVariables false

theorem roundingOf_floor (w : World) :
    Calls Try.prog 50 #[.int .i64 0] w fun e w' => e = .returned (.tuple #[.agg #[.func (.func 61) #[] #[]], .bool true]) ∧ Gr w w' := by
  go_enter Try.func50, Try.ntmps50
  go_wp2
  exact bodyPost_ret (v := .tuple #[.agg #[.func (.func 61) #[] #[]], .bool true]) (by simp [results, Try.results50, go_sem]) rfl ⟨rfl, by repeat (first | exact Gr.refl _ | assumption | apply Gr.drew | apply Gr.alloc)⟩

theorem roundingOf_up (w : World) :
    Calls Try.prog 50 #[.int .i64 1] w fun e w' => e = .returned (.tuple #[.agg #[.func (.func 62) #[] #[]], .bool true]) ∧ Gr w w' := by
  go_enter Try.func50, Try.ntmps50
  go_wp2
  exact bodyPost_ret (v := .tuple #[.agg #[.func (.func 62) #[] #[]], .bool true]) (by simp [results, Try.results50, go_sem]) rfl ⟨rfl, by repeat (first | exact Gr.refl _ | assumption | apply Gr.drew | apply Gr.alloc)⟩

theorem roundingOf_even (w : World) :
    Calls Try.prog 50 #[.int .i64 2] w fun e w' => e = .returned (.tuple #[.agg #[.func (.func 63) #[] #[]], .bool true]) ∧ Gr w w' := by
  go_enter Try.func50, Try.ntmps50
  go_wp2
  exact bodyPost_ret (v := .tuple #[.agg #[.func (.func 63) #[] #[]], .bool true]) (by simp [results, Try.results50, go_sem]) rfl ⟨rfl, by repeat (first | exact Gr.refl _ | assumption | apply Gr.drew | apply Gr.alloc)⟩

theorem roundingOf_none (m : Int) (h : m < 0 ∨ 2 < m) (w : World) :
    Calls Try.prog 50 #[.int .i64 m] w fun e w' => e = .returned (.tuple #[.agg #[.nilFunc], .bool false]) ∧ Gr w w' := by
  have h0 : (m == 0) = false := by simp; omega
  have h1 : (m == 1) = false := by simp; omega
  have h2 : (m == 2) = false := by simp; omega
  clear h
  go_enter Try.func50, Try.ntmps50
  go_wp2
  exact bodyPost_ret (v := .tuple #[.agg #[.nilFunc], .bool false]) (by simp [results, Try.results50, go_sem]) rfl ⟨rfl, by repeat (first | exact Gr.refl _ | assumption | apply Gr.drew | apply Gr.alloc)⟩

theorem mayShift_yes (s : Int) (h0 : 0 ≤ s) (h1 : s ≤ 62) (w : World) :
    Calls Try.prog 51 #[.int .i64 s] w fun e w' => e = .returned (.bool true) ∧ w' = w :=
  (mayShift_c s w).mono fun e w' ⟨he, hw⟩ => ⟨by rw [he]; simp [h0, h1], hw⟩

theorem mayShift_no (s : Int) (h : s < 0 ∨ 62 < s) (w : World) :
    Calls Try.prog 51 #[.int .i64 s] w fun e w' => e = .returned (.bool false) ∧ w' = w :=
  (mayShift_c s w).mono fun e w' ⟨he, hw⟩ => ⟨by rw [he]; simp; omega, hw⟩

theorem shift_floor (x s : Int) (wx : -9223372036854775808 ≤ x ∧ x ≤ 9223372036854775807) (d0 : 0 ≤ s) (d1 : s ≤ 62) (w : World) :
    Calls Try.prog 38 #[.int .i64 x, .int .i64 s, .int .i64 0] w fun e w' => e = .returned (.tuple #[.int .i64 (rnd x s.toNat 0), .int .i64 0]) ∧ Gr w w' := by
  have hp := pow_pos2 s.toNat
  have hl := pow_le62 s.toNat (by omega)
  have hb := bits_mask x s.toNat (by omega)
  have m0 := Int.emod_nonneg x (Int.ne_of_gt hp)
  have m1 := Int.emod_lt_of_pos x hp
  have q0 := (div_pow_bd x s.toNat wx.1 wx.2).1
  have ub := up_bd x s.toNat wx.1 wx.2
  have hc : ∀ W, Calls Try.prog 52 #[.agg #[.int .i64 (x / 2 ^ s.toNat), .int .i64 (x % 2 ^ s.toNat), .int .i64 (2 ^ s.toNat)], .agg #[.func (.func 61) #[] #[]]] W
      fun e w' => e = .returned (.int .i64 (rnd x s.toNat 0)) ∧ Gr W w' :=
    fun W => (roundedNever_c _ _ _ m0 (Int.le_of_lt m1) hl (by omega) (fun h => by cases h) W).mono fun e w' ⟨he, hw⟩ => ⟨by rw [he]; simp [rnd, goesUp], hw⟩
  generalize rnd x s.toNat 0 = r at hc ⊢
  have HC := Lib.hid hc
  clear hc ub q0 m0 m1 wx
  go_enter Try.func38, Try.ntmps38
  go_wp2_with (first
    | (go_at_call 50; refine (roundingOf_floor _).mono ?_; rintro e w1 ⟨rfl, hg⟩)
    | (go_at_call 51; refine (mayShift_yes _ d0 d1 _).mono ?_; rintro e w2 ⟨rfl, rfl⟩)
    | (go_at_call 52; refine (HC.out _).mono ?_; rintro e w3 ⟨rfl, hg3⟩))
  go_ret2
  exact ⟨rfl, Gr.trans (by repeat (first | exact Gr.refl _ | assumption | apply Gr.drew | apply Gr.alloc)) hg3⟩

theorem shift_up (x s : Int) (wx : -9223372036854775808 ≤ x ∧ x ≤ 9223372036854775807) (d0 : 0 ≤ s) (d1 : s ≤ 62) (w : World) :
    Calls Try.prog 38 #[.int .i64 x, .int .i64 s, .int .i64 1] w fun e w' => e = .returned (.tuple #[.int .i64 (rnd x s.toNat 1), .int .i64 0]) ∧ Gr w w' := by
  have hp := pow_pos2 s.toNat
  have hl := pow_le62 s.toNat (by omega)
  have hb := bits_mask x s.toNat (by omega)
  have m0 := Int.emod_nonneg x (Int.ne_of_gt hp)
  have m1 := Int.emod_lt_of_pos x hp
  have q0 := (div_pow_bd x s.toNat wx.1 wx.2).1
  have ub := up_bd x s.toNat wx.1 wx.2
  have hc : ∀ W, Calls Try.prog 52 #[.agg #[.int .i64 (x / 2 ^ s.toNat), .int .i64 (x % 2 ^ s.toNat), .int .i64 (2 ^ s.toNat)], .agg #[.func (.func 62) #[] #[]]] W
      fun e w' => e = .returned (.int .i64 (rnd x s.toNat 1)) ∧ Gr W w' :=
    fun W => (roundedHalf_c _ _ _ m0 (Int.le_of_lt m1) hl (by omega) (fun h => ub 1 (by simpa [goesUp] using h)) W).mono fun e w' ⟨he, hw⟩ => ⟨by rw [he]; simp [rnd, goesUp], hw⟩
  generalize rnd x s.toNat 1 = r at hc ⊢
  have HC := Lib.hid hc
  clear hc ub q0 m0 m1 wx
  go_enter Try.func38, Try.ntmps38
  go_wp2_with (first
    | (go_at_call 50; refine (roundingOf_up _).mono ?_; rintro e w1 ⟨rfl, hg⟩)
    | (go_at_call 51; refine (mayShift_yes _ d0 d1 _).mono ?_; rintro e w2 ⟨rfl, rfl⟩)
    | (go_at_call 52; refine (HC.out _).mono ?_; rintro e w3 ⟨rfl, hg3⟩))
  go_ret2
  exact ⟨rfl, Gr.trans (by repeat (first | exact Gr.refl _ | assumption | apply Gr.drew | apply Gr.alloc)) hg3⟩

theorem shift_even (x s : Int) (wx : -9223372036854775808 ≤ x ∧ x ≤ 9223372036854775807) (d0 : 0 ≤ s) (d1 : s ≤ 62) (w : World) :
    Calls Try.prog 38 #[.int .i64 x, .int .i64 s, .int .i64 2] w fun e w' => e = .returned (.tuple #[.int .i64 (rnd x s.toNat 2), .int .i64 0]) ∧ Gr w w' := by
  have hp := pow_pos2 s.toNat
  have hl := pow_le62 s.toNat (by omega)
  have hb := bits_mask x s.toNat (by omega)
  have m0 := Int.emod_nonneg x (Int.ne_of_gt hp)
  have m1 := Int.emod_lt_of_pos x hp
  have q0 := (div_pow_bd x s.toNat wx.1 wx.2).1
  have ub := up_bd x s.toNat wx.1 wx.2
  have hc : ∀ W, Calls Try.prog 52 #[.agg #[.int .i64 (x / 2 ^ s.toNat), .int .i64 (x % 2 ^ s.toNat), .int .i64 (2 ^ s.toNat)], .agg #[.func (.func 63) #[] #[]]] W
      fun e w' => e = .returned (.int .i64 (rnd x s.toNat 2)) ∧ Gr W w' :=
    fun W => (roundedEven_c _ _ _ m0 (Int.le_of_lt m1) hl (by omega) (fun h => ub 2 (by simpa [goesUp] using h)) W).mono fun e w' ⟨he, hw⟩ => ⟨by rw [he]; simp [rnd, goesUp], hw⟩
  generalize rnd x s.toNat 2 = r at hc ⊢
  have HC := Lib.hid hc
  clear hc ub q0 m0 m1 wx
  go_enter Try.func38, Try.ntmps38
  go_wp2_with (first
    | (go_at_call 50; refine (roundingOf_even _).mono ?_; rintro e w1 ⟨rfl, hg⟩)
    | (go_at_call 51; refine (mayShift_yes _ d0 d1 _).mono ?_; rintro e w2 ⟨rfl, rfl⟩)
    | (go_at_call 52; refine (HC.out _).mono ?_; rintro e w3 ⟨rfl, hg3⟩))
  go_ret2
  exact ⟨rfl, Gr.trans (by repeat (first | exact Gr.refl _ | assumption | apply Gr.drew | apply Gr.alloc)) hg3⟩

end Go.Proofs.Ytkbfniogannlhaa
