/- The contracts of round.Shift, of the reference's Shift and Div, and of the laws' own small call, each in one piece. -/
import Derived.Test.YtkbfniogannlhaaRef
namespace Go.Proofs.Ytkbfniogannlhaa
open Go.ChangeShapes Go.WideShapes Go.ChangeAt Go.RowKit
set_option linter.unusedVariables false

theorem rnd_zero (x mode : Int) : rnd x 0 mode = x := by
  have e : goesUp mode (x / 2 ^ 0) (x % 2 ^ 0) (2 ^ 0) = false := by
    have e0 : x % (2 : Int) ^ 0 = 0 := by simp
    rw [e0]
    simp [goesUp, evenUp]
  rw [rnd, e]
  simp

theorem rnd_floor (x : Int) (n : Nat) : rnd x n 0 = x / 2 ^ n := by simp [rnd, goesUp]

theorem refShift_c (x s mode : Int) (wx : -9223372036854775808 ≤ x ∧ x ≤ 9223372036854775807) (h0 : 0 ≤ s) (h1 : s ≤ 62) (m0 : 0 ≤ mode) (m1 : mode ≤ 2) (w : World) :
    Calls Try.prog 44 #[.int .i64 x, .int .i64 s, .int .i64 mode] w fun e w' => e = .returned (.int .i64 (rnd x s.toNat mode)) ∧ w' = w := by
  by_cases hs : s = 0
  · subst hs
    exact (refShift_zero x mode wx w).mono fun e w' ⟨he, hw⟩ => ⟨by rw [he, show (0 : Int).toNat = 0 from rfl, rnd_zero], hw⟩
  obtain ⟨m, hm⟩ : ∃ m, s.toNat = m + 1 := ⟨s.toNat - 1, by omega⟩
  have hm' : s.toNat - 1 = m := by omega
  have HF := Lib.hid (floor_c x s wx h0 h1)
  have q := half_bd x s.toNat wx.1 wx.2 (by omega)
  have b := mul_div_bd x s.toNat wx.1 wx.2 (by omega)
  have hp := pow_pos2 s.toNat
  have hl := pow_le62 s.toNat (by omega)
  have l0 := Int.emod_nonneg x (Int.ne_of_gt hp)
  have l1 := Int.emod_lt_of_pos x hp
  have he : x - x / 2 ^ s.toNat * 2 ^ s.toNat = x % 2 ^ s.toNat := by rw [Int.emod_def, Int.mul_comm]
  have hc : mode = 0 ∨ mode = 1 ∨ mode = 2 := by omega
  rcases hc with rfl | rfl | rfl
  · exact (refShift_floor x s wx (by omega) h1 w).mono fun e w' ⟨he, hw⟩ => ⟨by rw [he, rnd_floor], hw⟩
  · have hr : rnd x s.toNat 1 = bif decide (2 ^ (s.toNat - 1) ≤ x % 2 ^ s.toNat) then x / 2 ^ s.toNat + 1 else x / 2 ^ s.toNat := by
      rw [rnd, hm, goesUp_pos, Nat.add_sub_cancel]
    by_cases c1 : 2 ^ (s.toNat - 1) < x % 2 ^ s.toNat
    · exact (refShift_up_more x s _ _ (by omega) h1 HF q.1 q.2 b.1 b.2 l0 (by omega) he c1 w).mono fun e w' ⟨he, hw⟩ => ⟨by rw [he, hr, decide_eq_true (Int.le_of_lt c1)]; rfl, hw⟩
    · by_cases c2 : x % 2 ^ s.toNat = 2 ^ (s.toNat - 1)
      · exact (refShift_up_mid x s _ _ (by omega) h1 HF q.1 q.2 b.1 b.2 l0 (by omega) he c1 (by simpa using c2) w).mono fun e w' ⟨he, hw⟩ => ⟨by rw [he, hr, decide_eq_true (by omega)]; rfl, hw⟩
      · exact (refShift_up_less x s _ _ (by omega) h1 HF q.1 q.2 b.1 b.2 l0 (by omega) he c1 (by simpa using c2) w).mono fun e w' ⟨he, hw⟩ => ⟨by rw [he, hr, decide_eq_false (by omega)]; rfl, hw⟩
  · have hr : rnd x s.toNat 2 = bif (if x % 2 ^ s.toNat = 2 ^ (s.toNat - 1) then ((x / 2 ^ s.toNat).tmod 2 != 0) else decide (2 ^ (s.toNat - 1) < x % 2 ^ s.toNat)) then x / 2 ^ s.toNat + 1 else x / 2 ^ s.toNat := by
      rw [rnd, hm, evenUp_pos, Nat.add_sub_cancel]
    by_cases c1 : 2 ^ (s.toNat - 1) < x % 2 ^ s.toNat
    · exact (refShift_even_more x s _ _ (by omega) h1 HF q.1 q.2 b.1 b.2 l0 (by omega) he c1 w).mono fun e w' ⟨he, hw⟩ => ⟨by rw [he, hr, if_neg (by omega), decide_eq_true c1]; rfl, hw⟩
    · by_cases c2 : x % 2 ^ s.toNat = 2 ^ (s.toNat - 1)
      · cases c3 : ((x / 2 ^ s.toNat).tmod 2 != 0)
        · exact (refShift_even_mid2 x s _ _ (by omega) h1 HF q.1 q.2 b.1 b.2 l0 (by omega) he c1 (by simpa using c2) c3 w).mono fun e w' ⟨he, hw⟩ => ⟨by rw [he, hr, if_pos c2, c3]; rfl, hw⟩
        · exact (refShift_even_mid x s _ _ (by omega) h1 HF q.1 q.2 b.1 b.2 l0 (by omega) he c1 (by simpa using c2) c3 w).mono fun e w' ⟨he, hw⟩ => ⟨by rw [he, hr, if_pos c2, c3]; rfl, hw⟩
      · exact (refShift_even_less x s _ _ (by omega) h1 HF q.1 q.2 b.1 b.2 l0 (by omega) he c1 (by simpa using c2) w).mono fun e w' ⟨he, hw⟩ => ⟨by rw [he, hr, if_neg c2, decide_eq_false c1]; rfl, hw⟩

theorem shift_ok (x s mode : Int) (wx : -9223372036854775808 ≤ x ∧ x ≤ 9223372036854775807) (h0 : 0 ≤ s) (h1 : s ≤ 62) (m0 : 0 ≤ mode) (m1 : mode ≤ 2) (w : World) :
    Calls Try.prog 38 #[.int .i64 x, .int .i64 s, .int .i64 mode] w fun e w' => e = .returned (.tuple #[.int .i64 (rnd x s.toNat mode), .int .i64 0]) ∧ Gr w w' := by
  have hc : mode = 0 ∨ mode = 1 ∨ mode = 2 := by omega
  rcases hc with rfl | rfl | rfl
  · exact shift_floor x s wx h0 h1 w
  · exact shift_up x s wx h0 h1 w
  · exact shift_even x s wx h0 h1 w

theorem shift_bad_mode (x s mode : Int) (hm : mode < 0 ∨ 2 < mode) (w : World) :
    Calls Try.prog 38 #[.int .i64 x, .int .i64 s, .int .i64 mode] w fun e w' => e = .returned (.tuple #[.int .i64 0, .int .i64 1]) ∧ Gr w w' := by
  have HM := Lib.hid hm
  clear hm
  go_enter Try.func38, Try.ntmps38
  go_wp2_with (go_at_call 50; refine (roundingOf_none _ HM.out _).mono ?_; rintro e w1 ⟨rfl, hg⟩)
  go_ret2
  exact ⟨rfl, by repeat (first | exact Gr.refl _ | assumption | apply Gr.drew | apply Gr.alloc)⟩

theorem shift_bad_s (x s mode : Int) (m0 : 0 ≤ mode) (m1 : mode ≤ 2) (hs : s < 0 ∨ 62 < s) (w : World) :
    Calls Try.prog 38 #[.int .i64 x, .int .i64 s, .int .i64 mode] w fun e w' => e = .returned (.tuple #[.int .i64 0, .int .i64 1]) ∧ Gr w w' := by
  have HS := Lib.hid hs
  clear hs
  have hc : mode = 0 ∨ mode = 1 ∨ mode = 2 := by omega
  clear m0 m1
  rcases hc with rfl | rfl | rfl
  · go_enter Try.func38, Try.ntmps38
    go_wp2_with (first
      | (go_at_call 50; refine (roundingOf_floor _).mono ?_; rintro e w1 ⟨rfl, hg⟩)
      | (go_at_call 51; refine (mayShift_no _ HS.out _).mono ?_; rintro e w2 ⟨rfl, rfl⟩))
    go_ret2
    exact ⟨rfl, by repeat (first | exact Gr.refl _ | assumption | apply Gr.drew | apply Gr.alloc)⟩
  · go_enter Try.func38, Try.ntmps38
    go_wp2_with (first
      | (go_at_call 50; refine (roundingOf_up _).mono ?_; rintro e w1 ⟨rfl, hg⟩)
      | (go_at_call 51; refine (mayShift_no _ HS.out _).mono ?_; rintro e w2 ⟨rfl, rfl⟩))
    go_ret2
    exact ⟨rfl, by repeat (first | exact Gr.refl _ | assumption | apply Gr.drew | apply Gr.alloc)⟩
  · go_enter Try.func38, Try.ntmps38
    go_wp2_with (first
      | (go_at_call 50; refine (roundingOf_even _).mono ?_; rintro e w1 ⟨rfl, hg⟩)
      | (go_at_call 51; refine (mayShift_no _ HS.out _).mono ?_; rintro e w2 ⟨rfl, rfl⟩))
    go_ret2
    exact ⟨rfl, by repeat (first | exact Gr.refl _ | assumption | apply Gr.drew | apply Gr.alloc)⟩

theorem shift_bad (x s mode : Int) (h : (mode < 0 ∨ 2 < mode) ∨ s < 0 ∨ 62 < s) (w : World) :
    Calls Try.prog 38 #[.int .i64 x, .int .i64 s, .int .i64 mode] w fun e w' => e = .returned (.tuple #[.int .i64 0, .int .i64 1]) ∧ Gr w w' := by
  by_cases hm : mode < 0 ∨ 2 < mode
  · exact shift_bad_mode x s mode hm w
  · exact shift_bad_s x s mode (by omega) (by omega) (by omega) w

end Go.Proofs.Ytkbfniogannlhaa
