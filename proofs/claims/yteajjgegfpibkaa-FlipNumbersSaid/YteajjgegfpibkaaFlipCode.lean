/- What package flip's functions on places answer. -/
import Derived.Test.YteajjgegfpibkaaFlipMath
import Derived.Test.YteajjgegfpibkaaInts
import Derived.Test.YteajjgegfpibkaaAt3
import Derived.Deep.OwnRows
namespace Go.Proofs.Yteajjgegfpibkaa
open Go.ChangeShapes Go.WideShapes Go.ChangeAt Go.RowKit
set_option linter.unusedVariables false

theorem fl_step (k i : Nat) (hk : k < 6) : bits .or .i64 (wrap64 ((fl k i : Int) * 2)) (bits .and .i64 ((i : Int) / 2 ^ k) 1) = ((fl (k + 1) i : Nat) : Int) := by
  have h1 := and1 ((i / 2 ^ k : Nat) : Int)
  have h2 := fl_lt k i
  have h3 : 2 ^ k ≤ 64 := pow_le k (by omega)
  have h4 : wrap64 ((fl k i : Int) * 2) = ((2 * fl k i : Nat) : Int) := by rw [IntWalk.wrap64_in _ (by omega)]; omega
  have h5 : ((i / 2 ^ k : Nat) : Int) % 2 = ((i / 2 ^ k % 2 : Nat) : Int) := by omega
  rw [show (i : Int) / 2 ^ k = ((i / 2 ^ k : Nat) : Int) by simp, h1, h4, h5, or1 (fl k i) _ (by omega) (by omega), fl]

theorem wrap_pow6 (L : Nat) (h : L ≤ 6) : wrap64 (2 ^ L) = ((2 ^ L : Nat) : Int) := by
  have h64 := pow_le L h
  rw [show (2 : Int) ^ L = ((2 ^ L : Nat) : Int) by simp]
  generalize 2 ^ L = n at *
  exact IntWalk.wrap64_in _ ⟨by omega, by omega⟩

theorem flipped_c (i L : Nat) (hL : L ≤ 6) (hi : i < 64) (w : World) :
    Calls Try.prog 20 #[.int .i64 i, .int .i64 L] w fun e w' => e = .returned (.int .i64 (fl L i)) ∧ w' = w := by
  go_enter Try.func20, Try.ntmps20
  go_wp2
  go_loop [0, 5, 7] (fun i' f r => ∃ k : Nat, k ≤ L ∧ r = .int .i64 k ∧ f = .int .i64 (fl k i) ∧ i' = .int .i64 (i / 2 ^ k : Nat)) (fun _ _ r => L - (intOf r).toNat)
  case atStart => exact ⟨0, Nat.zero_le _, rfl, rfl, by simp⟩
  case round =>
    obtain ⟨k, hk, rfl, rfl, rfl⟩ := hrel
    by_cases hlt : k < L
    · have hs : (k : Int) < L := by omega
      have HS := Lib.hid (fl_step k i (by omega))
      go_wp2
      go_round
      case rel => exact ⟨k + 1, by omega, by go_num, by rw [HS.out], by rw [Nat.pow_succ, ← Nat.div_div_eq_div_mul]; simp⟩
      case measure => simp [intOf]; omega
    · have hs : (L : Int) ≤ k := by omega
      obtain rfl : k = L := by omega
      go_wp2
      go_ret
      exact ⟨rfl, rfl⟩

theorem mayBe08_yes (log : Int) (h0 : 2 ≤ log) (h1 : log ≤ 6) (w : World) :
    Calls Try.prog 19 #[.int .i64 log] w fun e w' => e = .returned (.bool true) ∧ w' = w := by
  go_enter Try.func19, Try.ntmps19
  go_wp2_with fail
  go_ret
  exact ⟨rfl, rfl⟩
theorem mayBe08_no (log : Int) (h : log < 2 ∨ 6 < log) (w : World) :
    Calls Try.prog 19 #[.int .i64 log] w fun e w' => e = .returned (.bool false) ∧ w' = w := by
  by_cases a : 2 ≤ log
  · have b : 6 < log := by omega
    clear h
    go_enter Try.func19, Try.ntmps19
    go_wp2_with fail
    go_ret
    exact ⟨by simp; omega, rfl⟩
  · clear h
    go_enter Try.func19, Try.ntmps19
    go_wp2_with fail
    go_ret
    exact ⟨by simp, rfl⟩

theorem bits08_ok (i L : Nat) (l0 : 2 ≤ L) (l1 : L ≤ 6) (hi : i < 2 ^ L) (w : World) :
    Calls Try.prog 6 #[.int .i64 i, .int .i64 L] w fun e w' => e = .returned (.tuple #[.int .i64 (fl L i), .int .i64 0]) ∧ w' = w := by
  have HM := Lib.hid (mayBe08_yes L (by omega) (by omega))
  have h64 := pow_le L l1
  have HF := Lib.hid (flipped_c i L l1 (by omega))
  have hp := wrap_pow6 L l1
  generalize 2 ^ L = n at *
  generalize fl L i = f at *
  go_enter Try.func6, Try.ntmps6
  go_wp2_with (first | (go_at_call 19; refine (HM.out _).mono ?_; rintro e wz ⟨rfl, rfl⟩) | (go_at_call 20; refine (HF.out _).mono ?_; rintro e wz ⟨rfl, rfl⟩))
  go_ret2
  exact ⟨rfl, rfl⟩

theorem bits08_log (i log : Int) (h : log < 2 ∨ 6 < log) (w : World) :
    Calls Try.prog 6 #[.int .i64 i, .int .i64 log] w fun e w' => e = .returned (.tuple #[.int .i64 0, .int .i64 1]) ∧ w' = w := by
  have HM := Lib.hid (mayBe08_no log h)
  clear h
  go_enter Try.func6, Try.ntmps6
  go_wp2_with (first | (go_at_call 19; refine (HM.out _).mono ?_; rintro e wz ⟨rfl, rfl⟩))
  go_ret2
  exact ⟨rfl, rfl⟩

theorem bits08_neg (i : Int) (L : Nat) (l0 : 2 ≤ L) (l1 : L ≤ 6) (h : i < 0) (w : World) :
    Calls Try.prog 6 #[.int .i64 i, .int .i64 L] w fun e w' => e = .returned (.tuple #[.int .i64 0, .int .i64 1]) ∧ w' = w := by
  have HM := Lib.hid (mayBe08_yes L (by omega) (by omega))
  go_enter Try.func6, Try.ntmps6
  go_wp2_with (first | (go_at_call 19; refine (HM.out _).mono ?_; rintro e wz ⟨rfl, rfl⟩))
  go_ret2
  exact ⟨rfl, rfl⟩

theorem bits08_big (i : Int) (L : Nat) (l0 : 2 ≤ L) (l1 : L ≤ 6) (h0 : 0 ≤ i) (h : ((2 ^ L : Nat) : Int) ≤ i) (w : World) :
    Calls Try.prog 6 #[.int .i64 i, .int .i64 L] w fun e w' => e = .returned (.tuple #[.int .i64 0, .int .i64 1]) ∧ w' = w := by
  have HM := Lib.hid (mayBe08_yes L (by omega) (by omega))
  have h64 := pow_le L l1
  have hp := wrap_pow6 L l1
  generalize 2 ^ L = n at *
  go_enter Try.func6, Try.ntmps6
  go_wp2_with (first | (go_at_call 19; refine (HM.out _).mono ?_; rintro e wz ⟨rfl, rfl⟩))
  go_ret2
  exact ⟨rfl, rfl⟩

/-- The places 0 to 2^L - 1, flipped. -/
def rowL (L : Nat) : List Int := (List.range (2 ^ L)).map (fun k => ((fl L k : Nat) : Int))
theorem rowL_len (L : Nat) : (rowL L).length = 2 ^ L := by unfold rowL; simp
theorem rowL_at (L j : Nat) (h : j < 2 ^ L) : (rowL L)[j]? = some ((fl L j : Nat) : Int) := by unfold rowL; simp [h]

set_option maxHeartbeats 1000000 in
theorem row08_ok (L : Nat) (l0 : 2 ≤ L) (l1 : L ≤ 6) (w : World) :
    Calls Try.prog 7 #[.int .i64 L] w fun e w' => ∃ v, e = .returned (.tuple #[v, .int .i64 0]) ∧ IntsAt w' v (rowL L) ∧ Gr w w' := by
  have HM := Lib.hid (mayBe08_yes L (by omega) (by omega))
  have h64 := pow_le L l1
  have HF := Lib.hid fun k (hk : k < 64) => flipped_c k L l1 hk
  have HL := Lib.hid (rowL_at L)
  have HN := Lib.hid (rowL_len L)
  have hp := wrap_pow6 L l1
  generalize rowL L = xs at *
  have infoI : (Try.prog.info? 3).map (fun i => (i.zero, i.size, i.bytes)) = some (some (.int .i64 0), 1, 8) := by kernel_rfl
  generalize 2 ^ L = n at *
  have hmk := run_make_row' (P := Try.prog) 25 3 (.int .i64 0) 8 Try.underlying25 infoI rfl .i64 .i64 n (by omega) (by omega)
  clear infoI
  go_enter Try.func7, Try.ntmps7
  go_wp2_with (first | (go_at_call 19; refine (HM.out _).mono ?_; rintro e wz ⟨rfl, rfl⟩))
  have M0 := MadeAt.start wz (.int .i64 0) n 3
  go_loopw [5, 14] (fun _ i wr => ∃ k : Nat, ∃ c : Array Value, k ≤ n ∧ i = .int .i64 k ∧ CellsAt wr wz.heap.size 3 c ∧ c.size = n ∧ (∀ j, j < k → c[j]? = some (.int .i64 ((fl L j : Nat) : Int))) ∧ Gr wz wr)
    (fun _ i _ => n - (intOf i).toNat)
  case atStart => exact ⟨0, _, by omega, rfl, M0.1, M0.2, fun j hj => absurd hj (Nat.not_lt_zero _), (Gr.refl _).alloc _ _⟩
  case round =>
    clear M0 hmk hp
    obtain ⟨k, c, hk, rfl, hC, hs, hj, hg⟩ := hrel
    by_cases hlt : k < n
    · have HA := Lib.hid (HF.out k (by omega))
      have HS := Lib.hid hs
      have HJ := Lib.hid hj
      have f2 := hC.frozen k
      have q2 := hC.cell k
      rw [Array.getElem?_eq_getElem (show k < c.size by rw [HS.out]; exact hlt)] at q2
      clear hs hj
      go_wp2_with (first | (go_at_call 20; refine (HA.out _).mono ?_; rintro e wy ⟨rfl, rfl⟩))
      have hC3 := hC.set k (.int .i64 ((fl L k : Nat) : Int))
      have hg4 := hg.setCell (a := ⟨wz.heap.size, k, none⟩) (by simp) (.int .i64 ((fl L k : Nat) : Int))
      go_roundw
      case rel =>
        refine ⟨k + 1, _, by omega, by go_num, hC3, by simpa using HS.out, fun j hj => ?_, hg4⟩
        rw [Array.getElem?_setIfInBounds]
        split
        · next e => subst e; rw [if_pos (by rw [HS.out]; exact hlt)]
        · exact HJ.out j (by omega)
      case measure => simp [intOf]; omega
    · have he : k = n := by omega
      subst he
      go_wp2_with fail
      go_ret2
      refine ⟨.slice (some ⟨wz.heap.size, 0, none⟩) k k, rfl, .inr ⟨wz.heap.size, 0, k, by rw [HN.out], by rw [HN.out]; omega, by unfold maxLen; omega, hC.lt, fun j x hx => ?_⟩, hg⟩
      have hjl : j < k := by
        have := (List.getElem?_eq_some_iff.1 hx).1
        rwa [HN.out] at this
      rw [HL.out j hjl] at hx
      obtain rfl := Option.some.inj hx
      rw [hC.cell, Nat.zero_add]
      exact hj j hjl

theorem row08_bad (log : Int) (h : log < 2 ∨ 6 < log) (w : World) :
    Calls Try.prog 7 #[.int .i64 log] w fun e w' => e = .returned (.tuple #[.slice none 0 0, .int .i64 1]) ∧ w' = w := by
  have HM := Lib.hid (mayBe08_no log h)
  clear h
  go_enter Try.func7, Try.ntmps7
  go_wp2_with (first | (go_at_call 19; refine (HM.out _).mono ?_; rintro e wz ⟨rfl, rfl⟩))
  go_ret2
  exact ⟨rfl, rfl⟩

/-- Which power of 2 a length is. -/
def IsLog (n : Int) (L : Nat) : Prop := 2 ≤ L ∧ L ≤ 6 ∧ n = ((2 ^ L : Nat) : Int)
theorem isLog_cases {n : Int} {L : Nat} (h : IsLog n L) : (L = 2 ∧ n = 4) ∨ (L = 3 ∧ n = 8) ∨ (L = 4 ∧ n = 16) ∨ (L = 5 ∧ n = 32) ∨ (L = 6 ∧ n = 64) := by
  obtain ⟨h0, h1, rfl⟩ := h
  have : L = 2 ∨ L = 3 ∨ L = 4 ∨ L = 5 ∨ L = 6 := by omega
  rcases this with rfl | rfl | rfl | rfl | rfl <;> simp

set_option maxHeartbeats 1000000 in
theorem log08_yes (n : Int) (L : Nat) (h : IsLog n L) (w : World) :
    Calls Try.prog 8 #[.int .i64 n] w fun e w' => e = .returned (.tuple #[.int .i64 L, .int .i64 0]) ∧ w' = w := by
  rcases isLog_cases h with ⟨rfl, rfl⟩ | ⟨rfl, rfl⟩ | ⟨rfl, rfl⟩ | ⟨rfl, rfl⟩ | ⟨rfl, rfl⟩
  all_goals
    clear h
    go_enter Try.func8, Try.ntmps8
    go_wp2_with fail
    refine wp_loop_rounds 6 ?_
    repeat (rw [rounds_succ]; go_wp2_with fail)
    go_ret2
    exact ⟨rfl, rfl⟩

set_option maxHeartbeats 1000000 in
theorem log08_no (n : Int) (h4 : n ≠ 4) (h8 : n ≠ 8) (h16 : n ≠ 16) (h32 : n ≠ 32) (h64 : n ≠ 64) (w : World) :
    Calls Try.prog 8 #[.int .i64 n] w fun e w' => e = .returned (.tuple #[.int .i64 0, .int .i64 3]) ∧ w' = w := by
  have e4 : (n == 4) = false := by simpa using h4
  have e8 : (n == 8) = false := by simpa using h8
  have e16 : (n == 16) = false := by simpa using h16
  have e32 : (n == 32) = false := by simpa using h32
  have e64 : (n == 64) = false := by simpa using h64
  clear h4 h8 h16 h32 h64
  go_enter Try.func8, Try.ntmps8
  go_wp2_with fail
  refine wp_loop_rounds 6 ?_
  repeat (rw [rounds_succ]; go_wp2_with fail)
  go_ret2
  exact ⟨rfl, rfl⟩

theorem alive08_c (w : World) :
    Calls Try.prog 11 #[] w fun e w' => e = .returned (.bool true) ∧ w' = w := by
  have HB := Lib.hid (bits08_ok 1 4 (by omega) (by omega) (by decide))
  rw [show ((fl 4 1 : Nat) : Int) = 8 by decide] at HB
  go_enter Try.func11, Try.ntmps11
  go_wp2_with (first | (go_at_call 6; refine (HB.out _).mono ?_; rintro e wz ⟨rfl, rfl⟩))
  go_ret
  exact ⟨rfl, rfl⟩

end Go.Proofs.Yteajjgegfpibkaa
