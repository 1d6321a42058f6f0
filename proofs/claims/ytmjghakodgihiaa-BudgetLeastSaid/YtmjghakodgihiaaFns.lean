/- What package round's functions answer, one contract for each: for the numbers that the hypotheses name, the call returns what is said, and the world has at most new blocks. · What round.Shift answers: for each mode and each number of places, the quotient rounded; else the error; the world has at most new blocks. · What round.Up, round.Div and the reference's functions answer; none of them turns the world. · What the reference's Shift and Div answer: the same numbers, rounded; neither turns the world. · The contracts of round.Shift, of the reference's Shift and Div, and of the laws' own small call, each in one piece. -/
import Derived.Test.YtmjghakodgihiaaRows
import Derived.Test.YtmjghakodgihiaaPlain
import Derived.WalkKit
import Derived.ProofKit
import Derived.OpenShut
import Derived.Deep.RegionHeld3
import Derived.Deep.QuietTactic
import Derived.BigQuiet
import Derived.Outline
import Derived.Lib.Hide
import Derived.Laws.EntriesVeiled
namespace Go.Proofs.Ytmjghakodgihiaa
open Go.ChangeShapes Go.WideShapes Go.ChangeAt Go.RowKit

set_option linter.unusedVariables false
set_option maxRecDepth 100000

/-- The world has at most new blocks. -/
structure Gr (W w' : World) : Prop where
  out : Below W.heap.size W w'
theorem Gr.refl (W : World) : Gr W W := ⟨Below.refl _ W⟩
theorem Gr.size {W w' : World} (h : Gr W w') : W.heap.size ≤ w'.heap.size := h.out.size
theorem Gr.drew {W w' : World} (h : Gr W w') : Gr W w'.drew := ⟨h.out.drew⟩
theorem Gr.drewN {W w' : World} (h : Gr W w') (n : Nat) : Gr W (w'.drewN n) := ⟨⟨h.out.os, h.out.tape, h.out.output, h.out.size, h.out.block⟩⟩
theorem Gr.allocO {W w' : World} (h : Gr W w') (o : Obj) : Gr W (w'.alloc o) := ⟨h.out.alloc h.size o⟩
theorem Gr.alloc {W w' : World} (h : Gr W w') (c : Array Value) (t : TypeId) : Gr W (w'.alloc (.cells c t)) := h.allocO _
theorem Gr.setCell {W w' : World} (h : Gr W w') {a : Addr} (ha : W.heap.size ≤ a.block) (v : Value) : Gr W (w'.setCell a v) := ⟨h.out.setCell ha v⟩
theorem Gr.trans {a b c : World} (h : Gr a b) (k : Gr b c) : Gr a c := ⟨h.out.trans (k.out.mono h.size)⟩
theorem Gr.block {W w' : World} (h : Gr W w') {k : Nat} (hk : k < W.heap.size) : w'.heap[k]? = W.heap[k]? := h.out.block k hk
theorem Gr.cell {W w' : World} (h : Gr W w') {p : Addr} (hp : p.block < W.heap.size) : w'.cell? p = W.cell? p := h.out.cell hp
theorem Gr.frozen {W w' : World} (h : Gr W w') (a : Addr) (ha : a.block < W.heap.size := by first | (simp; done) | (simp; omega)) : w'.frozen? a = W.frozen? a := h.out.frozen ha
theorem Gr.grown {W w w' : World} {row : Option Nat} (h : Gr W w) (hg : w.grownBy w' row) (hr : ∀ k, row = some k → W.heap.size ≤ k) : Gr W w' := ⟨h.out.grown hg h.size hr⟩
theorem Gr.by' {W w : World} {row : Option Nat} (h : Gr W w) : W.grownBy w row := ⟨h.out.os, h.out.tape, h.out.output, h.out.size, fun k hk _ => h.out.block k hk⟩

open Classical in
/-- The end of a law: the answer, the arguments as they were, what was there as it was. -/
theorem post_gr {H : Type} {enc : TypeId × Value → H} {P : Program} {f : Func} {s : ChangeSpec} {apart fresh handsOn : Bool} {W W' : World} {args : Array Value} {v : Value} {ds gs : List (DataW H)} {before pa pv : List MemPlace}
    (hW : DataW.Whole enc P f.params.toList s.vars apart W args.toList ds gs before)
    (hres : ∀ (b : Nat) (sp : Nat → Bool) (hd : Bool), DataW.TrodAll enc P W' b sp hd f.resultTypes.toList (v.resultList f.resultTypes.size) (s.fn H (ds ++ gs)).results [])
    (hargs : ∀ sp : Nat → Bool, (∀ p ∈ before, sp p.block = true) → DataW.TrodAll enc P W' 0 sp true f.params.toList args.toList (s.fn H (ds ++ gs)).args pa)
    (hvars : ∀ sp : Nat → Bool, (∀ p ∈ before, sp p.block = true) → DataW.TrodVars enc P W' sp s.vars (s.fn H (ds ++ gs)).vars pv)
    (hps : before = pa ++ pv) (hg : Gr W W') :
    s.post enc P f apart fresh handsOn false W args v W' := by
  have hold : ∀ p ∈ before, (fun b => decide (b < W.heap.size)) p.block = true := fun p hp => by simpa using hW.lt p hp
  exact ⟨ds, gs, before, [], pa, pv, hW, hres _ _ _, hargs _ hold, hvars _ hold, World.keptBut_mono (fun p hp => ⟨hp, by rw [hps, List.mem_append] at hp; exact Or.inr hp⟩) (hg.out.frame _), fun h => by cases h⟩

end Go.Proofs.Ytmjghakodgihiaa

namespace Go.Proofs.Ytmjghakodgihiaa
open Go.ChangeShapes Go.WideShapes Go.ChangeAt Go.RowKit
set_option linter.unusedVariables false

end Go.Proofs.Ytmjghakodgihiaa

namespace Go.Proofs.Ytmjghakodgihiaa
open Go.ChangeShapes Go.WideShapes Go.ChangeAt Go.RowKit
set_option linter.unusedVariables false

theorem up_prod (x s : Int) (h0 : 0 ≤ s) (h1 : s ≤ 62) (ha : -(2 ^ (62 - s).toNat) ≤ x) (hb : x ≤ 2 ^ (62 - s).toNat) :
    -4611686018427387904 ≤ x * 2 ^ s.toNat ∧ x * 2 ^ s.toNat ≤ 4611686018427387904 := by
  have hp := pow_pos2 s.toNat
  have e : (2 : Int) ^ (62 - s).toNat * 2 ^ s.toNat = 4611686018427387904 := by
    rw [← Int.pow_add, show (62 - s).toNat + s.toNat = 62 by omega]; rfl
  have a := Int.mul_le_mul_of_nonneg_right ha (Int.le_of_lt hp)
  have b := Int.mul_le_mul_of_nonneg_right hb (Int.le_of_lt hp)
  rw [Int.neg_mul, e] at a
  rw [e] at b
  exact ⟨a, b⟩

theorem half_c (x : Int) (wx : -9223372036854775808 ≤ x ∧ x ≤ 9223372036854775807) (w : World) :
    Calls Try.prog 37 #[.int .i64 x] w fun e w' => e = .returned (.int .i64 (x / 2)) ∧ w' = w := by
  by_cases h0 : 0 < x
  · by_cases h2 : x % 2 = 0
    · go_enter Try.func37, Try.ntmps37
      go_wp2
      go_ret
      exact ⟨rfl, rfl⟩
    · go_enter Try.func37, Try.ntmps37
      go_wp2
      go_ret
      exact ⟨rfl, rfl⟩
  · by_cases h2 : (x.tmod 2 == 0) = true
    · have E := Lib.hid (half_even x h2)
      go_enter Try.func37, Try.ntmps37
      go_wp2
      rw [E.out]
      go_ret
      exact ⟨rfl, rfl⟩
    · have h2' : (x.tmod 2 == 0) = false := by simpa using h2
      have E := Lib.hid (half_odd x wx.1 (by omega) h2')
      clear h2
      go_enter Try.func37, Try.ntmps37
      go_wp2
      rw [E.out]
      go_ret
      exact ⟨rfl, rfl⟩

theorem pow_c (s : Int) (h0 : 0 ≤ s) (h1 : s ≤ 62) (w : World) :
    Calls Try.prog 26 #[.int .i64 s] w fun e w' => e = .returned (.int .i64 (2 ^ s.toNat)) ∧ w' = w := by
  go_enter Try.func26, Try.ntmps26
  go_wp2
  go_loop [3, 4] (fun o i => ∃ k : Nat, k ≤ s.toNat ∧ i = .int .i64 k ∧ o = .int .i64 (2 ^ k)) (fun _ i => s.toNat - (intOf i).toNat)
  case atStart => exact ⟨0, Nat.zero_le _, rfl, rfl⟩
  case round =>
    obtain ⟨k, hk, rfl, rfl⟩ := hrel
    by_cases hlt : k < s.toNat
    · have hp := pow_pos2 k
      have hq := pow_le61 k (by omega)
      have hs : (k : Int) < s := by omega
      have HE := Lib.hid (Int.pow_succ (2 : Int) k)
      go_wp2
      go_round
      case rel => exact ⟨k + 1, by omega, by go_num, by rw [HE.out]; go_num⟩
      case measure => simp [intOf]; omega
    · have hs : s ≤ (k : Int) := by omega
      have he : k = s.toNat := by omega
      have HE := Lib.hid he
      clear he
      go_wp2
      go_ret
      exact ⟨by rw [HE.out]; rfl, rfl⟩

theorem floor_c (x s : Int) (wx : -9223372036854775808 ≤ x ∧ x ≤ 9223372036854775807) (h0 : 0 ≤ s) (h1 : s ≤ 62) (w : World) :
    Calls Try.prog 34 #[.int .i64 x, .int .i64 s] w fun e w' => e = .returned (.int .i64 (x / 2 ^ s.toNat)) ∧ w' = w := by
  have WX := Lib.hid wx
  clear wx
  go_enter Try.func34, Try.ntmps34
  go_wp2
  go_loop [0, 5] (fun o i => ∃ k : Nat, k ≤ s.toNat ∧ i = .int .i64 k ∧ o = .int .i64 (x / 2 ^ k)) (fun _ i => s.toNat - (intOf i).toNat)
  case atStart => exact ⟨0, Nat.zero_le _, rfl, by simp⟩
  case round =>
    obtain ⟨k, hk, rfl, rfl⟩ := hrel
    by_cases hlt : k < s.toNat
    · have hs : (k : Int) < s := by omega
      have HE := Lib.hid (div_pow_succ x k)
      have HH := Lib.hid (half_c (x / 2 ^ k) (div_pow_bd x k WX.out.1 WX.out.2))
      go_wp2_with (go_at_call 37; refine (HH.out _).mono ?_; rintro e w2 ⟨rfl, rfl⟩)
      go_round
      case rel => exact ⟨k + 1, by omega, by go_num, by rw [HE.out]⟩
      case measure => simp [intOf]; omega
    · have hs : s ≤ (k : Int) := by omega
      have he : k = s.toNat := by omega
      have HE := Lib.hid he
      clear he
      go_wp2
      go_ret
      exact ⟨by rw [HE.out]; rfl, rfl⟩

end Go.Proofs.Ytmjghakodgihiaa

namespace Go.Proofs.Ytmjghakodgihiaa
open Go.ChangeShapes Go.WideShapes Go.ChangeAt Go.RowKit
set_option linter.unusedVariables false

theorem half_bd (x : Int) (n : Nat) (h0 : -9223372036854775808 ≤ x) (h1 : x ≤ 9223372036854775807) (hn : 1 ≤ n) :
    -4611686018427387904 ≤ x / 2 ^ n ∧ x / 2 ^ n ≤ 4611686018427387904 := by
  obtain ⟨m, rfl⟩ : ∃ m, n = m + 1 := ⟨n - 1, by omega⟩
  have b := div_pow_bd x m h0 h1
  rw [div_pow_succ]
  omega

theorem mul_div_bd (x : Int) (n : Nat) (h0 : -9223372036854775808 ≤ x) (h1 : x ≤ 9223372036854775807) (hn : n ≤ 62) :
    -9223372036854775808 ≤ x / 2 ^ n * 2 ^ n ∧ x / 2 ^ n * 2 ^ n ≤ 9223372036854775807 := by
  have hp := pow_pos2 n
  constructor
  · have e : (-9223372036854775808 : Int) = (-9223372036854775808) / 2 ^ n * 2 ^ n := by
      rw [Int.ediv_mul_cancel]
      exact ⟨-(2 ^ (63 - n)), by rw [Int.mul_neg, ← Int.pow_add, show n + (63 - n) = 63 by omega]; rfl⟩
    rw [e]
    exact Int.mul_le_mul_of_nonneg_right (Int.ediv_le_ediv hp h0) (Int.le_of_lt hp)
  · have := Int.ediv_mul_le x (Int.ne_of_gt hp)
    omega

theorem goesUp_pos (x : Int) (m : Nat) (q : Int) : goesUp 1 q (x % 2 ^ (m + 1)) (2 ^ (m + 1)) = decide (2 ^ m ≤ x % 2 ^ (m + 1)) := by
  have e : (2 : Int) ^ (m + 1) = 2 * 2 ^ m := by rw [Int.pow_succ, Int.mul_comm]
  generalize x % 2 ^ (m + 1) = l
  rw [e, goesUp, if_neg (by decide), if_pos rfl, decide_eq_decide]
  omega

theorem evenUp_pos (x : Int) (m : Nat) (q : Int) : goesUp 2 q (x % 2 ^ (m + 1)) (2 ^ (m + 1)) = if x % 2 ^ (m + 1) = 2 ^ m then (q.tmod 2 != 0) else decide (2 ^ m < x % 2 ^ (m + 1)) := by
  have e : (2 : Int) ^ (m + 1) = 2 * 2 ^ m := by rw [Int.pow_succ, Int.mul_comm]
  generalize x % 2 ^ (m + 1) = l
  rw [e, goesUp, if_neg (by decide), if_neg (by decide), evenUp]
  by_cases h : l = 2 ^ m
  · rw [if_pos h, if_pos (by omega)]
  · rw [if_neg h, if_neg (by omega), decide_eq_decide]
    omega

end Go.Proofs.Ytmjghakodgihiaa

namespace Go.Proofs.Ytmjghakodgihiaa
open Go.ChangeShapes Go.WideShapes Go.ChangeAt Go.RowKit
set_option linter.unusedVariables false

theorem rnd_zero (x mode : Int) : rnd x 0 mode = x := by
  have e : goesUp mode (x / 2 ^ 0) (x % 2 ^ 0) (2 ^ 0) = false := by
    have e0 : x % (2 : Int) ^ 0 = 0 := by simp
    rw [e0]
    simp [goesUp, evenUp]
  rw [rnd, e]
  simp

theorem rnd_floor (x : Int) (n : Nat) : rnd x n 0 = x / 2 ^ n := by simp [rnd, goesUp]

end Go.Proofs.Ytmjghakodgihiaa
