/- What package round's functions answer, one contract for each: for the numbers that the hypotheses name, the call returns what is said, and the world has at most new blocks. · What round.Shift answers: for each mode and each number of places, the quotient rounded; else the error; the world has at most new blocks. · What round.Up, round.Div and the reference's functions answer; none of them turns the world. · What the reference's Shift and Div answer: the same numbers, rounded; neither turns the world. · The contracts of round.Shift, of the reference's Shift and Div, and of the laws' own small call, each in one piece. -/
import Derived.Test.YtbdglbpkbpedoaaRows
import Derived.Test.YtbdglbpkbpedoaaPlain
import Derived.WalkKit
import Derived.ProofKit
import Derived.OpenShut
import Derived.Deep.RegionHeld3
import Derived.Deep.QuietTactic
import Derived.BigQuiet
import Derived.Outline
import Derived.Lib.Hide
import Derived.Laws.EntriesVeiled
namespace Go.Proofs.Ytbdglbpkbpedoaa
open Go.ChangeShapes Go.WideShapes Go.ChangeAt Go.RowKit

set_option linter.unusedVariables false
set_option maxRecDepth 100000

theorem lacking_c (d l v : Int) (h0 : 0 ≤ l) (h1 : l ≤ v) (h2 : v ≤ 4611686018427387904) (w : World) :
    Calls Try.prog 80 #[.agg #[.int .i64 d, .int .i64 l, .int .i64 v]] w fun e w' => e = .returned (.int .i64 (v - l)) ∧ w' = w.alloc (.cells #[.int .i64 d, .int .i64 l, .int .i64 v] 72) := by
  go_enter Try.func80, Try.ntmps80
  go_wp2
  go_ret
  exact ⟨rfl, rfl⟩

/-- The world has at most new blocks. -/
structure Gr (W w' : World) : Prop where
  out : Below W.heap.size W w'
theorem Gr.refl (W : World) : Gr W W := ⟨Below.refl _ W⟩
theorem Gr.size {W w' : World} (h : Gr W w') : W.heap.size ≤ w'.heap.size := h.out.size
theorem Gr.drew {W w' : World} (h : Gr W w') : Gr W w'.drew := ⟨h.out.drew⟩
theorem Gr.drewN {W w' : World} (h : Gr W w') (n : Nat) : Gr W (w'.drewN n) := ⟨⟨h.out.os, h.out.tape, h.out.output, h.out.size, h.out.block⟩⟩
theorem Gr.allocO {W w' : World} (h : Gr W w') (o : Obj) : Gr W (w'.alloc o) := ⟨h.out.alloc h.size o⟩
theorem Gr.alloc {W w' : World} (h : Gr W w') (c : Array Value) (t : TypeId) : Gr W (w'.alloc (.cells c t)) := h.allocO _
theorem Gr.setCell {W w' : World} (h : Gr W w') {a : Addr} (ha : W.heap.size ≤ a.block) (v : Value) : Gr W (w'.setCell a v) := ⟨h.out.setCell ha v⟩
theorem Gr.trans {a b c : World} (h : Gr a b) (k : Gr b c) : Gr a c := ⟨h.out.trans (k.out.mono h.size)⟩
theorem Gr.block {W w' : World} (h : Gr W w') {k : Nat} (hk : k < W.heap.size) : w'.heap[k]? = W.heap[k]? := h.out.block k hk
theorem Gr.cell {W w' : World} (h : Gr W w') {p : Addr} (hp : p.block < W.heap.size) : w'.cell? p = W.cell? p := h.out.cell hp
theorem Gr.frozen {W w' : World} (h : Gr W w') (a : Addr) (ha : a.block < W.heap.size := by first | (simp; done) | (simp; omega)) : w'.frozen? a = W.frozen? a := h.out.frozen ha
theorem Gr.grown {W w w' : World} {row : Option Nat} (h : Gr W w) (hg : w.grownBy w' row) (hr : ∀ k, row = some k → W.heap.size ≤ k) : Gr W w' := ⟨h.out.grown hg h.size hr⟩
theorem Gr.by' {W w : World} {row : Option Nat} (h : Gr W w) : W.grownBy w row := ⟨h.out.os, h.out.tape, h.out.output, h.out.size, fun k hk _ => h.out.block k hk⟩

open Classical in
/-- The end of a law: the answer, the arguments as they were, what was there as it was. -/
theorem post_gr {H : Type} {enc : TypeId × Value → H} {P : Program} {f : Func} {s : ChangeSpec} {apart fresh handsOn : Bool} {W W' : World} {args : Array Value} {v : Value} {ds gs : List (DataW H)} {before pa pv : List MemPlace}
    (hW : DataW.Whole enc P f.params.toList s.vars apart W args.toList ds gs before)
    (hres : ∀ (b : Nat) (sp : Nat → Bool) (hd : Bool), DataW.TrodAll enc P W' b sp hd f.resultTypes.toList (v.resultList f.resultTypes.size) (s.fn H (ds ++ gs)).results [])
    (hargs : ∀ sp : Nat → Bool, (∀ p ∈ before, sp p.block = true) → DataW.TrodAll enc P W' 0 sp true f.params.toList args.toList (s.fn H (ds ++ gs)).args pa)
    (hvars : ∀ sp : Nat → Bool, (∀ p ∈ before, sp p.block = true) → DataW.TrodVars enc P W' sp s.vars (s.fn H (ds ++ gs)).vars pv)
    (hps : before = pa ++ pv) (hg : Gr W W') :
    s.post enc P f apart fresh handsOn false W args v W' := by
  have hold : ∀ p ∈ before, (fun b => decide (b < W.heap.size)) p.block = true := fun p hp => by simpa using hW.lt p hp
  exact ⟨ds, gs, before, [], pa, pv, hW, hres _ _ _, hargs _ hold, hvars _ hold, World.keptBut_mono (fun p hp => ⟨hp, by rw [hps, List.mem_append] at hp; exact Or.inr hp⟩) (hg.out.frame _), fun h => by cases h⟩

theorem fromHalf_c (d l v : Int) (h0 : 0 ≤ l) (h1 : l ≤ v) (h2 : v ≤ 4611686018427387904) (w : World) :
    Calls Try.prog 69 #[.agg #[.int .i64 d, .int .i64 l, .int .i64 v]] w fun e w' => e = .returned (.bool (decide (v - l ≤ l))) ∧ Gr w w' := by
  go_enter Try.func69, Try.ntmps69
  go_wp2
  go_region_held3 (fun w' => w'.cell? ⟨w.heap.size, 0, none⟩ = some (.int .i64 d) ∧ w'.cell? ⟨w.heap.size, 1, none⟩ = some (.int .i64 l) ∧ w'.cell? ⟨w.heap.size, 2, none⟩ = some (.int .i64 v) ∧ Gr w w')
    (first | (go_split_ands; refine ⟨?_, ?_, ?_, ?_⟩; (all_goals (first | (go_keep; done) | (repeat (first | exact Gr.refl _ | assumption | apply Gr.drew | apply Gr.alloc))))))
    (first | (go_at_call 80; refine (lacking_c d l v h0 h1 h2 _).mono ?_; rintro e w' ⟨rfl, rfl⟩))
  go_wp2
  go_ret
  exact ⟨rfl, by repeat (first | exact Gr.refl _ | assumption | apply Gr.drew | apply Gr.alloc)⟩


theorem fromHalfToEven_c (d l v : Int) (h0 : 0 ≤ l) (h1 : l ≤ v) (h2 : v ≤ 4611686018427387904) (w : World) :
    Calls Try.prog 70 #[.agg #[.int .i64 d, .int .i64 l, .int .i64 v]] w fun e w' => e = .returned (.bool (evenUp d l v)) ∧ Gr w w' := by
  by_cases hl : l = v - l
  · have he : evenUp d l v = (d.tmod 2 != 0) := by unfold evenUp; rw [if_pos hl]
    rw [he]
    have hl' : (l == v - l) = true := by simpa using hl
    have HL := Lib.hid hl
    clear hl he
    go_enter Try.func70, Try.ntmps70
    go_wp2
    go_region_held3 (fun w' => w'.cell? ⟨w.heap.size, 0, none⟩ = some (.int .i64 d) ∧ w'.cell? ⟨w.heap.size, 1, none⟩ = some (.int .i64 l) ∧ w'.cell? ⟨w.heap.size, 2, none⟩ = some (.int .i64 v) ∧ Gr w w')
      (first | (go_split_ands; refine ⟨?_, ?_, ?_, ?_⟩; (all_goals (first | (go_keep; done) | (repeat (first | exact Gr.refl _ | assumption | apply Gr.drew | apply Gr.alloc))))))
      (first | (go_at_call 80; refine (lacking_c d l v h0 h1 h2 _).mono ?_; rintro e w' ⟨rfl, rfl⟩))
    go_wp2
    go_ret
    exact ⟨rfl, by repeat (first | exact Gr.refl _ | assumption | apply Gr.drew | apply Gr.alloc)⟩
  · have he : evenUp d l v = decide (v - l < l) := by unfold evenUp; rw [if_neg hl]
    rw [he]
    have hl' : (l == v - l) = false := by simpa using hl
    have HL := Lib.hid hl
    clear hl he
    go_enter Try.func70, Try.ntmps70
    go_wp2
    go_region_held3 (fun w' => w'.cell? ⟨w.heap.size, 0, none⟩ = some (.int .i64 d) ∧ w'.cell? ⟨w.heap.size, 1, none⟩ = some (.int .i64 l) ∧ w'.cell? ⟨w.heap.size, 2, none⟩ = some (.int .i64 v) ∧ Gr w w')
      (first | (go_split_ands; refine ⟨?_, ?_, ?_, ?_⟩; (all_goals (first | (go_keep; done) | (repeat (first | exact Gr.refl _ | assumption | apply Gr.drew | apply Gr.alloc))))))
      (first | (go_at_call 80; refine (lacking_c d l v h0 h1 h2 _).mono ?_; rintro e w' ⟨rfl, rfl⟩))
    go_wp2
    go_region_held3 (fun w' => w'.cell? ⟨w.heap.size, 0, none⟩ = some (.int .i64 d) ∧ w'.cell? ⟨w.heap.size, 1, none⟩ = some (.int .i64 l) ∧ w'.cell? ⟨w.heap.size, 2, none⟩ = some (.int .i64 v) ∧ Gr w w')
      (first | (go_split_ands; refine ⟨?_, ?_, ?_, ?_⟩; (all_goals (first | (go_keep; done) | (repeat (first | exact Gr.refl _ | assumption | apply Gr.drew | apply Gr.alloc))))))
      (first | (go_at_call 80; refine (lacking_c d l v h0 h1 h2 _).mono ?_; rintro e w' ⟨rfl, rfl⟩))
    go_wp2
    go_ret
    exact ⟨rfl, by repeat (first | exact Gr.refl _ | assumption | apply Gr.drew | apply Gr.alloc)⟩

theorem never_c (d l v : Int) (w : World) :
    Calls Try.prog 68 #[.agg #[.int .i64 d, .int .i64 l, .int .i64 v]] w fun e w' => e = .returned (.bool false) ∧ Gr w w' := by
  go_enter Try.func68, Try.ntmps68
  go_wp2
  go_ret
  exact ⟨rfl, by repeat (first | exact Gr.refl _ | assumption | apply Gr.drew | apply Gr.alloc)⟩

theorem mayShift_c (s : Int) (w : World) :
    Calls Try.prog 49 #[.int .i64 s] w fun e w' => e = .returned (.bool (decide (0 ≤ s ∧ s ≤ 62))) ∧ w' = w := by
  by_cases h0 : 0 ≤ s
  · by_cases h1 : s ≤ 62
    · go_enter Try.func49, Try.ntmps49
      go_wp2
      go_ret
      exact ⟨by simp [h0, h1], rfl⟩
    · go_enter Try.func49, Try.ntmps49
      go_wp2
      go_ret
      exact ⟨by simp; omega, rfl⟩
  · go_enter Try.func49, Try.ntmps49
    go_wp2
    go_ret
    exact ⟨by simp; omega, rfl⟩

theorem roundedNever_c (d l v : Int) (h0 : 0 ≤ l) (h1 : l ≤ v) (h2 : v ≤ 4611686018427387904) (hd0 : -9223372036854775807 ≤ d + 1) (hd : false = true → d ≤ 9223372036854775806) (w : World) :
    Calls Try.prog 50 #[.agg #[.int .i64 d, .int .i64 l, .int .i64 v], .agg #[.func (.func 68) #[] #[]]] w fun e w' => e = .returned (.int .i64 (bif false then d + 1 else d)) ∧ Gr w w' := by
  have hcon : ∀ W, Calls Try.prog 68 #[.agg #[.int .i64 d, .int .i64 l, .int .i64 v]] W fun e w' => e = .returned (.bool false) ∧ Gr W w' := fun W => never_c d l v W
  generalize false = b at hcon hd ⊢
  have HC := Lib.hid hcon
  clear hcon
  cases b
  · clear hd
    go_enter Try.func50, Try.ntmps50
    go_wp2_with (go_at_call 68; refine (HC.out _).mono ?_; rintro e w1 ⟨rfl, hg⟩; have c0 := hg.cell (p := ⟨w.heap.size, 0, none⟩) (by simp; omega))
    go_ret
    exact ⟨rfl, Gr.trans (by repeat (first | exact Gr.refl _ | assumption | apply Gr.drew | apply Gr.alloc)) hg⟩
  · have hd1 := hd rfl
    clear hd
    go_enter Try.func50, Try.ntmps50
    go_wp2_with (go_at_call 68; refine (HC.out _).mono ?_; rintro e w1 ⟨rfl, hg⟩; have c0 := hg.cell (p := ⟨w.heap.size, 0, none⟩) (by simp; omega))
    go_ret
    exact ⟨rfl, Gr.trans (by repeat (first | exact Gr.refl _ | assumption | apply Gr.drew | apply Gr.alloc)) hg⟩

theorem roundedHalf_c (d l v : Int) (h0 : 0 ≤ l) (h1 : l ≤ v) (h2 : v ≤ 4611686018427387904) (hd0 : -9223372036854775807 ≤ d + 1) (hd : (decide (v - l ≤ l)) = true → d ≤ 9223372036854775806) (w : World) :
    Calls Try.prog 50 #[.agg #[.int .i64 d, .int .i64 l, .int .i64 v], .agg #[.func (.func 69) #[] #[]]] w fun e w' => e = .returned (.int .i64 (bif (decide (v - l ≤ l)) then d + 1 else d)) ∧ Gr w w' := by
  have hcon : ∀ W, Calls Try.prog 69 #[.agg #[.int .i64 d, .int .i64 l, .int .i64 v]] W fun e w' => e = .returned (.bool (decide (v - l ≤ l))) ∧ Gr W w' := fun W => fromHalf_c d l v h0 h1 h2 W
  generalize (decide (v - l ≤ l)) = b at hcon hd ⊢
  have HC := Lib.hid hcon
  clear hcon
  cases b
  · clear hd
    go_enter Try.func50, Try.ntmps50
    go_wp2_with (go_at_call 69; refine (HC.out _).mono ?_; rintro e w1 ⟨rfl, hg⟩; have c0 := hg.cell (p := ⟨w.heap.size, 0, none⟩) (by simp; omega))
    go_ret
    exact ⟨rfl, Gr.trans (by repeat (first | exact Gr.refl _ | assumption | apply Gr.drew | apply Gr.alloc)) hg⟩
  · have hd1 := hd rfl
    clear hd
    go_enter Try.func50, Try.ntmps50
    go_wp2_with (go_at_call 69; refine (HC.out _).mono ?_; rintro e w1 ⟨rfl, hg⟩; have c0 := hg.cell (p := ⟨w.heap.size, 0, none⟩) (by simp; omega))
    go_ret
    exact ⟨rfl, Gr.trans (by repeat (first | exact Gr.refl _ | assumption | apply Gr.drew | apply Gr.alloc)) hg⟩

theorem roundedEven_c (d l v : Int) (h0 : 0 ≤ l) (h1 : l ≤ v) (h2 : v ≤ 4611686018427387904) (hd0 : -9223372036854775807 ≤ d + 1) (hd : (evenUp d l v) = true → d ≤ 9223372036854775806) (w : World) :
    Calls Try.prog 50 #[.agg #[.int .i64 d, .int .i64 l, .int .i64 v], .agg #[.func (.func 70) #[] #[]]] w fun e w' => e = .returned (.int .i64 (bif (evenUp d l v) then d + 1 else d)) ∧ Gr w w' := by
  have hcon : ∀ W, Calls Try.prog 70 #[.agg #[.int .i64 d, .int .i64 l, .int .i64 v]] W fun e w' => e = .returned (.bool (evenUp d l v)) ∧ Gr W w' := fun W => fromHalfToEven_c d l v h0 h1 h2 W
  generalize (evenUp d l v) = b at hcon hd ⊢
  have HC := Lib.hid hcon
  clear hcon
  cases b
  · clear hd
    go_enter Try.func50, Try.ntmps50
    go_wp2_with (go_at_call 70; refine (HC.out _).mono ?_; rintro e w1 ⟨rfl, hg⟩; have c0 := hg.cell (p := ⟨w.heap.size, 0, none⟩) (by simp; omega))
    go_ret
    exact ⟨rfl, Gr.trans (by repeat (first | exact Gr.refl _ | assumption | apply Gr.drew | apply Gr.alloc)) hg⟩
  · have hd1 := hd rfl
    clear hd
    go_enter Try.func50, Try.ntmps50
    go_wp2_with (go_at_call 70; refine (HC.out _).mono ?_; rintro e w1 ⟨rfl, hg⟩; have c0 := hg.cell (p := ⟨w.heap.size, 0, none⟩) (by simp; omega))
    go_ret
    exact ⟨rfl, Gr.trans (by repeat (first | exact Gr.refl _ | assumption | apply Gr.drew | apply Gr.alloc)) hg⟩

end Go.Proofs.Ytbdglbpkbpedoaa

namespace Go.Proofs.Ytbdglbpkbpedoaa
open Go.ChangeShapes Go.WideShapes Go.ChangeAt Go.RowKit
set_option linter.unusedVariables false

theorem roundingOf_floor (w : World) :
    Calls Try.prog 48 #[.int .i64 0] w fun e w' => e = .returned (.tuple #[.agg #[.func (.func 68) #[] #[]], .bool true]) ∧ Gr w w' := by
  go_enter Try.func48, Try.ntmps48
  go_wp2
  exact bodyPost_ret (v := .tuple #[.agg #[.func (.func 68) #[] #[]], .bool true]) (by simp [results, Try.results48, go_sem]) rfl ⟨rfl, by repeat (first | exact Gr.refl _ | assumption | apply Gr.drew | apply Gr.alloc)⟩

theorem roundingOf_up (w : World) :
    Calls Try.prog 48 #[.int .i64 1] w fun e w' => e = .returned (.tuple #[.agg #[.func (.func 69) #[] #[]], .bool true]) ∧ Gr w w' := by
  go_enter Try.func48, Try.ntmps48
  go_wp2
  exact bodyPost_ret (v := .tuple #[.agg #[.func (.func 69) #[] #[]], .bool true]) (by simp [results, Try.results48, go_sem]) rfl ⟨rfl, by repeat (first | exact Gr.refl _ | assumption | apply Gr.drew | apply Gr.alloc)⟩

theorem roundingOf_even (w : World) :
    Calls Try.prog 48 #[.int .i64 2] w fun e w' => e = .returned (.tuple #[.agg #[.func (.func 70) #[] #[]], .bool true]) ∧ Gr w w' := by
  go_enter Try.func48, Try.ntmps48
  go_wp2
  exact bodyPost_ret (v := .tuple #[.agg #[.func (.func 70) #[] #[]], .bool true]) (by simp [results, Try.results48, go_sem]) rfl ⟨rfl, by repeat (first | exact Gr.refl _ | assumption | apply Gr.drew | apply Gr.alloc)⟩

theorem roundingOf_none (m : Int) (h : m < 0 ∨ 2 < m) (w : World) :
    Calls Try.prog 48 #[.int .i64 m] w fun e w' => e = .returned (.tuple #[.agg #[.nilFunc], .bool false]) ∧ Gr w w' := by
  have h0 : (m == 0) = false := by simp; omega
  have h1 : (m == 1) = false := by simp; omega
  have h2 : (m == 2) = false := by simp; omega
  clear h
  go_enter Try.func48, Try.ntmps48
  go_wp2
  exact bodyPost_ret (v := .tuple #[.agg #[.nilFunc], .bool false]) (by simp [results, Try.results48, go_sem]) rfl ⟨rfl, by repeat (first | exact Gr.refl _ | assumption | apply Gr.drew | apply Gr.alloc)⟩

theorem mayShift_yes (s : Int) (h0 : 0 ≤ s) (h1 : s ≤ 62) (w : World) :
    Calls Try.prog 49 #[.int .i64 s] w fun e w' => e = .returned (.bool true) ∧ w' = w :=
  (mayShift_c s w).mono fun e w' ⟨he, hw⟩ => ⟨by rw [he]; simp [h0, h1], hw⟩

theorem mayShift_no (s : Int) (h : s < 0 ∨ 62 < s) (w : World) :
    Calls Try.prog 49 #[.int .i64 s] w fun e w' => e = .returned (.bool false) ∧ w' = w :=
  (mayShift_c s w).mono fun e w' ⟨he, hw⟩ => ⟨by rw [he]; simp; omega, hw⟩

theorem shift_floor (x s : Int) (wx : -9223372036854775808 ≤ x ∧ x ≤ 9223372036854775807) (d0 : 0 ≤ s) (d1 : s ≤ 62) (w : World) :
    Calls Try.prog 24 #[.int .i64 x, .int .i64 s, .int .i64 0] w fun e w' => e = .returned (.tuple #[.int .i64 (rnd x s.toNat 0), .int .i64 0]) ∧ Gr w w' := by
  have hp := pow_pos2 s.toNat
  have hl := pow_le62 s.toNat (by omega)
  have hb := bits_mask x s.toNat (by omega)
  have m0 := Int.emod_nonneg x (Int.ne_of_gt hp)
  have m1 := Int.emod_lt_of_pos x hp
  have q0 := (div_pow_bd x s.toNat wx.1 wx.2).1
  have ub := up_bd x s.toNat wx.1 wx.2
  have hc : ∀ W, Calls Try.prog 50 #[.agg #[.int .i64 (x / 2 ^ s.toNat), .int .i64 (x % 2 ^ s.toNat), .int .i64 (2 ^ s.toNat)], .agg #[.func (.func 68) #[] #[]]] W
      fun e w' => e = .returned (.int .i64 (rnd x s.toNat 0)) ∧ Gr W w' :=
    fun W => (roundedNever_c _ _ _ m0 (Int.le_of_lt m1) hl (by omega) (fun h => by cases h) W).mono fun e w' ⟨he, hw⟩ => ⟨by rw [he]; simp [rnd, goesUp], hw⟩
  generalize rnd x s.toNat 0 = r at hc ⊢
  have HC := Lib.hid hc
  clear hc ub q0 m0 m1 wx
  go_enter Try.func24, Try.ntmps24
  go_wp2_with (first
    | (go_at_call 48; refine (roundingOf_floor _).mono ?_; rintro e w1 ⟨rfl, hg⟩)
    | (go_at_call 49; refine (mayShift_yes _ d0 d1 _).mono ?_; rintro e w2 ⟨rfl, rfl⟩)
    | (go_at_call 50; refine (HC.out _).mono ?_; rintro e w3 ⟨rfl, hg3⟩))
  go_ret2
  exact ⟨rfl, Gr.trans (by repeat (first | exact Gr.refl _ | assumption | apply Gr.drew | apply Gr.alloc)) hg3⟩

theorem shift_up (x s : Int) (wx : -9223372036854775808 ≤ x ∧ x ≤ 9223372036854775807) (d0 : 0 ≤ s) (d1 : s ≤ 62) (w : World) :
    Calls Try.prog 24 #[.int .i64 x, .int .i64 s, .int .i64 1] w fun e w' => e = .returned (.tuple #[.int .i64 (rnd x s.toNat 1), .int .i64 0]) ∧ Gr w w' := by
  have hp := pow_pos2 s.toNat
  have hl := pow_le62 s.toNat (by omega)
  have hb := bits_mask x s.toNat (by omega)
  have m0 := Int.emod_nonneg x (Int.ne_of_gt hp)
  have m1 := Int.emod_lt_of_pos x hp
  have q0 := (div_pow_bd x s.toNat wx.1 wx.2).1
  have ub := up_bd x s.toNat wx.1 wx.2
  have hc : ∀ W, Calls Try.prog 50 #[.agg #[.int .i64 (x / 2 ^ s.toNat), .int .i64 (x % 2 ^ s.toNat), .int .i64 (2 ^ s.toNat)], .agg #[.func (.func 69) #[] #[]]] W
      fun e w' => e = .returned (.int .i64 (rnd x s.toNat 1)) ∧ Gr W w' :=
    fun W => (roundedHalf_c _ _ _ m0 (Int.le_of_lt m1) hl (by omega) (fun h => ub 1 (by simpa [goesUp] using h)) W).mono fun e w' ⟨he, hw⟩ => ⟨by rw [he]; simp [rnd, goesUp], hw⟩
  generalize rnd x s.toNat 1 = r at hc ⊢
  have HC := Lib.hid hc
  clear hc ub q0 m0 m1 wx
  go_enter Try.func24, Try.ntmps24
  go_wp2_with (first
    | (go_at_call 48; refine (roundingOf_up _).mono ?_; rintro e w1 ⟨rfl, hg⟩)
    | (go_at_call 49; refine (mayShift_yes _ d0 d1 _).mono ?_; rintro e w2 ⟨rfl, rfl⟩)
    | (go_at_call 50; refine (HC.out _).mono ?_; rintro e w3 ⟨rfl, hg3⟩))
  go_ret2
  exact ⟨rfl, Gr.trans (by repeat (first | exact Gr.refl _ | assumption | apply Gr.drew | apply Gr.alloc)) hg3⟩

theorem shift_even (x s : Int) (wx : -9223372036854775808 ≤ x ∧ x ≤ 9223372036854775807) (d0 : 0 ≤ s) (d1 : s ≤ 62) (w : World) :
    Calls Try.prog 24 #[.int .i64 x, .int .i64 s, .int .i64 2] w fun e w' => e = .returned (.tuple #[.int .i64 (rnd x s.toNat 2), .int .i64 0]) ∧ Gr w w' := by
  have hp := pow_pos2 s.toNat
  have hl := pow_le62 s.toNat (by omega)
  have hb := bits_mask x s.toNat (by omega)
  have m0 := Int.emod_nonneg x (Int.ne_of_gt hp)
  have m1 := Int.emod_lt_of_pos x hp
  have q0 := (div_pow_bd x s.toNat wx.1 wx.2).1
  have ub := up_bd x s.toNat wx.1 wx.2
  have hc : ∀ W, Calls Try.prog 50 #[.agg #[.int .i64 (x / 2 ^ s.toNat), .int .i64 (x % 2 ^ s.toNat), .int .i64 (2 ^ s.toNat)], .agg #[.func (.func 70) #[] #[]]] W
      fun e w' => e = .returned (.int .i64 (rnd x s.toNat 2)) ∧ Gr W w' :=
    fun W => (roundedEven_c _ _ _ m0 (Int.le_of_lt m1) hl (by omega) (fun h => ub 2 (by simpa [goesUp] using h)) W).mono fun e w' ⟨he, hw⟩ => ⟨by rw [he]; simp [rnd, goesUp], hw⟩
  generalize rnd x s.toNat 2 = r at hc ⊢
  have HC := Lib.hid hc
  clear hc ub q0 m0 m1 wx
  go_enter Try.func24, Try.ntmps24
  go_wp2_with (first
    | (go_at_call 48; refine (roundingOf_even _).mono ?_; rintro e w1 ⟨rfl, hg⟩)
    | (go_at_call 49; refine (mayShift_yes _ d0 d1 _).mono ?_; rintro e w2 ⟨rfl, rfl⟩)
    | (go_at_call 50; refine (HC.out _).mono ?_; rintro e w3 ⟨rfl, hg3⟩))
  go_ret2
  exact ⟨rfl, Gr.trans (by repeat (first | exact Gr.refl _ | assumption | apply Gr.drew | apply Gr.alloc)) hg3⟩

end Go.Proofs.Ytbdglbpkbpedoaa

namespace Go.Proofs.Ytbdglbpkbpedoaa
open Go.ChangeShapes Go.WideShapes Go.ChangeAt Go.RowKit
set_option linter.unusedVariables false

theorem up_prod (x s : Int) (h0 : 0 ≤ s) (h1 : s ≤ 62) (ha : -(2 ^ (62 - s).toNat) ≤ x) (hb : x ≤ 2 ^ (62 - s).toNat) :
    -4611686018427387904 ≤ x * 2 ^ s.toNat ∧ x * 2 ^ s.toNat ≤ 4611686018427387904 := by
  have hp := pow_pos2 s.toNat
  have e : (2 : Int) ^ (62 - s).toNat * 2 ^ s.toNat = 4611686018427387904 := by
    rw [← Int.pow_add, show (62 - s).toNat + s.toNat = 62 by omega]; rfl
  have a := Int.mul_le_mul_of_nonneg_right ha (Int.le_of_lt hp)
  have b := Int.mul_le_mul_of_nonneg_right hb (Int.le_of_lt hp)
  rw [Int.neg_mul, e] at a
  rw [e] at b
  exact ⟨a, b⟩

theorem div_bad (x d : Int) (h : d < 1) (w : World) :
    Calls Try.prog 60 #[.int .i64 x, .int .i64 d] w fun e w' => e = .returned (.tuple #[.int .i64 0, .int .i64 1]) ∧ w' = w := by
  go_enter Try.func60, Try.ntmps60
  go_wp2
  go_ret2
  exact ⟨rfl, rfl⟩

theorem div_ok (x d : Int) (wx : -9223372036854775808 ≤ x ∧ x ≤ 9223372036854775807) (h : 1 ≤ d) (w : World) :
    Calls Try.prog 60 #[.int .i64 x, .int .i64 d] w fun e w' => e = .returned (.tuple #[.int .i64 (x / d), .int .i64 0]) ∧ w' = w := by
  by_cases hx : 0 ≤ x
  · have hm := Int.emod_nonneg x (show d ≠ 0 by omega)
    have hq := Int.ediv_le_self d hx
    have hq0 := Int.ediv_nonneg hx (show 0 ≤ d by omega)
    go_enter Try.func60, Try.ntmps60
    go_wp2
    go_ret2
    exact ⟨rfl, rfl⟩
  · by_cases hm : x.tmod d < 0
    · have E := Lib.hid (tdiv_low x d wx.1 (by omega) h hm)
      go_enter Try.func60, Try.ntmps60
      go_wp2
      rw [E.out]
      go_ret2
      exact ⟨rfl, rfl⟩
    · have E := Lib.hid (tdiv_high x d (by omega) h (by omega))
      go_enter Try.func60, Try.ntmps60
      go_wp2
      rw [E.out]
      go_ret2
      exact ⟨rfl, rfl⟩

theorem half_c (x : Int) (wx : -9223372036854775808 ≤ x ∧ x ≤ 9223372036854775807) (w : World) :
    Calls Try.prog 72 #[.int .i64 x] w fun e w' => e = .returned (.int .i64 (x / 2)) ∧ w' = w := by
  by_cases h0 : 0 < x
  · by_cases h2 : x % 2 = 0
    · go_enter Try.func72, Try.ntmps72
      go_wp2
      go_ret
      exact ⟨rfl, rfl⟩
    · go_enter Try.func72, Try.ntmps72
      go_wp2
      go_ret
      exact ⟨rfl, rfl⟩
  · by_cases h2 : (x.tmod 2 == 0) = true
    · have E := Lib.hid (half_even x h2)
      go_enter Try.func72, Try.ntmps72
      go_wp2
      rw [E.out]
      go_ret
      exact ⟨rfl, rfl⟩
    · have h2' : (x.tmod 2 == 0) = false := by simpa using h2
      have E := Lib.hid (half_odd x wx.1 (by omega) h2')
      clear h2
      go_enter Try.func72, Try.ntmps72
      go_wp2
      rw [E.out]
      go_ret
      exact ⟨rfl, rfl⟩

theorem odd_c (x : Int) (w : World) :
    Calls Try.prog 55 #[.int .i64 x] w fun e w' => e = .returned (.bool (x.tmod 2 != 0)) ∧ w' = w := by
  go_enter Try.func55, Try.ntmps55
  go_wp2
  go_ret
  exact ⟨rfl, rfl⟩

theorem pow_c (s : Int) (h0 : 0 ≤ s) (h1 : s ≤ 62) (w : World) :
    Calls Try.prog 44 #[.int .i64 s] w fun e w' => e = .returned (.int .i64 (2 ^ s.toNat)) ∧ w' = w := by
  go_enter Try.func44, Try.ntmps44
  go_wp2
  go_loop [3, 4] (fun o i => ∃ k : Nat, k ≤ s.toNat ∧ i = .int .i64 k ∧ o = .int .i64 (2 ^ k)) (fun _ i => s.toNat - (intOf i).toNat)
  case atStart => exact ⟨0, Nat.zero_le _, rfl, rfl⟩
  case round =>
    obtain ⟨k, hk, rfl, rfl⟩ := hrel
    by_cases hlt : k < s.toNat
    · have hp := pow_pos2 k
      have hq := pow_le61 k (by omega)
      have hs : (k : Int) < s := by omega
      have HE := Lib.hid (Int.pow_succ (2 : Int) k)
      go_wp2
      go_round
      case rel => exact ⟨k + 1, by omega, by go_num, by rw [HE.out]; go_num⟩
      case measure => simp [intOf]; omega
    · have hs : s ≤ (k : Int) := by omega
      have he : k = s.toNat := by omega
      have HE := Lib.hid he
      clear he
      go_wp2
      go_ret
      exact ⟨by rw [HE.out]; rfl, rfl⟩

theorem floor_c (x s : Int) (wx : -9223372036854775808 ≤ x ∧ x ≤ 9223372036854775807) (h0 : 0 ≤ s) (h1 : s ≤ 62) (w : World) :
    Calls Try.prog 54 #[.int .i64 x, .int .i64 s] w fun e w' => e = .returned (.int .i64 (x / 2 ^ s.toNat)) ∧ w' = w := by
  have WX := Lib.hid wx
  clear wx
  go_enter Try.func54, Try.ntmps54
  go_wp2
  go_loop [0, 5] (fun o i => ∃ k : Nat, k ≤ s.toNat ∧ i = .int .i64 k ∧ o = .int .i64 (x / 2 ^ k)) (fun _ i => s.toNat - (intOf i).toNat)
  case atStart => exact ⟨0, Nat.zero_le _, rfl, by simp⟩
  case round =>
    obtain ⟨k, hk, rfl, rfl⟩ := hrel
    by_cases hlt : k < s.toNat
    · have hs : (k : Int) < s := by omega
      have HE := Lib.hid (div_pow_succ x k)
      have HH := Lib.hid (half_c (x / 2 ^ k) (div_pow_bd x k WX.out.1 WX.out.2))
      go_wp2_with (go_at_call 72; refine (HH.out _).mono ?_; rintro e w2 ⟨rfl, rfl⟩)
      go_round
      case rel => exact ⟨k + 1, by omega, by go_num, by rw [HE.out]⟩
      case measure => simp [intOf]; omega
    · have hs : s ≤ (k : Int) := by omega
      have he : k = s.toNat := by omega
      have HE := Lib.hid he
      clear he
      go_wp2
      go_ret
      exact ⟨by rw [HE.out]; rfl, rfl⟩

end Go.Proofs.Ytbdglbpkbpedoaa

namespace Go.Proofs.Ytbdglbpkbpedoaa
open Go.ChangeShapes Go.WideShapes Go.ChangeAt Go.RowKit
set_option linter.unusedVariables false

theorem half_bd (x : Int) (n : Nat) (h0 : -9223372036854775808 ≤ x) (h1 : x ≤ 9223372036854775807) (hn : 1 ≤ n) :
    -4611686018427387904 ≤ x / 2 ^ n ∧ x / 2 ^ n ≤ 4611686018427387904 := by
  obtain ⟨m, rfl⟩ : ∃ m, n = m + 1 := ⟨n - 1, by omega⟩
  have b := div_pow_bd x m h0 h1
  rw [div_pow_succ]
  omega

theorem mul_div_bd (x : Int) (n : Nat) (h0 : -9223372036854775808 ≤ x) (h1 : x ≤ 9223372036854775807) (hn : n ≤ 62) :
    -9223372036854775808 ≤ x / 2 ^ n * 2 ^ n ∧ x / 2 ^ n * 2 ^ n ≤ 9223372036854775807 := by
  have hp := pow_pos2 n
  constructor
  · have e : (-9223372036854775808 : Int) = (-9223372036854775808) / 2 ^ n * 2 ^ n := by
      rw [Int.ediv_mul_cancel]
      exact ⟨-(2 ^ (63 - n)), by rw [Int.mul_neg, ← Int.pow_add, show n + (63 - n) = 63 by omega]; rfl⟩
    rw [e]
    exact Int.mul_le_mul_of_nonneg_right (Int.ediv_le_ediv hp h0) (Int.le_of_lt hp)
  · have := Int.ediv_mul_le x (Int.ne_of_gt hp)
    omega

theorem goesUp_pos (x : Int) (m : Nat) (q : Int) : goesUp 1 q (x % 2 ^ (m + 1)) (2 ^ (m + 1)) = decide (2 ^ m ≤ x % 2 ^ (m + 1)) := by
  have e : (2 : Int) ^ (m + 1) = 2 * 2 ^ m := by rw [Int.pow_succ, Int.mul_comm]
  generalize x % 2 ^ (m + 1) = l
  rw [e, goesUp, if_neg (by decide), if_pos rfl, decide_eq_decide]
  omega

theorem evenUp_pos (x : Int) (m : Nat) (q : Int) : goesUp 2 q (x % 2 ^ (m + 1)) (2 ^ (m + 1)) = if x % 2 ^ (m + 1) = 2 ^ m then (q.tmod 2 != 0) else decide (2 ^ m < x % 2 ^ (m + 1)) := by
  have e : (2 : Int) ^ (m + 1) = 2 * 2 ^ m := by rw [Int.pow_succ, Int.mul_comm]
  generalize x % 2 ^ (m + 1) = l
  rw [e, goesUp, if_neg (by decide), if_neg (by decide), evenUp]
  by_cases h : l = 2 ^ m
  · rw [if_pos h, if_pos (by omega)]
  · rw [if_neg h, if_neg (by omega), decide_eq_decide]
    omega

theorem refShift_zero (x mode : Int) (wx : -9223372036854775808 ≤ x ∧ x ≤ 9223372036854775807) (w : World) :
    Calls Try.prog 30 #[.int .i64 x, .int .i64 0, .int .i64 mode] w fun e w' => e = .returned (.int .i64 x) ∧ w' = w := by
  have HF : Hid (∀ W, Calls Try.prog 54 #[.int .i64 x, .int .i64 0] W fun e w' => e = .returned (.int .i64 x) ∧ w' = W) :=
    Lib.hid fun W => (floor_c x 0 wx (by omega) (by omega) W).mono fun e w' ⟨he, hw⟩ => ⟨by rw [he]; simp, hw⟩
  clear wx
  go_enter Try.func30, Try.ntmps30
  go_wp2_with (go_at_call 54; refine (HF.out _).mono ?_; rintro e w2 ⟨rfl, rfl⟩)
  go_ret
  exact ⟨rfl, rfl⟩

theorem refShift_floor (x s : Int) (wx : -9223372036854775808 ≤ x ∧ x ≤ 9223372036854775807) (h0 : 0 < s) (h1 : s ≤ 62) (w : World) :
    Calls Try.prog 30 #[.int .i64 x, .int .i64 s, .int .i64 0] w fun e w' => e = .returned (.int .i64 (x / 2 ^ s.toNat)) ∧ w' = w := by
  have HF := Lib.hid (floor_c x s wx (by omega) (by omega))
  clear wx
  go_enter Try.func30, Try.ntmps30
  go_wp2_with (go_at_call 54; refine (HF.out _).mono ?_; rintro e w2 ⟨rfl, rfl⟩)
  go_ret
  exact ⟨rfl, rfl⟩

theorem refShift_up_more (x s q l : Int) (h0 : 0 < s) (h1 : s ≤ 62)
    (HF : Hid (∀ W, Calls Try.prog 54 #[.int .i64 x, .int .i64 s] W fun e w' => e = .returned (.int .i64 q) ∧ w' = W))
    (q0 : -4611686018427387904 ≤ q) (q1 : q ≤ 4611686018427387904) (b0 : -9223372036854775808 ≤ q * 2 ^ s.toNat) (b1 : q * 2 ^ s.toNat ≤ 9223372036854775807)
    (l0 : 0 ≤ l) (l1 : l ≤ 4611686018427387904) (hl : x - q * 2 ^ s.toNat = l) (hc : 2 ^ (s.toNat - 1) < l) (w : World) :
    Calls Try.prog 30 #[.int .i64 x, .int .i64 s, .int .i64 1] w fun e w' => e = .returned (.int .i64 (q + 1)) ∧ w' = w := by
    go_enter Try.func30, Try.ntmps30
    go_wp2_with (first
      | (go_at_call 54; refine (HF.out _).mono ?_; rintro e w2 ⟨rfl, rfl⟩)
      | (go_at_call 44; refine (pow_c _ (by omega) (by omega) _).mono ?_; rintro e w2 ⟨rfl, rfl⟩)
      | (go_at_call 55; refine (odd_c _ _).mono ?_; rintro e w2 ⟨rfl, rfl⟩))
    go_ret
    exact ⟨rfl, rfl⟩

theorem refShift_up_mid (x s q l : Int) (h0 : 0 < s) (h1 : s ≤ 62)
    (HF : Hid (∀ W, Calls Try.prog 54 #[.int .i64 x, .int .i64 s] W fun e w' => e = .returned (.int .i64 q) ∧ w' = W))
    (q0 : -4611686018427387904 ≤ q) (q1 : q ≤ 4611686018427387904) (b0 : -9223372036854775808 ≤ q * 2 ^ s.toNat) (b1 : q * 2 ^ s.toNat ≤ 9223372036854775807)
    (l0 : 0 ≤ l) (l1 : l ≤ 4611686018427387904) (hl : x - q * 2 ^ s.toNat = l) (hc : ¬ 2 ^ (s.toNat - 1) < l) (hd : (l == 2 ^ (s.toNat - 1)) = true) (w : World) :
    Calls Try.prog 30 #[.int .i64 x, .int .i64 s, .int .i64 1] w fun e w' => e = .returned (.int .i64 (q + 1)) ∧ w' = w := by
    go_enter Try.func30, Try.ntmps30
    go_wp2_with (first
      | (go_at_call 54; refine (HF.out _).mono ?_; rintro e w2 ⟨rfl, rfl⟩)
      | (go_at_call 44; refine (pow_c _ (by omega) (by omega) _).mono ?_; rintro e w2 ⟨rfl, rfl⟩)
      | (go_at_call 55; refine (odd_c _ _).mono ?_; rintro e w2 ⟨rfl, rfl⟩))
    go_ret
    exact ⟨rfl, rfl⟩

theorem refShift_up_less (x s q l : Int) (h0 : 0 < s) (h1 : s ≤ 62)
    (HF : Hid (∀ W, Calls Try.prog 54 #[.int .i64 x, .int .i64 s] W fun e w' => e = .returned (.int .i64 q) ∧ w' = W))
    (q0 : -4611686018427387904 ≤ q) (q1 : q ≤ 4611686018427387904) (b0 : -9223372036854775808 ≤ q * 2 ^ s.toNat) (b1 : q * 2 ^ s.toNat ≤ 9223372036854775807)
    (l0 : 0 ≤ l) (l1 : l ≤ 4611686018427387904) (hl : x - q * 2 ^ s.toNat = l) (hc : ¬ 2 ^ (s.toNat - 1) < l) (hd : (l == 2 ^ (s.toNat - 1)) = false) (w : World) :
    Calls Try.prog 30 #[.int .i64 x, .int .i64 s, .int .i64 1] w fun e w' => e = .returned (.int .i64 (q)) ∧ w' = w := by
    go_enter Try.func30, Try.ntmps30
    go_wp2_with (first
      | (go_at_call 54; refine (HF.out _).mono ?_; rintro e w2 ⟨rfl, rfl⟩)
      | (go_at_call 44; refine (pow_c _ (by omega) (by omega) _).mono ?_; rintro e w2 ⟨rfl, rfl⟩)
      | (go_at_call 55; refine (odd_c _ _).mono ?_; rintro e w2 ⟨rfl, rfl⟩))
    go_ret
    exact ⟨rfl, rfl⟩

theorem refShift_even_more (x s q l : Int) (h0 : 0 < s) (h1 : s ≤ 62)
    (HF : Hid (∀ W, Calls Try.prog 54 #[.int .i64 x, .int .i64 s] W fun e w' => e = .returned (.int .i64 q) ∧ w' = W))
    (q0 : -4611686018427387904 ≤ q) (q1 : q ≤ 4611686018427387904) (b0 : -9223372036854775808 ≤ q * 2 ^ s.toNat) (b1 : q * 2 ^ s.toNat ≤ 9223372036854775807)
    (l0 : 0 ≤ l) (l1 : l ≤ 4611686018427387904) (hl : x - q * 2 ^ s.toNat = l) (hc : 2 ^ (s.toNat - 1) < l) (w : World) :
    Calls Try.prog 30 #[.int .i64 x, .int .i64 s, .int .i64 2] w fun e w' => e = .returned (.int .i64 (q + 1)) ∧ w' = w := by
    go_enter Try.func30, Try.ntmps30
    go_wp2_with (first
      | (go_at_call 54; refine (HF.out _).mono ?_; rintro e w2 ⟨rfl, rfl⟩)
      | (go_at_call 44; refine (pow_c _ (by omega) (by omega) _).mono ?_; rintro e w2 ⟨rfl, rfl⟩)
      | (go_at_call 55; refine (odd_c _ _).mono ?_; rintro e w2 ⟨rfl, rfl⟩))
    go_ret
    exact ⟨rfl, rfl⟩

theorem refShift_even_mid (x s q l : Int) (h0 : 0 < s) (h1 : s ≤ 62)
    (HF : Hid (∀ W, Calls Try.prog 54 #[.int .i64 x, .int .i64 s] W fun e w' => e = .returned (.int .i64 q) ∧ w' = W))
    (q0 : -4611686018427387904 ≤ q) (q1 : q ≤ 4611686018427387904) (b0 : -9223372036854775808 ≤ q * 2 ^ s.toNat) (b1 : q * 2 ^ s.toNat ≤ 9223372036854775807)
    (l0 : 0 ≤ l) (l1 : l ≤ 4611686018427387904) (hl : x - q * 2 ^ s.toNat = l) (hc : ¬ 2 ^ (s.toNat - 1) < l) (hd : (l == 2 ^ (s.toNat - 1)) = true) (ho : (q.tmod 2 != 0) = true) (w : World) :
    Calls Try.prog 30 #[.int .i64 x, .int .i64 s, .int .i64 2] w fun e w' => e = .returned (.int .i64 (q + 1)) ∧ w' = w := by
    go_enter Try.func30, Try.ntmps30
    go_wp2_with (first
      | (go_at_call 54; refine (HF.out _).mono ?_; rintro e w2 ⟨rfl, rfl⟩)
      | (go_at_call 44; refine (pow_c _ (by omega) (by omega) _).mono ?_; rintro e w2 ⟨rfl, rfl⟩)
      | (go_at_call 55; refine (odd_c _ _).mono ?_; rintro e w2 ⟨rfl, rfl⟩))
    go_ret
    exact ⟨rfl, rfl⟩

theorem refShift_even_mid2 (x s q l : Int) (h0 : 0 < s) (h1 : s ≤ 62)
    (HF : Hid (∀ W, Calls Try.prog 54 #[.int .i64 x, .int .i64 s] W fun e w' => e = .returned (.int .i64 q) ∧ w' = W))
    (q0 : -4611686018427387904 ≤ q) (q1 : q ≤ 4611686018427387904) (b0 : -9223372036854775808 ≤ q * 2 ^ s.toNat) (b1 : q * 2 ^ s.toNat ≤ 9223372036854775807)
    (l0 : 0 ≤ l) (l1 : l ≤ 4611686018427387904) (hl : x - q * 2 ^ s.toNat = l) (hc : ¬ 2 ^ (s.toNat - 1) < l) (hd : (l == 2 ^ (s.toNat - 1)) = true) (ho : (q.tmod 2 != 0) = false) (w : World) :
    Calls Try.prog 30 #[.int .i64 x, .int .i64 s, .int .i64 2] w fun e w' => e = .returned (.int .i64 (q)) ∧ w' = w := by
    go_enter Try.func30, Try.ntmps30
    go_wp2_with (first
      | (go_at_call 54; refine (HF.out _).mono ?_; rintro e w2 ⟨rfl, rfl⟩)
      | (go_at_call 44; refine (pow_c _ (by omega) (by omega) _).mono ?_; rintro e w2 ⟨rfl, rfl⟩)
      | (go_at_call 55; refine (odd_c _ _).mono ?_; rintro e w2 ⟨rfl, rfl⟩))
    go_ret
    exact ⟨rfl, rfl⟩

theorem refShift_even_less (x s q l : Int) (h0 : 0 < s) (h1 : s ≤ 62)
    (HF : Hid (∀ W, Calls Try.prog 54 #[.int .i64 x, .int .i64 s] W fun e w' => e = .returned (.int .i64 q) ∧ w' = W))
    (q0 : -4611686018427387904 ≤ q) (q1 : q ≤ 4611686018427387904) (b0 : -9223372036854775808 ≤ q * 2 ^ s.toNat) (b1 : q * 2 ^ s.toNat ≤ 9223372036854775807)
    (l0 : 0 ≤ l) (l1 : l ≤ 4611686018427387904) (hl : x - q * 2 ^ s.toNat = l) (hc : ¬ 2 ^ (s.toNat - 1) < l) (hd : (l == 2 ^ (s.toNat - 1)) = false) (w : World) :
    Calls Try.prog 30 #[.int .i64 x, .int .i64 s, .int .i64 2] w fun e w' => e = .returned (.int .i64 (q)) ∧ w' = w := by
    go_enter Try.func30, Try.ntmps30
    go_wp2_with (first
      | (go_at_call 54; refine (HF.out _).mono ?_; rintro e w2 ⟨rfl, rfl⟩)
      | (go_at_call 44; refine (pow_c _ (by omega) (by omega) _).mono ?_; rintro e w2 ⟨rfl, rfl⟩)
      | (go_at_call 55; refine (odd_c _ _).mono ?_; rintro e w2 ⟨rfl, rfl⟩))
    go_ret
    exact ⟨rfl, rfl⟩

end Go.Proofs.Ytbdglbpkbpedoaa

namespace Go.Proofs.Ytbdglbpkbpedoaa
open Go.ChangeShapes Go.WideShapes Go.ChangeAt Go.RowKit
set_option linter.unusedVariables false

theorem rnd_zero (x mode : Int) : rnd x 0 mode = x := by
  have e : goesUp mode (x / 2 ^ 0) (x % 2 ^ 0) (2 ^ 0) = false := by
    have e0 : x % (2 : Int) ^ 0 = 0 := by simp
    rw [e0]
    simp [goesUp, evenUp]
  rw [rnd, e]
  simp

theorem rnd_floor (x : Int) (n : Nat) : rnd x n 0 = x / 2 ^ n := by simp [rnd, goesUp]

theorem refShift_c (x s mode : Int) (wx : -9223372036854775808 ≤ x ∧ x ≤ 9223372036854775807) (h0 : 0 ≤ s) (h1 : s ≤ 62) (m0 : 0 ≤ mode) (m1 : mode ≤ 2) (w : World) :
    Calls Try.prog 30 #[.int .i64 x, .int .i64 s, .int .i64 mode] w fun e w' => e = .returned (.int .i64 (rnd x s.toNat mode)) ∧ w' = w := by
  by_cases hs : s = 0
  · subst hs
    exact (refShift_zero x mode wx w).mono fun e w' ⟨he, hw⟩ => ⟨by rw [he, show (0 : Int).toNat = 0 from rfl, rnd_zero], hw⟩
  obtain ⟨m, hm⟩ : ∃ m, s.toNat = m + 1 := ⟨s.toNat - 1, by omega⟩
  have hm' : s.toNat - 1 = m := by omega
  have HF := Lib.hid (floor_c x s wx h0 h1)
  have q := half_bd x s.toNat wx.1 wx.2 (by omega)
  have b := mul_div_bd x s.toNat wx.1 wx.2 (by omega)
  have hp := pow_pos2 s.toNat
  have hl := pow_le62 s.toNat (by omega)
  have l0 := Int.emod_nonneg x (Int.ne_of_gt hp)
  have l1 := Int.emod_lt_of_pos x hp
  have he : x - x / 2 ^ s.toNat * 2 ^ s.toNat = x % 2 ^ s.toNat := by rw [Int.emod_def, Int.mul_comm]
  have hc : mode = 0 ∨ mode = 1 ∨ mode = 2 := by omega
  rcases hc with rfl | rfl | rfl
  · exact (refShift_floor x s wx (by omega) h1 w).mono fun e w' ⟨he, hw⟩ => ⟨by rw [he, rnd_floor], hw⟩
  · have hr : rnd x s.toNat 1 = bif decide (2 ^ (s.toNat - 1) ≤ x % 2 ^ s.toNat) then x / 2 ^ s.toNat + 1 else x / 2 ^ s.toNat := by
      rw [rnd, hm, goesUp_pos, Nat.add_sub_cancel]
    by_cases c1 : 2 ^ (s.toNat - 1) < x % 2 ^ s.toNat
    · exact (refShift_up_more x s _ _ (by omega) h1 HF q.1 q.2 b.1 b.2 l0 (by omega) he c1 w).mono fun e w' ⟨he, hw⟩ => ⟨by rw [he, hr, decide_eq_true (Int.le_of_lt c1)]; rfl, hw⟩
    · by_cases c2 : x % 2 ^ s.toNat = 2 ^ (s.toNat - 1)
      · exact (refShift_up_mid x s _ _ (by omega) h1 HF q.1 q.2 b.1 b.2 l0 (by omega) he c1 (by simpa using c2) w).mono fun e w' ⟨he, hw⟩ => ⟨by rw [he, hr, decide_eq_true (by omega)]; rfl, hw⟩
      · exact (refShift_up_less x s _ _ (by omega) h1 HF q.1 q.2 b.1 b.2 l0 (by omega) he c1 (by simpa using c2) w).mono fun e w' ⟨he, hw⟩ => ⟨by rw [he, hr, decide_eq_false (by omega)]; rfl, hw⟩
  · have hr : rnd x s.toNat 2 = bif (if x % 2 ^ s.toNat = 2 ^ (s.toNat - 1) then ((x / 2 ^ s.toNat).tmod 2 != 0) else decide (2 ^ (s.toNat - 1) < x % 2 ^ s.toNat)) then x / 2 ^ s.toNat + 1 else x / 2 ^ s.toNat := by
      rw [rnd, hm, evenUp_pos, Nat.add_sub_cancel]
    by_cases c1 : 2 ^ (s.toNat - 1) < x % 2 ^ s.toNat
    · exact (refShift_even_more x s _ _ (by omega) h1 HF q.1 q.2 b.1 b.2 l0 (by omega) he c1 w).mono fun e w' ⟨he, hw⟩ => ⟨by rw [he, hr, if_neg (by omega), decide_eq_true c1]; rfl, hw⟩
    · by_cases c2 : x % 2 ^ s.toNat = 2 ^ (s.toNat - 1)
      · cases c3 : ((x / 2 ^ s.toNat).tmod 2 != 0)
        · exact (refShift_even_mid2 x s _ _ (by omega) h1 HF q.1 q.2 b.1 b.2 l0 (by omega) he c1 (by simpa using c2) c3 w).mono fun e w' ⟨he, hw⟩ => ⟨by rw [he, hr, if_pos c2, c3]; rfl, hw⟩
        · exact (refShift_even_mid x s _ _ (by omega) h1 HF q.1 q.2 b.1 b.2 l0 (by omega) he c1 (by simpa using c2) c3 w).mono fun e w' ⟨he, hw⟩ => ⟨by rw [he, hr, if_pos c2, c3]; rfl, hw⟩
      · exact (refShift_even_less x s _ _ (by omega) h1 HF q.1 q.2 b.1 b.2 l0 (by omega) he c1 (by simpa using c2) w).mono fun e w' ⟨he, hw⟩ => ⟨by rw [he, hr, if_neg c2, decide_eq_false c1]; rfl, hw⟩

theorem shift_ok (x s mode : Int) (wx : -9223372036854775808 ≤ x ∧ x ≤ 9223372036854775807) (h0 : 0 ≤ s) (h1 : s ≤ 62) (m0 : 0 ≤ mode) (m1 : mode ≤ 2) (w : World) :
    Calls Try.prog 24 #[.int .i64 x, .int .i64 s, .int .i64 mode] w fun e w' => e = .returned (.tuple #[.int .i64 (rnd x s.toNat mode), .int .i64 0]) ∧ Gr w w' := by
  have hc : mode = 0 ∨ mode = 1 ∨ mode = 2 := by omega
  rcases hc with rfl | rfl | rfl
  · exact shift_floor x s wx h0 h1 w
  · exact shift_up x s wx h0 h1 w
  · exact shift_even x s wx h0 h1 w

theorem shift_bad_mode (x s mode : Int) (hm : mode < 0 ∨ 2 < mode) (w : World) :
    Calls Try.prog 24 #[.int .i64 x, .int .i64 s, .int .i64 mode] w fun e w' => e = .returned (.tuple #[.int .i64 0, .int .i64 1]) ∧ Gr w w' := by
  have HM := Lib.hid hm
  clear hm
  go_enter Try.func24, Try.ntmps24
  go_wp2_with (go_at_call 48; refine (roundingOf_none _ HM.out _).mono ?_; rintro e w1 ⟨rfl, hg⟩)
  go_ret2
  exact ⟨rfl, by repeat (first | exact Gr.refl _ | assumption | apply Gr.drew | apply Gr.alloc)⟩

theorem shift_bad_s (x s mode : Int) (m0 : 0 ≤ mode) (m1 : mode ≤ 2) (hs : s < 0 ∨ 62 < s) (w : World) :
    Calls Try.prog 24 #[.int .i64 x, .int .i64 s, .int .i64 mode] w fun e w' => e = .returned (.tuple #[.int .i64 0, .int .i64 1]) ∧ Gr w w' := by
  have HS := Lib.hid hs
  clear hs
  have hc : mode = 0 ∨ mode = 1 ∨ mode = 2 := by omega
  clear m0 m1
  rcases hc with rfl | rfl | rfl
  · go_enter Try.func24, Try.ntmps24
    go_wp2_with (first
      | (go_at_call 48; refine (roundingOf_floor _).mono ?_; rintro e w1 ⟨rfl, hg⟩)
      | (go_at_call 49; refine (mayShift_no _ HS.out _).mono ?_; rintro e w2 ⟨rfl, rfl⟩))
    go_ret2
    exact ⟨rfl, by repeat (first | exact Gr.refl _ | assumption | apply Gr.drew | apply Gr.alloc)⟩
  · go_enter Try.func24, Try.ntmps24
    go_wp2_with (first
      | (go_at_call 48; refine (roundingOf_up _).mono ?_; rintro e w1 ⟨rfl, hg⟩)
      | (go_at_call 49; refine (mayShift_no _ HS.out _).mono ?_; rintro e w2 ⟨rfl, rfl⟩))
    go_ret2
    exact ⟨rfl, by repeat (first | exact Gr.refl _ | assumption | apply Gr.drew | apply Gr.alloc)⟩
  · go_enter Try.func24, Try.ntmps24
    go_wp2_with (first
      | (go_at_call 48; refine (roundingOf_even _).mono ?_; rintro e w1 ⟨rfl, hg⟩)
      | (go_at_call 49; refine (mayShift_no _ HS.out _).mono ?_; rintro e w2 ⟨rfl, rfl⟩))
    go_ret2
    exact ⟨rfl, by repeat (first | exact Gr.refl _ | assumption | apply Gr.drew | apply Gr.alloc)⟩

theorem shift_bad (x s mode : Int) (h : (mode < 0 ∨ 2 < mode) ∨ s < 0 ∨ 62 < s) (w : World) :
    Calls Try.prog 24 #[.int .i64 x, .int .i64 s, .int .i64 mode] w fun e w' => e = .returned (.tuple #[.int .i64 0, .int .i64 1]) ∧ Gr w w' := by
  by_cases hm : mode < 0 ∨ 2 < mode
  · exact shift_bad_mode x s mode hm w
  · exact shift_bad_s x s mode (by omega) (by omega) (by omega) w

theorem refDiv_c (x d : Int) (wx : -9223372036854775808 ≤ x ∧ x ≤ 9223372036854775807) (h : 1 ≤ d) (w : World) :
    Calls Try.prog 46 #[.int .i64 x, .int .i64 d] w fun e w' => e = .returned (.int .i64 (x / d)) ∧ w' = w := by
  by_cases hx : 0 ≤ x
  · have hq := Int.ediv_le_self d hx
    have hq0 := Int.ediv_nonneg hx (show 0 ≤ d by omega)
    go_enter Try.func46, Try.ntmps46
    go_wp2
    go_ret
    exact ⟨rfl, rfl⟩
  · have E0 := tdiv_mul_wrap x d wx.1 (by omega) h
    have B0 := tmod_bd x d (by omega) h
    by_cases hm : x.tmod d < 0
    · have T : (wrap64 (x.tdiv d * d) != x) = true := by rw [E0]; simp; omega
      have E := Lib.hid (tdiv_low x d wx.1 (by omega) h hm)
      clear E0 B0 hm
      go_enter Try.func46, Try.ntmps46
      go_wp2
      rw [E.out]
      go_ret
      exact ⟨rfl, rfl⟩
    · have T : (wrap64 (x.tdiv d * d) != x) = false := by rw [E0]; simp; omega
      have E := Lib.hid (tdiv_high x d (by omega) h (by omega))
      clear E0 B0 hm
      go_enter Try.func46, Try.ntmps46
      go_wp2
      rw [E.out]
      go_ret
      exact ⟨rfl, rfl⟩

end Go.Proofs.Ytbdglbpkbpedoaa
