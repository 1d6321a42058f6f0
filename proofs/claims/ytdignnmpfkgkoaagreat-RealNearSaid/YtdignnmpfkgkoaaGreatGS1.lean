import Derived.Test.YtdignnmpfkgkoaaGreatGS0
namespace Go.Proofs.YtdignnmpfkgkoaaGreat
section
open Go.ChangeShapes Go.WideShapes Go.ChangeAt Go.RowKit
set_option linter.unusedVariables false
set_option maxRecDepth 100000
theorem lacking_c (d l v : Int) (h0 : 0 ≤ l) (h1 : l ≤ v) (h2 : v ≤ 4611686018427387904) (w : World) :
 Calls Tryz.prog 191 #[.agg #[.int .i64 d, .int .i64 l, .int .i64 v]] w fun e w' => e = .returned (.int .i64 (v - l)) ∧ w' = w.alloc (.cells #[.int .i64 d, .int .i64 l, .int .i64 v] 155) := by
 go_enter Tryz.func191, Tryz.ntmps191
 go_wp2
 go_ret
 exact ⟨rfl, rfl⟩
structure Gr (W w' : World) : Prop where
 out : Below W.heap.size W w'
theorem Gr.refl (W : World) : Gr W W := ⟨Below.refl _ W⟩
theorem Gr.size {W w' : World} (h : Gr W w') : W.heap.size ≤ w'.heap.size := h.out.size
theorem Gr.drew {W w' : World} (h : Gr W w') : Gr W w'.drew := ⟨h.out.drew⟩
theorem Gr.drewN {W w' : World} (h : Gr W w') (n : Nat) : Gr W (w'.drewN n) := ⟨⟨h.out.os, h.out.tape, h.out.output, h.out.size, h.out.block⟩⟩
theorem Gr.allocO {W w' : World} (h : Gr W w') (o : Obj) : Gr W (w'.alloc o) := ⟨h.out.alloc h.size o⟩
theorem Gr.alloc {W w' : World} (h : Gr W w') (c : Array Value) (t : TypeId) : Gr W (w'.alloc (.cells c t)) := h.allocO _
theorem Gr.setCell {W w' : World} (h : Gr W w') {a : Addr} (ha : W.heap.size ≤ a.block) (v : Value) : Gr W (w'.setCell a v) := ⟨h.out.setCell ha v⟩
theorem Gr.trans {a b c : World} (h : Gr a b) (k : Gr b c) : Gr a c := ⟨h.out.trans (k.out.mono h.size)⟩
theorem Gr.block {W w' : World} (h : Gr W w') {k : Nat} (hk : k < W.heap.size) : w'.heap[k]? = W.heap[k]? := h.out.block k hk
theorem Gr.cell {W w' : World} (h : Gr W w') {p : Addr} (hp : p.block < W.heap.size) : w'.cell? p = W.cell? p := h.out.cell hp
theorem Gr.frozen {W w' : World} (h : Gr W w') (a : Addr) (ha : a.block < W.heap.size := by first | (simp; done) | (simp; omega)) : w'.frozen? a = W.frozen? a := h.out.frozen ha
theorem Gr.grown {W w w' : World} {row : Option Nat} (h : Gr W w) (hg : w.grownBy w' row) (hr : ∀ k, row = some k → W.heap.size ≤ k) : Gr W w' := ⟨h.out.grown hg h.size hr⟩
theorem Gr.by' {W w : World} {row : Option Nat} (h : Gr W w) : W.grownBy w row := ⟨h.out.os, h.out.tape, h.out.output, h.out.size, fun k hk _ => h.out.block k hk⟩
open Classical in
theorem fromHalf_c (d l v : Int) (h0 : 0 ≤ l) (h1 : l ≤ v) (h2 : v ≤ 4611686018427387904) (w : World) :
 Calls Tryz.prog 162 #[.agg #[.int .i64 d, .int .i64 l, .int .i64 v]] w fun e w' => e = .returned (.bool (decide (v - l ≤ l))) ∧ Gr w w' := by
 go_enter Tryz.func162, Tryz.ntmps162
 go_wp2
 go_region_held3 (fun w' => w'.cell? ⟨w.heap.size, 0, none⟩ = some (.int .i64 d) ∧ w'.cell? ⟨w.heap.size, 1, none⟩ = some (.int .i64 l) ∧ w'.cell? ⟨w.heap.size, 2, none⟩ = some (.int .i64 v) ∧ Gr w w')
  (first | (go_split_ands; refine ⟨?_, ?_, ?_, ?_⟩; (all_goals (first | (go_keep; done) | (repeat (first | exact Gr.refl _ | assumption | apply Gr.drew | apply Gr.alloc))))))
  (first | (go_at_call 191; refine (lacking_c d l v h0 h1 h2 _).mono ?_; rintro e w' ⟨rfl, rfl⟩))
 go_wp2
 go_ret
 exact ⟨rfl, by repeat (first | exact Gr.refl _ | assumption | apply Gr.drew | apply Gr.alloc)⟩
theorem fromHalfToEven_c (d l v : Int) (h0 : 0 ≤ l) (h1 : l ≤ v) (h2 : v ≤ 4611686018427387904) (w : World) :
 Calls Tryz.prog 163 #[.agg #[.int .i64 d, .int .i64 l, .int .i64 v]] w fun e w' => e = .returned (.bool (evenUp d l v)) ∧ Gr w w' := by
 by_cases hl : l = v - l
 ·have he : evenUp d l v = (d.tmod 2 != 0) := by unfold evenUp; rw [if_pos hl]
  rw [he]
  have hl' : (l == v - l) = true := by simpa using hl
  have HL := Lib.hid hl
  clear hl he
  go_enter Tryz.func163, Tryz.ntmps163
  go_wp2
  go_region_held3 (fun w' => w'.cell? ⟨w.heap.size, 0, none⟩ = some (.int .i64 d) ∧ w'.cell? ⟨w.heap.size, 1, none⟩ = some (.int .i64 l) ∧ w'.cell? ⟨w.heap.size, 2, none⟩ = some (.int .i64 v) ∧ Gr w w')
   (first | (go_split_ands; refine ⟨?_, ?_, ?_, ?_⟩; (all_goals (first | (go_keep; done) | (repeat (first | exact Gr.refl _ | assumption | apply Gr.drew | apply Gr.alloc))))))
   (first | (go_at_call 191; refine (lacking_c d l v h0 h1 h2 _).mono ?_; rintro e w' ⟨rfl, rfl⟩))
  go_wp2
  go_ret
  exact ⟨rfl, by repeat (first | exact Gr.refl _ | assumption | apply Gr.drew | apply Gr.alloc)⟩
 ·have he : evenUp d l v = decide (v - l < l) := by unfold evenUp; rw [if_neg hl]
  rw [he]
  have hl' : (l == v - l) = false := by simpa using hl
  have HL := Lib.hid hl
  clear hl he
  go_enter Tryz.func163, Tryz.ntmps163
  go_wp2
  go_region_held3 (fun w' => w'.cell? ⟨w.heap.size, 0, none⟩ = some (.int .i64 d) ∧ w'.cell? ⟨w.heap.size, 1, none⟩ = some (.int .i64 l) ∧ w'.cell? ⟨w.heap.size, 2, none⟩ = some (.int .i64 v) ∧ Gr w w')
   (first | (go_split_ands; refine ⟨?_, ?_, ?_, ?_⟩; (all_goals (first | (go_keep; done) | (repeat (first | exact Gr.refl _ | assumption | apply Gr.drew | apply Gr.alloc))))))
   (first | (go_at_call 191; refine (lacking_c d l v h0 h1 h2 _).mono ?_; rintro e w' ⟨rfl, rfl⟩))
  go_wp2
  go_region_held3 (fun w' => w'.cell? ⟨w.heap.size, 0, none⟩ = some (.int .i64 d) ∧ w'.cell? ⟨w.heap.size, 1, none⟩ = some (.int .i64 l) ∧ w'.cell? ⟨w.heap.size, 2, none⟩ = some (.int .i64 v) ∧ Gr w w')
   (first | (go_split_ands; refine ⟨?_, ?_, ?_, ?_⟩; (all_goals (first | (go_keep; done) | (repeat (first | exact Gr.refl _ | assumption | apply Gr.drew | apply Gr.alloc))))))
   (first | (go_at_call 191; refine (lacking_c d l v h0 h1 h2 _).mono ?_; rintro e w' ⟨rfl, rfl⟩))
  go_wp2
  go_ret
  exact ⟨rfl, by repeat (first | exact Gr.refl _ | assumption | apply Gr.drew | apply Gr.alloc)⟩
theorem never_c (d l v : Int) (w : World) :
 Calls Tryz.prog 161 #[.agg #[.int .i64 d, .int .i64 l, .int .i64 v]] w fun e w' => e = .returned (.bool false) ∧ Gr w w' := by
 go_enter Tryz.func161, Tryz.ntmps161
 go_wp2
 go_ret
 exact ⟨rfl, by repeat (first | exact Gr.refl _ | assumption | apply Gr.drew | apply Gr.alloc)⟩
theorem mayShift_c (s : Int) (w : World) :
 Calls Tryz.prog 121 #[.int .i64 s] w fun e w' => e = .returned (.bool (decide (0 ≤ s ∧ s ≤ 62))) ∧ w' = w := by
 by_cases h0 : 0 ≤ s
 ·by_cases h1 : s ≤ 62
  ·go_enter Tryz.func121, Tryz.ntmps121
   go_wp2
   go_ret
   exact ⟨by simp [h0, h1], rfl⟩
  ·go_enter Tryz.func121, Tryz.ntmps121
   go_wp2
   go_ret
   exact ⟨by simp; omega, rfl⟩
 ·go_enter Tryz.func121, Tryz.ntmps121
  go_wp2
  go_ret
  exact ⟨by simp; omega, rfl⟩
theorem roundedNever_c (d l v : Int) (h0 : 0 ≤ l) (h1 : l ≤ v) (h2 : v ≤ 4611686018427387904) (hd0 : -9223372036854775807 ≤ d + 1) (hd : false = true → d ≤ 9223372036854775806) (w : World) :
 Calls Tryz.prog 122 #[.agg #[.int .i64 d, .int .i64 l, .int .i64 v], .agg #[.func (.func 161) #[] #[]]] w fun e w' => e = .returned (.int .i64 (bif false then d + 1 else d)) ∧ Gr w w' := by
 have hcon : ∀ W, Calls Tryz.prog 161 #[.agg #[.int .i64 d, .int .i64 l, .int .i64 v]] W fun e w' => e = .returned (.bool false) ∧ Gr W w' := fun W => never_c d l v W
 generalize false = b at hcon hd ⊢
 have HC := Lib.hid hcon
 clear hcon
 cases b
 ·clear hd
  go_enter Tryz.func122, Tryz.ntmps122
  go_wp2_with (go_at_call 161; refine (HC.out _).mono ?_; rintro e w1 ⟨rfl, hg⟩; have c0 := hg.cell (p := ⟨w.heap.size, 0, none⟩) (by simp; omega))
  go_ret
  exact ⟨rfl, Gr.trans (by repeat (first | exact Gr.refl _ | assumption | apply Gr.drew | apply Gr.alloc)) hg⟩
 ·have hd1 := hd rfl
  clear hd
  go_enter Tryz.func122, Tryz.ntmps122
  go_wp2_with (go_at_call 161; refine (HC.out _).mono ?_; rintro e w1 ⟨rfl, hg⟩; have c0 := hg.cell (p := ⟨w.heap.size, 0, none⟩) (by simp; omega))
  go_ret
  exact ⟨rfl, Gr.trans (by repeat (first | exact Gr.refl _ | assumption | apply Gr.drew | apply Gr.alloc)) hg⟩
theorem roundedHalf_c (d l v : Int) (h0 : 0 ≤ l) (h1 : l ≤ v) (h2 : v ≤ 4611686018427387904) (hd0 : -9223372036854775807 ≤ d + 1) (hd : (decide (v - l ≤ l)) = true → d ≤ 9223372036854775806) (w : World) :
 Calls Tryz.prog 122 #[.agg #[.int .i64 d, .int .i64 l, .int .i64 v], .agg #[.func (.func 162) #[] #[]]] w fun e w' => e = .returned (.int .i64 (bif (decide (v - l ≤ l)) then d + 1 else d)) ∧ Gr w w' := by
 have hcon : ∀ W, Calls Tryz.prog 162 #[.agg #[.int .i64 d, .int .i64 l, .int .i64 v]] W fun e w' => e = .returned (.bool (decide (v - l ≤ l))) ∧ Gr W w' := fun W => fromHalf_c d l v h0 h1 h2 W
 generalize (decide (v - l ≤ l)) = b at hcon hd ⊢
 have HC := Lib.hid hcon
 clear hcon
 cases b
 ·clear hd
  go_enter Tryz.func122, Tryz.ntmps122
  go_wp2_with (go_at_call 162; refine (HC.out _).mono ?_; rintro e w1 ⟨rfl, hg⟩; have c0 := hg.cell (p := ⟨w.heap.size, 0, none⟩) (by simp; omega))
  go_ret
  exact ⟨rfl, Gr.trans (by repeat (first | exact Gr.refl _ | assumption | apply Gr.drew | apply Gr.alloc)) hg⟩
 ·have hd1 := hd rfl
  clear hd
  go_enter Tryz.func122, Tryz.ntmps122
  go_wp2_with (go_at_call 162; refine (HC.out _).mono ?_; rintro e w1 ⟨rfl, hg⟩; have c0 := hg.cell (p := ⟨w.heap.size, 0, none⟩) (by simp; omega))
  go_ret
  exact ⟨rfl, Gr.trans (by repeat (first | exact Gr.refl _ | assumption | apply Gr.drew | apply Gr.alloc)) hg⟩
theorem roundedEven_c (d l v : Int) (h0 : 0 ≤ l) (h1 : l ≤ v) (h2 : v ≤ 4611686018427387904) (hd0 : -9223372036854775807 ≤ d + 1) (hd : (evenUp d l v) = true → d ≤ 9223372036854775806) (w : World) :
 Calls Tryz.prog 122 #[.agg #[.int .i64 d, .int .i64 l, .int .i64 v], .agg #[.func (.func 163) #[] #[]]] w fun e w' => e = .returned (.int .i64 (bif (evenUp d l v) then d + 1 else d)) ∧ Gr w w' := by
 have hcon : ∀ W, Calls Tryz.prog 163 #[.agg #[.int .i64 d, .int .i64 l, .int .i64 v]] W fun e w' => e = .returned (.bool (evenUp d l v)) ∧ Gr W w' := fun W => fromHalfToEven_c d l v h0 h1 h2 W
 generalize (evenUp d l v) = b at hcon hd ⊢
 have HC := Lib.hid hcon
 clear hcon
 cases b
 ·clear hd
  go_enter Tryz.func122, Tryz.ntmps122
  go_wp2_with (go_at_call 163; refine (HC.out _).mono ?_; rintro e w1 ⟨rfl, hg⟩; have c0 := hg.cell (p := ⟨w.heap.size, 0, none⟩) (by simp; omega))
  go_ret
  exact ⟨rfl, Gr.trans (by repeat (first | exact Gr.refl _ | assumption | apply Gr.drew | apply Gr.alloc)) hg⟩
 ·have hd1 := hd rfl
  clear hd
  go_enter Tryz.func122, Tryz.ntmps122
  go_wp2_with (go_at_call 163; refine (HC.out _).mono ?_; rintro e w1 ⟨rfl, hg⟩; have c0 := hg.cell (p := ⟨w.heap.size, 0, none⟩) (by simp; omega))
  go_ret
  exact ⟨rfl, Gr.trans (by repeat (first | exact Gr.refl _ | assumption | apply Gr.drew | apply Gr.alloc)) hg⟩
end
section
open Go.ChangeShapes Go.WideShapes Go.ChangeAt Go.RowKit
set_option linter.unusedVariables false
theorem roundingOf_floor (w : World) :
 Calls Tryz.prog 120 #[.int .i64 0] w fun e w' => e = .returned (.tuple #[.agg #[.func (.func 161) #[] #[]], .bool true]) ∧ Gr w w' := by
 go_enter Tryz.func120, Tryz.ntmps120
 go_wp2
 exact bodyPost_ret (v := .tuple #[.agg #[.func (.func 161) #[] #[]], .bool true]) (by simp [results, Tryz.results120, go_sem]) rfl ⟨rfl, by repeat (first | exact Gr.refl _ | assumption | apply Gr.drew | apply Gr.alloc)⟩
theorem roundingOf_up (w : World) :
 Calls Tryz.prog 120 #[.int .i64 1] w fun e w' => e = .returned (.tuple #[.agg #[.func (.func 162) #[] #[]], .bool true]) ∧ Gr w w' := by
 go_enter Tryz.func120, Tryz.ntmps120
 go_wp2
 exact bodyPost_ret (v := .tuple #[.agg #[.func (.func 162) #[] #[]], .bool true]) (by simp [results, Tryz.results120, go_sem]) rfl ⟨rfl, by repeat (first | exact Gr.refl _ | assumption | apply Gr.drew | apply Gr.alloc)⟩
theorem roundingOf_even (w : World) :
 Calls Tryz.prog 120 #[.int .i64 2] w fun e w' => e = .returned (.tuple #[.agg #[.func (.func 163) #[] #[]], .bool true]) ∧ Gr w w' := by
 go_enter Tryz.func120, Tryz.ntmps120
 go_wp2
 exact bodyPost_ret (v := .tuple #[.agg #[.func (.func 163) #[] #[]], .bool true]) (by simp [results, Tryz.results120, go_sem]) rfl ⟨rfl, by repeat (first | exact Gr.refl _ | assumption | apply Gr.drew | apply Gr.alloc)⟩
theorem roundingOf_none (m : Int) (h : m < 0 ∨ 2 < m) (w : World) :
 Calls Tryz.prog 120 #[.int .i64 m] w fun e w' => e = .returned (.tuple #[.agg #[.nilFunc], .bool false]) ∧ Gr w w' := by
 have h0 : (m == 0) = false := by simp; omega
 have h1 : (m == 1) = false := by simp; omega
 have h2 : (m == 2) = false := by simp; omega
 clear h
 go_enter Tryz.func120, Tryz.ntmps120
 go_wp2
 exact bodyPost_ret (v := .tuple #[.agg #[.nilFunc], .bool false]) (by simp [results, Tryz.results120, go_sem]) rfl ⟨rfl, by repeat (first | exact Gr.refl _ | assumption | apply Gr.drew | apply Gr.alloc)⟩
theorem mayShift_yes (s : Int) (h0 : 0 ≤ s) (h1 : s ≤ 62) (w : World) :
 Calls Tryz.prog 121 #[.int .i64 s] w fun e w' => e = .returned (.bool true) ∧ w' = w :=
 (mayShift_c s w).mono fun e w' ⟨he, hw⟩ => ⟨by rw [he]; simp [h0, h1], hw⟩
theorem mayShift_no (s : Int) (h : s < 0 ∨ 62 < s) (w : World) :
 Calls Tryz.prog 121 #[.int .i64 s] w fun e w' => e = .returned (.bool false) ∧ w' = w :=
 (mayShift_c s w).mono fun e w' ⟨he, hw⟩ => ⟨by rw [he]; simp; omega, hw⟩
theorem shift_floor (x s : Int) (wx : -9223372036854775808 ≤ x ∧ x ≤ 9223372036854775807) (d0 : 0 ≤ s) (d1 : s ≤ 62) (w : World) :
 Calls Tryz.prog 70 #[.int .i64 x, .int .i64 s, .int .i64 0] w fun e w' => e = .returned (.tuple #[.int .i64 (rnd x s.toNat 0), .int .i64 0]) ∧ Gr w w' := by
 have hp := pow_pos2 s.toNat
 have hl := pow_le62 s.toNat (by omega)
 have hb := bits_mask x s.toNat (by omega)
 have m0 := Int.emod_nonneg x (Int.ne_of_gt hp)
 have m1 := Int.emod_lt_of_pos x hp
 have q0 := (div_pow_bd x s.toNat wx.1 wx.2).1
 have ub := up_bd x s.toNat wx.1 wx.2
 have hc : ∀ W, Calls Tryz.prog 122 #[.agg #[.int .i64 (x / 2 ^ s.toNat), .int .i64 (x % 2 ^ s.toNat), .int .i64 (2 ^ s.toNat)], .agg #[.func (.func 161) #[] #[]]] W
  fun e w' => e = .returned (.int .i64 (rnd x s.toNat 0)) ∧ Gr W w' :=
  fun W => (roundedNever_c _ _ _ m0 (Int.le_of_lt m1) hl (by omega) (fun h => by cases h) W).mono fun e w' ⟨he, hw⟩ => ⟨by rw [he]; simp [rnd, goesUp], hw⟩
 generalize rnd x s.toNat 0 = r at hc ⊢
 have HC := Lib.hid hc
 clear hc ub q0 m0 m1 wx
 go_enter Tryz.func70, Tryz.ntmps70
 go_wp2_with (first
  | (go_at_call 120; refine (roundingOf_floor _).mono ?_; rintro e w1 ⟨rfl, hg⟩)
  | (go_at_call 121; refine (mayShift_yes _ d0 d1 _).mono ?_; rintro e w2 ⟨rfl, rfl⟩)
  | (go_at_call 122; refine (HC.out _).mono ?_; rintro e w3 ⟨rfl, hg3⟩))
 go_ret2
 exact ⟨rfl, Gr.trans (by repeat (first | exact Gr.refl _ | assumption | apply Gr.drew | apply Gr.alloc)) hg3⟩
theorem shift_up (x s : Int) (wx : -9223372036854775808 ≤ x ∧ x ≤ 9223372036854775807) (d0 : 0 ≤ s) (d1 : s ≤ 62) (w : World) :
 Calls Tryz.prog 70 #[.int .i64 x, .int .i64 s, .int .i64 1] w fun e w' => e = .returned (.tuple #[.int .i64 (rnd x s.toNat 1), .int .i64 0]) ∧ Gr w w' := by
 have hp := pow_pos2 s.toNat
 have hl := pow_le62 s.toNat (by omega)
 have hb := bits_mask x s.toNat (by omega)
 have m0 := Int.emod_nonneg x (Int.ne_of_gt hp)
 have m1 := Int.emod_lt_of_pos x hp
 have q0 := (div_pow_bd x s.toNat wx.1 wx.2).1
 have ub := up_bd x s.toNat wx.1 wx.2
 have hc : ∀ W, Calls Tryz.prog 122 #[.agg #[.int .i64 (x / 2 ^ s.toNat), .int .i64 (x % 2 ^ s.toNat), .int .i64 (2 ^ s.toNat)], .agg #[.func (.func 162) #[] #[]]] W
  fun e w' => e = .returned (.int .i64 (rnd x s.toNat 1)) ∧ Gr W w' :=
  fun W => (roundedHalf_c _ _ _ m0 (Int.le_of_lt m1) hl (by omega) (fun h => ub 1 (by simpa [goesUp] using h)) W).mono fun e w' ⟨he, hw⟩ => ⟨by rw [he]; simp [rnd, goesUp], hw⟩
 generalize rnd x s.toNat 1 = r at hc ⊢
 have HC := Lib.hid hc
 clear hc ub q0 m0 m1 wx
 go_enter Tryz.func70, Tryz.ntmps70
 go_wp2_with (first
  | (go_at_call 120; refine (roundingOf_up _).mono ?_; rintro e w1 ⟨rfl, hg⟩)
  | (go_at_call 121; refine (mayShift_yes _ d0 d1 _).mono ?_; rintro e w2 ⟨rfl, rfl⟩)
  | (go_at_call 122; refine (HC.out _).mono ?_; rintro e w3 ⟨rfl, hg3⟩))
 go_ret2
 exact ⟨rfl, Gr.trans (by repeat (first | exact Gr.refl _ | assumption | apply Gr.drew | apply Gr.alloc)) hg3⟩
theorem shift_even (x s : Int) (wx : -9223372036854775808 ≤ x ∧ x ≤ 9223372036854775807) (d0 : 0 ≤ s) (d1 : s ≤ 62) (w : World) :
 Calls Tryz.prog 70 #[.int .i64 x, .int .i64 s, .int .i64 2] w fun e w' => e = .returned (.tuple #[.int .i64 (rnd x s.toNat 2), .int .i64 0]) ∧ Gr w w' := by
 have hp := pow_pos2 s.toNat
 have hl := pow_le62 s.toNat (by omega)
 have hb := bits_mask x s.toNat (by omega)
 have m0 := Int.emod_nonneg x (Int.ne_of_gt hp)
 have m1 := Int.emod_lt_of_pos x hp
 have q0 := (div_pow_bd x s.toNat wx.1 wx.2).1
 have ub := up_bd x s.toNat wx.1 wx.2
 have hc : ∀ W, Calls Tryz.prog 122 #[.agg #[.int .i64 (x / 2 ^ s.toNat), .int .i64 (x % 2 ^ s.toNat), .int .i64 (2 ^ s.toNat)], .agg #[.func (.func 163) #[] #[]]] W
  fun e w' => e = .returned (.int .i64 (rnd x s.toNat 2)) ∧ Gr W w' :=
  fun W => (roundedEven_c _ _ _ m0 (Int.le_of_lt m1) hl (by omega) (fun h => ub 2 (by simpa [goesUp] using h)) W).mono fun e w' ⟨he, hw⟩ => ⟨by rw [he]; simp [rnd, goesUp], hw⟩
 generalize rnd x s.toNat 2 = r at hc ⊢
 have HC := Lib.hid hc
 clear hc ub q0 m0 m1 wx
 go_enter Tryz.func70, Tryz.ntmps70
 go_wp2_with (first
  | (go_at_call 120; refine (roundingOf_even _).mono ?_; rintro e w1 ⟨rfl, hg⟩)
  | (go_at_call 121; refine (mayShift_yes _ d0 d1 _).mono ?_; rintro e w2 ⟨rfl, rfl⟩)
  | (go_at_call 122; refine (HC.out _).mono ?_; rintro e w3 ⟨rfl, hg3⟩))
 go_ret2
 exact ⟨rfl, Gr.trans (by repeat (first | exact Gr.refl _ | assumption | apply Gr.drew | apply Gr.alloc)) hg3⟩
end
section
open Go.ChangeShapes Go.WideShapes Go.ChangeAt Go.RowKit
set_option linter.unusedVariables false
theorem up_prod (x s : Int) (h0 : 0 ≤ s) (h1 : s ≤ 62) (ha : -(2 ^ (62 - s).toNat) ≤ x) (hb : x ≤ 2 ^ (62 - s).toNat) :
 -4611686018427387904 ≤ x * 2 ^ s.toNat ∧ x * 2 ^ s.toNat ≤ 4611686018427387904 := by
 have hp := pow_pos2 s.toNat
 have e : (2 : Int) ^ (62 - s).toNat * 2 ^ s.toNat = 4611686018427387904 := by
  rw [← Int.pow_add, show (62 - s).toNat + s.toNat = 62 by omega]; rfl
 have a := Int.mul_le_mul_of_nonneg_right ha (Int.le_of_lt hp)
 have b := Int.mul_le_mul_of_nonneg_right hb (Int.le_of_lt hp)
 rw [Int.neg_mul, e] at a
 rw [e] at b
 exact ⟨a, b⟩
theorem up_ok (x s : Int) (h0 : 0 ≤ s) (h1 : s ≤ 62) (ha : -(2 ^ (62 - s).toNat) ≤ x) (hb : x ≤ 2 ^ (62 - s).toNat) (w : World) :
 Calls Tryz.prog 176 #[.int .i64 x, .int .i64 s] w fun e w' => e = .returned (.tuple #[.int .i64 (x * 2 ^ s.toNat), .int .i64 0]) ∧ w' = w := by
 have hp := pow_pos2 (62 - s).toNat
 have hl := pow_le62 (62 - s).toNat (by omega)
 have hm := up_prod x s h0 h1 ha hb
 obtain ⟨m0, m1⟩ := hm
 go_enter Tryz.func176, Tryz.ntmps176
 go_wp2_with (go_at_call 121; refine (mayShift_yes _ h0 h1 _).mono ?_; rintro e w2 ⟨rfl, rfl⟩)
 go_ret2
 exact ⟨rfl, rfl⟩
theorem div_ok (x d : Int) (wx : -9223372036854775808 ≤ x ∧ x ≤ 9223372036854775807) (h : 1 ≤ d) (w : World) :
 Calls Tryz.prog 235 #[.int .i64 x, .int .i64 d] w fun e w' => e = .returned (.tuple #[.int .i64 (x / d), .int .i64 0]) ∧ w' = w := by
 by_cases hx : 0 ≤ x
 ·have hm := Int.emod_nonneg x (show d ≠ 0 by omega)
  have hq := Int.ediv_le_self d hx
  have hq0 := Int.ediv_nonneg hx (show 0 ≤ d by omega)
  go_enter Tryz.func235, Tryz.ntmps235
  go_wp2
  go_ret2
  exact ⟨rfl, rfl⟩
 ·by_cases hm : x.tmod d < 0
  ·have E := Lib.hid (tdiv_low x d wx.1 (by omega) h hm)
   go_enter Tryz.func235, Tryz.ntmps235
   go_wp2
   rw [E.out]
   go_ret2
   exact ⟨rfl, rfl⟩
  ·have E := Lib.hid (tdiv_high x d (by omega) h (by omega))
   go_enter Tryz.func235, Tryz.ntmps235
   go_wp2
   rw [E.out]
   go_ret2
   exact ⟨rfl, rfl⟩
end
section
open Go.ChangeShapes Go.WideShapes Go.ChangeAt Go.RowKit
set_option linter.unusedVariables false
end
section
open Go.ChangeShapes Go.WideShapes Go.ChangeAt Go.RowKit
set_option linter.unusedVariables false
theorem rnd_floor (x : Int) (n : Nat) : rnd x n 0 = x / 2 ^ n := by simp [rnd, goesUp]
theorem shift_ok (x s mode : Int) (wx : -9223372036854775808 ≤ x ∧ x ≤ 9223372036854775807) (h0 : 0 ≤ s) (h1 : s ≤ 62) (m0 : 0 ≤ mode) (m1 : mode ≤ 2) (w : World) :
 Calls Tryz.prog 70 #[.int .i64 x, .int .i64 s, .int .i64 mode] w fun e w' => e = .returned (.tuple #[.int .i64 (rnd x s.toNat mode), .int .i64 0]) ∧ Gr w w' := by
 have hc : mode = 0 ∨ mode = 1 ∨ mode = 2 := by omega
 rcases hc with rfl | rfl | rfl
 ·exact shift_floor x s wx h0 h1 w
 ·exact shift_up x s wx h0 h1 w
 ·exact shift_even x s wx h0 h1 w
theorem shift_bad_mode (x s mode : Int) (hm : mode < 0 ∨ 2 < mode) (w : World) :
 Calls Tryz.prog 70 #[.int .i64 x, .int .i64 s, .int .i64 mode] w fun e w' => e = .returned (.tuple #[.int .i64 0, .int .i64 1]) ∧ Gr w w' := by
 have HM := Lib.hid hm
 clear hm
 go_enter Tryz.func70, Tryz.ntmps70
 go_wp2_with (go_at_call 120; refine (roundingOf_none _ HM.out _).mono ?_; rintro e w1 ⟨rfl, hg⟩)
 go_ret2
 exact ⟨rfl, by repeat (first | exact Gr.refl _ | assumption | apply Gr.drew | apply Gr.alloc)⟩
theorem shift_bad_s (x s mode : Int) (m0 : 0 ≤ mode) (m1 : mode ≤ 2) (hs : s < 0 ∨ 62 < s) (w : World) :
 Calls Tryz.prog 70 #[.int .i64 x, .int .i64 s, .int .i64 mode] w fun e w' => e = .returned (.tuple #[.int .i64 0, .int .i64 1]) ∧ Gr w w' := by
 have HS := Lib.hid hs
 clear hs
 have hc : mode = 0 ∨ mode = 1 ∨ mode = 2 := by omega
 clear m0 m1
 rcases hc with rfl | rfl | rfl
 ·go_enter Tryz.func70, Tryz.ntmps70
  go_wp2_with (first
   | (go_at_call 120; refine (roundingOf_floor _).mono ?_; rintro e w1 ⟨rfl, hg⟩)
   | (go_at_call 121; refine (mayShift_no _ HS.out _).mono ?_; rintro e w2 ⟨rfl, rfl⟩))
  go_ret2
  exact ⟨rfl, by repeat (first | exact Gr.refl _ | assumption | apply Gr.drew | apply Gr.alloc)⟩
 ·go_enter Tryz.func70, Tryz.ntmps70
  go_wp2_with (first
   | (go_at_call 120; refine (roundingOf_up _).mono ?_; rintro e w1 ⟨rfl, hg⟩)
   | (go_at_call 121; refine (mayShift_no _ HS.out _).mono ?_; rintro e w2 ⟨rfl, rfl⟩))
  go_ret2
  exact ⟨rfl, by repeat (first | exact Gr.refl _ | assumption | apply Gr.drew | apply Gr.alloc)⟩
 ·go_enter Tryz.func70, Tryz.ntmps70
  go_wp2_with (first
   | (go_at_call 120; refine (roundingOf_even _).mono ?_; rintro e w1 ⟨rfl, hg⟩)
   | (go_at_call 121; refine (mayShift_no _ HS.out _).mono ?_; rintro e w2 ⟨rfl, rfl⟩))
  go_ret2
  exact ⟨rfl, by repeat (first | exact Gr.refl _ | assumption | apply Gr.drew | apply Gr.alloc)⟩
theorem shift_bad (x s mode : Int) (h : (mode < 0 ∨ 2 < mode) ∨ s < 0 ∨ 62 < s) (w : World) :
 Calls Tryz.prog 70 #[.int .i64 x, .int .i64 s, .int .i64 mode] w fun e w' => e = .returned (.tuple #[.int .i64 0, .int .i64 1]) ∧ Gr w w' := by
 by_cases hm : mode < 0 ∨ 2 < mode
 ·exact shift_bad_mode x s mode hm w
 ·exact shift_bad_s x s mode (by omega) (by omega) (by omega) w
end
section
abbrev CR (f : FuncId) (xs : Array Value) (v : Value) : Prop := Go.RowKit.Hid (∀ W, Calls Tryz.prog f xs W fun e w' => e = .returned v ∧ Gr W w')
end
end Go.Proofs.YtdignnmpfkgkoaaGreat
