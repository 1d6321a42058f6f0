/- What package round's functions answer, one contract for each: for the numbers that the hypotheses name, the call returns what is said, and the world has at most new blocks. -/
import Derived.Test.YtkbfniogannlhaaRows
import Derived.Test.YtkbfniogannlhaaMath
import Derived.WalkKit
import Derived.ProofKit
import Derived.OpenShut
import Derived.Deep.RegionHeld3
import Derived.Deep.QuietTactic
import Derived.BigQuiet
import Derived.Outline
import Derived.Lib.Hide
namespace Go.Proofs.Ytkbfniogannlhaa
open Go.ChangeShapes Go.WideShapes Go.ChangeAt Go.RowKit

set_option linter.unusedVariables false

theorem lacking_c (d l v : Int) (h0 : 0 ≤ l) (h1 : l ≤ v) (h2 : v ≤ 4611686018427387904) (w : World) :
    Calls Try.prog 68 #[.agg #[.int .i64 d, .int .i64 l, .int .i64 v]] w fun e w' => e = .returned (.int .i64 (v - l)) ∧ w' = w.alloc (.cells #[.int .i64 d, .int .i64 l, .int .i64 v] 80) := by
  go_enter Try.func68, Try.ntmps68
  go_wp2
  go_ret
  exact ⟨rfl, rfl⟩

/-- The world has at most new blocks. -/
structure Gr (W w' : World) : Prop where
  out : Below W.heap.size W w'
theorem Gr.refl (W : World) : Gr W W := ⟨Below.refl _ W⟩
theorem Gr.size {W w' : World} (h : Gr W w') : W.heap.size ≤ w'.heap.size := h.out.size
theorem Gr.drew {W w' : World} (h : Gr W w') : Gr W w'.drew := ⟨h.out.drew⟩
theorem Gr.drewN {W w' : World} (h : Gr W w') (n : Nat) : Gr W (w'.drewN n) := ⟨⟨h.out.os, h.out.tape, h.out.output, h.out.size, h.out.block⟩⟩
theorem Gr.allocO {W w' : World} (h : Gr W w') (o : Obj) : Gr W (w'.alloc o) := ⟨h.out.alloc h.size o⟩
theorem Gr.alloc {W w' : World} (h : Gr W w') (c : Array Value) (t : TypeId) : Gr W (w'.alloc (.cells c t)) := h.allocO _
theorem Gr.setCell {W w' : World} (h : Gr W w') {a : Addr} (ha : W.heap.size ≤ a.block) (v : Value) : Gr W (w'.setCell a v) := ⟨h.out.setCell ha v⟩
theorem Gr.trans {a b c : World} (h : Gr a b) (k : Gr b c) : Gr a c := ⟨h.out.trans (k.out.mono h.size)⟩
theorem Gr.block {W w' : World} (h : Gr W w') {k : Nat} (hk : k < W.heap.size) : w'.heap[k]? = W.heap[k]? := h.out.block k hk
theorem Gr.cell {W w' : World} (h : Gr W w') {p : Addr} (hp : p.block < W.heap.size) : w'.cell? p = W.cell? p := h.out.cell hp
theorem Gr.frozen {W w' : World} (h : Gr W w') (a : Addr) (ha : a.block < W.heap.size := by first | (simp; done) | (simp; omega)) : w'.frozen? a = W.frozen? a := h.out.frozen ha
theorem Gr.grown {W w w' : World} {row : Option Nat} (h : Gr W w) (hg : w.grownBy w' row) (hr : ∀ k, row = some k → W.heap.size ≤ k) : Gr W w' := ⟨h.out.grown hg h.size hr⟩
theorem Gr.by' {W w : World} {row : Option Nat} (h : Gr W w) : W.grownBy w row := ⟨h.out.os, h.out.tape, h.out.output, h.out.size, fun k hk _ => h.out.block k hk⟩

open Classical in
/-- The end of a law: the answer, the arguments as they were, what was there as it was. -/
theorem post_gr {H : Type} {enc : TypeId × Value → H} {P : Program} {f : Func} {s : ChangeSpec} {apart fresh handsOn : Bool} {W W' : World} {args : Array Value} {v : Value} {ds gs : List (DataW H)} {before pa pv : List MemPlace}
    (hW : DataW.Whole enc P f.params.toList s.vars apart W args.toList ds gs before)
    (hres : ∀ (b : Nat) (sp : Nat → Bool) (hd : Bool), DataW.TrodAll enc P W' b sp hd f.resultTypes.toList (v.resultList f.resultTypes.size) (s.fn H (ds ++ gs)).results [])
    (hargs : ∀ sp : Nat → Bool, (∀ p ∈ before, sp p.block = true) → DataW.TrodAll enc P W' 0 sp true f.params.toList args.toList (s.fn H (ds ++ gs)).args pa)
    (hvars : ∀ sp : Nat → Bool, (∀ p ∈ before, sp p.block = true) → DataW.TrodVars enc P W' sp s.vars (s.fn H (ds ++ gs)).vars pv)
    (hps : before = pa ++ pv) (hg : Gr W W') :
    s.post enc P f apart fresh handsOn false W args v W' := by
  have hold : ∀ p ∈ before, (fun b => decide (b < W.heap.size)) p.block = true := fun p hp => by simpa using hW.lt p hp
  exact ⟨ds, gs, before, [], pa, pv, hW, hres _ _ _, hargs _ hold, hvars _ hold, World.keptBut_mono (fun p hp => ⟨hp, by rw [hps, List.mem_append] at hp; exact Or.inr hp⟩) (hg.out.frame _), fun h => by cases h⟩

theorem fromHalf_c (d l v : Int) (h0 : 0 ≤ l) (h1 : l ≤ v) (h2 : v ≤ 4611686018427387904) (w : World) :
    Calls Try.prog 62 #[.agg #[.int .i64 d, .int .i64 l, .int .i64 v]] w fun e w' => e = .returned (.bool (decide (v - l ≤ l))) ∧ Gr w w' := by
  go_enter Try.func62, Try.ntmps62
  go_wp2
  go_region_held3 (fun w' => w'.cell? ⟨w.heap.size, 0, none⟩ = some (.int .i64 d) ∧ w'.cell? ⟨w.heap.size, 1, none⟩ = some (.int .i64 l) ∧ w'.cell? ⟨w.heap.size, 2, none⟩ = some (.int .i64 v) ∧ Gr w w')
    (first | (go_split_ands; refine ⟨?_, ?_, ?_, ?_⟩; (all_goals (first | (go_keep; done) | (repeat (first | exact Gr.refl _ | assumption | apply Gr.drew | apply Gr.alloc))))))
    (first | (go_at_call 68; refine (lacking_c d l v h0 h1 h2 _).mono ?_; rintro e w' ⟨rfl, rfl⟩))
  go_wp2
  go_ret
  exact ⟨rfl, by repeat (first | exact Gr.refl _ | assumption | apply Gr.drew | apply Gr.alloc)⟩


theorem fromHalfToEven_c (d l v : Int) (h0 : 0 ≤ l) (h1 : l ≤ v) (h2 : v ≤ 4611686018427387904) (w : World) :
    Calls Try.prog 63 #[.agg #[.int .i64 d, .int .i64 l, .int .i64 v]] w fun e w' => e = .returned (.bool (evenUp d l v)) ∧ Gr w w' := by
  by_cases hl : l = v - l
  · have he : evenUp d l v = (d.tmod 2 != 0) := by unfold evenUp; rw [if_pos hl]
    rw [he]
    have hl' : (l == v - l) = true := by simpa using hl
    have HL := Lib.hid hl
    clear hl he
    go_enter Try.func63, Try.ntmps63
    go_wp2
    go_region_held3 (fun w' => w'.cell? ⟨w.heap.size, 0, none⟩ = some (.int .i64 d) ∧ w'.cell? ⟨w.heap.size, 1, none⟩ = some (.int .i64 l) ∧ w'.cell? ⟨w.heap.size, 2, none⟩ = some (.int .i64 v) ∧ Gr w w')
      (first | (go_split_ands; refine ⟨?_, ?_, ?_, ?_⟩; (all_goals (first | (go_keep; done) | (repeat (first | exact Gr.refl _ | assumption | apply Gr.drew | apply Gr.alloc))))))
      (first | (go_at_call 68; refine (lacking_c d l v h0 h1 h2 _).mono ?_; rintro e w' ⟨rfl, rfl⟩))
    go_wp2
    go_ret
    exact ⟨rfl, by repeat (first | exact Gr.refl _ | assumption | apply Gr.drew | apply Gr.alloc)⟩
  · have he : evenUp d l v = decide (v - l < l) := by unfold evenUp; rw [if_neg hl]
    rw [he]
    have hl' : (l == v - l) = false := by simpa using hl
    have HL := Lib.hid hl
    clear hl he
    go_enter Try.func63, Try.ntmps63
    go_wp2
    go_region_held3 (fun w' => w'.cell? ⟨w.heap.size, 0, none⟩ = some (.int .i64 d) ∧ w'.cell? ⟨w.heap.size, 1, none⟩ = some (.int .i64 l) ∧ w'.cell? ⟨w.heap.size, 2, none⟩ = some (.int .i64 v) ∧ Gr w w')
      (first | (go_split_ands; refine ⟨?_, ?_, ?_, ?_⟩; (all_goals (first | (go_keep; done) | (repeat (first | exact Gr.refl _ | assumption | apply Gr.drew | apply Gr.alloc))))))
      (first | (go_at_call 68; refine (lacking_c d l v h0 h1 h2 _).mono ?_; rintro e w' ⟨rfl, rfl⟩))
    go_wp2
    go_region_held3 (fun w' => w'.cell? ⟨w.heap.size, 0, none⟩ = some (.int .i64 d) ∧ w'.cell? ⟨w.heap.size, 1, none⟩ = some (.int .i64 l) ∧ w'.cell? ⟨w.heap.size, 2, none⟩ = some (.int .i64 v) ∧ Gr w w')
      (first | (go_split_ands; refine ⟨?_, ?_, ?_, ?_⟩; (all_goals (first | (go_keep; done) | (repeat (first | exact Gr.refl _ | assumption | apply Gr.drew | apply Gr.alloc))))))
      (first | (go_at_call 68; refine (lacking_c d l v h0 h1 h2 _).mono ?_; rintro e w' ⟨rfl, rfl⟩))
    go_wp2
    go_ret
    exact ⟨rfl, by repeat (first | exact Gr.refl _ | assumption | apply Gr.drew | apply Gr.alloc)⟩

theorem never_c (d l v : Int) (w : World) :
    Calls Try.prog 61 #[.agg #[.int .i64 d, .int .i64 l, .int .i64 v]] w fun e w' => e = .returned (.bool false) ∧ Gr w w' := by
  go_enter Try.func61, Try.ntmps61
  go_wp2
  go_ret
  exact ⟨rfl, by repeat (first | exact Gr.refl _ | assumption | apply Gr.drew | apply Gr.alloc)⟩

theorem mayShift_c (s : Int) (w : World) :
    Calls Try.prog 51 #[.int .i64 s] w fun e w' => e = .returned (.bool (decide (0 ≤ s ∧ s ≤ 62))) ∧ w' = w := by
  by_cases h0 : 0 ≤ s
  · by_cases h1 : s ≤ 62
    · go_enter Try.func51, Try.ntmps51
      go_wp2
      go_ret
      exact ⟨by simp [h0, h1], rfl⟩
    · go_enter Try.func51, Try.ntmps51
      go_wp2
      go_ret
      exact ⟨by simp; omega, rfl⟩
  · go_enter Try.func51, Try.ntmps51
    go_wp2
    go_ret
    exact ⟨by simp; omega, rfl⟩

theorem roundedNever_c (d l v : Int) (h0 : 0 ≤ l) (h1 : l ≤ v) (h2 : v ≤ 4611686018427387904) (hd0 : -9223372036854775807 ≤ d + 1) (hd : false = true → d ≤ 9223372036854775806) (w : World) :
    Calls Try.prog 52 #[.agg #[.int .i64 d, .int .i64 l, .int .i64 v], .agg #[.func (.func 61) #[] #[]]] w fun e w' => e = .returned (.int .i64 (bif false then d + 1 else d)) ∧ Gr w w' := by
  have hcon : ∀ W, Calls Try.prog 61 #[.agg #[.int .i64 d, .int .i64 l, .int .i64 v]] W fun e w' => e = .returned (.bool false) ∧ Gr W w' := fun W => never_c d l v W
  generalize false = b at hcon hd ⊢
  have HC := Lib.hid hcon
  clear hcon
  cases b
  · clear hd
    go_enter Try.func52, Try.ntmps52
    go_wp2_with (go_at_call 61; refine (HC.out _).mono ?_; rintro e w1 ⟨rfl, hg⟩; have c0 := hg.cell (p := ⟨w.heap.size, 0, none⟩) (by simp; omega))
    go_ret
    exact ⟨rfl, Gr.trans (by repeat (first | exact Gr.refl _ | assumption | apply Gr.drew | apply Gr.alloc)) hg⟩
  · have hd1 := hd rfl
    clear hd
    go_enter Try.func52, Try.ntmps52
    go_wp2_with (go_at_call 61; refine (HC.out _).mono ?_; rintro e w1 ⟨rfl, hg⟩; have c0 := hg.cell (p := ⟨w.heap.size, 0, none⟩) (by simp; omega))
    go_ret
    exact ⟨rfl, Gr.trans (by repeat (first | exact Gr.refl _ | assumption | apply Gr.drew | apply Gr.alloc)) hg⟩

theorem roundedHalf_c (d l v : Int) (h0 : 0 ≤ l) (h1 : l ≤ v) (h2 : v ≤ 4611686018427387904) (hd0 : -9223372036854775807 ≤ d + 1) (hd : (decide (v - l ≤ l)) = true → d ≤ 9223372036854775806) (w : World) :
    Calls Try.prog 52 #[.agg #[.int .i64 d, .int .i64 l, .int .i64 v], .agg #[.func (.func 62) #[] #[]]] w fun e w' => e = .returned (.int .i64 (bif (decide (v - l ≤ l)) then d + 1 else d)) ∧ Gr w w' := by
  have hcon : ∀ W, Calls Try.prog 62 #[.agg #[.int .i64 d, .int .i64 l, .int .i64 v]] W fun e w' => e = .returned (.bool (decide (v - l ≤ l))) ∧ Gr W w' := fun W => fromHalf_c d l v h0 h1 h2 W
  generalize (decide (v - l ≤ l)) = b at hcon hd ⊢
  have HC := Lib.hid hcon
  clear hcon
  cases b
  · clear hd
    go_enter Try.func52, Try.ntmps52
    go_wp2_with (go_at_call 62; refine (HC.out _).mono ?_; rintro e w1 ⟨rfl, hg⟩; have c0 := hg.cell (p := ⟨w.heap.size, 0, none⟩) (by simp; omega))
    go_ret
    exact ⟨rfl, Gr.trans (by repeat (first | exact Gr.refl _ | assumption | apply Gr.drew | apply Gr.alloc)) hg⟩
  · have hd1 := hd rfl
    clear hd
    go_enter Try.func52, Try.ntmps52
    go_wp2_with (go_at_call 62; refine (HC.out _).mono ?_; rintro e w1 ⟨rfl, hg⟩; have c0 := hg.cell (p := ⟨w.heap.size, 0, none⟩) (by simp; omega))
    go_ret
    exact ⟨rfl, Gr.trans (by repeat (first | exact Gr.refl _ | assumption | apply Gr.drew | apply Gr.alloc)) hg⟩

theorem roundedEven_c (d l v : Int) (h0 : 0 ≤ l) (h1 : l ≤ v) (h2 : v ≤ 4611686018427387904) (hd0 : -9223372036854775807 ≤ d + 1) (hd : (evenUp d l v) = true → d ≤ 9223372036854775806) (w : World) :
    Calls Try.prog 52 #[.agg #[.int .i64 d, .int .i64 l, .int .i64 v], .agg #[.func (.func 63) #[] #[]]] w fun e w' => e = .returned (.int .i64 (bif (evenUp d l v) then d + 1 else d)) ∧ Gr w w' := by
  have hcon : ∀ W, Calls Try.prog 63 #[.agg #[.int .i64 d, .int .i64 l, .int .i64 v]] W fun e w' => e = .returned (.bool (evenUp d l v)) ∧ Gr W w' := fun W => fromHalfToEven_c d l v h0 h1 h2 W
  generalize (evenUp d l v) = b at hcon hd ⊢
  have HC := Lib.hid hcon
  clear hcon
  cases b
  · clear hd
    go_enter Try.func52, Try.ntmps52
    go_wp2_with (go_at_call 63; refine (HC.out _).mono ?_; rintro e w1 ⟨rfl, hg⟩; have c0 := hg.cell (p := ⟨w.heap.size, 0, none⟩) (by simp; omega))
    go_ret
    exact ⟨rfl, Gr.trans (by repeat (first | exact Gr.refl _ | assumption | apply Gr.drew | apply Gr.alloc)) hg⟩
  · have hd1 := hd rfl
    clear hd
    go_enter Try.func52, Try.ntmps52
    go_wp2_with (go_at_call 63; refine (HC.out _).mono ?_; rintro e w1 ⟨rfl, hg⟩; have c0 := hg.cell (p := ⟨w.heap.size, 0, none⟩) (by simp; omega))
    go_ret
    exact ⟨rfl, Gr.trans (by repeat (first | exact Gr.refl _ | assumption | apply Gr.drew | apply Gr.alloc)) hg⟩

end Go.Proofs.Ytkbfniogannlhaa
