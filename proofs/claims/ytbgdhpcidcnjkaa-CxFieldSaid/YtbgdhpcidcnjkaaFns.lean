/- What package round's functions answer, one contract for each: for the numbers that the hypotheses name, the call returns what is said, and the world has at most new blocks. -/
import Derived.Test.YtbgdhpcidcnjkaaRows
import Derived.Test.YtbgdhpcidcnjkaaMath
import Derived.WalkKit
import Derived.ProofKit
import Derived.OpenShut
import Derived.Deep.RegionHeld3
import Derived.Deep.QuietTactic
import Derived.BigQuiet
import Derived.Outline
import Derived.Lib.Hide
namespace Go.Proofs.Ytbgdhpcidcnjkaa
open Go.ChangeShapes Go.WideShapes Go.ChangeAt Go.RowKit

set_option linter.unusedVariables false

theorem lacking_c (d l v : Int) (h0 : 0 ≤ l) (h1 : l ≤ v) (h2 : v ≤ 4611686018427387904) (w : World) :
    Calls Try.prog 52 #[.agg #[.int .i64 d, .int .i64 l, .int .i64 v]] w fun e w' => e = .returned (.int .i64 (v - l)) ∧ w' = w.alloc (.cells #[.int .i64 d, .int .i64 l, .int .i64 v] 72) := by
  go_enter Try.func52, Try.ntmps52
  go_wp2
  go_ret
  exact ⟨rfl, rfl⟩

/-- The world has at most new blocks. -/
structure Gr (W w' : World) : Prop where
  out : Grown W w'
theorem Gr.refl (W : World) : Gr W W := ⟨Grown.refl W⟩
theorem Gr.drew {W w' : World} (h : Gr W w') : Gr W w'.drew := ⟨h.out.drew⟩
theorem Gr.alloc {W w' : World} (h : Gr W w') (c : Array Value) (t : TypeId) : Gr W (w'.alloc (.cells c t)) := ⟨h.out.alloc c t⟩
theorem Gr.frozen {W w' : World} (h : Gr W w') (a : Addr) : w'.frozen? a = W.frozen? a := h.out.2.1 a
theorem Gr.setCell {W w' : World} (h : Gr W w') {a : Addr} (ha : W.heap.size ≤ a.block) (v : Value) : Gr W (w'.setCell a v) := ⟨h.out.setCell ha v⟩
theorem Gr.size {W w' : World} (h : Gr W w') : W.heap.size ≤ w'.heap.size := h.out.2.2
theorem Gr.trans {a b c : World} (h : Gr a b) (k : Gr b c) : Gr a c := by
  refine ⟨⟨?_, fun x => (k.out.2.1 x).trans (h.out.2.1 x), Nat.le_trans h.size k.size⟩⟩
  exact World.keptBut_trans h.out.1 k.out.1

theorem fromHalf_c (d l v : Int) (h0 : 0 ≤ l) (h1 : l ≤ v) (h2 : v ≤ 4611686018427387904) (w : World) :
    Calls Try.prog 49 #[.agg #[.int .i64 d, .int .i64 l, .int .i64 v]] w fun e w' => e = .returned (.bool (decide (v - l ≤ l))) ∧ Gr w w' := by
  go_enter Try.func49, Try.ntmps49
  go_wp2
  go_region_held3 (fun w' => w'.cell? ⟨w.heap.size, 0, none⟩ = some (.int .i64 d) ∧ w'.cell? ⟨w.heap.size, 1, none⟩ = some (.int .i64 l) ∧ w'.cell? ⟨w.heap.size, 2, none⟩ = some (.int .i64 v) ∧ Gr w w')
    (first | (go_split_ands; refine ⟨?_, ?_, ?_, ?_⟩; (all_goals (first | (go_keep; done) | (repeat (first | exact Gr.refl _ | assumption | apply Gr.drew | apply Gr.alloc))))))
    (first | (go_at_call 52; refine (lacking_c d l v h0 h1 h2 _).mono ?_; rintro e w' ⟨rfl, rfl⟩))
  go_wp2
  go_ret
  exact ⟨rfl, by repeat (first | exact Gr.refl _ | assumption | apply Gr.drew | apply Gr.alloc)⟩


theorem Gr.block {W w' : World} (h : Gr W w') {k : Nat} (hk : k < W.heap.size) : w'.heap[k]? = W.heap[k]? := by
  have h1 := h.out.1.2.2 k hk
  split at h1
  · rename_i c t fr c' t' fr' e1 e2
    obtain ⟨rfl, rfl, hs, hc⟩ := h1
    have : c' = c := by
      apply Array.ext hs
      intro i hi1 hi2
      have := hc i (by simp)
      rw [Array.getElem?_eq_getElem hi1, Array.getElem?_eq_getElem hi2] at this
      exact Option.some.inj this
    rw [e1, e2, this]
  · rename_i es cl es' cl' e1 e2
    rcases h1 with h1 | ⟨rfl, rfl⟩
    · exact h1.elim
    · rw [e1, e2]
  · assumption

theorem Gr.cell {W w' : World} (h : Gr W w') {p : Addr} (hp : p.block < W.heap.size) : w'.cell? p = W.cell? p := World.cell?_of_block (w := W) (h.block hp)

theorem fromHalfToEven_c (d l v : Int) (h0 : 0 ≤ l) (h1 : l ≤ v) (h2 : v ≤ 4611686018427387904) (w : World) :
    Calls Try.prog 50 #[.agg #[.int .i64 d, .int .i64 l, .int .i64 v]] w fun e w' => e = .returned (.bool (evenUp d l v)) ∧ Gr w w' := by
  by_cases hl : l = v - l
  · have he : evenUp d l v = (d.tmod 2 != 0) := by unfold evenUp; rw [if_pos hl]
    rw [he]
    have hl' : (l == v - l) = true := by simpa using hl
    have HL := Lib.hid hl
    clear hl he
    go_enter Try.func50, Try.ntmps50
    go_wp2
    go_region_held3 (fun w' => w'.cell? ⟨w.heap.size, 0, none⟩ = some (.int .i64 d) ∧ w'.cell? ⟨w.heap.size, 1, none⟩ = some (.int .i64 l) ∧ w'.cell? ⟨w.heap.size, 2, none⟩ = some (.int .i64 v) ∧ Gr w w')
      (first | (go_split_ands; refine ⟨?_, ?_, ?_, ?_⟩; (all_goals (first | (go_keep; done) | (repeat (first | exact Gr.refl _ | assumption | apply Gr.drew | apply Gr.alloc))))))
      (first | (go_at_call 52; refine (lacking_c d l v h0 h1 h2 _).mono ?_; rintro e w' ⟨rfl, rfl⟩))
    go_wp2
    go_ret
    exact ⟨rfl, by repeat (first | exact Gr.refl _ | assumption | apply Gr.drew | apply Gr.alloc)⟩
  · have he : evenUp d l v = decide (v - l < l) := by unfold evenUp; rw [if_neg hl]
    rw [he]
    have hl' : (l == v - l) = false := by simpa using hl
    have HL := Lib.hid hl
    clear hl he
    go_enter Try.func50, Try.ntmps50
    go_wp2
    go_region_held3 (fun w' => w'.cell? ⟨w.heap.size, 0, none⟩ = some (.int .i64 d) ∧ w'.cell? ⟨w.heap.size, 1, none⟩ = some (.int .i64 l) ∧ w'.cell? ⟨w.heap.size, 2, none⟩ = some (.int .i64 v) ∧ Gr w w')
      (first | (go_split_ands; refine ⟨?_, ?_, ?_, ?_⟩; (all_goals (first | (go_keep; done) | (repeat (first | exact Gr.refl _ | assumption | apply Gr.drew | apply Gr.alloc))))))
      (first | (go_at_call 52; refine (lacking_c d l v h0 h1 h2 _).mono ?_; rintro e w' ⟨rfl, rfl⟩))
    go_wp2
    go_region_held3 (fun w' => w'.cell? ⟨w.heap.size, 0, none⟩ = some (.int .i64 d) ∧ w'.cell? ⟨w.heap.size, 1, none⟩ = some (.int .i64 l) ∧ w'.cell? ⟨w.heap.size, 2, none⟩ = some (.int .i64 v) ∧ Gr w w')
      (first | (go_split_ands; refine ⟨?_, ?_, ?_, ?_⟩; (all_goals (first | (go_keep; done) | (repeat (first | exact Gr.refl _ | assumption | apply Gr.drew | apply Gr.alloc))))))
      (first | (go_at_call 52; refine (lacking_c d l v h0 h1 h2 _).mono ?_; rintro e w' ⟨rfl, rfl⟩))
    go_wp2
    go_ret
    exact ⟨rfl, by repeat (first | exact Gr.refl _ | assumption | apply Gr.drew | apply Gr.alloc)⟩

theorem never_c (d l v : Int) (w : World) :
    Calls Try.prog 48 #[.agg #[.int .i64 d, .int .i64 l, .int .i64 v]] w fun e w' => e = .returned (.bool false) ∧ Gr w w' := by
  go_enter Try.func48, Try.ntmps48
  go_wp2
  go_ret
  exact ⟨rfl, by repeat (first | exact Gr.refl _ | assumption | apply Gr.drew | apply Gr.alloc)⟩

theorem mayShift_c (s : Int) (w : World) :
    Calls Try.prog 44 #[.int .i64 s] w fun e w' => e = .returned (.bool (decide (0 ≤ s ∧ s ≤ 62))) ∧ w' = w := by
  by_cases h0 : 0 ≤ s
  · by_cases h1 : s ≤ 62
    · go_enter Try.func44, Try.ntmps44
      go_wp2
      go_ret
      exact ⟨by simp [h0, h1], rfl⟩
    · go_enter Try.func44, Try.ntmps44
      go_wp2
      go_ret
      exact ⟨by simp; omega, rfl⟩
  · go_enter Try.func44, Try.ntmps44
    go_wp2
    go_ret
    exact ⟨by simp; omega, rfl⟩

theorem roundedNever_c (d l v : Int) (h0 : 0 ≤ l) (h1 : l ≤ v) (h2 : v ≤ 4611686018427387904) (hd0 : -9223372036854775807 ≤ d + 1) (hd : false = true → d ≤ 9223372036854775806) (w : World) :
    Calls Try.prog 45 #[.agg #[.int .i64 d, .int .i64 l, .int .i64 v], .agg #[.func (.func 48) #[] #[]]] w fun e w' => e = .returned (.int .i64 (bif false then d + 1 else d)) ∧ Gr w w' := by
  have hcon : ∀ W, Calls Try.prog 48 #[.agg #[.int .i64 d, .int .i64 l, .int .i64 v]] W fun e w' => e = .returned (.bool false) ∧ Gr W w' := fun W => never_c d l v W
  generalize false = b at hcon hd ⊢
  have HC := Lib.hid hcon
  clear hcon
  cases b
  · clear hd
    go_enter Try.func45, Try.ntmps45
    go_wp2_with (go_at_call 48; refine (HC.out _).mono ?_; rintro e w1 ⟨rfl, hg⟩; have c0 := hg.cell (p := ⟨w.heap.size, 0, none⟩) (by simp; omega))
    go_ret
    exact ⟨rfl, Gr.trans (by repeat (first | exact Gr.refl _ | assumption | apply Gr.drew | apply Gr.alloc)) hg⟩
  · have hd1 := hd rfl
    clear hd
    go_enter Try.func45, Try.ntmps45
    go_wp2_with (go_at_call 48; refine (HC.out _).mono ?_; rintro e w1 ⟨rfl, hg⟩; have c0 := hg.cell (p := ⟨w.heap.size, 0, none⟩) (by simp; omega))
    go_ret
    exact ⟨rfl, Gr.trans (by repeat (first | exact Gr.refl _ | assumption | apply Gr.drew | apply Gr.alloc)) hg⟩

theorem roundedHalf_c (d l v : Int) (h0 : 0 ≤ l) (h1 : l ≤ v) (h2 : v ≤ 4611686018427387904) (hd0 : -9223372036854775807 ≤ d + 1) (hd : (decide (v - l ≤ l)) = true → d ≤ 9223372036854775806) (w : World) :
    Calls Try.prog 45 #[.agg #[.int .i64 d, .int .i64 l, .int .i64 v], .agg #[.func (.func 49) #[] #[]]] w fun e w' => e = .returned (.int .i64 (bif (decide (v - l ≤ l)) then d + 1 else d)) ∧ Gr w w' := by
  have hcon : ∀ W, Calls Try.prog 49 #[.agg #[.int .i64 d, .int .i64 l, .int .i64 v]] W fun e w' => e = .returned (.bool (decide (v - l ≤ l))) ∧ Gr W w' := fun W => fromHalf_c d l v h0 h1 h2 W
  generalize (decide (v - l ≤ l)) = b at hcon hd ⊢
  have HC := Lib.hid hcon
  clear hcon
  cases b
  · clear hd
    go_enter Try.func45, Try.ntmps45
    go_wp2_with (go_at_call 49; refine (HC.out _).mono ?_; rintro e w1 ⟨rfl, hg⟩; have c0 := hg.cell (p := ⟨w.heap.size, 0, none⟩) (by simp; omega))
    go_ret
    exact ⟨rfl, Gr.trans (by repeat (first | exact Gr.refl _ | assumption | apply Gr.drew | apply Gr.alloc)) hg⟩
  · have hd1 := hd rfl
    clear hd
    go_enter Try.func45, Try.ntmps45
    go_wp2_with (go_at_call 49; refine (HC.out _).mono ?_; rintro e w1 ⟨rfl, hg⟩; have c0 := hg.cell (p := ⟨w.heap.size, 0, none⟩) (by simp; omega))
    go_ret
    exact ⟨rfl, Gr.trans (by repeat (first | exact Gr.refl _ | assumption | apply Gr.drew | apply Gr.alloc)) hg⟩

theorem roundedEven_c (d l v : Int) (h0 : 0 ≤ l) (h1 : l ≤ v) (h2 : v ≤ 4611686018427387904) (hd0 : -9223372036854775807 ≤ d + 1) (hd : (evenUp d l v) = true → d ≤ 9223372036854775806) (w : World) :
    Calls Try.prog 45 #[.agg #[.int .i64 d, .int .i64 l, .int .i64 v], .agg #[.func (.func 50) #[] #[]]] w fun e w' => e = .returned (.int .i64 (bif (evenUp d l v) then d + 1 else d)) ∧ Gr w w' := by
  have hcon : ∀ W, Calls Try.prog 50 #[.agg #[.int .i64 d, .int .i64 l, .int .i64 v]] W fun e w' => e = .returned (.bool (evenUp d l v)) ∧ Gr W w' := fun W => fromHalfToEven_c d l v h0 h1 h2 W
  generalize (evenUp d l v) = b at hcon hd ⊢
  have HC := Lib.hid hcon
  clear hcon
  cases b
  · clear hd
    go_enter Try.func45, Try.ntmps45
    go_wp2_with (go_at_call 50; refine (HC.out _).mono ?_; rintro e w1 ⟨rfl, hg⟩; have c0 := hg.cell (p := ⟨w.heap.size, 0, none⟩) (by simp; omega))
    go_ret
    exact ⟨rfl, Gr.trans (by repeat (first | exact Gr.refl _ | assumption | apply Gr.drew | apply Gr.alloc)) hg⟩
  · have hd1 := hd rfl
    clear hd
    go_enter Try.func45, Try.ntmps45
    go_wp2_with (go_at_call 50; refine (HC.out _).mono ?_; rintro e w1 ⟨rfl, hg⟩; have c0 := hg.cell (p := ⟨w.heap.size, 0, none⟩) (by simp; omega))
    go_ret
    exact ⟨rfl, Gr.trans (by repeat (first | exact Gr.refl _ | assumption | apply Gr.drew | apply Gr.alloc)) hg⟩

end Go.Proofs.Ytbgdhpcidcnjkaa
