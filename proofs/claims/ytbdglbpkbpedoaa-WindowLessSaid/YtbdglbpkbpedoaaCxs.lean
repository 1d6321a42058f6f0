/- A slice of whole numbers in memory. · A variable of three whole numbers in memory. · References' small functions that many layers use. · A slice of complex numbers in memory. · A block that holds some complex number. · Rows of complex numbers made and copied. · A slice of complex numbers that came in as an argument: opened; cut. -/
import Derived.Test.YtbdglbpkbpedoaaFns
import Derived.Test.YtbdglbpkbpedoaaPlain
import Derived.RangeFuncBox
import Derived.Maps.AppendAt
import Derived.Deep.OwnRows
import Derived.Sort.QuietIn
import Derived.Laws.CopyOwn
import Derived.Deep.SlicePairs
import Derived.Carry
namespace Go.Proofs.Ytbdglbpkbpedoaa
open Go.ChangeShapes Go.WideShapes Go.ChangeAt Go.RowKit
set_option linter.unusedVariables false
set_option maxRecDepth 100000

/-- The slice value v holds the numbers xs. -/
def IntsAt (w : World) (v : Value) (xs : List Int) : Prop :=
  (v = .slice none 0 0 ∧ xs = []) ∨
  ∃ b o cap, v = .slice (some ⟨b, o, none⟩) xs.length cap ∧ xs.length ≤ cap ∧ cap ≤ maxLen ∧ b < w.heap.size ∧ ∀ j x, xs[j]? = some x → w.cell? ⟨b, o + j, none⟩ = some (.int .i64 x)

theorem IntsAt.gr {w w' : World} {v : Value} {xs : List Int} (h : IntsAt w v xs) (hg : Gr w w') : IntsAt w' v xs := by
  rcases h with h | ⟨b, o, cap, hv, hl, hm, hb, hc⟩
  · exact .inl h
  · exact .inr ⟨b, o, cap, hv, hl, hm, Nat.lt_of_lt_of_le hb hg.size, fun j x hj => (hg.cell (p := ⟨b, o + j, none⟩) hb).trans (hc j x hj)⟩

theorem IntsAt.nil (w : World) : IntsAt w (.slice none 0 0) [] := .inl ⟨rfl, rfl⟩

theorem IntsAt.of_row {w : World} {base n : Nat} {t : TypeId} {v : Value} {xs : List Int} (h : w.ownsRow base t 1 v n (xs.map (Value.int .i64))) : IntsAt w v xs := by
  have hl := h.1
  rw [List.length_map, Nat.mul_one] at hl
  have hc := fun g hg => h.cells (g := g) hg
  rcases h.2 with ⟨hv, hn⟩ | ⟨g, cap, cur, rfl, hb, hg, hn, hm, hs, ht⟩
  · refine .inl ⟨hv, ?_⟩
    rw [hn] at hl
    exact List.length_eq_zero_iff.1 hl
  · refine .inr ⟨g, 0, cap, by rw [hl], by omega, hm, (Array.getElem?_eq_some_iff.1 hg).1, fun j x hj => ?_⟩
    have := hc g rfl j (.int .i64 x) (by rw [List.getElem?_map, hj]; rfl)
    rw [Addr.add_lit] at this
    exact this

/-- The length that is read off the value. -/
theorem IntsAt.len {w : World} {v : Value} {xs : List Int} (h : IntsAt w v xs) : ∃ p cap, v = .slice p xs.length cap := by
  rcases h with ⟨rfl, rfl⟩ | ⟨b, o, cap, rfl, _⟩
  · exact ⟨_, _, rfl⟩
  · exact ⟨_, _, rfl⟩

/-- What a slice of the call's own holds it holds behind a call that makes new blocks alone. -/
theorem ownsRow_gr {W w' : World} {base : Nat} {e : TypeId} {size : Nat} {v : Value} {k : Nat} {xs : List Value} (h : W.ownsRow base e size v k xs) (hg : Gr W w') : w'.ownsRow base e size v k xs :=
  h.kept (row := none) hg.by' (by cases hv : v.ownBlock <;> simp)

/-- Behind 'out = append(out, ..)' where the variable lies in a box: the box held, holds now; the longer row; what else lies below the base is as it was. -/
theorem Boxed.appended2 {W w1 : World} {base B : Nat} {t e : TypeId} {size : Nat} {v v' : Value} {k m : Nat} {xs ys : List Value} {tmp : Obj}
    (hv : Boxed W B t v) (hB : B < base) (hrow : W.ownsRow base e size v k xs) (hbase : base ≤ W.heap.size)
    (hown' : w1.ownsRow base e size v' m ys) (hgrow : (W.alloc tmp).grownBy w1 v.ownBlock) :
    Boxed w1 B t v ∧ Boxed (w1.setCell ⟨B, 0, none⟩ v') B t v' ∧ (w1.setCell ⟨B, 0, none⟩ v').ownsRow base e size v' m ys ∧ KeepsOthers W (w1.setCell ⟨B, 0, none⟩ v') ∧ (∀ i, i < base → i ≠ B → (w1.setCell ⟨B, 0, none⟩ v').heap[i]? = W.heap[i]?) ∧
    (∀ n₀ : Nat, n₀ ≤ B → Below n₀ W (w1.setCell ⟨B, 0, none⟩ v')) ∧
    (∀ w0 : World, w0.heap.size ≤ B → Gr w0 W → Gr w0 (w1.setCell ⟨B, 0, none⟩ v')) := by
  have hne : ∀ i, i < base → some i ≠ v.ownBlock := fun i hi e' => by have := hrow.lt i e'.symm; omega
  have hne' : ∀ i, i < base → some i ≠ v'.ownBlock := fun i hi e' => by have := hown'.lt i e'.symm; omega
  have hv1 : Boxed w1 B t v := (hv.alloc tmp).kept hgrow (hne B hB)
  refine ⟨hv1, hv1.set v', hown'.kept (grownBy_setCell' w1 B v') (.inr (hne' B hB).symm), ?_, fun i hi hiB => ?_, fun n₀ h0 => ?_, fun w0 h0 hg => ?_⟩
  · refine ((KeepsOthers.alloc W tmp).trans (KeepsOthers.of_grownBy hgrow fun j o ej hj => ?_)).trans (KeepsOthers.setCell _ _ _)
    rcases (hrow.alloc tmp).2 with ⟨rfl, _⟩ | ⟨g, cap, cur, rfl, _, hgb, _⟩
    · simp [Value.ownBlock] at ej
    · obtain rfl : g = j := by simpa [Value.ownBlock] using ej
      rw [hgb] at hj; cases hj; rfl
  · rw [Below.heap_setCell _ _ _ _ hiB, hgrow.block i (by simp; omega) (hne i hi), Below.heap_alloc _ _ _ (by omega)]
  · refine ((((Below.refl n₀ W).alloc (by omega) tmp).grown hgrow (by simp; omega) fun j ej => ?_).setCell (p := ⟨B, 0, none⟩) h0 v')
    have := hrow.lt j ej
    omega
  · refine Gr.setCell ((hg.allocO tmp).grown hgrow fun j ej => ?_) h0 v'
    have := hrow.lt j ej
    omega

theorem take_snoc {α : Type} {xs : List α} {k : Nat} {x : α} (h : xs[k]? = some x) : xs.take (k + 1) = xs.take k ++ [x] := by
  rw [List.take_add_one, h]; rfl
theorem get_of_lt {α : Type} {xs : List α} {k : Nat} (h : k < xs.length) : ∃ x, xs[k]? = some x := ⟨xs[k], List.getElem?_eq_getElem h⟩

theorem info_int : (Try.prog.info? 3).map (fun i => (i.zero, i.size, i.bytes)) = some (some (.int .i64 0), 1, 8) := by kernel_rfl

end Go.Proofs.Ytbdglbpkbpedoaa

namespace Go.Proofs.Ytbdglbpkbpedoaa
open Go.ChangeShapes Go.WideShapes Go.ChangeAt Go.RowKit
set_option linter.unusedVariables false

/-- Block B holds just these cells. -/
def CellsAt (W : World) (B : Nat) (t : TypeId) (c : Array Value) : Prop := W.heap[B]? = some (.cells c t (0, 0))

theorem CellsAt.lt {W : World} {B : Nat} {t : TypeId} {c : Array Value} (h : CellsAt W B t c) : B < W.heap.size := (Array.getElem?_eq_some_iff.1 h).1
theorem CellsAt.cell {W : World} {B : Nat} {t : TypeId} {c : Array Value} (h : CellsAt W B t c) (j : Nat) : W.cell? ⟨B, j, none⟩ = c[j]? := by simp [World.cell?, show W.heap[B]? = _ from h]
theorem CellsAt.frozen {W : World} {B : Nat} {t : TypeId} {c : Array Value} (h : CellsAt W B t c) (j : Nat) : W.frozen? ⟨B, j, none⟩ = false := by simp [World.frozen?, show W.heap[B]? = _ from h]
theorem CellsAt.new (W : World) (t : TypeId) (c : Array Value) : CellsAt (W.alloc (.cells c t)) W.heap.size t c := World.alloc_heap_new W _
theorem CellsAt.alloc {W : World} {B : Nat} {t : TypeId} {c : Array Value} (h : CellsAt W B t c) (o : Obj) : CellsAt (W.alloc o) B t c := (Below.heap_alloc _ _ _ h.lt).trans h
theorem CellsAt.gr {W W' : World} {B : Nat} {t : TypeId} {c : Array Value} (h : CellsAt W B t c) (hg : Gr W W') : CellsAt W' B t c := (hg.block h.lt).trans h
theorem CellsAt.other {W : World} {B B' : Nat} {t : TypeId} {c : Array Value} (h : CellsAt W B t c) (hne : B ≠ B') (j : Nat) (v : Value) : CellsAt (W.setCell ⟨B', j, none⟩ v) B t c := (Below.heap_setCell _ _ _ _ hne).trans h
theorem CellsAt.drewN {W : World} {B : Nat} {t : TypeId} {c : Array Value} (h : CellsAt W B t c) (n : Nat) : CellsAt (W.drewN n) B t c := h
theorem CellsAt.set {W : World} {B : Nat} {t : TypeId} {c : Array Value} (h : CellsAt W B t c) (j : Nat) (v : Value) : CellsAt (W.setCell ⟨B, j, none⟩ v) B t (c.setIfInBounds j v) := by
  obtain ⟨hlt, hk⟩ := Array.getElem?_eq_some_iff.1 h
  show (W.heap.modify B _)[B]? = _
  rw [Array.getElem?_eq_getElem (by rw [Array.size_modify]; exact hlt), Array.getElem_modify_self, hk]
  rfl

theorem MadeAt.start (w : World) (z : Value) (n : Nat) (t : TypeId) : CellsAt (w.alloc (.cells (madeCells #[z] n) t)) w.heap.size t (madeCells #[z] n) ∧ (madeCells #[z] n).size = n :=
  ⟨CellsAt.new w t _, size_madeCells _ _⟩

theorem CellsAt.grown {W w' : World} {B : Nat} {t : TypeId} {c : Array Value} {row : Option Nat} (h : CellsAt W B t c) (hg : W.grownBy w' row) (hne : some B ≠ row) : CellsAt w' B t c := (hg.block B h.lt hne).trans h
theorem IntsAt.grown {W w' : World} {v : Value} {xs : List Int} {row : Option Nat} (h : IntsAt W v xs) (hg : W.grownBy w' row) (hne : ∀ b, v.ownBlock = some b → some b ≠ row) : IntsAt w' v xs := by
  rcases h with h | ⟨b, o, cap, rfl, hl, hm, hb, hc⟩
  · exact .inl h
  · refine .inr ⟨b, o, cap, rfl, hl, hm, Nat.lt_of_lt_of_le hb hg.size, fun k y hk => ?_⟩
    rw [← hc k y hk]
    unfold World.cell?
    rw [hg.block b hb (hne b rfl)]

theorem news_two (W : World) (x y : Value) (t : TypeId) : ∀ j u, [x, y][j]? = some u → (W.alloc (.cells #[x, y] t)).cell? ((⟨W.heap.size, 0, none⟩ : Addr).add j) = some u := by
  intro j u h
  rw [Addr.add_lit]
  have := (CellsAt.new W t #[x, y]).cell (0 + j)
  rw [this, Nat.zero_add]
  simpa using h

end Go.Proofs.Ytbdglbpkbpedoaa

namespace Go.Proofs.Ytbdglbpkbpedoaa
open Go.ChangeShapes Go.WideShapes Go.ChangeAt Go.RowKit
set_option linter.unusedVariables false

theorem log07_yes (log : Int) (h0 : 2 ≤ log) (h1 : log ≤ 6) (w : World) :
    Calls Try.prog 42 #[.int .i64 log] w fun e w' => e = .returned (.bool true) ∧ w' = w := by
  go_enter Try.func42, Try.ntmps42
  go_wp2_with fail
  go_ret
  exact ⟨rfl, rfl⟩
theorem log07_no (log : Int) (h : log < 2 ∨ 6 < log) (w : World) :
    Calls Try.prog 42 #[.int .i64 log] w fun e w' => e = .returned (.bool false) ∧ w' = w := by
  by_cases a : 2 ≤ log
  · have b : 6 < log := by omega
    clear h
    go_enter Try.func42, Try.ntmps42
    go_wp2_with fail
    go_ret
    exact ⟨by simp; omega, rfl⟩
  · clear h
    go_enter Try.func42, Try.ntmps42
    go_wp2_with fail
    go_ret
    exact ⟨by simp, rfl⟩

theorem same_len {v : Value} {w : World} {xs : List Int} (h : IntsAt w v xs) (hx : xs ≠ []) : ∃ b o cap, v = .slice (some ⟨b, o, none⟩) xs.length cap ∧ xs.length ≤ 9223372036854775807 ∧ b < w.heap.size ∧ ∀ j x, xs[j]? = some x → w.cell? ⟨b, o + j, none⟩ = some (.int .i64 x) := by
  rcases h with ⟨_, h⟩ | ⟨b, o, cap, rfl, hl, hm, hb, hc⟩
  · exact absurd h hx
  · exact ⟨b, o, cap, rfl, by unfold maxLen at hm; omega, hb, hc⟩

set_option maxHeartbeats 1000000 in
theorem same_c (u v : Value) (xs : List Int) (hx : xs ≠ []) (w : World) (hu : IntsAt w u xs) (hv : IntsAt w v xs) :
    Calls Try.prog 12 #[u, v] w fun e w' => e = .returned (.bool true) ∧ Gr w w' := by
  obtain ⟨b, o, cap, rfl, hlen, hb, hc⟩ := same_len hu hx
  obtain ⟨b', o', cap', rfl, _, hb', hc'⟩ := same_len hv hx
  have HC := Lib.hid hc
  have HC' := Lib.hid hc'
  clear hc hc' hu hv
  go_enter Try.func12, Try.ntmps12
  go_wp2_with fail
  go_loopw [13] (fun i wr => ∃ k : Nat, k ≤ xs.length ∧ i = .int .i64 k ∧ Gr w wr) (fun i _ => xs.length - (intOf i).toNat)
  case atStart => exact ⟨0, Nat.zero_le _, rfl, Gr.refl _⟩
  case round =>
    obtain ⟨k, hk, rfl, hg⟩ := hrel
    by_cases hlt : k < xs.length
    · obtain ⟨x, hx⟩ := get_of_lt hlt
      have h1 := (hg.cell (p := ⟨b, o + k, none⟩) hb).trans (HC.out k x hx)
      have h2 := (hg.cell (p := ⟨b', o' + k, none⟩) hb').trans (HC'.out k x hx)
      clear hx
      go_wp2_with fail
      go_quiet (fail)
      go_wp2_with fail
      go_roundw
      case rel => exact ⟨k + 1, by omega, by go_num, hg.drewN _⟩
      case measure => simp [intOf]; omega
    · go_wp2_with fail
      go_ret
      exact ⟨rfl, hg⟩

end Go.Proofs.Ytbdglbpkbpedoaa

namespace Go.Proofs.Ytbdglbpkbpedoaa
open Go.ChangeShapes Go.WideShapes Go.ChangeAt Go.RowKit
set_option linter.unusedVariables false

/-- The slice value v holds the numbers xs. -/
def CxsAt (w : World) (v : Value) (xs : List Gi) : Prop :=
  ∃ p cap, v = .slice p xs.length cap ∧ xs.length ≤ cap ∧ cap ≤ maxLen ∧ (xs ≠ [] → ∃ b o, p = some ⟨b, o, none⟩ ∧ b < w.heap.size ∧ ∀ j x, xs[j]? = some x → w.cell? ⟨b, o + j * 2, none⟩ = some (.int .i64 x.re) ∧ w.cell? ⟨b, o + j * 2 + 1, none⟩ = some (.int .i64 x.im))

theorem CxsAt.gr {w w' : World} {v : Value} {xs : List Gi} (h : CxsAt w v xs) (hg : Gr w w') : CxsAt w' v xs := by
  obtain ⟨p, cap, hv, hl, hm, hc⟩ := h
  refine ⟨p, cap, hv, hl, hm, fun hx => ?_⟩
  obtain ⟨b, o, hp, hb, hc⟩ := hc hx
  exact ⟨b, o, hp, Nat.lt_of_lt_of_le hb hg.size, fun j x hj => ⟨(hg.cell (p := ⟨b, o + j * 2, none⟩) hb).trans (hc j x hj).1, (hg.cell (p := ⟨b, o + j * 2 + 1, none⟩) hb).trans (hc j x hj).2⟩⟩

theorem CxsAt.len {w : World} {v : Value} {xs : List Gi} (h : CxsAt w v xs) : ∃ p cap, v = .slice p xs.length cap := by
  obtain ⟨p, cap, hv, _⟩ := h
  exact ⟨p, cap, hv⟩

theorem CxsAt.nil (w : World) : CxsAt w (.slice none 0 0) [] := ⟨none, 0, rfl, Nat.le_refl _, Nat.zero_le _, fun h => absurd rfl h⟩

theorem CxsAt.at {w : World} {v : Value} {xs : List Gi} (h : CxsAt w v xs) (hx : xs ≠ []) : ∃ b o cap, v = .slice (some ⟨b, o, none⟩) xs.length cap ∧ xs.length ≤ 9223372036854775807 ∧ b < w.heap.size ∧ ∀ j x, xs[j]? = some x → w.cell? ⟨b, o + j * 2, none⟩ = some (.int .i64 x.re) ∧ w.cell? ⟨b, o + j * 2 + 1, none⟩ = some (.int .i64 x.im) := by
  obtain ⟨p, cap, hv, hl, hm, hc⟩ := h
  obtain ⟨b, o, rfl, hb, hc⟩ := hc hx
  exact ⟨b, o, cap, hv, by unfold maxLen at hm; omega, hb, hc⟩

/-- The cells of a row of numbers. -/
def gcells : List Gi → List Value
  | [] => []
  | a :: xs => .int .i64 a.re :: .int .i64 a.im :: gcells xs

theorem gcells_len (xs : List Gi) : (gcells xs).length = xs.length * 2 := by
  induction xs with
  | nil => rfl
  | cons a xs ih => simp only [gcells, List.length_cons, ih]; omega

theorem gcells_snoc (xs : List Gi) (a : Gi) : gcells (xs ++ [a]) = gcells xs ++ [.int .i64 a.re, .int .i64 a.im] := by
  induction xs with
  | nil => rfl
  | cons b xs ih => simp only [List.cons_append, gcells, ih]

theorem gcells_at (xs : List Gi) (j : Nat) (a : Gi) (h : xs[j]? = some a) : (gcells xs)[j * 2]? = some (.int .i64 a.re) ∧ (gcells xs)[j * 2 + 1]? = some (.int .i64 a.im) := by
  induction xs generalizing j with
  | nil => cases h
  | cons b xs ih =>
    cases j with
    | zero =>
      simp only [List.getElem?_cons_zero, Option.some.injEq] at h
      subst h
      exact ⟨rfl, rfl⟩
    | succ j =>
      have := ih j (by simpa using h)
      rw [show (j + 1) * 2 = j * 2 + 1 + 1 by omega]
      simpa only [gcells, List.getElem?_cons_succ] using this

theorem CxsAt.of_row {w : World} {base n : Nat} {t : TypeId} {v : Value} {xs : List Gi} (h : w.ownsRow base t 2 v n (gcells xs)) : CxsAt w v xs := by
  have hl := h.1
  rw [gcells_len] at hl
  have hn : n = xs.length := by omega
  have hc := fun g hg => h.cells (g := g) hg
  rcases h.2 with ⟨hv, h0⟩ | ⟨g, cap, cur, rfl, hb, hg, hnc, hm, hs, ht⟩
  · have : xs = [] := List.length_eq_zero_iff.1 (by omega)
    subst this
    rw [hv]
    exact CxsAt.nil w
  · refine ⟨some ⟨g, 0, none⟩, cap, by rw [hn], by omega, hm, fun _ => ⟨g, 0, rfl, (Array.getElem?_eq_some_iff.1 hg).1, fun j x hj => ?_⟩⟩
    have h2 := gcells_at xs j x hj
    have k1 := hc g rfl _ _ h2.1
    have k2 := hc g rfl _ _ h2.2
    rw [Addr.add_lit] at k1 k2
    exact ⟨k1, k2⟩

theorem info_cx : (Try.prog.info? 57).map (fun i => (i.zero, i.size, i.bytes)) = some (some (.agg #[.int .i64 0, .int .i64 0]), 2, 16) := by kernel_rfl

end Go.Proofs.Ytbdglbpkbpedoaa

namespace Go.Proofs.Ytbdglbpkbpedoaa
open Go.ChangeShapes Go.WideShapes Go.ChangeAt Go.RowKit
set_option linter.unusedVariables false

/-- Block B holds a complex number. -/
structure CxBlock (W : World) (B : Nat) : Prop where
  out : ∃ x y : Int, CellsAt W B 57 #[.int .i64 x, .int .i64 y]
theorem CxBlock.gr {W W' : World} {B : Nat} (h : CxBlock W B) (g : Gr W W') : CxBlock W' B := by
  obtain ⟨x, y, h⟩ := h
  exact ⟨x, y, h.gr g⟩
theorem CxBlock.drew {W : World} {B : Nat} (h : CxBlock W B) : CxBlock W.drew B := h.gr (Gr.drew (Gr.refl _))
theorem CxBlock.set {W : World} {B : Nat} (h : CxBlock W B) (x y : Int) : CxBlock ((W.setCell ⟨B, 0, none⟩ (.int .i64 x)).setCell ⟨B, 1, none⟩ (.int .i64 y)) B := by
  obtain ⟨a, b, h⟩ := h
  exact ⟨x, y, (h.set 0 _).set 1 _⟩

theorem CxBlock.new (W : World) (x y : Int) : CxBlock (W.alloc (.cells #[.int .i64 x, .int .i64 y] 57)) W.heap.size := ⟨x, y, CellsAt.new _ _ _⟩
theorem CxBlock.alloc {W : World} {B : Nat} (h : CxBlock W B) (o : Obj) : CxBlock (W.alloc o) B := h.gr ((Gr.refl _).allocO o)
theorem CxBlock.drewN {W : World} {B : Nat} (h : CxBlock W B) (n : Nat) : CxBlock (W.drewN n) B := h.gr ((Gr.refl _).drewN n)
theorem CxBlock.other {W : World} {B B' : Nat} (h : CxBlock W B) (hne : B ≠ B') (x y : Value) : CxBlock ((W.setCell ⟨B', 0, none⟩ x).setCell ⟨B', 1, none⟩ y) B := by
  obtain ⟨a, b, h⟩ := h
  exact ⟨a, b, (h.other hne 0 x).other hne 1 y⟩

end Go.Proofs.Ytbdglbpkbpedoaa

namespace Go.Proofs.Ytbdglbpkbpedoaa
open Go.ChangeShapes Go.WideShapes Go.ChangeAt Go.RowKit
set_option linter.unusedVariables false

theorem run_make_cx (n : Nat) (hn : n ≤ 1048576) (w : World) : (Instr.makeSlice 37 (.int .i64 (n : Int)) (.int .i64 (n : Int))).run Try.prog w = .ok (.slice (some ⟨w.heap.size, 0, none⟩) n n) (w.alloc (.cells (madeCells #[.int .i64 0, .int .i64 0] (n * 2)) 57)) := by
  obtain ⟨i, hi, hzz⟩ := Option.map_eq_some_iff.1 info_cx
  simp only [Prod.mk.injEq] at hzz
  obtain ⟨hz, hs, hb⟩ := hzz
  have hr := run_make (P := Try.prog) w 37 57 i _ Try.underlying37 hi hz .i64 .i64 n n (by omega) (Int.le_refl _) (by rw [hb]; omega) (by omega)
  rw [hs] at hr
  simp only [Int.toNat_natCast] at hr
  exact hr

/-- A number has two cells: a copy of n of them takes over 2 n cells. -/
theorem run_copy_cx (w : World) (ty : TypeId) (g dLen dCap : Nat) (a : Addr) (sLen sCap : Nat) (cur : Array Value) (t : TypeId) (cs : List Value)
    (hg : w.heap[g]? = some (.cells cur t (0, 0))) (hn : cs.length = Nat.min sLen dLen * 2)
    (hsrc : ∀ j v, cs[j]? = some v → w.cell? (a.add j) = some v) (hfit : cs.length ≤ cur.size) (h1 : ∀ v ∈ cs, v.oneCell' = true) :
    (Builtin.copy_ #[37, 37] ty #[.slice (some ⟨g, 0, none⟩) dLen dCap, .slice (some a) sLen sCap]).run Try.prog w =
      .ok (goInt (Nat.min sLen dLen)) (w.setRow g (cs ++ cur.toList.drop cs.length).toArray) := by
  have hl := run_loadCells_list (P := Try.prog) w a cs hsrc
  have hst := run_storeCells_at Try.prog g 0 t cs 0 cur w hg (by simpa using hfit) h1
  obtain ⟨i, hi, hzz⟩ := Option.map_eq_some_iff.1 info_cx
  simp only [Prod.mk.injEq] at hzz
  obtain ⟨hz, hs, hb⟩ := hzz
  simp [Builtin.copy_, run_underlying Try.underlying37, Builtin.lenOf, Builtin.firstCells, sizeOf, typeInfo, hi, hs, ← hn, hl, hst]

end Go.Proofs.Ytbdglbpkbpedoaa

namespace Go.Proofs.Ytbdglbpkbpedoaa
open Go.ChangeShapes Go.WideShapes Go.ChangeAt Go.RowKit
set_option linter.unusedVariables false

instance giInhabited : Inhabited Gi := ⟨⟨0, 0⟩⟩

theorem cxs_open {H : Type} {enc : TypeId × Value → H} {W : World} {held : Bool} {fuel : Nat} {a : Option Addr} {len cap : Nat} {x : DataW H × List MemPlace}
    (h : DataW.trod enc Try.prog W 0 (fun _ => true) held fuel 37 [.slice a len cap] = some x) :
    ∃ xs : List Gi, len = xs.length ∧ CxsAt W (.slice a len cap) xs ∧ ∀ g ∈ xs, (Lit.int .i64 g.re).wf = true ∧ (Lit.int .i64 g.im).wf = true := by
  rcases Go.Deep.open_slice_pairs Try.underlying37 Try.underlying57 (by kernel_rfl) rfl rfl (by kernel_rfl) (by kernel_rfl) h with ⟨hcs, _⟩ | ⟨a', l, c, m, n, V0, V1, D0, D1, P0, P1, hcs, _, hl, hm, hmm, _, hx⟩
  · simp at hcs
    obtain ⟨rfl, rfl, rfl⟩ := hcs
    exact ⟨[], rfl, CxsAt.nil W, fun g hg => by cases hg⟩
  · simp at hcs
    obtain ⟨rfl, rfl, rfl⟩ := hcs
    have hmc : m = cap := by simpa using hmm
    have each : ∀ i, i < len → ∃ g : Gi, V0 i = .int .i64 g.re ∧ V1 i = .int .i64 g.im ∧ (Lit.int .i64 g.re).wf = true ∧ (Lit.int .i64 g.im).wf = true := by
      intro i hi
      obtain ⟨_, _, h0, h1⟩ := hx i (by omega)
      obtain ⟨n0, e0, _, w0⟩ := DataW.trod_int Try.underlying3 h0
      obtain ⟨n1, e1, _, w1⟩ := DataW.trod_int Try.underlying3 h1
      simp at e0 e1
      exact ⟨⟨n0, n1⟩, e0, e1, w0, w1⟩
    obtain ⟨f, hf⟩ := Go.Deep.choose_lt each
    refine ⟨(List.range len).map f, by simp, ⟨some a', cap, by simp, by simpa using hl, hm, fun hne => ?_⟩, ?_⟩
    · have h0 : 0 < len := by
        rcases Nat.eq_zero_or_pos len with h | h
        · subst h; exact absurd rfl hne
        · exact h
      have hc0 := (hx 0 (by omega)).1
      rw [Nat.zero_mul, Addr.add_zero'] at hc0
      have hsp := World.cell?_spot hc0
      obtain ⟨b, o, sp⟩ := a'
      simp only at hsp
      subst hsp
      refine ⟨b, o, rfl, block_lt_of_cell hc0, fun j x hj => ?_⟩
      have hjl : j < len := by
        have := (List.getElem?_eq_some_iff.1 hj).1
        simpa using this
      have ej : x = f j := by
        rw [List.getElem?_map, List.getElem?_range hjl] at hj
        exact (Option.some.inj hj).symm
      subst ej
      obtain ⟨c0, c1, _, _⟩ := hx j (by omega)
      rw [Addr.add_lit] at c0 c1
      rw [(hf j hjl).1] at c0
      rw [(hf j hjl).2.1] at c1
      exact ⟨c0, c1⟩
    · intro g hg
      obtain ⟨j, hj, rfl⟩ := List.mem_map.1 hg
      exact (hf j (List.mem_range.1 hj)).2.2

/-- The first m of them. -/
theorem CxsAt.cut {w : World} {p : Option Addr} {len cap : Nat} {xs : List Gi} (h : CxsAt w (.slice p len cap) xs) (m : Nat) (hm : m ≤ len) : CxsAt w (.slice p m cap) (xs.take m) ∧ (xs.take m).length = m ∧ m ≤ cap ∧ cap ≤ maxLen := by
  obtain ⟨p', cap', hv, hl, hmx, hc⟩ := h
  cases hv
  have e : (xs.take m).length = m := by rw [List.length_take]; omega
  refine ⟨⟨p, cap, by rw [e], by rw [e]; omega, hmx, fun hne => ?_⟩, e, by omega, hmx⟩
  obtain ⟨b, o, hp, hb, hc⟩ := hc (by intro e; rw [e] at hne; simp at hne)
  refine ⟨b, o, hp, hb, fun j x hj => hc j x ?_⟩
  rw [List.getElem?_take] at hj
  split at hj
  · exact hj
  · cases hj

/-- How many are taken. -/
theorem cut70 (n : Nat) : ∃ m : Nat, m ≤ n ∧ m ≤ 70 ∧ (if (70 : Int) < (n : Int) then 70 else (n : Int)) = (m : Int) := by
  by_cases h : (70 : Int) < (n : Int)
  · exact ⟨70, by omega, by omega, by rw [if_pos h]; rfl⟩
  · exact ⟨n, Nat.le_refl _, by omega, by rw [if_neg h]⟩

set_option maxRecDepth 100000 in
/-- A slice cut behind its first m elements. -/
theorem run_cut_cx (p : Option Addr) (len cap m : Nat) (hm : m ≤ cap) (w : World) : (Instr.slice 37 (.slice p len cap) none (some (.int .i64 (m : Int))) none).run Try.prog w = .ok (.slice p m cap) w := by
  obtain ⟨i, hi, hzz⟩ := Option.map_eq_some_iff.1 info_cx
  have h1 := run_slice_h (P := Try.prog) 37 p len cap (by exact Try.underlying37) .i64 (m : Int) (by omega) (by omega) (w := w)
  rw [h1]
  simp [sizeOf, typeInfo, sliced, show Try.prog.elem 37 = 57 by kernel_rfl, hi]
  intro _
  cases p <;> simp [Addr.add_zero']

end Go.Proofs.Ytbdglbpkbpedoaa
