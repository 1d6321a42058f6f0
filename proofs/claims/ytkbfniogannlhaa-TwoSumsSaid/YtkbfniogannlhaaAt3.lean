/- A variable of three whole numbers in memory. -/
import Derived.Test.YtkbfniogannlhaaInts
import Derived.Deep.OwnRows
namespace Go.Proofs.Ytkbfniogannlhaa
open Go.ChangeShapes Go.WideShapes Go.ChangeAt Go.RowKit
set_option linter.unusedVariables false

/-- Block B holds just these cells. -/
def CellsAt (W : World) (B : Nat) (t : TypeId) (c : Array Value) : Prop := W.heap[B]? = some (.cells c t (0, 0))

theorem CellsAt.lt {W : World} {B : Nat} {t : TypeId} {c : Array Value} (h : CellsAt W B t c) : B < W.heap.size := (Array.getElem?_eq_some_iff.1 h).1
theorem CellsAt.cell {W : World} {B : Nat} {t : TypeId} {c : Array Value} (h : CellsAt W B t c) (j : Nat) : W.cell? ⟨B, j, none⟩ = c[j]? := by simp [World.cell?, show W.heap[B]? = _ from h]
theorem CellsAt.frozen {W : World} {B : Nat} {t : TypeId} {c : Array Value} (h : CellsAt W B t c) (j : Nat) : W.frozen? ⟨B, j, none⟩ = false := by simp [World.frozen?, show W.heap[B]? = _ from h]
theorem CellsAt.new (W : World) (t : TypeId) (c : Array Value) : CellsAt (W.alloc (.cells c t)) W.heap.size t c := World.alloc_heap_new W _
theorem CellsAt.alloc {W : World} {B : Nat} {t : TypeId} {c : Array Value} (h : CellsAt W B t c) (o : Obj) : CellsAt (W.alloc o) B t c := (Below.heap_alloc _ _ _ h.lt).trans h
theorem CellsAt.gr {W W' : World} {B : Nat} {t : TypeId} {c : Array Value} (h : CellsAt W B t c) (hg : Gr W W') : CellsAt W' B t c := (hg.block h.lt).trans h
theorem CellsAt.other {W : World} {B B' : Nat} {t : TypeId} {c : Array Value} (h : CellsAt W B t c) (hne : B ≠ B') (j : Nat) (v : Value) : CellsAt (W.setCell ⟨B', j, none⟩ v) B t c := (Below.heap_setCell _ _ _ _ hne).trans h
theorem CellsAt.drewN {W : World} {B : Nat} {t : TypeId} {c : Array Value} (h : CellsAt W B t c) (n : Nat) : CellsAt (W.drewN n) B t c := h
theorem CellsAt.set {W : World} {B : Nat} {t : TypeId} {c : Array Value} (h : CellsAt W B t c) (j : Nat) (v : Value) : CellsAt (W.setCell ⟨B, j, none⟩ v) B t (c.setIfInBounds j v) := by
  obtain ⟨hlt, hk⟩ := Array.getElem?_eq_some_iff.1 h
  show (W.heap.modify B _)[B]? = _
  rw [Array.getElem?_eq_getElem (by rw [Array.size_modify]; exact hlt), Array.getElem_modify_self, hk]
  rfl

theorem MadeAt.start (w : World) (z : Value) (n : Nat) (t : TypeId) : CellsAt (w.alloc (.cells (madeCells #[z] n) t)) w.heap.size t (madeCells #[z] n) ∧ (madeCells #[z] n).size = n :=
  ⟨CellsAt.new w t _, size_madeCells _ _⟩

theorem CellsAt.grown {W w' : World} {B : Nat} {t : TypeId} {c : Array Value} {row : Option Nat} (h : CellsAt W B t c) (hg : W.grownBy w' row) (hne : some B ≠ row) : CellsAt w' B t c := (hg.block B h.lt hne).trans h
theorem IntsAt.grown {W w' : World} {v : Value} {xs : List Int} {row : Option Nat} (h : IntsAt W v xs) (hg : W.grownBy w' row) (hne : ∀ b, v.ownBlock = some b → some b ≠ row) : IntsAt w' v xs := by
  rcases h with h | ⟨b, o, cap, rfl, hl, hm, hb, hc⟩
  · exact .inl h
  · refine .inr ⟨b, o, cap, rfl, hl, hm, Nat.lt_of_lt_of_le hb hg.size, fun k y hk => ?_⟩
    rw [← hc k y hk]
    unfold World.cell?
    rw [hg.block b hb (hne b rfl)]

theorem news_two (W : World) (x y : Value) (t : TypeId) : ∀ j u, [x, y][j]? = some u → (W.alloc (.cells #[x, y] t)).cell? ((⟨W.heap.size, 0, none⟩ : Addr).add j) = some u := by
  intro j u h
  rw [Addr.add_lit]
  have := (CellsAt.new W t #[x, y]).cell (0 + j)
  rw [this, Nat.zero_add]
  simpa using h

end Go.Proofs.Ytkbfniogannlhaa
