/- A block that holds some complex number. -/
import Derived.Test.YtkbfniogannlhaaAt3
namespace Go.Proofs.Ytkbfniogannlhaa
open Go.ChangeShapes Go.WideShapes Go.ChangeAt Go.RowKit
set_option linter.unusedVariables false

/-- Block B holds a complex number. -/
structure CxBlock (W : World) (B : Nat) : Prop where
  out : ∃ x y : Int, CellsAt W B 23 #[.int .i64 x, .int .i64 y]
theorem CxBlock.gr {W W' : World} {B : Nat} (h : CxBlock W B) (g : Gr W W') : CxBlock W' B := by
  obtain ⟨x, y, h⟩ := h
  exact ⟨x, y, h.gr g⟩
theorem CxBlock.drew {W : World} {B : Nat} (h : CxBlock W B) : CxBlock W.drew B := h.gr (Gr.drew (Gr.refl _))
theorem CxBlock.set {W : World} {B : Nat} (h : CxBlock W B) (x y : Int) : CxBlock ((W.setCell ⟨B, 0, none⟩ (.int .i64 x)).setCell ⟨B, 1, none⟩ (.int .i64 y)) B := by
  obtain ⟨a, b, h⟩ := h
  exact ⟨x, y, (h.set 0 _).set 1 _⟩

theorem CxBlock.new (W : World) (x y : Int) : CxBlock (W.alloc (.cells #[.int .i64 x, .int .i64 y] 23)) W.heap.size := ⟨x, y, CellsAt.new _ _ _⟩
theorem CxBlock.alloc {W : World} {B : Nat} (h : CxBlock W B) (o : Obj) : CxBlock (W.alloc o) B := h.gr ((Gr.refl _).allocO o)
theorem CxBlock.drewN {W : World} {B : Nat} (h : CxBlock W B) (n : Nat) : CxBlock (W.drewN n) B := h.gr ((Gr.refl _).drewN n)
theorem CxBlock.other {W : World} {B B' : Nat} (h : CxBlock W B) (hne : B ≠ B') (x y : Value) : CxBlock ((W.setCell ⟨B', 0, none⟩ x).setCell ⟨B', 1, none⟩ y) B := by
  obtain ⟨a, b, h⟩ := h
  exact ⟨a, b, (h.other hne 0 x).other hne 1 y⟩

end Go.Proofs.Ytkbfniogannlhaa
