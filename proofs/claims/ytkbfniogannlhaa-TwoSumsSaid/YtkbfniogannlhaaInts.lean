/- A slice of whole numbers in memory. -/
import Derived.Test.YtkbfniogannlhaaFns
import Derived.RangeFuncBox
import Derived.Maps.AppendAt
namespace Go.Proofs.Ytkbfniogannlhaa
open Go.ChangeShapes Go.WideShapes Go.ChangeAt Go.RowKit
set_option linter.unusedVariables false

/-- The slice value v holds the numbers xs. -/
def IntsAt (w : World) (v : Value) (xs : List Int) : Prop :=
  (v = .slice none 0 0 ∧ xs = []) ∨
  ∃ b o cap, v = .slice (some ⟨b, o, none⟩) xs.length cap ∧ xs.length ≤ cap ∧ cap ≤ maxLen ∧ b < w.heap.size ∧ ∀ j x, xs[j]? = some x → w.cell? ⟨b, o + j, none⟩ = some (.int .i64 x)

theorem IntsAt.gr {w w' : World} {v : Value} {xs : List Int} (h : IntsAt w v xs) (hg : Gr w w') : IntsAt w' v xs := by
  rcases h with h | ⟨b, o, cap, hv, hl, hm, hb, hc⟩
  · exact .inl h
  · exact .inr ⟨b, o, cap, hv, hl, hm, Nat.lt_of_lt_of_le hb hg.size, fun j x hj => (hg.cell (p := ⟨b, o + j, none⟩) hb).trans (hc j x hj)⟩

theorem IntsAt.nil (w : World) : IntsAt w (.slice none 0 0) [] := .inl ⟨rfl, rfl⟩

theorem IntsAt.of_row {w : World} {base n : Nat} {t : TypeId} {v : Value} {xs : List Int} (h : w.ownsRow base t 1 v n (xs.map (Value.int .i64))) : IntsAt w v xs := by
  have hl := h.1
  rw [List.length_map, Nat.mul_one] at hl
  have hc := fun g hg => h.cells (g := g) hg
  rcases h.2 with ⟨hv, hn⟩ | ⟨g, cap, cur, rfl, hb, hg, hn, hm, hs, ht⟩
  · refine .inl ⟨hv, ?_⟩
    rw [hn] at hl
    exact List.length_eq_zero_iff.1 hl
  · refine .inr ⟨g, 0, cap, by rw [hl], by omega, hm, (Array.getElem?_eq_some_iff.1 hg).1, fun j x hj => ?_⟩
    have := hc g rfl j (.int .i64 x) (by rw [List.getElem?_map, hj]; rfl)
    rw [Addr.add_lit] at this
    exact this

/-- The length that is read off the value. -/
theorem IntsAt.len {w : World} {v : Value} {xs : List Int} (h : IntsAt w v xs) : ∃ p cap, v = .slice p xs.length cap := by
  rcases h with ⟨rfl, rfl⟩ | ⟨b, o, cap, rfl, _⟩
  · exact ⟨_, _, rfl⟩
  · exact ⟨_, _, rfl⟩

/-- What a slice of the call's own holds it holds behind a call that makes new blocks alone. -/
theorem ownsRow_gr {W w' : World} {base : Nat} {e : TypeId} {size : Nat} {v : Value} {k : Nat} {xs : List Value} (h : W.ownsRow base e size v k xs) (hg : Gr W w') : w'.ownsRow base e size v k xs :=
  h.kept (row := none) hg.by' (by cases hv : v.ownBlock <;> simp)

/-- Behind 'out = append(out, ..)' where the variable lies in a box: the box held, holds now; the longer row; what else lies below the base is as it was. -/
theorem Boxed.appended2 {W w1 : World} {base B : Nat} {t e : TypeId} {size : Nat} {v v' : Value} {k m : Nat} {xs ys : List Value} {tmp : Obj}
    (hv : Boxed W B t v) (hB : B < base) (hrow : W.ownsRow base e size v k xs) (hbase : base ≤ W.heap.size)
    (hown' : w1.ownsRow base e size v' m ys) (hgrow : (W.alloc tmp).grownBy w1 v.ownBlock) :
    Boxed w1 B t v ∧ Boxed (w1.setCell ⟨B, 0, none⟩ v') B t v' ∧ (w1.setCell ⟨B, 0, none⟩ v').ownsRow base e size v' m ys ∧ KeepsOthers W (w1.setCell ⟨B, 0, none⟩ v') ∧ (∀ i, i < base → i ≠ B → (w1.setCell ⟨B, 0, none⟩ v').heap[i]? = W.heap[i]?) ∧
    (∀ n₀ : Nat, n₀ ≤ B → Below n₀ W (w1.setCell ⟨B, 0, none⟩ v')) ∧
    (∀ w0 : World, w0.heap.size ≤ B → Gr w0 W → Gr w0 (w1.setCell ⟨B, 0, none⟩ v')) := by
  have hne : ∀ i, i < base → some i ≠ v.ownBlock := fun i hi e' => by have := hrow.lt i e'.symm; omega
  have hne' : ∀ i, i < base → some i ≠ v'.ownBlock := fun i hi e' => by have := hown'.lt i e'.symm; omega
  have hv1 : Boxed w1 B t v := (hv.alloc tmp).kept hgrow (hne B hB)
  refine ⟨hv1, hv1.set v', hown'.kept (grownBy_setCell' w1 B v') (.inr (hne' B hB).symm), ?_, fun i hi hiB => ?_, fun n₀ h0 => ?_, fun w0 h0 hg => ?_⟩
  · refine ((KeepsOthers.alloc W tmp).trans (KeepsOthers.of_grownBy hgrow fun j o ej hj => ?_)).trans (KeepsOthers.setCell _ _ _)
    rcases (hrow.alloc tmp).2 with ⟨rfl, _⟩ | ⟨g, cap, cur, rfl, _, hgb, _⟩
    · simp [Value.ownBlock] at ej
    · obtain rfl : g = j := by simpa [Value.ownBlock] using ej
      rw [hgb] at hj; cases hj; rfl
  · rw [Below.heap_setCell _ _ _ _ hiB, hgrow.block i (by simp; omega) (hne i hi), Below.heap_alloc _ _ _ (by omega)]
  · refine ((((Below.refl n₀ W).alloc (by omega) tmp).grown hgrow (by simp; omega) fun j ej => ?_).setCell (p := ⟨B, 0, none⟩) h0 v')
    have := hrow.lt j ej
    omega
  · refine Gr.setCell ((hg.allocO tmp).grown hgrow fun j ej => ?_) h0 v'
    have := hrow.lt j ej
    omega

theorem take_snoc {α : Type} {xs : List α} {k : Nat} {x : α} (h : xs[k]? = some x) : xs.take (k + 1) = xs.take k ++ [x] := by
  rw [List.take_add_one, h]; rfl
theorem get_of_lt {α : Type} {xs : List α} {k : Nat} (h : k < xs.length) : ∃ x, xs[k]? = some x := ⟨xs[k], List.getElem?_eq_getElem h⟩

theorem info_int : (Try.prog.info? 3).map (fun i => (i.zero, i.size, i.bytes)) = some (some (.int .i64 0), 1, 8) := by kernel_rfl

end Go.Proofs.Ytkbfniogannlhaa
