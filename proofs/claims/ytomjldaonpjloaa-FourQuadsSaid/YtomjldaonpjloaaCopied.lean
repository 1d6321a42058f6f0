/- A row of complex numbers made and filled by copy. -/
import Derived.Test.YtomjldaonpjloaaRow
namespace Go.Proofs.Ytomjldaonpjloaa
open Go.ChangeShapes Go.WideShapes Go.ChangeAt Go.RowKit
set_option linter.unusedVariables false
set_option maxRecDepth 100000

theorem gcells_back (xs : List Gi) (k : Nat) (v : Value) (h : (gcells xs)[k]? = some v) : ∃ j x, xs[j]? = some x ∧ ((k = j * 2 ∧ v = .int .i64 x.re) ∨ (k = j * 2 + 1 ∧ v = .int .i64 x.im)) := by
  have hk := (List.getElem?_eq_some_iff.1 h).1
  rw [gcells_len] at hk
  obtain ⟨x, hx⟩ : ∃ x, xs[k / 2]? = some x := get_of_lt (by omega)
  have h2 := gcells_at xs (k / 2) x hx
  rcases Nat.mod_two_eq_zero_or_one k with e | e
  · rw [show k / 2 * 2 = k by omega, h] at h2
    exact ⟨k / 2, x, hx, .inl ⟨by omega, Option.some.inj h2.1⟩⟩
  · rw [show k / 2 * 2 + 1 = k by omega, h] at h2
    exact ⟨k / 2, x, hx, .inr ⟨by omega, Option.some.inj h2.2⟩⟩

theorem copied_row (U : World) (b o n cap : Nat) (xs : List Gi) (hl : xs.length = n) (hn : 1 ≤ n) (hv : CxsAt U (.slice (some ⟨b, o, none⟩) n cap) xs) :
    ∃ W2, (Builtin.copy_ #[51, 51] 3 #[.slice (some ⟨U.heap.size, 0, none⟩) n n, .slice (some ⟨b, o, none⟩) n cap]).run Try.prog (U.alloc (.cells (madeCells #[.int .i64 0, .int .i64 0] (n * 2)) 39)) = .ok (.int .i64 n) W2 ∧
      RowAt W2 U.heap.size 39 n (fun i => xs.getD i ⟨0, 0⟩) ∧ Gr U W2 := by
  subst hl
  obtain ⟨b', o', cap', hvv, hlen, hb, hc⟩ := hv.at (by intro e; rw [e] at hn; simp at hn)
  cases hvv
  have M0 := CellsAt.new U 39 (madeCells #[.int .i64 0, .int .i64 0] (xs.length * 2))
  have M1 := size_madeCells #[.int .i64 0, .int .i64 0] (xs.length * 2)
  have g1 := (Gr.refl U).alloc (madeCells #[.int .i64 0, .int .i64 0] (xs.length * 2)) 39
  have hL := gcells_len xs
  have hr := run_copy_cx (U.alloc (.cells (madeCells #[.int .i64 0, .int .i64 0] (xs.length * 2)) 39)) 3 U.heap.size xs.length xs.length ⟨b, o, none⟩ xs.length cap _ 39 (gcells xs) M0
    (by rw [hL]; simp) (by
      intro j v hj
      rw [Addr.add_lit]
      obtain ⟨j', x, hx, h⟩ := gcells_back xs j v hj
      have hcx := hc j' x hx
      rcases h with ⟨rfl, rfl⟩ | ⟨rfl, rfl⟩
      · exact (g1.cell (p := ⟨b, o + j' * 2, none⟩) hb).trans hcx.1
      · exact (g1.cell (p := ⟨b, o + j' * 2 + 1, none⟩) hb).trans hcx.2)
    (by rw [hL, M1]; omega) (by
      intro v hv
      obtain ⟨j, hj, rfl⟩ := List.mem_iff_getElem.1 hv
      obtain ⟨j', x, hx, h⟩ := gcells_back xs j _ (List.getElem?_eq_getElem hj)
      rcases h with ⟨_, h⟩ | ⟨_, h⟩ <;> rw [h] <;> rfl)
  have hd : (madeCells #[.int .i64 0, .int .i64 0] (xs.length * 2)).toList.drop (gcells xs).length = [] := List.drop_eq_nil_of_le (by rw [hL]; simp [M1])
  rw [hd, List.append_nil] at hr
  refine ⟨_, ?_, ⟨(gcells xs).toArray, setRow_heap _ _ _ _ _ _ M0, by simp [hL], fun j hj => ?_⟩, ⟨below_setRow g1.out (Nat.le_refl _) _⟩⟩
  · rw [hr]
    simp [goInt]
  · have := gcells_at xs j (xs.getD j ⟨0, 0⟩) (by rw [List.getD_eq_getElem?_getD, List.getElem?_eq_getElem hj]; rfl)
    simpa using this

end Go.Proofs.Ytomjldaonpjloaa
