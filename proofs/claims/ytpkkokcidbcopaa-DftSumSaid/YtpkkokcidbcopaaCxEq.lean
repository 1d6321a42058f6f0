/- The same complex numbers are the same; a block of numbers is a slice of them. -/
import Derived.Test.YtpkkokcidbcopaaCxs
import Derived.MapKept
namespace Go.Proofs.Ytpkkokcidbcopaa
open Go.ChangeShapes Go.WideShapes Go.ChangeAt Go.RowKit
set_option linter.unusedVariables false
set_option linter.unusedSimpArgs false
set_option maxRecDepth 100000

theorem fields_cx : (Try.prog.fieldsOf 24).toList.map (fun f => (f.name, f.type, f.offset)) = [("Re", 3, 0), ("Im", 3, 1)] := by kernel_rfl
theorem cx_equal (x y : Int) (w : World) : (Op.equalIn 10000 24 (.agg #[.int .i64 x, .int .i64 y]) (.agg #[.int .i64 x, .int .i64 y])).run Try.prog w = .ok true w := by
  refine (run_equalIn_struct w 9999 24 #[.int .i64 x, .int .i64 y] #[.int .i64 x, .int .i64 y] (by kernel_rfl) (by kernel_rfl)).trans ?_
  have h := fields_cx
  generalize (Try.prog.fieldsOf 24).toList = L at h ⊢
  obtain ⟨f, g, rfl⟩ : ∃ f g, L = [f, g] := by
    rcases L with _ | ⟨f, _ | ⟨g, _ | ⟨h3, L⟩⟩⟩
    · simp at h
    · simp at h
    · exact ⟨f, g, rfl⟩
    · simp only [List.map_cons, List.cons.injEq, reduceCtorEq, and_false] at h
  simp only [List.map_cons, List.map_nil, List.cons.injEq, Prod.mk.injEq, and_true] at h
  obtain ⟨⟨n1, t1, o1⟩, n2, t2, o2⟩ := h
  have p1 : ∀ (u v : Value) (w : World), (part 3 #[u, v] 0).run Try.prog w = .ok u w := fun _ _ _ => by kernel_rfl
  have p2 : ∀ (u v : Value) (w : World), (part 3 #[u, v] 1).run Try.prog w = .ok v w := fun _ _ _ => by kernel_rfl
  have q : ∀ a b : Int, (Op.equalIn 9999 3 (.int .i64 a) (.int .i64 b)).run Try.prog w = .ok (a == b) w := fun a b => run_equalIn_int w 9998 _ .i64 .i64 a b (by kernel_rfl)
  have s1 : ("Re" = "_") = False := by simp
  have s2 : ("Im" = "_") = False := by simp
  simp [Op.eqFields, n1, n2, t1, t2, o1, o2, p1, p2, q, s1, s2]
theorem cxs_cells {W : World} {B : Nat} {t : TypeId} {xs : List Gi} (h : CellsAt W B t (gcells xs).toArray) (hl : xs.length ≤ maxLen) : CxsAt W (.slice (some ⟨B, 0, none⟩) xs.length xs.length) xs := by
  refine ⟨_, _, rfl, Nat.le_refl _, hl, fun _ => ⟨B, 0, rfl, h.lt, fun j x hj => ?_⟩⟩
  have k := gcells_at xs j x hj
  rw [Nat.zero_add, h.cell, h.cell]
  simpa using k

end Go.Proofs.Ytpkkokcidbcopaa
