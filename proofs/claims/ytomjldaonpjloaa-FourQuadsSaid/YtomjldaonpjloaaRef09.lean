/- What reference 9's functions answer. · What reference 9's Max, Room, Pre, May, Up, Ups and Shifted answer. · What reference 9's Up, Ups and Shifted answer. -/
import Derived.Test.YtomjldaonpjloaaTwoMath
import Derived.Test.YtomjldaonpjloaaSat
import Derived.Test.YtomjldaonpjloaaCx4
import Derived.Test.YtomjldaonpjloaaCxs
import Derived.Maps.AppendAt
namespace Go.Proofs.Ytomjldaonpjloaa
open Go.ChangeShapes Go.WideShapes Go.ChangeAt Go.RowKit
set_option linter.unusedVariables false
set_option maxRecDepth 100000

/-- Reference 3's shift, in any mode. -/
theorem rshift03_c (x y s mo : Int) (wx : -9223372036854775808 ≤ x ∧ x ≤ 9223372036854775807) (wy : -9223372036854775808 ≤ y ∧ y ≤ 9223372036854775807) (s0 : 0 ≤ s) (s1 : s ≤ 62) (m0 : 0 ≤ mo) (m1 : mo ≤ 2) (w : World) :
    Calls Try.prog 39 #[.agg #[.int .i64 x, .int .i64 y], .int .i64 s, .int .i64 mo] w fun e w' => e = .returned (.agg #[.int .i64 (rnd x s.toNat mo), .int .i64 (rnd y s.toNat mo)]) ∧ Gr w w' := by
  have HX := Lib.hid (refShift_c x s mo wx s0 s1 m0 m1)
  have HY := Lib.hid (refShift_c y s mo wy s0 s1 m0 m1)
  generalize rnd x s.toNat mo = r0 at HX ⊢
  generalize rnd y s.toNat mo = r1 at HY ⊢
  clear wx wy s0 s1 m0 m1
  go_enter Try.func39, Try.ntmps39
  go_wp2_with fail
  go_region_held3 (fun W => W.cell? ⟨w.heap.size, 0, none⟩ = some (.int .i64 x) ∧ W.cell? ⟨w.heap.size, 1, none⟩ = some (.int .i64 y))
    (go_keep)
    (first | (go_at_call 54; ((with_reducible refine (HX.out _).mono ?_); rintro e w' ⟨rfl, rfl⟩)) | (go_at_call 54; ((with_reducible refine (HY.out _).mono ?_); rintro e w' ⟨rfl, rfl⟩)))
  go_wp2
  refine bodyPost_ret (v := .agg #[.int .i64 r0, .int .i64 r1]) ?_ rfl ⟨rfl, ?_⟩
  · simp [results, Try.results39, go_sem]
  · exact by repeat (first | exact Gr.refl _ | assumption | apply Gr.drew | apply Gr.alloc | (refine Gr.setCell ?_ (by first | (simp; done) | (simp; omega)) _))

end Go.Proofs.Ytomjldaonpjloaa

namespace Go.Proofs.Ytomjldaonpjloaa
open Go.ChangeShapes Go.WideShapes Go.ChangeAt Go.RowKit
set_option linter.unusedVariables false

end Go.Proofs.Ytomjldaonpjloaa

namespace Go.Proofs.Ytomjldaonpjloaa
open Go.ChangeShapes Go.WideShapes Go.ChangeAt Go.RowKit
set_option linter.unusedVariables false

theorem map_take_snoc {α β : Type} (f : α → β) {xs : List α} {k : Nat} {x : α} (h : xs[k]? = some x) : (xs.take (k + 1)).map f = (xs.take k).map f ++ [f x] := by
  rw [take_snoc h, List.map_append]; rfl

end Go.Proofs.Ytomjldaonpjloaa
