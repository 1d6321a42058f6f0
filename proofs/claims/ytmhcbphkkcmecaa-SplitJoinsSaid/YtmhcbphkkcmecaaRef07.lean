/- What reference 7's functions answer. · What reference 7's point, RootOf and Root answer. · What reference 7's RootOf and Root answer. · What reference 7's Root, Table and Bits answer. -/
import Derived.Test.YtmhcbphkkcmecaaCircle
import Derived.Test.YtmhcbphkkcmecaaCxs
import Derived.Test.YtmhcbphkkcmecaaCx4
import Derived.Test.YtmhcbphkkcmecaaGiCalls
import Derived.Test.YtmhcbphkkcmecaaRoot
import Derived.Test.YtmhcbphkkcmecaaSat
import Derived.Deep.Cut
import Derived.Deep.CutRange
import Derived.Maps.AppendAt
namespace Go.Proofs.Ytmhcbphkkcmecaa
open Go.ChangeShapes Go.WideShapes Go.ChangeAt Go.RowKit
set_option linter.unusedVariables false
set_option maxRecDepth 100000

theorem rsh07_c (x y s : Int) (wx : -9223372036854775808 ≤ x ∧ x ≤ 9223372036854775807) (wy : -9223372036854775808 ≤ y ∧ y ≤ 9223372036854775807) (s0 : 0 ≤ s) (s1 : s ≤ 62) (w : World) :
    Calls Try.prog 36 #[.agg #[.int .i64 x, .int .i64 y], .int .i64 s, .int .i64 1] w fun e w' => e = .returned (.agg #[.int .i64 (rnd x s.toNat 1), .int .i64 (rnd y s.toNat 1)]) ∧ Gr w w' := by
  have HX := Lib.hid (refShift_c x s 1 wx s0 s1 (by omega) (by omega))
  have HY := Lib.hid (refShift_c y s 1 wy s0 s1 (by omega) (by omega))
  generalize rnd x s.toNat 1 = r0 at HX ⊢
  generalize rnd y s.toNat 1 = r1 at HY ⊢
  clear wx wy s0 s1
  go_enter Try.func36, Try.ntmps36
  go_wp2_with fail
  go_region_held3 (fun W => W.cell? ⟨w.heap.size, 0, none⟩ = some (.int .i64 x) ∧ W.cell? ⟨w.heap.size, 1, none⟩ = some (.int .i64 y))
    (go_keep)
    (first | (go_at_call 62; ((with_reducible refine (HX.out _).mono ?_); rintro e w' ⟨rfl, rfl⟩)) | (go_at_call 62; ((with_reducible refine (HY.out _).mono ?_); rintro e w' ⟨rfl, rfl⟩)))
  go_wp2
  refine bodyPost_ret (v := .agg #[.int .i64 r0, .int .i64 r1]) ?_ rfl ⟨rfl, ?_⟩
  · simp [results, Try.results36, go_sem]
  · exact by repeat (first | exact Gr.refl _ | assumption | apply Gr.drew | apply Gr.alloc | (refine Gr.setCell ?_ (by first | (simp; done) | (simp; omega)) _))

end Go.Proofs.Ytmhcbphkkcmecaa

namespace Go.Proofs.Ytmhcbphkkcmecaa
open Go.ChangeShapes Go.WideShapes Go.ChangeAt Go.RowKit
set_option linter.unusedVariables false

theorem len_log (n log : Int) (h0 : 2 ≤ log) (h1 : log ≤ 6) (hn : n = 2 ^ log.toNat) : IsLen n := by
  unfold IsLen
  rcases (by omega : log = 2 ∨ log = 3 ∨ log = 4 ∨ log = 5 ∨ log = 6) with rfl | rfl | rfl | rfl | rfl <;> simp at hn <;> omega

end Go.Proofs.Ytmhcbphkkcmecaa

namespace Go.Proofs.Ytmhcbphkkcmecaa
open Go.ChangeShapes Go.WideShapes Go.ChangeAt Go.RowKit
set_option linter.unusedVariables false

end Go.Proofs.Ytmhcbphkkcmecaa

namespace Go.Proofs.Ytmhcbphkkcmecaa
open Go.ChangeShapes Go.WideShapes Go.ChangeAt Go.RowKit
set_option linter.unusedVariables false

/-- The roots 0 to n - 1. -/
def rootsL (n : Int) (s : Nat) : List Gi := (List.range n.toNat).map (fun k : Nat => rootG n (k : Int) s)
theorem rootsL_len (n : Int) (s : Nat) : (rootsL n s).length = n.toNat := by unfold rootsL; simp

end Go.Proofs.Ytmhcbphkkcmecaa
