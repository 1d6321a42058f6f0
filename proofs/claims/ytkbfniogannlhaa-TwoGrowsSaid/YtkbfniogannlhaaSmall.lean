/- References' small functions that many layers use. -/
import Derived.Test.YtkbfniogannlhaaInts
import Derived.Sort.QuietIn
namespace Go.Proofs.Ytkbfniogannlhaa
open Go.ChangeShapes Go.WideShapes Go.ChangeAt Go.RowKit
set_option linter.unusedVariables false

theorem same_len {v : Value} {w : World} {xs : List Int} (h : IntsAt w v xs) (hx : xs ≠ []) : ∃ b o cap, v = .slice (some ⟨b, o, none⟩) xs.length cap ∧ xs.length ≤ 9223372036854775807 ∧ b < w.heap.size ∧ ∀ j x, xs[j]? = some x → w.cell? ⟨b, o + j, none⟩ = some (.int .i64 x) := by
  rcases h with ⟨_, h⟩ | ⟨b, o, cap, rfl, hl, hm, hb, hc⟩
  · exact absurd h hx
  · exact ⟨b, o, cap, rfl, by unfold maxLen at hm; omega, hb, hc⟩

end Go.Proofs.Ytkbfniogannlhaa
