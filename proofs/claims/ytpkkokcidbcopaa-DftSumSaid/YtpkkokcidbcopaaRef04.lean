/- What reference 4's functions answer. · What reference 4's Arc, Quarter and Same answer. -/
import Derived.Test.YtpkkokcidbcopaaArc
import Derived.Test.YtpkkokcidbcopaaCxs
namespace Go.Proofs.Ytpkkokcidbcopaa
open Go.ChangeShapes Go.WideShapes Go.ChangeAt Go.RowKit
set_option linter.unusedVariables false
set_option maxRecDepth 100000

theorem IsT.unique {m : Nat} {xs ys : List Int} (h : IsT m xs) (k : IsT m ys) : xs = ys := by
  obtain ⟨i, _, i0, il, rfl⟩ := h
  obtain ⟨j, _, j0, jl, rfl⟩ := k
  have : i = j := by
    rcases Nat.lt_trichotomy i j with h | h | h
    · have := jl i h; omega
    · exact h
    · have := il j h; omega
  rw [this]

end Go.Proofs.Ytpkkokcidbcopaa

namespace Go.Proofs.Ytpkkokcidbcopaa
open Go.ChangeShapes Go.WideShapes Go.ChangeAt Go.RowKit
set_option linter.unusedVariables false

theorem sumW_take {xs : List Int} {k : Nat} {x : Int} (h : xs[k]? = some x) : sumW (xs.take (k + 1)) = wrap64 (sumW (xs.take k) + x) := by
  rw [take_snoc h, sumW_snoc]

theorem IsT.ne {m : Nat} {ys : List Int} (h : IsT m ys) (m0 : 2 ≤ m) (m1 : m ≤ 17592186044416) : ys ≠ [] := by
  obtain ⟨k, hk, h0, _, rfl⟩ := h
  intro e
  have hk0 : k = 0 := by simpa using e
  rw [hk0, arcP] at h0
  have := Nat.div_pos (show m ≤ 72057594037927936 by omega) (show 0 < m by omega)
  omega

end Go.Proofs.Ytpkkokcidbcopaa
