/- References' small functions that many layers use. -/
import Derived.Test.YteajjgegfpibkaaInts
import Derived.Sort.QuietIn
namespace Go.Proofs.Yteajjgegfpibkaa
open Go.ChangeShapes Go.WideShapes Go.ChangeAt Go.RowKit
set_option linter.unusedVariables false

theorem log07_yes (log : Int) (h0 : 2 ≤ log) (h1 : log ≤ 6) (w : World) :
    Calls Try.prog 12 #[.int .i64 log] w fun e w' => e = .returned (.bool true) ∧ w' = w := by
  go_enter Try.func12, Try.ntmps12
  go_wp2_with fail
  go_ret
  exact ⟨rfl, rfl⟩
theorem log07_no (log : Int) (h : log < 2 ∨ 6 < log) (w : World) :
    Calls Try.prog 12 #[.int .i64 log] w fun e w' => e = .returned (.bool false) ∧ w' = w := by
  by_cases a : 2 ≤ log
  · have b : 6 < log := by omega
    clear h
    go_enter Try.func12, Try.ntmps12
    go_wp2_with fail
    go_ret
    exact ⟨by simp; omega, rfl⟩
  · clear h
    go_enter Try.func12, Try.ntmps12
    go_wp2_with fail
    go_ret
    exact ⟨by simp, rfl⟩

theorem same_len {v : Value} {w : World} {xs : List Int} (h : IntsAt w v xs) (hx : xs ≠ []) : ∃ b o cap, v = .slice (some ⟨b, o, none⟩) xs.length cap ∧ xs.length ≤ 9223372036854775807 ∧ b < w.heap.size ∧ ∀ j x, xs[j]? = some x → w.cell? ⟨b, o + j, none⟩ = some (.int .i64 x) := by
  rcases h with ⟨_, h⟩ | ⟨b, o, cap, rfl, hl, hm, hb, hc⟩
  · exact absurd h hx
  · exact ⟨b, o, cap, rfl, by unfold maxLen at hm; omega, hb, hc⟩

set_option maxHeartbeats 1000000 in
theorem same_c (u v : Value) (xs : List Int) (hx : xs ≠ []) (w : World) (hu : IntsAt w u xs) (hv : IntsAt w v xs) :
    Calls Try.prog 13 #[u, v] w fun e w' => e = .returned (.bool true) ∧ Gr w w' := by
  obtain ⟨b, o, cap, rfl, hlen, hb, hc⟩ := same_len hu hx
  obtain ⟨b', o', cap', rfl, _, hb', hc'⟩ := same_len hv hx
  have HC := Lib.hid hc
  have HC' := Lib.hid hc'
  clear hc hc' hu hv
  go_enter Try.func13, Try.ntmps13
  go_wp2_with fail
  go_loopw [13] (fun i wr => ∃ k : Nat, k ≤ xs.length ∧ i = .int .i64 k ∧ Gr w wr) (fun i _ => xs.length - (intOf i).toNat)
  case atStart => exact ⟨0, Nat.zero_le _, rfl, Gr.refl _⟩
  case round =>
    obtain ⟨k, hk, rfl, hg⟩ := hrel
    by_cases hlt : k < xs.length
    · obtain ⟨x, hx⟩ := get_of_lt hlt
      have h1 := (hg.cell (p := ⟨b, o + k, none⟩) hb).trans (HC.out k x hx)
      have h2 := (hg.cell (p := ⟨b', o' + k, none⟩) hb').trans (HC'.out k x hx)
      clear hx
      go_wp2_with fail
      go_quiet (fail)
      go_wp2_with fail
      go_roundw
      case rel => exact ⟨k + 1, by omega, by go_num, hg.drewN _⟩
      case measure => simp [intOf]; omega
    · go_wp2_with fail
      go_ret
      exact ⟨rfl, hg⟩

end Go.Proofs.Yteajjgegfpibkaa
