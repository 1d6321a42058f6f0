/- What reference 4's Arc, Quarter and Same answer. -/
import Derived.Test.YtkbnhoapfjkajaaRef04
namespace Go.Proofs.Ytkbnhoapfjkajaa
open Go.ChangeShapes Go.WideShapes Go.ChangeAt Go.RowKit
set_option linter.unusedVariables false

theorem sumW_take {xs : List Int} {k : Nat} {x : Int} (h : xs[k]? = some x) : sumW (xs.take (k + 1)) = wrap64 (sumW (xs.take k) + x) := by
  rw [take_snoc h, sumW_snoc]

theorem IsT.ne {m : Nat} {ys : List Int} (h : IsT m ys) (m0 : 2 ≤ m) (m1 : m ≤ 17592186044416) : ys ≠ [] := by
  obtain ⟨k, hk, h0, _, rfl⟩ := h
  intro e
  have hk0 : k = 0 := by simpa using e
  rw [hk0, arcP] at h0
  have := Nat.div_pos (show m ≤ 72057594037927936 by omega) (show 0 < m by omega)
  omega

set_option maxHeartbeats 1000000 in
theorem refArc_c (m : Nat) (m0 : 2 ≤ m) (m1 : m ≤ 17592186044416) (w : World) :
    Calls Try.prog 63 #[.int .i64 m] w fun e w' => e = .returned (.int .i64 (arcOf m)) ∧ Gr w w' := by
  have HT := Lib.hid (refTerms_c m m0 m1)
  have M := Lib.hid (And.intro m0 m1)
  clear m0 m1
  go_enter Try.func63, Try.ntmps63
  go_wp2_with fail
  refine (HT.out _).mono ?_
  rintro e w1 ⟨v, ys, rfl, hT, hI, hg⟩
  have HS := Lib.hid (hT.sum M.out.1)
  have NE := Lib.hid (hT.ne M.out.1 M.out.2)
  clear hT HT
  rcases hI with ⟨rfl, rfl⟩ | ⟨b, o, cap, rfl, hl, hm, hb, hc⟩
  · exact absurd rfl NE.out
  · have HC := Lib.hid hc
    have hlen : ys.length ≤ 9223372036854775807 := by unfold maxLen at hm; omega
    clear hc hb hm hl
    go_wp2_with fail
    go_loop [3, 9] (fun s i => ∃ k : Nat, k ≤ ys.length ∧ i = .int .i64 k ∧ s = .int .i64 (sumW (ys.take k))) (fun _ i => ys.length - (intOf i).toNat)
    case atStart => exact ⟨0, Nat.zero_le _, rfl, rfl⟩
    case round =>
      obtain ⟨k, hk, rfl, rfl⟩ := hrel
      by_cases hlt : k < ys.length
      · obtain ⟨x, hx⟩ := get_of_lt hlt
        have hcx := HC.out k x hx
        have HE := Lib.hid (sumW_take hx)
        clear hx
        go_wp2_with fail
        go_round
        case rel => exact ⟨k + 1, by omega, by go_num, by rw [HE.out]⟩
        case measure => simp [intOf]; omega
      · have he : k = ys.length := by omega
        subst he
        go_wp2_with fail
        go_ret
        exact ⟨by rw [← HS.out]; rfl, hg⟩

theorem refQuarter_c (w : World) :
    Calls Try.prog 62 #[] w fun e w' => e = .returned (.int .i64 56593902016227522) ∧ Gr w w' := by
  have HA : Hid (∀ W, Calls Try.prog 63 #[.int .i64 2] W fun e w' => e = .returned (.int .i64 33409331186036029) ∧ Gr W w') := Lib.hid fun W => by
    have := refArc_c 2 (by omega) (by omega) W
    rw [arc_2] at this
    exact this
  have HB : Hid (∀ W, Calls Try.prog 63 #[.int .i64 3] W fun e w' => e = .returned (.int .i64 23184570830191493) ∧ Gr W w') := Lib.hid fun W => by
    have := refArc_c 3 (by omega) (by omega) W
    rw [arc_3] at this
    exact this
  go_enter Try.func62, Try.ntmps62
  go_wp2_with (first
    | (go_at_call 63; with_reducible refine (HA.out _).mono ?_; rintro e w1 ⟨rfl, hg1⟩)
    | (go_at_call 63; with_reducible refine (HB.out _).mono ?_; rintro e w2 ⟨rfl, hg2⟩))
  go_ret
  exact ⟨rfl, hg1.trans hg2⟩

theorem same_len {v : Value} {w : World} {xs : List Int} (h : IntsAt w v xs) (hx : xs ≠ []) : ∃ b o cap, v = .slice (some ⟨b, o, none⟩) xs.length cap ∧ xs.length ≤ 9223372036854775807 ∧ b < w.heap.size ∧ ∀ j x, xs[j]? = some x → w.cell? ⟨b, o + j, none⟩ = some (.int .i64 x) := by
  rcases h with ⟨_, h⟩ | ⟨b, o, cap, rfl, hl, hm, hb, hc⟩
  · exact absurd h hx
  · exact ⟨b, o, cap, rfl, by unfold maxLen at hm; omega, hb, hc⟩

end Go.Proofs.Ytkbnhoapfjkajaa
