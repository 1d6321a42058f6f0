/- What reference 4's functions answer. · What reference 4's Arc, Quarter and Same answer. -/
import Derived.Test.YtbdglbpkbpedoaaArc
import Derived.Test.YtbdglbpkbpedoaaCxs
namespace Go.Proofs.Ytbdglbpkbpedoaa
open Go.ChangeShapes Go.WideShapes Go.ChangeAt Go.RowKit
set_option linter.unusedVariables false
set_option maxRecDepth 100000

theorem pow56 (w : World) : Calls Try.prog 44 #[.int .i64 56] w fun e w' => e = .returned (.int .i64 72057594037927936) ∧ w' = w := by
  have := pow_c 56 (by omega) (by omega) w
  simpa using this
theorem pow44 (w : World) : Calls Try.prog 44 #[.int .i64 44] w fun e w' => e = .returned (.int .i64 17592186044416) ∧ w' = w := by
  have := pow_c 44 (by omega) (by omega) w
  simpa using this

theorem refP_c (m k : Nat) (m0 : 2 ≤ m) (m1 : m ≤ 17592186044416) (hk : k ≤ 28) (w : World) :
    Calls Try.prog 101 #[.int .i64 m, .int .i64 k] w fun e w' => e = .returned (.int .i64 (arcP m k)) ∧ w' = w := by
  have HP := Lib.hid pow56
  have HD1 := Lib.hid (refDiv_c 72057594037927936 m (by omega) (by omega))
  have e0 : ((72057594037927936 : Int) / (m : Int)) = (arcP m 0 : Int) := by rw [arcP, Int.natCast_ediv]; rfl
  rw [e0] at HD1
  clear e0
  have M := Lib.hid (And.intro m0 m1)
  clear m0 m1
  go_enter Try.func101, Try.ntmps101
  go_wp2_with (first
    | (go_at_call 44; refine (HP.out _).mono ?_; rintro e w1 ⟨rfl, rfl⟩)
    | (go_at_call 46; refine (HD1.out _).mono ?_; rintro e w2 ⟨rfl, rfl⟩))
  rename World => w0

  go_loopw [5, 6] (fun p i wr => ∃ j : Nat, j ≤ k ∧ i = .int .i64 j ∧ p = .int .i64 (arcP m j) ∧ wr = w0)
    (fun _ i _ => k - (intOf i).toNat)
  case atStart => exact ⟨0, by omega, rfl, rfl, rfl⟩
  case round =>
    obtain ⟨j, hj, rfl, rfl, rfl⟩ := hrel
    by_cases hjk : j = k
    · subst hjk
      go_wp2_with fail
      go_ret
      exact ⟨rfl, rfl⟩
    · have hlt : j < k := by omega
      clear hj hjk
      have ht := arcP_top m j M.out.1
      have HA := Lib.hid (refDiv_c (arcP m j) m (by omega) (by have := M.out.1; omega))
      have hq : (arcP m j : Int) / (m : Int) ≤ 36028797018963968 := Int.le_trans (Int.ediv_le_self _ (by omega)) (by omega)
      have hq0 : 0 ≤ (arcP m j : Int) / (m : Int) := Int.ediv_nonneg (by omega) (by omega)
      have HB := Lib.hid (refDiv_c ((arcP m j : Int) / (m : Int)) m (by omega) (by have := M.out.1; omega))
      rw [← arcP_cast] at HB
      clear ht hq hq0
      go_wp2_with (first
        | (go_at_call 46; with_reducible refine (HA.out _).mono ?_; rintro e w1 ⟨rfl, rfl⟩)
        | (go_at_call 46; with_reducible refine (HB.out _).mono ?_; rintro e w2 ⟨rfl, rfl⟩))
      go_roundw
      case rel => exact ⟨j + 1, by omega, by go_num, rfl, trivial⟩
      case measure => simp [intOf]; omega


theorem IsT.unique {m : Nat} {xs ys : List Int} (h : IsT m xs) (k : IsT m ys) : xs = ys := by
  obtain ⟨i, _, i0, il, rfl⟩ := h
  obtain ⟨j, _, j0, jl, rfl⟩ := k
  have : i = j := by
    rcases Nat.lt_trichotomy i j with h | h | h
    · have := jl i h; omega
    · exact h
    · have := il j h; omega
  rw [this]

set_option maxHeartbeats 1000000 in
theorem refTerms_c (m : Nat) (m0 : 2 ≤ m) (m1 : m ≤ 17592186044416) (w : World) :
    Calls Try.prog 94 #[.int .i64 m] w fun e w' => ∃ v ys, e = .returned v ∧ IsT m ys ∧ IntsAt w' v ys ∧ Gr w w' := by
  obtain ⟨i0, hi, hz0, hz1, hz2⟩ := info_parts info_int
  have M := Lib.hid (And.intro m0 m1)
  clear m0 m1
  go_enter Try.func94, Try.ntmps94
  go_wp2_with fail
  have hs0 : ((w.alloc (.cells #[] 3)).ownsRow w.heap.size 3 1 (.slice (some ⟨w.heap.size, 0, none⟩) 0 0) 0 []) := World.ownsRow_made w #[] 0 (Nat.le_refl _) (by unfold maxLen; omega) (by simp)
  go_loopw [3, 4] (fun v i wr => ∃ j : Nat, j ≤ 28 ∧ i = .int .i64 j ∧ wr.ownsRow w.heap.size 3 1 v j (((List.range j).map (arcT m)).map (Value.int .i64)) ∧ (∀ i, i < j → 0 < arcP m i) ∧ Gr w wr)
    (fun _ i _ => 28 - (intOf i).toNat)
  case atStart => exact ⟨0, by omega, rfl, hs0, fun i hi => absurd hi (Nat.not_lt_zero _), (Gr.refl _).alloc _ _⟩
  case round =>
    clear hs0
    obtain ⟨j, hj, rfl, hrow, hl, hg⟩ := hrel
    have HP := Lib.hid (refP_c m j M.out.1 M.out.2 hj)
    by_cases hp : arcP m j = 0
    · rw [hp] at HP
      go_wp2_with (go_at_call 101; refine (HP.out _).mono ?_; rintro e w1 ⟨rfl, rfl⟩)
      go_ret
      exact ⟨_, _, rfl, ⟨j, hj, hp, hl, rfl⟩, IntsAt.of_row hrow, hg⟩
    · have hpos : (0 : Int) < (arcP m j : Int) := by omega
      have hj28 := arcP_live m j M.out.1 (by omega)
      have ht := arcP_top m j M.out.1
      have HD := Lib.hid (refDiv_c (arcP m j) (2 * (j : Int) + 1) (by omega) (by omega))
      have hm : (arcP m j : Int) / (2 * (j : Int) + 1) = (arcM m j : Int) := by rw [arcM, Int.natCast_ediv]; simp
      rw [hm] at HD
      have hmt := arcM_top m j M.out.1
      have hl2 : ∀ i, i < j + 1 → 0 < arcP m i := fun i hi => by
        by_cases e : i = j
        · rw [e]; omega
        · exact hl i (by omega)
      have hgs := hg.size
      clear ht hm hl hp
      by_cases ho : j % 2 = 1
      · have hT : arcT m j = -(arcM m j : Int) := by rw [arcT, if_pos ho]
        have ho' : ((j : Int) % 2 == 1) = true := by simp; omega
        have HT := Lib.hid hT
        clear hT ho
        go_wp2_with (first
          | (go_at_call 101; refine (HP.out _).mono ?_; rintro e wr ⟨rfl, rfl⟩)
          | (go_at_call 46; refine (HD.out _).mono ?_; rintro e wr ⟨rfl, rfl⟩)
          | (at_builtin; refine wpList_append_own _ rfl (.tmp 25) (.tmp 27) 22 rfl w.heap.size 3 i0 (.int .i64 0) 1 8 Try.underlying22 hi hz0 hz1 hz2 rfl (by decide) _ _ _ rfl (hrow.alloc _) ⟨wr.heap.size, 0, none⟩ 1 1 [.int .i64 (-(arcM m j : Int))] rfl rfl (cell_one_new _ _ _) (by simp [Value.oneCell']) (by unfold maxLen; omega) (by omega) (by simp; omega) ?_; intro v' w3 hown' hgrow _))
        rw [← HT.out, ← List.map_singleton (f := Value.int .i64), ← List.map_append, ← arcL_succ] at hown'
        have hg3 := (hg.allocO _).grown hgrow (fun k e => (hrow.lt k e).1)
        go_roundw
        case rel => exact ⟨j + 1, by omega, by go_num, hown', hl2, hg3⟩
        case measure => simp [intOf]; omega
      · have hT : arcT m j = (arcM m j : Int) := by rw [arcT, if_neg ho]
        have ho' : ((j : Int) % 2 == 1) = false := by simp; omega
        have HT := Lib.hid hT
        clear hT ho
        go_wp2_with (first
          | (go_at_call 101; refine (HP.out _).mono ?_; rintro e wr ⟨rfl, rfl⟩)
          | (go_at_call 46; refine (HD.out _).mono ?_; rintro e wr ⟨rfl, rfl⟩)
          | (at_builtin; refine wpList_append_own _ rfl (.tmp 25) (.tmp 27) 22 rfl w.heap.size 3 i0 (.int .i64 0) 1 8 Try.underlying22 hi hz0 hz1 hz2 rfl (by decide) _ _ _ rfl (hrow.alloc _) ⟨wr.heap.size, 0, none⟩ 1 1 [.int .i64 ((arcM m j : Int))] rfl rfl (cell_one_new _ _ _) (by simp [Value.oneCell']) (by unfold maxLen; omega) (by omega) (by simp; omega) ?_; intro v' w3 hown' hgrow _))
        rw [← HT.out, ← List.map_singleton (f := Value.int .i64), ← List.map_append, ← arcL_succ] at hown'
        have hg3 := (hg.allocO _).grown hgrow (fun k e => (hrow.lt k e).1)
        go_roundw
        case rel => exact ⟨j + 1, by omega, by go_num, hown', hl2, hg3⟩
        case measure => simp [intOf]; omega

end Go.Proofs.Ytbdglbpkbpedoaa

namespace Go.Proofs.Ytbdglbpkbpedoaa
open Go.ChangeShapes Go.WideShapes Go.ChangeAt Go.RowKit
set_option linter.unusedVariables false

theorem sumW_take {xs : List Int} {k : Nat} {x : Int} (h : xs[k]? = some x) : sumW (xs.take (k + 1)) = wrap64 (sumW (xs.take k) + x) := by
  rw [take_snoc h, sumW_snoc]

theorem IsT.ne {m : Nat} {ys : List Int} (h : IsT m ys) (m0 : 2 ≤ m) (m1 : m ≤ 17592186044416) : ys ≠ [] := by
  obtain ⟨k, hk, h0, _, rfl⟩ := h
  intro e
  have hk0 : k = 0 := by simpa using e
  rw [hk0, arcP] at h0
  have := Nat.div_pos (show m ≤ 72057594037927936 by omega) (show 0 < m by omega)
  omega

set_option maxHeartbeats 1000000 in
theorem refArc_c (m : Nat) (m0 : 2 ≤ m) (m1 : m ≤ 17592186044416) (w : World) :
    Calls Try.prog 86 #[.int .i64 m] w fun e w' => e = .returned (.int .i64 (arcOf m)) ∧ Gr w w' := by
  have HT := Lib.hid (refTerms_c m m0 m1)
  have M := Lib.hid (And.intro m0 m1)
  clear m0 m1
  go_enter Try.func86, Try.ntmps86
  go_wp2_with fail
  refine (HT.out _).mono ?_
  rintro e w1 ⟨v, ys, rfl, hT, hI, hg⟩
  have HS := Lib.hid (hT.sum M.out.1)
  have NE := Lib.hid (hT.ne M.out.1 M.out.2)
  clear hT HT
  rcases hI with ⟨rfl, rfl⟩ | ⟨b, o, cap, rfl, hl, hm, hb, hc⟩
  · exact absurd rfl NE.out
  · have HC := Lib.hid hc
    have hlen : ys.length ≤ 9223372036854775807 := by unfold maxLen at hm; omega
    clear hc hb hm hl
    go_wp2_with fail
    go_loop [3, 9] (fun s i => ∃ k : Nat, k ≤ ys.length ∧ i = .int .i64 k ∧ s = .int .i64 (sumW (ys.take k))) (fun _ i => ys.length - (intOf i).toNat)
    case atStart => exact ⟨0, Nat.zero_le _, rfl, rfl⟩
    case round =>
      obtain ⟨k, hk, rfl, rfl⟩ := hrel
      by_cases hlt : k < ys.length
      · obtain ⟨x, hx⟩ := get_of_lt hlt
        have hcx := HC.out k x hx
        have HE := Lib.hid (sumW_take hx)
        clear hx
        go_wp2_with fail
        go_round
        case rel => exact ⟨k + 1, by omega, by go_num, by rw [HE.out]⟩
        case measure => simp [intOf]; omega
      · have he : k = ys.length := by omega
        subst he
        go_wp2_with fail
        go_ret
        exact ⟨by rw [← HS.out]; rfl, hg⟩

theorem refQuarter_c (w : World) :
    Calls Try.prog 85 #[] w fun e w' => e = .returned (.int .i64 56593902016227522) ∧ Gr w w' := by
  have HA : Hid (∀ W, Calls Try.prog 86 #[.int .i64 2] W fun e w' => e = .returned (.int .i64 33409331186036029) ∧ Gr W w') := Lib.hid fun W => by
    have := refArc_c 2 (by omega) (by omega) W
    rw [arc_2] at this
    exact this
  have HB : Hid (∀ W, Calls Try.prog 86 #[.int .i64 3] W fun e w' => e = .returned (.int .i64 23184570830191493) ∧ Gr W w') := Lib.hid fun W => by
    have := refArc_c 3 (by omega) (by omega) W
    rw [arc_3] at this
    exact this
  go_enter Try.func85, Try.ntmps85
  go_wp2_with (first
    | (go_at_call 86; with_reducible refine (HA.out _).mono ?_; rintro e w1 ⟨rfl, hg1⟩)
    | (go_at_call 86; with_reducible refine (HB.out _).mono ?_; rintro e w2 ⟨rfl, hg2⟩))
  go_ret
  exact ⟨rfl, hg1.trans hg2⟩

end Go.Proofs.Ytbdglbpkbpedoaa
