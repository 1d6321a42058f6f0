/- What reference 5's functions answer. -/
import Derived.Test.YtkbnhoapfjkajaaRef04b
import Derived.Test.YtkbnhoapfjkajaaRot7
namespace Go.Proofs.Ytkbnhoapfjkajaa
open Go.ChangeShapes Go.WideShapes Go.ChangeAt Go.RowKit
set_option linter.unusedVariables false

/-- The steps' angles, in order. -/
def angL : List Int := (List.range 45).map (fun j => (ang j : Int))
theorem angL_len : angL.length = 45 := by decide +kernel
theorem angL_at (j : Nat) (h : j < 45) : angL[j]? = some (ang j : Int) := by
  unfold angL
  rw [List.getElem?_map, List.getElem?_range h]; rfl

theorem pow2_c (j : Nat) (h : j ≤ 62) (w : World) : Calls Try.prog 28 #[.int .i64 j] w fun e w' => e = .returned (.int .i64 ((2 ^ j : Nat) : Int)) ∧ w' = w := by
  have := pow_c j (by omega) (by omega) w
  rw [Int.toNat_natCast] at this
  refine this.mono ?_
  rintro e w' ⟨he, hw⟩
  exact ⟨by rw [he]; congr 2, hw⟩

theorem angle05_c (j : Nat) (h : j < 45) (w : World) :
    Calls Try.prog 50 #[.int .i64 j] w fun e w' => e = .returned (.int .i64 (ang j)) ∧ Gr w w' := by
  by_cases h0 : j = 0
  · subst h0
    have HQ := Lib.hid refQuarter_c
    have e : ((ang 0 : Nat) : Int) = 56593902016227522 := by decide +kernel
    rw [e, show ((0 : Nat) : Int) = 0 from rfl]
    clear e h
    go_enter Try.func50, Try.ntmps50
    go_wp2_with (go_at_call 62; refine (HQ.out _).mono ?_; rintro e w1 ⟨rfl, hg1⟩)
    go_ret
    exact ⟨rfl, hg1⟩
  · have e : ang j = arcOf (2 ^ j) := by unfold ang; rw [if_neg h0]
    have p0 : 2 ≤ 2 ^ j := by
      have := Nat.pow_le_pow_right (show 0 < 2 by decide) (show 1 ≤ j by omega)
      omega
    have p1 : 2 ^ j ≤ 17592186044416 := by
      have := Nat.pow_le_pow_right (show 0 < 2 by decide) (show j ≤ 44 by omega)
      omega
    have HP := Lib.hid (pow2_c j (by omega))
    have HA := Lib.hid (refArc_c (2 ^ j) p0 p1)
    rw [← e] at HA
    have hz : ((j : Int) == 0) = false := by simp; omega
    generalize 2 ^ j = p at *
    clear e p0 p1 h0 h
    go_enter Try.func50, Try.ntmps50
    go_wp2_with (first
      | (go_at_call 28; refine (HP.out _).mono ?_; rintro e w1 ⟨rfl, rfl⟩)
      | (go_at_call 63; refine (HA.out _).mono ?_; rintro e w2 ⟨rfl, hg2⟩))
    go_ret
    exact ⟨rfl, hg2⟩

set_option maxRecDepth 10000 in set_option maxHeartbeats 1000000 in
theorem angles05_row (w : World) :
    Calls Try.prog 40 #[] w fun e w' => ∃ v, e = .returned v ∧ w'.ownsRow w.heap.size 3 1 v 45 (angL.map (Value.int .i64)) ∧ Gr w w' := by
  obtain ⟨i0, hi, hz0, hz1, hz2⟩ := info_parts info_int
  go_enter Try.func40, Try.ntmps40
  go_wp2_with fail
  have hs0 : ((w.alloc (.cells #[] 3)).ownsRow w.heap.size 3 1 (.slice (some ⟨w.heap.size, 0, none⟩) 0 0) 0 []) := World.ownsRow_made w #[] 0 (Nat.le_refl _) (by unfold maxLen; omega) (by simp)
  go_loopw [1, 2] (fun v i wr => ∃ j : Nat, j ≤ 45 ∧ i = .int .i64 j ∧ wr.ownsRow w.heap.size 3 1 v j (((List.range j).map (fun j => (ang j : Int))).map (Value.int .i64)) ∧ Gr w wr)
    (fun _ i _ => 45 - (intOf i).toNat)
  case atStart => exact ⟨0, by omega, rfl, hs0, (Gr.refl _).alloc _ _⟩
  case round =>
    clear hs0
    obtain ⟨j, hj, rfl, hrow, hg⟩ := hrel
    by_cases hlt : j < 45
    · have HA := Lib.hid (angle05_c j hlt)
      go_wp2_with fail
      refine (HA.out _).mono ?_
      rintro e wq ⟨rfl, hgq⟩
      have hrow2 := ownsRow_gr hrow hgq
      have hsz := hg.size
      have hsq := hgq.size
      have hg2 := hg.trans hgq
      clear hrow hg hgq HA
      go_wp2_with (at_builtin; refine wpList_append_own _ rfl (.tmp 8) (.tmp 11) 45 rfl w.heap.size 3 i0 (.int .i64 0) 1 8 Try.underlying45 hi hz0 hz1 hz2 rfl (by decide) _ _ _ rfl (hrow2.alloc _) ⟨wq.heap.size, 0, none⟩ 1 1 [.int .i64 (ang j)] rfl rfl (cell_one_new _ _ _) (by simp [Value.oneCell']) (by unfold maxLen; omega) (by omega) (by simp; omega) ?_; intro v' w3 hown' hgrow _)
      have e : ((List.range j).map (fun j => (ang j : Int))).map (Value.int .i64) ++ [.int .i64 (ang j)] = ((List.range (j + 1)).map (fun j => (ang j : Int))).map (Value.int .i64) := by
        rw [List.range_succ, List.map_append, List.map_append]; rfl
      rw [e] at hown'
      have hg3 := (hg2.allocO _).grown hgrow (fun k e => (hrow2.lt k e).1)
      go_roundw
      case rel => exact ⟨j + 1, by omega, by go_num, hown', hg3⟩
      case measure => simp [intOf]; omega
    · have he : j = 45 := by omega
      subst he
      go_wp2_with fail
      go_ret
      exact ⟨_, rfl, hrow, hg⟩

theorem angles05_c (w : World) :
    Calls Try.prog 40 #[] w fun e w' => ∃ v, e = .returned v ∧ IntsAt w' v angL ∧ Gr w w' :=
  (angles05_row w).mono fun _ _ ⟨v, he, hr, hg⟩ => ⟨v, he, IntsAt.of_row hr, hg⟩


theorem floor05 (x : Int) (j : Nat) (h : j ≤ 62) (wx : -9223372036854775808 ≤ x ∧ x ≤ 9223372036854775807) (w : World) :
    Calls Try.prog 59 #[.int .i64 x, .int .i64 j] w fun e w' => e = .returned (.int .i64 (x / 2 ^ j)) ∧ w' = w := by
  have := floor_c x j wx (by omega) (by omega) w
  rwa [Int.toNat_natCast] at this

/-- A turn's value. -/
def TV (s : Tn) : Value := .agg #[.int .i64 s.re, .int .i64 s.im, .int .i64 s.left]

theorem step05_c (j : Nat) (re im left : Int) (hj : j ≤ 62) (h1 : re.natAbs ≤ 1152921504606846976) (h2 : im.natAbs ≤ 1152921504606846976) (h3 : left.natAbs ≤ 288230376151711744) (h4 : ang j ≤ 144115188075855872) (w : World) :
    Calls Try.prog 72 #[.agg #[.int .i64 re, .int .i64 im, .int .i64 left], .int .i64 j, .int .i64 (ang j)] w fun e w' => e = .returned (TV (tstep j ⟨re, im, left⟩)) ∧ Gr w w' := by
  have HA := Lib.hid (floor05 re j hj (by omega))
  have HB := Lib.hid (floor05 im j hj (by omega))
  have fa := fl_abs re j
  have fb := fl_abs im j
  have ga : re.natAbs / 2 ^ j ≤ re.natAbs := Nat.div_le_self _ _
  have gb : im.natAbs / 2 ^ j ≤ im.natAbs := Nat.div_le_self _ _
  have ba : -1152921504606846977 ≤ re / 2 ^ j ∧ re / 2 ^ j ≤ 1152921504606846977 := by omega
  have bb : -1152921504606846977 ≤ im / 2 ^ j ∧ im / 2 ^ j ≤ 1152921504606846977 := by omega
  have bc : -1152921504606846977 ≤ re ∧ re ≤ 1152921504606846977 := by omega
  have bd : -1152921504606846977 ≤ im ∧ im ≤ 1152921504606846977 := by omega
  have be : -288230376151711744 ≤ left ∧ left ≤ 288230376151711744 := by omega
  have bf : ((ang j : Nat) : Int) ≤ 144115188075855872 := by omega
  by_cases hl : 0 ≤ left
  · have ET : TV (tstep j ⟨re, im, left⟩) = .agg #[.int .i64 (re - im / 2 ^ j), .int .i64 (im + re / 2 ^ j), .int .i64 (left - ang j)] := by rw [tstep, if_pos (show 0 ≤ left from hl)]; rfl
    rw [ET]
    generalize re / 2 ^ j = a at *
    generalize im / 2 ^ j = b at *
    clear fa fb ga gb h1 h2 h3 h4 hj ET
    go_enter Try.func72, Try.ntmps72
    go_wp2_with (first
      | (go_at_call 59; with_reducible refine (HA.out _).mono ?_; rintro e w1 ⟨rfl, rfl⟩)
      | (go_at_call 59; with_reducible refine (HB.out _).mono ?_; rintro e w2 ⟨rfl, rfl⟩))
    refine bodyPost_ret (v := .agg #[.int .i64 (re - b), .int .i64 (im + a), .int .i64 (left - ang j)]) ?_ rfl ⟨rfl, ?_⟩
    · simp [results, Try.f72, go_sem]
    · exact ((Gr.refl w).alloc _ _).alloc _ _
  · have hl2 : left < 0 := by omega
    have ET : TV (tstep j ⟨re, im, left⟩) = .agg #[.int .i64 (re + im / 2 ^ j), .int .i64 (im - re / 2 ^ j), .int .i64 (left + ang j)] := by rw [tstep, if_neg (show ¬ 0 ≤ left from hl)]; rfl
    rw [ET]
    generalize re / 2 ^ j = a at *
    generalize im / 2 ^ j = b at *
    clear fa fb ga gb h1 h2 h3 h4 hj ET
    go_enter Try.func72, Try.ntmps72
    go_wp2_with (first
      | (go_at_call 59; with_reducible refine (HA.out _).mono ?_; rintro e w1 ⟨rfl, rfl⟩)
      | (go_at_call 59; with_reducible refine (HB.out _).mono ?_; rintro e w2 ⟨rfl, rfl⟩))
    refine bodyPost_ret (v := .agg #[.int .i64 (re + b), .int .i64 (im - a), .int .i64 (left + ang j)]) ?_ rfl ⟨rfl, ?_⟩
    · simp [results, Try.f72, go_sem]
    · exact ((Gr.refl w).alloc _ _).alloc _ _

end Go.Proofs.Ytkbnhoapfjkajaa
