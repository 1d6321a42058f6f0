/- What reference 8's Row and Flip answer. -/
import Derived.Test.YteajjgegfpibkaaRef08
import Derived.Test.YteajjgegfpibkaaFlipRow
namespace Go.Proofs.Yteajjgegfpibkaa
open Go.ChangeShapes Go.WideShapes Go.ChangeAt Go.RowKit
set_option linter.unusedVariables false

set_option maxRecDepth 10000 in set_option maxHeartbeats 2000000 in
theorem rrow08_c (L : Nat) (l0 : 2 ≤ L) (l1 : L ≤ 6) (w : World) :
    Calls Try.prog 14 #[.int .i64 L] w fun e w' => ∃ v, e = .returned v ∧ IntsAt w' v (rowL L) ∧ Gr w w' := by
  obtain ⟨i0, hi, hz0, hz1, hz2⟩ := info_parts info_int
  have h64 := pow_le L l1
  have HP := Lib.hid (pow08_c L ((2 ^ L : Nat) : Int) (by simp) (by omega) (by omega))
  have HB := Lib.hid fun k (hk : k < 64) => rbits08_c k L l1 hk
  have HR : rowL L = (List.range (2 ^ L)).map (fun k => ((fl L k : Nat) : Int)) := rfl
  rw [HR]
  clear HR
  generalize 2 ^ L = n at *
  go_enter Try.func14, Try.ntmps14
  go_wp2_with fail
  have hs0 : ((w.alloc (.cells #[] 3)).ownsRow w.heap.size 3 1 (.slice (some ⟨w.heap.size, 0, none⟩) 0 0) 0 []) := World.ownsRow_made w #[] 0 (Nat.le_refl _) (by unfold maxLen; omega) (by simp)
  go_loopw [3, 4] (fun v i wr => ∃ j : Nat, j ≤ n ∧ i = .int .i64 j ∧ wr.ownsRow w.heap.size 3 1 v j (((List.range j).map (fun k => ((fl L k : Nat) : Int))).map (Value.int .i64)) ∧ Gr w wr)
    (fun _ i _ => n - (intOf i).toNat)
  case atStart => exact ⟨0, by omega, rfl, hs0, (Gr.refl _).alloc _ _⟩
  case round =>
    clear hs0
    obtain ⟨j, hj, rfl, hrow, hg⟩ := hrel
    by_cases hlt : j < n
    · have HB1 := Lib.hid (HB.out j (by omega))
      have er : (List.range (j + 1)).map (fun k => ((fl L k : Nat) : Int)) = (List.range j).map (fun k => ((fl L k : Nat) : Int)) ++ [((fl L j : Nat) : Int)] := by rw [List.range_succ, List.map_append]; rfl
      have ER := Lib.hid er
      clear er HB
      generalize fl L j = f at *
      have hgs := hg.size
      have hin : (j : Int) < n := by omega
      go_wp2_with (first
        | (go_at_call 21; refine (HP.out _).mono ?_; rintro e wr ⟨rfl, rfl⟩)
        | (go_at_call 10; refine (HB1.out _).mono ?_; rintro e wr ⟨rfl, rfl⟩)
        | (at_builtin; refine wpList_append_own _ rfl (.tmp 12) (.tmp 16) 25 rfl w.heap.size 3 i0 (.int .i64 0) 1 8 Try.underlying25 hi hz0 hz1 hz2 rfl (by decide) _ _ _ rfl (hrow.alloc _) ⟨wr.heap.size, 0, none⟩ 1 1 [.int .i64 (f : Int)] rfl rfl (cell_one_new _ _ _) (by simp [Value.oneCell']) (by unfold maxLen; omega) (by omega) (by simp; omega) ?_; intro v' w3 hown' hgrow _))
      rw [← List.map_singleton (f := Value.int .i64), ← List.map_append, ← ER.out] at hown'
      have hg3 := (hg.allocO _).grown hgrow (fun k e => (hrow.lt k e).1)
      go_roundw
      case rel => exact ⟨j + 1, by omega, by go_num, hown', hg3⟩
      case measure => simp [intOf]; omega
    · have he : j = n := by omega
      subst he
      have hin : ¬ (j : Int) < j := by omega
      go_wp2_with (go_at_call 21; refine (HP.out _).mono ?_; rintro e wr ⟨rfl, rfl⟩)
      go_ret
      exact ⟨_, rfl, IntsAt.of_row hrow, hg⟩

set_option maxRecDepth 10000 in set_option maxHeartbeats 2000000 in
theorem rflip08_c (v : Value) (xs : List Gi) (L : Nat) (l0 : 2 ≤ L) (l1 : L ≤ 6) (hl : xs.length = 2 ^ L) (w : World) (hv : CxsAt w v xs) :
    Calls Try.prog 18 #[v] w fun e w' => ∃ v', e = .returned v' ∧ CxsAt w' v' (flipL L xs) ∧ Gr w w' := by
  obtain ⟨i0, hi, hz0, hz1, hz2⟩ := info_parts info_cx
  have h64 := pow_le L l1
  have h4 : 4 ≤ 2 ^ L := Nat.pow_le_pow_right (n := 2) (by omega) l0
  obtain ⟨b, o, cap, rfl, hlen, hb, hc⟩ := hv.at (by intro e; rw [e] at hl; simp at hl; omega)
  have HG := Lib.hid (rlog08_yes ((2 ^ L : Nat) : Int) L ⟨l0, l1, rfl⟩)
  have HB := Lib.hid fun k (hk : k < 64) => rbits08_c k L l1 hk
  have HR : flipL L xs = (List.range (2 ^ L)).map (fun k => xs.getD (fl L k) gi0) := rfl
  have HFl := Lib.hid (fl_lt L)
  have HC := Lib.hid fun j (hj : j < 2 ^ L) => hc j (xs.getD j gi0) (by rw [List.getD_eq_getElem?_getD, List.getElem?_eq_getElem (by omega)]; rfl)
  rw [HR, hl]
  clear HR hc hl hv
  generalize 2 ^ L = n at *
  go_enter Try.func18, Try.ntmps18
  go_wp2_with fail
  have hs0 : ((w.alloc (.cells #[] 45)).ownsRow w.heap.size 45 2 (.slice (some ⟨w.heap.size, 0, none⟩) 0 0) 0 []) := World.ownsRow_made w #[] 0 (Nat.le_refl _) (by unfold maxLen; omega) (by simp)
  go_loopw [3, 4, 8] (fun v _ i wr => ∃ j : Nat, j ≤ n ∧ i = .int .i64 j ∧ wr.ownsRow w.heap.size 45 2 v j (gcells ((List.range j).map (fun k => xs.getD (fl L k) gi0))) ∧ Gr w wr)
    (fun _ _ i _ => n - (intOf i).toNat)
  case atStart => exact ⟨0, by omega, rfl, hs0, (Gr.refl _).alloc _ _⟩
  case round =>
    clear hs0
    obtain ⟨j, hj, rfl, hrow, hg⟩ := hrel
    by_cases hlt : j < n
    · have HB1 := Lib.hid (HB.out j (by omega))
      have er : (List.range (j + 1)).map (fun k => xs.getD (fl L k) gi0) = (List.range j).map (fun k => xs.getD (fl L k) gi0) ++ [xs.getD (fl L j) gi0] := by rw [List.range_succ, List.map_append]; rfl
      have ER := Lib.hid er
      have hf := HFl.out j
      have hcf := HC.out _ hf
      have c0 := (hg.cell (p := ⟨b, o + fl L j * 2, none⟩) hb).trans hcf.1
      have c1 := (hg.cell (p := ⟨b, o + fl L j * 2 + 1, none⟩) hb).trans hcf.2
      clear er HB HC hcf HFl
      generalize xs.getD (fl L j) gi0 = g at *
      generalize fl L j = f at *
      obtain ⟨re, im⟩ := g
      simp only at c0 c1
      have hgs := hg.size
      have hi1 : (f : Int) < n := by omega
      have hbl : b < wr.heap.size := Nat.lt_of_lt_of_le hb hgs
      go_wp2_with (first
        | (go_at_call 15; refine (HG.out _).mono ?_; rintro e wr ⟨rfl, rfl⟩)
        | (go_at_call 10; refine (HB1.out _).mono ?_; rintro e wr ⟨rfl, rfl⟩)
        | (at_builtin; refine wpList_append_own_at _ rfl (.tmp 11) (.tmp 20) 37 rfl w.heap.size 45 i0 (.agg #[.int .i64 0, .int .i64 0]) 2 16 Try.underlying37 hi hz0 hz1 hz2 rfl (by decide) _ _ _ rfl (hrow.alloc _) ⟨wr.heap.size, 0, none⟩ 1 1 [.int .i64 re, .int .i64 im] rfl rfl (news_two _ _ _ _) (by simp [Value.oneCell']) (by unfold maxLen; omega) (by omega) (by simp; omega) ?_; intro v' w3 hown' hgrow _ hblk))
      have e : gcells ((List.range j).map (fun k => xs.getD (fl L k) gi0)) ++ [.int .i64 re, .int .i64 im] = gcells ((List.range (j + 1)).map (fun k => xs.getD (fl L k) gi0)) := by
        rw [ER.out, gcells_snoc]
      rw [e] at hown'
      have hg3 := (hg.allocO _).grown hgrow (fun k e => (hrow.lt k e).1)
      go_roundw
      case rel => exact ⟨j + 1, by omega, by go_num, hown', hg3⟩
      case measure => simp [intOf]; omega
    · have he : j = n := by omega
      subst he
      go_wp2_with fail
      go_ret
      exact ⟨_, rfl, CxsAt.of_row hrow, hg⟩

end Go.Proofs.Yteajjgegfpibkaa
