/- Rows of passes that are the same; the small law that all of layer 13 call. -/
import Derived.Test.YtomjldaonpjloaaPlanCode4
namespace Go.Proofs.Ytomjldaonpjloaa
open Go.ChangeShapes Go.WideShapes Go.ChangeAt Go.RowKit
set_option linter.unusedVariables false
set_option linter.unusedSimpArgs false
set_option maxRecDepth 100000

set_option maxHeartbeats 1000000 in
theorem same13_c (u v : Value) (xs : List Gi) (w : World) (hu : CxsAt w u xs) (hv : CxsAt w v xs) :
    Calls Try.prog 12 #[u, v] w fun e w' => e = .returned (.bool true) ∧ Gr w w' := by
  by_cases hx : xs = []
  · subst hx
    obtain ⟨p, cap, rfl⟩ := hu.len
    obtain ⟨p', cap', rfl⟩ := hv.len
    rw [show ([] : List Gi).length = 0 from rfl]
    clear hu hv
    go_enter Try.func12, Try.ntmps12
    go_wp2_with fail
    go_loopw [13] (fun i wr => i = .int .i64 0 ∧ Gr w wr) (fun i _ => 0 - (intOf i).toNat)
    case atStart => exact ⟨rfl, Gr.refl _⟩
    case round =>
      obtain ⟨rfl, hg⟩ := hrel
      go_wp2_with fail
      go_ret
      exact ⟨rfl, hg⟩
  · obtain ⟨b, o, cap, rfl, hlen, hb, hc⟩ := hu.at hx
    obtain ⟨b', o', cap', rfl, _, hb', hc'⟩ := hv.at hx
    have HC := Lib.hid hc
    have HC' := Lib.hid hc'
    clear hc hc' hu hv hx
    go_enter Try.func12, Try.ntmps12
    go_wp2_with fail
    go_loopw [13] (fun i wr => ∃ k : Nat, k ≤ xs.length ∧ i = .int .i64 k ∧ Gr w wr) (fun i _ => xs.length - (intOf i).toNat)
    case atStart => exact ⟨0, Nat.zero_le _, rfl, Gr.refl _⟩
    case round =>
      obtain ⟨k, hk, rfl, hg⟩ := hrel
      by_cases hlt : k < xs.length
      · obtain ⟨x, hx⟩ := get_of_lt hlt
        have h1 := (hg.cell (p := ⟨b, o + k * 2, none⟩) hb).trans (HC.out k x hx).1
        have h2 := (hg.cell (p := ⟨b, o + k * 2 + 1, none⟩) hb).trans (HC.out k x hx).2
        have h3 := (hg.cell (p := ⟨b', o' + k * 2, none⟩) hb').trans (HC'.out k x hx).1
        have h4 := (hg.cell (p := ⟨b', o' + k * 2 + 1, none⟩) hb').trans (HC'.out k x hx).2
        clear hx
        go_wp2_with fail
        go_quiet (fail)
        go_wp2_with fail
        go_roundw
        case rel => exact ⟨k + 1, by omega, by go_num, hg.drewN _⟩
        case measure => simp [intOf]; omega
      · go_wp2_with fail
        go_ret
        exact ⟨rfl, hg⟩

set_option maxHeartbeats 1000000 in
theorem equalPass_c (u v : Value) (xs : List Gi) (w : World) (hu : CxsAt w u xs) (hv : CxsAt w v xs) :
    Calls Try.prog 16 #[u, v] w fun e w' => e = .returned (.bool true) ∧ Gr w w' := by
  by_cases hx : xs = []
  · subst hx
    obtain ⟨p, cap, rfl⟩ := hu.len
    obtain ⟨p', cap', rfl⟩ := hv.len
    rw [show ([] : List Gi).length = 0 from rfl]
    clear hu hv
    go_enter Try.func16, Try.ntmps16
    go_wp2_with fail
    go_loopw [13] (fun i wr => i = .int .i64 0 ∧ Gr w wr) (fun i _ => 0 - (intOf i).toNat)
    case atStart => exact ⟨rfl, Gr.refl _⟩
    case round =>
      obtain ⟨rfl, hg⟩ := hrel
      go_wp2_with fail
      go_ret
      exact ⟨rfl, hg⟩
  · obtain ⟨b, o, cap, rfl, hlen, hb, hc⟩ := hu.at hx
    obtain ⟨b', o', cap', rfl, _, hb', hc'⟩ := hv.at hx
    have HC := Lib.hid hc
    have HC' := Lib.hid hc'
    clear hc hc' hu hv hx
    go_enter Try.func16, Try.ntmps16
    go_wp2_with fail
    go_loopw [13] (fun i wr => ∃ k : Nat, k ≤ xs.length ∧ i = .int .i64 k ∧ Gr w wr) (fun i _ => xs.length - (intOf i).toNat)
    case atStart => exact ⟨0, Nat.zero_le _, rfl, Gr.refl _⟩
    case round =>
      obtain ⟨k, hk, rfl, hg⟩ := hrel
      by_cases hlt : k < xs.length
      · obtain ⟨x, hx⟩ := get_of_lt hlt
        have h1 := (hg.cell (p := ⟨b, o + k * 2, none⟩) hb).trans (HC.out k x hx).1
        have h2 := (hg.cell (p := ⟨b, o + k * 2 + 1, none⟩) hb).trans (HC.out k x hx).2
        have h3 := (hg.cell (p := ⟨b', o' + k * 2, none⟩) hb').trans (HC'.out k x hx).1
        have h4 := (hg.cell (p := ⟨b', o' + k * 2 + 1, none⟩) hb').trans (HC'.out k x hx).2
        clear hx
        go_wp2_with fail
        go_quiet (fail)
        go_wp2_with fail
        go_roundw
        case rel => exact ⟨k + 1, by omega, by go_num, hg.drewN _⟩
        case measure => simp [intOf]; omega
      · go_wp2_with fail
        go_ret
        exact ⟨rfl, hg⟩

theorem cxs_of_cells {W : World} {B : Nat} {t : TypeId} {xs : List Gi} (h : CellsAt W B t (gcells xs).toArray) (hl : xs.length ≤ maxLen) : CxsAt W (.slice (some ⟨B, 0, none⟩) xs.length xs.length) xs := by
  refine ⟨_, _, rfl, Nat.le_refl _, hl, fun _ => ⟨B, 0, rfl, h.lt, fun j x hj => ?_⟩⟩
  have k := gcells_at xs j x hj
  rw [Nat.zero_add, h.cell, h.cell]
  simpa using k

set_option maxHeartbeats 1000000 in
theorem alive13_c (w : World) : Calls Try.prog 10 #[] w fun e w' => e = .returned (.bool true) ∧ Gr w w' := by
  have HP := Lib.hid fun W => passes_ok 0 5 1 0 0 0 false (by decide +kernel) W
  have hl : passL 1 5 = [⟨2, 1⟩, ⟨4, 2⟩, ⟨4, 8⟩] := by kernel_rfl
  rw [hl] at HP
  go_enter Try.func10, Try.ntmps10
  go_wp2_with fail
  refine (HP.out _).mono ?_
  rintro e w1 ⟨v, rfl, hv, g1⟩
  obtain ⟨p, cap, rfl⟩ := hv.len
  go_wp2_with fail
  obtain ⟨u1, hu⟩ : ∃ uu, uu = w1.alloc (.cells #[.int .i64 2, .int .i64 1, .int .i64 4, .int .i64 2, .int .i64 4, .int .i64 8] 36) := ⟨_, rfl⟩
  have R1 : CellsAt u1 w1.heap.size 36 (gcells [⟨2, 1⟩, ⟨4, 2⟩, ⟨4, 8⟩]).toArray := by rw [hu]; exact CellsAt.new w1 36 _
  have g2 : Gr w1 u1 := by rw [hu]; exact (Gr.refl w1).alloc _ _
  rw [← hu]
  clear hu
  refine (same13_c _ _ [⟨2, 1⟩, ⟨4, 2⟩, ⟨4, 8⟩] u1 (hv.gr g2) (cxs_of_cells R1 (by unfold maxLen; simp))).mono ?_
  rintro e w2 ⟨rfl, g3⟩
  go_wp2_with fail
  go_ret
  exact ⟨rfl, (g1.trans g2).trans g3⟩
end Go.Proofs.Ytomjldaonpjloaa
