/- A bin of four numbers answers. -/
import Derived.Test.YtpkkokcidbcopaaDftCode3
import Derived.Test.YtpkkokcidbcopaaCxEq
namespace Go.Proofs.Ytpkkokcidbcopaa
open Go.ChangeShapes Go.WideShapes Go.ChangeAt Go.RowKit
set_option linter.unusedVariables false
set_option linter.unusedSimpArgs false
set_option maxRecDepth 100000

set_option maxHeartbeats 1000000 in
theorem alive16_of (BB : Nat) (HB : Hid (∀ W, CxsAt W (.slice (some ⟨BB, 0, none⟩) 4 4) [⟨1, 0⟩, ⟨2, 0⟩, ⟨3, 0⟩, ⟨4, 0⟩] → Calls Try.prog 5 #[.slice (some ⟨BB, 0, none⟩) 4 4, .int .i64 1, .bool false] W fun e w' => e = .returned (.tuple #[.agg #[.int .i64 (-512), .int .i64 512], .int .i64 0]) ∧ Gr W w')) (w : World) (hBB : w.heap.size = BB) :
    Calls Try.prog 6 #[] w fun e w' => e = .returned (.bool true) ∧ Gr w w' := by
  have he := fun W => cx_equal (-512) 512 W
  go_enter Try.func6, Try.ntmps6
  go_wp2_with fail
  obtain ⟨u1, hu⟩ : ∃ uu, uu = w.alloc (.cells #[.int .i64 1, .int .i64 0, .int .i64 2, .int .i64 0, .int .i64 3, .int .i64 0, .int .i64 4, .int .i64 0] 24) := ⟨_, rfl⟩
  have N1 : CxsAt u1 (.slice (some ⟨w.heap.size, 0, none⟩) 4 4) [⟨1, 0⟩, ⟨2, 0⟩, ⟨3, 0⟩, ⟨4, 0⟩] := by
    rw [hu]
    exact cxs_cells (xs := [⟨1, 0⟩, ⟨2, 0⟩, ⟨3, 0⟩, ⟨4, 0⟩]) (CellsAt.new w 24 #[.int .i64 1, .int .i64 0, .int .i64 2, .int .i64 0, .int .i64 3, .int .i64 0, .int .i64 4, .int .i64 0]) (by unfold maxLen; simp)
  have g1 : Gr w u1 := by rw [hu]; exact (Gr.refl w).alloc _ _
  rw [← hu]
  clear hu
  rw [hBB] at N1
  refine (HB.out _ N1).mono ?_
  rintro e w2 ⟨rfl, g2⟩
  go_wp2_with fail
  go_ret
  exact ⟨by first | rfl | (simp; done), (g1.trans g2).alloc _ _⟩
theorem bin_alive : binG 4 [⟨1, 0⟩, ⟨2, 0⟩, ⟨3, 0⟩, ⟨4, 0⟩] false ((1 : Int) % ((4 : Nat) : Int)).toNat = ⟨-512, 512⟩ := Gi.ext2 (by decide +kernel) (by decide +kernel)
theorem alive16_c (w : World) : Calls Try.prog 6 #[] w fun e w' => e = .returned (.bool true) ∧ Gr w w' := by
  refine alive16_of w.heap.size (Lib.hid fun W hW => ?_) w rfl
  have h := dBin_yes 4 2 ⟨by decide, by decide, rfl⟩ 1 false (some ⟨w.heap.size, 0, none⟩) 4 [⟨1, 0⟩, ⟨2, 0⟩, ⟨3, 0⟩, ⟨4, 0⟩] rfl (by decide) W hW
  rw [bin_alive] at h
  exact h

end Go.Proofs.Ytpkkokcidbcopaa
