/- Package arc: what Arc, Quarter and Terms answer. -/
import Derived.Test.YtkbnhoapfjkajaaArc
import Derived.Test.YtkbnhoapfjkajaaInts
namespace Go.Proofs.Ytkbnhoapfjkajaa
open Go.ChangeShapes Go.WideShapes Go.ChangeAt Go.RowKit Go.Shelf
set_option linter.unusedVariables false
attribute [local go_sem] wide_fn Oper.semAt_some

theorem arc_ok (m : Nat) (m0 : 2 ≤ m) (m1 : m ≤ 17592186044416) (w : World) :
    Calls Try.prog 90 #[.int .i64 m] w fun e w' => e = .returned (.tuple #[.int .i64 (arcOf m), .int .i64 0]) ∧ Gr w w' := by
  have HH := Lib.hid (hasArc_yes m (by omega) (by omega))
  have HT := Lib.hid (terms_c m)
  have HS := Lib.hid fun W => sum_c W.heap.size m m0 m1 (W.alloc (.cells #[.int .i64 m] 3)) (Boxed.new W _ _)
  clear m0 m1
  go_enter Try.func90, Try.ntmps90
  go_wp2_with (first
    | (go_at_call 91; refine (HH.out _).mono ?_; rintro e w1 ⟨rfl, rfl⟩)
    | (go_at_call 76; refine (HT.out _).mono ?_; rintro e w2 ⟨rfl, rfl⟩)
    | (go_at_call 75; refine (HS.out _).mono ?_; rintro e w3 ⟨rfl, hg⟩))
  go_ret2
  exact ⟨rfl, Gr.trans ((Gr.refl _).alloc _ _) hg⟩

theorem arc_bad (x : Int) (h : x < 2 ∨ 17592186044416 < x) (w : World) :
    Calls Try.prog 90 #[.int .i64 x] w fun e w' => e = .returned (.tuple #[.int .i64 0, .int .i64 1]) ∧ Gr w w' := by
  have HH := Lib.hid (hasArc_no x h)
  clear h
  go_enter Try.func90, Try.ntmps90
  go_wp2_with (go_at_call 91; refine (HH.out _).mono ?_; rintro e w1 ⟨rfl, rfl⟩)
  go_ret2
  exact ⟨rfl, Gr.refl _⟩

theorem arc_2 : arcOf 2 = 33409331186036029 := by decide +kernel
theorem arc_3 : arcOf 3 = 23184570830191493 := by decide +kernel
theorem arc_5 : arcOf 5 = 14223849116552215 := by decide +kernel
theorem arc_239 : arcOf 239 = 301494449981337 := by decide +kernel

theorem quarter_c (w : World) :
    Calls Try.prog 66 #[] w fun e w' => e = .returned (.int .i64 56593902016227522) ∧ Gr w w' := by
  have HT2 := Lib.hid (terms_c 2)
  have HT3 := Lib.hid (terms_c 3)
  have HS2 := Lib.hid fun W => sum_c W.heap.size 2 (by omega) (by omega) (W.alloc (.cells #[.int .i64 2] 3)) (Boxed.new W _ _)
  have HS3 := Lib.hid fun W => sum_c W.heap.size 3 (by omega) (by omega) (W.alloc (.cells #[.int .i64 3] 3)) (Boxed.new W _ _)
  rw [arc_2] at HS2
  rw [arc_3] at HS3
  go_enter Try.func66, Try.ntmps66
  go_wp2_with (first
    | (go_at_call 76; with_reducible refine (HT2.out _).mono ?_; rintro e w1 ⟨rfl, rfl⟩)
    | (go_at_call 75; with_reducible refine (HS2.out _).mono ?_; rintro e w2 ⟨rfl, hg2⟩; clear HS2 HT2)
    | (go_at_call 76; with_reducible refine (HT3.out _).mono ?_; rintro e w3 ⟨rfl, rfl⟩)
    | (go_at_call 75; with_reducible refine (HS3.out _).mono ?_; rintro e w4 ⟨rfl, hg4⟩))
  go_ret
  exact ⟨rfl, (Gr.trans ((Gr.refl _).alloc _ _) hg2).trans (Gr.trans ((Gr.refl _).alloc _ _) hg4)⟩

theorem info_int : (Try.prog.info? 3).map (fun i => (i.zero, i.size, i.bytes)) = some (some (.int .i64 0), 1, 8) := by kernel_rfl

end Go.Proofs.Ytkbnhoapfjkajaa
