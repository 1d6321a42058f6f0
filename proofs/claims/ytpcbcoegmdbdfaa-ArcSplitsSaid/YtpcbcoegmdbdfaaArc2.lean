/- Package arc: what Arc, Quarter and Terms answer. -/
import Derived.Test.YtpcbcoegmdbdfaaArc
import Derived.Test.YtpcbcoegmdbdfaaInts
namespace Go.Proofs.Ytpcbcoegmdbdfaa
open Go.ChangeShapes Go.WideShapes Go.ChangeAt Go.RowKit Go.Shelf
set_option linter.unusedVariables false
attribute [local go_sem] wide_fn Oper.semAt_some

theorem arc_ok (m : Nat) (m0 : 2 ≤ m) (m1 : m ≤ 17592186044416) (w : World) :
    Calls Try.prog 6 #[.int .i64 m] w fun e w' => e = .returned (.tuple #[.int .i64 (arcOf m), .int .i64 0]) ∧ Gr w w' := by
  have HH := Lib.hid (hasArc_yes m (by omega) (by omega))
  have HT := Lib.hid (terms_c m)
  have HS := Lib.hid fun W => sum_c W.heap.size m m0 m1 (W.alloc (.cells #[.int .i64 m] 3)) (Boxed.new W _ _)
  clear m0 m1
  go_enter Try.func6, Try.ntmps6
  go_wp2_with (first
    | (go_at_call 16; refine (HH.out _).mono ?_; rintro e w1 ⟨rfl, rfl⟩)
    | (go_at_call 18; refine (HT.out _).mono ?_; rintro e w2 ⟨rfl, rfl⟩)
    | (go_at_call 17; refine (HS.out _).mono ?_; rintro e w3 ⟨rfl, hg⟩))
  go_ret2
  exact ⟨rfl, Gr.trans ((Gr.refl _).alloc _ _) hg⟩

theorem arc_bad (x : Int) (h : x < 2 ∨ 17592186044416 < x) (w : World) :
    Calls Try.prog 6 #[.int .i64 x] w fun e w' => e = .returned (.tuple #[.int .i64 0, .int .i64 1]) ∧ Gr w w' := by
  have HH := Lib.hid (hasArc_no x h)
  clear h
  go_enter Try.func6, Try.ntmps6
  go_wp2_with (go_at_call 16; refine (HH.out _).mono ?_; rintro e w1 ⟨rfl, rfl⟩)
  go_ret2
  exact ⟨rfl, Gr.refl _⟩

theorem arc_2 : arcOf 2 = 33409331186036029 := by decide +kernel
theorem arc_3 : arcOf 3 = 23184570830191493 := by decide +kernel
theorem arc_5 : arcOf 5 = 14223849116552215 := by decide +kernel
theorem arc_239 : arcOf 239 = 301494449981337 := by decide +kernel

theorem quarter_c (w : World) :
    Calls Try.prog 8 #[] w fun e w' => e = .returned (.int .i64 56593902016227522) ∧ Gr w w' := by
  have HT2 := Lib.hid (terms_c 2)
  have HT3 := Lib.hid (terms_c 3)
  have HS2 := Lib.hid fun W => sum_c W.heap.size 2 (by omega) (by omega) (W.alloc (.cells #[.int .i64 2] 3)) (Boxed.new W _ _)
  have HS3 := Lib.hid fun W => sum_c W.heap.size 3 (by omega) (by omega) (W.alloc (.cells #[.int .i64 3] 3)) (Boxed.new W _ _)
  rw [arc_2] at HS2
  rw [arc_3] at HS3
  go_enter Try.func8, Try.ntmps8
  go_wp2_with (first
    | (go_at_call 18; with_reducible refine (HT2.out _).mono ?_; rintro e w1 ⟨rfl, rfl⟩)
    | (go_at_call 17; with_reducible refine (HS2.out _).mono ?_; rintro e w2 ⟨rfl, hg2⟩; clear HS2 HT2)
    | (go_at_call 18; with_reducible refine (HT3.out _).mono ?_; rintro e w3 ⟨rfl, rfl⟩)
    | (go_at_call 17; with_reducible refine (HS3.out _).mono ?_; rintro e w4 ⟨rfl, hg4⟩))
  go_ret
  exact ⟨rfl, (Gr.trans ((Gr.refl _).alloc _ _) hg2).trans (Gr.trans ((Gr.refl _).alloc _ _) hg4)⟩

theorem info_int : (Try.prog.info? 3).map (fun i => (i.zero, i.size, i.bytes)) = some (some (.int .i64 0), 1, 8) := by kernel_rfl

theorem terms_bad (x : Int) (h : x < 2 ∨ 17592186044416 < x) (w : World) :
    Calls Try.prog 7 #[.int .i64 x] w fun e w' => e = .returned (.tuple #[.slice none 0 0, .int .i64 1]) ∧ Gr w w' := by
  have HH := Lib.hid (hasArc_no x h)
  clear h
  go_enter Try.func7, Try.ntmps7
  go_wp2_with (go_at_call 16; refine (HH.out _).mono ?_; rintro e w1 ⟨rfl, rfl⟩)
  go_ret2
  exact ⟨rfl, Gr.refl _⟩

set_option maxRecDepth 100000 in
set_option maxHeartbeats 2000000 in
theorem terms_ok (m : Nat) (m0 : 2 ≤ m) (m1 : m ≤ 17592186044416) (w : World) :
    Calls Try.prog 7 #[.int .i64 m] w fun e w' => ∃ v ys, e = .returned (.tuple #[v, .int .i64 0]) ∧ IsT m ys ∧ IntsAt w' v ys ∧ Gr w w' := by
  have HH := Lib.hid (hasArc_yes m (by omega) (by omega))
  have HT := Lib.hid (terms_c m)
  obtain ⟨i0, hi, hz0, hz1, hz2⟩ := info_parts info_int
  refine (callsIn_wide (n := 5)).1 ?_
  refine callsIn_of_wp_marks Try.func7 rfl trivial ?_ rfl
  simp only [Try.ntmps7, List.size_toArray, List.length_cons, List.length_nil, Nat.reduceAdd, Nat.reduceSub, Array.replicate_succ, Array.replicate_zero, List.push_toArray, List.append_toArray, List.nil_append, List.cons_append]
  have M := Lib.hid (And.intro m0 m1)
  clear m0 m1
  gi_wp2_with (first
    | (gi_at_call 16; refine (callsIn_wide.2 (HH.out _)).mono ?_; rintro e w1 ⟨rfl, rfl⟩)
    | (gi_at_call 18; refine (callsIn_wide.2 (HT.out _)).mono ?_; rintro e w2 ⟨rfl, rfl⟩))
  have bO := Boxed.new w1 25 (.slice none 0 0)
  have bN := Boxed.new (w1.alloc (.cells #[.slice none 0 0] 25)) 3 (.int .i64 m)
  rw [World.size_alloc] at bN
  have hB0 : Below w1.heap.size w1 ((w1.alloc (.cells #[.slice none 0 0] 25)).alloc (.cells #[.int .i64 m] 3)) := ((Below.refl _ w1).alloc (Nat.le_refl _) _).alloc (by simp) _
  refine wpIn_rangeFunc_ownF rfl (by omega) (gf := 22) (lb := #[.pointer (some ⟨w1.heap.size + 1, 0, none⟩)]) rfl trivial (enters_of Try.func22 (by kernel_rfl) rfl)
    (terms_stops 4 (by omega) (w1.heap.size + 1) m M.out.1 M.out.2 _ bN) (fun h k => k.trans h)
    (fun W l o o' hl h _ _ => World.putObj_heap_other (fun e => by simp at hl; omega)) (Below.refl _ _) (fun _ => rfl)
    (fun pre W => (∃ v, Boxed W w1.heap.size 25 v ∧ W.ownsRow (w1.heap.size + 2) 3 1 v pre.length (pre.map (Value.int .i64)) ∧ True) ∧ Below w1.heap.size ((w1.alloc (.cells #[.slice none 0 0] 25)).alloc (.cells #[.int .i64 m] 3)) W)
    (fun _ _ _ => False)
    (OwnFrom.and (Own.from (holdsRow_own (w1.heap.size + 2) w1.heap.size 25 3 1 (fun pre : List Int => pre.length) (fun pre => pre.map (Value.int .i64)) (fun _ _ => True)) _) (ownFrom_below (by simp; omega) (by simp; omega)))
    (fun _ _ _ _ _ hs _ _ => hs)
    ⟨⟨_, bO.alloc _, World.ownsRow_nil _ _ _ _, trivial⟩, Below.refl _ _⟩
    (fun x => { tmps := #[.int .i64 m, undef, .slice none 0 0, .int .i64 0, .pointer (some ⟨w1.heap.size, 0, none⟩), .int .i64 x, .int .i64 m, .bool true, .bool false, .int .i64 m, .func (.func 22) #[] #[.pointer (some ⟨w1.heap.size + 1, 0, none⟩)], .int .i64 x, undef, undef, undef, undef, undef], defers := [] }) ?assign ?body ?done ?stop
  case assign =>
    intro l x W K hK
    gi_wp2
    exact hK
  case body =>
    rintro l pre x W ⟨⟨v, hv, hrow, _⟩, hB⟩ hlt
    have hc := hv.cell
    have hbase : w1.heap.size + 2 ≤ W.heap.size := by have := hB.size; simp at this; omega
    gi_wp2_with (gi_at_builtin; refine wpListIn_append_own _ rfl _ _ 25 rfl (w1.heap.size + 2) 3 i0 (.int .i64 0) 1 8 Try.underlying25 hi hz0 hz1 hz2 rfl (by decide) _ _ _ rfl (hrow.alloc _) ⟨W.heap.size, 0, none⟩ 1 1 [.int .i64 x] rfl rfl (cell_one_new _ _ _) (by simp [Value.oneCell']) (by unfold maxLen; omega) (by omega) (by simp; omega) ?_; intro v' w2 hown' hgrow _; obtain ⟨g', cap', rfl⟩ := ownsRow_succ hown'; obtain ⟨hv1, hv2, hr2, hk2, hb2, hb3, hg2⟩ := Boxed.appended2 hv (by omega) hrow hbase hown' hgrow; have hc1 := hv1.cell; have hf1 := hv1.frozen)
    exact ⟨hk2, hb2 _ (by omega) (by omega), ⟨_, hv2, by simpa using hr2, trivial⟩, hB.trans (hb3 _ (Nat.le_refl _))⟩
  case done =>
    rintro D ys W hD hS ⟨⟨v, hv, hrow, _⟩, hB⟩ hK
    have hc := hv.cell
    gi_wp2
    refine ⟨by simp, .inl ⟨_, _, rfl, run_takeDeferred hK, ?_⟩⟩
    exact ⟨_, results_tmp2 rfl _ _ _, v, ys, rfl, hS, IntsAt.of_row (ownsRow_putObj hrow _ hK rfl), ⟨(hB0.trans hB).trans (belowK_b (w := w1) (Nat.le_refl _) W D _ _ (by simp at hD; omega) hK rfl rfl)⟩⟩
  case stop =>
    rintro D c pre W _ _ h _
    exact h.elim
end Go.Proofs.Ytpcbcoegmdbdfaa
