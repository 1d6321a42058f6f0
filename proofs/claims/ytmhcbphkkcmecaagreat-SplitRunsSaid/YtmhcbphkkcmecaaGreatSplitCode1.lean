/- What package split's small functions answer. -/
import Derived.Test.YtmhcbphkkcmecaaGreatFourMath
import Derived.Test.YtmhcbphkkcmecaaGreatCx4
import Derived.Test.YtmhcbphkkcmecaaGreatCxs
import Derived.Test.YtmhcbphkkcmecaaGreatGrow
import Derived.Test.YtmhcbphkkcmecaaGreatRow
import Derived.Test.YtmhcbphkkcmecaaGreatSplitMath
import Derived.Test.YtmhcbphkkcmecaaGreatTwoCode1
import Derived.Test.YtmhcbphkkcmecaaGreatGiCalls
import Derived.Laws.Cover1
namespace Go.Proofs.YtmhcbphkkcmecaaGreat
open Go.ChangeShapes Go.WideShapes Go.ChangeAt Go.RowKit
set_option linter.unusedVariables false
set_option linter.unusedSimpArgs false
set_option maxRecDepth 100000


theorem sDown_c (b mo n : Int) (inv : Bool) (hn : IntKind.i64.wrap (b + 2) = n) (w : World) :
    Calls Tryz.prog 31 #[.agg #[.int .i64 b, .int .i64 mo, .bool inv]] w fun e w' => e = .returned (.int .i64 n) ∧ Gr w w' := by
  go_enter Tryz.func31, Tryz.ntmps31
  go_wp2_with fail
  go_ret
  exact ⟨by rw [← hn]; rfl, (Gr.refl w).alloc _ _⟩

theorem sTurns_c (b mo : Int) (inv : Bool) (w : World) :
    Calls Tryz.prog 76 #[.agg #[.int .i64 b, .int .i64 mo, .bool inv]] w fun e w' => e = .returned (.int .i64 (turns1 inv 1)) ∧ Gr w w' := by
  cases inv
  all_goals
    go_enter Tryz.func76, Tryz.ntmps76
    go_wp2_with fail
    go_ret
    exact ⟨rfl, (Gr.refl w).alloc _ _⟩

/-- Which bits and modes may be. -/
def SetsOk3 (b mo : Int) : Prop := (0 ≤ b ∧ b ≤ 29) ∧ 0 ≤ mo ∧ mo ≤ 2

set_option maxHeartbeats 1000000 in
theorem sMayBe_last (b mo x er : Int) (inv : Bool) (hb : 0 ≤ b ∧ b ≤ 29) (z : Bool) (hz : (er == 0) = z)
    (HS : Hid (∀ W, Calls Tryz.prog 30 #[.int .i64 0, .int .i64 (b + 2), .int .i64 mo] W fun e w' => e = .returned (.tuple #[.int .i64 x, .int .i64 er]) ∧ Gr W w')) (w : World) :
    Calls Tryz.prog 15 #[.agg #[.int .i64 b, .int .i64 mo, .bool inv]] w fun e w' => e = .returned (.bool z) ∧ Gr w w' := by
  have HD := Lib.hid (sDown_c b mo (b + 2) inv (IntWalk.i64_in _ ⟨by omega, by omega⟩))
  go_enter Tryz.func15, Tryz.ntmps15
  go_wp2_with fail
  obtain ⟨u0, hU⟩ : ∃ uu, uu = (w.alloc (.cells #[.int .i64 b, .int .i64 mo, .bool inv] 37)) := ⟨_, rfl⟩
  have gu : Gr w u0 := by rw [hU]; exact (Gr.refl w).alloc _ _
  have R0 : CellsAt u0 (w.heap.size) 37 #[.int .i64 b, .int .i64 mo, .bool inv] := by
    rw [hU]
    have := (CellsAt.new w 37 #[.int .i64 b, .int .i64 mo, .bool inv])
    simpa only [World.size_alloc] using this
  rw [← hU]
  clear hU
  have KS : ∀ W, Gr u0 W → (W.cell? ⟨w.heap.size, 0, none⟩ = some (.int .i64 b) ∧ W.cell? ⟨w.heap.size, 1, none⟩ = some (.int .i64 mo) ∧ W.cell? ⟨w.heap.size, 2, none⟩ = some (.bool inv)) := fun W hG => ⟨(R0.gr hG).cell 0, (R0.gr hG).cell 1, (R0.gr hG).cell 2⟩
  have hclG := gr_closed u0
  try simp only [List.append_eq, List.cons_append, List.nil_append]
  refine wp_region_grow (S := Gr u0) rfl (Gr.drew (Gr.refl _)) ?_
  refine wpG_take (i := 0) (v := ?_) hclG rfl (by kernel_rfl) (by kernel_rfl) (by kernel_rfl) (fun _ _ _ h => h) (by rfl) ?_ ?_
  rotate_left
  · (intro w' hSw; have hk := KS w' hSw; go_split_ands; go_simp; try with_reducible rfl)
  try simp only [Act.put, List.setIfInBounds_toArray, List.set_cons_zero, List.set_cons_succ, List.getElem_toArray, List.getElem_cons_zero, List.getElem_cons_succ]
  refine wpG_call (i := 1) hclG rfl (by kernel_rfl) (by kernel_rfl) (by kernel_rfl) (fun _ _ _ h => h) (fun W hS => HD.out W) (by rfl) ?_ ?_
  · (intro w' hSw; go_simp; try with_reducible rfl)
  try simp only [Act.put, List.setIfInBounds_toArray, List.set_cons_zero, List.set_cons_succ, List.getElem_toArray, List.getElem_cons_zero, List.getElem_cons_succ]
  refine wpG_take (i := 2) (v := ?_) hclG rfl (by kernel_rfl) (by kernel_rfl) (by kernel_rfl) (fun _ _ _ h => h) (by rfl) ?_ ?_
  rotate_left
  · (intro w' hSw; go_simp; try with_reducible rfl)
  try simp only [Act.put, List.setIfInBounds_toArray, List.set_cons_zero, List.set_cons_succ, List.getElem_toArray, List.getElem_cons_zero, List.getElem_cons_succ]
  refine wpG_take (i := 3) (v := ?_) hclG rfl (by kernel_rfl) (by kernel_rfl) (by kernel_rfl) (fun _ _ _ h => h) (by rfl) ?_ ?_
  rotate_left
  · (intro w' hSw; have hk := KS w' hSw; go_split_ands; go_simp; try with_reducible rfl)
  try simp only [Act.put, List.setIfInBounds_toArray, List.set_cons_zero, List.set_cons_succ, List.getElem_toArray, List.getElem_cons_zero, List.getElem_cons_succ]
  refine wpG_call (i := 4) hclG rfl (by kernel_rfl) (by kernel_rfl) (by kernel_rfl) (fun _ _ _ h => h) (fun W hS => HS.out W) (by rfl) ?_ ?_
  · (intro w' hSw; go_simp; try with_reducible rfl)
  try simp only [Act.put, List.setIfInBounds_toArray, List.set_cons_zero, List.set_cons_succ, List.getElem_toArray, List.getElem_cons_zero, List.getElem_cons_succ]
  refine wpG_take (i := 5) (v := ?_) hclG rfl (by kernel_rfl) (by kernel_rfl) (by kernel_rfl) (fun _ _ _ h => h) (by rfl) ?_ ?_
  rotate_left
  · (intro w' hSw; go_simp; try with_reducible rfl)
  try simp only [Act.put, List.setIfInBounds_toArray, List.set_cons_zero, List.set_cons_succ, List.getElem_toArray, List.getElem_cons_zero, List.getElem_cons_succ]
  refine wpG_take (i := 6) (v := ?_) hclG rfl (by kernel_rfl) (by kernel_rfl) (by kernel_rfl) (fun _ _ _ h => h) (by rfl) ?_ ?_
  rotate_left
  · (intro w' hSw; go_simp; try with_reducible rfl)
  try simp only [Act.put, List.setIfInBounds_toArray, List.set_cons_zero, List.set_cons_succ, List.getElem_toArray, List.getElem_cons_zero, List.getElem_cons_succ]
  refine wpG_take (i := 7) (v := ?_) hclG rfl (by kernel_rfl) (by kernel_rfl) (by kernel_rfl) (fun _ _ _ h => h) (by rfl) ?_ ?_
  rotate_left
  · (intro w' hSw; go_simp; try with_reducible rfl)
  try simp only [Act.put, List.setIfInBounds_toArray, List.set_cons_zero, List.set_cons_succ, List.getElem_toArray, List.getElem_cons_zero, List.getElem_cons_succ]
  refine wpG_take (i := 8) (v := ?_) hclG rfl (by kernel_rfl) (by kernel_rfl) (by kernel_rfl) (fun _ _ _ h => h) (by rfl) ?_ ?_
  rotate_left
  · (intro w' hSw; go_simp; try with_reducible rfl)
  try simp only [Act.put, List.setIfInBounds_toArray, List.set_cons_zero, List.set_cons_succ, List.getElem_toArray, List.getElem_cons_zero, List.getElem_cons_succ]
  refine wpG_take (i := 9) (v := ?_) hclG rfl (by kernel_rfl) (by kernel_rfl) (by kernel_rfl) (fun _ _ _ h => h) (by rfl) ?_ ?_
  rotate_left
  · (intro w' hSw; go_simp; try with_reducible rfl)
  try simp only [Act.put, List.setIfInBounds_toArray, List.set_cons_zero, List.set_cons_succ, List.getElem_toArray, List.getElem_cons_zero, List.getElem_cons_succ]
  refine wpG_done (by kernel_rfl) (fun w1 g1 => ?_) _
  go_wp2_with fail
  go_ret
  exact ⟨rfl, (gu.trans (Gr.drew (Gr.refl _))).trans g1⟩


theorem sMayBe_yes (b mo : Int) (inv : Bool) (h : SetsOk3 b mo) (w : World) :
    Calls Tryz.prog 15 #[.agg #[.int .i64 b, .int .i64 mo, .bool inv]] w fun e w' => e = .returned (.bool true) ∧ Gr w w' := by
  obtain ⟨h1, h3, h4⟩ := h
  exact sMayBe_last b mo _ 0 inv h1 true rfl (Lib.hid (shift_ok 0 (b + 2) mo (by omega) (by omega) (by omega) h3 h4)) w

theorem sMayBe_no (b mo : Int) (inv : Bool) (h : ¬ SetsOk3 b mo) (w : World) :
    Calls Tryz.prog 15 #[.agg #[.int .i64 b, .int .i64 mo, .bool inv]] w fun e w' => e = .returned (.bool false) ∧ Gr w w' := by
  unfold SetsOk3 at h
  by_cases hb : 0 ≤ b ∧ b ≤ 29
  · exact sMayBe_last b mo 0 1 inv hb false rfl (Lib.hid (shift_bad 0 (b + 2) mo (.inl (by omega)))) w
  · have hc : b < 0 ∨ (0 ≤ b ∧ 29 < b) := by omega
    clear h hb
    rcases hc with h1 | ⟨h1, h2⟩
    all_goals
      go_enter Tryz.func15, Tryz.ntmps15
      go_wp2_with fail
      go_ret
      exact ⟨rfl, (Gr.refl w).alloc _ _⟩


set_option maxHeartbeats 2000000 in
theorem sWithin_c (v : Value) (xs : List Gi) (l : Int) (hl0 : 0 ≤ l) (hl1 : l ≤ 2147483648) (w : World) (hv : CxsAt w v xs) :
    Calls Tryz.prog 16 #[.int .i64 l, v] w fun e w' => e = .returned (.bool (allIn l xs)) ∧ Gr w w' := by
  by_cases hx : xs = []
  · subst hx
    obtain ⟨p, cap, rfl⟩ := hv.len
    rw [show ([] : List Gi).length = 0 from rfl]
    clear hv
    go_enter Tryz.func16, Tryz.ntmps16
    go_wp2_with fail
    refine wp_loop_rounds 1 ?_
    rw [rounds_succ]
    go_wp2_with fail
    go_ret
    exact ⟨rfl, Gr.refl _⟩
  · obtain ⟨b, o, cap, rfl, hlen, hb, hc⟩ := hv.at hx
    have HC := Lib.hid hc
    have HN := Lib.hid fun (k : Nat) (a : Gi) (h : xs[k]? = some a) => allIn_no (l := l) h
    have HS := Lib.hid fun (k : Nat) (a : Gi) (h : xs[k]? = some a) => allIn_snoc (l := l) h
    have HA : allIn l (xs.take xs.length) = allIn l xs := by rw [List.take_length]
    clear hc hv hx
    go_enter Tryz.func16, Tryz.ntmps16
    go_wp2_with fail
    go_loopw [6, 9] (fun _ i wr => ∃ k : Nat, k ≤ xs.length ∧ i = .int .i64 k ∧ allIn l (xs.take k) = true ∧ Gr w wr) (fun _ i _ => xs.length - (intOf i).toNat)
    case atStart => exact ⟨0, Nat.zero_le _, rfl, rfl, Gr.refl _⟩
    case round =>
      obtain ⟨k, hk, rfl, hall, hl⟩ := hrel
      by_cases hlt : k < xs.length
      · obtain ⟨x, hx⟩ := get_of_lt hlt
        have h1 := (hl.cell (p := ⟨b, o + k * 2, none⟩) hb).trans (HC.out k x hx).1
        have h2 := (hl.cell (p := ⟨b, o + k * 2 + 1, none⟩) hb).trans (HC.out k x hx).2
        have hbl : b < wr.heap.size := Nat.lt_of_lt_of_le hb hl.size
        have HN1 := Lib.hid (HN.out k x hx)
        have HS1 := Lib.hid (HS.out k x hx hall)
        obtain ⟨re, im⟩ := x
        simp only at h1 h2 HN1 HS1
        clear hx hall HA HN HS HC
        have hll : IntKind.i64.wrap (-l) = -l := IntWalk.i64_in _ ⟨by omega, by omega⟩
        have hu : ∀ a b, ∀ c d : Int, (inB l a && inB l b) = true → -l ≤ a ∧ a ≤ l ∧ -l ≤ b ∧ b ≤ l := by
          intro a b c d h
          rw [Bool.and_eq_true, inB_iff, inB_iff] at h
          omega
        by_cases hq : (inB l re && inB l im) = true
        · have HS2 := Lib.hid (HS1.out hq)
          obtain ⟨q1, q2, q3, q4⟩ := hu re im 0 0 hq
          clear HN1 HS1 hq hu
          by_cases hm : im < re
          · go_wp2_with fail
            go_roundw
            case rel => exact ⟨k + 1, by omega, by go_num, HS2.out, hl.alloc _ _⟩
            case measure => simp [intOf]; omega
          · go_wp2_with fail
            go_roundw
            case rel => exact ⟨k + 1, by omega, by go_num, HS2.out, hl.alloc _ _⟩
            case measure => simp [intOf]; omega
        · have hq' : (inB l re && inB l im) = false := by simpa using hq
          have HN2 := Lib.hid (HN1.out hq')
          have hor : re < -l ∨ l < re ∨ im < -l ∨ l < im := by
            refine Classical.byContradiction fun h => hq ?_
            rw [Bool.and_eq_true, inB_iff, inB_iff]
            omega
          clear HN1 HS1 hq hq' hu
          have hcs : (im < re ∧ im < -l) ∨ (im < re ∧ -l ≤ im ∧ l < re) ∨ (re ≤ im ∧ re < -l) ∨ (re ≤ im ∧ -l ≤ re ∧ l < im) := by omega
          clear hor
          rcases hcs with ⟨t1, t2⟩ | ⟨t1, t2, t3⟩ | ⟨t1, t2⟩ | ⟨t1, t2, t3⟩
          all_goals
            go_wp2_with fail
          all_goals
            go_ret
            exact ⟨by rw [HN2.out]; rfl, hl.alloc _ _⟩
      · obtain rfl : k = xs.length := by omega
        rw [HA] at hall
        have HL := Lib.hid hall
        clear hall HA
        go_wp2_with fail
        go_ret
        exact ⟨by rw [HL.out]; rfl, hl⟩

theorem CxsAt.two {W : World} {B : Nat} {t : TypeId} {a b : Gi} (h : CellsAt W B t #[.int .i64 a.re, .int .i64 a.im, .int .i64 b.re, .int .i64 b.im]) : CxsAt W (.slice (some ⟨B, 0, none⟩) 2 2) [a, b] := by
  refine ⟨some ⟨B, 0, none⟩, 2, rfl, Nat.le_refl _, by unfold maxLen; omega, fun _ => ⟨B, 0, rfl, h.lt, fun j x hj => ?_⟩⟩
  have hc : (j = 0 ∧ x = a) ∨ (j = 1 ∧ x = b) := by
    match j, hj with
    | 0, hj => exact .inl ⟨rfl, by simpa using hj.symm⟩
    | 1, hj => exact .inr ⟨rfl, by simpa using hj.symm⟩
  rcases hc with ⟨rfl, rfl⟩ | ⟨rfl, rfl⟩
  · exact ⟨h.cell 0, h.cell 1⟩
  · exact ⟨h.cell 2, h.cell 3⟩


set_option maxHeartbeats 1000000 in
theorem sAsked_c (b mo : Int) (g : Gi) (inv : Bool) (h : g.re.natAbs ≤ 2305843009213693952 ∧ g.im.natAbs ≤ 2305843009213693952) (w : World) :
    Calls Tryz.prog 55 #[.agg #[.int .i64 b, .int .i64 mo, .bool inv], .agg #[.int .i64 (g).re, .int .i64 (g).im]] w fun e w' => e = .returned (.agg #[.int .i64 (if inv then g.conj else g).re, .int .i64 (if inv then g.conj else g).im]) ∧ Gr w w' := by
  cases inv
  · go_enter Tryz.func55, Tryz.ntmps55
    go_wp2_with fail
    refine bodyPost_ret (v := .agg #[.int .i64 (g).re, .int .i64 (g).im]) ?_ rfl ⟨rfl, by (repeat (first | exact Gr.refl _ | assumption | apply Gr.drew | apply Gr.drewN | apply Gr.alloc | (refine Gr.setCell ?_ (by simp) _) | refine Gr.trans ?_ (by assumption)))⟩
    simp [results, Tryz.results55, go_sem]
  · have HC := Lib.hid (cxconj_gi g h)
    generalize hc : g.conj = c at *
    go_enter Tryz.func55, Tryz.ntmps55
    go_wp2_with fail
    obtain ⟨u0, hU⟩ : ∃ uu, uu = (((w.alloc (.cells #[.int .i64 b, .int .i64 mo, .bool true] 37)).alloc (.cells #[.int .i64 g.re, .int .i64 g.im] 42)).alloc (.cells #[.int .i64 0, .int .i64 0] 42)) := ⟨_, rfl⟩
    have gu : Gr w u0 := by rw [hU]; exact (((Gr.refl w).alloc _ _).alloc _ _).alloc _ _
    have R0 : CellsAt u0 (w.heap.size) 37 #[.int .i64 b, .int .i64 mo, .bool true] := by
      rw [hU]
      have := (((CellsAt.new w 37 #[.int .i64 b, .int .i64 mo, .bool true]).alloc (.cells #[.int .i64 g.re, .int .i64 g.im] 42)).alloc (.cells #[.int .i64 0, .int .i64 0] 42))
      simpa only [World.size_alloc] using this
    have R1 : CellsAt u0 (w.heap.size + 1) 42 #[.int .i64 g.re, .int .i64 g.im] := by
      rw [hU]
      have := ((CellsAt.new (w.alloc (.cells #[.int .i64 b, .int .i64 mo, .bool true] 37)) 42 #[.int .i64 g.re, .int .i64 g.im]).alloc (.cells #[.int .i64 0, .int .i64 0] 42))
      simpa only [World.size_alloc] using this
    have R2 : CellsAt u0 (w.heap.size + 1 + 1) 42 #[.int .i64 0, .int .i64 0] := by
      rw [hU]
      have := (CellsAt.new ((w.alloc (.cells #[.int .i64 b, .int .i64 mo, .bool true] 37)).alloc (.cells #[.int .i64 g.re, .int .i64 g.im] 42)) 42 #[.int .i64 0, .int .i64 0])
      simpa only [World.size_alloc] using this
    rw [← hU]
    clear hU
    refine (HC.out _).mono ?_
    rintro e w1 ⟨rfl, g1⟩
    have P1 := R1.gr g1
    have P2 := R2.gr g1
    have gz := gu.trans g1
    have c0 := P1.cell 0
    have c1 := P1.cell 1
    have f0 := P1.frozen 0
    have f1 := P1.frozen 1
    have d0 := P2.cell 0
    have d1 := P2.cell 1
    have m0 := P2.frozen 0
    have m1 := P2.frozen 1
    have l1 := P1.lt
    have l2 := P2.lt
    simp only [List.getElem?_toArray, List.getElem?_cons_zero, List.getElem?_cons_succ] at c0 c1 d0 d1
    go_wp2_with fail
    refine bodyPost_ret (v := .agg #[.int .i64 (c).re, .int .i64 (c).im]) ?_ rfl ⟨rfl, (((gz.setCell (by first | (simp; done) | (simp; omega)) _).setCell (by first | (simp; done) | (simp; omega)) _).setCell (by first | (simp; done) | (simp; omega)) _).setCell (by first | (simp; done) | (simp; omega)) _⟩
    simp [results, Tryz.results55, go_sem, *]


set_option maxHeartbeats 2000000 in
theorem sHalved_of (b mo : Int) (inv : Bool) (g k s d p q : Gi)
    (HS : Hid (∀ W, Calls Tryz.prog 51 #[.agg #[.int .i64 (g).re, .int .i64 (g).im], .agg #[.int .i64 (k).re, .int .i64 (k).im]] W fun e w' => e = .returned (.tuple #[.agg #[.int .i64 (s).re, .int .i64 (s).im], .int .i64 0]) ∧ Gr W w')) (HL : Hid (∀ W, Calls Tryz.prog 52 #[.agg #[.int .i64 (g).re, .int .i64 (g).im], .agg #[.int .i64 (k).re, .int .i64 (k).im]] W fun e w' => e = .returned (.tuple #[.agg #[.int .i64 (d).re, .int .i64 (d).im], .int .i64 0]) ∧ Gr W w'))
    (HP : Hid (∀ W, Calls Tryz.prog 53 #[.agg #[.int .i64 (s).re, .int .i64 (s).im], .int .i64 1, .int .i64 mo] W fun e w' => e = .returned (.tuple #[.agg #[.int .i64 (p).re, .int .i64 (p).im], .int .i64 0]) ∧ Gr W w')) (HQ : Hid (∀ W, Calls Tryz.prog 53 #[.agg #[.int .i64 (d).re, .int .i64 (d).im], .int .i64 1, .int .i64 mo] W fun e w' => e = .returned (.tuple #[.agg #[.int .i64 (q).re, .int .i64 (q).im], .int .i64 0]) ∧ Gr W w')) (w : World) :
    Calls Tryz.prog 33 #[.agg #[.int .i64 b, .int .i64 mo, .bool inv], .agg #[.int .i64 (g).re, .int .i64 (g).im], .agg #[.int .i64 (k).re, .int .i64 (k).im]] w fun e w' => ∃ v, e = .returned v ∧ CxsAt w' v [p, q] ∧ Gr w w' := by
  go_enter Tryz.func33, Tryz.ntmps33
  go_wp2_with fail
  obtain ⟨u0, hU⟩ : ∃ uu, uu = (((w.alloc (.cells #[.int .i64 b, .int .i64 mo, .bool inv] 37)).alloc (.cells #[.int .i64 g.re, .int .i64 g.im] 42)).alloc (.cells #[.int .i64 k.re, .int .i64 k.im] 42)) := ⟨_, rfl⟩
  have gu : Gr w u0 := by rw [hU]; exact (((Gr.refl w).alloc _ _).alloc _ _).alloc _ _
  have R0 : CellsAt u0 (w.heap.size) 37 #[.int .i64 b, .int .i64 mo, .bool inv] := by
    rw [hU]
    have := (((CellsAt.new w 37 #[.int .i64 b, .int .i64 mo, .bool inv]).alloc (.cells #[.int .i64 g.re, .int .i64 g.im] 42)).alloc (.cells #[.int .i64 k.re, .int .i64 k.im] 42))
    simpa only [World.size_alloc] using this
  have R1 : CellsAt u0 (w.heap.size + 1) 42 #[.int .i64 g.re, .int .i64 g.im] := by
    rw [hU]
    have := ((CellsAt.new (w.alloc (.cells #[.int .i64 b, .int .i64 mo, .bool inv] 37)) 42 #[.int .i64 g.re, .int .i64 g.im]).alloc (.cells #[.int .i64 k.re, .int .i64 k.im] 42))
    simpa only [World.size_alloc] using this
  have R2 : CellsAt u0 (w.heap.size + 1 + 1) 42 #[.int .i64 k.re, .int .i64 k.im] := by
    rw [hU]
    have := (CellsAt.new ((w.alloc (.cells #[.int .i64 b, .int .i64 mo, .bool inv] 37)).alloc (.cells #[.int .i64 g.re, .int .i64 g.im] 42)) 42 #[.int .i64 k.re, .int .i64 k.im])
    simpa only [World.size_alloc] using this
  rw [← hU]
  clear hU
  have lh := R0.lt
  have lg := R1.lt
  have lk := R2.lt
  refine (HS.out _).mono ?_
  rintro e w1 ⟨rfl, g1⟩
  have Fh_1 := CellsAt.gr (R0) g1
  have lh_1 := CellsAt.lt (Fh_1)
  have Fg_1 := CellsAt.gr (R1) g1
  have lg_1 := CellsAt.lt (Fg_1)
  have Fk_1 := CellsAt.gr (R2) g1
  have lk_1 := CellsAt.lt (Fk_1)
  have z1 := (gu).trans g1
  clear R0 R1 R2 gu g1
  have cg0 := CellsAt.cell (Fg_1) 0
  have cg1 := CellsAt.cell (Fg_1) 1
  have ck0 := CellsAt.cell (Fk_1) 0
  have ck1 := CellsAt.cell (Fk_1) 1
  simp only [List.getElem?_toArray, List.getElem?_cons_zero, List.getElem?_cons_succ] at cg0 cg1 ck0 ck1
  go_wp2_with fail
  clear cg0 cg1 ck0 ck1
  have Yh_p1 : CellsAt (w1.alloc (.cells #[.int .i64 s.re, .int .i64 s.im] 42)) (w.heap.size) 37 #[.int .i64 b, .int .i64 mo, .bool inv] := by first | exact CellsAt.alloc (Fh_1) (.cells #[.int .i64 s.re, .int .i64 s.im] 42) | simpa using CellsAt.alloc (Fh_1) (.cells #[.int .i64 s.re, .int .i64 s.im] 42)
  have Yg_p1 : CellsAt (w1.alloc (.cells #[.int .i64 s.re, .int .i64 s.im] 42)) (w.heap.size + 1) 42 #[.int .i64 g.re, .int .i64 g.im] := by first | exact CellsAt.alloc (Fg_1) (.cells #[.int .i64 s.re, .int .i64 s.im] 42) | simpa using CellsAt.alloc (Fg_1) (.cells #[.int .i64 s.re, .int .i64 s.im] 42)
  have Yk_p1 : CellsAt (w1.alloc (.cells #[.int .i64 s.re, .int .i64 s.im] 42)) (w.heap.size + 1 + 1) 42 #[.int .i64 k.re, .int .i64 k.im] := by first | exact CellsAt.alloc (Fk_1) (.cells #[.int .i64 s.re, .int .i64 s.im] 42) | simpa using CellsAt.alloc (Fk_1) (.cells #[.int .i64 s.re, .int .i64 s.im] 42)
  have Ys_p1 : CellsAt (w1.alloc (.cells #[.int .i64 s.re, .int .i64 s.im] 42)) (w1.heap.size) 42 #[.int .i64 s.re, .int .i64 s.im] := by first | exact CellsAt.new w1 42 #[.int .i64 s.re, .int .i64 s.im] | simpa using CellsAt.new w1 42 #[.int .i64 s.re, .int .i64 s.im]
  have yp1 := Gr.alloc (z1) #[.int .i64 s.re, .int .i64 s.im] 42
  refine (HL.out _).mono ?_
  rintro e w2 ⟨rfl, g2⟩
  have Fh_2 := CellsAt.gr (Yh_p1) g2
  have lh_2 := CellsAt.lt (Fh_2)
  have Fg_2 := CellsAt.gr (Yg_p1) g2
  have lg_2 := CellsAt.lt (Fg_2)
  have Fk_2 := CellsAt.gr (Yk_p1) g2
  have lk_2 := CellsAt.lt (Fk_2)
  have Fs_2 := CellsAt.gr (Ys_p1) g2
  have ls_2 := CellsAt.lt (Fs_2)
  have z2 := (yp1).trans g2
  clear Yh_p1 Yg_p1 Yk_p1 Ys_p1 yp1 g2
  have ch0 := CellsAt.cell (Fh_2) 0
  have ch1 := CellsAt.cell (Fh_2) 1
  have ch2 := CellsAt.cell (Fh_2) 2
  have cg0 := CellsAt.cell (Fg_2) 0
  have cg1 := CellsAt.cell (Fg_2) 1
  have ck0 := CellsAt.cell (Fk_2) 0
  have ck1 := CellsAt.cell (Fk_2) 1
  have cs0 := CellsAt.cell (Fs_2) 0
  have cs1 := CellsAt.cell (Fs_2) 1
  simp only [List.getElem?_toArray, List.getElem?_cons_zero, List.getElem?_cons_succ] at ch0 ch1 ch2 cg0 cg1 ck0 ck1 cs0 cs1
  go_wp2_with fail
  clear ch0 ch1 ch2 cg0 cg1 ck0 ck1 cs0 cs1
  have Yh_p2 : CellsAt (w2.alloc (.cells #[.int .i64 d.re, .int .i64 d.im] 42)) (w.heap.size) 37 #[.int .i64 b, .int .i64 mo, .bool inv] := by first | exact CellsAt.alloc (Fh_2) (.cells #[.int .i64 d.re, .int .i64 d.im] 42) | simpa using CellsAt.alloc (Fh_2) (.cells #[.int .i64 d.re, .int .i64 d.im] 42)
  have Yg_p2 : CellsAt (w2.alloc (.cells #[.int .i64 d.re, .int .i64 d.im] 42)) (w.heap.size + 1) 42 #[.int .i64 g.re, .int .i64 g.im] := by first | exact CellsAt.alloc (Fg_2) (.cells #[.int .i64 d.re, .int .i64 d.im] 42) | simpa using CellsAt.alloc (Fg_2) (.cells #[.int .i64 d.re, .int .i64 d.im] 42)
  have Yk_p2 : CellsAt (w2.alloc (.cells #[.int .i64 d.re, .int .i64 d.im] 42)) (w.heap.size + 1 + 1) 42 #[.int .i64 k.re, .int .i64 k.im] := by first | exact CellsAt.alloc (Fk_2) (.cells #[.int .i64 d.re, .int .i64 d.im] 42) | simpa using CellsAt.alloc (Fk_2) (.cells #[.int .i64 d.re, .int .i64 d.im] 42)
  have Ys_p2 : CellsAt (w2.alloc (.cells #[.int .i64 d.re, .int .i64 d.im] 42)) (w1.heap.size) 42 #[.int .i64 s.re, .int .i64 s.im] := by first | exact CellsAt.alloc (Fs_2) (.cells #[.int .i64 d.re, .int .i64 d.im] 42) | simpa using CellsAt.alloc (Fs_2) (.cells #[.int .i64 d.re, .int .i64 d.im] 42)
  have Yd_p2 : CellsAt (w2.alloc (.cells #[.int .i64 d.re, .int .i64 d.im] 42)) (w2.heap.size) 42 #[.int .i64 d.re, .int .i64 d.im] := by first | exact CellsAt.new w2 42 #[.int .i64 d.re, .int .i64 d.im] | simpa using CellsAt.new w2 42 #[.int .i64 d.re, .int .i64 d.im]
  have yp2 := Gr.alloc (z2) #[.int .i64 d.re, .int .i64 d.im] 42
  refine (HP.out _).mono ?_
  rintro e w3 ⟨rfl, g3⟩
  have Fh_3 := CellsAt.gr (Yh_p2) g3
  have lh_3 := CellsAt.lt (Fh_3)
  have Fg_3 := CellsAt.gr (Yg_p2) g3
  have lg_3 := CellsAt.lt (Fg_3)
  have Fk_3 := CellsAt.gr (Yk_p2) g3
  have lk_3 := CellsAt.lt (Fk_3)
  have Fs_3 := CellsAt.gr (Ys_p2) g3
  have ls_3 := CellsAt.lt (Fs_3)
  have Fd_3 := CellsAt.gr (Yd_p2) g3
  have ld_3 := CellsAt.lt (Fd_3)
  have z3 := (yp2).trans g3
  clear Yh_p2 Yg_p2 Yk_p2 Ys_p2 Yd_p2 yp2 g3
  have ch0 := CellsAt.cell (Fh_3) 0
  have ch1 := CellsAt.cell (Fh_3) 1
  have ch2 := CellsAt.cell (Fh_3) 2
  have cg0 := CellsAt.cell (Fg_3) 0
  have cg1 := CellsAt.cell (Fg_3) 1
  have ck0 := CellsAt.cell (Fk_3) 0
  have ck1 := CellsAt.cell (Fk_3) 1
  have cs0 := CellsAt.cell (Fs_3) 0
  have cs1 := CellsAt.cell (Fs_3) 1
  have cd0 := CellsAt.cell (Fd_3) 0
  have cd1 := CellsAt.cell (Fd_3) 1
  simp only [List.getElem?_toArray, List.getElem?_cons_zero, List.getElem?_cons_succ] at ch0 ch1 ch2 cg0 cg1 ck0 ck1 cs0 cs1 cd0 cd1
  have ms0 := CellsAt.frozen (Fs_3) 0
  have ms1 := CellsAt.frozen (Fs_3) 1
  go_wp2_with fail
  clear ch0 ch1 ch2 cg0 cg1 ck0 ck1 cs0 cs1 cd0 cd1 ms0 ms1
  have Yh_p3 : CellsAt ((w3.setCell ⟨w1.heap.size, 0, none⟩ (.int .i64 p.re)).setCell ⟨w1.heap.size, 1, none⟩ (.int .i64 p.im)) (w.heap.size) 37 #[.int .i64 b, .int .i64 mo, .bool inv] := by first | exact CellsAt.other (CellsAt.other (Fh_3) (by omega) 0 (.int .i64 p.re)) (by omega) 1 (.int .i64 p.im) | simpa using CellsAt.other (CellsAt.other (Fh_3) (by omega) 0 (.int .i64 p.re)) (by omega) 1 (.int .i64 p.im)
  have Yg_p3 : CellsAt ((w3.setCell ⟨w1.heap.size, 0, none⟩ (.int .i64 p.re)).setCell ⟨w1.heap.size, 1, none⟩ (.int .i64 p.im)) (w.heap.size + 1) 42 #[.int .i64 g.re, .int .i64 g.im] := by first | exact CellsAt.other (CellsAt.other (Fg_3) (by omega) 0 (.int .i64 p.re)) (by omega) 1 (.int .i64 p.im) | simpa using CellsAt.other (CellsAt.other (Fg_3) (by omega) 0 (.int .i64 p.re)) (by omega) 1 (.int .i64 p.im)
  have Yk_p3 : CellsAt ((w3.setCell ⟨w1.heap.size, 0, none⟩ (.int .i64 p.re)).setCell ⟨w1.heap.size, 1, none⟩ (.int .i64 p.im)) (w.heap.size + 1 + 1) 42 #[.int .i64 k.re, .int .i64 k.im] := by first | exact CellsAt.other (CellsAt.other (Fk_3) (by omega) 0 (.int .i64 p.re)) (by omega) 1 (.int .i64 p.im) | simpa using CellsAt.other (CellsAt.other (Fk_3) (by omega) 0 (.int .i64 p.re)) (by omega) 1 (.int .i64 p.im)
  have Ys_p3 : CellsAt ((w3.setCell ⟨w1.heap.size, 0, none⟩ (.int .i64 p.re)).setCell ⟨w1.heap.size, 1, none⟩ (.int .i64 p.im)) (w1.heap.size) 42 #[.int .i64 p.re, .int .i64 p.im] := by first | exact CellsAt.set (CellsAt.set (Fs_3) 0 (.int .i64 p.re)) 1 (.int .i64 p.im) | simpa using CellsAt.set (CellsAt.set (Fs_3) 0 (.int .i64 p.re)) 1 (.int .i64 p.im)
  have Yd_p3 : CellsAt ((w3.setCell ⟨w1.heap.size, 0, none⟩ (.int .i64 p.re)).setCell ⟨w1.heap.size, 1, none⟩ (.int .i64 p.im)) (w2.heap.size) 42 #[.int .i64 d.re, .int .i64 d.im] := by first | exact CellsAt.other (CellsAt.other (Fd_3) (by omega) 0 (.int .i64 p.re)) (by omega) 1 (.int .i64 p.im) | simpa using CellsAt.other (CellsAt.other (Fd_3) (by omega) 0 (.int .i64 p.re)) (by omega) 1 (.int .i64 p.im)
  have yp3 := Gr.setCell (Gr.setCell (z3) (a := ⟨w1.heap.size, 0, none⟩) (by first | omega | (simp only; omega)) (.int .i64 p.re)) (a := ⟨w1.heap.size, 1, none⟩) (by first | omega | (simp only; omega)) (.int .i64 p.im)
  refine (HQ.out _).mono ?_
  rintro e w4 ⟨rfl, g4⟩
  have Fh_4 := CellsAt.gr (Yh_p3) g4
  have lh_4 := CellsAt.lt (Fh_4)
  have Fg_4 := CellsAt.gr (Yg_p3) g4
  have lg_4 := CellsAt.lt (Fg_4)
  have Fk_4 := CellsAt.gr (Yk_p3) g4
  have lk_4 := CellsAt.lt (Fk_4)
  have Fs_4 := CellsAt.gr (Ys_p3) g4
  have ls_4 := CellsAt.lt (Fs_4)
  have Fd_4 := CellsAt.gr (Yd_p3) g4
  have ld_4 := CellsAt.lt (Fd_4)
  have z4 := (yp3).trans g4
  clear Yh_p3 Yg_p3 Yk_p3 Ys_p3 Yd_p3 yp3 g4
  have ch0 := CellsAt.cell (Fh_4) 0
  have ch1 := CellsAt.cell (Fh_4) 1
  have ch2 := CellsAt.cell (Fh_4) 2
  have cg0 := CellsAt.cell (Fg_4) 0
  have cg1 := CellsAt.cell (Fg_4) 1
  have ck0 := CellsAt.cell (Fk_4) 0
  have ck1 := CellsAt.cell (Fk_4) 1
  have cs0 := CellsAt.cell (Fs_4) 0
  have cs1 := CellsAt.cell (Fs_4) 1
  have cd0 := CellsAt.cell (Fd_4) 0
  have cd1 := CellsAt.cell (Fd_4) 1
  simp only [List.getElem?_toArray, List.getElem?_cons_zero, List.getElem?_cons_succ] at ch0 ch1 ch2 cg0 cg1 ck0 ck1 cs0 cs1 cd0 cd1
  have md0 := CellsAt.frozen (Fd_4) 0
  have md1 := CellsAt.frozen (Fd_4) 1
  go_wp2_with fail
  clear ch0 ch1 ch2 cg0 cg1 ck0 ck1 cs0 cs1 cd0 cd1 md0 md1
  have Yh_p4 : CellsAt ((w4.setCell ⟨w2.heap.size, 0, none⟩ (.int .i64 q.re)).setCell ⟨w2.heap.size, 1, none⟩ (.int .i64 q.im)) (w.heap.size) 37 #[.int .i64 b, .int .i64 mo, .bool inv] := by first | exact CellsAt.other (CellsAt.other (Fh_4) (by omega) 0 (.int .i64 q.re)) (by omega) 1 (.int .i64 q.im) | simpa using CellsAt.other (CellsAt.other (Fh_4) (by omega) 0 (.int .i64 q.re)) (by omega) 1 (.int .i64 q.im)
  have Yg_p4 : CellsAt ((w4.setCell ⟨w2.heap.size, 0, none⟩ (.int .i64 q.re)).setCell ⟨w2.heap.size, 1, none⟩ (.int .i64 q.im)) (w.heap.size + 1) 42 #[.int .i64 g.re, .int .i64 g.im] := by first | exact CellsAt.other (CellsAt.other (Fg_4) (by omega) 0 (.int .i64 q.re)) (by omega) 1 (.int .i64 q.im) | simpa using CellsAt.other (CellsAt.other (Fg_4) (by omega) 0 (.int .i64 q.re)) (by omega) 1 (.int .i64 q.im)
  have Yk_p4 : CellsAt ((w4.setCell ⟨w2.heap.size, 0, none⟩ (.int .i64 q.re)).setCell ⟨w2.heap.size, 1, none⟩ (.int .i64 q.im)) (w.heap.size + 1 + 1) 42 #[.int .i64 k.re, .int .i64 k.im] := by first | exact CellsAt.other (CellsAt.other (Fk_4) (by omega) 0 (.int .i64 q.re)) (by omega) 1 (.int .i64 q.im) | simpa using CellsAt.other (CellsAt.other (Fk_4) (by omega) 0 (.int .i64 q.re)) (by omega) 1 (.int .i64 q.im)
  have Ys_p4 : CellsAt ((w4.setCell ⟨w2.heap.size, 0, none⟩ (.int .i64 q.re)).setCell ⟨w2.heap.size, 1, none⟩ (.int .i64 q.im)) (w1.heap.size) 42 #[.int .i64 p.re, .int .i64 p.im] := by first | exact CellsAt.other (CellsAt.other (Fs_4) (by omega) 0 (.int .i64 q.re)) (by omega) 1 (.int .i64 q.im) | simpa using CellsAt.other (CellsAt.other (Fs_4) (by omega) 0 (.int .i64 q.re)) (by omega) 1 (.int .i64 q.im)
  have Yd_p4 : CellsAt ((w4.setCell ⟨w2.heap.size, 0, none⟩ (.int .i64 q.re)).setCell ⟨w2.heap.size, 1, none⟩ (.int .i64 q.im)) (w2.heap.size) 42 #[.int .i64 q.re, .int .i64 q.im] := by first | exact CellsAt.set (CellsAt.set (Fd_4) 0 (.int .i64 q.re)) 1 (.int .i64 q.im) | simpa using CellsAt.set (CellsAt.set (Fd_4) 0 (.int .i64 q.re)) 1 (.int .i64 q.im)
  have yp4 := Gr.setCell (Gr.setCell (z4) (a := ⟨w2.heap.size, 0, none⟩) (by first | omega | (simp only; omega)) (.int .i64 q.re)) (a := ⟨w2.heap.size, 1, none⟩) (by first | omega | (simp only; omega)) (.int .i64 q.im)
  go_ret
  exact ⟨_, rfl, CxsAt.two (by simpa using CellsAt.new ((w4.setCell ⟨w2.heap.size, 0, none⟩ (.int .i64 q.re)).setCell ⟨w2.heap.size, 1, none⟩ (.int .i64 q.im)) 42 #[.int .i64 p.re, .int .i64 p.im, .int .i64 q.re, .int .i64 q.im]), yp4.alloc #[.int .i64 p.re, .int .i64 p.im, .int .i64 q.re, .int .i64 q.im] 42⟩

set_option maxHeartbeats 2000000 in
theorem sQuotient_of (b mo n sg p0 p1 e0 e1 : Int) (inv : Bool) (g k q : Gi) (h0 : wrap64 (sg * k.re) = p0) (h1 : wrap64 (sg * k.im) = p1) (h2 : wrap64 (g.re + p0) = e0) (h3 : wrap64 (g.im + p1) = e1)
    (HD : Hid (∀ W, Calls Tryz.prog 31 #[.agg #[.int .i64 b, .int .i64 mo, .bool inv]] W fun e w' => e = .returned (.int .i64 n) ∧ Gr W w')) (HF : Hid (∀ W, Calls Tryz.prog 53 #[.agg #[.int .i64 e0, .int .i64 e1], .int .i64 n, .int .i64 mo] W fun e w' => e = .returned (.tuple #[.agg #[.int .i64 (q).re, .int .i64 (q).im], .int .i64 0]) ∧ Gr W w')) (w : World) :
    Calls Tryz.prog 77 #[.agg #[.int .i64 b, .int .i64 mo, .bool inv], .agg #[.int .i64 (g).re, .int .i64 (g).im], .agg #[.int .i64 (k).re, .int .i64 (k).im], .int .i64 sg] w fun e w' => e = .returned (.agg #[.int .i64 (q).re, .int .i64 (q).im]) ∧ Gr w w' := by
  go_enter Tryz.func77, Tryz.ntmps77
  go_wp2_with fail
  obtain ⟨u0, hU⟩ : ∃ uu, uu = (((((w.alloc (.cells #[.int .i64 b, .int .i64 mo, .bool inv] 37)).alloc (.cells #[.int .i64 g.re, .int .i64 g.im] 42)).alloc (.cells #[.int .i64 k.re, .int .i64 k.im] 42)).alloc (.cells #[.int .i64 0, .int .i64 0] 42)).alloc (.cells #[.int .i64 e0, .int .i64 e1] 42)) := ⟨_, rfl⟩
  have gu : Gr w u0 := by rw [hU]; exact (((((Gr.refl w).alloc _ _).alloc _ _).alloc _ _).alloc _ _).alloc _ _
  have R0 : CellsAt u0 (w.heap.size) 37 #[.int .i64 b, .int .i64 mo, .bool inv] := by
    rw [hU]
    have := (((((CellsAt.new w 37 #[.int .i64 b, .int .i64 mo, .bool inv]).alloc (.cells #[.int .i64 g.re, .int .i64 g.im] 42)).alloc (.cells #[.int .i64 k.re, .int .i64 k.im] 42)).alloc (.cells #[.int .i64 0, .int .i64 0] 42)).alloc (.cells #[.int .i64 e0, .int .i64 e1] 42))
    simpa only [World.size_alloc] using this
  have R1 : CellsAt u0 (w.heap.size + 1) 42 #[.int .i64 g.re, .int .i64 g.im] := by
    rw [hU]
    have := ((((CellsAt.new (w.alloc (.cells #[.int .i64 b, .int .i64 mo, .bool inv] 37)) 42 #[.int .i64 g.re, .int .i64 g.im]).alloc (.cells #[.int .i64 k.re, .int .i64 k.im] 42)).alloc (.cells #[.int .i64 0, .int .i64 0] 42)).alloc (.cells #[.int .i64 e0, .int .i64 e1] 42))
    simpa only [World.size_alloc] using this
  have R2 : CellsAt u0 (w.heap.size + 1 + 1) 42 #[.int .i64 k.re, .int .i64 k.im] := by
    rw [hU]
    have := (((CellsAt.new ((w.alloc (.cells #[.int .i64 b, .int .i64 mo, .bool inv] 37)).alloc (.cells #[.int .i64 g.re, .int .i64 g.im] 42)) 42 #[.int .i64 k.re, .int .i64 k.im]).alloc (.cells #[.int .i64 0, .int .i64 0] 42)).alloc (.cells #[.int .i64 e0, .int .i64 e1] 42))
    simpa only [World.size_alloc] using this
  have R3 : CellsAt u0 (w.heap.size + 1 + 1 + 1) 42 #[.int .i64 0, .int .i64 0] := by
    rw [hU]
    have := ((CellsAt.new (((w.alloc (.cells #[.int .i64 b, .int .i64 mo, .bool inv] 37)).alloc (.cells #[.int .i64 g.re, .int .i64 g.im] 42)).alloc (.cells #[.int .i64 k.re, .int .i64 k.im] 42)) 42 #[.int .i64 0, .int .i64 0]).alloc (.cells #[.int .i64 e0, .int .i64 e1] 42))
    simpa only [World.size_alloc] using this
  have R4 : CellsAt u0 (w.heap.size + 1 + 1 + 1 + 1) 42 #[.int .i64 e0, .int .i64 e1] := by
    rw [hU]
    have := (CellsAt.new ((((w.alloc (.cells #[.int .i64 b, .int .i64 mo, .bool inv] 37)).alloc (.cells #[.int .i64 g.re, .int .i64 g.im] 42)).alloc (.cells #[.int .i64 k.re, .int .i64 k.im] 42)).alloc (.cells #[.int .i64 0, .int .i64 0] 42)) 42 #[.int .i64 e0, .int .i64 e1])
    simpa only [World.size_alloc] using this
  rw [← hU]
  clear hU
  have lh := R0.lt
  have la := R1.lt
  have lk := R2.lt
  have lr := R3.lt
  have ls := R4.lt
  have Yh_p1 : CellsAt u0 (w.heap.size) 37 #[.int .i64 b, .int .i64 mo, .bool inv] := by first | exact R0 | simpa using R0
  have Ya_p1 : CellsAt u0 (w.heap.size + 1) 42 #[.int .i64 g.re, .int .i64 g.im] := by first | exact R1 | simpa using R1
  have Yk_p1 : CellsAt u0 (w.heap.size + 1 + 1) 42 #[.int .i64 k.re, .int .i64 k.im] := by first | exact R2 | simpa using R2
  have Yr_p1 : CellsAt u0 (w.heap.size + 1 + 1 + 1) 42 #[.int .i64 0, .int .i64 0] := by first | exact R3 | simpa using R3
  have Ys_p1 : CellsAt u0 (w.heap.size + 1 + 1 + 1 + 1) 42 #[.int .i64 e0, .int .i64 e1] := by first | exact R4 | simpa using R4
  have yp1 := gu
  generalize u0 = v0 at *
  have KS : ∀ W, GB (w.heap.size + 1 + 1 + 1 + 1) v0 W → (W.cell? ⟨w.heap.size, 0, none⟩ = some (.int .i64 b) ∧ W.cell? ⟨w.heap.size, 1, none⟩ = some (.int .i64 mo) ∧ W.cell? ⟨w.heap.size, 2, none⟩ = some (.bool inv)) := fun W hG => ⟨(GB.cellsAt hG Yh_p1 (by omega)).cell 0, (GB.cellsAt hG Yh_p1 (by omega)).cell 1, (GB.cellsAt hG Yh_p1 (by omega)).cell 2⟩
  have hclG := gb_closed (w.heap.size + 1 + 1 + 1 + 1) v0
  try simp only [List.append_eq, List.cons_append, List.nil_append]
  refine wp_region_grow (S := GB (w.heap.size + 1 + 1 + 1 + 1) v0) rfl (GB.drew (GB.refl _ _)) ?_
  refine wpG_take (i := 1) (v := ?_) hclG rfl (by kernel_rfl) (by kernel_rfl) (by kernel_rfl) (fun _ _ _ h => h) (by rfl) ?_ ?_
  rotate_left
  · (intro w' hSw; have hk := KS w' hSw; go_split_ands; go_simp; try with_reducible rfl)
  try simp only [Act.put, List.setIfInBounds_toArray, List.set_cons_zero, List.set_cons_succ, List.getElem_toArray, List.getElem_cons_zero, List.getElem_cons_succ]
  refine wpG_call (i := 2) hclG rfl (by kernel_rfl) (by kernel_rfl) (by kernel_rfl) (fun _ _ _ h => h) (fun W hS => HD.out W) (by rfl) ?_ ?_
  · (intro w' hSw; go_simp; try with_reducible rfl)
  try simp only [Act.put, List.setIfInBounds_toArray, List.set_cons_zero, List.set_cons_succ, List.getElem_toArray, List.getElem_cons_zero, List.getElem_cons_succ]
  refine wpG_take (i := 3) (v := ?_) hclG rfl (by kernel_rfl) (by kernel_rfl) (by kernel_rfl) (fun _ _ _ h => h) (by rfl) ?_ ?_
  rotate_left
  · (intro w' hSw; go_simp; try with_reducible rfl)
  try simp only [Act.put, List.setIfInBounds_toArray, List.set_cons_zero, List.set_cons_succ, List.getElem_toArray, List.getElem_cons_zero, List.getElem_cons_succ]
  refine wpG_take (i := 4) (v := ?_) hclG rfl (by kernel_rfl) (by kernel_rfl) (by kernel_rfl) (fun _ _ _ h => h) (by rfl) ?_ ?_
  rotate_left
  · (intro w' hSw; have hk := KS w' hSw; go_split_ands; go_simp; try with_reducible rfl)
  try simp only [Act.put, List.setIfInBounds_toArray, List.set_cons_zero, List.set_cons_succ, List.getElem_toArray, List.getElem_cons_zero, List.getElem_cons_succ]
  refine wpG_ready (rs := [0]) (by kernel_rfl) (by simp) (fun w1 g1 s1 => ?_)
  refine AllG.cons rfl (fun K hK => ?_) AllG.nil
  replace g1 := (Gr.drew (Gr.refl v0)).trans g1
  have Fh_1 := CellsAt.gr (Yh_p1) g1
  have lh_1 := CellsAt.lt (Fh_1)
  have Fa_1 := CellsAt.gr (Ya_p1) g1
  have la_1 := CellsAt.lt (Fa_1)
  have Fk_1 := CellsAt.gr (Yk_p1) g1
  have lk_1 := CellsAt.lt (Fk_1)
  have Fr_1 := CellsAt.gr (Yr_p1) g1
  have lr_1 := CellsAt.lt (Fr_1)
  have Fs_1 := CellsAt.gr (Ys_p1) g1
  have ls_1 := CellsAt.lt (Fs_1)
  have z1 := (yp1).trans g1
  clear Yh_p1 Ya_p1 Yk_p1 Yr_p1 Ys_p1 yp1 g1
  have cs0 := CellsAt.cell (Fs_1) 0
  have cs1 := CellsAt.cell (Fs_1) 1
  simp only [List.getElem?_toArray, List.getElem?_cons_zero, List.getElem?_cons_succ] at cs0 cs1
  go_simp
  clear cs0 cs1
  refine hK.out _ _ ?_ ?_
  · exact s1
  clear hK K
  try simp only [Act.put, List.setIfInBounds_toArray, List.set_cons_zero, List.set_cons_succ, List.getElem_toArray, List.getElem_cons_zero, List.getElem_cons_succ]
  refine wpG_call (i := 5) hclG rfl (by kernel_rfl) (by kernel_rfl) (by kernel_rfl) (fun _ _ _ h => h) (fun W hS => HF.out W) (by rfl) ?_ ?_
  · (intro w' hSw; go_simp; try with_reducible rfl)
  try simp only [Act.put, List.setIfInBounds_toArray, List.set_cons_zero, List.set_cons_succ, List.getElem_toArray, List.getElem_cons_zero, List.getElem_cons_succ]
  refine wpG_take (i := 6) (v := ?_) hclG rfl (by kernel_rfl) (by kernel_rfl) (by kernel_rfl) (fun _ _ _ h => h) (by rfl) ?_ ?_
  rotate_left
  · (intro w' hSw; go_simp; try with_reducible rfl)
  try simp only [Act.put, List.setIfInBounds_toArray, List.set_cons_zero, List.set_cons_succ, List.getElem_toArray, List.getElem_cons_zero, List.getElem_cons_succ]
  refine wpG_take (i := 7) (v := ?_) hclG rfl (by kernel_rfl) (by kernel_rfl) (by kernel_rfl) (fun _ _ _ h => h) (by rfl) ?_ ?_
  rotate_left
  · (intro w' hSw; go_simp; try with_reducible rfl)
  try simp only [Act.put, List.setIfInBounds_toArray, List.set_cons_zero, List.set_cons_succ, List.getElem_toArray, List.getElem_cons_zero, List.getElem_cons_succ]
  refine wpG_take (i := 8) (v := ?_) hclG rfl (by kernel_rfl) (by kernel_rfl) (by kernel_rfl) (fun _ _ _ h => h) (by rfl) ?_ ?_
  rotate_left
  · (intro w' hSw; go_simp; try with_reducible rfl)
  try simp only [Act.put, List.setIfInBounds_toArray, List.set_cons_zero, List.set_cons_succ, List.getElem_toArray, List.getElem_cons_zero, List.getElem_cons_succ]
  refine wpG_ready (rs := [9]) (by kernel_rfl) (by simp) (fun w2 g2 s2 => ?_)
  refine AllG.cons rfl (fun K hK => ?_) AllG.nil
  have Fh_2 := CellsAt.gr (Fh_1) g2
  have lh_2 := CellsAt.lt (Fh_2)
  have Fa_2 := CellsAt.gr (Fa_1) g2
  have la_2 := CellsAt.lt (Fa_2)
  have Fk_2 := CellsAt.gr (Fk_1) g2
  have lk_2 := CellsAt.lt (Fk_2)
  have Fr_2 := CellsAt.gr (Fr_1) g2
  have lr_2 := CellsAt.lt (Fr_2)
  have Fs_2 := CellsAt.gr (Fs_1) g2
  have ls_2 := CellsAt.lt (Fs_2)
  have z2 := (z1).trans g2
  clear Fh_1 Fa_1 Fk_1 Fr_1 Fs_1 z1 g2
  have ms0 := CellsAt.frozen (Fs_2) 0
  have cs0 := CellsAt.cell (Fs_2) 0
  simp only [List.getElem?_toArray, List.getElem?_cons_zero, List.getElem?_cons_succ] at cs0
  have ms1 := CellsAt.frozen (Fs_2) 1
  have cs1 := CellsAt.cell (Fs_2) 1
  simp only [List.getElem?_toArray, List.getElem?_cons_zero, List.getElem?_cons_succ] at cs1
  go_simp
  clear ms0 cs0 ms1 cs1
  refine hK.out _ _ ?_ ?_
  · exact (GB.set (GB.set s2 _ _) _ _)
  clear hK K
  try simp only [Act.put, List.setIfInBounds_toArray, List.set_cons_zero, List.set_cons_succ, List.getElem_toArray, List.getElem_cons_zero, List.getElem_cons_succ]
  have Yh_p2 : CellsAt ((w2.setCell ⟨w.heap.size + 1 + 1 + 1 + 1, 0, none⟩ (.int .i64 q.re)).setCell ⟨w.heap.size + 1 + 1 + 1 + 1, 1, none⟩ (.int .i64 q.im)) (w.heap.size) 37 #[.int .i64 b, .int .i64 mo, .bool inv] := by first | exact CellsAt.other (CellsAt.other (Fh_2) (by omega) 0 (.int .i64 q.re)) (by omega) 1 (.int .i64 q.im) | simpa using CellsAt.other (CellsAt.other (Fh_2) (by omega) 0 (.int .i64 q.re)) (by omega) 1 (.int .i64 q.im)
  have Ya_p2 : CellsAt ((w2.setCell ⟨w.heap.size + 1 + 1 + 1 + 1, 0, none⟩ (.int .i64 q.re)).setCell ⟨w.heap.size + 1 + 1 + 1 + 1, 1, none⟩ (.int .i64 q.im)) (w.heap.size + 1) 42 #[.int .i64 g.re, .int .i64 g.im] := by first | exact CellsAt.other (CellsAt.other (Fa_2) (by omega) 0 (.int .i64 q.re)) (by omega) 1 (.int .i64 q.im) | simpa using CellsAt.other (CellsAt.other (Fa_2) (by omega) 0 (.int .i64 q.re)) (by omega) 1 (.int .i64 q.im)
  have Yk_p2 : CellsAt ((w2.setCell ⟨w.heap.size + 1 + 1 + 1 + 1, 0, none⟩ (.int .i64 q.re)).setCell ⟨w.heap.size + 1 + 1 + 1 + 1, 1, none⟩ (.int .i64 q.im)) (w.heap.size + 1 + 1) 42 #[.int .i64 k.re, .int .i64 k.im] := by first | exact CellsAt.other (CellsAt.other (Fk_2) (by omega) 0 (.int .i64 q.re)) (by omega) 1 (.int .i64 q.im) | simpa using CellsAt.other (CellsAt.other (Fk_2) (by omega) 0 (.int .i64 q.re)) (by omega) 1 (.int .i64 q.im)
  have Yr_p2 : CellsAt ((w2.setCell ⟨w.heap.size + 1 + 1 + 1 + 1, 0, none⟩ (.int .i64 q.re)).setCell ⟨w.heap.size + 1 + 1 + 1 + 1, 1, none⟩ (.int .i64 q.im)) (w.heap.size + 1 + 1 + 1) 42 #[.int .i64 0, .int .i64 0] := by first | exact CellsAt.other (CellsAt.other (Fr_2) (by omega) 0 (.int .i64 q.re)) (by omega) 1 (.int .i64 q.im) | simpa using CellsAt.other (CellsAt.other (Fr_2) (by omega) 0 (.int .i64 q.re)) (by omega) 1 (.int .i64 q.im)
  have Ys_p2 : CellsAt ((w2.setCell ⟨w.heap.size + 1 + 1 + 1 + 1, 0, none⟩ (.int .i64 q.re)).setCell ⟨w.heap.size + 1 + 1 + 1 + 1, 1, none⟩ (.int .i64 q.im)) (w.heap.size + 1 + 1 + 1 + 1) 42 #[.int .i64 q.re, .int .i64 q.im] := by first | exact CellsAt.set (CellsAt.set (Fs_2) 0 (.int .i64 q.re)) 1 (.int .i64 q.im) | simpa using CellsAt.set (CellsAt.set (Fs_2) 0 (.int .i64 q.re)) 1 (.int .i64 q.im)
  have yp2 := Gr.setCell (Gr.setCell (z2) (a := ⟨w.heap.size + 1 + 1 + 1 + 1, 0, none⟩) (by first | omega | (simp only; omega)) (.int .i64 q.re)) (a := ⟨w.heap.size + 1 + 1 + 1 + 1, 1, none⟩) (by first | omega | (simp only; omega)) (.int .i64 q.im)
  refine wpG_done (by kernel_rfl) (fun w3 g3 => ?_) _
  have Fh_3 := CellsAt.gr (Yh_p2) g3
  have lh_3 := CellsAt.lt (Fh_3)
  have Fa_3 := CellsAt.gr (Ya_p2) g3
  have la_3 := CellsAt.lt (Fa_3)
  have Fk_3 := CellsAt.gr (Yk_p2) g3
  have lk_3 := CellsAt.lt (Fk_3)
  have Fr_3 := CellsAt.gr (Yr_p2) g3
  have lr_3 := CellsAt.lt (Fr_3)
  have Fs_3 := CellsAt.gr (Ys_p2) g3
  have ls_3 := CellsAt.lt (Fs_3)
  have z3 := (yp2).trans g3
  clear Yh_p2 Ya_p2 Yk_p2 Yr_p2 Ys_p2 yp2 g3
  clear hclG KS
  have cs0 := CellsAt.cell (Fs_3) 0
  have cs1 := CellsAt.cell (Fs_3) 1
  simp only [List.getElem?_toArray, List.getElem?_cons_zero, List.getElem?_cons_succ] at cs0 cs1
  have mr0 := CellsAt.frozen (Fr_3) 0
  have cr0 := CellsAt.cell (Fr_3) 0
  simp only [List.getElem?_toArray, List.getElem?_cons_zero, List.getElem?_cons_succ] at cr0
  have mr1 := CellsAt.frozen (Fr_3) 1
  have cr1 := CellsAt.cell (Fr_3) 1
  simp only [List.getElem?_toArray, List.getElem?_cons_zero, List.getElem?_cons_succ] at cr1
  go_wp2_with fail
  clear cs0 cs1 mr0 cr0 mr1 cr1
  have Yh_p3 : CellsAt ((w3.setCell ⟨w.heap.size + 1 + 1 + 1, 0, none⟩ (.int .i64 q.re)).setCell ⟨w.heap.size + 1 + 1 + 1, 1, none⟩ (.int .i64 q.im)) (w.heap.size) 37 #[.int .i64 b, .int .i64 mo, .bool inv] := by first | exact CellsAt.other (CellsAt.other (Fh_3) (by omega) 0 (.int .i64 q.re)) (by omega) 1 (.int .i64 q.im) | simpa using CellsAt.other (CellsAt.other (Fh_3) (by omega) 0 (.int .i64 q.re)) (by omega) 1 (.int .i64 q.im)
  have Ya_p3 : CellsAt ((w3.setCell ⟨w.heap.size + 1 + 1 + 1, 0, none⟩ (.int .i64 q.re)).setCell ⟨w.heap.size + 1 + 1 + 1, 1, none⟩ (.int .i64 q.im)) (w.heap.size + 1) 42 #[.int .i64 g.re, .int .i64 g.im] := by first | exact CellsAt.other (CellsAt.other (Fa_3) (by omega) 0 (.int .i64 q.re)) (by omega) 1 (.int .i64 q.im) | simpa using CellsAt.other (CellsAt.other (Fa_3) (by omega) 0 (.int .i64 q.re)) (by omega) 1 (.int .i64 q.im)
  have Yk_p3 : CellsAt ((w3.setCell ⟨w.heap.size + 1 + 1 + 1, 0, none⟩ (.int .i64 q.re)).setCell ⟨w.heap.size + 1 + 1 + 1, 1, none⟩ (.int .i64 q.im)) (w.heap.size + 1 + 1) 42 #[.int .i64 k.re, .int .i64 k.im] := by first | exact CellsAt.other (CellsAt.other (Fk_3) (by omega) 0 (.int .i64 q.re)) (by omega) 1 (.int .i64 q.im) | simpa using CellsAt.other (CellsAt.other (Fk_3) (by omega) 0 (.int .i64 q.re)) (by omega) 1 (.int .i64 q.im)
  have Yr_p3 : CellsAt ((w3.setCell ⟨w.heap.size + 1 + 1 + 1, 0, none⟩ (.int .i64 q.re)).setCell ⟨w.heap.size + 1 + 1 + 1, 1, none⟩ (.int .i64 q.im)) (w.heap.size + 1 + 1 + 1) 42 #[.int .i64 q.re, .int .i64 q.im] := by first | exact CellsAt.set (CellsAt.set (Fr_3) 0 (.int .i64 q.re)) 1 (.int .i64 q.im) | simpa using CellsAt.set (CellsAt.set (Fr_3) 0 (.int .i64 q.re)) 1 (.int .i64 q.im)
  have Ys_p3 : CellsAt ((w3.setCell ⟨w.heap.size + 1 + 1 + 1, 0, none⟩ (.int .i64 q.re)).setCell ⟨w.heap.size + 1 + 1 + 1, 1, none⟩ (.int .i64 q.im)) (w.heap.size + 1 + 1 + 1 + 1) 42 #[.int .i64 q.re, .int .i64 q.im] := by first | exact CellsAt.other (CellsAt.other (Fs_3) (by omega) 0 (.int .i64 q.re)) (by omega) 1 (.int .i64 q.im) | simpa using CellsAt.other (CellsAt.other (Fs_3) (by omega) 0 (.int .i64 q.re)) (by omega) 1 (.int .i64 q.im)
  have yp3 := Gr.setCell (Gr.setCell (z3) (a := ⟨w.heap.size + 1 + 1 + 1, 0, none⟩) (by first | omega | (simp only; omega)) (.int .i64 q.re)) (a := ⟨w.heap.size + 1 + 1 + 1, 1, none⟩) (by first | omega | (simp only; omega)) (.int .i64 q.im)
  generalize ((w3.setCell ⟨w.heap.size + 1 + 1 + 1, 0, none⟩ (.int .i64 q.re)).setCell ⟨w.heap.size + 1 + 1 + 1, 1, none⟩ (.int .i64 q.im)) = uf at *
  have cr0 := CellsAt.cell (Yr_p3) 0
  have cr1 := CellsAt.cell (Yr_p3) 1
  simp only [List.getElem?_toArray, List.getElem?_cons_zero, List.getElem?_cons_succ] at cr0 cr1
  refine bodyPost_ret (v := .agg #[.int .i64 q.re, .int .i64 q.im]) ?_ rfl ⟨rfl, yp3⟩
  simp [results, Tryz.results77, go_sem, *]

end Go.Proofs.YtmhcbphkkcmecaaGreat
