/- A slice of plans in memory. · Package plan: the iterator over all plans, and Every. -/
import Derived.Test.YtomjldaonpjloaaPlanCode2
import Derived.RangeFuncNested
import Derived.RangeFuncBound
import Derived.RangeFuncCalls
import Derived.RangeFuncLeaves
import Derived.Shelf.Abstract
import Derived.Shelf.RegionOpen
import Derived.OwnWalkIn
import Derived.TacticsInMore
import Derived.LoopNIn
import Derived.LoopIn
import Derived.Maps.AppendAt
import Derived.RangeFuncBox
import Derived.Sort.QuietIn
namespace Go.Proofs.Ytomjldaonpjloaa
open Go.ChangeShapes Go.WideShapes Go.ChangeAt Go.RowKit Go.Shelf
set_option linter.unusedVariables false
set_option linter.unusedSimpArgs false
set_option maxRecDepth 100000
theorem wideP (f : FuncId) : Fence.wide.fn f = True := rfl
attribute [local go_sem] wideP Oper.semAt_some


/-- A plan's six cells. -/
def pcell (p : PlanV) : List Value := [.int .i64 (p).fo, .int .i64 (p).lo, .int .i64 (p).ke, .int .i64 (p).sc, .int .i64 (p).mo, .bool (p).iv]
def encP (p : PlanV) : Array Value := #[.agg #[.int .i64 (p).fo, .int .i64 (p).lo, .int .i64 (p).ke, .int .i64 (p).sc, .int .i64 (p).mo, .bool (p).iv]]
theorem pcell_len (p : PlanV) : (pcell p).length = 6 := rfl

/-- The cells of a row of plans. -/
def pcells : List PlanV → List Value
  | [] => []
  | a :: xs => pcell a ++ pcells xs
/-- The slice value v holds the plans ps. -/
def PlansAt (w : World) (v : Value) (ps : List PlanV) : Prop :=
  ∃ p cap, v = .slice p ps.length cap ∧ ps.length ≤ cap ∧ cap ≤ maxLen ∧ (ps ≠ [] → ∃ b o, p = some ⟨b, o, none⟩ ∧ b < w.heap.size ∧ ∀ (i : Nat) u, (pcells ps)[i]? = some u → w.cell? ⟨b, o + i, none⟩ = some u)

theorem PlansAt.gr {w w' : World} {v : Value} {ps : List PlanV} (h : PlansAt w v ps) (hg : Gr w w') : PlansAt w' v ps := by
  obtain ⟨p, cap, hv, hl, hm, hc⟩ := h
  refine ⟨p, cap, hv, hl, hm, fun hx => ?_⟩
  obtain ⟨b, o, hp, hb, hc⟩ := hc hx
  exact ⟨b, o, hp, Nat.lt_of_lt_of_le hb hg.size, fun i u hi => (hg.cell (p := ⟨b, o + i, none⟩) hb).trans (hc i u hi)⟩

theorem PlansAt.nil (w : World) : PlansAt w (.slice none 0 0) [] := ⟨none, 0, rfl, Nat.le_refl _, Nat.zero_le _, fun h => absurd rfl h⟩

theorem pcells_len (xs : List PlanV) : (pcells xs).length = xs.length * 6 := by
  induction xs with
  | nil => rfl
  | cons a xs ih => simp only [pcells, List.length_append, List.length_cons, ih, pcell_len]; omega
theorem pcells_app (xs ys : List PlanV) : pcells (xs ++ ys) = pcells xs ++ pcells ys := by
  induction xs with
  | nil => rfl
  | cons b xs ih => simp only [List.cons_append, pcells, ih, List.append_assoc]
theorem pcells_snoc (xs : List PlanV) (a : PlanV) : pcells (xs ++ [a]) = pcells xs ++ pcell a := by
  rw [pcells_app]
  simp [pcells]
theorem pcells_at (xs : List PlanV) (j : Nat) (a : PlanV) (h : xs[j]? = some a) (i : Nat) (u : Value) (hi : (pcell a)[i]? = some u) : (pcells xs)[j * 6 + i]? = some u := by
  induction xs generalizing j with
  | nil => cases h
  | cons b xs ih =>
    cases j with
    | zero =>
      simp only [List.getElem?_cons_zero, Option.some.injEq] at h
      subst h
      have hl : i < (pcell b).length := (List.getElem?_eq_some_iff.1 hi).1
      rw [Nat.zero_mul, Nat.zero_add]
      simp only [pcells]
      rw [List.getElem?_append_left hl]
      exact hi
    | succ j =>
      have := ih j (by simpa using h)
      simp only [pcells]
      rw [List.getElem?_append_right (by rw [pcell_len]; omega), pcell_len, show (j + 1) * 6 + i - 6 = j * 6 + i by omega]
      exact this

theorem PlansAt.at {w : World} {v : Value} {ps : List PlanV} (h : PlansAt w v ps) (hx : ps ≠ []) : ∃ b o cap, v = .slice (some ⟨b, o, none⟩) ps.length cap ∧ ps.length ≤ 9223372036854775807 ∧ b < w.heap.size ∧ (∀ (i : Nat) u, (pcells ps)[i]? = some u → w.cell? ⟨b, o + i, none⟩ = some u) ∧
    ∀ (j : Nat) x, ps[j]? = some x → w.cell? ⟨b, o + j * 6, none⟩ = some (.int .i64 x.fo) ∧ w.cell? ⟨b, o + j * 6 + 1, none⟩ = some (.int .i64 x.lo) ∧ w.cell? ⟨b, o + j * 6 + 2, none⟩ = some (.int .i64 x.ke) ∧ w.cell? ⟨b, o + j * 6 + 3, none⟩ = some (.int .i64 x.sc) ∧ w.cell? ⟨b, o + j * 6 + 4, none⟩ = some (.int .i64 x.mo) ∧ w.cell? ⟨b, o + j * 6 + 5, none⟩ = some (.bool x.iv) := by
  obtain ⟨p, cap, hv, hl, hm, hc⟩ := h
  obtain ⟨b, o, rfl, hb, hc⟩ := hc hx
  refine ⟨b, o, cap, hv, by unfold maxLen at hm; omega, hb, hc, fun j x hj => ⟨hc _ _ (pcells_at ps j x hj 0 _ rfl), ?_, ?_, ?_, ?_, ?_⟩⟩
  all_goals rw [Nat.add_assoc]
  · exact hc _ _ (pcells_at ps j x hj 1 _ rfl)
  · exact hc _ _ (pcells_at ps j x hj 2 _ rfl)
  · exact hc _ _ (pcells_at ps j x hj 3 _ rfl)
  · exact hc _ _ (pcells_at ps j x hj 4 _ rfl)
  · exact hc _ _ (pcells_at ps j x hj 5 _ rfl)

theorem PlansAt.of_row {w : World} {base n : Nat} {t : TypeId} {v : Value} {xs : List PlanV} (h : w.ownsRow base t 6 v n (pcells xs)) : PlansAt w v xs := by
  have hl := h.1
  rw [pcells_len] at hl
  have hn : n = xs.length := by omega
  have hc := fun g hg => h.cells (g := g) hg
  rcases h.2 with ⟨hv, h0⟩ | ⟨g, cap, cur, rfl, hb, hg, hnc, hm, hs, ht⟩
  · have : xs = [] := List.length_eq_zero_iff.1 (by omega)
    subst this
    rw [hv]
    exact PlansAt.nil w
  · refine ⟨some ⟨g, 0, none⟩, cap, by rw [hn], by omega, hm, fun _ => ⟨g, 0, rfl, (Array.getElem?_eq_some_iff.1 hg).1, fun i u hi => ?_⟩⟩
    have k1 := hc g rfl _ _ hi
    rw [Addr.add_lit] at k1
    exact k1

theorem info_plan : (Try.prog.info? 23).map (fun i => (i.zero, i.size, i.bytes)) = some (some (.agg #[.int .i64 0, .int .i64 0, .int .i64 0, .int .i64 0, .int .i64 0, .bool false]), 6, 48) := by kernel_rfl
theorem news_six (W : World) (a b c d e f : Value) (t : TypeId) : ∀ j u, [a, b, c, d, e, f][j]? = some u → (W.alloc (.cells #[a, b, c, d, e, f] t)).cell? ((⟨W.heap.size, 0, none⟩ : Addr).add j) = some u := by
  intro j u h
  rw [Addr.add_lit, (CellsAt.new W t #[a, b, c, d, e, f]).cell]
  simpa using h

theorem plans_c (w : World) :
    Calls Try.prog 30 #[] w fun e w' => e = .returned (.func (.func 47) #[] #[]) ∧ w' = w := by
  go_enter Try.func30, Try.ntmps30
  go_wp2_with fail
  go_ret
  exact ⟨by simp, rfl⟩


set_option maxHeartbeats 4000000 in
/-- The iterator: a round for each plan that may be, in order. -/
theorem plans1_in (n : Nat) (hn : 1 ≤ n) (l : Nat) (J Jx : List PlanV → World → Prop) (W0 : World) (hJ : AbidesFrom W0.heap.size J)
    (hY : ∀ pre x W, J pre W → pre.length < 540 → YieldAt Fence.wide (n - 1) Try.prog l (encP x) W fun e W' =>
      (e = .returned (.bool true) ∧ J (pre ++ [x]) W' ∧ True) ∨ (e = .returned (.bool false) ∧ Jx (pre ++ [x]) W'))
    (W : World) (h0 : J [] W) :
    CallsIn Fence.wide n Try.prog 47 #[.func (.yield l) #[] #[]] W fun e W' => (∃ v, e = .returned v) ∧
      ((∃ ys, ys = everyL ∧ J ys W') ∨ (∃ pre, True ∧ Jx pre W')) := by
  have HY := Lib.hid hY
  have HJ := Lib.hid hJ
  clear hY hJ
  refine callsIn_of_wp Try.func47 rfl trivial ?_ rfl
  simp only [Try.ntmps47, List.size_toArray, List.length_cons, List.length_nil, Nat.reduceAdd, Nat.reduceSub, Array.replicate_succ, Array.replicate_zero, List.push_toArray, List.append_toArray, List.nil_append, List.cons_append]
  gi_wp2_with fail
  gi_loopw [4] (fun i wr => ∃ k : Nat, k ≤ 540 ∧ i = .int .i64 k ∧ J (upN k) wr) (fun i _ => 540 - (intOf i).toNat)
  case atStart => exact ⟨0, by omega, rfl, h0⟩
  case round =>
    clear h0
    obtain ⟨k, hk, rfl, hJs⟩ := hrel
    by_cases hlt : k < 540
    · have HN := Lib.hid (numbered_c k hlt)
      have hup := upN_succ k
      have hln := upN_len k
      obtain ⟨er, her⟩ : ∃ er, (if okF (planN k).fo (planN k).lo (planN k).ke (planN k).sc (planN k).mo = true then (0 : Int) else 4) = er := ⟨_, rfl⟩
      have HC := Lib.hid (check_c (planN k).fo (planN k).lo (planN k).ke (planN k).sc (planN k).mo (planN k).iv er her)
      have hco : (okP (planN k) = true ∧ er = 0) ∨ (okP (planN k) = false ∧ er = 4) := by
        unfold okP
        cases hq : okF (planN k).fo (planN k).lo (planN k).ke (planN k).sc (planN k).mo
        · right; rw [hq] at her; simp at her; exact ⟨rfl, her.symm⟩
        · left; rw [hq] at her; simp at her; exact ⟨rfl, her.symm⟩
      clear her
      have HU := Lib.hid hup
      clear hup
      generalize planN k = x at *
      have hltI : (k : Int) < 540 := by omega
      gi_wp2_with fail
      refine (callsIn_wide.2 (HN.out _)).mono ?_
      rintro e w1 ⟨rfl, g1⟩
      have J1 := HJ.out _ _ _ none hJs g1.by' (fun r e => by cases e)
      clear hJs g1 HN
      obtain ⟨u1, hu1⟩ : ∃ uu, uu = w1.alloc (.cells #[.int .i64 (x).fo, .int .i64 (x).lo, .int .i64 (x).ke, .int .i64 (x).sc, .int .i64 (x).mo, .bool (x).iv] 23) := ⟨_, rfl⟩
      have R1 : CellsAt u1 w1.heap.size 23 #[.int .i64 (x).fo, .int .i64 (x).lo, .int .i64 (x).ke, .int .i64 (x).sc, .int .i64 (x).mo, .bool (x).iv] := by rw [hu1]; exact CellsAt.new w1 23 #[.int .i64 (x).fo, .int .i64 (x).lo, .int .i64 (x).ke, .int .i64 (x).sc, .int .i64 (x).mo, .bool (x).iv]
      have J2 : J (upN k) u1 := by rw [hu1]; exact HJ.out _ _ _ none J1 ((Gr.refl w1).alloc _ _).by' (fun r e => by cases e)
      clear J1
      have l1 := R1.lt
      have c0 := R1.cell 0
      have c1 := R1.cell 1
      have c2 := R1.cell 2
      have c3 := R1.cell 3
      have c4 := R1.cell 4
      have c5 := R1.cell 5
      simp only [List.getElem?_toArray, List.getElem?_cons_zero, List.getElem?_cons_succ] at c0 c1 c2 c3 c4 c5
      gi_wp2_with fail
      rw [← hu1]
      clear hu1
      refine (callsIn_wide.2 (HC.out _)).mono ?_
      rintro e w2 ⟨rfl, g2⟩
      have R2 := R1.gr g2
      have J3 := HJ.out _ _ _ none J2 g2.by' (fun r e => by cases e)
      clear J2 g2 R1 l1 c0 c1 c2 c3 c4 c5 HC
      have l2 := R2.lt
      have c0 := R2.cell 0
      have c1 := R2.cell 1
      have c2 := R2.cell 2
      have c3 := R2.cell 3
      have c4 := R2.cell 4
      have c5 := R2.cell 5
      simp only [List.getElem?_toArray, List.getElem?_cons_zero, List.getElem?_cons_succ] at c0 c1 c2 c3 c4 c5
      rcases hco with ⟨hok, rfl⟩ | ⟨hok, rfl⟩
      · obtain ⟨fn, tmps, assign, body, hy, hR⟩ := HY.out _ x w2 J3 (Nat.lt_of_le_of_lt hln hlt)
        unfold encP at hy
        gi_wp2_with fail
        refine hR.mono ?_
        clear hy hR
        rintro e W3 (⟨rfl, hJ3, _⟩ | ⟨rfl, hJx3⟩)
        · gi_wp2_with fail
          go_roundw
          case rel =>
            refine ⟨k + 1, by omega, by go_num, ?_⟩
            rw [HU.out, if_pos hok]
            exact hJ3
          case measure => simp [intOf]; omega
        · gi_wp2
          refine bodyPost_ret (results_none rfl _ _ _) rfl ?_
          exact ⟨⟨_, rfl⟩, .inr ⟨_, trivial, hJx3⟩⟩
      · gi_wp2_with fail
        go_roundw
        case rel =>
          refine ⟨k + 1, by omega, by go_num, ?_⟩
          rw [HU.out, hok, if_neg (by simp), List.append_nil]
          exact J3
        case measure => simp [intOf]; omega
    · obtain rfl : k = 540 := by omega
      gi_wp2_with fail
      go_end0
      exact ⟨⟨_, rfl⟩, .inl ⟨_, rfl, hJs⟩⟩

theorem plans_stops (n : Nat) (hn : 1 ≤ n) (w : World) :
    SeqStopsK Fence.wide n Try.prog 47 #[] encP (fun A B => True) (fun ys => ys = everyL) (fun _ => True) 540 w := fun l J Jx W hW hJ _ hY h0 =>
  plans1_in n hn l J Jx W hJ hY W h0


set_option maxHeartbeats 4000000 in
theorem every_c (w : World) :
    Calls Try.prog 14 #[] w fun e w' => ∃ v, e = .returned v ∧ PlansAt w' v everyL ∧ Gr w w' := by
  obtain ⟨i0, hi, hz0, hz1, hz2⟩ := info_parts info_plan
  have HP := Lib.hid plans_c
  refine (callsIn_wide (n := 5)).1 ?_
  refine callsIn_of_wp_marks Try.func14 rfl trivial ?_ rfl
  simp only [Try.ntmps14, List.size_toArray, List.length_cons, List.length_nil, Nat.reduceAdd, Nat.reduceSub, Array.replicate_succ, Array.replicate_zero, List.push_toArray, List.append_toArray, List.nil_append, List.cons_append]
  gi_wp2_with (gi_at_call 30; refine (callsIn_wide.2 (HP.out _)).mono ?_; rintro e w1 ⟨rfl, rfl⟩)
  have bO := Boxed.new w 33 (.slice none 0 0)
  have hB0 : Below w.heap.size w (w.alloc (.cells #[.slice none 0 0] 33)) := (Below.refl _ w).alloc (Nat.le_refl _) _
  refine wpIn_rangeFunc_ownH rfl (by omega) (gf := 47) (lb := #[]) rfl trivial (enters_of Try.func47 (by kernel_rfl) rfl)
    (plans_stops 4 (by omega) w) (fun h k => trivial)
    (fun W l o o' hl h _ _ => trivial) hB0 (fun _ => rfl)
    (fun pre W => (∃ v, Boxed W w.heap.size 33 v ∧ W.ownsRow (w.heap.size + 1) 23 6 v pre.length (pcells pre) ∧ True) ∧ Below w.heap.size w W)
    (fun _ _ _ => False)
    (OwnFrom.and (Own.from (holdsRow_own (w.heap.size + 1) w.heap.size 33 23 6 (fun pre : List PlanV => pre.length) (fun pre => pcells pre) (fun _ _ => True)) _) (ownFrom_below (Nat.le_refl _) (by simp)))
    (fun _ _ _ _ _ hs _ _ => hs)
    ⟨⟨_, bO, World.ownsRow_nil _ _ _ _, trivial⟩, hB0⟩
    (fun x a' W => ∃ Bp, w.heap.size < Bp ∧ CellsAt W Bp 23 #[.int .i64 (x).fo, .int .i64 (x).lo, .int .i64 (x).ke, .int .i64 (x).sc, .int .i64 (x).mo, .bool (x).iv] ∧ a' = { tmps := #[.slice none 0 0, .pointer (some ⟨w.heap.size, 0, none⟩), .pointer (some ⟨Bp, 0, none⟩), .func (.func 47) #[] #[], .agg #[.int .i64 (x).fo, .int .i64 (x).lo, .int .i64 (x).ke, .int .i64 (x).sc, .int .i64 (x).mo, .bool (x).iv], undef, undef, undef, undef, undef], defers := [] })
    (fun x a' _ X Y row hs hg hr => by obtain ⟨Bp, e1, e2, e3⟩ := hs; exact ⟨Bp, e1, e2.grown hg (fun e' => by obtain ⟨_, o, ho, hcc⟩ := hr Bp e'.symm; rw [show X.heap[Bp]? = _ from e2] at ho; cases ho; cases hcc), e3⟩)
    ?assign ?body ?done ?stop
  case assign =>
    rintro l pre x W K ⟨⟨v, hv, hrow, _⟩, hB⟩ hK
    simp only [encP]
    have hbl := hv.lt
    have hsz := hB.size
    gi_wp2_with fail
    exact hK _ _ ((KeepsOthers.alloc _ _).from _) trivial ⟨⟨v, hv.alloc _, hrow.alloc _, trivial⟩, hB.alloc hB.size _⟩ ⟨W.heap.size, by omega, CellsAt.new W _ _, rfl⟩
  case body =>
    rintro l pre x a' V hl ⟨r, hr⟩ ⟨⟨v, hv, hrow, _⟩, hB⟩ ⟨Bp, hBp, hP, rfl⟩ hlt
    have hc := hv.cell
    have c0 := hP.cell 0
    have c1 := hP.cell 1
    have c2 := hP.cell 2
    have c3 := hP.cell 3
    have c4 := hP.cell 4
    have c5 := hP.cell 5
    simp only [List.getElem?_toArray, List.getElem?_cons_zero, List.getElem?_cons_succ] at c0 c1 c2 c3 c4 c5
    have hbase : w.heap.size + 1 ≤ V.heap.size := by have := hv.lt; omega
    gi_wp2_with (gi_at_builtin; refine wpListIn_append_own _ rfl _ _ 33 rfl (w.heap.size + 1) 23 i0 _ 6 48 Try.underlying33 hi hz0 hz1 hz2 rfl (by decide) _ _ _ rfl (hrow.alloc _) ⟨V.heap.size, 0, none⟩ 1 1 (pcell x) rfl rfl (news_six _ _ _ _ _ _ _ _) (by simp [Value.oneCell', pcell]) (by unfold maxLen; omega) (by omega) (by simp; omega) ?_; intro v' w2 hown' hgrow _; obtain ⟨g', cap', rfl⟩ := ownsRow_succ hown'; obtain ⟨hv1, hv2, hr2, hk2, hb2, hb3, hg2⟩ := Boxed.appended2 hv (by omega) hrow hbase hown' hgrow; have hc1 := hv1.cell; have hf1 := hv1.frozen)
    refine ⟨hk2.from _, trivial, ⟨_, hv2, ?_, trivial⟩, hB.trans (hb3 _ (Nat.le_refl _))⟩
    have e : pcells pre ++ pcell x = pcells (pre ++ [x]) := (pcells_snoc pre x).symm
    rw [e] at hr2
    simpa using hr2
  case done =>
    rintro D ys W hD hS ⟨⟨v, hv, hrow, _⟩, hB⟩ hK
    have hc := hv.cell
    subst hS
    gi_wp2
    refine ⟨by simp, .inl ⟨_, _, rfl, run_takeDeferred hK, ?_⟩⟩
    exact ⟨_, results_tmp rfl _ _ _, v, rfl, PlansAt.of_row (ownsRow_putObj hrow _ hK rfl), ⟨hB.trans (belowK_b (w := w) (Nat.le_refl _) W D _ _ (by simp at hD; omega) hK rfl rfl)⟩⟩
  case stop =>
    rintro D c pre W _ _ h _
    exact h.elim

end Go.Proofs.Ytomjldaonpjloaa
