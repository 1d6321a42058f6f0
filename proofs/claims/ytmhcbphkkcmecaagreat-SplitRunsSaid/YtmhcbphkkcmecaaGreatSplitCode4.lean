/- Numbers of places, gone through one by one, and listed. -/
import Derived.Test.YtmhcbphkkcmecaaGreatTwoIter
import Derived.Test.YtmhcbphkkcmecaaGreatSplitCode3
namespace Go.Proofs.YtmhcbphkkcmecaaGreat
open Go.ChangeShapes Go.WideShapes Go.ChangeAt Go.RowKit Go.Shelf
set_option linter.unusedVariables false
set_option linter.unusedSimpArgs false
set_option maxRecDepth 100000
attribute [local go_sem] wide_fn Oper.semAt_some

theorem ofPlaces_c (px : Option Addr) (n cap : Nat) (F S : Int) (w : World) :
    Calls Tryz.prog 35 #[.slice px n cap, .int .i64 F, .int .i64 S] w fun e w' => e = .returned (.func (.func 54) #[] #[.pointer (some ⟨w.heap.size + 1, 0, none⟩), .pointer (some ⟨w.heap.size, 0, none⟩), .pointer (some ⟨w.heap.size + 1 + 1, 0, none⟩)]) ∧ w' = ((w.alloc (.cells #[.slice px n cap] 22)).alloc (.cells #[.int .i64 F] 3)).alloc (.cells #[.int .i64 S] 3) := by
  go_enter Tryz.func35, Tryz.ntmps35
  go_wp2_with fail
  go_ret
  exact ⟨by simp, rfl⟩

/-- The number of place q, of those from F on, every S. -/
def pick (xs : List Gi) (F S q : Nat) : Gi := xs.getD (F + S * q) ⟨0, 0⟩
def encG (x : Gi) : Array Value := #[.agg #[.int .i64 x.re, .int .i64 x.im]]
theorem pick_snoc (xs : List Gi) (F S q : Nat) : (List.range (q + 1)).map (pick xs F S) = (List.range q).map (pick xs F S) ++ [pick xs F S q] := by rw [List.range_succ, List.map_append]; rfl


set_option maxHeartbeats 4000000 in
/-- The iterator: a round for each number, in order. -/
theorem places1_in (n : Nat) (hn : 1 ≤ n) (l Bf Bx Bs b o N cap F S cnt : Nat) (xs : List Gi) (hl : xs.length = N) (hN64 : N ≤ 64) (hS1 : 1 ≤ S) (hS : S ≤ 64) (hcnt : ∀ q, F + S * q < N ↔ q < cnt) (hc32 : cnt ≤ 32) (hFS : F + S * cnt ≤ 200) (J Jx : List Gi → World → Prop) (W0 : World) (hJ : AbidesFrom W0.heap.size J)
    (hY : ∀ pre x W, J pre W → pre.length < 32 → YieldAt Fence.wide (n - 1) Tryz.prog l (encG x) W fun e W' =>
      (e = .returned (.bool true) ∧ J (pre ++ [x]) W' ∧ (W'.heap[Bf]? = W.heap[Bf]? ∧ W'.heap[Bx]? = W.heap[Bx]? ∧ W'.heap[Bs]? = W.heap[Bs]? ∧ W'.heap[b]? = W.heap[b]?)) ∨ (e = .returned (.bool false) ∧ Jx (pre ++ [x]) W'))
    (W : World) (hBf : Boxed W Bf 3 (.int .i64 F)) (hBx : Boxed W Bx 22 (.slice (some ⟨b, o, none⟩) N cap)) (hBs : Boxed W Bs 3 (.int .i64 S))
    (hC : ∀ j, j < N → W.cell? ⟨b, o + j * 2, none⟩ = some (.int .i64 (xs.getD j ⟨0, 0⟩).re) ∧ W.cell? ⟨b, o + j * 2 + 1, none⟩ = some (.int .i64 (xs.getD j ⟨0, 0⟩).im)) (h0 : J [] W) :
    CallsIn Fence.wide n Tryz.prog 54 #[.func (.yield l) #[] #[], .pointer (some ⟨Bf, 0, none⟩), .pointer (some ⟨Bx, 0, none⟩), .pointer (some ⟨Bs, 0, none⟩)] W fun e W' => (∃ v, e = .returned v) ∧
      ((∃ ys, ys = (List.range cnt).map (pick xs F S) ∧ J ys W') ∨ (∃ pre, True ∧ Jx pre W')) := by
  have hc := hBf.cell
  have HCN := Lib.hid hcnt
  have HC := Lib.hid hC
  have HY := Lib.hid hY
  have HFS := Lib.hid hFS
  clear hcnt hC hY hJ hFS
  refine callsIn_of_wp Tryz.func54 rfl trivial ?_ rfl
  simp only [Tryz.ntmps54, List.size_toArray, List.length_cons, List.length_nil, Nat.reduceAdd, Nat.reduceSub, Array.replicate_succ, Array.replicate_zero, List.push_toArray, List.append_toArray, List.nil_append, List.cons_append]
  gi_wp2_with fail
  gi_loopw [5] (fun i wr => ∃ q : Nat, q ≤ cnt ∧ i = .int .i64 ((F + S * q : Nat) : Int) ∧ Boxed wr Bx 22 (.slice (some ⟨b, o, none⟩) N cap) ∧ Boxed wr Bs 3 (.int .i64 S) ∧ wr.heap[b]? = W.heap[b]? ∧ J ((List.range q).map (pick xs F S)) wr) (fun i _ => 1000 - (intOf i).toNat)
  case atStart => exact ⟨0, by omega, rfl, hBx, hBs, rfl, h0⟩
  case round =>
    clear hc h0 hBf hBx hBs
    obtain ⟨q, hq, rfl, hBx, hBs, hb, hJs⟩ := hrel
    have hcx := hBx.cell
    by_cases hlt : q < cnt
    · have hp := (HCN.out q).2 hlt
      have hcc := HC.out _ hp
      have k0 : wr.cell? ⟨b, o + (F + S * q) * 2, none⟩ = some (.int .i64 (pick xs F S q).re) := by have := hcc.1; unfold World.cell? at this ⊢; rw [hb]; exact this
      have k1 : wr.cell? ⟨b, o + (F + S * q) * 2 + 1, none⟩ = some (.int .i64 (pick xs F S q).im) := by have := hcc.2; unfold World.cell? at this ⊢; rw [hb]; exact this
      obtain ⟨fn, tmps, assign, body, hy, hR⟩ := HY.out _ (pick xs F S q) wr hJs (by simp; omega)
      unfold encG at hy
      have HSN := Lib.hid (pick_snoc xs F S q)
      have hsm : S * q ≤ S * cnt := Nat.mul_le_mul_left _ hq
      have hle := HFS.out
      have hn1 : F + S * (q + 1) = F + S * q + S := by rw [Nat.mul_succ]; omega
      have hsq : S * q + S ≤ S * cnt := by have := Nat.mul_le_mul_left S (show q + 1 ≤ cnt by omega); rwa [Nat.mul_succ] at this
      have HN1 := Lib.hid hn1
      have hp2 : ((F + S * q : Nat) : Int) < N := by omega
      have hp3 : F + S * q + S ≤ 200 := by omega
      clear hcc hn1 hsm hle hsq
      generalize pick xs F S q = g at *
      generalize F + S * q = p at *
      gi_wp2_with fail
      refine hR.mono ?_
      clear hy hR k0 k1 hcx
      rintro e W3 (⟨rfl, hJ3, hk1, hk2, hk3, hk4⟩ | ⟨rfl, hJx3⟩)
      · have hBx3 : Boxed W3 Bx 22 (.slice (some ⟨b, o, none⟩) N cap) := hk2.trans hBx
        have hBs3 : Boxed W3 Bs 3 (.int .i64 S) := hk3.trans hBs
        have hb3 := hk4.trans hb
        clear hk1 hk2 hk3 hk4 hBx hBs hb hJs
        have hc3 := hBs3.cell
        gi_wp2_with fail
        go_roundw
        case rel =>
          refine ⟨q + 1, by omega, ?_, hBx3, hBs3, hb3, ?_⟩
          · rw [HN1.out]
            congr 1
          · rw [HSN.out]
            exact hJ3
        case measure => simp [intOf]; omega
      · gi_wp2
        refine bodyPost_ret (results_none rfl _ _ _) rfl ?_
        exact ⟨⟨_, rfl⟩, .inr ⟨_, trivial, hJx3⟩⟩
    · obtain rfl : q = cnt := by omega
      have hp : ¬ F + S * q < N := fun k => Nat.lt_irrefl _ ((HCN.out q).1 k)
      have hp2 : (N : Int) ≤ ((F + S * q : Nat) : Int) := by omega
      have hle := HFS.out
      clear hp HCN HC HY
      generalize F + S * q = p at *
      gi_wp2_with fail
      go_end0
      exact ⟨⟨_, rfl⟩, .inl ⟨_, rfl, hJs⟩⟩

theorem places_stops (n : Nat) (hn : 1 ≤ n) (Bf Bx Bs b o N cap F S cnt : Nat) (xs : List Gi) (hl : xs.length = N) (hN64 : N ≤ 64) (hS1 : 1 ≤ S) (hS : S ≤ 64) (hcnt : ∀ q, F + S * q < N ↔ q < cnt) (hc32 : cnt ≤ 32) (hFS : F + S * cnt ≤ 200)
    (w : World) (hf : Boxed w Bf 3 (.int .i64 F)) (hx : Boxed w Bx 22 (.slice (some ⟨b, o, none⟩) N cap)) (hs : Boxed w Bs 3 (.int .i64 S)) (hb : b < w.heap.size)
    (hC : ∀ j, j < N → w.cell? ⟨b, o + j * 2, none⟩ = some (.int .i64 (xs.getD j ⟨0, 0⟩).re) ∧ w.cell? ⟨b, o + j * 2 + 1, none⟩ = some (.int .i64 (xs.getD j ⟨0, 0⟩).im)) :
    SeqStopsK Fence.wide n Tryz.prog 54 #[.pointer (some ⟨Bf, 0, none⟩), .pointer (some ⟨Bx, 0, none⟩), .pointer (some ⟨Bs, 0, none⟩)] encG (fun A B => B.heap[Bf]? = A.heap[Bf]? ∧ B.heap[Bx]? = A.heap[Bx]? ∧ B.heap[Bs]? = A.heap[Bs]? ∧ B.heap[b]? = A.heap[b]?)
      (fun ys => ys = (List.range cnt).map (pick xs F S)) (fun _ => True) 32 w := fun l J Jx W hW hJ _ hY h0 =>
  places1_in n hn l Bf Bx Bs b o N cap F S cnt xs hl hN64 hS1 hS hcnt hc32 hFS J Jx W hJ hY W ((hW.block Bf hf.lt).trans hf) ((hW.block Bx hx.lt).trans hx) ((hW.block Bs hs.lt).trans hs)
    (fun j hj => ⟨(hW.cell (p := ⟨b, _, none⟩) hb).trans (hC j hj).1, (hW.cell (p := ⟨b, _, none⟩) hb).trans (hC j hj).2⟩) h0


set_option maxHeartbeats 4000000 in
theorem listed_c (Bf Bx Bs b o N cap F S cnt : Nat) (xs : List Gi) (hl : xs.length = N) (hN64 : N ≤ 64) (hS1 : 1 ≤ S) (hS : S ≤ 64) (hcnt : ∀ q, F + S * q < N ↔ q < cnt) (hc32 : cnt ≤ 32) (hFS : F + S * cnt ≤ 200)
    (w : World) (hf : Boxed w Bf 3 (.int .i64 F)) (hx : Boxed w Bx 22 (.slice (some ⟨b, o, none⟩) N cap)) (hs : Boxed w Bs 3 (.int .i64 S)) (hb : b < w.heap.size)
    (hC : ∀ j, j < N → w.cell? ⟨b, o + j * 2, none⟩ = some (.int .i64 (xs.getD j ⟨0, 0⟩).re) ∧ w.cell? ⟨b, o + j * 2 + 1, none⟩ = some (.int .i64 (xs.getD j ⟨0, 0⟩).im)) :
    Calls Tryz.prog 34 #[.func (.func 54) #[] #[.pointer (some ⟨Bf, 0, none⟩), .pointer (some ⟨Bx, 0, none⟩), .pointer (some ⟨Bs, 0, none⟩)]] w fun e w' => ∃ v, e = .returned v ∧ CxsAt w' v ((List.range cnt).map (pick xs F S)) ∧ Gr w w' := by
  obtain ⟨i0, hi, hz0, hz1, hz2⟩ := info_parts info_cx
  have HST := Lib.hid (places_stops 4 (by omega) Bf Bx Bs b o N cap F S cnt xs hl hN64 hS1 hS hcnt hc32 hFS w hf hx hs hb hC)
  clear hcnt hC hFS hl hN64 hS1 hS hc32
  have lf := hf.lt
  have lx := hx.lt
  have ls := hs.lt
  refine (callsIn_wide (n := 5)).1 ?_
  refine callsIn_of_wp_marks Tryz.func34 rfl trivial ?_ rfl
  simp only [Tryz.ntmps34, List.size_toArray, List.length_cons, List.length_nil, Nat.reduceAdd, Nat.reduceSub, Array.replicate_succ, Array.replicate_zero, List.push_toArray, List.append_toArray, List.nil_append, List.cons_append]
  gi_wp2_with fail
  have bO := Boxed.new w 22 (.slice none 0 0)
  have hB0 : Below w.heap.size w (w.alloc (.cells #[.slice none 0 0] 22)) := (Below.refl _ w).alloc (Nat.le_refl _) _
  refine wpIn_rangeFunc_ownH rfl (by omega) (gf := 54) (lb := #[.pointer (some ⟨Bf, 0, none⟩), .pointer (some ⟨Bx, 0, none⟩), .pointer (some ⟨Bs, 0, none⟩)]) rfl trivial (enters_of Tryz.func54 (by kernel_rfl) rfl)
    HST.out (fun h k => ⟨k.1.trans h.1, k.2.1.trans h.2.1, k.2.2.1.trans h.2.2.1, k.2.2.2.trans h.2.2.2⟩)
    (fun W l o o' hl h _ _ => ⟨World.putObj_heap_other (fun e => by simp at hl; omega), World.putObj_heap_other (fun e => by simp at hl; omega), World.putObj_heap_other (fun e => by simp at hl; omega), World.putObj_heap_other (fun e => by simp at hl; omega)⟩) hB0 (fun _ => rfl)
    (fun pre W => (∃ v, Boxed W w.heap.size 22 v ∧ W.ownsRow (w.heap.size + 1) 42 2 v pre.length (gcells pre) ∧ True) ∧ Below w.heap.size w W)
    (fun _ _ _ => False)
    (OwnFrom.and (Own.from (holdsRow_own (w.heap.size + 1) w.heap.size 22 42 2 (fun pre : List Gi => pre.length) (fun pre => gcells pre) (fun _ _ => True)) _) (ownFrom_below (Nat.le_refl _) (by simp)))
    (fun _ _ _ _ _ hs _ _ => hs)
    ⟨⟨_, bO, World.ownsRow_nil _ _ _ _, trivial⟩, hB0⟩
    (fun x a' W => ∃ Bp, w.heap.size < Bp ∧ CellsAt W Bp 42 #[.int .i64 x.re, .int .i64 x.im] ∧ a' = { tmps := #[.func (.func 54) #[] #[.pointer (some ⟨Bf, 0, none⟩), .pointer (some ⟨Bx, 0, none⟩), .pointer (some ⟨Bs, 0, none⟩)], undef, .slice none 0 0, .pointer (some ⟨w.heap.size, 0, none⟩), .pointer (some ⟨Bp, 0, none⟩), .func (.func 54) #[] #[.pointer (some ⟨Bf, 0, none⟩), .pointer (some ⟨Bx, 0, none⟩), .pointer (some ⟨Bs, 0, none⟩)], .agg #[.int .i64 x.re, .int .i64 x.im], undef, undef, undef, undef, undef], defers := [] })
    (fun x a' _ X Y row hs hg hr => by obtain ⟨Bp, e1, e2, e3⟩ := hs; exact ⟨Bp, e1, e2.grown hg (fun e' => by obtain ⟨_, o, ho, hcc⟩ := hr Bp e'.symm; rw [show X.heap[Bp]? = _ from e2] at ho; cases ho; cases hcc), e3⟩)
    ?assign ?body ?done ?stop
  case assign =>
    rintro l pre x W K ⟨⟨v, hv, hrow, _⟩, hB⟩ hK
    simp only [encG]
    have hbl := hv.lt
    have hsz := hB.size
    gi_wp2_with fail
    exact hK _ _ ((KeepsOthers.alloc _ _).from _) ⟨Below.heap_alloc _ _ _ (by omega), Below.heap_alloc _ _ _ (by omega), Below.heap_alloc _ _ _ (by omega), Below.heap_alloc _ _ _ (by omega)⟩ ⟨⟨v, hv.alloc _, hrow.alloc _, trivial⟩, hB.alloc hB.size _⟩ ⟨W.heap.size, by omega, CellsAt.new W _ _, rfl⟩
  case body =>
    rintro l pre x a' V hl ⟨r, hr⟩ ⟨⟨v, hv, hrow, _⟩, hB⟩ ⟨Bp, hBp, hP, rfl⟩ hlt
    have hc := hv.cell
    have c0 := hP.cell 0
    have c1 := hP.cell 1
    simp only [List.getElem?_toArray, List.getElem?_cons_zero, List.getElem?_cons_succ] at c0 c1
    have hbase : w.heap.size + 1 ≤ V.heap.size := by have := hv.lt; omega
    gi_wp2_with (gi_at_builtin; refine wpListIn_append_own _ rfl _ _ 22 rfl (w.heap.size + 1) 42 i0 (.agg #[.int .i64 0, .int .i64 0]) 2 16 Tryz.underlying22 hi hz0 hz1 hz2 rfl (by decide) _ _ _ rfl (hrow.alloc _) ⟨V.heap.size, 0, none⟩ 1 1 [.int .i64 x.re, .int .i64 x.im] rfl rfl (news_two _ _ _ _) (by simp [Value.oneCell']) (by unfold maxLen; omega) (by omega) (by simp; omega) ?_; intro v' w2 hown' hgrow _; obtain ⟨g', cap', rfl⟩ := ownsRow_succ hown'; obtain ⟨hv1, hv2, hr2, hk2, hb2, hb3, hg2⟩ := Boxed.appended2 hv (by omega) hrow hbase hown' hgrow; have hc1 := hv1.cell; have hf1 := hv1.frozen)
    refine ⟨hk2.from _, ⟨hb2 _ (by omega) (by omega), hb2 _ (by omega) (by omega), hb2 _ (by omega) (by omega), hb2 _ (by omega) (by omega)⟩, ⟨_, hv2, ?_, trivial⟩, hB.trans (hb3 _ (Nat.le_refl _))⟩
    have e : gcells pre ++ [.int .i64 x.re, .int .i64 x.im] = gcells (pre ++ [x]) := (gcells_snoc pre x).symm
    rw [e] at hr2
    simpa using hr2
  case done =>
    rintro D ys W hD hS ⟨⟨v, hv, hrow, _⟩, hB⟩ hK
    have hc := hv.cell
    subst hS
    gi_wp2
    refine ⟨by simp, .inl ⟨_, _, rfl, run_takeDeferred hK, ?_⟩⟩
    exact ⟨_, results_tmp rfl _ _ _, v, rfl, CxsAt.of_row (ownsRow_putObj hrow _ hK rfl), ⟨hB.trans (belowK_b (w := w) (Nat.le_refl _) W D _ _ (by simp at hD; omega) hK rfl rfl)⟩⟩
  case stop =>
    rintro D c pre W _ _ h _
    exact h.elim


end Go.Proofs.YtmhcbphkkcmecaaGreat
