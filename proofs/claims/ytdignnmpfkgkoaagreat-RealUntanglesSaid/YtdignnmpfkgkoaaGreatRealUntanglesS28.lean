import Derived.RangeFuncNested
import Derived.RangeFuncBound
import Derived.RangeFuncCalls
import Derived.RangeFuncLeaves
import Derived.Shelf.Abstract
import Derived.Shelf.RegionOpen
import Derived.OwnWalkIn
import Derived.TacticsInMore
import Derived.LoopNIn
import Derived.LoopIn
import Derived.Test.YtdignnmpfkgkoaaGreatRealUntanglesS9
import Derived.Test.YtdignnmpfkgkoaaGreatRealUntanglesS12
namespace Go.Proofs.YtdignnmpfkgkoaaGreat
section
open Go.ChangeShapes Go.WideShapes Go.ChangeAt Go.RowKit Go.Shelf
set_option linter.unusedVariables false
set_option maxRecDepth 100000
theorem wideA_fn (f : FuncId) : Fence.wide.fn f = True := rfl
attribute [local go_sem] wideA_fn Oper.semAt_some
theorem divided_c (x d : Int) (wx : -9223372036854775808 ≤ x ∧ x ≤ 9223372036854775807) (h : 1 ≤ d) (w : World) :
 Calls Tryz.prog 231 #[.int .i64 x, .int .i64 d] w fun e w' => e = .returned (.int .i64 (x / d)) ∧ w' = w := by
 have HD := Lib.hid (div_ok x d wx h)
 clear wx h
 go_enter Tryz.func231, Tryz.ntmps231
 go_wp2_with (go_at_call 235; refine (HD.out _).mono ?_; rintro e w2 ⟨rfl, rfl⟩)
 go_ret
 exact ⟨rfl, rfl⟩
theorem hasArc_yes (x : Int) (h0 : 2 ≤ x) (h1 : x ≤ 17592186044416) (w : World) :
 Calls Tryz.prog 240 #[.int .i64 x] w fun e w' => e = .returned (.bool true) ∧ w' = w := by
 go_enter Tryz.func240, Tryz.ntmps240
 go_wp2
 go_ret
 exact ⟨rfl, rfl⟩
theorem terms_c (x : Int) (w : World) :
 Calls Tryz.prog 227 #[.int .i64 x] w fun e w' => e = .returned (.func (.func 230) #[] #[.pointer (some ⟨w.heap.size, 0, none⟩)]) ∧ w' = w.alloc (.cells #[.int .i64 x] 3) := by
 go_enter Tryz.func227, Tryz.ntmps227
 go_wp2
 go_ret
 exact ⟨rfl, rfl⟩
def IsT (m : Nat) (ys : List Int) : Prop := ∃ k, k ≤ 28 ∧ arcP m k = 0 ∧ (∀ j, j < k → 0 < arcP m j) ∧ ys = (List.range k).map (arcT m)
def sgn (j : Nat) : Int := if j % 2 = 1 then -1 else 1
theorem sgn_mul (m j : Nat) : sgn j * ((arcP m j : Int) / (2 * (j : Int) + 1)) = arcT m j := by
 have e : (arcP m j : Int) / (2 * (j : Int) + 1) = (arcM m j : Int) := by
  rw [arcM, Int.natCast_ediv]; simp
 rw [e, sgn, arcT]
 split <;> omega
theorem sgn_succ (j : Nat) : -sgn j = sgn (j + 1) := by
 unfold sgn
 by_cases h : j % 2 = 1
 ·rw [if_pos h, if_neg (by omega)]; rfl
 ·rw [if_neg h, if_pos (by omega)]
theorem sgn_bd (j : Nat) : -1 ≤ sgn j ∧ sgn j ≤ 1 := by unfold sgn; split <;> omega
theorem arcT_bd (m j : Nat) (h : 2 ≤ m) : -36028797018963968 ≤ arcT m j ∧ arcT m j ≤ 36028797018963968 := by
 have := arcM_top m j h
 unfold arcT
 split <;> omega
theorem arcP_cast (m j : Nat) : (arcP m (j + 1) : Int) = (arcP m j : Int) / (m : Int) / (m : Int) := by
 rw [arcP, Int.natCast_ediv, Int.natCast_ediv]
theorem arcL_succ (m j : Nat) : (List.range (j + 1)).map (arcT m) = (List.range j).map (arcT m) ++ [arcT m j] := by
 rw [List.range_succ, List.map_append]; rfl
set_option maxRecDepth 100000 in set_option maxHeartbeats 2000000 in
theorem terms1_in (n : Nat) (hn : 1 ≤ n) (l Bn B0 m : Nat) (m0 : 2 ≤ m) (m1 : m ≤ 17592186044416) (J Jx : List Int → World → Prop) (W0 : World) (hJ : AbidesFrom W0.heap.size J)
 (hY : ∀ pre x W, J pre W → pre.length < 28 → YieldAt Fence.wide (n - 1) Tryz.prog l #[.int .i64 x] W fun e W' =>
  (e = .returned (.bool true) ∧ J (pre ++ [x]) W' ∧ W'.heap[Bn]? = W.heap[Bn]?) ∨ (e = .returned (.bool false) ∧ Jx (pre ++ [x]) W'))
 (W : World) (hBn : Boxed W Bn 3 (.int .i64 m)) (h0 : J [] W) :
 CallsIn Fence.wide n Tryz.prog 230 #[.func (.yield l) #[] #[], .pointer (some ⟨Bn, 0, none⟩)] W fun e W' => (∃ v, e = .returned v) ∧
  ((∃ ys, IsT m ys ∧ J ys W') ∨ (∃ pre, True ∧ Jx pre W')) := by
 have hc := hBn.cell
 have HD1 := Lib.hid (divided_c 72057594037927936 m (by omega) (by omega))
 have e0 : ((72057594037927936 : Int) / (m : Int)) = (arcP m 0 : Int) := by rw [arcP, Int.natCast_ediv]; rfl
 rw [e0] at HD1
 clear e0
 have M1 := Lib.hid m1
 refine callsIn_of_wp Tryz.func230 rfl trivial ?_ rfl
 simp only [Tryz.ntmps230, List.size_toArray, List.length_cons, List.length_nil, Nat.reduceAdd, Nat.reduceSub, Array.replicate_succ, Array.replicate_zero, List.push_toArray, List.append_toArray, List.nil_append, List.cons_append]
 gi_wp2_with (gi_at_call 231; refine (callsIn_wide.2 (HD1.out _)).mono ?_; rintro e w2 ⟨rfl, rfl⟩)
 gi_loopw [3, 4, 5] (fun s d p wr => ∃ j : Nat, j ≤ 28 ∧ s = .int .i64 (sgn j) ∧ d = .int .i64 (2 * (j : Int) + 1) ∧ p = .int .i64 (arcP m j) ∧ Boxed wr Bn 3 (.int .i64 m) ∧ (∀ i, i < j → 0 < arcP m i) ∧ J ((List.range j).map (arcT m)) wr)
  (fun _ d _ _ => 100 - (intOf d).toNat)
 case atStart =>
  exact ⟨0, by omega, rfl, rfl, rfl, hBn, fun i hi => absurd hi (Nat.not_lt_zero _), h0⟩
 case round =>
  clear hc h0 hBn
  obtain ⟨j, hj, rfl, rfl, rfl, hb, hl, hJs⟩ := hrel
  have hc := hb.cell
  by_cases hp : arcP m j = 0
  ·have hp' : ((arcP m j : Int) != 0) = false := by simp [hp]
   gi_wp2
   go_end0
   exact ⟨⟨_, rfl⟩, .inl ⟨_, ⟨j, hj, hp, hl, rfl⟩, hJs⟩⟩
  ·have hp' : ((arcP m j : Int) != 0) = true := by simpa using hp
   have hj28 := arcP_live m j m0 (by omega)
   obtain ⟨fn, tmps, assign, body, hy, hR⟩ := hY _ (arcT m j) wr hJs (by simpa using hj28)
   have ht := arcP_top m j m0
   have HD := Lib.hid (divided_c (arcP m j) (2 * (j : Int) + 1) (by omega) (by omega))
   have E : wrap64 (sgn j * ((arcP m j : Int) / (2 * (j : Int) + 1))) = arcT m j := by
    rw [sgn_mul]
    have := arcT_bd m j m0
    exact IntWalk.wrap64_in _ ⟨by omega, by omega⟩
   rw [← E] at hy
   have HT := Lib.hid ht
   have HE := Lib.hid E
   clear E ht hc
   have hc := hb.cell
   gi_wp2_with (gi_at_call 231; refine (callsIn_wide.2 (HD.out _)).mono ?_; rintro e w2 ⟨rfl, rfl⟩)
   refine hR.mono ?_
   clear hy hR
   rintro e W3 (⟨rfl, hJ3, hk3⟩ | ⟨rfl, hJx3⟩)
   ·have hb3 : Boxed W3 Bn 3 (.int .i64 m) := hk3.trans hb
    clear hc hJs hk3
    have hc3 := hb3.cell
    have ht := HT.out
    have HA := Lib.hid (divided_c (arcP m j) m (by omega) (by omega))
    have hq : (arcP m j : Int) / (m : Int) ≤ 36028797018963968 := Int.le_trans (Int.ediv_le_self _ (by omega)) (by omega)
    have hq0 : 0 ≤ (arcP m j : Int) / (m : Int) := Int.ediv_nonneg (by omega) (by omega)
    have HB := Lib.hid (divided_c ((arcP m j : Int) / (m : Int)) m (by omega) (by omega))
    rw [← arcP_cast] at HB
    have sb := sgn_bd j
    clear ht hq hq0
    gi_wp2_with fail
    clear sb
    gi_quiet (first | (gi_at_call 231; with_reducible refine CallsIn.quiet_of_same (callsIn_wide.2 (HA.out _))) | (gi_at_call 231; with_reducible refine CallsIn.quiet_of_same (callsIn_wide.2 (HB.out _))))
    have hJ4 : J ((List.range (j + 1)).map (arcT m)) (W3.drewN nq) := by
     rw [arcL_succ]
     exact hJ _ _ _ none hJ3 ⟨rfl, rfl, rfl, Nat.le_refl _, fun _ _ _ => rfl⟩ (fun r e => by cases e)
    go_roundw
    case rel =>
     (repeat apply Exists.intro)
     refine ⟨?_, rfl⟩
     refine ⟨j + 1, by omega, by rw [sgn_succ], ?_, rfl, hb3, fun i hi => ?_, hJ4⟩
     ·congr 1
     ·by_cases hij : i = j
      ·rw [hij]; omega
      ·exact hl i (by omega)
    case measure => simp [intOf]; omega
   ·gi_wp2
    refine bodyPost_ret (results_none rfl _ _ _) rfl ?_
    exact ⟨⟨_, rfl⟩, .inr ⟨_, trivial, hJx3⟩⟩
theorem terms_stops (n : Nat) (hn : 1 ≤ n) (Bn m : Nat) (m0 : 2 ≤ m) (m1 : m ≤ 17592186044416) (w : World) (hb : Boxed w Bn 3 (.int .i64 m)) :
 SeqStopsK Fence.wide n Tryz.prog 230 #[.pointer (some ⟨Bn, 0, none⟩)] (fun x : Int => #[Value.int .i64 x]) (fun A B => B.heap[Bn]? = A.heap[Bn]?) (IsT m) (fun _ => True) 28 w := fun l J Jx W hW hJ _ hY h0 =>
 terms1_in n hn l Bn 0 m m0 m1 J Jx W hJ hY W ((hW.block Bn hb.lt).trans hb) h0
def sumW (xs : List Int) : Int := xs.foldl (fun s x => wrap64 (s + x)) 0
theorem sumW_snoc (xs : List Int) (x : Int) : sumW (xs ++ [x]) = wrap64 (sumW xs + x) := by simp [sumW]
theorem sumW_arc (m : Nat) (h : 2 ≤ m) : ∀ k, sumW ((List.range k).map (arcT m)) = arcS m k
 | 0 => rfl
 | k + 1 => by
   rw [arcL_succ, sumW_snoc, sumW_arc m h k]
   have := arcS_bd m (k + 1) h
   exact IntWalk.wrap64_in _ ⟨by rw [arcS] at this; omega, by rw [arcS] at this; omega⟩
theorem IsT.sum {m : Nat} {ys : List Int} (h : IsT m ys) (m0 : 2 ≤ m) : sumW ys = (arcOf m : Int) := by
 obtain ⟨k, hk, h0, _, rfl⟩ := h
 rw [sumW_arc m m0, arcS_all m k m0 (by omega) h0]
set_option maxRecDepth 100000 in set_option maxHeartbeats 2000000 in
theorem sum_c (Bn m : Nat) (m0 : 2 ≤ m) (m1 : m ≤ 17592186044416) (w : World) (hbn : Boxed w Bn 3 (.int .i64 m)) :
 CW 226 #[.func (.func 230) #[] #[.pointer (some ⟨Bn, 0, none⟩)]] w (.int .i64 (arcOf m)) :=by
 delta CW
 refine (callsIn_wide (n := 5)).1 ?_
 refine callsIn_of_wp_marks Tryz.func226 rfl trivial ?_ rfl
 simp only [Tryz.ntmps226, List.size_toArray, List.length_cons, List.length_nil, Nat.reduceAdd, Nat.reduceSub, Array.replicate_succ, Array.replicate_zero, List.push_toArray, List.append_toArray, List.nil_append, List.cons_append]
 gi_wp2
 have hs := And.intro (Boxed.new w 3 (.int .i64 0)).cell (Boxed.new w 3 (.int .i64 0)).frozen
 have hB0 : Below w.heap.size w (w.alloc (.cells #[.int .i64 0] 3)) := (Below.refl _ w).alloc (Nat.le_refl _) _
 refine wpIn_rangeFunc_ownF rfl (by omega) (gf := 230) (lb := #[.pointer (some ⟨Bn, 0, none⟩)]) rfl trivial (enters_of Tryz.func230 (by kernel_rfl) rfl)
  (terms_stops 4 (by omega) Bn m m0 m1 w hbn) (fun h k => k.trans h)
  (fun W l o o' hl h _ _ => World.putObj_heap_other (fun e => by have := hbn.lt; simp at hl; omega)) hB0 (fun _ => rfl)
  (fun pre W => (W.cell? ⟨w.heap.size, 0, none⟩ = some (.int .i64 (sumW pre)) ∧ W.frozen? ⟨w.heap.size, 0, none⟩ = false) ∧ Below w.heap.size w W)
  (fun _ _ _ => False)
  (OwnFrom.and (Own.from (fun s A B row hs hg hr => ⟨cell_kept hs.1 hg hr, (frozen_kept hs.1 hg hr).trans hs.2⟩) _) (ownFrom_below (Nat.le_refl _) (by simp)))
  (fun _ _ _ _ _ hs _ _ => hs)
  ⟨⟨hs.1, hs.2⟩, hB0⟩
  (fun x => { tmps := #[.func (.func 230) #[] #[.pointer (some ⟨Bn, 0, none⟩)], undef, .int .i64 0, .pointer (some ⟨w.heap.size, 0, none⟩), .int .i64 x, .func (.func 230) #[] #[.pointer (some ⟨Bn, 0, none⟩)], .int .i64 x, undef, undef, undef, undef], defers := [] }) ?assign ?body ?done ?stop
 case assign =>
  intro l x W K hK
  gi_wp2
  exact hK
 case body =>
  rintro l pre x W ⟨⟨hc, hf⟩, hB⟩ _
  gi_wp2
  refine ⟨KeepsOthers.setCell _ _ _, Below.heap_setCell _ _ _ _ ?_, ⟨by rw [sumW_snoc]; exact World.cell?_setCell_same' _ _ _ (by rw [hc]; rfl), by rw [World.frozen?_setCell]; exact hf⟩, hB.setCell (p := ⟨w.heap.size, 0, none⟩) (Nat.le_refl _) _⟩
  have := hbn.lt
  simp; omega
 case done =>
  rintro D ys W hD hS ⟨⟨hc, _⟩, hB⟩ hK
  rw [hS.sum m0] at hc
  gi_wp2
  refine ⟨by simp, .inl ⟨_, _, rfl, run_takeDeferred hK, ?_⟩⟩
  exact ⟨_, results_tmp rfl _ _ _, rfl, ⟨hB.trans (belowK_b (w := w) (Nat.le_refl _) W D _ _ (by simp at hD; omega) hK rfl rfl)⟩⟩
 case stop =>
  rintro D c pre W _ _ h _
  exact h.elim
end
section
open Go.ChangeShapes Go.WideShapes Go.ChangeAt Go.RowKit Go.Shelf
set_option linter.unusedVariables false
attribute [local go_sem] wideA_fn Oper.semAt_some
theorem arc_ok (m : Nat) (m0 : 2 ≤ m) (m1 : m ≤ 17592186044416) (w : World) :
 CW 239 #[.int .i64 m] w (.tuple #[.int .i64 (arcOf m), .int .i64 0]) :=by
 delta CW
 have HH := Lib.hid (hasArc_yes m (by omega) (by omega))
 have HT := Lib.hid (terms_c m)
 have HS := Lib.hid fun W => sum_c W.heap.size m m0 m1 (W.alloc (.cells #[.int .i64 m] 3)) (Boxed.new W _ _)
 clear m0 m1
 go_enter Tryz.func239, Tryz.ntmps239
 go_wp2_with (first
  | (go_at_call 240; refine (HH.out _).mono ?_; rintro e w1 ⟨rfl, rfl⟩)
  | (go_at_call 227; refine (HT.out _).mono ?_; rintro e w2 ⟨rfl, rfl⟩)
  | (go_at_call 226; refine (HS.out _).mono ?_; rintro e w3 ⟨rfl, hg⟩))
 go_ret2
 exact ⟨rfl, Gr.trans ((Gr.refl _).alloc _ _) hg⟩
theorem arc_2 : arcOf 2 = 33409331186036029 := by decide +kernel
theorem arc_3 : arcOf 3 = 23184570830191493 := by decide +kernel
theorem quarter_c (w : World) :
 CW 223 #[] w (.int .i64 56593902016227522) :=by
 delta CW
 have HT2 := Lib.hid (terms_c 2)
 have HT3 := Lib.hid (terms_c 3)
 have HS2 := Lib.hid fun W => sum_c W.heap.size 2 (by omega) (by omega) (W.alloc (.cells #[.int .i64 2] 3)) (Boxed.new W _ _)
 have HS3 := Lib.hid fun W => sum_c W.heap.size 3 (by omega) (by omega) (W.alloc (.cells #[.int .i64 3] 3)) (Boxed.new W _ _)
 rw [arc_2] at HS2
 rw [arc_3] at HS3
 go_enter Tryz.func223, Tryz.ntmps223
 go_wp2_with (first
  | (go_at_call 227; with_reducible refine (HT2.out _).mono ?_; rintro e w1 ⟨rfl, rfl⟩)
  | (go_at_call 226; with_reducible refine (HS2.out _).mono ?_; rintro e w2 ⟨rfl, hg2⟩; clear HS2 HT2)
  | (go_at_call 227; with_reducible refine (HT3.out _).mono ?_; rintro e w3 ⟨rfl, rfl⟩)
  | (go_at_call 226; with_reducible refine (HS3.out _).mono ?_; rintro e w4 ⟨rfl, hg4⟩))
 go_ret
 exact ⟨rfl, (Gr.trans ((Gr.refl _).alloc _ _) hg2).trans (Gr.trans ((Gr.refl _).alloc _ _) hg4)⟩
end
section
open Go.ChangeShapes Go.WideShapes Go.ChangeAt Go.RowKit
set_option linter.unusedVariables false
set_option maxRecDepth 100000
theorem pow56 (w : World) : Calls Tryz.prog 38 #[.int .i64 56] w fun e w' => e = .returned (.int .i64 72057594037927936) ∧ w' = w := by
 have := pow_c 56 (by omega) (by omega) w
 simpa using this
theorem refP_c (m k : Nat) (m0 : 2 ≤ m) (m1 : m ≤ 17592186044416) (hk : k ≤ 28) (w : World) :
 Calls Tryz.prog 221 #[.int .i64 m, .int .i64 k] w fun e w' => e = .returned (.int .i64 (arcP m k)) ∧ w' = w := by
 have HP := Lib.hid pow56
 have HD1 := Lib.hid (refDiv_c 72057594037927936 m (by omega) (by omega))
 have e0 : ((72057594037927936 : Int) / (m : Int)) = (arcP m 0 : Int) := by rw [arcP, Int.natCast_ediv]; rfl
 rw [e0] at HD1
 clear e0
 have M := Lib.hid (And.intro m0 m1)
 clear m0 m1
 go_enter Tryz.func221, Tryz.ntmps221
 go_wp2_with (first
  | (go_at_call 38; refine (HP.out _).mono ?_; rintro e w1 ⟨rfl, rfl⟩)
  | (go_at_call 134; refine (HD1.out _).mono ?_; rintro e w2 ⟨rfl, rfl⟩))
 rename World => w0
 go_loopw [5, 6] (fun p i wr => ∃ j : Nat, j ≤ k ∧ i = .int .i64 j ∧ p = .int .i64 (arcP m j) ∧ wr = w0)
  (fun _ i _ => k - (intOf i).toNat)
 case atStart => exact ⟨0, by omega, rfl, rfl, rfl⟩
 case round =>
  obtain ⟨j, hj, rfl, rfl, rfl⟩ := hrel
  by_cases hjk : j = k
  ·subst hjk
   go_wp2_with fail
   go_ret
   exact ⟨rfl, rfl⟩
  ·have hlt : j < k := by omega
   clear hj hjk
   have ht := arcP_top m j M.out.1
   have HA := Lib.hid (refDiv_c (arcP m j) m (by omega) (by have := M.out.1; omega))
   have hq : (arcP m j : Int) / (m : Int) ≤ 36028797018963968 := Int.le_trans (Int.ediv_le_self _ (by omega)) (by omega)
   have hq0 : 0 ≤ (arcP m j : Int) / (m : Int) := Int.ediv_nonneg (by omega) (by omega)
   have HB := Lib.hid (refDiv_c ((arcP m j : Int) / (m : Int)) m (by omega) (by have := M.out.1; omega))
   rw [← arcP_cast] at HB
   clear ht hq hq0
   go_wp2_with (first
    | (go_at_call 134; with_reducible refine (HA.out _).mono ?_; rintro e w1 ⟨rfl, rfl⟩)
    | (go_at_call 134; with_reducible refine (HB.out _).mono ?_; rintro e w2 ⟨rfl, rfl⟩))
   go_roundw
   case rel => exact ⟨j + 1, by omega, by go_num, rfl, trivial⟩
   case measure => simp [intOf]; omega
set_option maxHeartbeats 1000000 in
theorem refTerms_c (m : Nat) (m0 : 2 ≤ m) (m1 : m ≤ 17592186044416) (w : World) :
 Calls Tryz.prog 213 #[.int .i64 m] w fun e w' => ∃ v ys, e = .returned v ∧ IsT m ys ∧ IntsAt w' v ys ∧ Gr w w' := by
 obtain ⟨i0, hi, hz0, hz1, hz2⟩ := info_parts info_int
 have M := Lib.hid (And.intro m0 m1)
 clear m0 m1
 go_enter Tryz.func213, Tryz.ntmps213
 go_wp2_with fail
 have hs0 : ((w.alloc (.cells #[] 3)).ownsRow w.heap.size 3 1 (.slice (some ⟨w.heap.size, 0, none⟩) 0 0) 0 []) := World.ownsRow_made w #[] 0 (Nat.le_refl _) (by unfold maxLen; omega) (by simp)
 go_loopw [3, 4] (fun v i wr => ∃ j : Nat, j ≤ 28 ∧ i = .int .i64 j ∧ wr.ownsRow w.heap.size 3 1 v j (((List.range j).map (arcT m)).map (Value.int .i64)) ∧ (∀ i, i < j → 0 < arcP m i) ∧ Gr w wr)
  (fun _ i _ => 28 - (intOf i).toNat)
 case atStart => exact ⟨0, by omega, rfl, hs0, fun i hi => absurd hi (Nat.not_lt_zero _), (Gr.refl _).alloc _ _⟩
 case round =>
  clear hs0
  obtain ⟨j, hj, rfl, hrow, hl, hg⟩ := hrel
  have HP := Lib.hid (refP_c m j M.out.1 M.out.2 hj)
  by_cases hp : arcP m j = 0
  ·rw [hp] at HP
   go_wp2_with (go_at_call 221; refine (HP.out _).mono ?_; rintro e w1 ⟨rfl, rfl⟩)
   go_ret
   exact ⟨_, _, rfl, ⟨j, hj, hp, hl, rfl⟩, IntsAt.of_row hrow, hg⟩
  ·have hpos : (0 : Int) < (arcP m j : Int) := by omega
   have hj28 := arcP_live m j M.out.1 (by omega)
   have ht := arcP_top m j M.out.1
   have HD := Lib.hid (refDiv_c (arcP m j) (2 * (j : Int) + 1) (by omega) (by omega))
   have hm : (arcP m j : Int) / (2 * (j : Int) + 1) = (arcM m j : Int) := by rw [arcM, Int.natCast_ediv]; simp
   rw [hm] at HD
   have hmt := arcM_top m j M.out.1
   have hl2 : ∀ i, i < j + 1 → 0 < arcP m i := fun i hi => by
    by_cases e : i = j
    ·rw [e]; omega
    ·exact hl i (by omega)
   have hgs := hg.size
   clear ht hm hl hp
   by_cases ho : j % 2 = 1
   ·have hT : arcT m j = -(arcM m j : Int) := by rw [arcT, if_pos ho]
    have ho' : ((j : Int) % 2 == 1) = true := by simp; omega
    have HT := Lib.hid hT
    clear hT ho
    go_wp2_with (first
     | (go_at_call 221; refine (HP.out _).mono ?_; rintro e wr ⟨rfl, rfl⟩)
     | (go_at_call 134; refine (HD.out _).mono ?_; rintro e wr ⟨rfl, rfl⟩)
     | (at_builtin; refine wpList_append_own _ rfl (.tmp 25) (.tmp 27) 22 rfl w.heap.size 3 i0 (.int .i64 0) 1 8 Tryz.underlying22 hi hz0 hz1 hz2 rfl (by decide) _ _ _ rfl (hrow.alloc _) ⟨wr.heap.size, 0, none⟩ 1 1 [.int .i64 (-(arcM m j : Int))] rfl rfl (cell_one_new _ _ _) (by simp [Value.oneCell']) (by unfold maxLen; omega) (by omega) (by simp; omega) ?_; intro v' w3 hown' hgrow _))
    rw [← HT.out, ← List.map_singleton (f := Value.int .i64), ← List.map_append, ← arcL_succ] at hown'
    have hg3 := (hg.allocO _).grown hgrow (fun k e => (hrow.lt k e).1)
    go_roundw
    case rel => exact ⟨j + 1, by omega, by go_num, hown', hl2, hg3⟩
    case measure => simp [intOf]; omega
   ·have hT : arcT m j = (arcM m j : Int) := by rw [arcT, if_neg ho]
    have ho' : ((j : Int) % 2 == 1) = false := by simp; omega
    have HT := Lib.hid hT
    clear hT ho
    go_wp2_with (first
     | (go_at_call 221; refine (HP.out _).mono ?_; rintro e wr ⟨rfl, rfl⟩)
     | (go_at_call 134; refine (HD.out _).mono ?_; rintro e wr ⟨rfl, rfl⟩)
     | (at_builtin; refine wpList_append_own _ rfl (.tmp 25) (.tmp 27) 22 rfl w.heap.size 3 i0 (.int .i64 0) 1 8 Tryz.underlying22 hi hz0 hz1 hz2 rfl (by decide) _ _ _ rfl (hrow.alloc _) ⟨wr.heap.size, 0, none⟩ 1 1 [.int .i64 ((arcM m j : Int))] rfl rfl (cell_one_new _ _ _) (by simp [Value.oneCell']) (by unfold maxLen; omega) (by omega) (by simp; omega) ?_; intro v' w3 hown' hgrow _))
    rw [← HT.out, ← List.map_singleton (f := Value.int .i64), ← List.map_append, ← arcL_succ] at hown'
    have hg3 := (hg.allocO _).grown hgrow (fun k e => (hrow.lt k e).1)
    go_roundw
    case rel => exact ⟨j + 1, by omega, by go_num, hown', hl2, hg3⟩
    case measure => simp [intOf]; omega
end
section
open Go.ChangeShapes Go.WideShapes Go.ChangeAt Go.RowKit
set_option linter.unusedVariables false
theorem sumW_take {xs : List Int} {k : Nat} {x : Int} (h : xs[k]? = some x) : sumW (xs.take (k + 1)) = wrap64 (sumW (xs.take k) + x) := by
 rw [take_snoc h, sumW_snoc]
theorem IsT.ne {m : Nat} {ys : List Int} (h : IsT m ys) (m0 : 2 ≤ m) (m1 : m ≤ 17592186044416) : ys ≠ [] := by
 obtain ⟨k, hk, h0, _, rfl⟩ := h
 intro e
 have hk0 : k = 0 := by simpa using e
 rw [hk0, arcP] at h0
 have := Nat.div_pos (show m ≤ 72057594037927936 by omega) (show 0 < m by omega)
 omega
set_option maxHeartbeats 1000000 in
theorem refArc_c (m : Nat) (m0 : 2 ≤ m) (m1 : m ≤ 17592186044416) (w : World) :
 CW 194 #[.int .i64 m] w (.int .i64 (arcOf m)) :=by
 delta CW
 have HT := Lib.hid (refTerms_c m m0 m1)
 have M := Lib.hid (And.intro m0 m1)
 clear m0 m1
 go_enter Tryz.func194, Tryz.ntmps194
 go_wp2_with fail
 refine (HT.out _).mono ?_
 rintro e w1 ⟨v, ys, rfl, hT, hI, hg⟩
 have HS := Lib.hid (hT.sum M.out.1)
 have NE := Lib.hid (hT.ne M.out.1 M.out.2)
 clear hT HT
 rcases hI with ⟨rfl, rfl⟩ | ⟨b, o, cap, rfl, hl, hm, hb, hc⟩
 ·exact absurd rfl NE.out
 ·have HC := Lib.hid hc
  have hlen : ys.length ≤ 9223372036854775807 := by unfold maxLen at hm; omega
  clear hc hb hm hl
  go_wp2_with fail
  go_loop [3, 9] (fun s i => ∃ k : Nat, k ≤ ys.length ∧ i = .int .i64 k ∧ s = .int .i64 (sumW (ys.take k))) (fun _ i => ys.length - (intOf i).toNat)
  case atStart => exact ⟨0, Nat.zero_le _, rfl, rfl⟩
  case round =>
   obtain ⟨k, hk, rfl, rfl⟩ := hrel
   by_cases hlt : k < ys.length
   ·obtain ⟨x, hx⟩ := get_of_lt hlt
    have hcx := HC.out k x hx
    have HE := Lib.hid (sumW_take hx)
    clear hx
    go_wp2_with fail
    go_round
    case rel => exact ⟨k + 1, by omega, by go_num, by rw [HE.out]⟩
    case measure => simp [intOf]; omega
   ·have he : k = ys.length := by omega
    subst he
    go_wp2_with fail
    go_ret
    exact ⟨by rw [← HS.out]; rfl, hg⟩
theorem refQuarter_c (w : World) :
 CW 193 #[] w (.int .i64 56593902016227522) :=by
 delta CW
 have HA : CR 194 #[.int .i64 2] (.int .i64 33409331186036029) := Lib.hid fun W => by
  have := refArc_c 2 (by omega) (by omega) W
  rw [arc_2] at this
  exact this
 have HB : CR 194 #[.int .i64 3] (.int .i64 23184570830191493) := Lib.hid fun W => by
  have := refArc_c 3 (by omega) (by omega) W
  rw [arc_3] at this
  exact this
 go_enter Tryz.func193, Tryz.ntmps193
 go_wp2_with (first
  | (go_at_call 194; with_reducible refine (HA.out _).mono ?_; rintro e w1 ⟨rfl, hg1⟩)
  | (go_at_call 194; with_reducible refine (HB.out _).mono ?_; rintro e w2 ⟨rfl, hg2⟩))
 go_ret
 exact ⟨rfl, hg1.trans hg2⟩
end
end Go.Proofs.YtdignnmpfkgkoaaGreat
