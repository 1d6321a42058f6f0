import Derived.RangeFuncNested
import Derived.RangeFuncBound
import Derived.RangeFuncCalls
import Derived.RangeFuncLeaves
import Derived.Shelf.Abstract
import Derived.Shelf.RegionOpen
import Derived.OwnWalkIn
import Derived.TacticsInMore
import Derived.LoopNIn
import Derived.LoopIn
import Derived.Shelf.Bits.Mul64
import Derived.Shelf.Spec.BitsCarry
import Derived.Test.YtcgeabpibkejpaaGreatUS11
namespace Go.Proofs.YtcgeabpibkejpaaGreat
section
open Go.ChangeShapes Go.WideShapes Go.ChangeAt Go.RowKit Go.Shelf
set_option linter.unusedVariables false
set_option maxRecDepth 100000
theorem wideA_fn (f : FuncId) : Fence.wide.fn f = True := rfl
attribute [local go_sem] wideA_fn Oper.semAt_some
theorem divided_c (x d : Int) (wx : -9223372036854775808 ≤ x ∧ x ≤ 9223372036854775807) (h : 1 ≤ d) (w : World) :
 Calls Tryz.prog 204 #[.int .i64 x, .int .i64 d] w fun e w' => e = .returned (.int .i64 (x / d)) ∧ w' = w := by
 have HD := Lib.hid (div_ok x d wx h)
 clear wx h
 go_enter Tryz.func204, Tryz.ntmps204
 go_wp2_with (go_at_call 208; refine (HD.out _).mono ?_; rintro e w2 ⟨rfl, rfl⟩)
 go_ret
 exact ⟨rfl, rfl⟩
theorem hasArc_yes (x : Int) (h0 : 2 ≤ x) (h1 : x ≤ 17592186044416) (w : World) :
 Calls Tryz.prog 213 #[.int .i64 x] w fun e w' => e = .returned (.bool true) ∧ w' = w := by
 go_enter Tryz.func213, Tryz.ntmps213
 go_wp2
 go_ret
 exact ⟨rfl, rfl⟩
theorem terms_c (x : Int) (w : World) :
 Calls Tryz.prog 200 #[.int .i64 x] w fun e w' => e = .returned (.func (.func 203) #[] #[.pointer (some ⟨w.heap.size, 0, none⟩)]) ∧ w' = w.alloc (.cells #[.int .i64 x] 3) := by
 go_enter Tryz.func200, Tryz.ntmps200
 go_wp2
 go_ret
 exact ⟨rfl, rfl⟩
def IsT (m : Nat) (ys : List Int) : Prop := ∃ k, k ≤ 28 ∧ arcP m k = 0 ∧ (∀ j, j < k → 0 < arcP m j) ∧ ys = (List.range k).map (arcT m)
def sgn (j : Nat) : Int := if j % 2 = 1 then -1 else 1
theorem sgn_mul (m j : Nat) : sgn j * ((arcP m j : Int) / (2 * (j : Int) + 1)) = arcT m j := by
 have e : (arcP m j : Int) / (2 * (j : Int) + 1) = (arcM m j : Int) := by
  rw [arcM, Int.natCast_ediv]; simp
 rw [e, sgn, arcT]
 split <;> omega
theorem sgn_succ (j : Nat) : -sgn j = sgn (j + 1) := by
 unfold sgn
 by_cases h : j % 2 = 1
 ·rw [if_pos h, if_neg (by omega)]; rfl
 ·rw [if_neg h, if_pos (by omega)]
theorem sgn_bd (j : Nat) : -1 ≤ sgn j ∧ sgn j ≤ 1 := by unfold sgn; split <;> omega
theorem arcT_bd (m j : Nat) (h : 2 ≤ m) : -36028797018963968 ≤ arcT m j ∧ arcT m j ≤ 36028797018963968 := by
 have := arcM_top m j h
 unfold arcT
 split <;> omega
theorem arcP_cast (m j : Nat) : (arcP m (j + 1) : Int) = (arcP m j : Int) / (m : Int) / (m : Int) := by
 rw [arcP, Int.natCast_ediv, Int.natCast_ediv]
theorem arcL_succ (m j : Nat) : (List.range (j + 1)).map (arcT m) = (List.range j).map (arcT m) ++ [arcT m j] := by
 rw [List.range_succ, List.map_append]; rfl
set_option maxRecDepth 100000 in set_option maxHeartbeats 2000000 in
theorem terms1_in (n : Nat) (hn : 1 ≤ n) (l Bn B0 m : Nat) (m0 : 2 ≤ m) (m1 : m ≤ 17592186044416) (J Jx : List Int → World → Prop) (W0 : World) (hJ : AbidesFrom W0.heap.size J)
 (hY : ∀ pre x W, J pre W → pre.length < 28 → YieldAt Fence.wide (n - 1) Tryz.prog l #[.int .i64 x] W fun e W' =>
  (e = .returned (.bool true) ∧ J (pre ++ [x]) W' ∧ W'.heap[Bn]? = W.heap[Bn]?) ∨ (e = .returned (.bool false) ∧ Jx (pre ++ [x]) W'))
 (W : World) (hBn : Boxed W Bn 3 (.int .i64 m)) (h0 : J [] W) :
 CallsIn Fence.wide n Tryz.prog 203 #[.func (.yield l) #[] #[], .pointer (some ⟨Bn, 0, none⟩)] W fun e W' => (∃ v, e = .returned v) ∧
  ((∃ ys, IsT m ys ∧ J ys W') ∨ (∃ pre, True ∧ Jx pre W')) := by
 have hc := hBn.cell
 have HD1 := Lib.hid (divided_c 72057594037927936 m (by omega) (by omega))
 have e0 : ((72057594037927936 : Int) / (m : Int)) = (arcP m 0 : Int) := by rw [arcP, Int.natCast_ediv]; rfl
 rw [e0] at HD1
 clear e0
 have M1 := Lib.hid m1
 refine callsIn_of_wp Tryz.func203 rfl trivial ?_ rfl
 simp only [Tryz.ntmps203, List.size_toArray, List.length_cons, List.length_nil, Nat.reduceAdd, Nat.reduceSub, Array.replicate_succ, Array.replicate_zero, List.push_toArray, List.append_toArray, List.nil_append, List.cons_append]
 gi_wp2_with (gi_at_call 204; refine (callsIn_wide.2 (HD1.out _)).mono ?_; rintro e w2 ⟨rfl, rfl⟩)
 gi_loopw [3, 4, 5] (fun s d p wr => ∃ j : Nat, j ≤ 28 ∧ s = .int .i64 (sgn j) ∧ d = .int .i64 (2 * (j : Int) + 1) ∧ p = .int .i64 (arcP m j) ∧ Boxed wr Bn 3 (.int .i64 m) ∧ (∀ i, i < j → 0 < arcP m i) ∧ J ((List.range j).map (arcT m)) wr)
  (fun _ d _ _ => 100 - (intOf d).toNat)
 case atStart =>
  exact ⟨0, by omega, rfl, rfl, rfl, hBn, fun i hi => absurd hi (Nat.not_lt_zero _), h0⟩
 case round =>
  clear hc h0 hBn
  obtain ⟨j, hj, rfl, rfl, rfl, hb, hl, hJs⟩ := hrel
  have hc := hb.cell
  by_cases hp : arcP m j = 0
  ·have hp' : ((arcP m j : Int) != 0) = false := by simp [hp]
   gi_wp2
   go_end0
   exact ⟨⟨_, rfl⟩, .inl ⟨_, ⟨j, hj, hp, hl, rfl⟩, hJs⟩⟩
  ·have hp' : ((arcP m j : Int) != 0) = true := by simpa using hp
   have hj28 := arcP_live m j m0 (by omega)
   obtain ⟨fn, tmps, assign, body, hy, hR⟩ := hY _ (arcT m j) wr hJs (by simpa using hj28)
   have ht := arcP_top m j m0
   have HD := Lib.hid (divided_c (arcP m j) (2 * (j : Int) + 1) (by omega) (by omega))
   have E : wrap64 (sgn j * ((arcP m j : Int) / (2 * (j : Int) + 1))) = arcT m j := by
    rw [sgn_mul]
    have := arcT_bd m j m0
    exact IntWalk.wrap64_in _ ⟨by omega, by omega⟩
   rw [← E] at hy
   have HT := Lib.hid ht
   have HE := Lib.hid E
   clear E ht hc
   have hc := hb.cell
   gi_wp2_with (gi_at_call 204; refine (callsIn_wide.2 (HD.out _)).mono ?_; rintro e w2 ⟨rfl, rfl⟩)
   refine hR.mono ?_
   clear hy hR
   rintro e W3 (⟨rfl, hJ3, hk3⟩ | ⟨rfl, hJx3⟩)
   ·have hb3 : Boxed W3 Bn 3 (.int .i64 m) := hk3.trans hb
    clear hc hJs hk3
    have hc3 := hb3.cell
    have ht := HT.out
    have HA := Lib.hid (divided_c (arcP m j) m (by omega) (by omega))
    have hq : (arcP m j : Int) / (m : Int) ≤ 36028797018963968 := Int.le_trans (Int.ediv_le_self _ (by omega)) (by omega)
    have hq0 : 0 ≤ (arcP m j : Int) / (m : Int) := Int.ediv_nonneg (by omega) (by omega)
    have HB := Lib.hid (divided_c ((arcP m j : Int) / (m : Int)) m (by omega) (by omega))
    rw [← arcP_cast] at HB
    have sb := sgn_bd j
    clear ht hq hq0
    gi_wp2_with fail
    clear sb
    gi_quiet (first | (gi_at_call 204; with_reducible refine CallsIn.quiet_of_same (callsIn_wide.2 (HA.out _))) | (gi_at_call 204; with_reducible refine CallsIn.quiet_of_same (callsIn_wide.2 (HB.out _))))
    have hJ4 : J ((List.range (j + 1)).map (arcT m)) (W3.drewN nq) := by
     rw [arcL_succ]
     exact hJ _ _ _ none hJ3 ⟨rfl, rfl, rfl, Nat.le_refl _, fun _ _ _ => rfl⟩ (fun r e => by cases e)
    go_roundw
    case rel =>
     (repeat apply Exists.intro)
     refine ⟨?_, rfl⟩
     refine ⟨j + 1, by omega, by rw [sgn_succ], ?_, rfl, hb3, fun i hi => ?_, hJ4⟩
     ·congr 1
     ·by_cases hij : i = j
      ·rw [hij]; omega
      ·exact hl i (by omega)
    case measure => simp [intOf]; omega
   ·gi_wp2
    refine bodyPost_ret (results_none rfl _ _ _) rfl ?_
    exact ⟨⟨_, rfl⟩, .inr ⟨_, trivial, hJx3⟩⟩
theorem terms_stops (n : Nat) (hn : 1 ≤ n) (Bn m : Nat) (m0 : 2 ≤ m) (m1 : m ≤ 17592186044416) (w : World) (hb : Boxed w Bn 3 (.int .i64 m)) :
 SeqStopsK Fence.wide n Tryz.prog 203 #[.pointer (some ⟨Bn, 0, none⟩)] (fun x : Int => #[Value.int .i64 x]) (fun A B => B.heap[Bn]? = A.heap[Bn]?) (IsT m) (fun _ => True) 28 w := fun l J Jx W hW hJ _ hY h0 =>
 terms1_in n hn l Bn 0 m m0 m1 J Jx W hJ hY W ((hW.block Bn hb.lt).trans hb) h0
def sumW (xs : List Int) : Int := xs.foldl (fun s x => wrap64 (s + x)) 0
theorem sumW_snoc (xs : List Int) (x : Int) : sumW (xs ++ [x]) = wrap64 (sumW xs + x) := by simp [sumW]
theorem sumW_arc (m : Nat) (h : 2 ≤ m) : ∀ k, sumW ((List.range k).map (arcT m)) = arcS m k
 | 0 => rfl
 | k + 1 => by
   rw [arcL_succ, sumW_snoc, sumW_arc m h k]
   have := arcS_bd m (k + 1) h
   exact IntWalk.wrap64_in _ ⟨by rw [arcS] at this; omega, by rw [arcS] at this; omega⟩
theorem IsT.sum {m : Nat} {ys : List Int} (h : IsT m ys) (m0 : 2 ≤ m) : sumW ys = (arcOf m : Int) := by
 obtain ⟨k, hk, h0, _, rfl⟩ := h
 rw [sumW_arc m m0, arcS_all m k m0 (by omega) h0]
set_option maxRecDepth 100000 in set_option maxHeartbeats 2000000 in
theorem sum_c (Bn m : Nat) (m0 : 2 ≤ m) (m1 : m ≤ 17592186044416) (w : World) (hbn : Boxed w Bn 3 (.int .i64 m)) :
 Calls Tryz.prog 199 #[.func (.func 203) #[] #[.pointer (some ⟨Bn, 0, none⟩)]] w fun e w' => e = .returned (.int .i64 (arcOf m)) ∧ Gr w w' := by
 refine (callsIn_wide (n := 5)).1 ?_
 refine callsIn_of_wp_marks Tryz.func199 rfl trivial ?_ rfl
 simp only [Tryz.ntmps199, List.size_toArray, List.length_cons, List.length_nil, Nat.reduceAdd, Nat.reduceSub, Array.replicate_succ, Array.replicate_zero, List.push_toArray, List.append_toArray, List.nil_append, List.cons_append]
 gi_wp2
 have hs := And.intro (Boxed.new w 3 (.int .i64 0)).cell (Boxed.new w 3 (.int .i64 0)).frozen
 have hB0 : Below w.heap.size w (w.alloc (.cells #[.int .i64 0] 3)) := (Below.refl _ w).alloc (Nat.le_refl _) _
 refine wpIn_rangeFunc_ownF rfl (by omega) (gf := 203) (lb := #[.pointer (some ⟨Bn, 0, none⟩)]) rfl trivial (enters_of Tryz.func203 (by kernel_rfl) rfl)
  (terms_stops 4 (by omega) Bn m m0 m1 w hbn) (fun h k => k.trans h)
  (fun W l o o' hl h _ _ => World.putObj_heap_other (fun e => by have := hbn.lt; simp at hl; omega)) hB0 (fun _ => rfl)
  (fun pre W => (W.cell? ⟨w.heap.size, 0, none⟩ = some (.int .i64 (sumW pre)) ∧ W.frozen? ⟨w.heap.size, 0, none⟩ = false) ∧ Below w.heap.size w W)
  (fun _ _ _ => False)
  (OwnFrom.and (Own.from (fun s A B row hs hg hr => ⟨cell_kept hs.1 hg hr, (frozen_kept hs.1 hg hr).trans hs.2⟩) _) (ownFrom_below (Nat.le_refl _) (by simp)))
  (fun _ _ _ _ _ hs _ _ => hs)
  ⟨⟨hs.1, hs.2⟩, hB0⟩
  (fun x => { tmps := #[.func (.func 203) #[] #[.pointer (some ⟨Bn, 0, none⟩)], undef, .int .i64 0, .pointer (some ⟨w.heap.size, 0, none⟩), .int .i64 x, .func (.func 203) #[] #[.pointer (some ⟨Bn, 0, none⟩)], .int .i64 x, undef, undef, undef, undef], defers := [] }) ?assign ?body ?done ?stop
 case assign =>
  intro l x W K hK
  gi_wp2
  exact hK
 case body =>
  rintro l pre x W ⟨⟨hc, hf⟩, hB⟩ _
  gi_wp2
  refine ⟨KeepsOthers.setCell _ _ _, Below.heap_setCell _ _ _ _ ?_, ⟨by rw [sumW_snoc]; exact World.cell?_setCell_same' _ _ _ (by rw [hc]; rfl), by rw [World.frozen?_setCell]; exact hf⟩, hB.setCell (p := ⟨w.heap.size, 0, none⟩) (Nat.le_refl _) _⟩
  have := hbn.lt
  simp; omega
 case done =>
  rintro D ys W hD hS ⟨⟨hc, _⟩, hB⟩ hK
  rw [hS.sum m0] at hc
  gi_wp2
  refine ⟨by simp, .inl ⟨_, _, rfl, run_takeDeferred hK, ?_⟩⟩
  exact ⟨_, results_tmp rfl _ _ _, rfl, ⟨hB.trans (belowK_b (w := w) (Nat.le_refl _) W D _ _ (by simp at hD; omega) hK rfl rfl)⟩⟩
 case stop =>
  rintro D c pre W _ _ h _
  exact h.elim
end
section
open Go.ChangeShapes Go.WideShapes Go.ChangeAt Go.RowKit Go.Shelf
set_option linter.unusedVariables false
attribute [local go_sem] wideA_fn Oper.semAt_some
theorem arc_ok (m : Nat) (m0 : 2 ≤ m) (m1 : m ≤ 17592186044416) (w : World) :
 Calls Tryz.prog 212 #[.int .i64 m] w fun e w' => e = .returned (.tuple #[.int .i64 (arcOf m), .int .i64 0]) ∧ Gr w w' := by
 have HH := Lib.hid (hasArc_yes m (by omega) (by omega))
 have HT := Lib.hid (terms_c m)
 have HS := Lib.hid fun W => sum_c W.heap.size m m0 m1 (W.alloc (.cells #[.int .i64 m] 3)) (Boxed.new W _ _)
 clear m0 m1
 go_enter Tryz.func212, Tryz.ntmps212
 go_wp2_with (first
  | (go_at_call 213; refine (HH.out _).mono ?_; rintro e w1 ⟨rfl, rfl⟩)
  | (go_at_call 200; refine (HT.out _).mono ?_; rintro e w2 ⟨rfl, rfl⟩)
  | (go_at_call 199; refine (HS.out _).mono ?_; rintro e w3 ⟨rfl, hg⟩))
 go_ret2
 exact ⟨rfl, Gr.trans ((Gr.refl _).alloc _ _) hg⟩
theorem arc_2 : arcOf 2 = 33409331186036029 := by decide +kernel
theorem arc_3 : arcOf 3 = 23184570830191493 := by decide +kernel
theorem quarter_c (w : World) :
 Calls Tryz.prog 195 #[] w fun e w' => e = .returned (.int .i64 56593902016227522) ∧ Gr w w' := by
 have HT2 := Lib.hid (terms_c 2)
 have HT3 := Lib.hid (terms_c 3)
 have HS2 := Lib.hid fun W => sum_c W.heap.size 2 (by omega) (by omega) (W.alloc (.cells #[.int .i64 2] 3)) (Boxed.new W _ _)
 have HS3 := Lib.hid fun W => sum_c W.heap.size 3 (by omega) (by omega) (W.alloc (.cells #[.int .i64 3] 3)) (Boxed.new W _ _)
 rw [arc_2] at HS2
 rw [arc_3] at HS3
 go_enter Tryz.func195, Tryz.ntmps195
 go_wp2_with (first
  | (go_at_call 200; with_reducible refine (HT2.out _).mono ?_; rintro e w1 ⟨rfl, rfl⟩)
  | (go_at_call 199; with_reducible refine (HS2.out _).mono ?_; rintro e w2 ⟨rfl, hg2⟩; clear HS2 HT2)
  | (go_at_call 200; with_reducible refine (HT3.out _).mono ?_; rintro e w3 ⟨rfl, rfl⟩)
  | (go_at_call 199; with_reducible refine (HS3.out _).mono ?_; rintro e w4 ⟨rfl, hg4⟩))
 go_ret
 exact ⟨rfl, (Gr.trans ((Gr.refl _).alloc _ _) hg2).trans (Gr.trans ((Gr.refl _).alloc _ _) hg4)⟩
end
section
open Go.ChangeShapes Go.WideShapes Go.ChangeAt Go.RowKit
set_option linter.unusedVariables false
set_option maxRecDepth 100000
end
section
open Go.ChangeShapes Go.WideShapes Go.ChangeAt Go.RowKit
set_option linter.unusedVariables false
theorem IsT.ne {m : Nat} {ys : List Int} (h : IsT m ys) (m0 : 2 ≤ m) (m1 : m ≤ 17592186044416) : ys ≠ [] := by
 obtain ⟨k, hk, h0, _, rfl⟩ := h
 intro e
 have hk0 : k = 0 := by simpa using e
 rw [hk0, arcP] at h0
 have := Nat.div_pos (show m ≤ 72057594037927936 by omega) (show 0 < m by omega)
 omega
end
section
open Go.ChangeShapes Go.WideShapes Go.ChangeAt Go.RowKit
set_option linter.unusedVariables false
set_option maxRecDepth 100000
end
section
open Go.ChangeShapes Go.WideShapes Go.ChangeAt Go.RowKit
set_option linter.unusedVariables false
theorem trun_succ (k : Nat) (s : Tn) : trun (k + 1) s = tstep k (trun k s) := rfl
theorem field_Re (re im : Int) (w : World) : (Instr.field 58 (.agg #[.int .i64 re, .int .i64 im]) 0).run Tryz.prog w = .ok (.int .i64 re) w := by kernel_rfl
end
section
open Go.ChangeShapes Go.WideShapes Go.ChangeAt Go.RowKit Go.Shelf
set_option linter.unusedVariables false
set_option maxRecDepth 100000
end
section
open Go.ChangeShapes Go.WideShapes Go.ChangeAt Go.RowKit
set_option linter.unusedVariables false
def GainIs (W : World) : Prop := Calls Tryz.prog 207 #[] W fun e w' => e = .returned (.int .i64 118661582157481174) ∧ Gr W w'
def InvIs (W : World) : Prop := Calls Tryz.prog 202 #[] W fun e w' => e = .returned (.int .i64 43757185469210200) ∧ Gr W w'
end
section
open Go.ChangeShapes Go.WideShapes Go.ChangeAt Go.RowKit
set_option linter.unusedVariables false
def RunIs (x z : Int) (W : World) : Prop := Calls Tryz.prog 201 #[.int .i64 x, .int .i64 z] W fun e w' => e = .returned (.tuple #[.agg #[.int .i64 (trun 45 ⟨x, 0, z⟩).re, .int .i64 (trun 45 ⟨x, 0, z⟩).im], .int .i64 (trun 45 ⟨x, 0, z⟩).left, .int .i64 0]) ∧ Gr W w'
end
section
open Go.ChangeShapes Go.WideShapes Go.ChangeAt Go.RowKit
set_option linter.unusedVariables false
theorem gainAngle_c (j : Nat) (h : j < 45) (w : World) :
 Calls Tryz.prog 211 #[.int .i64 j] w fun e w' => e = .returned (.int .i64 (ang j)) ∧ Gr w w' := by
 by_cases h0 : j = 0
 ·subst h0
  have HQ := Lib.hid quarter_c
  have e : ((ang 0 : Nat) : Int) = 56593902016227522 := by decide +kernel
  rw [e, show ((0 : Nat) : Int) = 0 from rfl]
  clear e h
  go_enter Tryz.func211, Tryz.ntmps211
  go_wp2_with (go_at_call 195; refine (HQ.out _).mono ?_; rintro e w1 ⟨rfl, hg1⟩)
  go_ret
  exact ⟨rfl, hg1⟩
 ·have e : ang j = arcOf (2 ^ j) := by unfold ang; rw [if_neg h0]
  have p0 : 2 ≤ 2 ^ j := by
   have := Nat.pow_le_pow_right (show 0 < 2 by decide) (show 1 ≤ j by omega)
   omega
  have p1 : 2 ^ j ≤ 17592186044416 := by
   have := Nat.pow_le_pow_right (show 0 < 2 by decide) (show j ≤ 44 by omega)
   omega
  have HA := Lib.hid (arc_ok (2 ^ j) p0 p1)
  rw [← e] at HA
  have hz : ((j : Int) == 0) = false := by simp; omega
  have hn : (0 : Int) ≤ (j : Int) := by omega
  have ep : wrap64 ((2 : Int) ^ j) = ((2 ^ j : Nat) : Int) := by
   rw [IntWalk.wrap64_in _ (by rw [show (2 : Int) ^ j = ((2 ^ j : Nat) : Int) by simp]; omega)]; simp
  rw [← ep] at HA
  clear e p0 h0 p1 ep
  go_enter Tryz.func211, Tryz.ntmps211
  go_wp2_with (go_at_call 212; refine (HA.out _).mono ?_; rintro e w2 ⟨rfl, hg2⟩)
  go_ret
  exact ⟨rfl, hg2⟩
set_option maxHeartbeats 1000000 in
theorem gainAngs_c (w : World) : Calls Tryz.prog 209 #[] w fun e w' => ∃ B c, e = .returned (.slice (some ⟨B, 0, none⟩) 45 45) ∧ w.heap.size ≤ B ∧ CellsAt w' B 3 c ∧ (∀ j, j < 45 → c[j]? = some (.int .i64 (ang j))) ∧ Gr w w' := by
 have infoI : (Tryz.prog.info? 3).map (fun i => (i.zero, i.size, i.bytes)) = some (some (.int .i64 0), 1, 8) := by kernel_rfl
 have hmk := run_make_row' (P := Tryz.prog) 25 3 (.int .i64 0) 8 Tryz.underlying25 infoI rfl .i64 .i64 45 (by decide) (by decide)
 rw [show ((45 : Nat) : Int) = 45 from rfl] at hmk
 clear infoI
 go_enter Tryz.func209, Tryz.ntmps209
 go_wp2_with fail
 have M0 := MadeAt.start w (.int .i64 0) 45 3
 go_loopw [2, 6] (fun _ i wr => ∃ k : Nat, ∃ c : Array Value, k ≤ 45 ∧ i = .int .i64 k ∧ CellsAt wr w.heap.size 3 c ∧ c.size = 45 ∧ (∀ j, j < k → c[j]? = some (.int .i64 (ang j))) ∧ Gr w wr)
  (fun _ i _ => 45 - (intOf i).toNat)
 case atStart => exact ⟨0, _, by omega, rfl, M0.1, M0.2, fun j hj => absurd hj (Nat.not_lt_zero _), (Gr.refl _).alloc _ _⟩
 case round =>
  clear M0 hmk
  obtain ⟨k, c, hk, rfl, hC, hs, hj, hg⟩ := hrel
  by_cases hlt : k < 45
  ·have HA := Lib.hid (gainAngle_c k hlt)
   have HS := Lib.hid hs
   have HJ := Lib.hid hj
   clear hs hj
   go_wp2_with fail
   refine (HA.out _).mono ?_
   rintro e w2 ⟨rfl, hg2⟩
   have hC2 := hC.gr hg2
   have f2 := hC2.frozen k
   have q2 := hC2.cell k
   have hg3 := hg.trans hg2
   rw [Array.getElem?_eq_getElem (show k < c.size by rw [HS.out]; exact hlt)] at q2
   clear hC hg2 hg HA
   go_wp2_with fail
   have hC3 := hC2.set k (.int .i64 (ang k))
   have hg4 := hg3.setCell (a := ⟨w.heap.size, k, none⟩) (by simp) (.int .i64 (ang k))
   go_roundw
   case rel =>
    refine ⟨k + 1, _, by omega, by go_num, hC3, by simpa using HS.out, fun j hj => ?_, hg4⟩
    rw [Array.getElem?_setIfInBounds]
    split
    ·next e => subst e; rw [if_pos (by rw [HS.out]; exact hlt)]
    ·exact HJ.out j (by omega)
   case measure => simp [intOf]; omega
  ·have he : k = 45 := by omega
   subst he
   go_wp2_with fail
   go_ret
   exact ⟨w.heap.size, c, rfl, Nat.le_refl _, hC, hj, hg⟩
set_option maxHeartbeats 2000000 in
theorem gainTurned_c (x z : Int) (h0 : 0 ≤ x) (h1 : x ≤ 144115188075855872) (hz : z.natAbs ≤ 72057594037927936) (w : World) :
 Calls Tryz.prog 205 #[.int .i64 x, .int .i64 z] w fun e w' => e = .returned (.tuple #[.agg #[.int .i64 (trun 45 ⟨x, 0, z⟩).re, .int .i64 (trun 45 ⟨x, 0, z⟩).im], .int .i64 (trun 45 ⟨x, 0, z⟩).left]) ∧ Gr w w' := by
 have HA := Lib.hid gainAngs_c
 have HB := Lib.hid fun k (hk : k ≤ 45) => trun_bd x z h0 h1 hz k hk
 clear h0 h1 hz
 go_enter Tryz.func205, Tryz.ntmps205
 go_wp2_with fail
 have R0 := (CellsAt.new w 58 #[.int .i64 0, .int .i64 0]).alloc (.cells #[.int .i64 x, .int .i64 0] 58)
 have R1 := CellsAt.new (w.alloc (.cells #[.int .i64 0, .int .i64 0] 58)) 58 #[.int .i64 x, .int .i64 0]
 rw [World.size_alloc] at R1
 have G0 := ((Gr.refl w).alloc #[.int .i64 0, .int .i64 0] 58).alloc #[.int .i64 x, .int .i64 0] 58
 refine (HA.out _).mono ?_
 rintro e w1 ⟨B, cs, rfl, hBB, hcs, hj, hg1⟩
 simp only [World.size_alloc] at hBB
 have R0' := R0.gr hg1
 have R1' := R1.gr hg1
 have G1 := G0.trans hg1
 have HC := Lib.hid hj
 clear hj R0 R1 G0 hg1 HA
 go_wp2_with fail
 go_loopw [7, 8, 9, 10, 11, 17] (fun l _ _ _ _ i wr => ∃ k : Nat, k ≤ 45 ∧ i = .int .i64 k ∧ l = .int .i64 (trun k ⟨x, 0, z⟩).left ∧ CellsAt wr w.heap.size 58 #[.int .i64 0, .int .i64 0] ∧ CellsAt wr (w.heap.size + 1) 58 #[.int .i64 (trun k ⟨x, 0, z⟩).re, .int .i64 (trun k ⟨x, 0, z⟩).im] ∧ CellsAt wr B 3 cs ∧ Gr w wr)
  (fun _ _ _ _ _ i _ => 45 - (intOf i).toNat)
 case atStart => exact ⟨0, by omega, rfl, rfl, R0', R1', hcs, G1⟩
 case round =>
  clear R0' R1' hcs
  obtain ⟨k, hk, rfl, rfl, hr0, hr1, hcs, hg'⟩ := hrel
  have q0 := hr1.cell 0
  have q1 := hr1.cell 1
  have f0 := hr1.frozen 0
  have f1 := hr1.frozen 1
  have bd := HB.out k hk
  have et := trun_succ k ⟨x, 0, z⟩
  generalize hs : trun k ⟨x, 0, z⟩ = s at *
  have HQ := Lib.hid hs
  clear hs
  obtain ⟨re, im, left⟩ := s
  simp only [getS] at q0 q1 bd
  have hsz := hg'.size
  by_cases hlt : k < 45
  ·have hcx := (hcs.cell k).trans (HC.out k hlt)
   have hBlt := hcs.lt
   have hk62 : k ≤ 62 := by omega
   have fa := fl_abs re k
   have fb := fl_abs im k
   have ga : re.natAbs / 2 ^ k ≤ re.natAbs := Nat.div_le_self _ _
   have gb : im.natAbs / 2 ^ k ≤ im.natAbs := Nat.div_le_self _ _
   have ba : -1152921504606846977 ≤ re / 2 ^ k ∧ re / 2 ^ k ≤ 1152921504606846977 := by omega
   have bb : -1152921504606846977 ≤ im / 2 ^ k ∧ im / 2 ^ k ≤ 1152921504606846977 := by omega
   have bc : -1152921504606846977 ≤ re ∧ re ≤ 1152921504606846977 := by omega
   have bd' : -1152921504606846977 ≤ im ∧ im ≤ 1152921504606846977 := by omega
   have be : -288230376151711744 ≤ left ∧ left ≤ 288230376151711744 := by omega
   have bf : ((ang k : Nat) : Int) ≤ 144115188075855872 := by have := ang_bd k hlt; omega
   have s1 : Op.shift .shr .i64 re .i64 (k : Int) = pure (.int .i64 (re / 2 ^ k)) := by
    rw [shift_shr .i64 .i64 re k (by omega) (by show (k : Int) ≤ 64; omega), Int.toNat_natCast]
   have s2 : Op.shift .shr .i64 im .i64 (k : Int) = pure (.int .i64 (im / 2 ^ k)) := by
    rw [shift_shr .i64 .i64 im k (by omega) (by show (k : Int) ≤ 64; omega), Int.toNat_natCast]
   clear fa fb ga gb bd
   by_cases hl : 0 ≤ left
   ·have ET : tstep k ⟨re, im, left⟩ = ⟨re - im / 2 ^ k, im + re / 2 ^ k, left - ang k⟩ := by rw [tstep, if_pos (show 0 ≤ left from hl)]
    rw [ET] at et
    clear ET
    have HE := Lib.hid et
    clear et s1 s2
    go_wp2_with fail
    go_quiet (fail)
    go_wp2_with fail
    generalize re / 2 ^ k = a at *
    generalize im / 2 ^ k = c at *
    have n1 := (((hr1.drewN nq).set 0 (.int .i64 (re - c))).set 1 (.int .i64 (im + a)))
    have n0 := ((hr0.drewN nq).other (B' := w.heap.size + 1) (by omega) 0 (.int .i64 (re - c))).other (B' := w.heap.size + 1) (by omega) 1 (.int .i64 (im + a))
    have n2 := ((hcs.drewN nq).other (B' := w.heap.size + 1) (by omega) 0 (.int .i64 (re - c))).other (B' := w.heap.size + 1) (by omega) 1 (.int .i64 (im + a))
    have G3 := ((hg'.drewN nq).setCell (a := ⟨w.heap.size + 1, 0, none⟩) (by simp) (.int .i64 (re - c))).setCell (a := ⟨w.heap.size + 1, 1, none⟩) (by simp) (.int .i64 (im + a))
    refine ⟨⟨k + 1, by omega, by go_num, by rw [HE.out], n0, by rw [HE.out]; exact n1, n2, G3⟩, by simp [intOf]; omega⟩
   ·have ET : tstep k ⟨re, im, left⟩ = ⟨re + im / 2 ^ k, im - re / 2 ^ k, left + ang k⟩ := by rw [tstep, if_neg (show ¬ 0 ≤ left from hl)]
    rw [ET] at et
    clear ET
    have HE := Lib.hid et
    clear et s1 s2
    go_wp2_with fail
    go_quiet (fail)
    go_wp2_with fail
    generalize re / 2 ^ k = a at *
    generalize im / 2 ^ k = c at *
    have n1 := (((hr1.drewN nq).set 0 (.int .i64 (re + c))).set 1 (.int .i64 (im - a)))
    have n0 := ((hr0.drewN nq).other (B' := w.heap.size + 1) (by omega) 0 (.int .i64 (re + c))).other (B' := w.heap.size + 1) (by omega) 1 (.int .i64 (im - a))
    have n2 := ((hcs.drewN nq).other (B' := w.heap.size + 1) (by omega) 0 (.int .i64 (re + c))).other (B' := w.heap.size + 1) (by omega) 1 (.int .i64 (im - a))
    have G3 := ((hg'.drewN nq).setCell (a := ⟨w.heap.size + 1, 0, none⟩) (by simp) (.int .i64 (re + c))).setCell (a := ⟨w.heap.size + 1, 1, none⟩) (by simp) (.int .i64 (im - a))
    refine ⟨⟨k + 1, by omega, by go_num, by rw [HE.out], n0, by rw [HE.out]; exact n1, n2, G3⟩, by simp [intOf]; omega⟩
  ·have he : k = 45 := by omega
   have r0 := hr0.cell 0
   have r1 := hr0.cell 1
   have g0 := hr0.frozen 0
   have g1 := hr0.frozen 1
   simp only [getS] at r0 r1
   subst he
   go_wp2_with fail
   rw [HQ.out]
   refine bodyPost_ret (v := .tuple #[.agg #[.int .i64 re, .int .i64 im], .int .i64 left]) ?_ rfl ⟨rfl, ?_⟩
   ·simp [results, Tryz.f205, go_sem, r0, r1]
   ·exact (hg'.setCell (a := ⟨w.heap.size, 0, none⟩) (by simp) _).setCell (a := ⟨w.heap.size, 1, none⟩) (by simp) _
theorem gainGain_c (w : World) : GainIs w := by
 unfold GainIs
 have HR := Lib.hid (gainTurned_c 72057594037927936 0 (by omega) (by omega) (by decide))
 have HG := Lib.hid gain_run
 go_enter Tryz.func207, Tryz.ntmps207
 go_wp2_with fail
 refine (HR.out _).mono ?_
 rintro e w2 ⟨rfl, hg⟩
 have HQ : (trun 45 ⟨72057594037927936, 0, 0⟩).re = 118661582157481174 := HG.out
 generalize trun 45 ⟨72057594037927936, 0, 0⟩ = s at *
 obtain ⟨re, im, left⟩ := s
 simp only at HQ
 rw [HQ]
 clear HQ
 go_wp2_with fail
 go_ret
 exact ⟨rfl, hg.alloc _ _⟩
theorem gainRun_ok (x z : Int) (h0 : 0 ≤ x) (h1 : x ≤ 144115188075855872) (hz : z.natAbs ≤ 72057594037927936) (W : World) : RunIs x z W := by
 unfold RunIs
 have HR := Lib.hid (gainTurned_c x z h0 h1 hz)
 have z0 : -72057594037927936 ≤ z := by omega
 have z1 : z ≤ 72057594037927936 := by omega
 clear hz
 generalize trun 45 ⟨x, 0, z⟩ = s at *
 obtain ⟨re, im, left⟩ := s
 simp only at HR ⊢
 go_enter Tryz.func201, Tryz.ntmps201
 go_wp2_with fail
 have R0 := CellsAt.new W 58 #[.int .i64 0, .int .i64 0]
 refine (HR.out _).mono ?_
 rintro e w1 ⟨rfl, hg1⟩
 have R1 := R0.gr hg1
 have R2 := R1.alloc (.cells #[.int .i64 re, .int .i64 im] 58)
 have hg2 := (((Gr.refl W).alloc _ _).trans hg1).alloc #[.int .i64 re, .int .i64 im] 58
 have hsz := hg1.size
 simp only [World.size_alloc] at hsz
 have r0 := R2.cell 0
 have r1 := R2.cell 1
 have g0 := R2.frozen 0
 have g1 := R2.frozen 1
 simp only [getS] at r0 r1
 go_wp2_with fail
 refine bodyPost_ret (v := .tuple #[.agg #[.int .i64 re, .int .i64 im], .int .i64 left, .int .i64 0]) ?_ rfl ⟨rfl, ?_⟩
 ·simp [results, Tryz.f201, go_sem, r0, r1]
 ·exact (hg2.setCell (a := ⟨W.heap.size, 0, none⟩) (by simp) _).setCell (a := ⟨W.heap.size, 1, none⟩) (by simp) _
def wstep (d : Nat) (p : Nat × Nat) : Nat × Nat :=
 if d ≤ 2 * p.1 + p.2 / 9223372036854775808 then (2 * p.1 + p.2 / 9223372036854775808 - d, 2 * p.2 % 18446744073709551616 + 1) else (2 * p.1 + p.2 / 9223372036854775808, 2 * p.2 % 18446744073709551616)
def wrun (d : Nat) (p : Nat × Nat) : Nat → Nat × Nat
 | 0 => p
 | k + 1 => wstep d (wrun d p k)
theorem wrun_bd (d : Nat) (p : Nat × Nat) (hd : d ≤ 9223372036854775808) (h1 : p.1 < d) (h2 : p.2 < 18446744073709551616) (k : Nat) : (wrun d p k).1 < d ∧ (wrun d p k).2 < 18446744073709551616 := by
 induction k with
 | zero => exact ⟨h1, h2⟩
 | succ k ih =>
   obtain ⟨i1, i2⟩ := ih
   show (wstep d (wrun d p k)).1 < d ∧ (wstep d (wrun d p k)).2 < 18446744073709551616
   generalize wrun d p k = s at *
   obtain ⟨a, b⟩ := s
   simp only at i1 i2
   unfold wstep
   split <;> simp only <;> omega
theorem doubled_c (h l : Nat) (hh : h < 9223372036854775808) (hl : l < 18446744073709551616) (w : World) :
 Calls Tryz.prog 210 #[.agg #[.int .u64 h, .int .u64 l]] w fun e w' => e = .returned (.agg #[.int .u64 ((2 * h + l / 9223372036854775808 : Nat) : Int), .int .u64 ((2 * l % 18446744073709551616 : Nat) : Int)]) ∧ Gr w w' := by
 go_enter Tryz.func210, Tryz.ntmps210
 have eb : bits .or .u64 ((h : Int) * 2) ((l : Int) / 9223372036854775808) = ((2 * h + l / 9223372036854775808 : Nat) : Int) := by
  have := bits_or_u64_nat (2 * h) (l / 9223372036854775808) (by omega) (by omega)
  rw [show ((h : Int) * 2) = ((2 * h : Nat) : Int) by omega, show ((l : Int) / 9223372036854775808) = ((l / 9223372036854775808 : Nat) : Int) by omega, this]
  congr 1
  have l1 : l / 9223372036854775808 < 2 := by omega
  generalize l / 9223372036854775808 = b at *
  have := Nat.two_pow_add_eq_or_of_lt (i := 1) (b := b) (by omega) h
  rw [show (2 : Nat) ^ 1 = 2 from rfl] at this
  omega
 have ew : IntKind.u64.wrap ((l : Int) * 2) = ((2 * l % 18446744073709551616 : Nat) : Int) := by rw [IntKind.wrap_u64]; omega
 go_wp2_with fail
 refine bodyPost_ret (v := .agg #[.int .u64 (2 * (h : Int) + (l : Int) / 9223372036854775808), .int .u64 (2 * (l : Int) % 18446744073709551616)]) ?_ rfl ⟨?_, ?_⟩
 ·simp [results, Tryz.f210, go_sem]
 ·simp
 ·exact ((Gr.refl w).alloc _ _).alloc _ _
theorem wrun_succ (d : Nat) (p : Nat × Nat) (k : Nat) : wrun d p (k + 1) = wstep d (wrun d p k) := rfl
set_option maxRecDepth 10000 in set_option maxHeartbeats 2000000 in
theorem wideDivided_c (d h l : Nat) (hd : d ≤ 9223372036854775808) (h1 : h < d) (h2 : l < 18446744073709551616) (w : World) :
 Calls Tryz.prog 206 #[.agg #[.int .u64 h, .int .u64 l], .int .u64 d] w fun e w' => e = .returned (.int .u64 (wrun d (h, l) 64).2) ∧ Gr w w' := by
 have HB := Lib.hid (wrun_bd d (h, l) hd h1 h2)
 have HD0 := Lib.hid hd
 clear h1 h2 hd
 go_enter Tryz.func206, Tryz.ntmps206
 go_wp2_with fail
 have R0 := CellsAt.new w 235 #[.int .u64 h, .int .u64 l]
 go_loopw [5] (fun i wr => ∃ k : Nat, k ≤ 64 ∧ i = .int .i64 k ∧ CellsAt wr w.heap.size 235 #[.int .u64 (wrun d (h, l) k).1, .int .u64 (wrun d (h, l) k).2] ∧ Gr w wr)
  (fun i _ => 64 - (intOf i).toNat)
 case atStart => exact ⟨0, by omega, rfl, R0, (Gr.refl _).alloc _ _⟩
 case round =>
  clear R0
  obtain ⟨k, hk, rfl, hr, hg⟩ := hrel
  have bd := HB.out k
  have et := wrun_succ d (h, l) k
  generalize hs : wrun d (h, l) k = s at *
  have HQ := Lib.hid hs
  clear hs
  obtain ⟨a, b⟩ := s
  simp only at bd
  by_cases hlt : k < 64
  ·have q0 := hr.cell 0
   have q1 := hr.cell 1
   simp only [getS] at q0 q1
   have HD := Lib.hid (doubled_c a b (by have := HD0.out; omega) bd.2)
   unfold wstep at et
   simp only at et
   have u0 : 2 * a + b / 9223372036854775808 < 18446744073709551616 := by have := HD0.out; omega
   have u1 : 2 * b % 18446744073709551616 + 1 < 18446744073709551616 := by omega
   have hBs := hr.lt
   generalize 2 * a + b / 9223372036854775808 = a' at *
   generalize 2 * b % 18446744073709551616 = b' at *
   have HU := Lib.hid (And.intro u0 u1)
   clear bd u0 u1 hBs
   have HT := Lib.hid et
   clear et
   go_wp2_with fail
   refine (HD.out _).mono ?_
   rintro e w2 ⟨rfl, hg2⟩
   have hr2 := hr.gr hg2
   have hg3 := hg.trans hg2
   have f0 := hr2.frozen 0
   have f1 := hr2.frozen 1
   have p0 := hr2.cell 0
   have p1 := hr2.cell 1
   simp only [getS] at p0 p1
   clear hr hg hg2 q0 q1 HD
   by_cases hc : d ≤ a'
   ·have HE := Lib.hid (HT.out.trans (if_pos hc))
    have e1 : IntKind.u64.wrap ((a' : Int) - (d : Int)) = ((a' - d : Nat) : Int) := by have := HU.out; rw [IntKind.wrap_u64]; omega
    have e2 : IntKind.u64.wrap ((b' : Int) + 1) = ((b' + 1 : Nat) : Int) := by have := HU.out; rw [IntKind.wrap_u64]; omega
    have hc' : (d : Int) ≤ (a' : Int) := by omega
    go_wp2_with fail
    have n1 := (((hr2.set 0 (.int .u64 a')).set 1 (.int .u64 b')).set 0 (.int .u64 ((a' - d : Nat) : Int))).set 1 (.int .u64 ((b' : Int) + 1))
    have G3 := (((hg3.setCell (a := ⟨w.heap.size, 0, none⟩) (by simp) (.int .u64 a')).setCell (a := ⟨w.heap.size, 1, none⟩) (by simp) (.int .u64 b')).setCell (a := ⟨w.heap.size, 0, none⟩) (by simp) (.int .u64 ((a' - d : Nat) : Int))).setCell (a := ⟨w.heap.size, 1, none⟩) (by simp) (.int .u64 ((b' : Int) + 1))
    exact ⟨⟨k + 1, by omega, by go_num, by rw [HE.out]; exact n1, G3⟩, by simp [intOf]; omega⟩
   ·have HE := Lib.hid (HT.out.trans (if_neg hc))
    have hc' : ¬ (d : Int) ≤ (a' : Int) := by omega
    go_wp2_with fail
    have n1 := (hr2.set 0 (.int .u64 a')).set 1 (.int .u64 b')
    have G3 := (hg3.setCell (a := ⟨w.heap.size, 0, none⟩) (by simp) (.int .u64 a')).setCell (a := ⟨w.heap.size, 1, none⟩) (by simp) (.int .u64 b')
    exact ⟨⟨k + 1, by omega, by go_num, by rw [HE.out]; exact n1, G3⟩, by simp [intOf]; omega⟩
  ·have he : k = 64 := by omega
   subst he
   have q1 := hr.cell 1
   simp only [getS] at q1
   clear bd et
   go_wp2_with fail
   rw [HQ.out]
   go_ret
   exact ⟨rfl, hg⟩
theorem wrun_inv : wrun 118661582157481174 (281474976710656, 0) 64 = (67367133180445296, 43757185469210200) := by decide +kernel
theorem gainInv_c (w : World) : InvIs w := by
 unfold InvIs
 have G : CR 207 #[] (.int .i64 118661582157481174) := Lib.hid gainGain_c
 have D : CR 206 #[.agg #[.int .u64 281474976710656, .int .u64 0], .int .u64 118661582157481174] (.int .u64 43757185469210200) := Lib.hid fun W => by
  have := wideDivided_c 118661582157481174 281474976710656 0 (by decide) (by decide) (by decide) W
  rw [wrun_inv] at this
  exact this
 have k1 : IntKind.u64.wrap 118661582157481174 = 118661582157481174 := by decide
 have k2 : IntKind.i64.wrap 43757185469210200 = 43757185469210200 := by decide
 go_enter Tryz.func202, Tryz.ntmps202
 go_wp2_with fail
 have c0 : (w.alloc (.cells #[.int .u64 281474976710656, .int .u64 0] 235)).cell? ⟨w.heap.size, 0, none⟩ = some (.int .u64 281474976710656) := by simp
 have c1 : (w.alloc (.cells #[.int .u64 281474976710656, .int .u64 0] 235)).cell? ⟨w.heap.size, 1, none⟩ = some (.int .u64 0) := by simp
 have hg0 := (Gr.refl w).alloc #[.int .u64 281474976710656, .int .u64 0] 235
 have hB : w.heap.size < (w.alloc (.cells #[.int .u64 281474976710656, .int .u64 0] 235)).heap.size := by simp
 generalize w.alloc (.cells #[.int .u64 281474976710656, .int .u64 0] 235) = u at *
 generalize w.heap.size = B at *
 go_region_held3 (fun W => W.cell? ⟨B, 0, none⟩ = some (.int .u64 281474976710656) ∧ W.cell? ⟨B, 1, none⟩ = some (.int .u64 0) ∧ Gr u W)
  (first | (go_split_ands; refine ⟨?_, ?_, ?_⟩; (all_goals (first | assumption | exact Gr.refl _ | exact Gr.drew (Gr.refl _) | exact Gr.drew (by assumption) | (go_keep; done) | ((refine (Gr.cell (by assumption) ?_).trans ?_ <;> (first | assumption)); done)))))
  (first | (go_at_call 207; go_split_ands; ((with_reducible refine (G.out _).mono ?_); rintro e w' ⟨rfl, hg⟩; have hgw : Gr u w' := Gr.trans (by first | assumption | exact Gr.drew (Gr.refl _) | exact Gr.drew (by assumption) | exact Gr.refl _) hg)) | (go_at_call 206; go_split_ands; ((with_reducible refine (D.out _).mono ?_); rintro e w' ⟨rfl, hg⟩; have hgw : Gr u w' := Gr.trans (by first | assumption | exact Gr.drew (Gr.refl _) | exact Gr.drew (by assumption) | exact Gr.refl _) hg)))
 have g4 : Gr u w' := by (try go_split_ands); assumption
 go_wp2
 go_ret
 exact ⟨rfl, hg0.trans g4⟩
end
end Go.Proofs.YtcgeabpibkejpaaGreat
