import Derived.RangeFuncNested
import Derived.RangeFuncBound
import Derived.RangeFuncCalls
import Derived.RangeFuncLeaves
import Derived.Shelf.Abstract
import Derived.Shelf.RegionOpen
import Derived.OwnWalkIn
import Derived.TacticsInMore
import Derived.LoopNIn
import Derived.LoopIn
import Derived.Test.YtdignnmpfkgkoaaGreatRealBinsS12
namespace Go.Proofs.YtdignnmpfkgkoaaGreat
section
open Go.ChangeShapes Go.WideShapes Go.ChangeAt Go.RowKit
set_option linter.unusedVariables false
set_option maxRecDepth 100000
set_option maxHeartbeats 16000000
def gi0 : Gi := ⟨0, 0⟩
def flipL (L : Nat) (xs : List Gi) : List Gi := (List.range (2 ^ L)).map (fun k => xs.getD (fl L k) gi0)
theorem flipL_len (L : Nat) (xs : List Gi) : (flipL L xs).length = 2 ^ L := by unfold flipL; simp
theorem flipL_at (L : Nat) (xs : List Gi) (j : Nat) (h : j < 2 ^ L) : (flipL L xs)[j]? = some (xs.getD (fl L j) gi0) := by unfold flipL; simp [h]
def yk (L : Nat) (xs : List Gi) (k j : Nat) : Gi := if min j (fl L j) < k then xs.getD (fl L j) gi0 else xs.getD j gi0
theorem yk_zero (L : Nat) (xs : List Gi) (j : Nat) : yk L xs 0 j = xs.getD j gi0 := by unfold yk; rw [if_neg (by omega)]
theorem yk_all (L : Nat) (xs : List Gi) (j : Nat) (h : j < 2 ^ L) : yk L xs (2 ^ L) j = xs.getD (fl L j) gi0 := by unfold yk; rw [if_pos (by omega)]
theorem yk_stay (L : Nat) (xs : List Gi) (k j : Nat) (hL : L ≤ 6) (hk : k < 2 ^ L) (hj : j < 2 ^ L) (h : fl L k ≤ k) : yk L xs (k + 1) j = yk L xs k j := by
 unfold yk
 by_cases e : j = k
 ·subst e
  by_cases e2 : fl L j = j
  ·rw [e2]; split <;> split <;> rfl
  ·rw [if_pos (by omega), if_pos (by omega)]
 ·by_cases e2 : fl L j = k
  ·have : fl L k = j := by rw [← e2]; exact fl_fl L j hL hj
   by_cases e3 : j < k
   ·rw [if_pos (by omega), if_pos (by omega)]
   ·omega
  ·by_cases e3 : min j (fl L j) < k
   ·rw [if_pos (by omega), if_pos e3]
   ·rw [if_neg (by omega), if_neg e3]
theorem yk_swap (L : Nat) (xs : List Gi) (k : Nat) (hL : L ≤ 6) (hk : k < 2 ^ L) (h : k < fl L k) :
 yk L xs k (fl L k) = xs.getD (fl L k) gi0 ∧ yk L xs k k = xs.getD k gi0 ∧ yk L xs (k + 1) k = xs.getD (fl L k) gi0 ∧ yk L xs (k + 1) (fl L k) = xs.getD k gi0 ∧
 ∀ j, j < 2 ^ L → j ≠ k → j ≠ fl L k → yk L xs (k + 1) j = yk L xs k j := by
 have hf := fl_fl L k hL hk
 unfold yk
 refine ⟨?_, ?_, ?_, ?_, fun j hj h1 h2 => ?_⟩
 ·rw [hf, if_neg (by omega)]
 ·rw [if_neg (by omega)]
 ·rw [if_pos (by omega)]
 ·rw [hf, if_pos (by omega)]
 ·have h3 : fl L j ≠ k := by
   intro e
   exact h2 (by rw [← e]; exact (fl_fl L j hL hj).symm)
  by_cases e3 : min j (fl L j) < k
  ·rw [if_pos (by omega), if_pos e3]
  ·rw [if_neg (by omega), if_neg e3]
theorem gcells_inv (xs : List Gi) (k : Nat) (v : Value) (h : (gcells xs)[k]? = some v) : ∃ j x, xs[j]? = some x ∧ ((k = j * 2 ∧ v = .int .i64 x.re) ∨ (k = j * 2 + 1 ∧ v = .int .i64 x.im)) := by
 have hk := (List.getElem?_eq_some_iff.1 h).1
 rw [gcells_len] at hk
 obtain ⟨x, hx⟩ : ∃ x, xs[k / 2]? = some x := get_of_lt (by omega)
 have h2 := gcells_at xs (k / 2) x hx
 rcases Nat.mod_two_eq_zero_or_one k with e | e
 ·rw [show k / 2 * 2 = k by omega, h] at h2
  exact ⟨k / 2, x, hx, .inl ⟨by omega, Option.some.inj h2.1⟩⟩
 ·rw [show k / 2 * 2 + 1 = k by omega, h] at h2
  exact ⟨k / 2, x, hx, .inr ⟨by omega, Option.some.inj h2.2⟩⟩
theorem flip08_ok (v : Value) (xs : List Gi) (L : Nat) (l0 : 2 ≤ L) (l1 : L ≤ 6) (hl : xs.length = 2 ^ L) (w : World) (hv : CxsAt w v xs) :
 Calls Tryz.prog 106 #[v] w fun e w' => ∃ v', e = .returned (.tuple #[v', .int .i64 0]) ∧ CxsAt w' v' (flipL L xs) ∧ Gr w w' := by
 have h64 := pow_le L l1
 have h4 : 4 ≤ 2 ^ L := Nat.pow_le_pow_right (n := 2) (by omega) l0
 obtain ⟨b, o, cap, rfl, hlen, hb, hc⟩ := hv.at (by intro e; rw [e] at hl; simp at hl; omega)
 have HG := kh (log08_yes ((2 ^ L : Nat) : Int) L ⟨l0, l1, rfl⟩)
 have HF := kh fun k (hk : k < 64) => flipped_c k L l1 hk
 have HX : ∀ j, j < 2 ^ L → xs[j]? = some (xs.getD j gi0) := fun j hj => by rw [List.getD_eq_getElem?_getD, List.getElem?_eq_getElem (by omega)]; rfl
 have HY0 := kh (yk_zero L xs)
 have HYn := kh (yk_all L xs)
 have HYs := kh fun k j hk hj h => yk_stay L xs k j l1 hk hj h
 have HYw := kh fun k hk h => yk_swap L xs k l1 hk h
 have HFl := kh (fl_lt L)
 have HZ := kh (flipL_at L xs)
 have HZl := kh (flipL_len L xs)
 rw [hl]
 generalize flipL L xs = zs at *
 generalize 2 ^ L = n at *
 have hmk := run_make_cx n (by omega) w
 obtain ⟨W2, hcp, hC2, hg2⟩ : ∃ W2, (Builtin.copy_ #[25, 25] 3 #[.slice (some ⟨w.heap.size, 0, none⟩) n n, .slice (some ⟨b, o, none⟩) n cap]).run Tryz.prog (w.alloc (.cells (madeCells #[.int .i64 0, .int .i64 0] (n * 2)) 50)) = .ok (.int .i64 n) W2 ∧ CellsAt W2 w.heap.size 50 (gcells xs).toArray ∧ Gr w W2 := by
  have M0 := CellsAt.new w 50 (madeCells #[.int .i64 0, .int .i64 0] (n * 2));have M1 := size_madeCells #[.int .i64 0, .int .i64 0] (n * 2);have g1 := (Gr.refl w).alloc (madeCells #[.int .i64 0, .int .i64 0] (n * 2)) 50;have hL := gcells_len xs;have hr := run_copy_cx (w.alloc (.cells (madeCells #[.int .i64 0, .int .i64 0] (n * 2)) 50)) 3 w.heap.size n n ⟨b, o, none⟩ n cap _ 50 (gcells xs) M0
   (by rw [hL, hl]; simp) (by
    intro j v hj
    rw [Addr.add_lit];obtain ⟨j', x, hx, h⟩ := gcells_inv xs j v hj;have hcx := hc j' x hx
    rcases h with ⟨rfl, rfl⟩ | ⟨rfl, rfl⟩
    ·exact (g1.cell (p := ⟨b, o + j' * 2, none⟩) hb).trans hcx.1
    ·exact (g1.cell (p := ⟨b, o + j' * 2 + 1, none⟩) hb).trans hcx.2)
   (by rw [hL, hl, M1]; omega) (by
    intro v hv
    obtain ⟨j, hj, rfl⟩ := List.mem_iff_getElem.1 hv;obtain ⟨j', x, hx, h⟩ := gcells_inv xs j _ (List.getElem?_eq_getElem hj)
    rcases h with ⟨_, h⟩ | ⟨_, h⟩ <;> rw [h] <;> rfl)
  have hd : (madeCells #[.int .i64 0, .int .i64 0] (n * 2)).toList.drop (gcells xs).length = [] := List.drop_eq_nil_of_le (by rw [hL, hl]; simp [M1])
  rw [hd, List.append_nil] at hr;refine ⟨_, ?_, setRow_heap _ _ _ _ _ _ M0, ⟨below_setRow g1.out (Nat.le_refl _) _⟩⟩;rw [hr]
  simp [goInt]
 have S0 : (gcells xs).toArray.size = n * 2 := by have := gcells_len xs; simp only [List.size_toArray]; omega
 clear hc hl hb
 go_in
 go_wp2_with (first | (go_at_call 34; refine (HG.out _).mono ?_; rintro e wz ⟨rfl, rfl⟩))
 go_loopw [7, 8, 26] (fun _ _ i wr => ∃ k : Nat, ∃ c : Array Value, k ≤ n ∧ i = .int .i64 k ∧ CellsAt wr wz.heap.size 50 c ∧ c.size = n * 2 ∧ (∀ j, j < n → c[j * 2]? = some (.int .i64 (yk L xs k j).re) ∧ c[j * 2 + 1]? = some (.int .i64 (yk L xs k j).im)) ∧ Gr wz wr)
  (fun _ _ i _ => n - (intOf i).toNat)
 case atStart =>
  refine ⟨0, _, by omega, rfl, hC2, S0, fun j hj => ?_, hg2⟩;rw [HY0.out]
  simpa using gcells_at xs j _ (HX j hj)
 case round =>
  clear hC2 hg2 hmk hcp S0 HX;obtain ⟨k, c, hk, rfl, hC, hs, hj, hg⟩ := hrel
  by_cases hlt : k < n
  ·have HA := kh (HF.out k (by omega))
   have hfl := HFl.out k
   by_cases hsw : k < fl L k
   ·obtain ⟨e1, e2, e3, e4, e5⟩ := HYw.out k hlt hsw
    have E := kh (And.intro e3 (And.intro e4 e5));have q0 := (hj k hlt).1;have q1 := (hj k hlt).2;have p0 := (hj _ hfl).1;have p1 := (hj _ hfl).2;rw [e2] at q0 q1;rw [e1] at p0 p1;clear e1 e2 e3 e4 e5;have HJ := kh hj;have HS := kh hs;clear hj hs HF HFl HY0 HYn HYs HYw;have q2 := hC.cell (k * 2);have q3 := hC.cell (k * 2 + 1);have p2 := hC.cell (fl L k * 2);have p3 := hC.cell (fl L k * 2 + 1);rw [q0] at q2;rw [q1] at q3;rw [p0] at p2;rw [p1] at p3;have f0 := hC.frozen (k * 2);have f1 := hC.frozen (k * 2 + 1);have f2 := hC.frozen (fl L k * 2);have f3 := hC.frozen (fl L k * 2 + 1);clear q0 q1 p0 p1;have hBl := hC.lt;generalize fl L k = f at *;generalize xs.getD f gi0 = gf at *;generalize xs.getD k gi0 = gk at *
    have hi1 : (f : Int) < n := by omega
    have hi2 : (k : Int) < f := by omega
    have hi3 : ¬ f = k := by omega
    have hi4 : ¬ k = f := by omega
    go_wp2_with (first | (go_at_call 148; refine (HA.out _).mono ?_; rintro e wy ⟨rfl, rfl⟩))
    go_region
    go_wp2_with fail;have hC4 := ((((hC.set (k * 2) (.int .i64 gf.re)).set (k * 2 + 1) (.int .i64 gf.im)).set (f * 2) (.int .i64 gk.re)).set (f * 2 + 1) (.int .i64 gk.im)).drewN 1;have hg4 := ((((hg.setCell (a := ⟨wz.heap.size, k * 2, none⟩) (Nat.le_refl _) (.int .i64 gf.re)).setCell (a := ⟨wz.heap.size, k * 2 + 1, none⟩) (Nat.le_refl _) (.int .i64 gf.im)).setCell (a := ⟨wz.heap.size, f * 2, none⟩) (Nat.le_refl _) (.int .i64 gk.re)).setCell (a := ⟨wz.heap.size, f * 2 + 1, none⟩) (Nat.le_refl _) (.int .i64 gk.im)).drew;obtain ⟨E1, E2, E3⟩ := E.out
    go_roundw
    case rel =>
     refine ⟨k + 1, _, by omega, by go_num, hC4, by simpa using HS.out, fun j hj => ?_, hg4⟩;have hs := HS.out
     by_cases e : j = k
     ·subst e
      rw [E1]
      constructor
      ·rw [Array.getElem?_setIfInBounds, if_neg (by omega), Array.getElem?_setIfInBounds, if_neg (by omega), Array.getElem?_setIfInBounds, if_neg (by omega), Array.getElem?_setIfInBounds, if_pos rfl, if_pos (by omega)]
      ·rw [Array.getElem?_setIfInBounds, if_neg (by omega), Array.getElem?_setIfInBounds, if_neg (by omega), Array.getElem?_setIfInBounds, if_pos rfl, if_pos (by simp only [Array.size_setIfInBounds]; omega)]
     ·by_cases e' : j = f
      ·subst e'
       rw [E2]
       constructor
       ·rw [Array.getElem?_setIfInBounds, if_neg (by omega), Array.getElem?_setIfInBounds, if_pos rfl, if_pos (by simp only [Array.size_setIfInBounds]; omega)]
       ·rw [Array.getElem?_setIfInBounds, if_pos rfl, if_pos (by simp only [Array.size_setIfInBounds]; omega)]
      ·rw [E3 j hj e e']
       constructor
       ·rw [Array.getElem?_setIfInBounds, if_neg (by omega), Array.getElem?_setIfInBounds, if_neg (by omega), Array.getElem?_setIfInBounds, if_neg (by omega), Array.getElem?_setIfInBounds, if_neg (by omega)]
        exact (HJ.out j hj).1
       ·rw [Array.getElem?_setIfInBounds, if_neg (by omega), Array.getElem?_setIfInBounds, if_neg (by omega), Array.getElem?_setIfInBounds, if_neg (by omega), Array.getElem?_setIfInBounds, if_neg (by omega)]
        exact (HJ.out j hj).2
    case measure => simp [intOf]; omega
   ·have hst := HYs.out k
    have HJ := kh hj;have HE := kh fun j hj => hst j hlt hj (by omega)
    clear hj hst HF HFl HY0 HYn HYs HYw;generalize fl L k = f at *
    go_wp2_with (first | (go_at_call 148; refine (HA.out _).mono ?_; rintro e wy ⟨rfl, rfl⟩))
    go_roundw
    case rel => exact ⟨k + 1, c, by omega, by go_num, hC, hs, fun j hj => by rw [HE.out j hj]; exact HJ.out j hj, hg⟩
    case measure => simp [intOf]; omega
  ·have he : k = n := by omega
   subst he;go_wp2_with fail
   go_ret2
   refine ⟨.slice (some ⟨wz.heap.size, 0, none⟩) k k, rfl, ⟨some ⟨wz.heap.size, 0, none⟩, k, by rw [HZl.out], by rw [HZl.out]; omega, by unfold maxLen; omega, fun _ => ⟨wz.heap.size, 0, rfl, hC.lt, fun j x hx => ?_⟩⟩, hg⟩
   have hjl : j < k := by
    have := (List.getElem?_eq_some_iff.1 hx).1
    rwa [HZl.out] at this
   rw [HZ.out j hjl] at hx
   obtain rfl := Option.some.inj hx
   rw [hC.cell, hC.cell, Nat.zero_add, ← HYn.out j hjl]
   exact hj j hjl
end
section
open Go.ChangeShapes Go.WideShapes Go.ChangeAt Go.RowKit
set_option linter.unusedVariables false
set_option maxRecDepth 10000 in set_option maxHeartbeats 2000000 in
theorem rflip08_c (v : Value) (xs : List Gi) (L : Nat) (l0 : 2 ≤ L) (l1 : L ≤ 6) (hl : xs.length = 2 ^ L) (w : World) (hv : CxsAt w v xs) :
 Calls Tryz.prog 90 #[v] w fun e w' => ∃ v', e = .returned v' ∧ CxsAt w' v' (flipL L xs) ∧ Gr w w' := by
 obtain ⟨i0, hi, hz0, hz1, hz2⟩ := info_parts info_cx
 have h64 := pow_le L l1
 have h4 : 4 ≤ 2 ^ L := Nat.pow_le_pow_right (n := 2) (by omega) l0
 obtain ⟨b, o, cap, rfl, hlen, hb, hc⟩ := hv.at (by intro e; rw [e] at hl; simp at hl; omega)
 have HG := kh (rlog08_yes ((2 ^ L : Nat) : Int) L ⟨l0, l1, rfl⟩)
 have HB := kh fun k (hk : k < 64) => rbits08_c k L l1 hk
 have HR : flipL L xs = (List.range (2 ^ L)).map (fun k => xs.getD (fl L k) gi0) := rfl
 have HFl := kh (fl_lt L)
 have HC := kh fun j (hj : j < 2 ^ L) => hc j (xs.getD j gi0) (by rw [List.getD_eq_getElem?_getD, List.getElem?_eq_getElem (by omega)]; rfl)
 rw [HR, hl]
 clear HR hc hl hv
 generalize 2 ^ L = n at *
 go_in
 go_wp2_with fail
 have hs0 : ((w.alloc (.cells #[] 50)).ownsRow w.heap.size 50 2 (.slice (some ⟨w.heap.size, 0, none⟩) 0 0) 0 []) := World.ownsRow_made w #[] 0 (Nat.le_refl _) (by unfold maxLen; omega) (by simp)
 go_loopw [3, 4, 8] (fun v _ i wr => ∃ j : Nat, j ≤ n ∧ i = .int .i64 j ∧ wr.ownsRow w.heap.size 50 2 v j (gcells ((List.range j).map (fun k => xs.getD (fl L k) gi0))) ∧ Gr w wr)
  (fun _ _ i _ => n - (intOf i).toNat)
 case atStart => exact ⟨0, by omega, rfl, hs0, (Gr.refl _).alloc _ _⟩
 case round =>
  clear hs0;obtain ⟨j, hj, rfl, hrow, hg⟩ := hrel
  by_cases hlt : j < n
  ·have HB1 := kh (HB.out j (by omega))
   have er : (List.range (j + 1)).map (fun k => xs.getD (fl L k) gi0) = (List.range j).map (fun k => xs.getD (fl L k) gi0) ++ [xs.getD (fl L j) gi0] := by rw [List.range_succ, List.map_append]; rfl
   have ER := kh er;have hf := HFl.out j;have hcf := HC.out _ hf;have c0 := (hg.cell (p := ⟨b, o + fl L j * 2, none⟩) hb).trans hcf.1;have c1 := (hg.cell (p := ⟨b, o + fl L j * 2 + 1, none⟩) hb).trans hcf.2;clear er HB HC hcf HFl;generalize xs.getD (fl L j) gi0 = g at *;generalize fl L j = f at *;obtain ⟨re, im⟩ := g
   simp only at c0 c1
   have hgs := hg.size
   have hi1 : (f : Int) < n := by omega
   have hbl : b < wr.heap.size := Nat.lt_of_lt_of_le hb hgs
   go_wp2_with (first
    | (go_at_call 35; refine (HG.out _).mono ?_; rintro e wr ⟨rfl, rfl⟩)
    | (go_at_call 137; refine (HB1.out _).mono ?_; rintro e wr ⟨rfl, rfl⟩)
    | (at_builtin; refine wpList_append_own_at _ rfl (.tmp 11) (.tmp 20) 25 rfl w.heap.size 50 i0 (.agg #[.int .i64 0, .int .i64 0]) 2 16 Tryz.underlying25 hi hz0 hz1 hz2 rfl (by decide) _ _ _ rfl (hrow.alloc _) ⟨wr.heap.size, 0, none⟩ 1 1 [.int .i64 re, .int .i64 im] rfl rfl (news_two _ _ _ _) (by simp [Value.oneCell']) (by unfold maxLen; omega) (by omega) (by simp; omega) ?_; intro v' w3 hown' hgrow _ hblk))
   have e : gcells ((List.range j).map (fun k => xs.getD (fl L k) gi0)) ++ [.int .i64 re, .int .i64 im] = gcells ((List.range (j + 1)).map (fun k => xs.getD (fl L k) gi0)) := by
    rw [ER.out, gcells_snoc]
   rw [e] at hown';have hg3 := (hg.allocO _).grown hgrow (fun k e => (hrow.lt k e).1)
   go_roundw
   case rel => exact ⟨j + 1, by omega, by go_num, hown', hg3⟩
   case measure => simp [intOf]; omega
  ·have he : j = n := by omega
   subst he;go_wp2_with fail
   go_ret
   exact ⟨_, rfl, CxsAt.of_row hrow, hg⟩
end
section
open Go.ChangeShapes Go.WideShapes Go.ChangeAt Go.RowKit Go.Shelf
set_option linter.unusedVariables false
set_option maxRecDepth 100000
set_option maxHeartbeats 16000000
def noDefer (ops : Array Oper) : Bool := ops.all fun o => match o.op with | .defer _ => false | _ => true
theorem noDefer_spec {ops : Array Oper} (h : noDefer ops = true) {j : Nat} {o : Oper} (ho : ops[j]? = some o) : ∀ c, o.op ≠ .defer c := by
 intro c e
 obtain ⟨hj, rfl⟩ := Array.getElem?_eq_some_iff.1 ho
 have := Array.all_eq_true.1 h j hj
 rw [e] at this
 cases this
theorem rowsIn_round {l n : Nat} {P : Program} {row : String} {args : Array Value} {w : World} {R : Value → World → Prop} (h : Rows P row args w R) : RowsIn (Fence.wide.inRound l) n P row args w R := by
 intro c cs hr
 obtain ⟨v, w', hR, hs⟩ := h c cs
 exact ⟨v, w', hR, (stepsIn_wide.2 hs)⟩
theorem wpOpIn_of {l n : Nat} {P : Program} {ops : Array Oper} {Q : Exit → Act → World → Prop} {i : Nat} {K : Act → World → Prop} {a : Act} {w : World} (hQ : ¬ LetsOut Q) (hd : noDefer ops = true) (h : wpOp P ops Q i K a w) :
 wpOpIn (Fence.wide.inRound l) n P ops Q i K a w := by
 unfold wpOp at h
 unfold wpOpIn
 cases ho : ops[i]? with
 | none => simpa only [ho] using h
 | some o =>
   simp only [ho] at h ⊢
   by_cases hw : Region.wanted o (yielded ops a.tmps) = true
   ·rw [if_pos hw] at h ⊢
    have h1 : o.wp P a w K Q := h.resolve_right (fun hh => hQ hh.2)
    refine ⟨fun _ _ => trivial, ?_⟩;rw [Oper.semAt_eq _ _ _ (noDefer_spec hd ho)];unfold Oper.wp at h1;generalize (execOp a.eval o).run P w = r at *
    cases r with
    | ok x w' =>
      cases x <;> simp only [Oper.upon, Oper.uponIn] at h1 ⊢
      case value => exact h1
      case skip => exact h1
      case defer => exact h1
      case enter f args => exact ⟨fun hh => (by cases hh), CallsIn.inRound l (callsIn_wide.2 (Calls.mono h1 (fun e w'' he => by cases e <;> exact he)))⟩
      case row row args => exact ⟨fun hh => (by cases hh), rowsIn_round h1⟩
    | halt x w' => cases x <;> simp only [Oper.upon, Oper.uponIn] at h1 ⊢ <;> exact h1
   ·rw [if_neg hw] at h ⊢
    exact ⟨fun _ _ => trivial, h⟩
theorem wpAnyIn_of {l n : Nat} {P : Program} {md : Region.Mode} {ops : Array Oper} {Q : Exit → Act → World → Prop} (hQ : ¬ LetsOut Q) (hd : noDefer ops = true) :
 ∀ (fuel : Nat) (listed : Array Bool) (a : Act) (w : World), wpAny P md ops Q fuel listed a w → wpAnyIn (Fence.wide.inRound l) n P md ops Q fuel listed a w
 | 0, _, _, _, h => h
 | fuel + 1, _, _, _, h => ⟨h.1, fun i hi => wpOpIn_of hQ hd (wpOp_mono (fun a' w' => wpAnyIn_of hQ hd fuel _ a' w') (h.2 i hi))⟩
theorem wpIn_region_held_round {l n : Nat} {P : Program} {ops : Array Oper} {Q : Exit → Act → World → Prop} {S : World → Prop} {id : Nat} {a : Act} {w : World} (hm : P.follows .mixedOrders = true) (hd : noDefer ops = true) (hQ : ¬ LetsOut Q) (hS : S w.drew)
 (h : S w.drew → wpAnyH P .any ops Q S ops.size (Array.replicate ops.size false) a w.drew) : (Code.region id ops true).wpIn (Fence.wide.inRound l) n P Q a w :=
 wpIn_region_any hm (wpAnyIn_of hQ hd _ _ _ _ (wpAny_of_held _ _ _ _ (h hS)))
end
section
open Go.ChangeShapes Go.WideShapes Go.ChangeAt Go.RowKit Go.Shelf
set_option linter.unusedVariables false
theorem wide_fn (f : FuncId) : Fence.wide.fn f = True := rfl
attribute [local go_sem] wide_fn Oper.semAt_some
structure Pl where
 a : Nat
 b : Nat
 r : Nat
def pairAt (h u q : Nat) : Pl := ⟨2 * h * (q / h) + q % h, 2 * h * (q / h) + h + q % h, q % h * u⟩
def plEnc (p : Pl) : Array Value := #[.agg #[p.a, p.b, p.r]]
theorem pairAt_in (h u k j : Nat) (h1 : 1 ≤ h) (hj : j < h) : pairAt h u (h * k + j) = ⟨2 * h * k + j, 2 * h * k + h + j, j * u⟩ := by
 have e1 : (h * k + j) / h = k := by rw [Nat.mul_add_div (by omega), Nat.div_eq_of_lt hj, Nat.add_zero]
 have e2 : (h * k + j) % h = j := by rw [Nat.mul_add_mod, Nat.mod_eq_of_lt hj]
 unfold pairAt
 rw [e1, e2]
def Qi (N : Nat) : Type := { q : Nat // q < N }
def qL (N : Nat) : Nat → List (Qi N)
 | 0 => []
 | m + 1 => qL N m ++ (if hm : m < N then [⟨m, hm⟩] else [])
theorem qL_snoc (N m : Nat) (x : Qi N) (hx : x.1 = m) : qL N (m + 1) = qL N m ++ [x] := by
 obtain ⟨q, hq⟩ := x
 simp only at hx
 subst hx
 rw [qL, dif_pos hq]
theorem qL_len (N : Nat) : ∀ m, m ≤ N → (qL N m).length = m
 | 0, _ => rfl
 | m + 1, h => by rw [qL_snoc N m ⟨m, h⟩ rfl, List.length_append, qL_len N m (by omega)]; rfl
theorem qL_all (N : Nat) (q : Qi N) : ∀ m, q.1 < m → q ∈ qL N m
 | m + 1, h => by
   rcases Nat.lt_or_ge q.1 m with g | g
   ·rw [qL]
    exact List.mem_append.2 (.inl (qL_all N q m g))
   ·rw [qL_snoc N m q (by omega)]
    exact List.mem_append.2 (.inr (by simp))
def encQ (h u : Nat) (x : Qi (h * u)) : Array Value := plEnc (pairAt h u x.1)
theorem encQ_at (h u k j : Nat) (h1 : 1 ≤ h) (hj : j < h) (x : Qi (h * u)) (hx : x.1 = h * k + j) : encQ h u x = #[.agg #[.int .i64 ((2 * h * k + j : Nat) : Int), .int .i64 ((2 * h * k + h + j : Nat) : Int), .int .i64 ((j * u : Nat) : Int)]] := by
 unfold encQ
 rw [hx, pairAt_in h u k j h1 hj]
 rfl
def IsP (N : Nat) (ys : List (Qi N)) : Prop := ys = qL N N
theorem pairs_c (n h : Int) (w : World) :
 Calls Tryz.prog 183 #[n, h] w fun e w' => e = .returned (.func (.func 203) #[] #[.pointer (some ⟨w.heap.size, 0, none⟩), .pointer (some ⟨w.heap.size + 1, 0, none⟩)]) ∧ w' = (w.alloc (.cells #[n] 3)).alloc (.cells #[h] 3) := by
 go_in
 go_wp2_with fail
 go_ret
 exact ⟨by simp, rfl⟩
theorem two_nums (N h u k j : Nat) (hN : N = 2 * h * u) (hk : k < u) (hj : j < h) (hN64 : N ≤ 64) : h * k + j < h * u ∧ h * u ≤ 32 ∧ 2 * h * k + j ≤ 64 ∧ 2 * h * k + h + j ≤ 64 ∧ j * u ≤ 64 ∧ 2 * h * k ≤ 64 ∧ k ≤ 64 ∧ h ≤ 64 := by
 have h1 : h * (k + 1) ≤ h * u := Nat.mul_le_mul_left _ hk
 have h2 : 2 * h * (k + 1) ≤ 2 * h * u := Nat.mul_le_mul_left _ hk
 have h3 : j * u ≤ h * u := Nat.mul_le_mul_right _ (by omega)
 have h4 : 1 * u ≤ h * u := Nat.mul_le_mul_right _ (by omega)
 rw [Nat.mul_succ] at h1 h2
 rw [Nat.mul_assoc 2 h u] at hN h2
 have h5 : h * 1 ≤ h * u := Nat.mul_le_mul_left _ (by omega)
 rw [Nat.mul_assoc 2 h k] at *
 generalize h * u = p at *
 generalize h * k = q at *
 generalize j * u = r at *
 omega
theorem wr_add (a b : Nat) (h : a + b ≤ 64) : wrap64 ((a : Int) + (b : Int)) = ((a + b : Nat) : Int) := by rw [IntWalk.wrap64_in _ ⟨by omega, by omega⟩]; omega
theorem wr_mul (a b : Nat) (h : a * b ≤ 64) : wrap64 ((a : Int) * (b : Int)) = ((a * b : Nat) : Int) := by
 have : (a : Int) * (b : Int) = ((a * b : Nat) : Int) := by simp
 rw [this]
 exact IntWalk.wrap64_in _ ⟨by omega, by omega⟩
set_option maxRecDepth 100000 in set_option maxHeartbeats 4000000 in
theorem pairs1_in (n : Nat) (hn : 1 ≤ n) (l Bn Bh N h u : Nat) (hN : N = 2 * h * u) (h1 : 1 ≤ h) (hu : 1 ≤ u) (hN64 : N ≤ 64) (J Jx : List (Qi (h * u)) → World → Prop) (W0 : World) (hJ : AbidesFrom W0.heap.size J)
 (hY : ∀ pre x W, J pre W → pre.length < 32 → YieldAt Fence.wide (n - 1) Tryz.prog l (encQ h u x) W fun e W' =>
  (e = .returned (.bool true) ∧ J (pre ++ [x]) W' ∧ (W'.heap[Bn]? = W.heap[Bn]? ∧ W'.heap[Bh]? = W.heap[Bh]?)) ∨ (e = .returned (.bool false) ∧ Jx (pre ++ [x]) W'))
 (W : World) (hBn : Boxed W Bn 3 (.int .i64 N)) (hBh : Boxed W Bh 3 (.int .i64 h)) (h0 : J [] W) :
 CallsIn Fence.wide n Tryz.prog 203 #[.func (.yield l) #[] #[], .pointer (some ⟨Bn, 0, none⟩), .pointer (some ⟨Bh, 0, none⟩)] W fun e W' => (∃ v, e = .returned v) ∧
  ((∃ ys, IsP (h * u) ys ∧ J ys W') ∨ (∃ pre, True ∧ Jx pre W')) := by
 have hc := hBn.cell
 have hc2 := hBh.cell
 have hh64 : 2 * h ≤ 64 := by
  have : 2 * h * 1 ≤ 2 * h * u := Nat.mul_le_mul_left _ hu
  omega
 have hu64 : u ≤ 64 := by
  have : 1 * u ≤ 2 * h * u := Nat.mul_le_mul_right _ (by omega)
  omega
 have hdz : ¬ ((2 * h : Nat) : Int) = 0 := by omega
 have hdv : (N : Int) / ((2 * h : Nat) : Int) = (u : Int) := by
  rw [hN]
  have : ((2 * h * u : Nat) : Int) = ((2 * h : Nat) : Int) * (u : Int) := by simp
  rw [this]
  exact Int.mul_ediv_cancel_left _ hdz
 have h2i : 2 * (h : Int) = ((2 * h : Nat) : Int) := by omega
 have HNN := kh fun k j hk hj => two_nums N h u k j hN hk hj hN64
 have HPA := kh fun k j hj => encQ_at h u k j h1 hj
 have HQL := kh (fun m => qL_len (h * u) m)
 have HNE := kh hN
 clear hN
 generalize h2 : 2 * h = d at *
 refine callsIn_of_wp Tryz.func203 rfl trivial ?_ rfl
 simp only [Tryz.ntmps203, List.size_toArray, List.length_cons, List.length_nil, Nat.reduceAdd, Nat.reduceSub, Array.replicate_succ, Array.replicate_zero, List.push_toArray, List.append_toArray, List.nil_append, List.cons_append]
 gi_wp2_with fail
 clear hdv hdz
 gi_loopw [13] (fun k wr => ∃ b : Nat, b ≤ u ∧ k = .int .i64 b ∧ Boxed wr Bn 3 (.int .i64 N) ∧ Boxed wr Bh 3 (.int .i64 h) ∧ J (qL (h * u) (h * b)) wr) (fun k _ => u - (intOf k).toNat)
 case atStart => exact ⟨0, by omega, rfl, hBn, hBh, h0⟩
 case round =>
  clear hc hc2 h0 hBn hBh;obtain ⟨b, hb, rfl, hBn, hBh, hJs⟩ := hrel
  by_cases hlt : b < u
  ·have hc2 := hBh.cell
   have hlt' : (b : Int) < u := by omega
   have hbn := HNN.out b 0 hlt (by omega);have hwf := wr_mul d b hbn.2.2.2.2.2.1;have HBB := kh hbn;clear hbn;generalize hf : d * b = f at *
   gi_wp2_with fail
   simp only [hwf];clear hc2 hwf
   gi_loopw [21] (fun j wr2 => ∃ jn : Nat, jn ≤ h ∧ j = .int .i64 jn ∧ Boxed wr2 Bn 3 (.int .i64 N) ∧ Boxed wr2 Bh 3 (.int .i64 h) ∧ J (qL (h * u) (h * b + jn)) wr2) (fun j _ => h - (intOf j).toNat)
   case atStart => exact ⟨0, by omega, rfl, hBn, hBh, hJs⟩
   case round =>
    clear hJs hBn hBh;obtain ⟨j, hj, rfl, hBn, hBh, hJs⟩ := hrel
    by_cases hjl : j < h
    ·have hc2 := hBh.cell
     have hjl' : (j : Int) < h := by omega
     obtain ⟨n1, n2, n3, n4, n5, n6, n7, n8⟩ := HNN.out b j hlt hjl
     obtain ⟨x, hx⟩ : ∃ x : Qi (h * u), x.1 = h * b + j := ⟨⟨_, n1⟩, rfl⟩
     have hpa := HPA.out b j hjl x hx;rw [hf] at n3 n4 n6 hpa;have hwa := wr_add f j n3;have hwm := wr_add f h (Nat.le_trans (Nat.le_add_right _ _) n4);have hwb := wr_add (f + h) j n4;have hwr := wr_mul j u n5;obtain ⟨fn, tmps, assign, body, hy, hR⟩ := hY _ x wr hJs (by rw [HQL.out _ (Nat.le_of_lt n1)]; exact Nat.lt_of_lt_of_le n1 n2);rw [hpa] at hy;have HS := kh (qL_snoc (h * u) (h * b + j) x hx);clear hpa hx;generalize f + h = m at *;generalize f + j = fa at *;generalize m + j = fb at *;generalize j * u = fr at *
     have hj64 : j ≤ 64 := Nat.le_trans (Nat.le_of_lt hjl) n8
     clear n1 n2 n3 n4 n5 n6 n7 n8 hh64 hu64 hN64 h2 h2i hf
     gi_wp2_with fail
     refine hR.mono ?_;clear hy hR;rintro e W3 (⟨rfl, hJ3, hk3, hk4⟩ | ⟨rfl, hJx3⟩)
     ·have hBn3 : Boxed W3 Bn 3 (.int .i64 N) := hk3.trans hBn
      have hBh3 : Boxed W3 Bh 3 (.int .i64 h) := hk4.trans hBh
      clear hc2 hJs hk3 hk4 hBn hBh;have hc3 := hBh3.cell
      gi_wp2_with fail
      go_roundw
      case rel =>
       refine ⟨j + 1, by omega, by go_num, hBn3, hBh3, ?_⟩;rw [show h * b + (j + 1) = h * b + j + 1 by omega, HS.out]
       exact hJ3
      case measure => simp [intOf]; omega
     ·gi_wp2
      refine bodyPost_ret (results_none rfl _ _ _) rfl ?_
      exact ⟨⟨_, rfl⟩, .inr ⟨_, trivial, hJx3⟩⟩
    ·obtain rfl : j = h := by omega
     gi_wp2_with fail
     go_roundw
     case rel =>
      first
       | exact ⟨b + 1, by omega, by go_num, hBn, hBh, by rw [Nat.mul_succ]; exact hJs⟩
       | ((repeat apply Exists.intro); refine ⟨?_, rfl⟩; exact ⟨b + 1, by omega, by go_num, hBn, hBh, by rw [Nat.mul_succ]; exact hJs⟩)
     case measure => simp [intOf]; omega
  ·obtain rfl : b = u := by omega
   gi_wp2_with fail
   go_end0
   exact ⟨⟨_, rfl⟩, .inl ⟨_, rfl, hJs⟩⟩
theorem pairs_stops (n : Nat) (hn : 1 ≤ n) (Bn Bh N h u : Nat) (hN : N = 2 * h * u) (h1 : 1 ≤ h) (hu : 1 ≤ u) (hN64 : N ≤ 64) (w : World) (hb : Boxed w Bn 3 (.int .i64 N)) (hh : Boxed w Bh 3 (.int .i64 h)) :
 SeqStopsK Fence.wide n Tryz.prog 203 #[.pointer (some ⟨Bn, 0, none⟩), .pointer (some ⟨Bh, 0, none⟩)] (encQ h u) (fun A B => B.heap[Bn]? = A.heap[Bn]? ∧ B.heap[Bh]? = A.heap[Bh]?) (IsP (h * u)) (fun _ => True) 32 w := fun l J Jx W hW hJ _ hY h0 =>
 pairs1_in n hn l Bn Bh N h u hN h1 hu hN64 J Jx W hJ hY W ((hW.block Bn hb.lt).trans hb) ((hW.block Bh hh.lt).trans hh) h0
end
end Go.Proofs.YtdignnmpfkgkoaaGreat
