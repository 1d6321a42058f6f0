import Derived.Test.YtdignnmpfkgkoaaGreatRealBinsS13
import Derived.Test.YtdignnmpfkgkoaaGreatRealBinsS18
namespace Go.Proofs.YtdignnmpfkgkoaaGreat
section
open Go.ChangeShapes Go.WideShapes Go.ChangeAt Go.RowKit Go.Shelf
set_option linter.unusedVariables false
set_option linter.unusedSimpArgs false
set_option maxRecDepth 100000
set_option maxHeartbeats 16000000
attribute [local go_sem] wide_fn Oper.semAt_some
theorem ofPlaces_c (px : Option Addr) (n cap : Nat) (F S : Int) (w : World) :
 Calls Tryz.prog 180 #[.slice px n cap, F, S] w fun e w' => e = .returned (.func (.func 197) #[] #[.pointer (some ⟨w.heap.size + 1, 0, none⟩), .pointer (some ⟨w.heap.size, 0, none⟩), .pointer (some ⟨w.heap.size + 1 + 1, 0, none⟩)]) ∧ w' = ((w.alloc (.cells #[.slice px n cap] 25)).alloc (.cells #[F] 3)).alloc (.cells #[S] 3) := by
 go_in
 go_wp2_with fail
 go_ret
 exact ⟨by simp, rfl⟩
def pick (xs : List Gi) (F S q : Nat) : Gi := xs.getD (F + S * q) ⟨0, 0⟩
def encG (x : Gi) : Array Value := #[.agg #[x.re, x.im]]
theorem pick_snoc (xs : List Gi) (F S q : Nat) : (List.range (q + 1)).map (pick xs F S) = (List.range q).map (pick xs F S) ++ [pick xs F S q] := by rw [List.range_succ, List.map_append]; rfl
theorem places1_in (n : Nat) (hn : 1 ≤ n) (l Bf Bx Bs b o N cap F S cnt : Nat) (xs : List Gi) (hl : xs.length = N) (hN64 : N ≤ 64) (hS1 : 1 ≤ S) (hS : S ≤ 64) (hcnt : ∀ q, F + S * q < N ↔ q < cnt) (hc32 : cnt ≤ 32) (hFS : F + S * cnt ≤ 200) (J Jx : List Gi → World → Prop) (W0 : World) (hJ : AbidesFrom W0.heap.size J)
 (hY : ∀ pre x W, J pre W → pre.length < 32 → YieldAt Fence.wide (n - 1) Tryz.prog l (encG x) W fun e W' =>
  (e = .returned (.bool true) ∧ J (pre ++ [x]) W' ∧ (W'.heap[Bf]? = W.heap[Bf]? ∧ W'.heap[Bx]? = W.heap[Bx]? ∧ W'.heap[Bs]? = W.heap[Bs]? ∧ W'.heap[b]? = W.heap[b]?)) ∨ (e = .returned (.bool false) ∧ Jx (pre ++ [x]) W'))
 (W : World) (hBf : Boxed W Bf 3 (.int .i64 F)) (hBx : Boxed W Bx 25 (.slice (some ⟨b, o, none⟩) N cap)) (hBs : Boxed W Bs 3 (.int .i64 S))
 (hC : ∀ j, j < N → W.cell? ⟨b, o + j * 2, none⟩ = some (.int .i64 (xs.getD j ⟨0, 0⟩).re) ∧ W.cell? ⟨b, o + j * 2 + 1, none⟩ = some (.int .i64 (xs.getD j ⟨0, 0⟩).im)) (h0 : J [] W) :
 CallsIn Fence.wide n Tryz.prog 197 #[.func (.yield l) #[] #[], .pointer (some ⟨Bf, 0, none⟩), .pointer (some ⟨Bx, 0, none⟩), .pointer (some ⟨Bs, 0, none⟩)] W fun e W' => (∃ v, e = .returned v) ∧
  ((∃ ys, ys = (List.range cnt).map (pick xs F S) ∧ J ys W') ∨ (∃ pre, True ∧ Jx pre W')) := by
 have hc := hBf.cell
 have HCN := kh hcnt
 have HC := kh hC
 have HY := kh hY
 have HFS := kh hFS
 clear hcnt hC hY hJ hFS
 refine callsIn_of_wp Tryz.func197 rfl trivial ?_ rfl
 simp only [Tryz.ntmps197, List.size_toArray, List.length_cons, List.length_nil, Nat.reduceAdd, Nat.reduceSub, Array.replicate_succ, Array.replicate_zero, List.push_toArray, List.append_toArray, List.nil_append, List.cons_append]
 gi_wp2_with fail
 gi_loopw [5] (fun i wr => ∃ q : Nat, q ≤ cnt ∧ i = .int .i64 ((F + S * q : Nat) : Int) ∧ Boxed wr Bx 25 (.slice (some ⟨b, o, none⟩) N cap) ∧ Boxed wr Bs 3 (.int .i64 S) ∧ wr.heap[b]? = W.heap[b]? ∧ J ((List.range q).map (pick xs F S)) wr) (fun i _ => 1000 - (intOf i).toNat)
 case atStart => exact ⟨0, by omega, rfl, hBx, hBs, rfl, h0⟩
 case round =>
  clear hc h0 hBf hBx hBs;obtain ⟨q, hq, rfl, hBx, hBs, hb, hJs⟩ := hrel;have hcx := hBx.cell
  by_cases hlt : q < cnt
  ·have hp := (HCN.out q).2 hlt
   have hcc := HC.out _ hp
   have k0 : wr.cell? ⟨b, o + (F + S * q) * 2, none⟩ = some (.int .i64 (pick xs F S q).re) := by have := hcc.1; unfold World.cell? at this ⊢; rw [hb]; exact this
   have k1 : wr.cell? ⟨b, o + (F + S * q) * 2 + 1, none⟩ = some (.int .i64 (pick xs F S q).im) := by have := hcc.2; unfold World.cell? at this ⊢; rw [hb]; exact this
   obtain ⟨fn, tmps, assign, body, hy, hR⟩ := HY.out _ (pick xs F S q) wr hJs (by simp; omega);unfold encG at hy;have HSN := kh (pick_snoc xs F S q)
   have hsm : S * q ≤ S * cnt := Nat.mul_le_mul_left _ hq
   have hle := HFS.out
   have hn1 : F + S * (q + 1) = F + S * q + S := by rw [Nat.mul_succ]; omega
   have hsq : S * q + S ≤ S * cnt := by have := Nat.mul_le_mul_left S (show q + 1 ≤ cnt by omega); rwa [Nat.mul_succ] at this
   have HN1 := kh hn1
   have hp2 : ((F + S * q : Nat) : Int) < N := by omega
   have hp3 : F + S * q + S ≤ 200 := by omega
   clear hcc hn1 hsm hle hsq;generalize pick xs F S q = g at *;generalize F + S * q = p at *
   gi_wp2_with fail
   refine hR.mono ?_;clear hy hR k0 k1 hcx;rintro e W3 (⟨rfl, hJ3, hk1, hk2, hk3, hk4⟩ | ⟨rfl, hJx3⟩)
   ·have hBx3 : Boxed W3 Bx 25 (.slice (some ⟨b, o, none⟩) N cap) := hk2.trans hBx
    have hBs3 : Boxed W3 Bs 3 (.int .i64 S) := hk3.trans hBs
    have hb3 := hk4.trans hb;clear hk1 hk2 hk3 hk4 hBx hBs hb hJs;have hc3 := hBs3.cell
    gi_wp2_with fail
    go_roundw
    case rel =>
     refine ⟨q + 1, by omega, ?_, hBx3, hBs3, hb3, ?_⟩
     ·rw [HN1.out]
      congr 1
     ·rw [HSN.out]
      exact hJ3
    case measure => simp [intOf]; omega
   ·gi_wp2
    refine bodyPost_ret (results_none rfl _ _ _) rfl ?_
    exact ⟨⟨_, rfl⟩, .inr ⟨_, trivial, hJx3⟩⟩
  ·obtain rfl : q = cnt := by omega
   have hp : ¬ F + S * q < N := fun k => Nat.lt_irrefl _ ((HCN.out q).1 k)
   have hp2 : (N : Int) ≤ ((F + S * q : Nat) : Int) := by omega
   have hle := HFS.out;clear hp HCN HC HY;generalize F + S * q = p at *
   gi_wp2_with fail
   go_end0
   exact ⟨⟨_, rfl⟩, .inl ⟨_, rfl, hJs⟩⟩
theorem places_stops (n : Nat) (hn : 1 ≤ n) (Bf Bx Bs b o N cap F S cnt : Nat) (xs : List Gi) (hl : xs.length = N) (hN64 : N ≤ 64) (hS1 : 1 ≤ S) (hS : S ≤ 64) (hcnt : ∀ q, F + S * q < N ↔ q < cnt) (hc32 : cnt ≤ 32) (hFS : F + S * cnt ≤ 200)
 (w : World) (hf : Boxed w Bf 3 (.int .i64 F)) (hx : Boxed w Bx 25 (.slice (some ⟨b, o, none⟩) N cap)) (hs : Boxed w Bs 3 (.int .i64 S)) (hb : b < w.heap.size)
 (hC : ∀ j, j < N → w.cell? ⟨b, o + j * 2, none⟩ = some (.int .i64 (xs.getD j ⟨0, 0⟩).re) ∧ w.cell? ⟨b, o + j * 2 + 1, none⟩ = some (.int .i64 (xs.getD j ⟨0, 0⟩).im)) :
 SeqStopsK Fence.wide n Tryz.prog 197 #[.pointer (some ⟨Bf, 0, none⟩), .pointer (some ⟨Bx, 0, none⟩), .pointer (some ⟨Bs, 0, none⟩)] encG (fun A B => B.heap[Bf]? = A.heap[Bf]? ∧ B.heap[Bx]? = A.heap[Bx]? ∧ B.heap[Bs]? = A.heap[Bs]? ∧ B.heap[b]? = A.heap[b]?)
  (fun ys => ys = (List.range cnt).map (pick xs F S)) (fun _ => True) 32 w := fun l J Jx W hW hJ _ hY h0 =>
 places1_in n hn l Bf Bx Bs b o N cap F S cnt xs hl hN64 hS1 hS hcnt hc32 hFS J Jx W hJ hY W ((hW.block Bf hf.lt).trans hf) ((hW.block Bx hx.lt).trans hx) ((hW.block Bs hs.lt).trans hs)
  (fun j hj => ⟨(hW.cell (p := ⟨b, _, none⟩) hb).trans (hC j hj).1, (hW.cell (p := ⟨b, _, none⟩) hb).trans (hC j hj).2⟩) h0
theorem listed_c (Bf Bx Bs b o N cap F S cnt : Nat) (xs : List Gi) (hl : xs.length = N) (hN64 : N ≤ 64) (hS1 : 1 ≤ S) (hS : S ≤ 64) (hcnt : ∀ q, F + S * q < N ↔ q < cnt) (hc32 : cnt ≤ 32) (hFS : F + S * cnt ≤ 200)
 (w : World) (hf : Boxed w Bf 3 (.int .i64 F)) (hx : Boxed w Bx 25 (.slice (some ⟨b, o, none⟩) N cap)) (hs : Boxed w Bs 3 (.int .i64 S)) (hb : b < w.heap.size)
 (hC : ∀ j, j < N → w.cell? ⟨b, o + j * 2, none⟩ = some (.int .i64 (xs.getD j ⟨0, 0⟩).re) ∧ w.cell? ⟨b, o + j * 2 + 1, none⟩ = some (.int .i64 (xs.getD j ⟨0, 0⟩).im)) :
 Calls Tryz.prog 179 #[.func (.func 197) #[] #[.pointer (some ⟨Bf, 0, none⟩), .pointer (some ⟨Bx, 0, none⟩), .pointer (some ⟨Bs, 0, none⟩)]] w fun e w' => ∃ v, e = .returned v ∧ CxsAt w' v ((List.range cnt).map (pick xs F S)) ∧ Gr w w' := by
 obtain ⟨i0, hi, hz0, hz1, hz2⟩ := info_parts info_cx
 have HST := kh (places_stops 4 (by omega) Bf Bx Bs b o N cap F S cnt xs hl hN64 hS1 hS hcnt hc32 hFS w hf hx hs hb hC)
 clear hcnt hC hFS hl hN64 hS1 hS hc32
 have lf := hf.lt
 have lx := hx.lt
 have ls := hs.lt
 refine (callsIn_wide (n := 5)).1 ?_
 refine callsIn_of_wp_marks Tryz.func179 rfl trivial ?_ rfl
 simp only [Tryz.ntmps179, List.size_toArray, List.length_cons, List.length_nil, Nat.reduceAdd, Nat.reduceSub, Array.replicate_succ, Array.replicate_zero, List.push_toArray, List.append_toArray, List.nil_append, List.cons_append]
 gi_wp2_with fail
 have bO := Boxed.new w 25 (.slice none 0 0)
 have hB0 : Below w.heap.size w (w.alloc (.cells #[.slice none 0 0] 25)) := (Below.refl _ w).alloc (Nat.le_refl _) _
 refine wpIn_rangeFunc_ownH rfl (by omega) (gf := 197) (lb := #[.pointer (some ⟨Bf, 0, none⟩), .pointer (some ⟨Bx, 0, none⟩), .pointer (some ⟨Bs, 0, none⟩)]) rfl trivial (enters_of Tryz.func197 (by kernel_rfl) rfl)
  HST.out (fun h k => ⟨k.1.trans h.1, k.2.1.trans h.2.1, k.2.2.1.trans h.2.2.1, k.2.2.2.trans h.2.2.2⟩)
  (fun W l o o' hl h _ _ => ⟨World.putObj_heap_other (fun e => by simp at hl; omega), World.putObj_heap_other (fun e => by simp at hl; omega), World.putObj_heap_other (fun e => by simp at hl; omega), World.putObj_heap_other (fun e => by simp at hl; omega)⟩) hB0 (fun _ => rfl)
  (fun pre W => (∃ v, Boxed W w.heap.size 25 v ∧ W.ownsRow (w.heap.size + 1) 50 2 v pre.length (gcells pre) ∧ True) ∧ Below w.heap.size w W)
  (fun _ _ _ => False)
  (OwnFrom.and (Own.from (holdsRow_own (w.heap.size + 1) w.heap.size 25 50 2 (fun pre : List Gi => pre.length) (fun pre => gcells pre) (fun _ _ => True)) _) (ownFrom_below (Nat.le_refl _) (by simp)))
  (fun _ _ _ _ _ hs _ _ => hs)
  ⟨⟨_, bO, World.ownsRow_nil _ _ _ _, trivial⟩, hB0⟩
  (fun x a' W => ∃ Bp, w.heap.size < Bp ∧ CellsAt W Bp 50 #[x.re, x.im] ∧ a' = { tmps := #[.func (.func 197) #[] #[.pointer (some ⟨Bf, 0, none⟩), .pointer (some ⟨Bx, 0, none⟩), .pointer (some ⟨Bs, 0, none⟩)], undef, .slice none 0 0, .pointer (some ⟨w.heap.size, 0, none⟩), .pointer (some ⟨Bp, 0, none⟩), .func (.func 197) #[] #[.pointer (some ⟨Bf, 0, none⟩), .pointer (some ⟨Bx, 0, none⟩), .pointer (some ⟨Bs, 0, none⟩)], .agg #[x.re, x.im], undef, undef, undef, undef, undef], defers := [] })
  (fun x a' _ X Y row hs hg hr => by obtain ⟨Bp, e1, e2, e3⟩ := hs; exact ⟨Bp, e1, e2.grown hg (fun e' => by obtain ⟨_, o, ho, hcc⟩ := hr Bp e'.symm; rw [show X.heap[Bp]? = _ from e2] at ho; cases ho; cases hcc), e3⟩)
  ?assign ?body ?done ?stop
 case assign =>
  rintro l pre x W K ⟨⟨v, hv, hrow, _⟩, hB⟩ hK;simp only [encG];have hbl := hv.lt;have hsz := hB.size
  gi_wp2_with fail
  exact hK _ _ ((KeepsOthers.alloc _ _).from _) ⟨Below.heap_alloc _ _ _ (by omega), Below.heap_alloc _ _ _ (by omega), Below.heap_alloc _ _ _ (by omega), Below.heap_alloc _ _ _ (by omega)⟩ ⟨⟨v, hv.alloc _, hrow.alloc _, trivial⟩, hB.alloc hB.size _⟩ ⟨W.heap.size, by omega, CellsAt.new W _ _, rfl⟩
 case body =>
  rintro l pre x a' V hl ⟨r, hr⟩ ⟨⟨v, hv, hrow, _⟩, hB⟩ ⟨Bp, hBp, hP, rfl⟩ hlt;have hc := hv.cell;obtain ⟨c0, c1⟩ := hP.t2
  have hbase : w.heap.size + 1 ≤ V.heap.size := by have := hv.lt; omega
  gi_wp2_with (gi_at_builtin; refine wpListIn_append_own _ rfl _ _ 25 rfl (w.heap.size + 1) 50 i0 (.agg #[.int .i64 0, .int .i64 0]) 2 16 Tryz.underlying25 hi hz0 hz1 hz2 rfl (by decide) _ _ _ rfl (hrow.alloc _) ⟨V.heap.size, 0, none⟩ 1 1 [.int .i64 x.re, .int .i64 x.im] rfl rfl (news_two _ _ _ _) (by simp [Value.oneCell']) (by unfold maxLen; omega) (by omega) (by simp; omega) ?_; intro v' w2 hown' hgrow _; obtain ⟨g', cap', rfl⟩ := ownsRow_succ hown'; obtain ⟨hv1, hv2, hr2, hk2, hb2, hb3, hg2⟩ := Boxed.appended2 hv (by omega) hrow hbase hown' hgrow; have hc1 := hv1.cell; have hf1 := hv1.frozen)
  refine ⟨hk2.from _, ⟨hb2 _ (by omega) (by omega), hb2 _ (by omega) (by omega), hb2 _ (by omega) (by omega), hb2 _ (by omega) (by omega)⟩, ⟨_, hv2, ?_, trivial⟩, hB.trans (hb3 _ (Nat.le_refl _))⟩
  have e : gcells pre ++ [.int .i64 x.re, .int .i64 x.im] = gcells (pre ++ [x]) := (gcells_snoc pre x).symm
  rw [e] at hr2
  simpa using hr2
 case done =>
  rintro D ys W hD hS ⟨⟨v, hv, hrow, _⟩, hB⟩ hK;have hc := hv.cell;subst hS
  gi_wp2
  refine ⟨by simp, .inl ⟨_, _, rfl, run_takeDeferred hK, ?_⟩⟩
  exact ⟨_, results_tmp rfl _ _ _, v, rfl, CxsAt.of_row (ownsRow_putObj hrow _ hK rfl), ⟨hB.trans (belowK_b (w := w) (Nat.le_refl _) W D _ _ (by simp at hD; omega) hK rfl rfl)⟩⟩
 case stop =>
  rintro D c pre W _ _ h _
  exact h.elim
end
section
open Go.ChangeShapes Go.WideShapes Go.ChangeAt Go.RowKit
set_option linter.unusedVariables false
set_option maxRecDepth 100000
set_option maxHeartbeats 16000000
theorem Bd.pow {l : Int} {bits : Nat} {a : Gi} (hb : bits ≤ 29) (h : Bd (2 ^ bits) a) : Bd 1073741824 a := by
 refine h.mono ?_
 have h1 : (2 : Nat) ^ bits ≤ 2 ^ 29 := Nat.pow_le_pow_right (by decide) hb
 have h2 : ((2 ^ bits : Nat) : Int) ≤ ((2 ^ 29 : Nat) : Int) := Int.ofNat_le.2 h1
 rw [Int.natCast_pow] at h2
 simp at h2
 omega
theorem pow29 (bits : Nat) (hb : bits ≤ 29) : (1 : Int) ≤ 2 ^ bits ∧ (2 : Int) ^ bits ≤ 536870912 := by
 have h1 : (2 : Nat) ^ bits ≤ 2 ^ 29 := Nat.pow_le_pow_right (by decide) hb
 have h2 : ((2 ^ bits : Nat) : Int) ≤ ((2 ^ 29 : Nat) : Int) := Int.ofNat_le.2 h1
 rw [Int.natCast_pow] at h2
 have := pow_pos2 bits
 simp at h2
 omega
def qterm (bits : Nat) (a w : Nat → Gi) (k : Nat) : Gi := if k = 0 then gscale bits (a 0) else gmul (a k) (w k)
theorem qterm_bd (bits : Nat) (hb : bits ≤ 29) (a w : Nat → Gi) (ha : ∀ k, k < 4 → Bd 2147483648 (a k)) (hw : ∀ k, k < 4 → 1 ≤ k → Bd (2 ^ bits) (w k)) (k : Nat) (hk : k < 4) : Bd 2305843009213693952 (qterm bits a w k) ∧ (k = 0 → Bd 1152921504606846976 (qterm bits a w k)) := by
 have hp := pow29 bits hb
 unfold qterm
 by_cases e : k = 0
 ·rw [if_pos e]
  have := (ha 0 (by omega)).scale bits
  exact ⟨this.mono (by omega), fun _ => this.mono (by omega)⟩
 ·rw [if_neg e]
  have := (ha k hk).mul (hw k hk (by omega))
  exact ⟨this.mono (by omega), fun h => absurd h e⟩
def qturns (inv : Bool) (q : Int) (k : Nat) : Int := if k = 0 then 0 else if k = 1 then (if inv then q else -q) else if k = 2 then (if inv then 2 * -q else 2 * q) else (if inv then -q else q)
def qsum (inv : Bool) (q : Int) (t : Nat → Gi) : Nat → Gi
 | 0 => ⟨0, 0⟩
 | k + 1 => gadd (qsum inv q t k) (Gi.turn (qturns inv q k) (t k))
theorem turn_neg2 (q : Int) (a : Gi) : Gi.turn (2 * -q) a = Gi.turn (2 * q) a := by
 unfold Gi.turn
 have h : (2 * -q) % 4 = (2 * q) % 4 := by omega
 rw [h]
theorem turn_zero (a : Gi) : Gi.turn 0 a = a := rfl
theorem qsum_four (inv : Bool) (q : Int) (t : Nat → Gi) : qsum inv q t 4 = quadSum inv q (t 0) (t 1) (t 2) (t 3) := by
 cases inv
 ·simp [qsum, qturns, quadSum, turns1, turn_zero, gadd]
 ·simp [qsum, qturns, quadSum, turns1, turn_zero, turn_neg2, gadd]
theorem qsum_bd (inv : Bool) (q : Int) (t : Nat → Gi) (h0 : Bd 1152921504606846976 (t 0)) (h : ∀ k, k < 4 → Bd 2305843009213693952 (t k)) (k : Nat) (hk : k ≤ 4) : Bd (1152921504606846976 * 7) (qsum inv q t k) := by
 have b0 : Bd 0 (qsum inv q t 0) := Bd.mk (by simp [qsum])
 have b1 := b0.add (h0.turn (qturns inv q 0))
 have b2 := b1.add ((h 1 (by omega)).turn (qturns inv q 1))
 have b3 := b2.add ((h 2 (by omega)).turn (qturns inv q 2))
 have b4 := b3.add ((h 3 (by omega)).turn (qturns inv q 3))
 have hc : k = 0 ∨ k = 1 ∨ k = 2 ∨ k = 3 ∨ k = 4 := by omega
 rcases hc with rfl | rfl | rfl | rfl | rfl
 ·exact b0.mono (by omega)
 ·exact Bd.mono b1 (by omega)
 ·exact Bd.mono b2 (by omega)
 ·exact Bd.mono b3 (by omega)
 ·exact Bd.mono b4 (by omega)
theorem fTurned_c (b s mo : Int) (inv : Bool) (t : Nat → Gi) (h0 : Bd 1152921504606846976 (t 0)) (h : ∀ k, k < 4 → Bd 2305843009213693952 (t k)) (q : Nat) (hq : q < 4) (w : World) :
 CW 219 #[.agg #[b, s, mo, inv], .agg #[(t 0).re, (t 0).im, (t 1).re, (t 1).im, (t 2).re, (t 2).im, (t 3).re, (t 3).im], (q : Int)] w (.agg #[(quadSum inv q (t 0) (t 1) (t 2) (t 3)).re, (quadSum inv q (t 0) (t 1) (t 2) (t 3)).im]) :=by
 delta CW
 have HS : ∀ k, k < 4 → wrap64 ((qsum inv q t k).re + (Gi.turn (qturns inv q k) (t k)).re) = (qsum inv q t (k + 1)).re ∧ wrap64 ((qsum inv q t k).im + (Gi.turn (qturns inv q k) (t k)).im) = (qsum inv q t (k + 1)).im := by
  intro k hk
  have hb := (qsum_bd inv q t h0 h (k + 1) (by omega)).le
  have e : qsum inv q t (k + 1) = gadd (qsum inv q t k) (Gi.turn (qturns inv q k) (t k)) := rfl
  rw [e] at hb ⊢;unfold gadd at hb ⊢
  exact ⟨IntWalk.wrap64_in _ (by simp only at hb; omega), IntWalk.wrap64_in _ (by simp only at hb; omega)⟩
 have HT : ∀ k, k < 4 → ∀ W, Calls Tryz.prog 125 #[.agg #[.int .i64 (t k).re, .int .i64 (t k).im], .int .i64 (qturns inv q k)] W fun e w' => e = .returned (.tuple #[.agg #[.int .i64 (Gi.turn (qturns inv q k) (t k)).re, .int .i64 (Gi.turn (qturns inv q k) (t k)).im], .int .i64 0]) ∧ Gr W w' := by
  intro k hk W
  have := (h k hk).le
  exact cxturn_gi (t k) (qturns inv q k) (by omega) W
 rw [← qsum_four]
 cases inv
 ·exact fTurned_false b s mo q t (fun k => Gi.turn (qturns false q k) (t k)) (qsum false q t) (qturns false q) (by omega) (by omega) rfl rfl rfl rfl rfl (kh HS) (kh HT) w
 ·exact fTurned_true b s mo q t (fun k => Gi.turn (qturns true q k) (t k)) (qsum true q t) (qturns true q) (by omega) (by omega) rfl rfl rfl rfl rfl (kh HS) (kh HT) w
theorem fQuad_c (a w : Nat → Gi) (bits s : Nat) (mo : Int) (inv : Bool) (hb : bits ≤ 29) (hs : s ≤ 3) (m0 : 0 ≤ mo) (m1 : mo ≤ 2) (ha : ∀ k, k < 4 → Bd 2147483648 (a k)) (hw : ∀ k, k < 4 → 1 ≤ k → Bd (2 ^ bits) (w k)) (W : World) :
 Calls Tryz.prog 208 #[.agg #[bits, s, mo, inv], .agg #[(a 0).re, (a 0).im, (a 1).re, (a 1).im, (a 2).re, (a 2).im, (a 3).re, (a 3).im], .agg #[(w 0).re, (w 0).im, (w 1).re, (w 1).im, (w 2).re, (w 2).im, (w 3).re, (w 3).im]] W
  fun e w' => e = .returned (.agg #[(quadOut bits s mo inv 0 (a 0) (a 1) (a 2) (a 3) (w 1) (w 2) (w 3)).re, (quadOut bits s mo inv 0 (a 0) (a 1) (a 2) (a 3) (w 1) (w 2) (w 3)).im, (quadOut bits s mo inv 1 (a 0) (a 1) (a 2) (a 3) (w 1) (w 2) (w 3)).re, (quadOut bits s mo inv 1 (a 0) (a 1) (a 2) (a 3) (w 1) (w 2) (w 3)).im, (quadOut bits s mo inv 2 (a 0) (a 1) (a 2) (a 3) (w 1) (w 2) (w 3)).re, (quadOut bits s mo inv 2 (a 0) (a 1) (a 2) (a 3) (w 1) (w 2) (w 3)).im, (quadOut bits s mo inv 3 (a 0) (a 1) (a 2) (a 3) (w 1) (w 2) (w 3)).re, (quadOut bits s mo inv 3 (a 0) (a 1) (a 2) (a 3) (w 1) (w 2) (w 3)).im]) ∧ Gr W w' := by
 have hp := pow29 bits hb
 have hq := qterm_bd bits hb a w ha hw
 have hT : ∀ k, k < 4 → ∀ W, Calls Tryz.prog 128 #[.agg #[.int .i64 (a k).re, .int .i64 (a k).im], .agg #[.int .i64 (if k = 0 then (⟨2 ^ bits, 0⟩ : Gi) else w k).re, .int .i64 (if k = 0 then (⟨2 ^ bits, 0⟩ : Gi) else w k).im]] W fun e w' => e = .returned (.tuple #[.agg #[.int .i64 (qterm bits a w k).re, .int .i64 (qterm bits a w k).im], .int .i64 0]) ∧ Gr W w' := by
  intro k hk W
  by_cases e : k = 0
  ·subst e
   simp only [if_true]
   have := cxtimes_gi (a 0) ⟨2 ^ bits, 0⟩ (ha 0 hk) (Bd.mk (l := 1073741824) (by simp only; omega)) W
   have e : gmul (a 0) ⟨2 ^ bits, 0⟩ = qterm bits a w 0 := by
    unfold gmul qterm gscale
    simp
   rw [e] at this
   exact this
  ·simp only [if_neg e]
   have := cxtimes_gi (a k) (w k) (ha k hk) (Bd.pow hb (l := 0) (hw k hk (by omega))) W
   have e : gmul (a k) (w k) = qterm bits a w k := by
    unfold qterm;rw [if_neg e]
   rw [e] at this
   exact this
 have hM := fTerms_of bits s mo (2 ^ bits) inv a w (qterm bits a w) (by rw [Int.toNat_natCast, show min bits 64 = bits by omega]; exact IntWalk.i64_in _ ⟨by omega, by omega⟩) (by omega) (kh hT)
 have h0 := (hq 0 (by omega)).2 rfl
 have hk := fun k hk => (hq k hk).1
 have e0 : qterm bits a w 0 = gscale bits (a 0) := rfl
 have e1 : qterm bits a w 1 = gmul (a 1) (w 1) := rfl
 have e2 : qterm bits a w 2 = gmul (a 2) (w 2) := rfl
 have e3 : qterm bits a w 3 = gmul (a 3) (w 3) := rfl
 have hF : ∀ k : Nat, k < 4 → ∀ W, Calls Tryz.prog 129 #[.agg #[.int .i64 (quadSum inv k (qterm bits a w 0) (qterm bits a w 1) (qterm bits a w 2) (qterm bits a w 3)).re, .int .i64 (quadSum inv k (qterm bits a w 0) (qterm bits a w 1) (qterm bits a w 2) (qterm bits a w 3)).im], .int .i64 ((bits + s : Nat) : Int), mo] W fun e w' => e = .returned (.tuple #[.agg #[.int .i64 (quadOut bits s mo inv k (a 0) (a 1) (a 2) (a 3) (w 1) (w 2) (w 3)).re, .int .i64 (quadOut bits s mo inv k (a 0) (a 1) (a 2) (a 3) (w 1) (w 2) (w 3)).im], .int .i64 0]) ∧ Gr W w' := by
  intro k _ W
  have hbd := (quadSum_bd inv k _ _ _ _ _ _ h0 (hk 1 (by omega)) (hk 2 (by omega)) (hk 3 (by omega))).le;unfold quadOut;rw [← e0, ← e1, ← e2, ← e3]
  exact cxshift_gi _ (bits + s) mo (by omega) (by omega) m0 m1 W
 exact fQuad_of bits s mo ((bits + s : Nat) : Int) inv a w (qterm bits a w) (fun k => quadSum inv k (qterm bits a w 0) (qterm bits a w 1) (qterm bits a w 2) (qterm bits a w 3)) (fun k => quadOut bits s mo inv k (a 0) (a 1) (a 2) (a 3) (w 1) (w 2) (w 3))
  (kh hM) (kh fun k hk' W => fTurned_c bits s mo inv (qterm bits a w) h0 hk k hk' W) (kh (fDown_c bits s mo _ inv (by rw [IntWalk.i64_in _ ⟨by omega, by omega⟩]; omega))) (kh hF) W
theorem gcells_back (xs : List Gi) (k : Nat) (v : Value) (h : (gcells xs)[k]? = some v) : ∃ j x, xs[j]? = some x ∧ ((k = j * 2 ∧ v = .int .i64 x.re) ∨ (k = j * 2 + 1 ∧ v = .int .i64 x.im)) := by
 have hk := (List.getElem?_eq_some_iff.1 h).1
 rw [gcells_len] at hk
 obtain ⟨x, hx⟩ : ∃ x, xs[k / 2]? = some x := get_of_lt (by omega)
 have h2 := gcells_at xs (k / 2) x hx
 rcases Nat.mod_two_eq_zero_or_one k with e | e
 ·rw [show k / 2 * 2 = k by omega, h] at h2
  exact ⟨k / 2, x, hx, .inl ⟨by omega, Option.some.inj h2.1⟩⟩
 ·rw [show k / 2 * 2 + 1 = k by omega, h] at h2
  exact ⟨k / 2, x, hx, .inr ⟨by omega, Option.some.inj h2.2⟩⟩
theorem copied_row (U : World) (b o n cap : Nat) (xs : List Gi) (hl : xs.length = n) (hn : 1 ≤ n) (hv : CxsAt U (.slice (some ⟨b, o, none⟩) n cap) xs) :
 ∃ W2, (Builtin.copy_ #[25, 25] 3 #[.slice (some ⟨U.heap.size, 0, none⟩) n n, .slice (some ⟨b, o, none⟩) n cap]).run Tryz.prog (U.alloc (.cells (madeCells #[.int .i64 0, .int .i64 0] (n * 2)) 50)) = .ok (.int .i64 n) W2 ∧
  RowAt W2 U.heap.size 50 n (fun i => xs.getD i ⟨0, 0⟩) ∧ Gr U W2 := by
 subst hl
 obtain ⟨b', o', cap', hvv, hlen, hb, hc⟩ := hv.at (by intro e; rw [e] at hn; simp at hn)
 cases hvv
 have M0 := CellsAt.new U 50 (madeCells #[.int .i64 0, .int .i64 0] (xs.length * 2))
 have M1 := size_madeCells #[.int .i64 0, .int .i64 0] (xs.length * 2)
 have g1 := (Gr.refl U).alloc (madeCells #[.int .i64 0, .int .i64 0] (xs.length * 2)) 50
 have hL := gcells_len xs
 have hr := run_copy_cx (U.alloc (.cells (madeCells #[.int .i64 0, .int .i64 0] (xs.length * 2)) 50)) 3 U.heap.size xs.length xs.length ⟨b, o, none⟩ xs.length cap _ 50 (gcells xs) M0
  (by rw [hL]; simp) (by
   intro j v hj
   rw [Addr.add_lit];obtain ⟨j', x, hx, h⟩ := gcells_back xs j v hj;have hcx := hc j' x hx
   rcases h with ⟨rfl, rfl⟩ | ⟨rfl, rfl⟩
   ·exact (g1.cell (p := ⟨b, o + j' * 2, none⟩) hb).trans hcx.1
   ·exact (g1.cell (p := ⟨b, o + j' * 2 + 1, none⟩) hb).trans hcx.2)
  (by rw [hL, M1]; omega) (by
   intro v hv
   obtain ⟨j, hj, rfl⟩ := List.mem_iff_getElem.1 hv;obtain ⟨j', x, hx, h⟩ := gcells_back xs j _ (List.getElem?_eq_getElem hj)
   rcases h with ⟨_, h⟩ | ⟨_, h⟩ <;> rw [h] <;> rfl)
 have hd : (madeCells #[.int .i64 0, .int .i64 0] (xs.length * 2)).toList.drop (gcells xs).length = [] := List.drop_eq_nil_of_le (by rw [hL]; simp [M1])
 rw [hd, List.append_nil] at hr
 refine ⟨_, ?_, ⟨(gcells xs).toArray, setRow_heap _ _ _ _ _ _ M0, by simp [hL], fun j hj => ?_⟩, ⟨below_setRow g1.out (Nat.le_refl _) _⟩⟩
 ·rw [hr]
  simp [goInt]
 ·have := gcells_at xs j (xs.getD j ⟨0, 0⟩) (by rw [List.getD_eq_getElem?_getD, List.getElem?_eq_getElem hj]; rfl)
  simpa using this
end
section
open Go.ChangeShapes Go.WideShapes Go.ChangeAt Go.RowKit
set_option linter.unusedVariables false
set_option maxRecDepth 100000
set_option linter.unusedSimpArgs false
set_option maxHeartbeats 16000000
theorem rootOf_in (ws : List Gi) (inv : Bool) (k : Nat) (l : Int) (hl : 0 ≤ l) (h : allIn l ws = true) : Bd l (rootOf ws inv k) := by
 have h0 : Bd l (ws.getD k ⟨0, 0⟩) := by
  rw [List.getD_eq_getElem?_getD]
  cases e : ws[k]? with
  | none => exact Bd.mk (by simp; omega)
  | some a => exact (allIn_iff l ws).1 h a (List.mem_of_getElem? e)
 unfold rootOf
 cases inv
 ·exact h0
 ·have := h0.le
  exact Bd.mk (by simp only [if_true, Gi.conj]; omega)
theorem fAsked_c (bits s : Nat) (mo : Int) (inv : Bool) (bw ow n c step : Nat) (ws : List Gi) (hb : bits ≤ 29) (hw : allIn (2 ^ bits) ws = true) (hn : ws.length = n) (hst : 3 * step < n) (hn64 : n ≤ 64) (w : World) (hv : CxsAt w (.slice (some ⟨bw, ow, none⟩) n c) ws) :
 CW 209 #[.agg #[bits, s, mo, inv], .slice (some ⟨bw, ow, none⟩) n c, (step : Int)] w (.agg #[((fun k => rootOf ws inv (k * step)) 0).re, ((fun k => rootOf ws inv (k * step)) 0).im, ((fun k => rootOf ws inv (k * step)) 1).re, ((fun k => rootOf ws inv (k * step)) 1).im, ((fun k => rootOf ws inv (k * step)) 2).re, ((fun k => rootOf ws inv (k * step)) 2).im, ((fun k => rootOf ws inv (k * step)) 3).re, ((fun k => rootOf ws inv (k * step)) 3).im]) :=by
 delta CW
 have hp := pow29 bits hb
 cases inv
 ·exact fAsked_false bits s mo bw ow n c step ws (fun k => rootOf ws false (k * step)) hn hst hn64 (kh fun k hk => rfl) w hv
 ·refine fAsked_true bits s mo bw ow n c step ws (fun k => rootOf ws true (k * step)) hn hst hn64 (kh fun k hk W => ?_) w hv
  have := (rootOf_in ws false (k * step) (2 ^ bits) (by omega) hw).le
  exact cxconj_gi (ws.getD (k * step) ⟨0, 0⟩) (by simp only [rootOf, Bool.false_eq_true, if_false] at this; omega) W
def blockQuad (bits s : Nat) (mo : Int) (inv : Bool) (ws : List Gi) (F h u : Nat) (f : Nat → Gi) (j q : Nat) : Gi :=
 quadOut bits s mo inv q (f (F + (0 * h + j))) (f (F + (2 * h + j))) (f (F + (1 * h + j))) (f (F + (3 * h + j))) (rootOf ws inv (1 * (j * u))) (rootOf ws inv (2 * (j * u))) (rootOf ws inv (3 * (j * u)))
theorem fMake_c (bits s : Nat) (mo : Int) (inv : Bool) (hb : bits ≤ 29) (hs : s ≤ 3) (m0 : 0 ≤ mo) (m1 : mo ≤ 2) (B F N h u n cap bw ow cw : Nat) (ws : List Gi) (f : Nat → Gi) (h1 : 1 ≤ h) (hN : F + 4 * h ≤ N) (hN64 : N ≤ 64) (hn : n = 4 * h * u) (hn64 : n ≤ 64) (hu : 1 ≤ u) (hne : bw ≠ B) (hcap : 4 * h ≤ cap)
 (hl : ws.length = n) (hw : allIn (2 ^ bits) ws = true) (hf : ∀ i, i < 4 * h → Bd 2147483648 (f (F + i))) (w : World) (hv : CxsAt w (.slice (some ⟨bw, ow, none⟩) n cw) ws) (hbw : bw < w.heap.size) (hBw : B < w.heap.size) (hy : RowAt w B 50 N f) :
 Calls Tryz.prog 187 #[.agg #[bits, s, mo, inv], .slice (some ⟨B, F * 2, none⟩) ((4 * h : Nat)) cap, .slice (some ⟨bw, ow, none⟩) n cw] w fun e w' => e = .returned (.tuple #[]) ∧ RowAt w' B 50 N (fun i => if F ≤ i ∧ i < F + 4 * h then blockQuad bits s mo inv ws F h u f ((i - F) % h) ((i - F) / h) else f i) ∧ GB B w w' := by
 have hp := pow29 bits hb
 have hR := fun k => rootOf_in ws inv k (2 ^ bits) (by omega) hw
 refine (fMake_of bits s mo inv B F N h u n cap bw ow cw ws f (blockQuad bits s mo inv ws F h u f) (fun j k => rootOf ws inv (k * (j * u))) (fun j k => f (F + ((if k = 0 then 0 else if k = 1 then 2 else if k = 2 then 1 else 3) * h + j))) h1 hN hN64 hn hn64 hu hne hcap (fun j _ => ⟨rfl, rfl, rfl, rfl⟩)
  (kh fun j hj W hW => fAsked_c bits s mo inv bw ow n cw (j * u) ws hb hw hl ?_ hn64 W hW)
  (kh fun j hj W => fQuad_c (fun k => f (F + ((if k = 0 then 0 else if k = 1 then 2 else if k = 2 then 1 else 3) * h + j))) (fun k => rootOf ws inv (k * (j * u))) bits s mo inv hb hs m0 m1 (fun k hk => ?_) (fun k _ _ => hR _) W) w hv hbw hBw hy).mono ?_
 ·have h2 : (j + 1) * u ≤ h * u := Nat.mul_le_mul_right _ hj
  rw [Nat.succ_mul] at h2;rw [Nat.mul_assoc] at hn;generalize j * u = x at *;generalize h * u = y at *
  omega
 ·refine hf _ ?_
  have := place_lt h (if k = 0 then 0 else if k = 1 then 2 else if k = 2 then 1 else 3) j (by split <;> (try split) <;> (try split) <;> omega) hj
  exact this
 ·rintro e w' ⟨he, hr, hg⟩
  exact ⟨he, hr.eq (fun i _ => stp_end F h _ f i h1), hg⟩
def doneTo (xs ws : List Gi) (h bits s : Nat) (mo : Int) (inv : Bool) (k i : Nat) : Gi := if i < 4 * h * k then fourAt xs ws h bits s mo inv i else xs.getD i ⟨0, 0⟩
theorem pass_nums4 (h u k n f : Nat) (hn : n = 4 * h * u) (hf : f = 4 * h * k) (hk : k < u) (hn64 : n ≤ 64) (h1 : 1 ≤ h) :
 (f : Int) < (n : Int) ∧ wrap64 (4 * (h : Int)) = ((4 * h : Nat) : Int) ∧ (f : Int) + ((4 * h : Nat) : Int) = ((f + 4 * h : Nat) : Int) ∧ f + 4 * h ≤ n ∧ f + 4 * h = 4 * h * (k + 1) ∧ ((f + 4 * h : Nat) : Int) ≤ (n : Int) ∧ f ≤ f + 4 * h ∧ ¬ f + 4 * h = f ∧ f + 4 * h - f = 4 * h := by
 have k1 : 4 * h * (k + 1) ≤ 4 * h * u := Nat.mul_le_mul_left _ hk
 have k2 : 4 * h * (k + 1) = f + 4 * h := by rw [Nat.mul_succ, hf]
 have k3 := wmul 4 h (by omega)
 exact ⟨by omega, k3, by omega, by omega, by omega, by omega, by omega, by omega, by omega⟩
theorem done_next (xs ws : List Gi) (h u bits s : Nat) (mo : Int) (inv : Bool) (k i : Nat) (h1 : 1 ≤ h) (hu : 1 ≤ u) (hn : xs.length = 4 * h * u) :
 (if 4 * h * k ≤ i ∧ i < 4 * h * k + 4 * h then blockQuad bits s mo inv ws (4 * h * k) h u (doneTo xs ws h bits s mo inv k) ((i - 4 * h * k) % h) ((i - 4 * h * k) / h) else doneTo xs ws h bits s mo inv k i) = doneTo xs ws h bits s mo inv (k + 1) i := by
 by_cases c : 4 * h * k ≤ i ∧ i < 4 * h * k + 4 * h
 ·rw [if_pos c]
  have hd : ∀ x, doneTo xs ws h bits s mo inv k (4 * h * k + x) = xs.getD (4 * h * k + x) ⟨0, 0⟩ := fun x => by unfold doneTo; rw [if_neg (by omega)]
  have hu2 : xs.length / (4 * h) = u := by rw [hn]; exact Nat.mul_div_cancel_left _ (by omega)
  have hr : i - i % (4 * h) = 4 * h * k ∧ i % (4 * h) = i - 4 * h * k := by
   have e : i = 4 * h * k + (i - 4 * h * k) := by omega
   have e2 : i % (4 * h) = i - 4 * h * k := by
    rw [e, Nat.mul_add_mod, Nat.mod_eq_of_lt (by omega)]
    omega
   omega
  have hm : i % h = (i - 4 * h * k) % h := by
   have e : i = h * (4 * k) + (i - 4 * h * k) := by
    have : h * (4 * k) = 4 * h * k := by rw [Nat.mul_comm 4 h, Nat.mul_assoc]
    omega
   rw [show i % h = (h * (4 * k) + (i - 4 * h * k)) % h by rw [← e], Nat.mul_add_mod]
  have hg : doneTo xs ws h bits s mo inv (k + 1) i = fourAt xs ws h bits s mo inv i := by
   unfold doneTo;rw [if_pos (by rw [Nat.mul_succ]; omega)]
  rw [hg];unfold blockQuad fourAt;simp only [hd, hu2, hr.1, hm, Nat.one_mul, Nat.zero_mul, Nat.zero_add];simp only [Nat.mul_assoc, Nat.add_assoc]
 ·rw [if_neg c]
  unfold doneTo;rw [Nat.mul_succ]
  by_cases d : i < 4 * h * k
  ·rw [if_pos d, if_pos (by omega)]
  ·rw [if_neg d, if_neg (by omega)]
theorem fPass_of (bx ox bw ow cx cw : Nat) (xs ws : List Gi) (n h u bits s : Nat) (mo : Int) (inv : Bool) (hl : xs.length = n) (hn : n = 4 * h * u) (h1 : 1 ≤ h) (hu : 1 ≤ u) (hn64 : n ≤ 64) (G : Nat → Nat → Gi) (hG0 : ∀ i, G 0 i = xs.getD i ⟨0, 0⟩)
 (HE : Hid (∀ W, CxsAt W (.slice (some ⟨bx, ox, none⟩) n cx) xs → CxsAt W (.slice (some ⟨bw, ow, none⟩) n cw) ws → Calls Tryz.prog 186 #[.agg #[bits, s, mo, inv], .slice (some ⟨bx, ox, none⟩) n cx, .slice (some ⟨bw, ow, none⟩) n cw, h] W fun e' w' => e' = .returned (.int .i64 0) ∧ Gr W w'))
 (HM : Hid (∀ k, k < u → ∀ B W, bw ≠ B → CxsAt W (.slice (some ⟨bw, ow, none⟩) n cw) ws → bw < W.heap.size → RowAt W B 50 n (G k) →
  Calls Tryz.prog 187 #[.agg #[bits, s, mo, inv], .slice (some ⟨B, 4 * h * k * 2, none⟩) (4 * h) (4 * h), .slice (some ⟨bw, ow, none⟩) n cw] W fun e w' => e = .returned (.tuple #[]) ∧ RowAt w' B 50 n (G (k + 1)) ∧ GB B W w'))
 (w : World) (hvx : CxsAt w (.slice (some ⟨bx, ox, none⟩) n cx) xs) (hvw : CxsAt w (.slice (some ⟨bw, ow, none⟩) n cw) ws) (hbw : bw < w.heap.size) :
 Calls Tryz.prog 155 #[.slice (some ⟨bx, ox, none⟩) n cx, .slice (some ⟨bw, ow, none⟩) n cw, h, bits, s, mo, inv] w fun e w' => ∃ v', e = .returned (.tuple #[v', .int .i64 0]) ∧ CxsAt w' v' ((List.range n).map (G u)) ∧ Gr w w' := by
 have g0 : Gr w (w.alloc (.cells #[bits, s, mo, inv] 212)) := (Gr.refl w).alloc _ _
 have VX := hvx.gr g0
 have VW := hvw.gr g0
 have R0 := CellsAt.new w 212 #[bits, s, mo, inv]
 have hn1 : 1 ≤ n := by
  have : 4 * h * 1 ≤ 4 * h * u := Nat.mul_le_mul_left _ hu
  omega
 go_in
 have hmk := run_make_cx n (by omega)
 have HNM := kh (And.intro hn (And.intro h1 hu))
 clear hn hvx hvw
 go_wp2_with fail
 refine (HE.out _ VX VW).mono ?_
 rintro e u1 ⟨rfl, g1⟩
 have VX1 := VX.gr g1
 have VW1 := VW.gr g1
 have R1 := R0.gr g1
 have gu1 := g0.trans g1
 obtain ⟨W2, hcp, hC2, hg2⟩ := copied_row u1 bx ox n cx xs hl hn1 VX1
 have W2R := R1.gr hg2
 have W2W := VW1.gr hg2
 have gw2 := gu1.trans hg2
 have hbb : w.heap.size < u1.heap.size := R1.lt
 have hwy : w.heap.size ≠ u1.heap.size := Nat.ne_of_lt R1.lt
 have hwB : bw ≠ u1.heap.size := Nat.ne_of_lt (Nat.lt_of_lt_of_le hbw gu1.size)
 have hzz : w.heap.size ≤ u1.heap.size := gu1.size
 clear VX VW R0 R1 VX1 VW1 g0 g1 gu1 hg2
 generalize hBy : u1.heap.size = By at *
 go_wp2_with fail
 go_loopw [19] (fun i wr => ∃ k f : Nat, k ≤ u ∧ f = 4 * h * k ∧ f ≤ n ∧ i = .int .i64 f ∧ RowAt wr By 50 n (G k) ∧ CellsAt wr w.heap.size 212 #[bits, s, mo, inv] ∧ CxsAt wr (.slice (some ⟨bw, ow, none⟩) n cw) ws ∧ Gr w wr) (fun i _ => n - (intOf i).toNat)
 case atStart => exact ⟨0, 0, by omega, rfl, by omega, rfl, hC2.eq (fun i _ => (hG0 i).symm), W2R, W2W, gw2⟩
 case round =>
  clear hC2 W2R W2W gw2 hcp hmk;obtain ⟨k, f, hk, hf, hfn, rfl, A0, R0, V0, gw⟩ := hrel;have HF := kh hf;obtain ⟨hn, h1, hu⟩ := HNM.out
  by_cases hlt : k < u
  ·obtain ⟨q1, q2, q3, q4, q5, q6, q7, q8, q9⟩ := pass_nums4 h u k n f hn hf hlt hn64 h1
   have Q5 := kh q5;clear q5;clear hn h1 hu hf;have HM1 := kh (HM.out k hlt);rw [← HF.out] at HM1;generalize 4 * h = m at *;generalize f + m = e at *;go_wp2_with fail
   have KS : ∀ W, Gr wr W → (W.cell? ⟨w.heap.size, 0, none⟩ = some (.int .i64 bits) ∧ W.cell? ⟨w.heap.size, 1, none⟩ = some (.int .i64 s) ∧ W.cell? ⟨w.heap.size, 2, none⟩ = some (.int .i64 mo) ∧ W.cell? ⟨w.heap.size, 3, none⟩ = some (.bool inv) ∧ w.heap.size < W.heap.size) := fun W hG => ⟨(R0.gr hG).cell 0, (R0.gr hG).cell 1, (R0.gr hG).cell 2, (R0.gr hG).cell 3, Nat.lt_of_lt_of_le R0.lt hG.size⟩
   refine wp_region_held_drew (S := fun W => W.cell? ⟨w.heap.size, 0, none⟩ = some (.int .i64 bits) ∧ W.cell? ⟨w.heap.size, 1, none⟩ = some (.int .i64 s) ∧ W.cell? ⟨w.heap.size, 2, none⟩ = some (.int .i64 mo) ∧ W.cell? ⟨w.heap.size, 3, none⟩ = some (.bool inv) ∧ w.heap.size < W.heap.size) rfl (KS _ (Gr.drew (Gr.refl _))) (fun hS => ?_);refine hT 0 ?_;refine hT 1 ?_;refine hT 2 ?_;refine hT 3 ?_;refine hT 4 ?_;refine hT 5 ?_;refine hT 6 ?_;refine hR 7 fun K hK => ?_
   go_simp
   go_at_call 187
   with_reducible refine (HM1.out By _ hwB (V0.gr ((Gr.refl _).drew)) (Nat.lt_of_lt_of_le hbw (gw.drew).size) A0.drew).mono ?_
   rintro e' w3 ⟨rfl, A3, g3⟩
   have g3' : GB By wr w3 := (GB.drew (GB.refl By wr)).trans g3
   have R3 := g3'.cellsAt R0 hwy;have V3 := g3'.cxs V0 hwB;have gw3 := g3'.new gw hzz;refine hK.out _ _ ?_ (fun hHeld => ?_)
   ·(exact ⟨R3.cell 0, R3.cell 1, R3.cell 2, R3.cell 3, R3.lt⟩)
   clear hK K
   try simp only [Act.put, putS]
   refine wpAnyH_done (by kernel_rfl) ?_ _;clear KS A0 R0 V0 gw g3 g3' hS HM1;go_wp2_with fail;clear q2 q3
   go_roundw
   case rel => exact ⟨k + 1, e, hlt, Q5.out, q4, rfl, A3, R3, V3, gw3⟩
   case measure => simp [intOf]; omega
  ·obtain rfl : k = u := by omega
   have hfn2 : f = n := by omega
   subst hfn2;clear hn h1 hu hf;go_wp2_with fail;refine bodyPost_ret (v := .tuple #[.slice (some ⟨By, 0, none⟩) f f, .int .i64 0]) (by simp [results, Tryz.results155, go_sem]) rfl ⟨_, rfl, ?_, gw⟩
   have := A0.cxs 0 f f (by omega) (by omega) (by unfold maxLen; omega)
   simpa using this
end
end Go.Proofs.YtdignnmpfkgkoaaGreat
