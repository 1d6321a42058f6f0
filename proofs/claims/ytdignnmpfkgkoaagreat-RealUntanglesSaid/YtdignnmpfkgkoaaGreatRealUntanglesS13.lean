import Derived.RangeFuncNested
import Derived.RangeFuncBound
import Derived.RangeFuncCalls
import Derived.RangeFuncLeaves
import Derived.Shelf.Abstract
import Derived.Shelf.RegionOpen
import Derived.OwnWalkIn
import Derived.TacticsInMore
import Derived.LoopNIn
import Derived.LoopIn
import Derived.Test.YtdignnmpfkgkoaaGreatRealUntanglesS8
import Derived.Test.YtdignnmpfkgkoaaGreatRealUntanglesS12
namespace Go.Proofs.YtdignnmpfkgkoaaGreat
section
open Go.ChangeShapes Go.WideShapes Go.ChangeAt Go.RowKit Go.Shelf
set_option linter.unusedVariables false
set_option maxRecDepth 100000
def noDefer (ops : Array Oper) : Bool := ops.all fun o => match o.op with | .defer _ => false | _ => true
theorem noDefer_spec {ops : Array Oper} (h : noDefer ops = true) {j : Nat} {o : Oper} (ho : ops[j]? = some o) : ∀ c, o.op ≠ .defer c := by
 intro c e
 obtain ⟨hj, rfl⟩ := Array.getElem?_eq_some_iff.1 ho
 have := Array.all_eq_true.1 h j hj
 rw [e] at this
 cases this
theorem rowsIn_round {l n : Nat} {P : Program} {row : String} {args : Array Value} {w : World} {R : Value → World → Prop} (h : Rows P row args w R) : RowsIn (Fence.wide.inRound l) n P row args w R := by
 intro c cs hr
 obtain ⟨v, w', hR, hs⟩ := h c cs
 exact ⟨v, w', hR, (stepsIn_wide.2 hs)⟩
theorem wpOpIn_of {l n : Nat} {P : Program} {ops : Array Oper} {Q : Exit → Act → World → Prop} {i : Nat} {K : Act → World → Prop} {a : Act} {w : World} (hQ : ¬ LetsOut Q) (hd : noDefer ops = true) (h : wpOp P ops Q i K a w) :
 wpOpIn (Fence.wide.inRound l) n P ops Q i K a w := by
 unfold wpOp at h
 unfold wpOpIn
 cases ho : ops[i]? with
 | none => simpa only [ho] using h
 | some o =>
   simp only [ho] at h ⊢
   by_cases hw : Region.wanted o (yielded ops a.tmps) = true
   ·rw [if_pos hw] at h ⊢
    have h1 : o.wp P a w K Q := h.resolve_right (fun hh => hQ hh.2)
    refine ⟨fun _ _ => trivial, ?_⟩
    rw [Oper.semAt_eq _ _ _ (noDefer_spec hd ho)]
    unfold Oper.wp at h1
    generalize (execOp a.eval o).run P w = r at *
    cases r with
    | ok x w' =>
      cases x <;> simp only [Oper.upon, Oper.uponIn] at h1 ⊢
      case value => exact h1
      case skip => exact h1
      case defer => exact h1
      case enter f args => exact ⟨fun hh => (by cases hh), CallsIn.inRound l (callsIn_wide.2 (Calls.mono h1 (fun e w'' he => by cases e <;> exact he)))⟩
      case row row args => exact ⟨fun hh => (by cases hh), rowsIn_round h1⟩
    | halt x w' => cases x <;> simp only [Oper.upon, Oper.uponIn] at h1 ⊢ <;> exact h1
   ·rw [if_neg hw] at h ⊢
    exact ⟨fun _ _ => trivial, h⟩
theorem wpAnyIn_of {l n : Nat} {P : Program} {md : Region.Mode} {ops : Array Oper} {Q : Exit → Act → World → Prop} (hQ : ¬ LetsOut Q) (hd : noDefer ops = true) :
 ∀ (fuel : Nat) (listed : Array Bool) (a : Act) (w : World), wpAny P md ops Q fuel listed a w → wpAnyIn (Fence.wide.inRound l) n P md ops Q fuel listed a w
 | 0, _, _, _, h => h
 | fuel + 1, _, _, _, h => ⟨h.1, fun i hi => wpOpIn_of hQ hd (wpOp_mono (fun a' w' => wpAnyIn_of hQ hd fuel _ a' w') (h.2 i hi))⟩
theorem wpIn_region_held_round {l n : Nat} {P : Program} {ops : Array Oper} {Q : Exit → Act → World → Prop} {S : World → Prop} {id : Nat} {a : Act} {w : World} (hm : P.follows .mixedOrders = true) (hd : noDefer ops = true) (hQ : ¬ LetsOut Q) (hS : S w.drew)
 (h : S w.drew → wpAnyH P .any ops Q S ops.size (Array.replicate ops.size false) a w.drew) : (Code.region id ops true).wpIn (Fence.wide.inRound l) n P Q a w :=
 wpIn_region_any hm (wpAnyIn_of hQ hd _ _ _ _ (wpAny_of_held _ _ _ _ (h hS)))
end
section
open Go.ChangeShapes Go.WideShapes Go.ChangeAt Go.RowKit Go.Shelf
set_option linter.unusedVariables false
theorem wide_fn (f : FuncId) : Fence.wide.fn f = True := rfl
attribute [local go_sem] wide_fn Oper.semAt_some
structure Pl where
 a : Nat
 b : Nat
 r : Nat
def pairAt (h u q : Nat) : Pl := ⟨2 * h * (q / h) + q % h, 2 * h * (q / h) + h + q % h, q % h * u⟩
def plEnc (p : Pl) : Array Value := #[.agg #[.int .i64 p.a, .int .i64 p.b, .int .i64 p.r]]
theorem pairAt_in (h u k j : Nat) (h1 : 1 ≤ h) (hj : j < h) : pairAt h u (h * k + j) = ⟨2 * h * k + j, 2 * h * k + h + j, j * u⟩ := by
 have e1 : (h * k + j) / h = k := by rw [Nat.mul_add_div (by omega), Nat.div_eq_of_lt hj, Nat.add_zero]
 have e2 : (h * k + j) % h = j := by rw [Nat.mul_add_mod, Nat.mod_eq_of_lt hj]
 unfold pairAt
 rw [e1, e2]
def Qi (N : Nat) : Type := { q : Nat // q < N }
def qL (N : Nat) : Nat → List (Qi N)
 | 0 => []
 | m + 1 => qL N m ++ (if hm : m < N then [⟨m, hm⟩] else [])
theorem qL_snoc (N m : Nat) (x : Qi N) (hx : x.1 = m) : qL N (m + 1) = qL N m ++ [x] := by
 obtain ⟨q, hq⟩ := x
 simp only at hx
 subst hx
 rw [qL, dif_pos hq]
theorem qL_len (N : Nat) : ∀ m, m ≤ N → (qL N m).length = m
 | 0, _ => rfl
 | m + 1, h => by rw [qL_snoc N m ⟨m, h⟩ rfl, List.length_append, qL_len N m (by omega)]; rfl
theorem qL_all (N : Nat) (q : Qi N) : ∀ m, q.1 < m → q ∈ qL N m
 | m + 1, h => by
   rcases Nat.lt_or_ge q.1 m with g | g
   ·rw [qL]
    exact List.mem_append.2 (.inl (qL_all N q m g))
   ·rw [qL_snoc N m q (by omega)]
    exact List.mem_append.2 (.inr (by simp))
def encQ (h u : Nat) (x : Qi (h * u)) : Array Value := plEnc (pairAt h u x.1)
theorem encQ_at (h u k j : Nat) (h1 : 1 ≤ h) (hj : j < h) (x : Qi (h * u)) (hx : x.1 = h * k + j) : encQ h u x = #[.agg #[.int .i64 ((2 * h * k + j : Nat) : Int), .int .i64 ((2 * h * k + h + j : Nat) : Int), .int .i64 ((j * u : Nat) : Int)]] := by
 unfold encQ
 rw [hx, pairAt_in h u k j h1 hj]
 rfl
def IsP (N : Nat) (ys : List (Qi N)) : Prop := ys = qL N N
theorem pairs_c (n h : Int) (w : World) :
 Calls Tryz.prog 183 #[.int .i64 n, .int .i64 h] w fun e w' => e = .returned (.func (.func 203) #[] #[.pointer (some ⟨w.heap.size, 0, none⟩), .pointer (some ⟨w.heap.size + 1, 0, none⟩)]) ∧ w' = (w.alloc (.cells #[.int .i64 n] 3)).alloc (.cells #[.int .i64 h] 3) := by
 go_enter Tryz.func183, Tryz.ntmps183
 go_wp2_with fail
 go_ret
 exact ⟨by simp, rfl⟩
theorem two_nums (N h u k j : Nat) (hN : N = 2 * h * u) (hk : k < u) (hj : j < h) (hN64 : N ≤ 64) : h * k + j < h * u ∧ h * u ≤ 32 ∧ 2 * h * k + j ≤ 64 ∧ 2 * h * k + h + j ≤ 64 ∧ j * u ≤ 64 ∧ 2 * h * k ≤ 64 ∧ k ≤ 64 ∧ h ≤ 64 := by
 have h1 : h * (k + 1) ≤ h * u := Nat.mul_le_mul_left _ hk
 have h2 : 2 * h * (k + 1) ≤ 2 * h * u := Nat.mul_le_mul_left _ hk
 have h3 : j * u ≤ h * u := Nat.mul_le_mul_right _ (by omega)
 have h4 : 1 * u ≤ h * u := Nat.mul_le_mul_right _ (by omega)
 rw [Nat.mul_succ] at h1 h2
 rw [Nat.mul_assoc 2 h u] at hN h2
 have h5 : h * 1 ≤ h * u := Nat.mul_le_mul_left _ (by omega)
 rw [Nat.mul_assoc 2 h k] at *
 generalize h * u = p at *
 generalize h * k = q at *
 generalize j * u = r at *
 omega
theorem wr_add (a b : Nat) (h : a + b ≤ 64) : wrap64 ((a : Int) + (b : Int)) = ((a + b : Nat) : Int) := by rw [IntWalk.wrap64_in _ ⟨by omega, by omega⟩]; omega
theorem wr_mul (a b : Nat) (h : a * b ≤ 64) : wrap64 ((a : Int) * (b : Int)) = ((a * b : Nat) : Int) := by
 have : (a : Int) * (b : Int) = ((a * b : Nat) : Int) := by simp
 rw [this]
 exact IntWalk.wrap64_in _ ⟨by omega, by omega⟩
set_option maxRecDepth 100000 in set_option maxHeartbeats 4000000 in
theorem pairs1_in (n : Nat) (hn : 1 ≤ n) (l Bn Bh N h u : Nat) (hN : N = 2 * h * u) (h1 : 1 ≤ h) (hu : 1 ≤ u) (hN64 : N ≤ 64) (J Jx : List (Qi (h * u)) → World → Prop) (W0 : World) (hJ : AbidesFrom W0.heap.size J)
 (hY : ∀ pre x W, J pre W → pre.length < 32 → YieldAt Fence.wide (n - 1) Tryz.prog l (encQ h u x) W fun e W' =>
  (e = .returned (.bool true) ∧ J (pre ++ [x]) W' ∧ (W'.heap[Bn]? = W.heap[Bn]? ∧ W'.heap[Bh]? = W.heap[Bh]?)) ∨ (e = .returned (.bool false) ∧ Jx (pre ++ [x]) W'))
 (W : World) (hBn : Boxed W Bn 3 (.int .i64 N)) (hBh : Boxed W Bh 3 (.int .i64 h)) (h0 : J [] W) :
 CallsIn Fence.wide n Tryz.prog 203 #[.func (.yield l) #[] #[], .pointer (some ⟨Bn, 0, none⟩), .pointer (some ⟨Bh, 0, none⟩)] W fun e W' => (∃ v, e = .returned v) ∧
  ((∃ ys, IsP (h * u) ys ∧ J ys W') ∨ (∃ pre, True ∧ Jx pre W')) := by
 have hc := hBn.cell
 have hc2 := hBh.cell
 have hh64 : 2 * h ≤ 64 := by
  have : 2 * h * 1 ≤ 2 * h * u := Nat.mul_le_mul_left _ hu
  omega
 have hu64 : u ≤ 64 := by
  have : 1 * u ≤ 2 * h * u := Nat.mul_le_mul_right _ (by omega)
  omega
 have hdz : ¬ ((2 * h : Nat) : Int) = 0 := by omega
 have hdv : (N : Int) / ((2 * h : Nat) : Int) = (u : Int) := by
  rw [hN]
  have : ((2 * h * u : Nat) : Int) = ((2 * h : Nat) : Int) * (u : Int) := by simp
  rw [this]
  exact Int.mul_ediv_cancel_left _ hdz
 have h2i : 2 * (h : Int) = ((2 * h : Nat) : Int) := by omega
 have HNN := Lib.hid fun k j hk hj => two_nums N h u k j hN hk hj hN64
 have HPA := Lib.hid fun k j hj => encQ_at h u k j h1 hj
 have HQL := Lib.hid (fun m => qL_len (h * u) m)
 have HNE := Lib.hid hN
 clear hN
 generalize h2 : 2 * h = d at *
 refine callsIn_of_wp Tryz.func203 rfl trivial ?_ rfl
 simp only [Tryz.ntmps203, List.size_toArray, List.length_cons, List.length_nil, Nat.reduceAdd, Nat.reduceSub, Array.replicate_succ, Array.replicate_zero, List.push_toArray, List.append_toArray, List.nil_append, List.cons_append]
 gi_wp2_with fail
 clear hdv hdz
 gi_loopw [13] (fun k wr => ∃ b : Nat, b ≤ u ∧ k = .int .i64 b ∧ Boxed wr Bn 3 (.int .i64 N) ∧ Boxed wr Bh 3 (.int .i64 h) ∧ J (qL (h * u) (h * b)) wr) (fun k _ => u - (intOf k).toNat)
 case atStart => exact ⟨0, by omega, rfl, hBn, hBh, h0⟩
 case round =>
  clear hc hc2 h0 hBn hBh
  obtain ⟨b, hb, rfl, hBn, hBh, hJs⟩ := hrel
  by_cases hlt : b < u
  ·have hc2 := hBh.cell
   have hlt' : (b : Int) < u := by omega
   have hbn := HNN.out b 0 hlt (by omega)
   have hwf := wr_mul d b hbn.2.2.2.2.2.1
   have HBB := Lib.hid hbn
   clear hbn
   generalize hf : d * b = f at *
   gi_wp2_with fail
   simp only [hwf]
   clear hc2 hwf
   gi_loopw [21] (fun j wr2 => ∃ jn : Nat, jn ≤ h ∧ j = .int .i64 jn ∧ Boxed wr2 Bn 3 (.int .i64 N) ∧ Boxed wr2 Bh 3 (.int .i64 h) ∧ J (qL (h * u) (h * b + jn)) wr2) (fun j _ => h - (intOf j).toNat)
   case atStart => exact ⟨0, by omega, rfl, hBn, hBh, hJs⟩
   case round =>
    clear hJs hBn hBh
    obtain ⟨j, hj, rfl, hBn, hBh, hJs⟩ := hrel
    by_cases hjl : j < h
    ·have hc2 := hBh.cell
     have hjl' : (j : Int) < h := by omega
     obtain ⟨n1, n2, n3, n4, n5, n6, n7, n8⟩ := HNN.out b j hlt hjl
     obtain ⟨x, hx⟩ : ∃ x : Qi (h * u), x.1 = h * b + j := ⟨⟨_, n1⟩, rfl⟩
     have hpa := HPA.out b j hjl x hx
     rw [hf] at n3 n4 n6 hpa
     have hwa := wr_add f j n3
     have hwm := wr_add f h (Nat.le_trans (Nat.le_add_right _ _) n4)
     have hwb := wr_add (f + h) j n4
     have hwr := wr_mul j u n5
     obtain ⟨fn, tmps, assign, body, hy, hR⟩ := hY _ x wr hJs (by rw [HQL.out _ (Nat.le_of_lt n1)]; exact Nat.lt_of_lt_of_le n1 n2)
     rw [hpa] at hy
     have HS := Lib.hid (qL_snoc (h * u) (h * b + j) x hx)
     clear hpa hx
     generalize f + h = m at *
     generalize f + j = fa at *
     generalize m + j = fb at *
     generalize j * u = fr at *
     have hj64 : j ≤ 64 := Nat.le_trans (Nat.le_of_lt hjl) n8
     clear n1 n2 n3 n4 n5 n6 n7 n8 hh64 hu64 hN64 h2 h2i hf
     gi_wp2_with fail
     refine hR.mono ?_
     clear hy hR
     rintro e W3 (⟨rfl, hJ3, hk3, hk4⟩ | ⟨rfl, hJx3⟩)
     ·have hBn3 : Boxed W3 Bn 3 (.int .i64 N) := hk3.trans hBn
      have hBh3 : Boxed W3 Bh 3 (.int .i64 h) := hk4.trans hBh
      clear hc2 hJs hk3 hk4 hBn hBh
      have hc3 := hBh3.cell
      gi_wp2_with fail
      go_roundw
      case rel =>
       refine ⟨j + 1, by omega, by go_num, hBn3, hBh3, ?_⟩
       rw [show h * b + (j + 1) = h * b + j + 1 by omega, HS.out]
       exact hJ3
      case measure => simp [intOf]; omega
     ·gi_wp2
      refine bodyPost_ret (results_none rfl _ _ _) rfl ?_
      exact ⟨⟨_, rfl⟩, .inr ⟨_, trivial, hJx3⟩⟩
    ·obtain rfl : j = h := by omega
     gi_wp2_with fail
     go_roundw
     case rel =>
      first
       | exact ⟨b + 1, by omega, by go_num, hBn, hBh, by rw [Nat.mul_succ]; exact hJs⟩
       | ((repeat apply Exists.intro); refine ⟨?_, rfl⟩; exact ⟨b + 1, by omega, by go_num, hBn, hBh, by rw [Nat.mul_succ]; exact hJs⟩)
     case measure => simp [intOf]; omega
  ·obtain rfl : b = u := by omega
   gi_wp2_with fail
   go_end0
   exact ⟨⟨_, rfl⟩, .inl ⟨_, rfl, hJs⟩⟩
theorem pairs_stops (n : Nat) (hn : 1 ≤ n) (Bn Bh N h u : Nat) (hN : N = 2 * h * u) (h1 : 1 ≤ h) (hu : 1 ≤ u) (hN64 : N ≤ 64) (w : World) (hb : Boxed w Bn 3 (.int .i64 N)) (hh : Boxed w Bh 3 (.int .i64 h)) :
 SeqStopsK Fence.wide n Tryz.prog 203 #[.pointer (some ⟨Bn, 0, none⟩), .pointer (some ⟨Bh, 0, none⟩)] (encQ h u) (fun A B => B.heap[Bn]? = A.heap[Bn]? ∧ B.heap[Bh]? = A.heap[Bh]?) (IsP (h * u)) (fun _ => True) 32 w := fun l J Jx W hW hJ _ hY h0 =>
 pairs1_in n hn l Bn Bh N h u hN h1 hu hN64 J Jx W hJ hY W ((hW.block Bn hb.lt).trans hb) ((hW.block Bh hh.lt).trans hh) h0
end
section
set_option linter.unusedVariables false
set_option linter.unusedSimpArgs false
set_option maxRecDepth 100000
def gsub (a b : Gi) : Gi := ⟨a.re - b.re, a.im - b.im⟩
def joinG (bits : Nat) (mo : Int) (inv : Bool) (q : Nat) (u v y z w w3 : Gi) : Gi :=
 grnd (bits + 2) mo (if 2 ≤ q then gsub (gscale (bits + 1) (if q % 2 = 1 then v else u)) (if q % 2 = 1 then Gi.turn (turns1 inv 1) (gsub (gmul y w) (gmul z w3)) else gadd (gmul y w) (gmul z w3))
  else gadd (gscale (bits + 1) (if q % 2 = 1 then v else u)) (if q % 2 = 1 then Gi.turn (turns1 inv 1) (gsub (gmul y w) (gmul z w3)) else gadd (gmul y w) (gmul z w3)))
def spl (bits : Nat) (mo : Int) (inv : Bool) (W : Nat → Gi) (n : Nat) : Nat → (Nat → Gi) → Nat → Gi
 | 0, f, i => f i
 | 1, f, i => if i = 0 then grnd 1 mo (gadd (f 0) (f 1)) else grnd 1 mo (gsub (f 0) (f 1))
 | l + 2, f, i =>
   joinG bits mo inv (i / 2 ^ l) (spl bits mo inv W n (l + 1) (fun j => f (2 * j)) (i % 2 ^ l)) (spl bits mo inv W n (l + 1) (fun j => f (2 * j)) (2 ^ l + i % 2 ^ l))
    (spl bits mo inv W n l (fun j => f (4 * j + 1)) (i % 2 ^ l)) (spl bits mo inv W n l (fun j => f (4 * j + 3)) (i % 2 ^ l)) (W (i % 2 ^ l * (n / 2 ^ (l + 2)))) (W (3 * (i % 2 ^ l) * (n / 2 ^ (l + 2))))
theorem spl_two (bits : Nat) (mo : Int) (inv : Bool) (W : Nat → Gi) (n l : Nat) (f : Nat → Gi) (i : Nat) : spl bits mo inv W n (l + 2) f i =
 joinG bits mo inv (i / 2 ^ l) (spl bits mo inv W n (l + 1) (fun j => f (2 * j)) (i % 2 ^ l)) (spl bits mo inv W n (l + 1) (fun j => f (2 * j)) (2 ^ l + i % 2 ^ l))
  (spl bits mo inv W n l (fun j => f (4 * j + 1)) (i % 2 ^ l)) (spl bits mo inv W n l (fun j => f (4 * j + 3)) (i % 2 ^ l)) (W (i % 2 ^ l * (n / 2 ^ (l + 2)))) (W (3 * (i % 2 ^ l) * (n / 2 ^ (l + 2)))) := rfl
theorem spl_places (l i : Nat) : i % 2 ^ l < 2 ^ l ∧ 2 ^ l + i % 2 ^ l < 2 ^ (l + 1) ∧ (∀ j, j < 2 ^ (l + 1) → 2 * j < 2 ^ (l + 2)) ∧ ∀ j, j < 2 ^ l → 4 * j + 1 < 2 ^ (l + 2) ∧ 4 * j + 3 < 2 ^ (l + 2) := by
 have hp := Nat.mod_lt i (Nat.two_pow_pos l)
 have e1 : 2 ^ (l + 1) = 2 * 2 ^ l := by rw [Nat.pow_succ]; omega
 have e2 : 2 ^ (l + 2) = 4 * 2 ^ l := by rw [Nat.pow_succ, Nat.pow_succ]; omega
 rw [e1, e2]
 exact ⟨hp, by omega, fun j hj => by omega, fun j hj => by omega⟩
theorem spl_congr (bits : Nat) (mo : Int) (inv : Bool) (W : Nat → Gi) (n : Nat) : ∀ l (f g : Nat → Gi), (∀ i, i < 2 ^ l → f i = g i) → ∀ i, i < 2 ^ l → spl bits mo inv W n l f i = spl bits mo inv W n l g i
 | 0, f, g, h, i, hi => h i hi
 | 1, f, g, h, i, hi => by
   unfold spl
   rw [h 0 (by omega), h 1 (by omega)]
 | l + 2, f, g, h, i, hi => by
   obtain ⟨h1, h2, h3, h4⟩ := spl_places l i
   rw [spl_two, spl_two, spl_congr bits mo inv W n (l + 1) (fun j => f (2 * j)) (fun j => g (2 * j)) (fun j hj => h _ (h3 j hj)) _ (by omega), spl_congr bits mo inv W n (l + 1) (fun j => f (2 * j)) (fun j => g (2 * j)) (fun j hj => h _ (h3 j hj)) _ h2,
    spl_congr bits mo inv W n l (fun j => f (4 * j + 1)) (fun j => g (4 * j + 1)) (fun j hj => h _ (h4 j hj).1) _ h1, spl_congr bits mo inv W n l (fun j => f (4 * j + 3)) (fun j => g (4 * j + 3)) (fun j hj => h _ (h4 j hj).2) _ h1]
def Len (R : Int) (a : Gi) : Prop := a.re * a.re + a.im * a.im ≤ R * R
theorem sq_le (x R : Int) (hR : 0 ≤ R) (h : x * x ≤ R * R) : -R ≤ x ∧ x ≤ R := by
 constructor
 ·refine Int.not_lt.1 fun k => ?_
  have h1 := Int.mul_le_mul (a := R + 1) (b := R + 1) (c := -x) (d := -x) (by omega) (by omega) (by omega) (by omega)
  rw [Int.neg_mul_neg] at h1
  have h2 : (R + 1) * (R + 1) = R * R + 2 * R + 1 := by grind
  omega
 ·refine Int.not_lt.1 fun k => ?_
  have h1 := Int.mul_le_mul (a := R + 1) (b := R + 1) (c := x) (d := x) (by omega) (by omega) (by omega) (by omega)
  have h2 : (R + 1) * (R + 1) = R * R + 2 * R + 1 := by grind
  omega
theorem sq_nonneg12 (x : Int) : 0 ≤ x * x := by
 rcases Int.le_total 0 x with h | h
 ·exact Int.mul_nonneg h h
 ·rw [← Int.neg_mul_neg]; exact Int.mul_nonneg (by omega) (by omega)
theorem Len.bd {R : Int} {a : Gi} (hR : 0 ≤ R) (h : Len R a) : Bd R a := by
 unfold Len at h
 have h1 := sq_nonneg12 a.re
 have h2 := sq_nonneg12 a.im
 exact Bd.mk ⟨sq_le _ _ hR (by omega), sq_le _ _ hR (by omega)⟩
theorem Len.mono {R S : Int} {a : Gi} (hR : 0 ≤ R) (h : Len R a) (e : R ≤ S) : Len S a := Int.le_trans h (Int.mul_le_mul e e hR (by omega))
theorem Len.zero (R : Int) : Len R ⟨0, 0⟩ := by unfold Len; simpa using sq_nonneg12 R
theorem Len.mul {R S : Int} {a b : Gi} (hR : 0 ≤ R) (h : Len R a) (k : Len S b) : Len (R * S) (gmul a b) := by
 unfold Len gmul at *
 simp only
 have e : (a.re * b.re - a.im * b.im) * (a.re * b.re - a.im * b.im) + (a.re * b.im + a.im * b.re) * (a.re * b.im + a.im * b.re) = (a.re * a.re + a.im * a.im) * (b.re * b.re + b.im * b.im) := by grind
 rw [e, show R * S * (R * S) = (R * R) * (S * S) by grind]
 have h1 := sq_nonneg12 b.re
 have h2 := sq_nonneg12 b.im
 exact Int.mul_le_mul h k (by omega) (sq_nonneg12 R)
theorem Len.add {R S : Int} {a b : Gi} (hR : 0 ≤ R) (hS : 0 ≤ S) (h : Len R a) (k : Len S b) : Len (R + S) (gadd a b) := by
 unfold Len gadd at *
 simp only
 have hd : -(R * S) ≤ a.re * b.re + a.im * b.im ∧ a.re * b.re + a.im * b.im ≤ R * S := by
  refine sq_le _ _ (Int.mul_nonneg hR hS) ?_
  have h1 := sq_nonneg12 (a.re * b.im - a.im * b.re)
  have h2 := sq_nonneg12 b.re
  have h3 := sq_nonneg12 b.im
  have h4 : (a.re * a.re + a.im * a.im) * (b.re * b.re + b.im * b.im) ≤ (R * R) * (S * S) := Int.mul_le_mul h k (by omega) (sq_nonneg12 R)
  have e : (a.re * b.re + a.im * b.im) * (a.re * b.re + a.im * b.im) + (a.re * b.im - a.im * b.re) * (a.re * b.im - a.im * b.re) = (a.re * a.re + a.im * a.im) * (b.re * b.re + b.im * b.im) := by grind
  have e2 : R * S * (R * S) = (R * R) * (S * S) := by grind
  omega
 have e3 : (a.re + b.re) * (a.re + b.re) + (a.im + b.im) * (a.im + b.im) = (a.re * a.re + a.im * a.im) + 2 * (a.re * b.re + a.im * b.im) + (b.re * b.re + b.im * b.im) := by grind
 have e4 : (R + S) * (R + S) = R * R + 2 * (R * S) + S * S := by grind
 omega
theorem Len.neg {R : Int} {a : Gi} (h : Len R a) : Len R ⟨-a.re, -a.im⟩ := by
 unfold Len at *
 simp only [Int.neg_mul_neg]
 exact h
theorem Len.sub {R S : Int} {a b : Gi} (hR : 0 ≤ R) (hS : 0 ≤ S) (h : Len R a) (k : Len S b) : Len (R + S) (gsub a b) := by
 have e : gsub a b = gadd a ⟨-b.re, -b.im⟩ := by unfold gsub gadd; simp only [Int.sub_eq_add_neg]
 rw [e]
 exact h.add hR hS k.neg
theorem Len.turn {R : Int} {a : Gi} (h : Len R a) (q : Int) : Len R (Gi.turn q a) := by
 unfold Len at *
 have hc : q % 4 = 0 ∨ q % 4 = 1 ∨ q % 4 = 2 ∨ q % 4 = 3 := by omega
 rcases hc with e | e | e | e <;> (unfold Gi.turn; simp only [e]; first | exact h | (simp [Int.neg_mul_neg]; first | exact h | omega))
theorem Len.conj {R : Int} {a : Gi} (h : Len R a) : Len R a.conj := by
 unfold Len Gi.conj at *
 simp only [Int.neg_mul_neg]
 exact h
theorem Len.scale {R : Int} {a : Gi} (h : Len R a) (bits : Nat) : Len (R * 2 ^ bits) (gscale bits a) := by
 unfold Len gscale at *
 simp only
 generalize hP : (2 : Int) ^ bits = P
 have e : a.re * P * (a.re * P) + a.im * P * (a.im * P) = (a.re * a.re + a.im * a.im) * (P * P) := by grind
 rw [e, show R * P * (R * P) = R * R * (P * P) by grind]
 exact Int.mul_le_mul_of_nonneg_right h (sq_nonneg12 P)
theorem Len.rnd {R : Int} {a : Gi} (n : Nat) (mo : Int) (hm : mo = 0 ∨ mo = 1 ∨ mo = 2) (hR : 0 ≤ R) (h : Len (R * 2 ^ n) a) : Len (R + 2) (grnd n mo a) := by
 have h1 := rnd_off a.re n mo hm
 have h2 := rnd_off a.im n mo hm
 have hp := pow_pos2 n
 unfold grnd
 generalize Go.Proofs.YtdignnmpfkgkoaaGreat.rnd a.re n mo = x at *
 generalize Go.Proofs.YtdignnmpfkgkoaaGreat.rnd a.im n mo = y at *
 generalize (2 : Int) ^ n = P at *
 have he : Len (2 * P) ⟨x * P - a.re, y * P - a.im⟩ := by
  unfold Len
  simp only
  have e1 : (x * P - a.re) * (x * P - a.re) ≤ P * P := by
   have := Int.mul_le_mul (a := absI (x * P - a.re)) (b := absI (x * P - a.re)) (c := P) (d := P) (absI_le.2 (by omega)) (absI_le.2 (by omega)) (absI_nonneg _) (by omega)
   refine Int.le_trans (Int.le_of_eq ?_) this
   unfold absI
   split
   ·rw [Int.neg_mul_neg]
   ·rfl
  have e2 : (y * P - a.im) * (y * P - a.im) ≤ P * P := by
   have := Int.mul_le_mul (a := absI (y * P - a.im)) (b := absI (y * P - a.im)) (c := P) (d := P) (absI_le.2 (by omega)) (absI_le.2 (by omega)) (absI_nonneg _) (by omega)
   refine Int.le_trans (Int.le_of_eq ?_) this
   unfold absI
   split
   ·rw [Int.neg_mul_neg]
   ·rfl
  have e3 := sq_nonneg12 P
  have e4 : 2 * P * (2 * P) = 4 * (P * P) := by grind
  omega
 have ha := h.add (Int.mul_nonneg hR (by omega)) (by omega) he
 unfold Len gadd at ha
 unfold Len
 simp only at ha ⊢
 have e5 : a.re + (x * P - a.re) = x * P := by omega
 have e6 : a.im + (y * P - a.im) = y * P := by omega
 rw [e5, e6, show x * P * (x * P) + y * P * (y * P) = (x * x + y * y) * (P * P) by grind, show (R * P + 2 * P) * (R * P + 2 * P) = (R + 2) * (R + 2) * (P * P) by grind] at ha
 exact Int.le_of_mul_le_mul_right ha (Int.mul_pos hp hp)
theorem join_len (bits : Nat) (mo : Int) (inv : Bool) (q : Nat) (u v y z w w3 : Gi) (R : Int) (hm : mo = 0 ∨ mo = 1 ∨ mo = 2) (hR : 0 ≤ R) (hB : R ≤ 3 * 2 ^ bits) (hu : Len R u) (hv : Len R v) (hy : Len R y) (hz : Len R z) (hw : Len (2 ^ bits + 2) w) (hw3 : Len (2 ^ bits + 2) w3) :
 Len (R + 5) (joinG bits mo inv q u v y z w w3) := by
 have hp := pow_pos2 bits
 have hs : ∀ a, Len R a → Len (R * 2 ^ (bits + 1)) (gscale (bits + 1) a) := fun a h => h.scale _
 have ht : ∀ a b, Len R a → Len (2 ^ bits + 2) b → Len (R * (2 ^ bits + 2)) (gmul a b) := fun a b h k => h.mul hR k
 have e1 : R * 2 ^ (bits + 1) = 2 * (R * 2 ^ bits) := by rw [Int.pow_succ]; grind
 have e2 : R * (2 ^ bits + 2) = R * 2 ^ bits + 2 * R := by grind
 have e3 : (R + 3) * 2 ^ (bits + 2) = 4 * (R * 2 ^ bits) + 12 * 2 ^ bits := by rw [Int.pow_succ, Int.pow_succ]; grind
 have h0 : 0 ≤ R * 2 ^ bits := Int.mul_nonneg hR (by omega)
 have key : ∀ a b, Len (R * 2 ^ (bits + 1)) a → Len (R * (2 ^ bits + 2) + R * (2 ^ bits + 2)) b → Len ((R + 3) * 2 ^ (bits + 2)) (gadd a b) ∧ Len ((R + 3) * 2 ^ (bits + 2)) (gsub a b) := by
  intro a b ha hb
  exact ⟨(ha.add (by omega) (by omega) hb).mono (by omega) (by omega), (ha.sub (by omega) (by omega) hb).mono (by omega) (by omega)⟩
 have hp1 : Len (R * (2 ^ bits + 2) + R * (2 ^ bits + 2)) (gadd (gmul y w) (gmul z w3)) := (ht y w hy hw).add (by omega) (by omega) (ht z w3 hz hw3)
 have hp2 : Len (R * (2 ^ bits + 2) + R * (2 ^ bits + 2)) (Gi.turn (turns1 inv 1) (gsub (gmul y w) (gmul z w3))) := ((ht y w hy hw).sub (by omega) (by omega) (ht z w3 hz hw3)).turn _
 unfold joinG
 refine Len.mono (by omega) (Len.rnd (R := R + 3) (bits + 2) mo hm (by omega) ?_) (by omega)
 split
 ·split
  ·exact (key _ _ (hs v hv) hp2).2
  ·exact (key _ _ (hs u hu) hp1).2
 ·split
  ·exact (key _ _ (hs v hv) hp2).1
  ·exact (key _ _ (hs u hu) hp1).1
theorem spl_len (bits : Nat) (mo : Int) (inv : Bool) (W : Nat → Gi) (n : Nat) (hm : mo = 0 ∨ mo = 1 ∨ mo = 2) (hW : ∀ k, Len (2 ^ bits + 2) (W k)) : ∀ (l : Nat) (R : Int) (f : Nat → Gi), 0 ≤ R → R + 5 * l ≤ 3 * 2 ^ bits → (∀ i, i < 2 ^ l → Len R (f i)) →
 ∀ i, i < 2 ^ l → Len (R + 5 * l) (spl bits mo inv W n l f i)
 | 0, R, f, hR, hB, h, i, hi => by
   have := h i hi
   simpa [spl] using this
 | 1, R, f, hR, hB, h, i, hi => by
   have h0 := h 0 (by omega)
   have h1 := h 1 (by omega)
   have e : R * 2 ^ 1 = R + R := by omega
   unfold spl
   split
   ·refine Len.mono (by omega) (Len.rnd (R := R) 1 mo hm hR ?_) (by omega)
    rw [e]
    exact h0.add hR hR h1
   ·refine Len.mono (by omega) (Len.rnd (R := R) 1 mo hm hR ?_) (by omega)
    rw [e]
    exact h0.sub hR hR h1
 | l + 2, R, f, hR, hB, h, i, hi => by
   obtain ⟨h1, h2, h3, h4⟩ := spl_places l i
   have ih1 := spl_len bits mo inv W n hm hW (l + 1) R (fun j => f (2 * j)) hR (by omega) (fun j hj => h _ (h3 j hj))
   have ih2 := spl_len bits mo inv W n hm hW l R (fun j => f (4 * j + 1)) hR (by omega) (fun j hj => h _ (h4 j hj).1)
   have ih3 := spl_len bits mo inv W n hm hW l R (fun j => f (4 * j + 3)) hR (by omega) (fun j hj => h _ (h4 j hj).2)
   rw [spl_two]
   refine Len.mono (by omega) (join_len bits mo inv _ _ _ _ _ _ _ (R + 5 * (l + 1 : Nat)) hm (by omega) (by omega) (ih1 _ (by omega)) (ih1 _ h2) ((ih2 _ h1).mono (by omega) (by omega)) ((ih3 _ h1).mono (by omega) (by omega)) (hW _) (hW _)) (by omega)
end
section
open Go.ChangeShapes Go.WideShapes Go.ChangeAt Go.RowKit
set_option linter.unusedVariables false
set_option maxRecDepth 100000
theorem tDown_c (b s mo n : Int) (hn : IntKind.i64.wrap (b + s) = n) (w : World) :
 CW 204 #[.agg #[.int .i64 b, .int .i64 s, .int .i64 mo]] w (.int .i64 n) :=by
 delta CW
 go_enter Tryz.func204, Tryz.ntmps204
 go_wp2_with fail
 go_ret
 exact ⟨by rw [← hn]; rfl, (Gr.refl w).alloc _ _⟩
def SetsOk2 (b s mo : Int) : Prop := (0 ≤ b ∧ b ≤ 29) ∧ (0 ≤ s ∧ s ≤ 3) ∧ 0 ≤ mo ∧ mo ≤ 2
set_option maxHeartbeats 1000000 in
theorem tMayBe_last (b s mo x e : Int) (hb : 0 ≤ b ∧ b ≤ 29) (hs : 0 ≤ s ∧ s ≤ 3) (z : Bool) (hz : (e == 0) = z)
 (HS : Hid (∀ W, Calls Tryz.prog 70 #[.int .i64 0, .int .i64 (b + s), .int .i64 mo] W fun e' w' => e' = .returned (.tuple #[.int .i64 x, .int .i64 e]) ∧ Gr W w')) (w : World) :
 CW 201 #[.agg #[.int .i64 b, .int .i64 s, .int .i64 mo]] w (.bool z) :=by
 delta CW
 have HD := Lib.hid (tDown_c b s mo (b + s) (IntWalk.i64_in _ ⟨by omega, by omega⟩))
 go_enter Tryz.func201, Tryz.ntmps201
 go_wp2_with fail
 obtain ⟨u, hU⟩ : ∃ u, u = w.alloc (.cells #[.int .i64 b, .int .i64 s, .int .i64 mo] 201) := ⟨_, rfl⟩
 have gu : Gr w u := by rw [hU]; exact (Gr.refl w).alloc _ _
 have zu : w.heap.size < u.heap.size := by rw [hU]; simp
 have d0 : u.cell? ⟨w.heap.size, 0, none⟩ = some (.int .i64 b) := by rw [hU]; go_simp
 have d1 : u.cell? ⟨w.heap.size, 1, none⟩ = some (.int .i64 s) := by rw [hU]; go_simp
 have d2 : u.cell? ⟨w.heap.size, 2, none⟩ = some (.int .i64 mo) := by rw [hU]; go_simp
 rw [← hU]
 clear hU
 go_region_held3 (fun W => W.cell? ⟨w.heap.size, 0, none⟩ = some (.int .i64 b) ∧ W.cell? ⟨w.heap.size, 1, none⟩ = some (.int .i64 s) ∧ W.cell? ⟨w.heap.size, 2, none⟩ = some (.int .i64 mo) ∧ Gr u W) (first | (go_split_ands; refine ⟨?_, ?_, ?_, ?_⟩; (all_goals (first | assumption | exact Gr.refl _ | exact Gr.drew (Gr.refl _) | exact Gr.drew (by assumption) | (go_keep; done) | ((refine (Gr.cell (by assumption) ?_).trans ?_ <;> (first | assumption)); done)))))
  (first | (go_at_call 204; go_split_ands; ((with_reducible refine (HD.out _).mono ?_); rintro e w' ⟨rfl, hg⟩; have hgw : Gr u w' := Gr.trans (by first | assumption | exact Gr.drew (Gr.refl _) | exact Gr.drew (by assumption) | exact Gr.refl _) hg)) | (go_at_call 70; go_split_ands; ((with_reducible refine (HS.out _).mono ?_); rintro e w' ⟨rfl, hg⟩; have hgw : Gr u w' := Gr.trans (by first | assumption | exact Gr.drew (Gr.refl _) | exact Gr.drew (by assumption) | exact Gr.refl _) hg)))
 go_wp2_with fail
 go_ret
 exact ⟨rfl, gu.trans (by (try go_split_ands); assumption)⟩
theorem tMayBe_yes (b s mo : Int) (h : SetsOk2 b s mo) (w : World) :
 CW 201 #[.agg #[.int .i64 b, .int .i64 s, .int .i64 mo]] w (.bool true) :=by
 delta CW
 obtain ⟨h1, h2, h3, h4⟩ := h
 exact tMayBe_last b s mo _ 0 h1 h2 true rfl (Lib.hid (shift_ok 0 (b + s) mo (by omega) (by omega) (by omega) h3 h4)) w
theorem tMayBe_no (b s mo : Int) (h : ¬ SetsOk2 b s mo) (w : World) :
 CW 201 #[.agg #[.int .i64 b, .int .i64 s, .int .i64 mo]] w (.bool false) :=by
 delta CW
 unfold SetsOk2 at h
 by_cases hb : 0 ≤ b ∧ b ≤ 29
 ·by_cases hs : 0 ≤ s ∧ s ≤ 3
  ·exact tMayBe_last b s mo 0 1 hb hs false rfl (Lib.hid (shift_bad 0 (b + s) mo (.inl (by omega)))) w
  ·have hc : s < 0 ∨ (0 ≤ s ∧ 3 < s) := by omega
   obtain ⟨b0, b1⟩ := hb
   clear h hs
   rcases hc with h1 | ⟨h1, h2⟩
   all_goals
    go_enter Tryz.func201, Tryz.ntmps201
    go_wp2_with fail
    go_ret
    exact ⟨rfl, (Gr.refl w).alloc _ _⟩
 ·have hc : b < 0 ∨ (0 ≤ b ∧ 29 < b) := by omega
  clear h hb
  rcases hc with h1 | ⟨h1, h2⟩
  all_goals
   go_enter Tryz.func201, Tryz.ntmps201
   go_wp2_with fail
   go_ret
   exact ⟨rfl, (Gr.refl w).alloc _ _⟩
set_option maxHeartbeats 2000000 in
theorem tWithin_c (v : Value) (xs : List Gi) (l : Int) (hl0 : 0 ≤ l) (hl1 : l ≤ 2147483648) (w : World) (hv : CxsAt w v xs) :
 CW 202 #[.int .i64 l, v] w (.bool (allIn l xs)) :=by
 delta CW
 by_cases hx : xs = []
 ·subst hx
  obtain ⟨p, cap, rfl⟩ := hv.len
  rw [show ([] : List Gi).length = 0 from rfl]
  clear hv
  go_enter Tryz.func202, Tryz.ntmps202
  go_wp2_with fail
  refine wp_loop_rounds 1 ?_
  rw [rounds_succ]
  go_wp2_with fail
  go_ret
  exact ⟨rfl, Gr.refl _⟩
 ·obtain ⟨b, o, cap, rfl, hlen, hb, hc⟩ := hv.at hx
  have HC := Lib.hid hc
  have HN := Lib.hid fun (k : Nat) (a : Gi) (h : xs[k]? = some a) => allIn_no (l := l) h
  have HS := Lib.hid fun (k : Nat) (a : Gi) (h : xs[k]? = some a) => allIn_snoc (l := l) h
  have HA : allIn l (xs.take xs.length) = allIn l xs := by rw [List.take_length]
  clear hc hv hx
  go_enter Tryz.func202, Tryz.ntmps202
  go_wp2_with fail
  go_loopw [6, 9] (fun _ i wr => ∃ k : Nat, k ≤ xs.length ∧ i = .int .i64 k ∧ allIn l (xs.take k) = true ∧ Gr w wr) (fun _ i _ => xs.length - (intOf i).toNat)
  case atStart => exact ⟨0, Nat.zero_le _, rfl, rfl, Gr.refl _⟩
  case round =>
   obtain ⟨k, hk, rfl, hall, hl⟩ := hrel
   by_cases hlt : k < xs.length
   ·obtain ⟨x, hx⟩ := get_of_lt hlt
    have h1 := (hl.cell (p := ⟨b, o + k * 2, none⟩) hb).trans (HC.out k x hx).1
    have h2 := (hl.cell (p := ⟨b, o + k * 2 + 1, none⟩) hb).trans (HC.out k x hx).2
    have hbl : b < wr.heap.size := Nat.lt_of_lt_of_le hb hl.size
    have HN1 := Lib.hid (HN.out k x hx)
    have HS1 := Lib.hid (HS.out k x hx hall)
    obtain ⟨re, im⟩ := x
    simp only at h1 h2 HN1 HS1
    clear hx hall HA HN HS HC
    have hll : IntKind.i64.wrap (-l) = -l := IntWalk.i64_in _ ⟨by omega, by omega⟩
    have hu : ∀ a b, ∀ c d : Int, (inB l a && inB l b) = true → -l ≤ a ∧ a ≤ l ∧ -l ≤ b ∧ b ≤ l := by
     intro a b c d h
     rw [Bool.and_eq_true, inB_iff, inB_iff] at h
     omega
    by_cases hq : (inB l re && inB l im) = true
    ·have HS2 := Lib.hid (HS1.out hq)
     obtain ⟨q1, q2, q3, q4⟩ := hu re im 0 0 hq
     clear HN1 HS1 hq hu
     by_cases hm : im < re
     ·go_wp2_with fail
      go_roundw
      case rel => exact ⟨k + 1, by omega, by go_num, HS2.out, hl.alloc _ _⟩
      case measure => simp [intOf]; omega
     ·go_wp2_with fail
      go_roundw
      case rel => exact ⟨k + 1, by omega, by go_num, HS2.out, hl.alloc _ _⟩
      case measure => simp [intOf]; omega
    ·have hq' : (inB l re && inB l im) = false := by simpa using hq
     have HN2 := Lib.hid (HN1.out hq')
     have hor : re < -l ∨ l < re ∨ im < -l ∨ l < im := by
      refine Classical.byContradiction fun h => hq ?_
      rw [Bool.and_eq_true, inB_iff, inB_iff]
      omega
     clear HN1 HS1 hq hq' hu
     have hcs : (im < re ∧ im < -l) ∨ (im < re ∧ -l ≤ im ∧ l < re) ∨ (re ≤ im ∧ re < -l) ∨ (re ≤ im ∧ -l ≤ re ∧ l < im) := by omega
     clear hor
     rcases hcs with ⟨t1, t2⟩ | ⟨t1, t2, t3⟩ | ⟨t1, t2⟩ | ⟨t1, t2, t3⟩
     all_goals
      go_wp2_with fail
     all_goals
      go_ret
      exact ⟨by rw [HN2.out]; rfl, hl.alloc _ _⟩
   ·obtain rfl : k = xs.length := by omega
    rw [HA] at hall
    have HL := Lib.hid hall
    clear hall HA
    go_wp2_with fail
    go_ret
    exact ⟨by rw [HL.out]; rfl, hl⟩
def HalfOk2 (h : Int) (n : Nat) : Prop := ∃ k : Nat, 2 ^ k < n ∧ h = ((2 ^ k : Nat) : Int)
set_option maxHeartbeats 1000000 in
theorem tHalves_c (h : Int) (n : Nat) (hn : n ≤ 70) (b : Bool) (hb : b = true ↔ HalfOk2 h n) (w : World) :
 Calls Tryz.prog 200 #[.int .i64 h, .int .i64 n] w fun e w' => e = .returned (.bool b) ∧ w' = w := by
 have HB := Lib.hid hb
 clear hb
 go_enter Tryz.func200, Tryz.ntmps200
 go_wp2_with fail
 go_loop [5] (fun v => ∃ j p : Nat, j ≤ 7 ∧ p = 2 ^ j ∧ p ≤ 128 ∧ v = .int .i64 p ∧ ∀ i, i < j → h ≠ ((2 ^ i : Nat) : Int)) (fun v => 128 - (intOf v).toNat)
 case atStart => exact ⟨0, 1, by omega, rfl, by omega, rfl, fun i hi => absurd hi (Nat.not_lt_zero _)⟩
 case round =>
  obtain ⟨j, p, hj, hp, hp128, rfl, hall⟩ := hrel
  have HP := Lib.hid (And.intro hp hall)
  have hp1 : 1 ≤ p := by rw [hp]; exact Nat.one_le_two_pow
  clear hp hall
  by_cases hlt : p < n
  ·have hlt2 : (p : Int) < n := by omega
   by_cases he : h = (p : Int)
   ·obtain rfl : b = true := HB.out.2 ⟨j, by rw [← HP.out.1]; exact hlt, by rw [← HP.out.1]; exact he⟩
    have he2 : (h == (p : Int)) = true := by simpa using he
    clear he
    go_wp2_with fail
    go_ret
    exact ⟨rfl, rfl⟩
   ·have he2 : (h == (p : Int)) = false := by simpa using he
    have HE := Lib.hid he
    clear he
    have hj6 : j ≤ 6 := by
     rcases Nat.lt_or_ge j 7 with g | g
     ·omega
     ·have e7 : j = 7 := by omega
      have := HP.out.1
      rw [e7] at this
      omega
    go_wp2_with fail
    go_round
    case rel =>
     refine ⟨j + 1, 2 * p, by omega, by rw [HP.out.1, Nat.pow_succ]; omega, ?_, by go_num, fun i hi => ?_⟩
     ·have : 2 ^ (j + 1) ≤ 2 ^ 7 := Nat.pow_le_pow_right (by omega) (by omega)
      rw [HP.out.1]
      rw [Nat.pow_succ] at this
      omega
     ·rcases Nat.lt_or_ge i j with g | g
      ·exact HP.out.2 i g
      ·obtain rfl : i = j := by omega
       rw [← HP.out.1]
       exact HE.out
    case measure => simp [intOf] <;> omega
  ·have hlt2 : (n : Int) ≤ p := by omega
   have hbf : b = false := by
    cases hbb : b
    ·rfl
    ·obtain ⟨k, h1, h2⟩ := HB.out.1 hbb
     have hkj : k < j := by
      rcases Nat.lt_or_ge k j with g | g
      ·exact g
      ·have := Nat.pow_le_pow_right (n := 2) (by omega) g
       have := HP.out.1
       omega
     exact absurd h2 (HP.out.2 k hkj)
   subst hbf
   clear HB
   go_wp2_with fail
   go_ret
   exact ⟨rfl, rfl⟩
theorem tAsked_c (g : Gi) (inv : Bool) (l : Int) (hl : l ≤ 2147483648) (hg : absI g.re ≤ l ∧ absI g.im ≤ l) (w : World) :
 CW 185 #[.agg #[.int .i64 g.re, .int .i64 g.im], .bool inv] w (.agg #[.int .i64 (if inv then g.conj else g).re, .int .i64 (if inv then g.conj else g).im]) :=by
 delta CW
 have h1 := absI_le.1 hg.1
 have h2 := absI_le.1 hg.2
 have HC := Lib.hid (cxconj_ok g.re g.im (by simp only [Bool.and_eq_true, inB_iff]; omega))
 obtain ⟨re, im⟩ := g
 simp only at HC
 clear hg h1 h2
 cases inv
 ·simp only [Bool.false_eq_true, if_false]
  go_enter Tryz.func185, Tryz.ntmps185
  go_wp2_with fail
  refine bodyPost_ret (v := .agg #[.int .i64 re, .int .i64 im]) ?_ rfl ⟨rfl, ?_⟩
  ·simp [results, Tryz.results185, go_sem]
  ·exact by repeat (first | exact Gr.refl _ | assumption | apply Gr.drew | apply Gr.alloc | (refine Gr.setCell ?_ (by first | (simp; done) | (simp; omega)) _))
 ·simp only [if_true, Gi.conj]
  go_enter Tryz.func185, Tryz.ntmps185
  go_wp2_with fail
  have R0 := (CellsAt.new w 50 #[.int .i64 re, .int .i64 im]).alloc (.cells #[.int .i64 0, .int .i64 0] 50)
  have R1 := CellsAt.new (w.alloc (.cells #[.int .i64 re, .int .i64 im] 50)) 50 #[.int .i64 0, .int .i64 0]
  have g0 := ((Gr.refl w).alloc #[.int .i64 re, .int .i64 im] 50).alloc #[.int .i64 0, .int .i64 0] 50
  rw [World.size_alloc] at R1
  refine (HC.out _).mono ?_
  rintro e w2 ⟨rfl, g2⟩
  have S0 := R0.gr g2
  have S1 := R1.gr g2
  have gw := g0.trans g2
  have c0 := S0.cell 0
  have c1 := S0.cell 1
  have f0 := S0.frozen 0
  have f1 := S0.frozen 1
  have c2 := S1.cell 0
  have c3 := S1.cell 1
  have f2 := S1.frozen 0
  have f3 := S1.frozen 1
  have hl2 := S1.lt
  have hl0 := S0.lt
  simp only [getS] at c0 c1 c2 c3
  clear R0 R1 g0 S0 S1 g2
  go_wp2_with fail
  refine bodyPost_ret (v := .agg #[.int .i64 re, .int .i64 (-im)]) ?_ rfl ⟨rfl, ?_⟩
  ·simp [results, Tryz.f185, go_sem, c2, c3]
  ·exact ((((gw.setCell (a := ⟨w.heap.size, 0, none⟩) (by simp) _).setCell (a := ⟨w.heap.size, 1, none⟩) (by simp) _)).setCell (by simp) _).setCell (by simp) _
end
end Go.Proofs.YtdignnmpfkgkoaaGreat
