/- A region that draws its order inside a round of a range over a function: it goes as outside of one. · Package two: the iterator over a pass's pairs. -/
import Derived.Test.YtomjldaonpjloaaFns
import Derived.Test.YtomjldaonpjloaaTwoMath
import Derived.RangeFuncNested
import Derived.RangeFuncBound
import Derived.RangeFuncCalls
import Derived.RangeFuncLeaves
import Derived.Shelf.Abstract
import Derived.Shelf.RegionOpen
import Derived.OwnWalkIn
import Derived.TacticsInMore
import Derived.LoopNIn
import Derived.LoopIn
import Derived.Maps.AppendAt
import Derived.RangeFuncBox
import Derived.Sort.QuietIn
namespace Go.Proofs.Ytomjldaonpjloaa
open Go.ChangeShapes Go.WideShapes Go.ChangeAt Go.RowKit Go.Shelf
set_option linter.unusedVariables false
set_option maxRecDepth 100000

/-- No operation defers a call. -/
def noDefer (ops : Array Oper) : Bool := ops.all fun o => match o.op with | .defer _ => false | _ => true
theorem noDefer_spec {ops : Array Oper} (h : noDefer ops = true) {j : Nat} {o : Oper} (ho : ops[j]? = some o) : ∀ c, o.op ≠ .defer c := by
  intro c e
  obtain ⟨hj, rfl⟩ := Array.getElem?_eq_some_iff.1 ho
  have := Array.all_eq_true.1 h j hj
  rw [e] at this
  cases this

theorem rowsIn_round {l n : Nat} {P : Program} {row : String} {args : Array Value} {w : World} {R : Value → World → Prop} (h : Rows P row args w R) : RowsIn (Fence.wide.inRound l) n P row args w R := by
  intro c cs hr
  obtain ⟨v, w', hR, hs⟩ := h c cs
  exact ⟨v, w', hR, (stepsIn_wide.2 hs)⟩

theorem wpOpIn_of {l n : Nat} {P : Program} {ops : Array Oper} {Q : Exit → Act → World → Prop} {i : Nat} {K : Act → World → Prop} {a : Act} {w : World} (hQ : ¬ LetsOut Q) (hd : noDefer ops = true) (h : wpOp P ops Q i K a w) :
    wpOpIn (Fence.wide.inRound l) n P ops Q i K a w := by
  unfold wpOp at h
  unfold wpOpIn
  cases ho : ops[i]? with
  | none => simpa only [ho] using h
  | some o =>
    simp only [ho] at h ⊢
    by_cases hw : Region.wanted o (yielded ops a.tmps) = true
    · rw [if_pos hw] at h ⊢
      have h1 : o.wp P a w K Q := h.resolve_right (fun hh => hQ hh.2)
      refine ⟨fun _ _ => trivial, ?_⟩
      rw [Oper.semAt_eq _ _ _ (noDefer_spec hd ho)]
      unfold Oper.wp at h1
      generalize (execOp a.eval o).run P w = r at *
      cases r with
      | ok x w' =>
        cases x <;> simp only [Oper.upon, Oper.uponIn] at h1 ⊢
        case value => exact h1
        case skip => exact h1
        case defer => exact h1
        case enter f args => exact ⟨fun hh => (by cases hh), CallsIn.inRound l (callsIn_wide.2 (Calls.mono h1 (fun e w'' he => by cases e <;> exact he)))⟩
        case row row args => exact ⟨fun hh => (by cases hh), rowsIn_round h1⟩
      | halt x w' => cases x <;> simp only [Oper.upon, Oper.uponIn] at h1 ⊢ <;> exact h1
    · rw [if_neg hw] at h ⊢
      exact ⟨fun _ _ => trivial, h⟩

theorem wpAnyIn_of {l n : Nat} {P : Program} {md : Region.Mode} {ops : Array Oper} {Q : Exit → Act → World → Prop} (hQ : ¬ LetsOut Q) (hd : noDefer ops = true) :
    ∀ (fuel : Nat) (listed : Array Bool) (a : Act) (w : World), wpAny P md ops Q fuel listed a w → wpAnyIn (Fence.wide.inRound l) n P md ops Q fuel listed a w
  | 0, _, _, _, h => h
  | fuel + 1, _, _, _, h => ⟨h.1, fun i hi => wpOpIn_of hQ hd (wpOp_mono (fun a' w' => wpAnyIn_of hQ hd fuel _ a' w') (h.2 i hi))⟩

/-- Such a region, with what holds behind each of its operations. -/
theorem wpIn_region_held_round {l n : Nat} {P : Program} {ops : Array Oper} {Q : Exit → Act → World → Prop} {S : World → Prop} {id : Nat} {a : Act} {w : World} (hm : P.follows .mixedOrders = true) (hd : noDefer ops = true) (hQ : ¬ LetsOut Q) (hS : S w.drew)
    (h : S w.drew → wpAnyH P .any ops Q S ops.size (Array.replicate ops.size false) a w.drew) : (Code.region id ops true).wpIn (Fence.wide.inRound l) n P Q a w :=
  wpIn_region_any hm (wpAnyIn_of hQ hd _ _ _ _ (wpAny_of_held _ _ _ _ (h hS)))

end Go.Proofs.Ytomjldaonpjloaa

namespace Go.Proofs.Ytomjldaonpjloaa
open Go.ChangeShapes Go.WideShapes Go.ChangeAt Go.RowKit Go.Shelf
set_option linter.unusedVariables false
theorem wide_fn (f : FuncId) : Fence.wide.fn f = True := rfl
attribute [local go_sem] wide_fn Oper.semAt_some

/-- Where pair q lies, of halves h and u blocks: its two numbers and its root. -/
structure Pl where
  a : Nat
  b : Nat
  r : Nat
def pairAt (h u q : Nat) : Pl := ⟨2 * h * (q / h) + q % h, 2 * h * (q / h) + h + q % h, q % h * u⟩
def plEnc (p : Pl) : Array Value := #[.agg #[.int .i64 p.a, .int .i64 p.b, .int .i64 p.r]]
theorem pairAt_in (h u k j : Nat) (h1 : 1 ≤ h) (hj : j < h) : pairAt h u (h * k + j) = ⟨2 * h * k + j, 2 * h * k + h + j, j * u⟩ := by
  have e1 : (h * k + j) / h = k := by rw [Nat.mul_add_div (by omega), Nat.div_eq_of_lt hj, Nat.add_zero]
  have e2 : (h * k + j) % h = j := by rw [Nat.mul_add_mod, Nat.mod_eq_of_lt hj]
  unfold pairAt
  rw [e1, e2]

/-- The pairs' numbers, in order. -/
def Qi (N : Nat) : Type := { q : Nat // q < N }
def qL (N : Nat) : Nat → List (Qi N)
  | 0 => []
  | m + 1 => qL N m ++ (if hm : m < N then [⟨m, hm⟩] else [])
theorem qL_snoc (N m : Nat) (x : Qi N) (hx : x.1 = m) : qL N (m + 1) = qL N m ++ [x] := by
  obtain ⟨q, hq⟩ := x
  simp only at hx
  subst hx
  rw [qL, dif_pos hq]
theorem qL_len (N : Nat) : ∀ m, m ≤ N → (qL N m).length = m
  | 0, _ => rfl
  | m + 1, h => by rw [qL_snoc N m ⟨m, h⟩ rfl, List.length_append, qL_len N m (by omega)]; rfl
theorem qL_all (N : Nat) (q : Qi N) : ∀ m, q.1 < m → q ∈ qL N m
  | m + 1, h => by
    rcases Nat.lt_or_ge q.1 m with g | g
    · rw [qL]
      exact List.mem_append.2 (.inl (qL_all N q m g))
    · rw [qL_snoc N m q (by omega)]
      exact List.mem_append.2 (.inr (by simp))
def encQ (h u : Nat) (x : Qi (h * u)) : Array Value := plEnc (pairAt h u x.1)
theorem encQ_at (h u k j : Nat) (h1 : 1 ≤ h) (hj : j < h) (x : Qi (h * u)) (hx : x.1 = h * k + j) : encQ h u x = #[.agg #[.int .i64 ((2 * h * k + j : Nat) : Int), .int .i64 ((2 * h * k + h + j : Nat) : Int), .int .i64 ((j * u : Nat) : Int)]] := by
  unfold encQ
  rw [hx, pairAt_in h u k j h1 hj]
  rfl

/-- These are all pairs, each once, in order. -/
def IsP (N : Nat) (ys : List (Qi N)) : Prop := ys = qL N N

theorem pairs_c (n h : Int) (w : World) :
    Calls Try.prog 43 #[.int .i64 n, .int .i64 h] w fun e w' => e = .returned (.func (.func 61) #[] #[.pointer (some ⟨w.heap.size, 0, none⟩), .pointer (some ⟨w.heap.size + 1, 0, none⟩)]) ∧ w' = (w.alloc (.cells #[.int .i64 n] 3)).alloc (.cells #[.int .i64 h] 3) := by
  go_enter Try.func43, Try.ntmps43
  go_wp2_with fail
  go_ret
  exact ⟨by simp, rfl⟩

theorem two_nums (N h u k j : Nat) (hN : N = 2 * h * u) (hk : k < u) (hj : j < h) (hN64 : N ≤ 64) : h * k + j < h * u ∧ h * u ≤ 32 ∧ 2 * h * k + j ≤ 64 ∧ 2 * h * k + h + j ≤ 64 ∧ j * u ≤ 64 ∧ 2 * h * k ≤ 64 ∧ k ≤ 64 ∧ h ≤ 64 := by
  have h1 : h * (k + 1) ≤ h * u := Nat.mul_le_mul_left _ hk
  have h2 : 2 * h * (k + 1) ≤ 2 * h * u := Nat.mul_le_mul_left _ hk
  have h3 : j * u ≤ h * u := Nat.mul_le_mul_right _ (by omega)
  have h4 : 1 * u ≤ h * u := Nat.mul_le_mul_right _ (by omega)
  rw [Nat.mul_succ] at h1 h2
  rw [Nat.mul_assoc 2 h u] at hN h2
  have h5 : h * 1 ≤ h * u := Nat.mul_le_mul_left _ (by omega)
  rw [Nat.mul_assoc 2 h k] at *
  generalize h * u = p at *
  generalize h * k = q at *
  generalize j * u = r at *
  omega

theorem wr_add (a b : Nat) (h : a + b ≤ 64) : wrap64 ((a : Int) + (b : Int)) = ((a + b : Nat) : Int) := by rw [IntWalk.wrap64_in _ ⟨by omega, by omega⟩]; omega
theorem wr_mul (a b : Nat) (h : a * b ≤ 64) : wrap64 ((a : Int) * (b : Int)) = ((a * b : Nat) : Int) := by
  have : (a : Int) * (b : Int) = ((a * b : Nat) : Int) := by simp
  rw [this]
  exact IntWalk.wrap64_in _ ⟨by omega, by omega⟩

set_option maxRecDepth 100000 in set_option maxHeartbeats 4000000 in
/-- The iterator: a round for each pair, in order. -/
theorem pairs1_in (n : Nat) (hn : 1 ≤ n) (l Bn Bh N h u : Nat) (hN : N = 2 * h * u) (h1 : 1 ≤ h) (hu : 1 ≤ u) (hN64 : N ≤ 64) (J Jx : List (Qi (h * u)) → World → Prop) (W0 : World) (hJ : AbidesFrom W0.heap.size J)
    (hY : ∀ pre x W, J pre W → pre.length < 32 → YieldAt Fence.wide (n - 1) Try.prog l (encQ h u x) W fun e W' =>
      (e = .returned (.bool true) ∧ J (pre ++ [x]) W' ∧ (W'.heap[Bn]? = W.heap[Bn]? ∧ W'.heap[Bh]? = W.heap[Bh]?)) ∨ (e = .returned (.bool false) ∧ Jx (pre ++ [x]) W'))
    (W : World) (hBn : Boxed W Bn 3 (.int .i64 N)) (hBh : Boxed W Bh 3 (.int .i64 h)) (h0 : J [] W) :
    CallsIn Fence.wide n Try.prog 61 #[.func (.yield l) #[] #[], .pointer (some ⟨Bn, 0, none⟩), .pointer (some ⟨Bh, 0, none⟩)] W fun e W' => (∃ v, e = .returned v) ∧
      ((∃ ys, IsP (h * u) ys ∧ J ys W') ∨ (∃ pre, True ∧ Jx pre W')) := by
  have hc := hBn.cell
  have hc2 := hBh.cell
  have hh64 : 2 * h ≤ 64 := by
    have : 2 * h * 1 ≤ 2 * h * u := Nat.mul_le_mul_left _ hu
    omega
  have hu64 : u ≤ 64 := by
    have : 1 * u ≤ 2 * h * u := Nat.mul_le_mul_right _ (by omega)
    omega
  have hdz : ¬ ((2 * h : Nat) : Int) = 0 := by omega
  have hdv : (N : Int) / ((2 * h : Nat) : Int) = (u : Int) := by
    rw [hN]
    have : ((2 * h * u : Nat) : Int) = ((2 * h : Nat) : Int) * (u : Int) := by simp
    rw [this]
    exact Int.mul_ediv_cancel_left _ hdz
  have h2i : 2 * (h : Int) = ((2 * h : Nat) : Int) := by omega
  have HNN := Lib.hid fun k j hk hj => two_nums N h u k j hN hk hj hN64
  have HPA := Lib.hid fun k j hj => encQ_at h u k j h1 hj
  have HQL := Lib.hid (fun m => qL_len (h * u) m)
  have HNE := Lib.hid hN
  clear hN
  generalize h2 : 2 * h = d at *
  refine callsIn_of_wp Try.func61 rfl trivial ?_ rfl
  simp only [Try.ntmps61, List.size_toArray, List.length_cons, List.length_nil, Nat.reduceAdd, Nat.reduceSub, Array.replicate_succ, Array.replicate_zero, List.push_toArray, List.append_toArray, List.nil_append, List.cons_append]
  gi_wp2_with fail
  clear hdv hdz
  gi_loopw [13] (fun k wr => ∃ b : Nat, b ≤ u ∧ k = .int .i64 b ∧ Boxed wr Bn 3 (.int .i64 N) ∧ Boxed wr Bh 3 (.int .i64 h) ∧ J (qL (h * u) (h * b)) wr) (fun k _ => u - (intOf k).toNat)
  case atStart => exact ⟨0, by omega, rfl, hBn, hBh, h0⟩
  case round =>
    clear hc hc2 h0 hBn hBh
    obtain ⟨b, hb, rfl, hBn, hBh, hJs⟩ := hrel
    by_cases hlt : b < u
    · have hc2 := hBh.cell
      have hlt' : (b : Int) < u := by omega
      have hbn := HNN.out b 0 hlt (by omega)
      have hwf := wr_mul d b hbn.2.2.2.2.2.1
      have HBB := Lib.hid hbn
      clear hbn
      generalize hf : d * b = f at *
      gi_wp2_with fail
      simp only [hwf]
      clear hc2 hwf
      gi_loopw [21] (fun j wr2 => ∃ jn : Nat, jn ≤ h ∧ j = .int .i64 jn ∧ Boxed wr2 Bn 3 (.int .i64 N) ∧ Boxed wr2 Bh 3 (.int .i64 h) ∧ J (qL (h * u) (h * b + jn)) wr2) (fun j _ => h - (intOf j).toNat)
      case atStart => exact ⟨0, by omega, rfl, hBn, hBh, hJs⟩
      case round =>
        clear hJs hBn hBh
        obtain ⟨j, hj, rfl, hBn, hBh, hJs⟩ := hrel
        by_cases hjl : j < h
        · have hc2 := hBh.cell
          have hjl' : (j : Int) < h := by omega
          obtain ⟨n1, n2, n3, n4, n5, n6, n7, n8⟩ := HNN.out b j hlt hjl
          obtain ⟨x, hx⟩ : ∃ x : Qi (h * u), x.1 = h * b + j := ⟨⟨_, n1⟩, rfl⟩
          have hpa := HPA.out b j hjl x hx
          rw [hf] at n3 n4 n6 hpa
          have hwa := wr_add f j n3
          have hwm := wr_add f h (Nat.le_trans (Nat.le_add_right _ _) n4)
          have hwb := wr_add (f + h) j n4
          have hwr := wr_mul j u n5
          obtain ⟨fn, tmps, assign, body, hy, hR⟩ := hY _ x wr hJs (by rw [HQL.out _ (Nat.le_of_lt n1)]; exact Nat.lt_of_lt_of_le n1 n2)
          rw [hpa] at hy
          have HS := Lib.hid (qL_snoc (h * u) (h * b + j) x hx)
          clear hpa hx
          generalize f + h = m at *
          generalize f + j = fa at *
          generalize m + j = fb at *
          generalize j * u = fr at *
          have hj64 : j ≤ 64 := Nat.le_trans (Nat.le_of_lt hjl) n8
          clear n1 n2 n3 n4 n5 n6 n7 n8 hh64 hu64 hN64 h2 h2i hf
          gi_wp2_with fail
          refine hR.mono ?_
          clear hy hR
          rintro e W3 (⟨rfl, hJ3, hk3, hk4⟩ | ⟨rfl, hJx3⟩)
          · have hBn3 : Boxed W3 Bn 3 (.int .i64 N) := hk3.trans hBn
            have hBh3 : Boxed W3 Bh 3 (.int .i64 h) := hk4.trans hBh
            clear hc2 hJs hk3 hk4 hBn hBh
            have hc3 := hBh3.cell
            gi_wp2_with fail
            go_roundw
            case rel =>
              refine ⟨j + 1, by omega, by go_num, hBn3, hBh3, ?_⟩
              rw [show h * b + (j + 1) = h * b + j + 1 by omega, HS.out]
              exact hJ3
            case measure => simp [intOf]; omega
          · gi_wp2
            refine bodyPost_ret (results_none rfl _ _ _) rfl ?_
            exact ⟨⟨_, rfl⟩, .inr ⟨_, trivial, hJx3⟩⟩
        · obtain rfl : j = h := by omega
          gi_wp2_with fail
          go_roundw
          case rel =>
            first
              | exact ⟨b + 1, by omega, by go_num, hBn, hBh, by rw [Nat.mul_succ]; exact hJs⟩
              | ((repeat apply Exists.intro); refine ⟨?_, rfl⟩; exact ⟨b + 1, by omega, by go_num, hBn, hBh, by rw [Nat.mul_succ]; exact hJs⟩)
          case measure => simp [intOf]; omega
    · obtain rfl : b = u := by omega
      gi_wp2_with fail
      go_end0
      exact ⟨⟨_, rfl⟩, .inl ⟨_, rfl, hJs⟩⟩

theorem pairs_stops (n : Nat) (hn : 1 ≤ n) (Bn Bh N h u : Nat) (hN : N = 2 * h * u) (h1 : 1 ≤ h) (hu : 1 ≤ u) (hN64 : N ≤ 64) (w : World) (hb : Boxed w Bn 3 (.int .i64 N)) (hh : Boxed w Bh 3 (.int .i64 h)) :
    SeqStopsK Fence.wide n Try.prog 61 #[.pointer (some ⟨Bn, 0, none⟩), .pointer (some ⟨Bh, 0, none⟩)] (encQ h u) (fun A B => B.heap[Bn]? = A.heap[Bn]? ∧ B.heap[Bh]? = A.heap[Bh]?) (IsP (h * u)) (fun _ => True) 32 w := fun l J Jx W hW hJ _ hY h0 =>
  pairs1_in n hn l Bn Bh N h u hN h1 hu hN64 J Jx W hJ hY W ((hW.block Bn hb.lt).trans hb) ((hW.block Bh hh.lt).trans hh) h0

end Go.Proofs.Ytomjldaonpjloaa
