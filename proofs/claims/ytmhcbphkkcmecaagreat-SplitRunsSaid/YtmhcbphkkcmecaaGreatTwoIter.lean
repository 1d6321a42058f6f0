/- A region that draws its order inside a round of a range over a function: it goes as outside of one. · Package two: the iterator over a pass's pairs. -/
import Derived.Test.YtmhcbphkkcmecaaGreatFns
import Derived.Test.YtmhcbphkkcmecaaGreatTwoMath
import Derived.RangeFuncNested
import Derived.RangeFuncBound
import Derived.RangeFuncCalls
import Derived.RangeFuncLeaves
import Derived.Shelf.Abstract
import Derived.Shelf.RegionOpen
import Derived.OwnWalkIn
import Derived.TacticsInMore
import Derived.LoopNIn
import Derived.LoopIn
import Derived.Maps.AppendAt
import Derived.RangeFuncBox
import Derived.Sort.QuietIn
namespace Go.Proofs.YtmhcbphkkcmecaaGreat
open Go.ChangeShapes Go.WideShapes Go.ChangeAt Go.RowKit Go.Shelf
set_option linter.unusedVariables false
set_option maxRecDepth 100000

/-- No operation defers a call. -/
def noDefer (ops : Array Oper) : Bool := ops.all fun o => match o.op with | .defer _ => false | _ => true
theorem noDefer_spec {ops : Array Oper} (h : noDefer ops = true) {j : Nat} {o : Oper} (ho : ops[j]? = some o) : ∀ c, o.op ≠ .defer c := by
  intro c e
  obtain ⟨hj, rfl⟩ := Array.getElem?_eq_some_iff.1 ho
  have := Array.all_eq_true.1 h j hj
  rw [e] at this
  cases this

theorem rowsIn_round {l n : Nat} {P : Program} {row : String} {args : Array Value} {w : World} {R : Value → World → Prop} (h : Rows P row args w R) : RowsIn (Fence.wide.inRound l) n P row args w R := by
  intro c cs hr
  obtain ⟨v, w', hR, hs⟩ := h c cs
  exact ⟨v, w', hR, (stepsIn_wide.2 hs)⟩

theorem wpOpIn_of {l n : Nat} {P : Program} {ops : Array Oper} {Q : Exit → Act → World → Prop} {i : Nat} {K : Act → World → Prop} {a : Act} {w : World} (hQ : ¬ LetsOut Q) (hd : noDefer ops = true) (h : wpOp P ops Q i K a w) :
    wpOpIn (Fence.wide.inRound l) n P ops Q i K a w := by
  unfold wpOp at h
  unfold wpOpIn
  cases ho : ops[i]? with
  | none => simpa only [ho] using h
  | some o =>
    simp only [ho] at h ⊢
    by_cases hw : Region.wanted o (yielded ops a.tmps) = true
    · rw [if_pos hw] at h ⊢
      have h1 : o.wp P a w K Q := h.resolve_right (fun hh => hQ hh.2)
      refine ⟨fun _ _ => trivial, ?_⟩
      rw [Oper.semAt_eq _ _ _ (noDefer_spec hd ho)]
      unfold Oper.wp at h1
      generalize (execOp a.eval o).run P w = r at *
      cases r with
      | ok x w' =>
        cases x <;> simp only [Oper.upon, Oper.uponIn] at h1 ⊢
        case value => exact h1
        case skip => exact h1
        case defer => exact h1
        case enter f args => exact ⟨fun hh => (by cases hh), CallsIn.inRound l (callsIn_wide.2 (Calls.mono h1 (fun e w'' he => by cases e <;> exact he)))⟩
        case row row args => exact ⟨fun hh => (by cases hh), rowsIn_round h1⟩
      | halt x w' => cases x <;> simp only [Oper.upon, Oper.uponIn] at h1 ⊢ <;> exact h1
    · rw [if_neg hw] at h ⊢
      exact ⟨fun _ _ => trivial, h⟩

theorem wpAnyIn_of {l n : Nat} {P : Program} {md : Region.Mode} {ops : Array Oper} {Q : Exit → Act → World → Prop} (hQ : ¬ LetsOut Q) (hd : noDefer ops = true) :
    ∀ (fuel : Nat) (listed : Array Bool) (a : Act) (w : World), wpAny P md ops Q fuel listed a w → wpAnyIn (Fence.wide.inRound l) n P md ops Q fuel listed a w
  | 0, _, _, _, h => h
  | fuel + 1, _, _, _, h => ⟨h.1, fun i hi => wpOpIn_of hQ hd (wpOp_mono (fun a' w' => wpAnyIn_of hQ hd fuel _ a' w') (h.2 i hi))⟩

/-- Such a region, with what holds behind each of its operations. -/
theorem wpIn_region_held_round {l n : Nat} {P : Program} {ops : Array Oper} {Q : Exit → Act → World → Prop} {S : World → Prop} {id : Nat} {a : Act} {w : World} (hm : P.follows .mixedOrders = true) (hd : noDefer ops = true) (hQ : ¬ LetsOut Q) (hS : S w.drew)
    (h : S w.drew → wpAnyH P .any ops Q S ops.size (Array.replicate ops.size false) a w.drew) : (Code.region id ops true).wpIn (Fence.wide.inRound l) n P Q a w :=
  wpIn_region_any hm (wpAnyIn_of hQ hd _ _ _ _ (wpAny_of_held _ _ _ _ (h hS)))

end Go.Proofs.YtmhcbphkkcmecaaGreat

namespace Go.Proofs.YtmhcbphkkcmecaaGreat
open Go.ChangeShapes Go.WideShapes Go.ChangeAt Go.RowKit Go.Shelf
set_option linter.unusedVariables false
theorem wide_fn (f : FuncId) : Fence.wide.fn f = True := rfl
attribute [local go_sem] wide_fn Oper.semAt_some

/-- Where pair q lies, of halves h and u blocks: its two numbers and its root. -/
structure Pl where
  a : Nat
  b : Nat
  r : Nat
def pairAt (h u q : Nat) : Pl := ⟨2 * h * (q / h) + q % h, 2 * h * (q / h) + h + q % h, q % h * u⟩
def plEnc (p : Pl) : Array Value := #[.agg #[.int .i64 p.a, .int .i64 p.b, .int .i64 p.r]]
theorem pairAt_in (h u k j : Nat) (h1 : 1 ≤ h) (hj : j < h) : pairAt h u (h * k + j) = ⟨2 * h * k + j, 2 * h * k + h + j, j * u⟩ := by
  have e1 : (h * k + j) / h = k := by rw [Nat.mul_add_div (by omega), Nat.div_eq_of_lt hj, Nat.add_zero]
  have e2 : (h * k + j) % h = j := by rw [Nat.mul_add_mod, Nat.mod_eq_of_lt hj]
  unfold pairAt
  rw [e1, e2]

/-- The pairs' numbers, in order. -/
def Qi (N : Nat) : Type := { q : Nat // q < N }
def qL (N : Nat) : Nat → List (Qi N)
  | 0 => []
  | m + 1 => qL N m ++ (if hm : m < N then [⟨m, hm⟩] else [])
theorem qL_snoc (N m : Nat) (x : Qi N) (hx : x.1 = m) : qL N (m + 1) = qL N m ++ [x] := by
  obtain ⟨q, hq⟩ := x
  simp only at hx
  subst hx
  rw [qL, dif_pos hq]
theorem qL_len (N : Nat) : ∀ m, m ≤ N → (qL N m).length = m
  | 0, _ => rfl
  | m + 1, h => by rw [qL_snoc N m ⟨m, h⟩ rfl, List.length_append, qL_len N m (by omega)]; rfl
theorem qL_all (N : Nat) (q : Qi N) : ∀ m, q.1 < m → q ∈ qL N m
  | m + 1, h => by
    rcases Nat.lt_or_ge q.1 m with g | g
    · rw [qL]
      exact List.mem_append.2 (.inl (qL_all N q m g))
    · rw [qL_snoc N m q (by omega)]
      exact List.mem_append.2 (.inr (by simp))
def encQ (h u : Nat) (x : Qi (h * u)) : Array Value := plEnc (pairAt h u x.1)
theorem encQ_at (h u k j : Nat) (h1 : 1 ≤ h) (hj : j < h) (x : Qi (h * u)) (hx : x.1 = h * k + j) : encQ h u x = #[.agg #[.int .i64 ((2 * h * k + j : Nat) : Int), .int .i64 ((2 * h * k + h + j : Nat) : Int), .int .i64 ((j * u : Nat) : Int)]] := by
  unfold encQ
  rw [hx, pairAt_in h u k j h1 hj]
  rfl

/-- These are all pairs, each once, in order. -/
def IsP (N : Nat) (ys : List (Qi N)) : Prop := ys = qL N N

theorem two_nums (N h u k j : Nat) (hN : N = 2 * h * u) (hk : k < u) (hj : j < h) (hN64 : N ≤ 64) : h * k + j < h * u ∧ h * u ≤ 32 ∧ 2 * h * k + j ≤ 64 ∧ 2 * h * k + h + j ≤ 64 ∧ j * u ≤ 64 ∧ 2 * h * k ≤ 64 ∧ k ≤ 64 ∧ h ≤ 64 := by
  have h1 : h * (k + 1) ≤ h * u := Nat.mul_le_mul_left _ hk
  have h2 : 2 * h * (k + 1) ≤ 2 * h * u := Nat.mul_le_mul_left _ hk
  have h3 : j * u ≤ h * u := Nat.mul_le_mul_right _ (by omega)
  have h4 : 1 * u ≤ h * u := Nat.mul_le_mul_right _ (by omega)
  rw [Nat.mul_succ] at h1 h2
  rw [Nat.mul_assoc 2 h u] at hN h2
  have h5 : h * 1 ≤ h * u := Nat.mul_le_mul_left _ (by omega)
  rw [Nat.mul_assoc 2 h k] at *
  generalize h * u = p at *
  generalize h * k = q at *
  generalize j * u = r at *
  omega

theorem wr_add (a b : Nat) (h : a + b ≤ 64) : wrap64 ((a : Int) + (b : Int)) = ((a + b : Nat) : Int) := by rw [IntWalk.wrap64_in _ ⟨by omega, by omega⟩]; omega
theorem wr_mul (a b : Nat) (h : a * b ≤ 64) : wrap64 ((a : Int) * (b : Int)) = ((a * b : Nat) : Int) := by
  have : (a : Int) * (b : Int) = ((a * b : Nat) : Int) := by simp
  rw [this]
  exact IntWalk.wrap64_in _ ⟨by omega, by omega⟩

end Go.Proofs.YtmhcbphkkcmecaaGreat
