/- A plan by value, opened and shut. -/
import Derived.Test.YtmjghakodgihiaaCxs
import Derived.Lib.SmallJoins
namespace Go.Proofs.Ytmjghakodgihiaa
open Go.ChangeShapes Go.WideShapes Go.ChangeAt Go.RowKit Go.Joins
set_option linter.unusedVariables false
set_option linter.unusedSimpArgs false
set_option maxRecDepth 100000

theorem array6 {α : Type} {cs : Array α} (h : cs.size = 6) : ∃ c0 c1 c2 c3 c4 c5, cs = #[c0, c1, c2, c3, c4, c5] := by
  obtain ⟨l⟩ := cs
  match l, h with
  | [c0, c1, c2, c3, c4, c5], _ => exact ⟨c0, c1, c2, c3, c4, c5, rfl⟩

theorem cellsPlan : Try.prog.cellsOf 23 = 6 := by kernel_rfl

theorem plan_open {H : Type} {enc : TypeId × Value → H} {W : World} {r : Reach} {b0 : Nat} {v : Value} {d : DataW H} {p : List MemPlace} (hv : Value.okWide Try.prog W r b0 23 v) (h : DataW.Trod enc Try.prog W 0 (fun _ => true) true 23 v d p) :
    ∃ (fo lo ke sc mo : Int) (iv : Bool), v = .agg #[.int .i64 fo, .int .i64 lo, .int .i64 ke, .int .i64 sc, .int .i64 mo, .bool iv] ∧ p = [] ∧
      (∀ (W' : World) (sp : Nat → Bool), DataW.Trod enc Try.prog W' 0 sp true 23 v d []) ∧ ((Lit.int .i64 fo).wf = true ∧ (Lit.int .i64 lo).wf = true ∧ (Lit.int .i64 ke).wf = true ∧ (Lit.int .i64 sc).wf = true ∧ (Lit.int .i64 mo).wf = true) := by
  obtain ⟨cs, rfl, hsz⟩ := okWide_struct Try.underlying23 hv
  obtain ⟨c0, c1, c2, c3, c4, c5, rfl⟩ := array6 (hsz.trans cellsPlan)
  obtain ⟨fuel, hf⟩ := h
  obtain ⟨xs, n, _, hx, hl, hlen, hf⟩ := DataW.trod_struct Try.underlying23 hf
  have k : Try.prog.cellsOf 3 = 1 := by kernel_rfl
  have kb : Try.prog.cellsOf 4 = 1 := by kernel_rfl
  match xs, hlen with
  | [y0, y1, y2, y3, y4, y5], _ =>
    have h0 := hf 0 _ rfl
    have h1 := hf 1 _ rfl
    have h2 := hf 2 _ rfl
    have h3 := hf 3 _ rfl
    have h4 := hf 4 _ rfl
    have h5 := hf 5 _ rfl
    simp [k, kb, Value.cells] at h0 h1 h2 h3 h4 h5
    obtain ⟨x0, e0, rfl, w0⟩ := DataW.trod_int Try.underlying3 h0
    obtain ⟨x1, e1, rfl, w1⟩ := DataW.trod_int Try.underlying3 h1
    obtain ⟨x2, e2, rfl, w2⟩ := DataW.trod_int Try.underlying3 h2
    obtain ⟨x3, e3, rfl, w3⟩ := DataW.trod_int Try.underlying3 h3
    obtain ⟨x4, e4, rfl, w4⟩ := DataW.trod_int Try.underlying3 h4
    obtain ⟨x5, e5, rfl⟩ := DataW.trod_bool Try.underlying4 h5
    simp at e0 e1 e2 e3 e4 e5
    subst e0 e1 e2 e3 e4 e5
    simp only [Prod.mk.injEq] at hx
    obtain ⟨rfl, hp⟩ := hx
    refine ⟨x0, x1, x2, x3, x4, x5, rfl, by simpa using hp, fun W' sp => ⟨2, ?_⟩, w0, w1, w2, w3, w4⟩
    have := trod_struct_mk (enc := enc) (w := W') (base := 0) (spare := sp) (held := true) (n := 1) (cs := [.int .i64 x0, .int .i64 x1, .int .i64 x2, .int .i64 x3, .int .i64 x4, .bool x5]) (xs := [(.lit (.int .i64 x0), []), (.lit (.int .i64 x1), []), (.lit (.int .i64 x2), []), (.lit (.int .i64 x3), []), (.lit (.int .i64 x4), []), (.lit (.bool x5), [])]) Try.underlying23 (by simp [cellsPlan])
      (by simp [k, kb, DataW.trod, Try.underlying3, Try.underlying4, w0, w1, w2, w3, w4])
    simpa [Value.cells] using this

end Go.Proofs.Ytmjghakodgihiaa
