/- An array of four complex numbers by value, opened and shut. -/
import Derived.Test.YtomjldaonpjloaaCxs
import Derived.Lib.SmallJoins
namespace Go.Proofs.Ytomjldaonpjloaa
open Go.ChangeShapes Go.WideShapes Go.ChangeAt Go.RowKit Go.Joins
set_option linter.unusedVariables false
set_option maxRecDepth 100000

theorem array8 {α : Type} {cs : Array α} (h : cs.size = 8) : ∃ c0 c1 c2 c3 c4 c5 c6 c7, cs = #[c0, c1, c2, c3, c4, c5, c6, c7] := by
  obtain ⟨l⟩ := cs
  match l, h with
  | [c0, c1, c2, c3, c4, c5, c6, c7], _ => exact ⟨c0, c1, c2, c3, c4, c5, c6, c7, rfl⟩

set_option maxRecDepth 100000 in
theorem trod_arr4 {H : Type} {enc : TypeId × Value → H} {w : World} {base : Nat} {spare : Nat → Bool} {held : Bool} {fuel : Nat} {c0 c1 c2 c3 c4 c5 c6 c7 : Value} {x : DataW H × List MemPlace}
    (h : DataW.trod enc Try.prog w base spare held fuel 40 [c0, c1, c2, c3, c4, c5, c6, c7] = some x) :
    ∃ y0 y1 y2 y3 n, x = (.agg [y0.1, y1.1, y2.1, y3.1], y0.2 ++ (y1.2 ++ (y2.2 ++ y3.2))) ∧ DataW.trod enc Try.prog w base spare held n 39 [c0, c1] = some y0 ∧ DataW.trod enc Try.prog w base spare held n 39 [c2, c3] = some y1 ∧ DataW.trod enc Try.prog w base spare held n 39 [c4, c5] = some y2 ∧ DataW.trod enc Try.prog w base spare held n 39 [c6, c7] = some y3 := by
  have ht := Try.underlying40
  have hce : Try.prog.cellsOf 39 = 2 := by kernel_rfl
  cases fuel with
  | zero => simp [DataW.trod] at h
  | succ n =>
    unfold DataW.trod at h
    rw [ht] at h
    have r4 : List.range 4 = [0, 1, 2, 3] := rfl
    simp [r4, hce] at h
    obtain ⟨_, h⟩ := h
    cases h0 : DataW.trod enc Try.prog w base spare held n 39 [c0, c1] with
    | none => simp [h0] at h
    | some y0 =>
      cases h1 : DataW.trod enc Try.prog w base spare held n 39 [c2, c3] with
      | none => simp [h0, h1] at h
      | some y1 =>
        cases h2 : DataW.trod enc Try.prog w base spare held n 39 [c4, c5] with
        | none => simp [h0, h1, h2] at h
        | some y2 =>
          cases h3 : DataW.trod enc Try.prog w base spare held n 39 [c6, c7] with
          | none => simp [h0, h1, h2, h3] at h
          | some y3 =>
            simp [h0, h1, h2, h3] at h
            exact ⟨y0, y1, y2, y3, n, h.symm, h0, h1, h2, h3⟩

set_option maxRecDepth 100000 in
theorem cellsCx : Try.prog.cellsOf 39 = 2 := by kernel_rfl

set_option maxRecDepth 100000 in
/-- One complex number's reading. -/
theorem trod_cx {H : Type} {enc : TypeId × Value → H} {w : World} {base : Nat} {spare : Nat → Bool} {held : Bool} {fuel : Nat} {c0 c1 : Value} {x : DataW H × List MemPlace}
    (h : DataW.trod enc Try.prog w base spare held fuel 39 [c0, c1] = some x) :
    ∃ g : Gi, c0 = .int .i64 g.re ∧ c1 = .int .i64 g.im ∧ x = (.agg [.lit (.int .i64 g.re), .lit (.int .i64 g.im)], []) ∧ (Lit.int .i64 g.re).wf = true ∧ (Lit.int .i64 g.im).wf = true := by
  obtain ⟨y0, y1, n, hx, _, h0, h1⟩ := trod_struct2 Try.underlying39 h
  have k : Try.prog.cellsOf 3 = 1 := by kernel_rfl
  simp [k] at h0 h1
  obtain ⟨x0, e0, rfl, w0⟩ := DataW.trod_int Try.underlying3 h0
  obtain ⟨x1, e1, rfl, w1⟩ := DataW.trod_int Try.underlying3 h1
  simp at e0 e1
  exact ⟨⟨x0, x1⟩, e0, e1, hx, w0, w1⟩

set_option maxRecDepth 100000 in
theorem trod_cx_mk {H : Type} {enc : TypeId × Value → H} {w : World} {base : Nat} {spare : Nat → Bool} {held : Bool} (x y : Int) (wx : (Lit.int .i64 x).wf = true) (wy : (Lit.int .i64 y).wf = true) (n : Nat) :
    DataW.trod enc Try.prog w base spare held (n + 2) 39 [.int .i64 x, .int .i64 y] = some (.agg [.lit (.int .i64 x), .lit (.int .i64 y)], []) := by
  have k : Try.prog.cellsOf 3 = 1 := by kernel_rfl
  exact trod_struct2_mk (enc := enc) (w := w) (base := base) (spare := spare) (held := held) (n := n + 1) (cs := [.int .i64 x, .int .i64 y]) (y0 := (.lit (.int .i64 x), [])) (y1 := (.lit (.int .i64 y), [])) Try.underlying39 (by simp [cellsCx])
    (by simp [k, DataW.trod, Try.underlying3, wx]) (by simp [k, DataW.trod, Try.underlying3, wy])

set_option maxRecDepth 100000 in
theorem arr4_open {H : Type} {enc : TypeId × Value → H} {W : World} {r : Reach} {b0 : Nat} {v : Value} {d : DataW H} {p : List MemPlace} (hv : Value.okWide Try.prog W r b0 40 v) (h : DataW.Trod enc Try.prog W 0 (fun _ => true) true 40 v d p) :
    ∃ x0 y0 x1 y1 x2 y2 x3 y3 : Int, v = .agg #[.int .i64 x0, .int .i64 y0, .int .i64 x1, .int .i64 y1, .int .i64 x2, .int .i64 y2, .int .i64 x3, .int .i64 y3] ∧ p = [] ∧
      (∀ (W' : World) (sp : Nat → Bool), DataW.Trod enc Try.prog W' 0 sp true 40 v d []) ∧ ((Lit.int .i64 x0).wf = true ∧ (Lit.int .i64 y0).wf = true) ∧ ((Lit.int .i64 x1).wf = true ∧ (Lit.int .i64 y1).wf = true) ∧ ((Lit.int .i64 x2).wf = true ∧ (Lit.int .i64 y2).wf = true) ∧ ((Lit.int .i64 x3).wf = true ∧ (Lit.int .i64 y3).wf = true) := by
  have hcC : Try.prog.cellsOf 40 = 8 := by kernel_rfl
  obtain ⟨cs, rfl, hsz, _⟩ : ∃ cs, v = .agg cs ∧ cs.size = Try.prog.cellsOf 40 ∧ Row.okWide Try.prog W r b0 40 cs := by
    simpa [Value.okWide, Try.underlying40] using hv
  rw [hcC] at hsz
  obtain ⟨c0, c1, c2, c3, c4, c5, c6, c7, rfl⟩ := array8 hsz
  obtain ⟨fuel, hf⟩ := h
  obtain ⟨y0, y1, y2, y3, n, hx, h0, h1, h2, h3⟩ := trod_arr4 (by simpa [Value.cells] using hf)
  obtain ⟨g0, rfl, rfl, rfl, w0, k0⟩ := trod_cx h0
  obtain ⟨g1, rfl, rfl, rfl, w1, k1⟩ := trod_cx h1
  obtain ⟨g2, rfl, rfl, rfl, w2, k2⟩ := trod_cx h2
  obtain ⟨g3, rfl, rfl, rfl, w3, k3⟩ := trod_cx h3
  simp only [Prod.mk.injEq] at hx
  obtain ⟨rfl, hp⟩ := hx
  refine ⟨g0.re, g0.im, g1.re, g1.im, g2.re, g2.im, g3.re, g3.im, rfl, by simpa using hp, fun W' sp => ⟨3, ?_⟩, ⟨w0, k0⟩, ⟨w1, k1⟩, ⟨w2, k2⟩, ⟨w3, k3⟩⟩
  have m0 := fun n => trod_cx_mk (enc := enc) (w := W') (base := 0) (spare := sp) (held := true) g0.re g0.im w0 k0 n
  have m1 := fun n => trod_cx_mk (enc := enc) (w := W') (base := 0) (spare := sp) (held := true) g1.re g1.im w1 k1 n
  have m2 := fun n => trod_cx_mk (enc := enc) (w := W') (base := 0) (spare := sp) (held := true) g2.re g2.im w2 k2 n
  have m3 := fun n => trod_cx_mk (enc := enc) (w := W') (base := 0) (spare := sp) (held := true) g3.re g3.im w3 k3 n
  have r4 : List.range 4 = [0, 1, 2, 3] := rfl
  have e0 := m0 0
  have e1 := m1 0
  have e2 := m2 0
  have e3 := m3 0
  simp only [Nat.zero_add] at e0 e1 e2 e3
  unfold DataW.trod
  rw [Try.underlying40]
  simp [r4, cellsCx, hcC, Value.cells, e0, e1, e2, e3]

end Go.Proofs.Ytomjldaonpjloaa
