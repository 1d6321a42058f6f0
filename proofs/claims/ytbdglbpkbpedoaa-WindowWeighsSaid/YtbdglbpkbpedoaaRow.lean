/- A block that holds a row of complex numbers, as a function of the place; what stores into it, by number or whole, leave; the world behind writes into one block alone. -/
import Derived.Test.YtbdglbpkbpedoaaCxs
import Derived.Laws.Rows
import Derived.Laws.Tables
namespace Go.Proofs.Ytbdglbpkbpedoaa
open Go.ChangeShapes Go.WideShapes Go.ChangeAt Go.RowKit
set_option linter.unusedVariables false
set_option maxRecDepth 100000

/-- All blocks but one are as they were; there may be new ones. -/
structure GB (B : Nat) (V W : World) : Prop where
  out : V.grownBy W (some B)
theorem GB.refl (B : Nat) (V : World) : GB B V V := ⟨⟨rfl, rfl, rfl, Nat.le_refl _, fun _ _ _ => rfl⟩⟩
theorem GB.size {B : Nat} {V W : World} (h : GB B V W) : V.heap.size ≤ W.heap.size := h.out.size
theorem GB.same {B : Nat} {V W : World} (h : GB B V W) (k : Nat) (hk : k < V.heap.size) (hb : k ≠ B) : W.heap[k]? = V.heap[k]? := h.out.block k hk (fun e => hb (Option.some.inj e))
theorem GB.trans {B : Nat} {U V W : World} (h : GB B U V) (g : GB B V W) : GB B U W :=
  ⟨⟨g.out.os.trans h.out.os, g.out.tape.trans h.out.tape, g.out.output.trans h.out.output, Nat.le_trans h.size g.size, fun k hk hb => (g.out.block k (Nat.lt_of_lt_of_le hk h.size) hb).trans (h.out.block k hk hb)⟩⟩
theorem GB.of {B : Nat} {V W : World} (g : Gr V W) : GB B V W := ⟨⟨g.out.os, g.out.tape, g.out.output, g.size, fun k hk _ => g.block hk⟩⟩
theorem GB.gr {B : Nat} {U V W : World} (h : GB B U V) (g : Gr V W) : GB B U W := h.trans (GB.of g)
theorem GB.drew {B : Nat} {U V : World} (h : GB B U V) : GB B U V.drew := h.gr (Gr.refl _).drew
theorem GB.alloc {B : Nat} {U V : World} (h : GB B U V) (c : Array Value) (t : TypeId) : GB B U (V.alloc (.cells c t)) := h.gr ((Gr.refl _).alloc c t)
theorem GB.set {B : Nat} {U V : World} (h : GB B U V) (j : Nat) (v : Value) : GB B U (V.setCell ⟨B, j, none⟩ v) :=
  h.trans ⟨⟨rfl, rfl, rfl, (KeepsWalks.setCell V _ v).size, fun k hk hb => Below.heap_setCell _ _ _ k (fun e => hb (congrArg some e))⟩⟩
theorem GB.setRow {B : Nat} {U V : World} (h : GB B U V) (c : Array Value) : GB B U (V.setRow B c) :=
  h.trans ⟨⟨rfl, rfl, rfl, by simp, fun k hk hb => setRow_other _ _ _ _ (fun e => hb (congrArg some e))⟩⟩
/-- A store into a block that was not there at first. -/
theorem GB.setNew {B : Nat} {U V : World} (h : GB B U V) {a : Addr} (ha : U.heap.size ≤ a.block) (v : Value) : GB B U (V.setCell a v) :=
  ⟨⟨h.out.os, h.out.tape, h.out.output, Nat.le_trans h.size (KeepsWalks.setCell V _ v).size, fun k hk hb => (Below.heap_setCell _ _ _ k (by omega)).trans (h.out.block k hk hb)⟩⟩
theorem GB.setRowNew {B : Nat} {U V : World} (h : GB B U V) {b : Nat} (ha : U.heap.size ≤ b) (c : Array Value) : GB B U (V.setRow b c) :=
  ⟨⟨h.out.os, h.out.tape, h.out.output, by simpa using h.size, fun k hk hb => (setRow_other _ _ _ _ (by omega)).trans (h.out.block k hk hb)⟩⟩
theorem GB.cell {B : Nat} {V W : World} (h : GB B V W) {p : Addr} (hp : p.block < V.heap.size) (hb : p.block ≠ B) : W.cell? p = V.cell? p := by
  unfold World.cell?
  rw [h.same _ hp hb]
theorem GB.cellsAt {B : Nat} {V W : World} (h : GB B V W) {b : Nat} {t : TypeId} {c : Array Value} (hc : CellsAt V b t c) (hb : b ≠ B) : CellsAt W b t c := (h.same b hc.lt hb).trans hc
/-- Where the one block is a new one, the world has at most new blocks. -/
theorem GB.new {B : Nat} {U V W : World} (h : GB B V W) (g : Gr U V) (hB : U.heap.size ≤ B) : Gr U W := g.grown h.out (fun k e => by cases e; exact hB)
theorem GB.cxs {B : Nat} {V W : World} (h : GB B V W) {b o n c : Nat} {xs : List Gi} (hc : CxsAt V (.slice (some ⟨b, o, none⟩) n c) xs) (hb : b ≠ B) : CxsAt W (.slice (some ⟨b, o, none⟩) n c) xs := by
  obtain ⟨p, cap, hv, hl, hm, hc⟩ := hc
  refine ⟨p, cap, hv, hl, hm, fun hx => ?_⟩
  obtain ⟨b', o', hp, hbb, hc⟩ := hc hx
  have hne : b' ≠ B := by
    rw [hp] at hv
    cases hv
    exact hb
  exact ⟨b', o', hp, Nat.lt_of_lt_of_le hbb h.size, fun j x hj => ⟨(h.cell (p := ⟨b', o' + j * 2, none⟩) hbb hne).trans (hc j x hj).1, (h.cell (p := ⟨b', o' + j * 2 + 1, none⟩) hbb hne).trans (hc j x hj).2⟩⟩

theorem CellsAt.setRow {W : World} {B : Nat} {t : TypeId} {c : Array Value} (h : CellsAt W B t c) (c' : Array Value) : CellsAt (W.setRow B c') B t c' := setRow_heap W B c c' t (0, 0) h
theorem CellsAt.otherRow {W : World} {B B' : Nat} {t : TypeId} {c : Array Value} (h : CellsAt W B t c) (hne : B ≠ B') (c' : Array Value) : CellsAt (W.setRow B' c') B t c := (setRow_other W B' B c' hne).trans h
theorem Gr.setRow {W w' : World} (h : Gr W w') {B : Nat} (hB : W.heap.size ≤ B) (c' : Array Value) : Gr W (w'.setRow B c') := ⟨h.out.trans ⟨rfl, rfl, rfl, by simp, fun k hk => setRow_other _ _ _ _ (by omega)⟩⟩

theorem CellsAt.set2 {W : World} {B : Nat} {t : TypeId} {a0 a1 : Value} (h : CellsAt W B t #[a0, a1]) (v0 v1 : Value) : CellsAt ((W.setCell ⟨B, 0, none⟩ v0).setCell ⟨B, 1, none⟩ v1) B t #[v0, v1] := by
  have := ((h.set 0 v0).set 1 v1)
  simpa using this
theorem CellsAt.set8 {W : World} {B : Nat} {t : TypeId} {a0 a1 a2 a3 a4 a5 a6 a7 : Value} (h : CellsAt W B t #[a0, a1, a2, a3, a4, a5, a6, a7]) (v0 v1 v2 v3 v4 v5 v6 v7 : Value) : CellsAt ((((((((W.setCell ⟨B, 0, none⟩ v0).setCell ⟨B, 1, none⟩ v1).setCell ⟨B, 2, none⟩ v2).setCell ⟨B, 3, none⟩ v3).setCell ⟨B, 4, none⟩ v4).setCell ⟨B, 5, none⟩ v5).setCell ⟨B, 6, none⟩ v6).setCell ⟨B, 7, none⟩ v7) B t #[v0, v1, v2, v3, v4, v5, v6, v7] := by
  have := ((((((((h.set 0 v0).set 1 v1).set 2 v2).set 3 v3).set 4 v4).set 5 v5).set 6 v6).set 7 v7)
  simpa using this

/-- Block B holds n complex numbers. -/
def RowAt (W : World) (B : Nat) (t : TypeId) (n : Nat) (f : Nat → Gi) : Prop := ∃ c, CellsAt W B t c ∧ c.size = n * 2 ∧ ∀ j, j < n → c[j * 2]? = some (.int .i64 (f j).re) ∧ c[j * 2 + 1]? = some (.int .i64 (f j).im)
theorem RowAt.lt {W : World} {B n : Nat} {t : TypeId} {f : Nat → Gi} (h : RowAt W B t n f) : B < W.heap.size := by obtain ⟨c, h, _⟩ := h; exact h.lt
theorem RowAt.gr {W W' : World} {B n : Nat} {t : TypeId} {f : Nat → Gi} (h : RowAt W B t n f) (g : Gr W W') : RowAt W' B t n f := by obtain ⟨c, h, k⟩ := h; exact ⟨c, h.gr g, k⟩
theorem RowAt.gb {W W' : World} {B B' n : Nat} {t : TypeId} {f : Nat → Gi} (h : RowAt W B t n f) (g : GB B' W W') (hb : B ≠ B') : RowAt W' B t n f := by obtain ⟨c, h, k⟩ := h; exact ⟨c, g.cellsAt h hb, k⟩
theorem RowAt.drew {W : World} {B n : Nat} {t : TypeId} {f : Nat → Gi} (h : RowAt W B t n f) : RowAt W.drew B t n f := h
theorem RowAt.alloc {W : World} {B n : Nat} {t : TypeId} {f : Nat → Gi} (h : RowAt W B t n f) (o : Obj) : RowAt (W.alloc o) B t n f := by obtain ⟨c, h, k⟩ := h; exact ⟨c, h.alloc o, k⟩
theorem RowAt.cells {W : World} {B n : Nat} {t : TypeId} {f : Nat → Gi} (h : RowAt W B t n f) (j : Nat) (hj : j < n) : W.cell? ⟨B, j * 2, none⟩ = some (.int .i64 (f j).re) ∧ W.cell? ⟨B, j * 2 + 1, none⟩ = some (.int .i64 (f j).im) := by
  obtain ⟨c, h, _, k⟩ := h
  exact ⟨(h.cell _).trans (k j hj).1, (h.cell _).trans (k j hj).2⟩
theorem RowAt.marks {W : World} {B n : Nat} {t : TypeId} {f : Nat → Gi} (h : RowAt W B t n f) (j : Nat) : W.frozen? ⟨B, j, none⟩ = false := by
  obtain ⟨c, h, _, k⟩ := h
  exact h.frozen j
theorem RowAt.eq {W : World} {B n : Nat} {t : TypeId} {f g : Nat → Gi} (h : RowAt W B t n f) (e : ∀ j, j < n → f j = g j) : RowAt W B t n g := by
  obtain ⟨c, h, hs, k⟩ := h
  exact ⟨c, h, hs, fun j hj => by rw [← e j hj]; exact k j hj⟩
theorem RowAt.set {W : World} {B n : Nat} {t : TypeId} {f : Nat → Gi} (h : RowAt W B t n f) (k : Nat) (hk : k < n) (g : Gi) :
    RowAt ((W.setCell ⟨B, k * 2, none⟩ (.int .i64 g.re)).setCell ⟨B, k * 2 + 1, none⟩ (.int .i64 g.im)) B t n (fun j => if j = k then g else f j) := by
  obtain ⟨c, h, hs, hc⟩ := h
  refine ⟨_, (h.set (k * 2) _).set (k * 2 + 1) _, by simpa using hs, fun j hj => ?_⟩
  have := hc j hj
  by_cases e : j = k
  · subst e
    simp only [if_true]
    refine ⟨?_, ?_⟩
    · rw [Array.getElem?_setIfInBounds_ne (by omega), Array.getElem?_setIfInBounds_self_of_lt (by omega)]
    · rw [Array.getElem?_setIfInBounds_self_of_lt (by simp; omega)]
  · simp only [if_neg e]
    rw [Array.getElem?_setIfInBounds_ne (by omega), Array.getElem?_setIfInBounds_ne (by omega), Array.getElem?_setIfInBounds_ne (by omega), Array.getElem?_setIfInBounds_ne (by omega)]
    exact this
theorem RowAt.other {W : World} {B B' n : Nat} {t : TypeId} {f : Nat → Gi} (h : RowAt W B t n f) (hne : B ≠ B') (j k : Nat) (v u : Value) : RowAt ((W.setCell ⟨B', j, none⟩ v).setCell ⟨B', k, none⟩ u) B t n f := by
  obtain ⟨c, h, k⟩ := h
  exact ⟨c, (h.other hne _ _).other hne _ _, k⟩
theorem RowAt.otherRow {W : World} {B B' n : Nat} {t : TypeId} {f : Nat → Gi} (h : RowAt W B t n f) (hne : B ≠ B') (c' : Array Value) : RowAt (W.setRow B' c') B t n f := by
  obtain ⟨c, h, k⟩ := h
  exact ⟨c, h.otherRow hne _, k⟩
/-- A slice of such a block. -/
theorem RowAt.cxs {W : World} {B n : Nat} {t : TypeId} {f : Nat → Gi} (h : RowAt W B t n f) (F m cap : Nat) (hF : F + m ≤ n) (hc : m ≤ cap) (hm : cap ≤ maxLen) : CxsAt W (.slice (some ⟨B, F * 2, none⟩) m cap) ((List.range m).map (fun i => f (F + i))) := by
  refine ⟨some ⟨B, F * 2, none⟩, cap, by simp, by simpa using hc, hm, fun _ => ⟨B, F * 2, rfl, h.lt, fun j x hj => ?_⟩⟩
  have hjm : j < m := by
    have := (List.getElem?_eq_some_iff.1 hj).1
    simpa using this
  rw [List.getElem?_map, List.getElem?_range hjm] at hj
  obtain rfl := Option.some.inj hj
  have := h.cells (F + j) (by omega)
  rw [Nat.add_mul] at this
  exact this
/-- The first k are done. -/
def upto (T f : Nat → Gi) (k j : Nat) : Gi := if j < k then T j else f j
theorem upto_next (T f : Nat → Gi) (k j : Nat) : (if j = k then T k else upto T f k j) = upto T f (k + 1) j := by
  unfold upto
  by_cases e : j = k
  · subst e; simp
  · by_cases h : j < k
    · simp [e, h, show j < k + 1 by omega]
    · simp [e, h, show ¬ j < k + 1 by omega]
theorem upto_all (T f : Nat → Gi) (n j : Nat) (h : j < n) : upto T f n j = T j := by unfold upto; rw [if_pos h]
theorem upto_none (T f : Nat → Gi) (j : Nat) : upto T f 0 j = f j := by simp [upto]
theorem upto_at (T f : Nat → Gi) (k : Nat) : upto T f k k = f k := by simp [upto]

theorem wadd (a b : Nat) (h : a + b ≤ 1000000) : wrap64 ((a : Int) + (b : Int)) = ((a + b : Nat) : Int) := by rw [IntWalk.wrap64_in _ ⟨by omega, by omega⟩]; omega
theorem wmul (a b : Nat) (h : a * b ≤ 1000000) : wrap64 ((a : Int) * (b : Int)) = ((a * b : Nat) : Int) := by
  have : (a : Int) * (b : Int) = ((a * b : Nat) : Int) := by simp
  rw [this]
  exact IntWalk.wrap64_in _ ⟨by omega, by omega⟩

theorem iadd (a b : Nat) (h : a + b ≤ 1000000) : IntKind.i64.wrap ((a : Int) + (b : Int)) = ((a + b : Nat) : Int) := by rw [IntWalk.i64_in _ ⟨by omega, by omega⟩]; omega
theorem imul (a b : Nat) (h : a * b ≤ 1000000) : IntKind.i64.wrap ((a : Int) * (b : Int)) = ((a * b : Nat) : Int) := by
  have : (a : Int) * (b : Int) = ((a * b : Nat) : Int) := by simp
  rw [this]
  exact IntWalk.i64_in _ ⟨by omega, by omega⟩

/-- Four numbers' cells. -/
def c4 (f : Nat → Gi) : Array Value := #[.int .i64 (f 0).re, .int .i64 (f 0).im, .int .i64 (f 1).re, .int .i64 (f 1).im, .int .i64 (f 2).re, .int .i64 (f 2).im, .int .i64 (f 3).re, .int .i64 (f 3).im]
theorem RowAt.of4 {W : World} {B : Nat} {t : TypeId} {f : Nat → Gi} (h : CellsAt W B t (c4 f)) : RowAt W B t 4 f := by
  refine ⟨_, h, rfl, fun j hj => ?_⟩
  have hc : j = 0 ∨ j = 1 ∨ j = 2 ∨ j = 3 := by omega
  rcases hc with rfl | rfl | rfl | rfl <;> exact ⟨rfl, rfl⟩
theorem RowAt.cells4 {W : World} {B : Nat} {t : TypeId} {f : Nat → Gi} (h : RowAt W B t 4 f) : CellsAt W B t (c4 f) := by
  obtain ⟨c, h, hs, k⟩ := h
  have e : c = c4 f := by
    obtain ⟨a0, b0⟩ := k 0 (by omega)
    obtain ⟨a1, b1⟩ := k 1 (by omega)
    obtain ⟨a2, b2⟩ := k 2 (by omega)
    obtain ⟨a3, b3⟩ := k 3 (by omega)
    obtain ⟨l⟩ := c
    match l, hs with
    | [c0, c1, c2, c3, c4, c5, c6, c7], _ =>
      simp at a0 b0 a1 b1 a2 b2 a3 b3
      unfold Go.Proofs.Ytbdglbpkbpedoaa.c4
      rw [a0, b0, a1, b1, a2, b2, a3, b3]
  rw [← e]
  exact h

end Go.Proofs.Ytbdglbpkbpedoaa
