import Derived.Laws.Rows
import Derived.Laws.Tables
import Derived.RegionTactic
import Derived.Deep.RegionHeld
import Derived.Test.YtdignnmpfkgkoaaGreatRealUntanglesS2
namespace Go.Proofs.YtdignnmpfkgkoaaGreat
section
open Go.ChangeShapes Go.WideShapes Go.ChangeAt Go.RowKit
set_option linter.unusedVariables false
set_option maxRecDepth 100000
structure GB (B : Nat) (V W : World) : Prop where
 out : V.grownBy W (some B)
theorem GB.refl (B : Nat) (V : World) : GB B V V := ⟨⟨rfl, rfl, rfl, Nat.le_refl _, fun _ _ _ => rfl⟩⟩
theorem GB.size {B : Nat} {V W : World} (h : GB B V W) : V.heap.size ≤ W.heap.size := h.out.size
theorem GB.same {B : Nat} {V W : World} (h : GB B V W) (k : Nat) (hk : k < V.heap.size) (hb : k ≠ B) : W.heap[k]? = V.heap[k]? := h.out.block k hk (fun e => hb (Option.some.inj e))
theorem GB.trans {B : Nat} {U V W : World} (h : GB B U V) (g : GB B V W) : GB B U W :=
 ⟨⟨g.out.os.trans h.out.os, g.out.tape.trans h.out.tape, g.out.output.trans h.out.output, Nat.le_trans h.size g.size, fun k hk hb => (g.out.block k (Nat.lt_of_lt_of_le hk h.size) hb).trans (h.out.block k hk hb)⟩⟩
theorem GB.of {B : Nat} {V W : World} (g : Gr V W) : GB B V W := ⟨⟨g.out.os, g.out.tape, g.out.output, g.size, fun k hk _ => g.block hk⟩⟩
theorem GB.gr {B : Nat} {U V W : World} (h : GB B U V) (g : Gr V W) : GB B U W := h.trans (GB.of g)
theorem GB.drew {B : Nat} {U V : World} (h : GB B U V) : GB B U V.drew := h.gr (Gr.refl _).drew
theorem GB.alloc {B : Nat} {U V : World} (h : GB B U V) (c : Array Value) (t : TypeId) : GB B U (V.alloc (.cells c t)) := h.gr ((Gr.refl _).alloc c t)
theorem GB.set {B : Nat} {U V : World} (h : GB B U V) (j : Nat) (v : Value) : GB B U (V.setCell ⟨B, j, none⟩ v) :=
 h.trans ⟨⟨rfl, rfl, rfl, (KeepsWalks.setCell V _ v).size, fun k hk hb => Below.heap_setCell _ _ _ k (fun e => hb (congrArg some e))⟩⟩
theorem GB.setRow {B : Nat} {U V : World} (h : GB B U V) (c : Array Value) : GB B U (V.setRow B c) :=
 h.trans ⟨⟨rfl, rfl, rfl, by simp, fun k hk hb => setRow_other _ _ _ _ (fun e => hb (congrArg some e))⟩⟩
theorem GB.cell {B : Nat} {V W : World} (h : GB B V W) {p : Addr} (hp : p.block < V.heap.size) (hb : p.block ≠ B) : W.cell? p = V.cell? p := by
 unfold World.cell?
 rw [h.same _ hp hb]
theorem GB.cellsAt {B : Nat} {V W : World} (h : GB B V W) {b : Nat} {t : TypeId} {c : Array Value} (hc : CellsAt V b t c) (hb : b ≠ B) : CellsAt W b t c := (h.same b hc.lt hb).trans hc
theorem GB.new {B : Nat} {U V W : World} (h : GB B V W) (g : Gr U V) (hB : U.heap.size ≤ B) : Gr U W := g.grown h.out (fun k e => by cases e; exact hB)
theorem GB.cxs {B : Nat} {V W : World} (h : GB B V W) {b o n c : Nat} {xs : List Gi} (hc : CxsAt V (.slice (some ⟨b, o, none⟩) n c) xs) (hb : b ≠ B) : CxsAt W (.slice (some ⟨b, o, none⟩) n c) xs := by
 obtain ⟨p, cap, hv, hl, hm, hc⟩ := hc
 refine ⟨p, cap, hv, hl, hm, fun hx => ?_⟩
 obtain ⟨b', o', hp, hbb, hc⟩ := hc hx
 have hne : b' ≠ B := by
  rw [hp] at hv
  cases hv
  exact hb
 exact ⟨b', o', hp, Nat.lt_of_lt_of_le hbb h.size, fun j x hj => ⟨(h.cell (p := ⟨b', o' + j * 2, none⟩) hbb hne).trans (hc j x hj).1, (h.cell (p := ⟨b', o' + j * 2 + 1, none⟩) hbb hne).trans (hc j x hj).2⟩⟩
theorem CellsAt.setRow {W : World} {B : Nat} {t : TypeId} {c : Array Value} (h : CellsAt W B t c) (c' : Array Value) : CellsAt (W.setRow B c') B t c' := setRow_heap W B c c' t (0, 0) h
theorem Gr.setRow {W w' : World} (h : Gr W w') {B : Nat} (hB : W.heap.size ≤ B) (c' : Array Value) : Gr W (w'.setRow B c') := ⟨h.out.trans ⟨rfl, rfl, rfl, by simp, fun k hk => setRow_other _ _ _ _ (by omega)⟩⟩
theorem CellsAt.set2 {W : World} {B : Nat} {t : TypeId} {a0 a1 : Value} (h : CellsAt W B t #[a0, a1]) (v0 v1 : Value) : CellsAt ((W.setCell ⟨B, 0, none⟩ v0).setCell ⟨B, 1, none⟩ v1) B t #[v0, v1] := by
 have := ((h.set 0 v0).set 1 v1)
 simpa using this
theorem CellsAt.set8 {W : World} {B : Nat} {t : TypeId} {a0 a1 a2 a3 a4 a5 a6 a7 : Value} (h : CellsAt W B t #[a0, a1, a2, a3, a4, a5, a6, a7]) (v0 v1 v2 v3 v4 v5 v6 v7 : Value) : CellsAt ((((((((W.setCell ⟨B, 0, none⟩ v0).setCell ⟨B, 1, none⟩ v1).setCell ⟨B, 2, none⟩ v2).setCell ⟨B, 3, none⟩ v3).setCell ⟨B, 4, none⟩ v4).setCell ⟨B, 5, none⟩ v5).setCell ⟨B, 6, none⟩ v6).setCell ⟨B, 7, none⟩ v7) B t #[v0, v1, v2, v3, v4, v5, v6, v7] := by
 have := ((((((((h.set 0 v0).set 1 v1).set 2 v2).set 3 v3).set 4 v4).set 5 v5).set 6 v6).set 7 v7)
 simpa using this
def RowAt (W : World) (B : Nat) (t : TypeId) (n : Nat) (f : Nat → Gi) : Prop := ∃ c, CellsAt W B t c ∧ c.size = n * 2 ∧ ∀ j, j < n → c[j * 2]? = some (.int .i64 (f j).re) ∧ c[j * 2 + 1]? = some (.int .i64 (f j).im)
theorem RowAt.lt {W : World} {B n : Nat} {t : TypeId} {f : Nat → Gi} (h : RowAt W B t n f) : B < W.heap.size := by obtain ⟨c, h, _⟩ := h; exact h.lt
theorem RowAt.gr {W W' : World} {B n : Nat} {t : TypeId} {f : Nat → Gi} (h : RowAt W B t n f) (g : Gr W W') : RowAt W' B t n f := by obtain ⟨c, h, k⟩ := h; exact ⟨c, h.gr g, k⟩
theorem RowAt.gb {W W' : World} {B B' n : Nat} {t : TypeId} {f : Nat → Gi} (h : RowAt W B t n f) (g : GB B' W W') (hb : B ≠ B') : RowAt W' B t n f := by obtain ⟨c, h, k⟩ := h; exact ⟨c, g.cellsAt h hb, k⟩
theorem RowAt.drew {W : World} {B n : Nat} {t : TypeId} {f : Nat → Gi} (h : RowAt W B t n f) : RowAt W.drew B t n f := h
theorem RowAt.alloc {W : World} {B n : Nat} {t : TypeId} {f : Nat → Gi} (h : RowAt W B t n f) (o : Obj) : RowAt (W.alloc o) B t n f := by obtain ⟨c, h, k⟩ := h; exact ⟨c, h.alloc o, k⟩
theorem RowAt.cells {W : World} {B n : Nat} {t : TypeId} {f : Nat → Gi} (h : RowAt W B t n f) (j : Nat) (hj : j < n) : W.cell? ⟨B, j * 2, none⟩ = some (.int .i64 (f j).re) ∧ W.cell? ⟨B, j * 2 + 1, none⟩ = some (.int .i64 (f j).im) := by
 obtain ⟨c, h, _, k⟩ := h
 exact ⟨(h.cell _).trans (k j hj).1, (h.cell _).trans (k j hj).2⟩
theorem RowAt.marks {W : World} {B n : Nat} {t : TypeId} {f : Nat → Gi} (h : RowAt W B t n f) (j : Nat) : W.frozen? ⟨B, j, none⟩ = false := by
 obtain ⟨c, h, _, k⟩ := h
 exact h.frozen j
theorem RowAt.eq {W : World} {B n : Nat} {t : TypeId} {f g : Nat → Gi} (h : RowAt W B t n f) (e : ∀ j, j < n → f j = g j) : RowAt W B t n g := by
 obtain ⟨c, h, hs, k⟩ := h
 exact ⟨c, h, hs, fun j hj => by rw [← e j hj]; exact k j hj⟩
theorem RowAt.set {W : World} {B n : Nat} {t : TypeId} {f : Nat → Gi} (h : RowAt W B t n f) (k : Nat) (hk : k < n) (g : Gi) :
 RowAt ((W.setCell ⟨B, k * 2, none⟩ (.int .i64 g.re)).setCell ⟨B, k * 2 + 1, none⟩ (.int .i64 g.im)) B t n (fun j => if j = k then g else f j) := by
 obtain ⟨c, h, hs, hc⟩ := h
 refine ⟨_, (h.set (k * 2) _).set (k * 2 + 1) _, by simpa using hs, fun j hj => ?_⟩
 have := hc j hj
 by_cases e : j = k
 ·subst e
  simp only [if_true]
  refine ⟨?_, ?_⟩
  ·rw [Array.getElem?_setIfInBounds_ne (by omega), Array.getElem?_setIfInBounds_self_of_lt (by omega)]
  ·rw [Array.getElem?_setIfInBounds_self_of_lt (by simp; omega)]
 ·simp only [if_neg e]
  rw [Array.getElem?_setIfInBounds_ne (by omega), Array.getElem?_setIfInBounds_ne (by omega), Array.getElem?_setIfInBounds_ne (by omega), Array.getElem?_setIfInBounds_ne (by omega)]
  exact this
theorem RowAt.other {W : World} {B B' n : Nat} {t : TypeId} {f : Nat → Gi} (h : RowAt W B t n f) (hne : B ≠ B') (j k : Nat) (v u : Value) : RowAt ((W.setCell ⟨B', j, none⟩ v).setCell ⟨B', k, none⟩ u) B t n f := by
 obtain ⟨c, h, k⟩ := h
 exact ⟨c, (h.other hne _ _).other hne _ _, k⟩
theorem RowAt.cxs {W : World} {B n : Nat} {t : TypeId} {f : Nat → Gi} (h : RowAt W B t n f) (F m cap : Nat) (hF : F + m ≤ n) (hc : m ≤ cap) (hm : cap ≤ maxLen) : CxsAt W (.slice (some ⟨B, F * 2, none⟩) m cap) ((List.range m).map (fun i => f (F + i))) := by
 refine ⟨some ⟨B, F * 2, none⟩, cap, by simp, by simpa using hc, hm, fun _ => ⟨B, F * 2, rfl, h.lt, fun j x hj => ?_⟩⟩
 have hjm : j < m := by
  have := (List.getElem?_eq_some_iff.1 hj).1
  simpa using this
 rw [List.getElem?_map, List.getElem?_range hjm] at hj
 obtain rfl := Option.some.inj hj
 have := h.cells (F + j) (by omega)
 rw [Nat.add_mul] at this
 exact this
def upto (T f : Nat → Gi) (k j : Nat) : Gi := if j < k then T j else f j
theorem upto_next (T f : Nat → Gi) (k j : Nat) : (if j = k then T k else upto T f k j) = upto T f (k + 1) j := by
 unfold upto
 by_cases e : j = k
 ·subst e; simp
 ·by_cases h : j < k
  ·simp [e, h, show j < k + 1 by omega]
  ·simp [e, h, show ¬ j < k + 1 by omega]
theorem upto_all (T f : Nat → Gi) (n j : Nat) (h : j < n) : upto T f n j = T j := by unfold upto; rw [if_pos h]
theorem upto_none (T f : Nat → Gi) (j : Nat) : upto T f 0 j = f j := by simp [upto]
theorem upto_at (T f : Nat → Gi) (k : Nat) : upto T f k k = f k := by simp [upto]
theorem wadd (a b : Nat) (h : a + b ≤ 1000000) : wrap64 ((a : Int) + (b : Int)) = ((a + b : Nat) : Int) := by rw [IntWalk.wrap64_in _ ⟨by omega, by omega⟩]; omega
theorem wmul (a b : Nat) (h : a * b ≤ 1000000) : wrap64 ((a : Int) * (b : Int)) = ((a * b : Nat) : Int) := by
 have : (a : Int) * (b : Int) = ((a * b : Nat) : Int) := by simp
 rw [this]
 exact IntWalk.wrap64_in _ ⟨by omega, by omega⟩
theorem iadd (a b : Nat) (h : a + b ≤ 1000000) : IntKind.i64.wrap ((a : Int) + (b : Int)) = ((a + b : Nat) : Int) := by rw [IntWalk.i64_in _ ⟨by omega, by omega⟩]; omega
theorem imul (a b : Nat) (h : a * b ≤ 1000000) : IntKind.i64.wrap ((a : Int) * (b : Int)) = ((a * b : Nat) : Int) := by
 have : (a : Int) * (b : Int) = ((a * b : Nat) : Int) := by simp
 rw [this]
 exact IntWalk.i64_in _ ⟨by omega, by omega⟩
def c4 (f : Nat → Gi) : Array Value := #[.int .i64 (f 0).re, .int .i64 (f 0).im, .int .i64 (f 1).re, .int .i64 (f 1).im, .int .i64 (f 2).re, .int .i64 (f 2).im, .int .i64 (f 3).re, .int .i64 (f 3).im]
theorem RowAt.of4 {W : World} {B : Nat} {t : TypeId} {f : Nat → Gi} (h : CellsAt W B t (c4 f)) : RowAt W B t 4 f := by
 refine ⟨_, h, rfl, fun j hj => ?_⟩
 have hc : j = 0 ∨ j = 1 ∨ j = 2 ∨ j = 3 := by omega
 rcases hc with rfl | rfl | rfl | rfl <;> exact ⟨rfl, rfl⟩
theorem RowAt.cells4 {W : World} {B : Nat} {t : TypeId} {f : Nat → Gi} (h : RowAt W B t 4 f) : CellsAt W B t (c4 f) := by
 obtain ⟨c, h, hs, k⟩ := h
 have e : c = c4 f := by
  obtain ⟨a0, b0⟩ := k 0 (by omega)
  obtain ⟨a1, b1⟩ := k 1 (by omega)
  obtain ⟨a2, b2⟩ := k 2 (by omega)
  obtain ⟨a3, b3⟩ := k 3 (by omega)
  obtain ⟨l⟩ := c
  match l, hs with
  | [c0, c1, c2, c3, c4, c5, c6, c7], _ =>
    simp at a0 b0 a1 b1 a2 b2 a3 b3
    unfold Go.Proofs.YtdignnmpfkgkoaaGreat.c4
    rw [a0, b0, a1, b1, a2, b2, a3, b3]
 rw [← e]
 exact h
section
variable {P : Program} {ops : Array Oper} {Q : Exit → Act → World → Prop} {md : Region.Mode} {S : World → Prop}
def wpG (P : Program) (md : Region.Mode) (ops : Array Oper) (Q : Exit → Act → World → Prop) (S : World → Prop) : Nat → Array Bool → Act → World → Prop
 | 0, l, a, w => Region.ready md ops l = [] ∧ ∀ v, Gr w v → Q .normal a v
 | n + 1, l, a, w => ∀ v, Gr w v → S v → (Region.ready md ops l = [] → Q .normal a v) ∧ ∀ i ∈ Region.ready md ops l, wpOp P ops Q i (fun b u => S u ∧ wpG P md ops Q S n (l.setIfInBounds i true) b u) a v
theorem wpG_gr {n : Nat} {l : Array Bool} {a : Act} {w u : World} (h : wpG P md ops Q S n l a w) (g : Gr w u) : wpG P md ops Q S n l a u := by
 cases n with
 | zero => exact ⟨h.1, fun v k => h.2 v (g.trans k)⟩
 | succ n => exact fun v k hS => h v (g.trans k) hS
theorem wpAny_of_wpG : ∀ (n : Nat) (l : Array Bool) (a : Act) (w : World), S w → wpG P md ops Q S n l a w → wpAny P md ops Q n l a w
 | 0, l, a, w, hS, h => ⟨h.1, h.2 w (Gr.refl w)⟩
 | n + 1, l, a, w, hS, h =>
   have H := h w (Gr.refl w) hS
   ⟨H.1, fun i hi => wpOp_mono (fun b u k => wpAny_of_wpG n _ b u k.1 k.2) (H.2 i hi)⟩
inductive Gives (P : Program) (ops : Array Oper) (S : World → Prop) (o : Oper) (v : Value) (a : Act) : Prop where
 | value (hw : Region.wanted o (yielded ops a.tmps) = true) (h : ∀ w, S w → (execOp a.eval o).run P w = .ok (.value v) w) : Gives P ops S o v a
 | call (f : FuncId) (args : Array Value) (hw : Region.wanted o (yielded ops a.tmps) = true) (h : ∀ w, S w → (execOp a.eval o).run P w = .ok (.enter f args) w)
  (hc : ∀ w, S w → Calls P f args w fun e w' => e = .returned v ∧ Gr w w') : Gives P ops S o v a
 | not (hw : Region.wanted o (yielded ops a.tmps) = false) (hv : v = undef) : Gives P ops S o v a
theorem Gives.like {o : Oper} {v : Value} {a b : Act} (h : Gives P ops S o v a) (he : execOp b.eval o = execOp a.eval o) (hw : Region.wanted o (yielded ops b.tmps) = Region.wanted o (yielded ops a.tmps)) : Gives P ops S o v b := by
 cases h with
 | value k h => exact .value (hw.trans k) (fun w hS => by rw [he]; exact h w hS)
 | call f args k h hc => exact .call f args (hw.trans k) (fun w hS => by rw [he]; exact h w hS) hc
 | not k hv => exact .not (hw.trans k) hv
theorem Gives.step {i : Nat} {o : Oper} {v : Value} {a : Act} (hi : ops[i]? = some o) (h : Gives P ops S o v a) {K : Act → World → Prop} {w : World} (hS : S w) (hK : ∀ u, Gr w u → K (a.put o.dst v) u) : wpOp P ops Q i K a w := by
 unfold wpOp
 rw [hi]
 cases h with
 | value k h =>
   simp only [k, if_true]
   refine .inl ?_
   unfold Oper.wp
   rw [h w hS]
   exact hK w (Gr.refl w)
 | call f args k h hc =>
   simp only [k, if_true]
   refine .inl ?_
   unfold Oper.wp
   rw [h w hS, Oper.upon_enter]
   refine (hc w hS).mono ?_
   rintro e u ⟨rfl, g⟩
   exact hK u g
 | not k hv =>
   subst hv
   simp only [k, Bool.false_eq_true, if_false]
   exact hK w (Gr.refl w)
theorem wpOp_apart {j : Nat} {oi oj : Oper} {v : Value} (hj : ops[j]? = some oj) (hap : oi.apart ops oj = true) (hsi : ∀ cs b, oi.op ≠ .select cs b) (hsj : ∀ cs b, oj.op ≠ .select cs b)
 (hQ : ∀ c a w, Q (.panic c) (a.put oi.dst v) w → Q (.panic c) a w) {K : Act → World → Prop} {a : Act} {w : World} (hg : Gives P ops S oi v a) (h : wpOp P ops Q j K (a.put oi.dst v) w) :
 wpOp P ops Q j (fun b u => Gives P ops S oi v b ∧ K (b.put oi.dst v) u) a w := by
 obtain ⟨d1, d2, d3⟩ := Oper.apart_spec hap
 have put : ∀ b, Gives P ops S oi v b → ∀ u, Gives P ops S oi v (b.put oj.dst u) := fun b k u => k.like (execOp_put oi hsi b oj.dst u d3) (wanted_put oi b oj.dst u d3)
 unfold wpOp at h ⊢
 rw [hj] at h ⊢
 simp only at h ⊢
 rw [wanted_put oj a oi.dst v d1] at h
 cases hw : Region.wanted oj (yielded ops a.tmps)
 ·simp only [hw, Bool.false_eq_true, if_false] at h ⊢
  exact ⟨put a hg _, by rw [← Act.put_comm a v undef d2]; exact h⟩
 ·simp only [hw, if_true] at h ⊢
  refine h.imp (fun k => ?_) (fun k => ⟨by unfold Oper.asks at k ⊢; rw [← execOp_put oj hsj a oi.dst v d1]; exact k.1, k.2⟩)
  unfold Oper.wp at k ⊢
  rw [execOp_put oj hsj a oi.dst v d1] at k
  generalize (execOp a.eval oj).run P w = r at k ⊢
  match r with
  | .ok (.value x) u => exact ⟨put a hg x, by rw [← Act.put_comm a v x d2]; exact k⟩
  | .ok .skip u => exact ⟨put a hg undef, by rw [← Act.put_comm a v undef d2]; exact k⟩
  | .ok (.defer d) u => exact ⟨put { a with defers := d :: a.defers } (hg.like rfl rfl) undef, by rw [← Act.put_comm _ v undef d2, ← Act.put_defers]; exact k⟩
  | .ok (.enter f args) u =>
    refine Calls.mono (show Calls P f args u _ from k) (fun e u' q => ?_)
    match e with
    | .returned x => exact ⟨put a hg x, by rw [← Act.put_comm a v x d2]; exact q⟩
    | .panicked c => exact hQ _ _ _ q
    | .outgrown => exact q
  | .ok (.row row args) u => exact Rows.mono (show Rows P row args u _ from k) (fun x u' q => ⟨put a hg x, by rw [← Act.put_comm a v x d2]; exact q⟩)
  | .ok (.round ..) u => exact k.elim
  | .halt x u =>
    cases x with
    | panic y => exact hQ _ _ _ k
    | _ => exact False.elim k
theorem wpG_first {i : Nat} {oi : Oper} {v : Value} (hi : ops[i]? = some oi) (hsel : ∀ (j : Nat) (o : Oper) cs b, ops[j]? = some o → o.op ≠ .select cs b) (hQ : ∀ c a w, Q (.panic c) (a.put oi.dst v) w → Q (.panic c) a w)
 (hcl : ∀ w u, S w → Gr w u → S u) : ∀ (n : Nat) (l : Array Bool) (a : Act) (w : World),
  (∀ j oj, ops[j]? = some oj → j ≠ i → l.getD j true = false → (∀ e ∈ oj.after, Region.binds md e = true → e.on ≠ i) → oi.apart ops oj = true) →
  i ∈ Region.ready md ops l → Gives P ops S oi v a → wpG P md ops Q S n (l.setIfInBounds i true) (a.put oi.dst v) w → wpG P md ops Q S (n + 1) l a w := by
 intro n
 induction n with
 | zero =>
   intro l a w _ hr hg H v' g hS
   refine ⟨fun h => absurd (h ▸ hr) (by simp), fun j hj => ?_⟩
   by_cases e : j = i
   ·subst e
    exact hg.step hi hS (fun u k => ⟨hcl _ _ hS k, wpG_gr H (g.trans k)⟩)
   ·have := ready_mono hj e
    rw [H.1] at this
    cases this
 | succ n ih =>
   intro l a w hfr hr hg H v' g hS
   refine ⟨fun h => absurd (h ▸ hr) (by simp), fun j hj => ?_⟩
   by_cases e : j = i
   ·subst e
    exact hg.step hi hS (fun u k => ⟨hcl _ _ hS k, wpG_gr H (g.trans k)⟩)
   ·obtain ⟨hun, oj, hoj, hall⟩ := mem_ready.1 hj
    have hno : ∀ e ∈ oj.after, Region.binds md e = true → e.on ≠ i := by
     intro e he hb q
     have q1 := hall e he hb
     have q0 := (mem_ready.1 hr).1
     rw [q] at q1
     by_cases hl : i < l.size
     ·simp only [Array.getD_eq_getD_getElem?, Array.getElem?_eq_getElem hl, Option.getD_some] at q0 q1
      rw [q0] at q1
      cases q1
     ·rw [Array.getD_eq_getD_getElem?, Array.getElem?_eq_none (by omega)] at q1
      cases q1
    have h2 := wpOp_apart hoj (hfr j oj hoj e hun hno) (fun cs b => hsel i oi cs b hi) (fun cs b => hsel j oj cs b hoj) hQ hg ((H v' g hS).2 j (ready_mono hj e))
    refine wpOp_mono (fun b u k => ⟨k.2.1, ?_⟩) h2
    refine ih _ b u (fun p op hp hpi hup hnp => hfr p op hp hpi ?_ hnp) (ready_mono hr (Ne.symm e)) k.1 ?_
    ·by_cases hjp : j = p
     ·subst hjp; exact hun
     ·rw [getD_set_ne true hjp] at hup; exact hup
    ·rw [Array.setIfInBounds_comm _ _ e]
     exact k.2.2
theorem wpG_take {i : Nat} {oi : Oper} {v : Value} {n : Nat} {l : Array Bool} {a : Act} {w : World} (hcl : ∀ w u, S w → Gr w u → S u) (hi : ops[i]? = some oi) (hs : Region.noSelect ops = true) (hf : Region.free md ops l i = true)
 (hr : (Region.ready md ops l).contains i = true) (hQ : ∀ c a w, Q (.panic c) (a.put oi.dst v) w → Q (.panic c) a w) (hw : Region.wanted oi (yielded ops a.tmps) = true) (hy : ∀ w, S w → (execOp a.eval oi).run P w = .ok (.value v) w)
 (h : wpG P md ops Q S n (l.setIfInBounds i true) (a.put oi.dst v) w) : wpG P md ops Q S (n + 1) l a w :=
 wpG_first hi (Region.noSelect_spec hs) hQ hcl n l a w (Region.free_spec hi hf) (by simpa using hr) (.value hw hy) h
theorem wpG_call {i : Nat} {oi : Oper} {v : Value} {f : FuncId} {args : Array Value} {n : Nat} {l : Array Bool} {a : Act} {w : World} (hcl : ∀ w u, S w → Gr w u → S u) (hi : ops[i]? = some oi) (hs : Region.noSelect ops = true) (hf : Region.free md ops l i = true)
 (hr : (Region.ready md ops l).contains i = true) (hQ : ∀ c a w, Q (.panic c) (a.put oi.dst v) w → Q (.panic c) a w) (hc : ∀ w, S w → Calls P f args w fun e w' => e = .returned v ∧ Gr w w') (hw : Region.wanted oi (yielded ops a.tmps) = true) (hy : ∀ w, S w → (execOp a.eval oi).run P w = .ok (.enter f args) w)
 (h : wpG P md ops Q S n (l.setIfInBounds i true) (a.put oi.dst v) w) : wpG P md ops Q S (n + 1) l a w :=
 wpG_first hi (Region.noSelect_spec hs) hQ hcl n l a w (Region.free_spec hi hf) (by simpa using hr) (.call f args hw hy hc) h
theorem wpG_skip {i : Nat} {oi : Oper} {n : Nat} {l : Array Bool} {a : Act} {w : World} (hcl : ∀ w u, S w → Gr w u → S u) (hi : ops[i]? = some oi) (hs : Region.noSelect ops = true) (hf : Region.free md ops l i = true)
 (hr : (Region.ready md ops l).contains i = true) (hQ : ∀ c a w, Q (.panic c) (a.put oi.dst undef) w → Q (.panic c) a w) (hw : Region.wanted oi (yielded ops a.tmps) = false)
 (h : wpG P md ops Q S n (l.setIfInBounds i true) (a.put oi.dst undef) w) : wpG P md ops Q S (n + 1) l a w :=
 wpG_first hi (Region.noSelect_spec hs) hQ hcl n l a w (Region.free_spec hi hf) (by simpa using hr) (.not hw rfl) h
def AllG (P : Program) (md : Region.Mode) (ops : Array Oper) (Q : Exit → Act → World → Prop) (S : World → Prop) (n : Nat) (l : Array Bool) (a : Act) (w : World) (rs : List Nat) : Prop :=
 ∀ i ∈ rs, wpOp P ops Q i (fun b u => S u ∧ wpG P md ops Q S n (l.setIfInBounds i true) b u) a w
theorem AllG.nil {n : Nat} {l : Array Bool} {a : Act} {w : World} : AllG P md ops Q S n l a w [] := fun _ h => by cases h
theorem AllG.cons {n : Nat} {l : Array Bool} {a : Act} {w : World} {i : Nat} {o : Oper} {rs : List Nat} (ho : ops[i]? = some o)
 (h : ∀ K : Act → World → Prop, Shut (∀ b u, S u → wpG P md ops Q S n (l.setIfInBounds i true) b u → K b u) → if Region.wanted o (yielded ops a.tmps) = true then Oper.wp P o a w K Q else K (a.put o.dst undef) w)
 (hs : AllG P md ops Q S n l a w rs) : AllG P md ops Q S n l a w (i :: rs) := fun j hj => by
 rcases List.mem_cons.1 hj with rfl | hj
 ·exact wpOp_step ho (fun K hK => h K (fun b u hS hW => hK b u ⟨hS, hW⟩))
 ·exact hs j hj
theorem wpG_ready {rs : List Nat} {n : Nat} {l : Array Bool} {a : Act} {w : World} (hr : Region.ready md ops l = rs) (hne : rs ≠ []) (h : ∀ v, Gr w v → S v → AllG P md ops Q S n l a v rs) : wpG P md ops Q S (n + 1) l a w :=
 fun v g hS => ⟨fun h0 => absurd (hr ▸ h0) hne, hr ▸ h v g hS⟩
theorem wpG_done {l : Array Bool} {a : Act} {w : World} (hr : Region.ready md ops l = []) (h : ∀ v, Gr w v → Q .normal a v) : ∀ n, wpG P md ops Q S n l a w
 | 0 => ⟨hr, h⟩
 | n + 1 => fun v g _ => ⟨fun _ => h v g, by rw [hr]; simp⟩
theorem wp_region_grow {id : Nat} {a : Act} {w : World} (hm : P.follows .mixedOrders = true) (hS : S w.drew) (h : wpG P .any ops Q S ops.size (Array.replicate ops.size false) a w.drew) : (Code.region id ops true).wp P Q a w :=
 wp_region_any hm (wpAny_of_wpG _ _ _ _ hS h)
end
theorem calls_gr {P : Program} {f : FuncId} {args : Array Value} {v : Value} {w : World} (h : Calls P f args w fun e w' => e = .returned v ∧ w' = w) : Calls P f args w fun e w' => e = .returned v ∧ Gr w w' :=
 h.mono (by rintro e w' ⟨rfl, rfl⟩; exact ⟨rfl, Gr.refl _⟩)
theorem CellsAt.newAt (W : World) (t : TypeId) (c : Array Value) {B : Nat} (h : W.heap.size = B) : CellsAt (W.alloc (.cells c t)) B t c := h ▸ CellsAt.new W t c
theorem gr_closed (u : World) : ∀ w v, Gr u w → Gr w v → Gr u v := fun _ _ h k => h.trans k
theorem gb_closed (B : Nat) (u : World) : ∀ w v, GB B u w → Gr w v → GB B u v := fun _ _ h k => h.gr k
end
section
theorem gT {P : Program} {ops : Array Oper} {Q : Exit → Act → World → Prop} {md : Region.Mode} {S : World → Prop} (i : Nat) (hcl : ∀ w u, S w → Gr w u → S u) {oi : Oper} {v : Value} {n : Nat} {l l' : Array Bool} {a a' : Act} {w : World} (h : wpG P md ops Q S n l' a' w) (hi : ops[i]? = some oi := by rfl) (hs : Region.noSelect ops = true := by kernel_rfl) (hf : Region.free md ops l i = true := by kernel_rfl) (hr : (Region.ready md ops l).contains i = true := by kernel_rfl) (hQ : ∀ c a w, Q (.panic c) (a.put oi.dst v) w → Q (.panic c) a w := by exact fun _ _ _ h => h) (hw : Region.wanted oi (yielded ops a.tmps) = true := by rfl) (hy : ∀ w, S w → (execOp a.eval oi).run P w = .ok (.value v) w := by (intro w' hSw; go_simp; try with_reducible rfl)) (hl : l.setIfInBounds i true = l' := by first | (simp only [List.setIfInBounds_toArray, List.set_cons_zero, List.set_cons_succ] <;> rfl) | rfl) (ha : a.put oi.dst v = a' := by first | (simp only [Act.put, List.setIfInBounds_toArray, List.set_cons_zero, List.set_cons_succ, List.getElem_toArray, List.getElem_cons_zero, List.getElem_cons_succ] <;> rfl) | rfl) : wpG P md ops Q S (n + 1) l a w := by
  subst hl ha
  exact wpG_take hcl hi hs hf hr hQ hw hy h
theorem gK {P : Program} {ops : Array Oper} {Q : Exit → Act → World → Prop} {md : Region.Mode} {S T : World → Prop} (i : Nat) (hcl : ∀ w u, S w → Gr w u → S u) (KS : ∀ w, S w → T w) {oi : Oper} {v : Value} {n : Nat} {l l' : Array Bool} {a a' : Act} {w : World} (h : wpG P md ops Q S n l' a' w) (hi : ops[i]? = some oi := by rfl) (hs : Region.noSelect ops = true := by kernel_rfl) (hf : Region.free md ops l i = true := by kernel_rfl) (hr : (Region.ready md ops l).contains i = true := by kernel_rfl) (hQ : ∀ c a w, Q (.panic c) (a.put oi.dst v) w → Q (.panic c) a w := by exact fun _ _ _ h => h) (hw : Region.wanted oi (yielded ops a.tmps) = true := by rfl) (hy : ∀ w, S w → T w → (execOp a.eval oi).run P w = .ok (.value v) w := by (intro w' hSw hk; (try dsimp only at hk); go_split_ands; go_simp; try with_reducible rfl)) (hl : l.setIfInBounds i true = l' := by first | (simp only [List.setIfInBounds_toArray, List.set_cons_zero, List.set_cons_succ] <;> rfl) | rfl) (ha : a.put oi.dst v = a' := by first | (simp only [Act.put, List.setIfInBounds_toArray, List.set_cons_zero, List.set_cons_succ, List.getElem_toArray, List.getElem_cons_zero, List.getElem_cons_succ] <;> rfl) | rfl) : wpG P md ops Q S (n + 1) l a w := by
  subst hl ha
  exact wpG_take hcl hi hs hf hr hQ hw (fun w hS => hy w hS (KS w hS)) h
theorem gR {P : Program} {ops : Array Oper} {Q : Exit → Act → World → Prop} {md : Region.Mode} {S : World → Prop} (i : Nat) {o : Oper} {n : Nat} {l : Array Bool} {a : Act} {w : World} (h : ∀ v, Gr w v → S v → ∀ K : Act → World → Prop, Shut (∀ b u, S u → wpG P md ops Q S n (l.setIfInBounds i true) b u → K b u) → if Region.wanted o (yielded ops a.tmps) = true then Oper.wp P o a v K Q else K (a.put o.dst undef) v) (hr : Region.ready md ops l = [i] := by kernel_rfl) (ho : ops[i]? = some o := by rfl) : wpG P md ops Q S (n + 1) l a w := wpG_ready hr (by simp) (fun v g s => AllG.cons ho (h v g s) AllG.nil)
end
end Go.Proofs.YtdignnmpfkgkoaaGreat
