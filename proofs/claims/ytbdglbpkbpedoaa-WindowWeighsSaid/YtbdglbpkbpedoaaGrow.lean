/- A region that draws its order: calls that make at most new blocks, and whose results hang on no world that may come, are carried out first, as loads are. -/
import Derived.OrdersHeld
import Derived.RegionTactic
import Derived.Deep.RegionHeld
import Derived.Test.YtbdglbpkbpedoaaRow
namespace Go.Proofs.Ytbdglbpkbpedoaa
open Go.ChangeShapes Go.WideShapes Go.ChangeAt Go.RowKit
set_option linter.unusedVariables false
set_option maxRecDepth 100000

section
variable {P : Program} {ops : Array Oper} {Q : Exit → Act → World → Prop} {md : Region.Mode} {S : World → Prop}

/-- However the rest comes up, and wherever ahead of an operation, or at the end, there are new blocks more. -/
def wpG (P : Program) (md : Region.Mode) (ops : Array Oper) (Q : Exit → Act → World → Prop) (S : World → Prop) : Nat → Array Bool → Act → World → Prop
  | 0, l, a, w => Region.ready md ops l = [] ∧ ∀ v, Gr w v → Q .normal a v
  | n + 1, l, a, w => ∀ v, Gr w v → S v → (Region.ready md ops l = [] → Q .normal a v) ∧ ∀ i ∈ Region.ready md ops l, wpOp P ops Q i (fun b u => S u ∧ wpG P md ops Q S n (l.setIfInBounds i true) b u) a v

theorem wpG_gr {n : Nat} {l : Array Bool} {a : Act} {w u : World} (h : wpG P md ops Q S n l a w) (g : Gr w u) : wpG P md ops Q S n l a u := by
  cases n with
  | zero => exact ⟨h.1, fun v k => h.2 v (g.trans k)⟩
  | succ n => exact fun v k hS => h v (g.trans k) hS

theorem wpAny_of_wpG : ∀ (n : Nat) (l : Array Bool) (a : Act) (w : World), S w → wpG P md ops Q S n l a w → wpAny P md ops Q n l a w
  | 0, l, a, w, hS, h => ⟨h.1, h.2 w (Gr.refl w)⟩
  | n + 1, l, a, w, hS, h =>
    have H := h w (Gr.refl w) hS
    ⟨H.1, fun i hi => wpOp_mono (fun b u k => wpAny_of_wpG n _ b u k.1 k.2) (H.2 i hi)⟩

/-- What an operation gives, in every world of S: a value, with nothing turned; or what a call of it returns, with at most new blocks; or it is not wanted. -/
inductive Gives (P : Program) (ops : Array Oper) (S : World → Prop) (o : Oper) (v : Value) (a : Act) : Prop where
  | value (hw : Region.wanted o (yielded ops a.tmps) = true) (h : ∀ w, S w → (execOp a.eval o).run P w = .ok (.value v) w) : Gives P ops S o v a
  | call (f : FuncId) (args : Array Value) (hw : Region.wanted o (yielded ops a.tmps) = true) (h : ∀ w, S w → (execOp a.eval o).run P w = .ok (.enter f args) w)
      (hc : ∀ w, S w → Calls P f args w fun e w' => e = .returned v ∧ Gr w w') : Gives P ops S o v a
  | not (hw : Region.wanted o (yielded ops a.tmps) = false) (hv : v = undef) : Gives P ops S o v a

theorem Gives.like {o : Oper} {v : Value} {a b : Act} (h : Gives P ops S o v a) (he : execOp b.eval o = execOp a.eval o) (hw : Region.wanted o (yielded ops b.tmps) = Region.wanted o (yielded ops a.tmps)) : Gives P ops S o v b := by
  cases h with
  | value k h => exact .value (hw.trans k) (fun w hS => by rw [he]; exact h w hS)
  | call f args k h hc => exact .call f args (hw.trans k) (fun w hS => by rw [he]; exact h w hS) hc
  | not k hv => exact .not (hw.trans k) hv

theorem Gives.step {i : Nat} {o : Oper} {v : Value} {a : Act} (hi : ops[i]? = some o) (h : Gives P ops S o v a) {K : Act → World → Prop} {w : World} (hS : S w) (hK : ∀ u, Gr w u → K (a.put o.dst v) u) : wpOp P ops Q i K a w := by
  unfold wpOp
  rw [hi]
  cases h with
  | value k h =>
    simp only [k, if_true]
    refine .inl ?_
    unfold Oper.wp
    rw [h w hS]
    exact hK w (Gr.refl w)
  | call f args k h hc =>
    simp only [k, if_true]
    refine .inl ?_
    unfold Oper.wp
    rw [h w hS, Oper.upon_enter]
    refine (hc w hS).mono ?_
    rintro e u ⟨rfl, g⟩
    exact hK u g
  | not k hv =>
    subst hv
    simp only [k, Bool.false_eq_true, if_false]
    exact hK w (Gr.refl w)

/-- An operation apart from another: it does the same whether the other's value is there, and what it leaves differs from what was there in nothing that the other looks at. -/
theorem wpOp_apart {j : Nat} {oi oj : Oper} {v : Value} (hj : ops[j]? = some oj) (hap : oi.apart ops oj = true) (hsi : ∀ cs b, oi.op ≠ .select cs b) (hsj : ∀ cs b, oj.op ≠ .select cs b)
    (hQ : ∀ c a w, Q (.panic c) (a.put oi.dst v) w → Q (.panic c) a w) {K : Act → World → Prop} {a : Act} {w : World} (hg : Gives P ops S oi v a) (h : wpOp P ops Q j K (a.put oi.dst v) w) :
    wpOp P ops Q j (fun b u => Gives P ops S oi v b ∧ K (b.put oi.dst v) u) a w := by
  obtain ⟨d1, d2, d3⟩ := Oper.apart_spec hap
  have put : ∀ b, Gives P ops S oi v b → ∀ u, Gives P ops S oi v (b.put oj.dst u) := fun b k u => k.like (execOp_put oi hsi b oj.dst u d3) (wanted_put oi b oj.dst u d3)
  unfold wpOp at h ⊢
  rw [hj] at h ⊢
  simp only at h ⊢
  rw [wanted_put oj a oi.dst v d1] at h
  cases hw : Region.wanted oj (yielded ops a.tmps)
  · simp only [hw, Bool.false_eq_true, if_false] at h ⊢
    exact ⟨put a hg _, by rw [← Act.put_comm a v undef d2]; exact h⟩
  · simp only [hw, if_true] at h ⊢
    refine h.imp (fun k => ?_) (fun k => ⟨by unfold Oper.asks at k ⊢; rw [← execOp_put oj hsj a oi.dst v d1]; exact k.1, k.2⟩)
    unfold Oper.wp at k ⊢
    rw [execOp_put oj hsj a oi.dst v d1] at k
    generalize (execOp a.eval oj).run P w = r at k ⊢
    match r with
    | .ok (.value x) u => exact ⟨put a hg x, by rw [← Act.put_comm a v x d2]; exact k⟩
    | .ok .skip u => exact ⟨put a hg undef, by rw [← Act.put_comm a v undef d2]; exact k⟩
    | .ok (.defer d) u => exact ⟨put { a with defers := d :: a.defers } (hg.like rfl rfl) undef, by rw [← Act.put_comm _ v undef d2, ← Act.put_defers]; exact k⟩
    | .ok (.enter f args) u =>
      refine Calls.mono (show Calls P f args u _ from k) (fun e u' q => ?_)
      match e with
      | .returned x => exact ⟨put a hg x, by rw [← Act.put_comm a v x d2]; exact q⟩
      | .panicked c => exact hQ _ _ _ q
      | .outgrown => exact q
    | .ok (.row row args) u => exact Rows.mono (show Rows P row args u _ from k) (fun x u' q => ⟨put a hg x, by rw [← Act.put_comm a v x d2]; exact q⟩)
    | .ok (.round ..) u => exact k.elim
    | .halt x u =>
      cases x with
      | panic y => exact hQ _ _ _ k
      | _ => exact False.elim k

theorem wpG_first {i : Nat} {oi : Oper} {v : Value} (hi : ops[i]? = some oi) (hsel : ∀ (j : Nat) (o : Oper) cs b, ops[j]? = some o → o.op ≠ .select cs b) (hQ : ∀ c a w, Q (.panic c) (a.put oi.dst v) w → Q (.panic c) a w)
    (hcl : ∀ w u, S w → Gr w u → S u) : ∀ (n : Nat) (l : Array Bool) (a : Act) (w : World),
      (∀ j oj, ops[j]? = some oj → j ≠ i → l.getD j true = false → (∀ e ∈ oj.after, Region.binds md e = true → e.on ≠ i) → oi.apart ops oj = true) →
      i ∈ Region.ready md ops l → Gives P ops S oi v a → wpG P md ops Q S n (l.setIfInBounds i true) (a.put oi.dst v) w → wpG P md ops Q S (n + 1) l a w := by
  intro n
  induction n with
  | zero =>
    intro l a w _ hr hg H v' g hS
    refine ⟨fun h => absurd (h ▸ hr) (by simp), fun j hj => ?_⟩
    by_cases e : j = i
    · subst e
      exact hg.step hi hS (fun u k => ⟨hcl _ _ hS k, wpG_gr H (g.trans k)⟩)
    · have := ready_mono hj e
      rw [H.1] at this
      cases this
  | succ n ih =>
    intro l a w hfr hr hg H v' g hS
    refine ⟨fun h => absurd (h ▸ hr) (by simp), fun j hj => ?_⟩
    by_cases e : j = i
    · subst e
      exact hg.step hi hS (fun u k => ⟨hcl _ _ hS k, wpG_gr H (g.trans k)⟩)
    · obtain ⟨hun, oj, hoj, hall⟩ := mem_ready.1 hj
      have hno : ∀ e ∈ oj.after, Region.binds md e = true → e.on ≠ i := by
        intro e he hb q
        have q1 := hall e he hb
        have q0 := (mem_ready.1 hr).1
        rw [q] at q1
        by_cases hl : i < l.size
        · simp only [Array.getD_eq_getD_getElem?, Array.getElem?_eq_getElem hl, Option.getD_some] at q0 q1
          rw [q0] at q1
          cases q1
        · rw [Array.getD_eq_getD_getElem?, Array.getElem?_eq_none (by omega)] at q1
          cases q1
      have h2 := wpOp_apart hoj (hfr j oj hoj e hun hno) (fun cs b => hsel i oi cs b hi) (fun cs b => hsel j oj cs b hoj) hQ hg ((H v' g hS).2 j (ready_mono hj e))
      refine wpOp_mono (fun b u k => ⟨k.2.1, ?_⟩) h2
      refine ih _ b u (fun p op hp hpi hup hnp => hfr p op hp hpi ?_ hnp) (ready_mono hr (Ne.symm e)) k.1 ?_
      · by_cases hjp : j = p
        · subst hjp; exact hun
        · rw [getD_set_ne true hjp] at hup; exact hup
      · rw [Array.setIfInBounds_comm _ _ e]
        exact k.2.2

theorem wpG_take {i : Nat} {oi : Oper} {v : Value} {n : Nat} {l : Array Bool} {a : Act} {w : World} (hcl : ∀ w u, S w → Gr w u → S u) (hi : ops[i]? = some oi) (hs : Region.noSelect ops = true) (hf : Region.free md ops l i = true)
    (hr : (Region.ready md ops l).contains i = true) (hQ : ∀ c a w, Q (.panic c) (a.put oi.dst v) w → Q (.panic c) a w) (hw : Region.wanted oi (yielded ops a.tmps) = true) (hy : ∀ w, S w → (execOp a.eval oi).run P w = .ok (.value v) w)
    (h : wpG P md ops Q S n (l.setIfInBounds i true) (a.put oi.dst v) w) : wpG P md ops Q S (n + 1) l a w :=
  wpG_first hi (Region.noSelect_spec hs) hQ hcl n l a w (Region.free_spec hi hf) (by simpa using hr) (.value hw hy) h
theorem wpG_call {i : Nat} {oi : Oper} {v : Value} {f : FuncId} {args : Array Value} {n : Nat} {l : Array Bool} {a : Act} {w : World} (hcl : ∀ w u, S w → Gr w u → S u) (hi : ops[i]? = some oi) (hs : Region.noSelect ops = true) (hf : Region.free md ops l i = true)
    (hr : (Region.ready md ops l).contains i = true) (hQ : ∀ c a w, Q (.panic c) (a.put oi.dst v) w → Q (.panic c) a w) (hc : ∀ w, S w → Calls P f args w fun e w' => e = .returned v ∧ Gr w w') (hw : Region.wanted oi (yielded ops a.tmps) = true) (hy : ∀ w, S w → (execOp a.eval oi).run P w = .ok (.enter f args) w)
    (h : wpG P md ops Q S n (l.setIfInBounds i true) (a.put oi.dst v) w) : wpG P md ops Q S (n + 1) l a w :=
  wpG_first hi (Region.noSelect_spec hs) hQ hcl n l a w (Region.free_spec hi hf) (by simpa using hr) (.call f args hw hy hc) h
theorem wpG_skip {i : Nat} {oi : Oper} {n : Nat} {l : Array Bool} {a : Act} {w : World} (hcl : ∀ w u, S w → Gr w u → S u) (hi : ops[i]? = some oi) (hs : Region.noSelect ops = true) (hf : Region.free md ops l i = true)
    (hr : (Region.ready md ops l).contains i = true) (hQ : ∀ c a w, Q (.panic c) (a.put oi.dst undef) w → Q (.panic c) a w) (hw : Region.wanted oi (yielded ops a.tmps) = false)
    (h : wpG P md ops Q S n (l.setIfInBounds i true) (a.put oi.dst undef) w) : wpG P md ops Q S (n + 1) l a w :=
  wpG_first hi (Region.noSelect_spec hs) hQ hcl n l a w (Region.free_spec hi hf) (by simpa using hr) (.not hw rfl) h

/-- Each of these comes up next. -/
def AllG (P : Program) (md : Region.Mode) (ops : Array Oper) (Q : Exit → Act → World → Prop) (S : World → Prop) (n : Nat) (l : Array Bool) (a : Act) (w : World) (rs : List Nat) : Prop :=
  ∀ i ∈ rs, wpOp P ops Q i (fun b u => S u ∧ wpG P md ops Q S n (l.setIfInBounds i true) b u) a w
theorem AllG.nil {n : Nat} {l : Array Bool} {a : Act} {w : World} : AllG P md ops Q S n l a w [] := fun _ h => by cases h
theorem AllG.cons {n : Nat} {l : Array Bool} {a : Act} {w : World} {i : Nat} {o : Oper} {rs : List Nat} (ho : ops[i]? = some o)
    (h : ∀ K : Act → World → Prop, Shut (∀ b u, S u → wpG P md ops Q S n (l.setIfInBounds i true) b u → K b u) → if Region.wanted o (yielded ops a.tmps) = true then Oper.wp P o a w K Q else K (a.put o.dst undef) w)
    (hs : AllG P md ops Q S n l a w rs) : AllG P md ops Q S n l a w (i :: rs) := fun j hj => by
  rcases List.mem_cons.1 hj with rfl | hj
  · exact wpOp_step ho (fun K hK => h K (fun b u hS hW => hK b u ⟨hS, hW⟩))
  · exact hs j hj
theorem wpG_ready {rs : List Nat} {n : Nat} {l : Array Bool} {a : Act} {w : World} (hr : Region.ready md ops l = rs) (hne : rs ≠ []) (h : ∀ v, Gr w v → S v → AllG P md ops Q S n l a v rs) : wpG P md ops Q S (n + 1) l a w :=
  fun v g hS => ⟨fun h0 => absurd (hr ▸ h0) hne, hr ▸ h v g hS⟩
theorem wpG_done {l : Array Bool} {a : Act} {w : World} (hr : Region.ready md ops l = []) (h : ∀ v, Gr w v → Q .normal a v) : ∀ n, wpG P md ops Q S n l a w
  | 0 => ⟨hr, h⟩
  | n + 1 => fun v g _ => ⟨fun _ => h v g, by rw [hr]; simp⟩
theorem wp_region_grow {id : Nat} {a : Act} {w : World} (hm : P.follows .mixedOrders = true) (hS : S w.drew) (h : wpG P .any ops Q S ops.size (Array.replicate ops.size false) a w.drew) : (Code.region id ops true).wp P Q a w :=
  wp_region_any hm (wpAny_of_wpG _ _ _ _ hS h)

end

/-- A call that leaves the world as it was. -/
theorem calls_gr {P : Program} {f : FuncId} {args : Array Value} {v : Value} {w : World} (h : Calls P f args w fun e w' => e = .returned v ∧ w' = w) : Calls P f args w fun e w' => e = .returned v ∧ Gr w w' :=
  h.mono (by rintro e w' ⟨rfl, rfl⟩; exact ⟨rfl, Gr.refl _⟩)
theorem CellsAt.newAt (W : World) (t : TypeId) (c : Array Value) {B : Nat} (h : W.heap.size = B) : CellsAt (W.alloc (.cells c t)) B t c := h ▸ CellsAt.new W t c
theorem gr_closed (u : World) : ∀ w v, Gr u w → Gr w v → Gr u v := fun _ _ h k => h.trans k
theorem gb_closed (B : Nat) (u : World) : ∀ w v, GB B u w → Gr w v → GB B u v := fun _ _ h k => h.gr k

end Go.Proofs.Ytbdglbpkbpedoaa
