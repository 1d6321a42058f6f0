import Derived.RegionTactic
import Derived.Deep.RegionHeld
import Derived.ChangeSlices
import Derived.Test.YtcgeabpibkejpaaGreatUS3
namespace Go.Proofs.YtcgeabpibkejpaaGreat
section
open Go.ChangeShapes Go.WideShapes Go.ChangeAt Go.RowKit
set_option linter.unusedVariables false
set_option maxRecDepth 100000
section
variable {P : Program} {ops : Array Oper} {Q : Exit → Act → World → Prop} {md : Region.Mode} {S : World → Prop}
def wpG (P : Program) (md : Region.Mode) (ops : Array Oper) (Q : Exit → Act → World → Prop) (S : World → Prop) : Nat → Array Bool → Act → World → Prop
 | 0, l, a, w => Region.ready md ops l = [] ∧ ∀ v, Gr w v → Q .normal a v
 | n + 1, l, a, w => ∀ v, Gr w v → S v → (Region.ready md ops l = [] → Q .normal a v) ∧ ∀ i ∈ Region.ready md ops l, wpOp P ops Q i (fun b u => S u ∧ wpG P md ops Q S n (l.setIfInBounds i true) b u) a v
theorem wpG_gr {n : Nat} {l : Array Bool} {a : Act} {w u : World} (h : wpG P md ops Q S n l a w) (g : Gr w u) : wpG P md ops Q S n l a u := by
 cases n with
 | zero => exact ⟨h.1, fun v k => h.2 v (g.trans k)⟩
 | succ n => exact fun v k hS => h v (g.trans k) hS
theorem wpAny_of_wpG : ∀ (n : Nat) (l : Array Bool) (a : Act) (w : World), S w → wpG P md ops Q S n l a w → wpAny P md ops Q n l a w
 | 0, l, a, w, hS, h => ⟨h.1, h.2 w (Gr.refl w)⟩
 | n + 1, l, a, w, hS, h =>
   have H := h w (Gr.refl w) hS
   ⟨H.1, fun i hi => wpOp_mono (fun b u k => wpAny_of_wpG n _ b u k.1 k.2) (H.2 i hi)⟩
inductive Gives (P : Program) (ops : Array Oper) (S : World → Prop) (o : Oper) (v : Value) (a : Act) : Prop where
 | value (hw : Region.wanted o (yielded ops a.tmps) = true) (h : ∀ w, S w → (execOp a.eval o).run P w = .ok (.value v) w) : Gives P ops S o v a
 | call (f : FuncId) (args : Array Value) (hw : Region.wanted o (yielded ops a.tmps) = true) (h : ∀ w, S w → (execOp a.eval o).run P w = .ok (.enter f args) w)
  (hc : ∀ w, S w → Calls P f args w fun e w' => e = .returned v ∧ Gr w w') : Gives P ops S o v a
 | not (hw : Region.wanted o (yielded ops a.tmps) = false) (hv : v = undef) : Gives P ops S o v a
theorem Gives.like {o : Oper} {v : Value} {a b : Act} (h : Gives P ops S o v a) (he : execOp b.eval o = execOp a.eval o) (hw : Region.wanted o (yielded ops b.tmps) = Region.wanted o (yielded ops a.tmps)) : Gives P ops S o v b := by
 cases h with
 | value k h => exact .value (hw.trans k) (fun w hS => by rw [he]; exact h w hS)
 | call f args k h hc => exact .call f args (hw.trans k) (fun w hS => by rw [he]; exact h w hS) hc
 | not k hv => exact .not (hw.trans k) hv
theorem Gives.step {i : Nat} {o : Oper} {v : Value} {a : Act} (hi : ops[i]? = some o) (h : Gives P ops S o v a) {K : Act → World → Prop} {w : World} (hS : S w) (hK : ∀ u, Gr w u → K (a.put o.dst v) u) : wpOp P ops Q i K a w := by
 unfold wpOp
 rw [hi]
 cases h with
 | value k h =>
   simp only [k, if_true]
   refine .inl ?_
   unfold Oper.wp
   rw [h w hS]
   exact hK w (Gr.refl w)
 | call f args k h hc =>
   simp only [k, if_true]
   refine .inl ?_
   unfold Oper.wp
   rw [h w hS, Oper.upon_enter]
   refine (hc w hS).mono ?_
   rintro e u ⟨rfl, g⟩
   exact hK u g
 | not k hv =>
   subst hv
   simp only [k, Bool.false_eq_true, if_false]
   exact hK w (Gr.refl w)
theorem wpOp_apart {j : Nat} {oi oj : Oper} {v : Value} (hj : ops[j]? = some oj) (hap : oi.apart ops oj = true) (hsi : ∀ cs b, oi.op ≠ .select cs b) (hsj : ∀ cs b, oj.op ≠ .select cs b)
 (hQ : ∀ c a w, Q (.panic c) (a.put oi.dst v) w → Q (.panic c) a w) {K : Act → World → Prop} {a : Act} {w : World} (hg : Gives P ops S oi v a) (h : wpOp P ops Q j K (a.put oi.dst v) w) :
 wpOp P ops Q j (fun b u => Gives P ops S oi v b ∧ K (b.put oi.dst v) u) a w := by
 obtain ⟨d1, d2, d3⟩ := Oper.apart_spec hap
 have put : ∀ b, Gives P ops S oi v b → ∀ u, Gives P ops S oi v (b.put oj.dst u) := fun b k u => k.like (execOp_put oi hsi b oj.dst u d3) (wanted_put oi b oj.dst u d3)
 unfold wpOp at h ⊢
 rw [hj] at h ⊢
 simp only at h ⊢
 rw [wanted_put oj a oi.dst v d1] at h
 cases hw : Region.wanted oj (yielded ops a.tmps)
 ·simp only [hw, Bool.false_eq_true, if_false] at h ⊢
  exact ⟨put a hg _, by rw [← Act.put_comm a v undef d2]; exact h⟩
 ·simp only [hw, if_true] at h ⊢
  refine h.imp (fun k => ?_) (fun k => ⟨by unfold Oper.asks at k ⊢; rw [← execOp_put oj hsj a oi.dst v d1]; exact k.1, k.2⟩)
  unfold Oper.wp at k ⊢
  rw [execOp_put oj hsj a oi.dst v d1] at k
  generalize (execOp a.eval oj).run P w = r at k ⊢
  match r with
  | .ok (.value x) u => exact ⟨put a hg x, by rw [← Act.put_comm a v x d2]; exact k⟩
  | .ok .skip u => exact ⟨put a hg undef, by rw [← Act.put_comm a v undef d2]; exact k⟩
  | .ok (.defer d) u => exact ⟨put { a with defers := d :: a.defers } (hg.like rfl rfl) undef, by rw [← Act.put_comm _ v undef d2, ← Act.put_defers]; exact k⟩
  | .ok (.enter f args) u =>
    refine Calls.mono (show Calls P f args u _ from k) (fun e u' q => ?_)
    match e with
    | .returned x => exact ⟨put a hg x, by rw [← Act.put_comm a v x d2]; exact q⟩
    | .panicked c => exact hQ _ _ _ q
    | .outgrown => exact q
  | .ok (.row row args) u => exact Rows.mono (show Rows P row args u _ from k) (fun x u' q => ⟨put a hg x, by rw [← Act.put_comm a v x d2]; exact q⟩)
  | .ok (.round ..) u => exact k.elim
  | .halt x u =>
    cases x with
    | panic y => exact hQ _ _ _ k
    | _ => exact False.elim k
theorem wpG_first {i : Nat} {oi : Oper} {v : Value} (hi : ops[i]? = some oi) (hsel : ∀ (j : Nat) (o : Oper) cs b, ops[j]? = some o → o.op ≠ .select cs b) (hQ : ∀ c a w, Q (.panic c) (a.put oi.dst v) w → Q (.panic c) a w)
 (hcl : ∀ w u, S w → Gr w u → S u) : ∀ (n : Nat) (l : Array Bool) (a : Act) (w : World),
  (∀ j oj, ops[j]? = some oj → j ≠ i → l.getD j true = false → (∀ e ∈ oj.after, Region.binds md e = true → e.on ≠ i) → oi.apart ops oj = true) →
  i ∈ Region.ready md ops l → Gives P ops S oi v a → wpG P md ops Q S n (l.setIfInBounds i true) (a.put oi.dst v) w → wpG P md ops Q S (n + 1) l a w := by
 intro n
 induction n with
 | zero =>
   intro l a w _ hr hg H v' g hS
   refine ⟨fun h => absurd (h ▸ hr) (by simp), fun j hj => ?_⟩
   by_cases e : j = i
   ·subst e
    exact hg.step hi hS (fun u k => ⟨hcl _ _ hS k, wpG_gr H (g.trans k)⟩)
   ·have := ready_mono hj e
    rw [H.1] at this
    cases this
 | succ n ih =>
   intro l a w hfr hr hg H v' g hS
   refine ⟨fun h => absurd (h ▸ hr) (by simp), fun j hj => ?_⟩
   by_cases e : j = i
   ·subst e
    exact hg.step hi hS (fun u k => ⟨hcl _ _ hS k, wpG_gr H (g.trans k)⟩)
   ·obtain ⟨hun, oj, hoj, hall⟩ := mem_ready.1 hj
    have hno : ∀ e ∈ oj.after, Region.binds md e = true → e.on ≠ i := by
     intro e he hb q
     have q1 := hall e he hb
     have q0 := (mem_ready.1 hr).1
     rw [q] at q1
     by_cases hl : i < l.size
     ·simp only [Array.getD_eq_getD_getElem?, Array.getElem?_eq_getElem hl, Option.getD_some] at q0 q1
      rw [q0] at q1
      cases q1
     ·rw [Array.getD_eq_getD_getElem?, Array.getElem?_eq_none (by omega)] at q1
      cases q1
    have h2 := wpOp_apart hoj (hfr j oj hoj e hun hno) (fun cs b => hsel i oi cs b hi) (fun cs b => hsel j oj cs b hoj) hQ hg ((H v' g hS).2 j (ready_mono hj e))
    refine wpOp_mono (fun b u k => ⟨k.2.1, ?_⟩) h2
    refine ih _ b u (fun p op hp hpi hup hnp => hfr p op hp hpi ?_ hnp) (ready_mono hr (Ne.symm e)) k.1 ?_
    ·by_cases hjp : j = p
     ·subst hjp; exact hun
     ·rw [getD_set_ne true hjp] at hup; exact hup
    ·rw [Array.setIfInBounds_comm _ _ e]
     exact k.2.2
theorem wpG_take {i : Nat} {oi : Oper} {v : Value} {n : Nat} {l : Array Bool} {a : Act} {w : World} (hcl : ∀ w u, S w → Gr w u → S u) (hi : ops[i]? = some oi) (hs : Region.noSelect ops = true) (hf : Region.free md ops l i = true)
 (hr : (Region.ready md ops l).contains i = true) (hQ : ∀ c a w, Q (.panic c) (a.put oi.dst v) w → Q (.panic c) a w) (hw : Region.wanted oi (yielded ops a.tmps) = true) (hy : ∀ w, S w → (execOp a.eval oi).run P w = .ok (.value v) w)
 (h : wpG P md ops Q S n (l.setIfInBounds i true) (a.put oi.dst v) w) : wpG P md ops Q S (n + 1) l a w :=
 wpG_first hi (Region.noSelect_spec hs) hQ hcl n l a w (Region.free_spec hi hf) (by simpa using hr) (.value hw hy) h
theorem wpG_call {i : Nat} {oi : Oper} {v : Value} {f : FuncId} {args : Array Value} {n : Nat} {l : Array Bool} {a : Act} {w : World} (hcl : ∀ w u, S w → Gr w u → S u) (hi : ops[i]? = some oi) (hs : Region.noSelect ops = true) (hf : Region.free md ops l i = true)
 (hr : (Region.ready md ops l).contains i = true) (hQ : ∀ c a w, Q (.panic c) (a.put oi.dst v) w → Q (.panic c) a w) (hc : ∀ w, S w → Calls P f args w fun e w' => e = .returned v ∧ Gr w w') (hw : Region.wanted oi (yielded ops a.tmps) = true) (hy : ∀ w, S w → (execOp a.eval oi).run P w = .ok (.enter f args) w)
 (h : wpG P md ops Q S n (l.setIfInBounds i true) (a.put oi.dst v) w) : wpG P md ops Q S (n + 1) l a w :=
 wpG_first hi (Region.noSelect_spec hs) hQ hcl n l a w (Region.free_spec hi hf) (by simpa using hr) (.call f args hw hy hc) h
theorem wpG_skip {i : Nat} {oi : Oper} {n : Nat} {l : Array Bool} {a : Act} {w : World} (hcl : ∀ w u, S w → Gr w u → S u) (hi : ops[i]? = some oi) (hs : Region.noSelect ops = true) (hf : Region.free md ops l i = true)
 (hr : (Region.ready md ops l).contains i = true) (hQ : ∀ c a w, Q (.panic c) (a.put oi.dst undef) w → Q (.panic c) a w) (hw : Region.wanted oi (yielded ops a.tmps) = false)
 (h : wpG P md ops Q S n (l.setIfInBounds i true) (a.put oi.dst undef) w) : wpG P md ops Q S (n + 1) l a w :=
 wpG_first hi (Region.noSelect_spec hs) hQ hcl n l a w (Region.free_spec hi hf) (by simpa using hr) (.not hw rfl) h
def AllG (P : Program) (md : Region.Mode) (ops : Array Oper) (Q : Exit → Act → World → Prop) (S : World → Prop) (n : Nat) (l : Array Bool) (a : Act) (w : World) (rs : List Nat) : Prop :=
 ∀ i ∈ rs, wpOp P ops Q i (fun b u => S u ∧ wpG P md ops Q S n (l.setIfInBounds i true) b u) a w
theorem AllG.nil {n : Nat} {l : Array Bool} {a : Act} {w : World} : AllG P md ops Q S n l a w [] := fun _ h => by cases h
theorem AllG.cons {n : Nat} {l : Array Bool} {a : Act} {w : World} {i : Nat} {o : Oper} {rs : List Nat} (ho : ops[i]? = some o)
 (h : ∀ K : Act → World → Prop, Shut (∀ b u, S u → wpG P md ops Q S n (l.setIfInBounds i true) b u → K b u) → if Region.wanted o (yielded ops a.tmps) = true then Oper.wp P o a w K Q else K (a.put o.dst undef) w)
 (hs : AllG P md ops Q S n l a w rs) : AllG P md ops Q S n l a w (i :: rs) := fun j hj => by
 rcases List.mem_cons.1 hj with rfl | hj
 ·exact wpOp_step ho (fun K hK => h K (fun b u hS hW => hK b u ⟨hS, hW⟩))
 ·exact hs j hj
theorem wpG_ready {rs : List Nat} {n : Nat} {l : Array Bool} {a : Act} {w : World} (hr : Region.ready md ops l = rs) (hne : rs ≠ []) (h : ∀ v, Gr w v → S v → AllG P md ops Q S n l a v rs) : wpG P md ops Q S (n + 1) l a w :=
 fun v g hS => ⟨fun h0 => absurd (hr ▸ h0) hne, hr ▸ h v g hS⟩
theorem wpG_done {l : Array Bool} {a : Act} {w : World} (hr : Region.ready md ops l = []) (h : ∀ v, Gr w v → Q .normal a v) : ∀ n, wpG P md ops Q S n l a w
 | 0 => ⟨hr, h⟩
 | n + 1 => fun v g _ => ⟨fun _ => h v g, by rw [hr]; simp⟩
theorem wp_region_grow {id : Nat} {a : Act} {w : World} (hm : P.follows .mixedOrders = true) (hS : S w.drew) (h : wpG P .any ops Q S ops.size (Array.replicate ops.size false) a w.drew) : (Code.region id ops true).wp P Q a w :=
 wp_region_any hm (wpAny_of_wpG _ _ _ _ hS h)
end
theorem calls_gr {P : Program} {f : FuncId} {args : Array Value} {v : Value} {w : World} (h : Calls P f args w fun e w' => e = .returned v ∧ w' = w) : Calls P f args w fun e w' => e = .returned v ∧ Gr w w' :=
 h.mono (by rintro e w' ⟨rfl, rfl⟩; exact ⟨rfl, Gr.refl _⟩)
theorem CellsAt.newAt (W : World) (t : TypeId) (c : Array Value) {B : Nat} (h : W.heap.size = B) : CellsAt (W.alloc (.cells c t)) B t c := h ▸ CellsAt.new W t c
theorem gr_closed (u : World) : ∀ w v, Gr u w → Gr w v → Gr u v := fun _ _ h k => h.trans k
theorem gb_closed (B : Nat) (u : World) : ∀ w v, GB B u w → Gr w v → GB B u v := fun _ _ h k => h.gr k
end
section
theorem gT {P : Program} {ops : Array Oper} {Q : Exit → Act → World → Prop} {md : Region.Mode} {S : World → Prop} (i : Nat) (hcl : ∀ w u, S w → Gr w u → S u) {oi : Oper} {v : Value} {n : Nat} {l l' : Array Bool} {a a' : Act} {w : World} (h : wpG P md ops Q S n l' a' w) (hi : ops[i]? = some oi := by rfl) (hs : Region.noSelect ops = true := by kernel_rfl) (hf : Region.free md ops l i = true := by kernel_rfl) (hr : (Region.ready md ops l).contains i = true := by kernel_rfl) (hQ : ∀ c a w, Q (.panic c) (a.put oi.dst v) w → Q (.panic c) a w := by exact fun _ _ _ h => h) (hw : Region.wanted oi (yielded ops a.tmps) = true := by rfl) (hy : ∀ w, S w → (execOp a.eval oi).run P w = .ok (.value v) w := by (intro w' hSw; go_simp; try with_reducible rfl)) (hl : l.setIfInBounds i true = l' := by first | (simp only [List.setIfInBounds_toArray, List.set_cons_zero, List.set_cons_succ] <;> rfl) | rfl) (ha : a.put oi.dst v = a' := by first | (simp only [Act.put, List.setIfInBounds_toArray, List.set_cons_zero, List.set_cons_succ, List.getElem_toArray, List.getElem_cons_zero, List.getElem_cons_succ] <;> rfl) | rfl) : wpG P md ops Q S (n + 1) l a w := by
  subst hl ha
  exact wpG_take hcl hi hs hf hr hQ hw hy h
theorem gK {P : Program} {ops : Array Oper} {Q : Exit → Act → World → Prop} {md : Region.Mode} {S T : World → Prop} (i : Nat) (hcl : ∀ w u, S w → Gr w u → S u) (KS : ∀ w, S w → T w) {oi : Oper} {v : Value} {n : Nat} {l l' : Array Bool} {a a' : Act} {w : World} (h : wpG P md ops Q S n l' a' w) (hi : ops[i]? = some oi := by rfl) (hs : Region.noSelect ops = true := by kernel_rfl) (hf : Region.free md ops l i = true := by kernel_rfl) (hr : (Region.ready md ops l).contains i = true := by kernel_rfl) (hQ : ∀ c a w, Q (.panic c) (a.put oi.dst v) w → Q (.panic c) a w := by exact fun _ _ _ h => h) (hw : Region.wanted oi (yielded ops a.tmps) = true := by rfl) (hy : ∀ w, S w → T w → (execOp a.eval oi).run P w = .ok (.value v) w := by (intro w' hSw hk; (try dsimp only at hk); go_split_ands; go_simp; try with_reducible rfl)) (hl : l.setIfInBounds i true = l' := by first | (simp only [List.setIfInBounds_toArray, List.set_cons_zero, List.set_cons_succ] <;> rfl) | rfl) (ha : a.put oi.dst v = a' := by first | (simp only [Act.put, List.setIfInBounds_toArray, List.set_cons_zero, List.set_cons_succ, List.getElem_toArray, List.getElem_cons_zero, List.getElem_cons_succ] <;> rfl) | rfl) : wpG P md ops Q S (n + 1) l a w := by
  subst hl ha
  exact wpG_take hcl hi hs hf hr hQ hw (fun w hS => hy w hS (KS w hS)) h
end
section
open Go.ChangeShapes Go.WideShapes Go.ChangeAt Go.RowKit
set_option linter.unusedVariables false
set_option linter.unusedSimpArgs false
set_option maxRecDepth 100000
theorem isOneOf_c (v f m l : Int) (hl : wrap64 (f + m) = l) (b : Bool) (hb : decide (f ≤ v ∧ v < l) = b) (w : World) :
 Calls Tryz.prog 124 #[.int .i64 v, .int .i64 f, .int .i64 m] w fun e w' => e = .returned (.bool b) ∧ w' = w := by
 subst hb
 by_cases h1 : f ≤ v
 ·by_cases h2 : v < l
  ·have e : decide (f ≤ v ∧ v < l) = true := by simp [h1, h2]
   rw [e]
   go_enter Tryz.func124, Tryz.ntmps124
   go_wp2_with fail
   go_ret
   exact ⟨rfl, rfl⟩
  ·have e : decide (f ≤ v ∧ v < l) = false := by simp [h2]
   rw [e]
   go_enter Tryz.func124, Tryz.ntmps124
   go_wp2_with fail
   go_ret
   exact ⟨rfl, rfl⟩
 ·have e : decide (f ≤ v ∧ v < l) = false := by simp [h1]
  rw [e]
  go_enter Tryz.func124, Tryz.ntmps124
  go_wp2_with fail
  go_ret
  exact ⟨rfl, rfl⟩
set_option maxHeartbeats 2000000 in
theorem fieldsMayBe_g (fo lo ke sc mo : Int) (iv b0 b1 b2 b3 b4 : Bool) (H0 : Hid (∀ W, Calls Tryz.prog 124 #[.int .i64 fo, .int .i64 0, .int .i64 2] W fun e w' => e = .returned (.bool b0) ∧ w' = W)) (H1 : Hid (∀ W, Calls Tryz.prog 124 #[.int .i64 lo, .int .i64 2, .int .i64 5] W fun e w' => e = .returned (.bool b1) ∧ w' = W)) (H2 : Hid (∀ W, Calls Tryz.prog 124 #[.int .i64 ke, .int .i64 0, .int .i64 3] W fun e w' => e = .returned (.bool b2) ∧ w' = W)) (H3 : Hid (∀ W, Calls Tryz.prog 124 #[.int .i64 sc, .int .i64 0, .int .i64 3] W fun e w' => e = .returned (.bool b3) ∧ w' = W)) (H4 : Hid (∀ W, Calls Tryz.prog 124 #[.int .i64 mo, .int .i64 0, .int .i64 3] W fun e w' => e = .returned (.bool b4) ∧ w' = W)) (w : World) :
 Calls Tryz.prog 96 #[.agg #[.int .i64 fo, .int .i64 lo, .int .i64 ke, .int .i64 sc, .int .i64 mo, .bool iv]] w fun e w' => e = .returned (.bool (b0 && (b1 && (b2 && (b3 && b4))))) ∧ Gr w w' := by
 cases b0
 ·skip
  go_enter Tryz.func96, Tryz.ntmps96
  go_wp2_with (go_at_call 124; (first | with_reducible refine (H0.out _).mono ?_ | with_reducible refine (H1.out _).mono ?_ | with_reducible refine (H2.out _).mono ?_ | with_reducible refine (H3.out _).mono ?_ | with_reducible refine (H4.out _).mono ?_); rintro e w1 ⟨rfl, rfl⟩)
  go_ret
  exact ⟨rfl, by repeat (first | exact Gr.refl _ | apply Gr.drew | apply Gr.alloc)⟩
 ·skip
  cases b1
  ·skip
   go_enter Tryz.func96, Tryz.ntmps96
   go_wp2_with (go_at_call 124; (first | with_reducible refine (H0.out _).mono ?_ | with_reducible refine (H1.out _).mono ?_ | with_reducible refine (H2.out _).mono ?_ | with_reducible refine (H3.out _).mono ?_ | with_reducible refine (H4.out _).mono ?_); rintro e w1 ⟨rfl, rfl⟩)
   go_ret
   exact ⟨rfl, by repeat (first | exact Gr.refl _ | apply Gr.drew | apply Gr.alloc)⟩
  ·skip
   cases b2
   ·skip
    go_enter Tryz.func96, Tryz.ntmps96
    go_wp2_with (go_at_call 124; (first | with_reducible refine (H0.out _).mono ?_ | with_reducible refine (H1.out _).mono ?_ | with_reducible refine (H2.out _).mono ?_ | with_reducible refine (H3.out _).mono ?_ | with_reducible refine (H4.out _).mono ?_); rintro e w1 ⟨rfl, rfl⟩)
    go_ret
    exact ⟨rfl, by repeat (first | exact Gr.refl _ | apply Gr.drew | apply Gr.alloc)⟩
   ·skip
    cases b3
    ·skip
     go_enter Tryz.func96, Tryz.ntmps96
     go_wp2_with (go_at_call 124; (first | with_reducible refine (H0.out _).mono ?_ | with_reducible refine (H1.out _).mono ?_ | with_reducible refine (H2.out _).mono ?_ | with_reducible refine (H3.out _).mono ?_ | with_reducible refine (H4.out _).mono ?_); rintro e w1 ⟨rfl, rfl⟩)
     go_ret
     exact ⟨rfl, by repeat (first | exact Gr.refl _ | apply Gr.drew | apply Gr.alloc)⟩
    ·skip
     cases b4
     ·skip
      go_enter Tryz.func96, Tryz.ntmps96
      go_wp2_with (go_at_call 124; (first | with_reducible refine (H0.out _).mono ?_ | with_reducible refine (H1.out _).mono ?_ | with_reducible refine (H2.out _).mono ?_ | with_reducible refine (H3.out _).mono ?_ | with_reducible refine (H4.out _).mono ?_); rintro e w1 ⟨rfl, rfl⟩)
      go_ret
      exact ⟨rfl, by repeat (first | exact Gr.refl _ | apply Gr.drew | apply Gr.alloc)⟩
     ·skip
      go_enter Tryz.func96, Tryz.ntmps96
      go_wp2_with (go_at_call 124; (first | with_reducible refine (H0.out _).mono ?_ | with_reducible refine (H1.out _).mono ?_ | with_reducible refine (H2.out _).mono ?_ | with_reducible refine (H3.out _).mono ?_ | with_reducible refine (H4.out _).mono ?_); rintro e w1 ⟨rfl, rfl⟩)
      go_ret
      exact ⟨rfl, by repeat (first | exact Gr.refl _ | apply Gr.drew | apply Gr.alloc)⟩
theorem fieldsMayBe_c (fo lo ke sc mo : Int) (iv : Bool) (w : World) :
 Calls Tryz.prog 96 #[.agg #[.int .i64 fo, .int .i64 lo, .int .i64 ke, .int .i64 sc, .int .i64 mo, .bool iv]] w fun e w' => e = .returned (.bool (fieldsOk fo lo ke sc mo)) ∧ Gr w w' :=
 fieldsMayBe_g fo lo ke sc mo iv _ _ _ _ _ (Lib.hid fun W => isOneOf_c fo 0 2 2 (by rw [IntWalk.wrap64_in _ ⟨by omega, by omega⟩]; rfl) _ rfl W) (Lib.hid fun W => isOneOf_c lo 2 5 7 (by rw [IntWalk.wrap64_in _ ⟨by omega, by omega⟩]; rfl) _ rfl W) (Lib.hid fun W => isOneOf_c ke 0 3 3 (by rw [IntWalk.wrap64_in _ ⟨by omega, by omega⟩]; rfl) _ rfl W) (Lib.hid fun W => isOneOf_c sc 0 3 3 (by rw [IntWalk.wrap64_in _ ⟨by omega, by omega⟩]; rfl) _ rfl W) (Lib.hid fun W => isOneOf_c mo 0 3 3 (by rw [IntWalk.wrap64_in _ ⟨by omega, by omega⟩]; rfl) _ rfl W) w
set_option maxHeartbeats 1000000 in
theorem check_g (fo lo ke sc mo : Int) (iv b : Bool) (HF : CR 96 #[.agg #[.int .i64 fo, .int .i64 lo, .int .i64 ke, .int .i64 sc, .int .i64 mo, .bool iv]] (.bool b)) (w : World) :
 Calls Tryz.prog 65 #[.agg #[.int .i64 fo, .int .i64 lo, .int .i64 ke, .int .i64 sc, .int .i64 mo, .bool iv]] w fun e w' => e = .returned (.int .i64 (if (b && !(decide (ke = 2) && !decide (sc = 0))) = true then 0 else 4)) ∧ Gr w w' := by
 cases b
 ·skip
  go_enter Tryz.func65, Tryz.ntmps65
  go_wp2_with fail
  obtain ⟨u0, hu⟩ : ∃ uu, uu = w.alloc (.cells #[.int .i64 fo, .int .i64 lo, .int .i64 ke, .int .i64 sc, .int .i64 mo, .bool iv] 24) := ⟨_, rfl⟩
  have R0 : CellsAt u0 w.heap.size 24 #[.int .i64 fo, .int .i64 lo, .int .i64 ke, .int .i64 sc, .int .i64 mo, .bool iv] := by rw [hu]; exact CellsAt.new w 24 #[.int .i64 fo, .int .i64 lo, .int .i64 ke, .int .i64 sc, .int .i64 mo, .bool iv]
  have gu : Gr w u0 := by rw [hu]; exact (Gr.refl w).alloc _ _
  rw [← hu]
  clear hu
  refine (HF.out _).mono ?_
  rintro e w1 ⟨rfl, g1⟩
  have R1 := R0.gr g1
  have l1 := R1.lt
  have c2 := R1.cell 2
  have c3 := R1.cell 3
  simp only [getS] at c2 c3
  go_wp2_with fail
  go_ret
  exact ⟨rfl, by repeat (first | exact gu.trans g1 | apply Gr.drew | apply Gr.alloc)⟩
 by_cases hk : ke = 2
 ·subst hk
  by_cases hs : sc = 0
  ·subst hs
   go_enter Tryz.func65, Tryz.ntmps65
   go_wp2_with fail
   obtain ⟨u0, hu⟩ : ∃ uu, uu = w.alloc (.cells #[.int .i64 fo, .int .i64 lo, .int .i64 2, .int .i64 0, .int .i64 mo, .bool iv] 24) := ⟨_, rfl⟩
   have R0 : CellsAt u0 w.heap.size 24 #[.int .i64 fo, .int .i64 lo, .int .i64 2, .int .i64 0, .int .i64 mo, .bool iv] := by rw [hu]; exact CellsAt.new w 24 #[.int .i64 fo, .int .i64 lo, .int .i64 2, .int .i64 0, .int .i64 mo, .bool iv]
   have gu : Gr w u0 := by rw [hu]; exact (Gr.refl w).alloc _ _
   rw [← hu]
   clear hu
   refine (HF.out _).mono ?_
   rintro e w1 ⟨rfl, g1⟩
   have R1 := R0.gr g1
   have l1 := R1.lt
   have c2 := R1.cell 2
   have c3 := R1.cell 3
   simp only [getS] at c2 c3
   go_wp2_with fail
   go_ret
   exact ⟨rfl, by repeat (first | exact gu.trans g1 | apply Gr.drew | apply Gr.alloc)⟩
  ·have hs' : (sc != 0) = true := by simp [hs]
   have e : (if (true && !(decide ((2 : Int) = 2) && !decide (sc = 0))) = true then (0 : Int) else 4) = 4 := by simp [hs]
   rw [e]
   go_enter Tryz.func65, Tryz.ntmps65
   go_wp2_with fail
   obtain ⟨u0, hu⟩ : ∃ uu, uu = w.alloc (.cells #[.int .i64 fo, .int .i64 lo, .int .i64 2, .int .i64 sc, .int .i64 mo, .bool iv] 24) := ⟨_, rfl⟩
   have R0 : CellsAt u0 w.heap.size 24 #[.int .i64 fo, .int .i64 lo, .int .i64 2, .int .i64 sc, .int .i64 mo, .bool iv] := by rw [hu]; exact CellsAt.new w 24 #[.int .i64 fo, .int .i64 lo, .int .i64 2, .int .i64 sc, .int .i64 mo, .bool iv]
   have gu : Gr w u0 := by rw [hu]; exact (Gr.refl w).alloc _ _
   rw [← hu]
   clear hu
   refine (HF.out _).mono ?_
   rintro e w1 ⟨rfl, g1⟩
   have R1 := R0.gr g1
   have l1 := R1.lt
   have c2 := R1.cell 2
   have c3 := R1.cell 3
   simp only [getS] at c2 c3
   go_wp2_with fail
   go_ret
   exact ⟨rfl, by repeat (first | exact gu.trans g1 | apply Gr.drew | apply Gr.alloc)⟩
 ·have hk' : (ke == 2) = false := by simp [hk]
  have e : (if (true && !(decide (ke = 2) && !decide (sc = 0))) = true then (0 : Int) else 4) = 0 := by simp [hk]
  rw [e]
  go_enter Tryz.func65, Tryz.ntmps65
  go_wp2_with fail
  obtain ⟨u0, hu⟩ : ∃ uu, uu = w.alloc (.cells #[.int .i64 fo, .int .i64 lo, .int .i64 ke, .int .i64 sc, .int .i64 mo, .bool iv] 24) := ⟨_, rfl⟩
  have R0 : CellsAt u0 w.heap.size 24 #[.int .i64 fo, .int .i64 lo, .int .i64 ke, .int .i64 sc, .int .i64 mo, .bool iv] := by rw [hu]; exact CellsAt.new w 24 #[.int .i64 fo, .int .i64 lo, .int .i64 ke, .int .i64 sc, .int .i64 mo, .bool iv]
  have gu : Gr w u0 := by rw [hu]; exact (Gr.refl w).alloc _ _
  rw [← hu]
  clear hu
  refine (HF.out _).mono ?_
  rintro e w1 ⟨rfl, g1⟩
  have R1 := R0.gr g1
  have l1 := R1.lt
  have c2 := R1.cell 2
  have c3 := R1.cell 3
  simp only [getS] at c2 c3
  go_wp2_with fail
  go_ret
  exact ⟨rfl, by repeat (first | exact gu.trans g1 | apply Gr.drew | apply Gr.alloc)⟩
theorem check_c (fo lo ke sc mo : Int) (iv : Bool) (er : Int) (he : (if okF fo lo ke sc mo = true then 0 else 4) = er) (w : World) :
 Calls Tryz.prog 65 #[.agg #[.int .i64 fo, .int .i64 lo, .int .i64 ke, .int .i64 sc, .int .i64 mo, .bool iv]] w fun e w' => e = .returned (.int .i64 er) ∧ Gr w w' := by
 subst he
 exact check_g fo lo ke sc mo iv _ (Lib.hid fun W => fieldsMayBe_c fo lo ke sc mo iv W) w
end
section
open Go.ChangeShapes Go.WideShapes Go.ChangeAt Go.RowKit
set_option linter.unusedVariables false
set_option maxRecDepth 100000
def NumsAt (w : World) (v : Value) (xs : List Int) : Prop :=
 ∃ p cap, v = .slice p xs.length cap ∧ xs.length ≤ cap ∧ cap ≤ maxLen ∧ (xs ≠ [] → ∃ b o, p = some ⟨b, o, none⟩ ∧ b < w.heap.size ∧ ∀ j x, xs[j]? = some x → w.cell? ⟨b, o + j, none⟩ = some (.int .i64 x))
theorem NumsAt.gr {w w' : World} {v : Value} {xs : List Int} (h : NumsAt w v xs) (hg : Gr w w') : NumsAt w' v xs := by
 obtain ⟨p, cap, hv, hl, hm, hc⟩ := h
 refine ⟨p, cap, hv, hl, hm, fun hx => ?_⟩
 obtain ⟨b, o, hp, hb, hc⟩ := hc hx
 exact ⟨b, o, hp, Nat.lt_of_lt_of_le hb hg.size, fun j x hj => (hg.cell (p := ⟨b, o + j, none⟩) hb).trans (hc j x hj)⟩
theorem NumsAt.len {w : World} {v : Value} {xs : List Int} (h : NumsAt w v xs) : ∃ p cap, v = .slice p xs.length cap := by
 obtain ⟨p, cap, hv, _⟩ := h
 exact ⟨p, cap, hv⟩
theorem NumsAt.nil (w : World) : NumsAt w (.slice none 0 0) [] := ⟨none, 0, rfl, Nat.le_refl _, Nat.zero_le _, fun h => absurd rfl h⟩
theorem NumsAt.at {w : World} {v : Value} {xs : List Int} (h : NumsAt w v xs) (hx : xs ≠ []) : ∃ b o cap, v = .slice (some ⟨b, o, none⟩) xs.length cap ∧ xs.length ≤ 9223372036854775807 ∧ b < w.heap.size ∧ ∀ j x, xs[j]? = some x → w.cell? ⟨b, o + j, none⟩ = some (.int .i64 x) := by
 obtain ⟨p, cap, hv, hl, hm, hc⟩ := h
 obtain ⟨b, o, rfl, hb, hc⟩ := hc hx
 exact ⟨b, o, cap, hv, by unfold maxLen at hm; omega, hb, hc⟩
theorem NumsAt.of_ints {w : World} {v : Value} {xs : List Int} (h : IntsAt w v xs) : NumsAt w v xs := by
 rcases h with ⟨rfl, rfl⟩ | ⟨b, o, cap, rfl, hl, hm, hb, hc⟩
 ·exact NumsAt.nil w
 ·exact ⟨_, cap, rfl, hl, hm, fun _ => ⟨b, o, rfl, hb, hc⟩⟩
theorem NumsAt.of_row {w : World} {base n : Nat} {t : TypeId} {v : Value} {xs : List Int} (h : w.ownsRow base t 1 v n (xs.map (Value.int .i64))) : NumsAt w v xs := .of_ints (IntsAt.of_row h)
theorem NumsAt.cut {w : World} {p : Option Addr} {len cap : Nat} {xs : List Int} (h : NumsAt w (.slice p len cap) xs) (m : Nat) (hm : m ≤ len) : NumsAt w (.slice p m cap) (xs.take m) ∧ (xs.take m).length = m ∧ m ≤ cap ∧ cap ≤ maxLen := by
 obtain ⟨p', cap', hv, hl, hmx, hc⟩ := h
 cases hv
 have e : (xs.take m).length = m := by rw [List.length_take]; omega
 refine ⟨⟨p, cap, by rw [e], by rw [e]; omega, hmx, fun hne => ?_⟩, e, by omega, hmx⟩
 obtain ⟨b, o, hp, hb, hc⟩ := hc (by intro e; rw [e] at hne; simp at hne)
 refine ⟨b, o, hp, hb, fun j x hj => hc j x ?_⟩
 rw [List.getElem?_take] at hj
 split at hj
 ·exact hj
 ·cases hj
end
section
open Go.ChangeShapes Go.WideShapes Go.ChangeAt Go.RowKit
set_option linter.unusedVariables false
set_option linter.unusedSimpArgs false
set_option maxRecDepth 100000
def partIn (l h : Int) (a : Gi) : Bool := decide ((l ≤ a.re ∧ a.re ≤ h) ∧ (l ≤ a.im ∧ a.im ≤ h))
def partsB (l h : Int) (xs : List Gi) : Bool := xs.all (partIn l h)
theorem partsB_no {l h : Int} {xs : List Gi} {k : Nat} {a : Gi} (hk : xs[k]? = some a) (g : partIn l h a = false) : partsB l h xs = false := by
 unfold partsB
 rw [Bool.eq_false_iff, Ne, List.all_eq_true]
 intro H
 rw [H a (List.mem_of_getElem? hk)] at g
 cases g
theorem partsB_snoc {l h : Int} {xs : List Gi} {k : Nat} {a : Gi} (hk : xs[k]? = some a) (h1 : partsB l h (xs.take k) = true) (g : partIn l h a = true) : partsB l h (xs.take (k + 1)) = true := by
 rw [take_snoc hk]
 unfold partsB at *
 rw [List.all_append, h1]
 simp [g]
end
section
set_option linter.unusedVariables false
set_option maxRecDepth 100000
def upB (n : Int) (s : Nat) : Int := -(-n / 2 ^ s)
def baseB (k : Int) : Int := if k = 2 then 224 else 288
def stepB (e k sc s : Int) : Int := if sc = 2 then (if k = 2 then 2 * e + 608 else 4 * e + 1632) else if k = 2 then upB (2 * e) s.toNat + 224 else upB (4 * e) s.toNat + 288
def startB (sc : Int) : Int := if sc = 0 then 91 else 0
def topB (sc k : Int) : Int := if sc = 2 then 0 else if (sc = 1 ∧ k = 2) ∨ (sc = 0 ∧ k = 4) then 2 else if sc = 1 then 3 else 1
def fitB (sc k l : Int) : Bool := decide (0 ≤ l ∧ l ≤ topB sc k) && (decide (sc = 1) || decide (l = topB sc k))
def fitsB (sc : Int) : List Gi → List Int → Bool
 | [], [] => true
 | p :: ps, l :: ls => fitB sc p.re l && fitsB sc ps ls
 | _, _ => false
def runB (sc : Int) (e : Int) : List Gi → List Int → Int
 | p :: ps, l :: ls => runB sc (stepB e p.re sc l) ps ls
 | _, _ => e
def ofB (sc ke lo : Int) (l : List Int) : Int := runB sc (startB sc) (passL ke lo) l + (if ke = 2 then 224 * lo else 0)
def mayB (e k sc s : Int) : Bool := decide (0 ≤ e ∧ e ≤ 1099511627776) && ((decide (k = 2) || decide (k = 4)) && (decide (0 ≤ sc ∧ sc ≤ 2) && decide (0 ≤ s ∧ s ≤ 3)))
theorem mayB_iff {e k sc s : Int} : mayB e k sc s = true ↔ (0 ≤ e ∧ e ≤ 1099511627776) ∧ (k = 2 ∨ k = 4) ∧ (0 ≤ sc ∧ sc ≤ 2) ∧ (0 ≤ s ∧ s ≤ 3) := by simp [mayB]
theorem fitB_iff {sc k l : Int} : fitB sc k l = true ↔ (0 ≤ l ∧ l ≤ topB sc k) ∧ (sc = 1 ∨ l = topB sc k) := by simp [fitB]
theorem upB_pos (a : Int) (s : Nat) (h : 0 ≤ a) (hs : s ≤ 4) : 0 ≤ upB a s ∧ upB a s ≤ a ∧ a ≤ 16 * upB a s := by
 have hs : s = 0 ∨ s = 1 ∨ s = 2 ∨ s = 3 ∨ s = 4 := by omega
 unfold upB
 rcases hs with rfl | rfl | rfl | rfl | rfl <;> simp only [Int.reducePow] <;> omega
theorem stepB_pos (e k sc s : Int) (he : 0 ≤ e) (hs : s ≤ 4) : 0 ≤ stepB e k sc s ∧ stepB e k sc s ≤ 4 * e + 1632 := by
 have h2 := upB_pos (2 * e) s.toNat (by omega) (by omega)
 have h4 := upB_pos (4 * e) s.toNat (by omega) (by omega)
 unfold stepB
 repeat' split
 all_goals omega
theorem topB_le (sc k : Int) : 0 ≤ topB sc k ∧ topB sc k ≤ 3 := by
 unfold topB
 repeat' split
 all_goals omega
theorem fitsB_len (sc : Int) (ps : List Gi) : ∀ ls : List Int, fitsB sc ps ls = true → ls.length = ps.length := by
 induction ps with
 | nil => intro ls h; cases ls with | nil => rfl | cons l ls => cases h
 | cons p ps ih =>
   intro ls h
   cases ls with
   | nil => cases h
   | cons l ls =>
     simp only [fitsB, Bool.and_eq_true] at h
     simp [ih ls h.2]
theorem fitsB_fixed (sc : Int) (hsc : sc ≠ 1) (ps : List Gi) : ∀ ls : List Int, fitsB sc ps ls = true → ls = ps.map fun p => topB sc p.re := by
 induction ps with
 | nil => intro ls h; cases ls with | nil => rfl | cons l ls => cases h
 | cons p ps ih =>
   intro ls h
   cases ls with
   | nil => cases h
   | cons l ls =>
     simp only [fitsB, Bool.and_eq_true, fitB_iff] at h
     rw [List.map_cons, ← ih ls h.2]
     rcases h.1.2 with e | e
     ·exact absurd e hsc
     ·rw [e]
theorem half_least (ke lo : Int) (l : List Int) (k0 : 0 ≤ ke) (k1 : ke < 3) (h0 : 2 ≤ lo) (h1 : lo < 7) (hf : fitsB 0 (passL ke lo) l = true) : ofB 0 ke lo l ≤ 64 * (6 * lo + 4) := by
 rw [fitsB_fixed 0 (by decide) _ _ hf]
 have hk : ke = 0 ∨ ke = 1 ∨ ke = 2 := by omega
 have hl : lo = 2 ∨ lo = 3 ∨ lo = 4 ∨ lo = 5 ∨ lo = 6 := by omega
 rcases hk with rfl | rfl | rfl <;> rcases hl with rfl | rfl | rfl | rfl | rfl <;> decide +kernel
theorem passG_kern (ke lo n : Int) : ∀ (f : Nat) (h : Int), ∀ x ∈ passG ke lo n f h, x.re = 2 ∨ x.re = 4
 | 0, h, x, hx => by cases hx
 | f + 1, h, x, hx => by
   unfold passG at hx
   split at hx
   ·rcases List.mem_cons.1 hx with rfl | hx
    ·simp only [passK]; split <;> simp
    ·exact passG_kern ke lo n f _ x hx
   ·cases hx
theorem passL_kern (ke lo : Int) : ∀ x ∈ passL ke lo, x.re = 2 ∨ x.re = 4 := by
 unfold passL
 split
 ·intro x hx; cases hx
 ·exact passG_kern _ _ _ _ _
theorem passL_len6 (ke lo : Int) (k0 : 0 ≤ ke) (k1 : ke < 3) (h0 : 2 ≤ lo) (h1 : lo < 7) : (passL ke lo).length ≤ 6 := by
 have hk : ke = 0 ∨ ke = 1 ∨ ke = 2 := by omega
 have hl : lo = 2 ∨ lo = 3 ∨ lo = 4 ∨ lo = 5 ∨ lo = 6 := by omega
 rcases hk with rfl | rfl | rfl <;> rcases hl with rfl | rfl | rfl | rfl | rfl <;> decide +kernel
theorem runB_snoc (sc : Int) (p : Gi) (l : Int) : ∀ (ps : List Gi) (ls : List Int) (e : Int), ps.length = ls.length → runB sc e (ps ++ [p]) (ls ++ [l]) = stepB (runB sc e ps ls) p.re sc l
 | [], [], e, _ => rfl
 | [], l' :: ls, e, h => by simp at h
 | p' :: ps, [], e, h => by simp at h
 | p' :: ps, l' :: ls, e, h => by
   simp only [List.cons_append, runB]
   exact runB_snoc sc p l ps ls _ (by simpa using h)
theorem fitsB_at (sc : Int) (ps : List Gi) : ∀ (ls : List Int) (j : Nat) (p : Gi) (l : Int), fitsB sc ps ls = true → ps[j]? = some p → ls[j]? = some l → fitB sc p.re l = true := by
 induction ps with
 | nil => intro ls j p l hf hp; cases hp
 | cons q ps ih =>
   intro ls j p l hf hp hl
   cases ls with
   | nil => cases hl
   | cons m ls =>
     simp only [fitsB, Bool.and_eq_true] at hf
     cases j with
     | zero => simp only [List.getElem?_cons_zero, Option.some.injEq] at hp hl; rw [← hp, ← hl]; exact hf.1
     | succ j => exact ih ls j p l hf.2 (by simpa using hp) (by simpa using hl)
theorem fitsB_off (sc : Int) (ps : List Gi) : ∀ (ls : List Int) (j : Nat) (p : Gi) (l : Int), ps[j]? = some p → ls[j]? = some l → fitB sc p.re l = false → fitsB sc ps ls = false := by
 intro ls j p l hp hl h
 cases hf : fitsB sc ps ls
 ·rfl
 ·rw [fitsB_at sc ps ls j p l hf hp hl] at h; cases h
theorem fitsB_all (sc : Int) (ps : List Gi) : ∀ (ls : List Int), ps.length = ls.length → (∀ (j : Nat) p l, ps[j]? = some p → ls[j]? = some l → fitB sc p.re l = true) → fitsB sc ps ls = true := by
 induction ps with
 | nil => intro ls h _; cases ls with | nil => rfl | cons l ls => simp at h
 | cons q ps ih =>
   intro ls h hf
   cases ls with
   | nil => simp at h
   | cons m ls =>
     simp only [fitsB, Bool.and_eq_true]
     exact ⟨hf 0 q m rfl rfl, ih ls (by simpa using h) fun j p l hp hl => hf (j + 1) p l (by simpa using hp) (by simpa using hl)⟩
def lostB (sc ke lo : Int) (ls : List Int) (j : Nat) : Int := runB sc (startB sc) ((passL ke lo).take j) (ls.take j)
theorem runB_le (sc : Int) : ∀ (ps : List Gi) (ls : List Int) (e : Int), 0 ≤ e → (∀ (j : Nat) p l, ps[j]? = some p → ls[j]? = some l → fitB sc p.re l = true) → 0 ≤ runB sc e ps ls ∧ runB sc e ps ls + 1000 ≤ (e + 1000) * 4 ^ ps.length
 | [], ls, e, h, _ => by simp [runB, h]
 | p :: ps, [], e, h, _ => by
   refine ⟨h, ?_⟩
   have : (1 : Int) ≤ 4 ^ (p :: ps).length := Int.pow_pos (by decide)
   have := Int.mul_le_mul_of_nonneg_left this (show 0 ≤ e + 1000 by omega)
   simp only [runB]
   omega
 | p :: ps, l :: ls, e, h, hf => by
   have h0 := fitB_iff.1 (hf 0 p l rfl rfl)
   have ht := topB_le sc p.re
   have hs := stepB_pos e p.re sc l h (by omega)
   have ih := runB_le sc ps ls (stepB e p.re sc l) hs.1 (fun j p l hp hl => hf (j + 1) p l (by simpa using hp) (by simpa using hl))
   refine ⟨ih.1, Int.le_trans ih.2 ?_⟩
   have hp : (0 : Int) ≤ 4 ^ ps.length := Int.le_of_lt (Int.pow_pos (by decide))
   have h1 := Int.mul_le_mul_of_nonneg_right (show stepB e p.re sc l + 1000 ≤ (e + 1000) * 4 by omega) hp
   rw [List.length_cons, Int.pow_succ, Int.mul_comm (4 ^ ps.length) 4, ← Int.mul_assoc]
   exact h1
theorem lostB_nums (sc ke lo : Int) (ls : List Int) (j : Nat) (k0 : 0 ≤ ke) (k1 : ke < 3) (h0 : 2 ≤ lo) (h1 : lo < 7) (hf : fitsB sc (passL ke lo) ls = true) : 0 ≤ lostB sc ke lo ls j ∧ lostB sc ke lo ls j ≤ 16777216 := by
 have h6 := passL_len6 ke lo k0 k1 h0 h1
 have hst : 0 ≤ startB sc ∧ startB sc ≤ 91 := by unfold startB; split <;> omega
 have hr := runB_le sc ((passL ke lo).take j) (ls.take j) (startB sc) hst.1 (fun i p l hp hl => by
  rw [List.getElem?_take] at hp hl
  split at hp
  ·rename_i hij
   rw [if_pos hij] at hl
   exact fitsB_at sc _ ls i p l hf hp hl
  ·cases hp)
 refine ⟨hr.1, ?_⟩
 have hlen : ((passL ke lo).take j).length ≤ 6 := by rw [List.length_take]; omega
 have h4 : (4 : Int) ^ ((passL ke lo).take j).length ≤ 4 ^ 6 := by
  generalize ((passL ke lo).take j).length = m at *
  have : m = 0 ∨ m = 1 ∨ m = 2 ∨ m = 3 ∨ m = 4 ∨ m = 5 ∨ m = 6 := by omega
  rcases this with rfl | rfl | rfl | rfl | rfl | rfl | rfl <;> decide
 have hp : (0 : Int) ≤ 4 ^ ((passL ke lo).take j).length := Int.le_of_lt (Int.pow_pos (by decide))
 generalize (4 : Int) ^ ((passL ke lo).take j).length = q at *
 have h2 := Int.mul_le_mul_of_nonneg_right (show startB sc + 1000 ≤ 1091 by omega) hp
 have h3 : lostB sc ke lo ls j = runB sc (startB sc) ((passL ke lo).take j) (ls.take j) := rfl
 omega
end
end Go.Proofs.YtcgeabpibkejpaaGreat
