import Derived.RegionTactic
import Derived.Deep.RegionHeld
import Derived.ChangeSlices
import Derived.Test.YtdignnmpfkgkoaaGreatRealBinsS3
namespace Go.Proofs.YtdignnmpfkgkoaaGreat
section
open Go.ChangeShapes Go.WideShapes Go.ChangeAt Go.RowKit
set_option linter.unusedVariables false
set_option maxRecDepth 100000
set_option maxHeartbeats 16000000
section
variable {P : Program} {ops : Array Oper} {Q : Exit → Act → World → Prop} {md : Region.Mode} {S : World → Prop}
def wpG (P : Program) (md : Region.Mode) (ops : Array Oper) (Q : Exit → Act → World → Prop) (S : World → Prop) : Nat → Array Bool → Act → World → Prop
 | 0, l, a, w => Region.ready md ops l = [] ∧ ∀ v, Gr w v → Q .normal a v
 | n + 1, l, a, w => ∀ v, Gr w v → S v → (Region.ready md ops l = [] → Q .normal a v) ∧ ∀ i ∈ Region.ready md ops l, wpOp P ops Q i (fun b u => S u ∧ wpG P md ops Q S n (l.setIfInBounds i true) b u) a v
theorem wpG_gr {n : Nat} {l : Array Bool} {a : Act} {w u : World} (h : wpG P md ops Q S n l a w) (g : Gr w u) : wpG P md ops Q S n l a u := by
 cases n with
 | zero => exact ⟨h.1, fun v k => h.2 v (g.trans k)⟩
 | succ n => exact fun v k hS => h v (g.trans k) hS
theorem wpAny_of_wpG : ∀ (n : Nat) (l : Array Bool) (a : Act) (w : World), S w → wpG P md ops Q S n l a w → wpAny P md ops Q n l a w
 | 0, l, a, w, hS, h => ⟨h.1, h.2 w (Gr.refl w)⟩
 | n + 1, l, a, w, hS, h =>
   have H := h w (Gr.refl w) hS
   ⟨H.1, fun i hi => wpOp_mono (fun b u k => wpAny_of_wpG n _ b u k.1 k.2) (H.2 i hi)⟩
inductive Gives (P : Program) (ops : Array Oper) (S : World → Prop) (o : Oper) (v : Value) (a : Act) : Prop where
 | value (hw : Region.wanted o (yielded ops a.tmps) = true) (h : ∀ w, S w → (execOp a.eval o).run P w = .ok (.value v) w) : Gives P ops S o v a
 | call (f : FuncId) (args : Array Value) (hw : Region.wanted o (yielded ops a.tmps) = true) (h : ∀ w, S w → (execOp a.eval o).run P w = .ok (.enter f args) w)
  (hc : ∀ w, S w → Calls P f args w fun e w' => e = .returned v ∧ Gr w w') : Gives P ops S o v a
 | not (hw : Region.wanted o (yielded ops a.tmps) = false) (hv : v = undef) : Gives P ops S o v a
theorem Gives.like {o : Oper} {v : Value} {a b : Act} (h : Gives P ops S o v a) (he : execOp b.eval o = execOp a.eval o) (hw : Region.wanted o (yielded ops b.tmps) = Region.wanted o (yielded ops a.tmps)) : Gives P ops S o v b := by
 cases h with
 | value k h => exact .value (hw.trans k) (fun w hS => by rw [he]; exact h w hS)
 | call f args k h hc => exact .call f args (hw.trans k) (fun w hS => by rw [he]; exact h w hS) hc
 | not k hv => exact .not (hw.trans k) hv
theorem Gives.step {i : Nat} {o : Oper} {v : Value} {a : Act} (hi : ops[i]? = some o) (h : Gives P ops S o v a) {K : Act → World → Prop} {w : World} (hS : S w) (hK : ∀ u, Gr w u → K (a.put o.dst v) u) : wpOp P ops Q i K a w := by
 unfold wpOp
 rw [hi]
 cases h with
 | value k h =>
   simp only [k, if_true]
   refine .inl ?_
   unfold Oper.wp
   rw [h w hS]
   exact hK w (Gr.refl w)
 | call f args k h hc =>
   simp only [k, if_true]
   refine .inl ?_
   unfold Oper.wp
   rw [h w hS, Oper.upon_enter]
   refine (hc w hS).mono ?_
   rintro e u ⟨rfl, g⟩
   exact hK u g
 | not k hv =>
   subst hv
   simp only [k, Bool.false_eq_true, if_false]
   exact hK w (Gr.refl w)
theorem wpOp_apart {j : Nat} {oi oj : Oper} {v : Value} (hj : ops[j]? = some oj) (hap : oi.apart ops oj = true) (hsi : ∀ cs b, oi.op ≠ .select cs b) (hsj : ∀ cs b, oj.op ≠ .select cs b)
 (hQ : ∀ c a w, Q (.panic c) (a.put oi.dst v) w → Q (.panic c) a w) {K : Act → World → Prop} {a : Act} {w : World} (hg : Gives P ops S oi v a) (h : wpOp P ops Q j K (a.put oi.dst v) w) :
 wpOp P ops Q j (fun b u => Gives P ops S oi v b ∧ K (b.put oi.dst v) u) a w := by
 obtain ⟨d1, d2, d3⟩ := Oper.apart_spec hap
 have put : ∀ b, Gives P ops S oi v b → ∀ u, Gives P ops S oi v (b.put oj.dst u) := fun b k u => k.like (execOp_put oi hsi b oj.dst u d3) (wanted_put oi b oj.dst u d3)
 unfold wpOp at h ⊢
 rw [hj] at h ⊢
 simp only at h ⊢
 rw [wanted_put oj a oi.dst v d1] at h
 cases hw : Region.wanted oj (yielded ops a.tmps)
 ·simp only [hw, Bool.false_eq_true, if_false] at h ⊢
  exact ⟨put a hg _, by rw [← Act.put_comm a v undef d2]; exact h⟩
 ·simp only [hw, if_true] at h ⊢
  refine h.imp (fun k => ?_) (fun k => ⟨by unfold Oper.asks at k ⊢; rw [← execOp_put oj hsj a oi.dst v d1]; exact k.1, k.2⟩)
  unfold Oper.wp at k ⊢
  rw [execOp_put oj hsj a oi.dst v d1] at k
  generalize (execOp a.eval oj).run P w = r at k ⊢
  match r with
  | .ok (.value x) u => exact ⟨put a hg x, by rw [← Act.put_comm a v x d2]; exact k⟩
  | .ok .skip u => exact ⟨put a hg undef, by rw [← Act.put_comm a v undef d2]; exact k⟩
  | .ok (.defer d) u => exact ⟨put { a with defers := d :: a.defers } (hg.like rfl rfl) undef, by rw [← Act.put_comm _ v undef d2, ← Act.put_defers]; exact k⟩
  | .ok (.enter f args) u =>
    refine Calls.mono (show Calls P f args u _ from k) (fun e u' q => ?_)
    match e with
    | .returned x => exact ⟨put a hg x, by rw [← Act.put_comm a v x d2]; exact q⟩
    | .panicked c => exact hQ _ _ _ q
    | .outgrown => exact q
  | .ok (.row row args) u => exact Rows.mono (show Rows P row args u _ from k) (fun x u' q => ⟨put a hg x, by rw [← Act.put_comm a v x d2]; exact q⟩)
  | .ok (.round ..) u => exact k.elim
  | .halt x u =>
    cases x with
    | panic y => exact hQ _ _ _ k
    | _ => exact False.elim k
theorem wpG_first {i : Nat} {oi : Oper} {v : Value} (hi : ops[i]? = some oi) (hsel : ∀ (j : Nat) (o : Oper) cs b, ops[j]? = some o → o.op ≠ .select cs b) (hQ : ∀ c a w, Q (.panic c) (a.put oi.dst v) w → Q (.panic c) a w)
 (hcl : ∀ w u, S w → Gr w u → S u) : ∀ (n : Nat) (l : Array Bool) (a : Act) (w : World),
  (∀ j oj, ops[j]? = some oj → j ≠ i → l.getD j true = false → (∀ e ∈ oj.after, Region.binds md e = true → e.on ≠ i) → oi.apart ops oj = true) →
  i ∈ Region.ready md ops l → Gives P ops S oi v a → wpG P md ops Q S n (l.setIfInBounds i true) (a.put oi.dst v) w → wpG P md ops Q S (n + 1) l a w := by
 intro n
 induction n with
 | zero =>
   intro l a w _ hr hg H v' g hS
   refine ⟨fun h => absurd (h ▸ hr) (by simp), fun j hj => ?_⟩
   by_cases e : j = i
   ·subst e
    exact hg.step hi hS (fun u k => ⟨hcl _ _ hS k, wpG_gr H (g.trans k)⟩)
   ·have := ready_mono hj e
    rw [H.1] at this
    cases this
 | succ n ih =>
   intro l a w hfr hr hg H v' g hS
   refine ⟨fun h => absurd (h ▸ hr) (by simp), fun j hj => ?_⟩
   by_cases e : j = i
   ·subst e
    exact hg.step hi hS (fun u k => ⟨hcl _ _ hS k, wpG_gr H (g.trans k)⟩)
   ·obtain ⟨hun, oj, hoj, hall⟩ := mem_ready.1 hj
    have hno : ∀ e ∈ oj.after, Region.binds md e = true → e.on ≠ i := by
     intro e he hb q
     have q1 := hall e he hb
     have q0 := (mem_ready.1 hr).1
     rw [q] at q1
     by_cases hl : i < l.size
     ·simp only [Array.getD_eq_getD_getElem?, Array.getElem?_eq_getElem hl, Option.getD_some] at q0 q1
      rw [q0] at q1
      cases q1
     ·rw [Array.getD_eq_getD_getElem?, Array.getElem?_eq_none (by omega)] at q1
      cases q1
    have h2 := wpOp_apart hoj (hfr j oj hoj e hun hno) (fun cs b => hsel i oi cs b hi) (fun cs b => hsel j oj cs b hoj) hQ hg ((H v' g hS).2 j (ready_mono hj e))
    refine wpOp_mono (fun b u k => ⟨k.2.1, ?_⟩) h2
    refine ih _ b u (fun p op hp hpi hup hnp => hfr p op hp hpi ?_ hnp) (ready_mono hr (Ne.symm e)) k.1 ?_
    ·by_cases hjp : j = p
     ·subst hjp; exact hun
     ·rw [getD_set_ne true hjp] at hup; exact hup
    ·rw [Array.setIfInBounds_comm _ _ e]
     exact k.2.2
theorem wpG_take {i : Nat} {oi : Oper} {v : Value} {n : Nat} {l : Array Bool} {a : Act} {w : World} (hcl : ∀ w u, S w → Gr w u → S u) (hi : ops[i]? = some oi) (hs : Region.noSelect ops = true) (hf : Region.free md ops l i = true)
 (hr : (Region.ready md ops l).contains i = true) (hQ : ∀ c a w, Q (.panic c) (a.put oi.dst v) w → Q (.panic c) a w) (hw : Region.wanted oi (yielded ops a.tmps) = true) (hy : ∀ w, S w → (execOp a.eval oi).run P w = .ok (.value v) w)
 (h : wpG P md ops Q S n (l.setIfInBounds i true) (a.put oi.dst v) w) : wpG P md ops Q S (n + 1) l a w :=
 wpG_first hi (Region.noSelect_spec hs) hQ hcl n l a w (Region.free_spec hi hf) (by simpa using hr) (.value hw hy) h
theorem wpG_call {i : Nat} {oi : Oper} {v : Value} {f : FuncId} {args : Array Value} {n : Nat} {l : Array Bool} {a : Act} {w : World} (hcl : ∀ w u, S w → Gr w u → S u) (hi : ops[i]? = some oi) (hs : Region.noSelect ops = true) (hf : Region.free md ops l i = true)
 (hr : (Region.ready md ops l).contains i = true) (hQ : ∀ c a w, Q (.panic c) (a.put oi.dst v) w → Q (.panic c) a w) (hc : ∀ w, S w → Calls P f args w fun e w' => e = .returned v ∧ Gr w w') (hw : Region.wanted oi (yielded ops a.tmps) = true) (hy : ∀ w, S w → (execOp a.eval oi).run P w = .ok (.enter f args) w)
 (h : wpG P md ops Q S n (l.setIfInBounds i true) (a.put oi.dst v) w) : wpG P md ops Q S (n + 1) l a w :=
 wpG_first hi (Region.noSelect_spec hs) hQ hcl n l a w (Region.free_spec hi hf) (by simpa using hr) (.call f args hw hy hc) h
def AllG (P : Program) (md : Region.Mode) (ops : Array Oper) (Q : Exit → Act → World → Prop) (S : World → Prop) (n : Nat) (l : Array Bool) (a : Act) (w : World) (rs : List Nat) : Prop :=
 ∀ i ∈ rs, wpOp P ops Q i (fun b u => S u ∧ wpG P md ops Q S n (l.setIfInBounds i true) b u) a w
theorem AllG.nil {n : Nat} {l : Array Bool} {a : Act} {w : World} : AllG P md ops Q S n l a w [] := fun _ h => by cases h
theorem AllG.cons {n : Nat} {l : Array Bool} {a : Act} {w : World} {i : Nat} {o : Oper} {rs : List Nat} (ho : ops[i]? = some o)
 (h : ∀ K : Act → World → Prop, Shut (∀ b u, S u → wpG P md ops Q S n (l.setIfInBounds i true) b u → K b u) → if Region.wanted o (yielded ops a.tmps) = true then Oper.wp P o a w K Q else K (a.put o.dst undef) w)
 (hs : AllG P md ops Q S n l a w rs) : AllG P md ops Q S n l a w (i :: rs) := fun j hj => by
 rcases List.mem_cons.1 hj with rfl | hj
 ·exact wpOp_step ho (fun K hK => h K (fun b u hS hW => hK b u ⟨hS, hW⟩))
 ·exact hs j hj
theorem wpG_ready {rs : List Nat} {n : Nat} {l : Array Bool} {a : Act} {w : World} (hr : Region.ready md ops l = rs) (hne : rs ≠ []) (h : ∀ v, Gr w v → S v → AllG P md ops Q S n l a v rs) : wpG P md ops Q S (n + 1) l a w :=
 fun v g hS => ⟨fun h0 => absurd (hr ▸ h0) hne, hr ▸ h v g hS⟩
theorem wpG_done {l : Array Bool} {a : Act} {w : World} (hr : Region.ready md ops l = []) (h : ∀ v, Gr w v → Q .normal a v) : ∀ n, wpG P md ops Q S n l a w
 | 0 => ⟨hr, h⟩
 | n + 1 => fun v g _ => ⟨fun _ => h v g, by rw [hr]; simp⟩
theorem wp_region_grow {id : Nat} {a : Act} {w : World} (hm : P.follows .mixedOrders = true) (hS : S w.drew) (h : wpG P .any ops Q S ops.size (Array.replicate ops.size false) a w.drew) : (Code.region id ops true).wp P Q a w :=
 wp_region_any hm (wpAny_of_wpG _ _ _ _ hS h)
end
theorem calls_gr {P : Program} {f : FuncId} {args : Array Value} {v : Value} {w : World} (h : Calls P f args w fun e w' => e = .returned v ∧ w' = w) : Calls P f args w fun e w' => e = .returned v ∧ Gr w w' :=
 h.mono (by rintro e w' ⟨rfl, rfl⟩; exact ⟨rfl, Gr.refl _⟩)
theorem CellsAt.newAt (W : World) (t : TypeId) (c : Array Value) {B : Nat} (h : W.heap.size = B) : CellsAt (W.alloc (.cells c t)) B t c := h ▸ CellsAt.new W t c
theorem gr_closed (u : World) : ∀ w v, Gr u w → Gr w v → Gr u v := fun _ _ h k => h.trans k
theorem gb_closed (B : Nat) (u : World) : ∀ w v, GB B u w → Gr w v → GB B u v := fun _ _ h k => h.gr k
end
section
set_option maxHeartbeats 16000000
theorem gT {P : Program} {ops : Array Oper} {Q : Exit → Act → World → Prop} {md : Region.Mode} {S : World → Prop} (i : Nat) (hcl : ∀ w u, S w → Gr w u → S u) {oi : Oper} {v : Value} {n : Nat} {l l' : Array Bool} {a a' : Act} {w : World} (h : wpG P md ops Q S n l' a' w) (hi : ops[i]? = some oi := by rfl) (hs : Region.noSelect ops = true := by kernel_rfl) (hf : Region.free md ops l i = true := by kernel_rfl) (hr : (Region.ready md ops l).contains i = true := by kernel_rfl) (hQ : ∀ c a w, Q (.panic c) (a.put oi.dst v) w → Q (.panic c) a w := by exact fun _ _ _ h => h) (hw : Region.wanted oi (yielded ops a.tmps) = true := by rfl) (hy : ∀ w, S w → (execOp a.eval oi).run P w = .ok (.value v) w := by (intro w' hSw; go_simp; try with_reducible rfl)) (hl : l.setIfInBounds i true = l' := by first | (simp only [List.setIfInBounds_toArray, List.set_cons_zero, List.set_cons_succ] <;> rfl) | rfl) (ha : a.put oi.dst v = a' := by first | (simp only [Act.put, List.setIfInBounds_toArray, List.set_cons_zero, List.set_cons_succ, List.getElem_toArray, List.getElem_cons_zero, List.getElem_cons_succ] <;> rfl) | rfl) : wpG P md ops Q S (n + 1) l a w := by
  subst hl ha
  exact wpG_take hcl hi hs hf hr hQ hw hy h
theorem gK {P : Program} {ops : Array Oper} {Q : Exit → Act → World → Prop} {md : Region.Mode} {S T : World → Prop} (i : Nat) (hcl : ∀ w u, S w → Gr w u → S u) (KS : ∀ w, S w → T w) {oi : Oper} {v : Value} {n : Nat} {l l' : Array Bool} {a a' : Act} {w : World} (h : wpG P md ops Q S n l' a' w) (hi : ops[i]? = some oi := by rfl) (hs : Region.noSelect ops = true := by kernel_rfl) (hf : Region.free md ops l i = true := by kernel_rfl) (hr : (Region.ready md ops l).contains i = true := by kernel_rfl) (hQ : ∀ c a w, Q (.panic c) (a.put oi.dst v) w → Q (.panic c) a w := by exact fun _ _ _ h => h) (hw : Region.wanted oi (yielded ops a.tmps) = true := by rfl) (hy : ∀ w, S w → T w → (execOp a.eval oi).run P w = .ok (.value v) w := by (intro w' hSw hk; (try dsimp only at hk); go_split_ands; go_simp; try with_reducible rfl)) (hl : l.setIfInBounds i true = l' := by first | (simp only [List.setIfInBounds_toArray, List.set_cons_zero, List.set_cons_succ] <;> rfl) | rfl) (ha : a.put oi.dst v = a' := by first | (simp only [Act.put, List.setIfInBounds_toArray, List.set_cons_zero, List.set_cons_succ, List.getElem_toArray, List.getElem_cons_zero, List.getElem_cons_succ] <;> rfl) | rfl) : wpG P md ops Q S (n + 1) l a w := by
  subst hl ha
  exact wpG_take hcl hi hs hf hr hQ hw (fun w hS => hy w hS (KS w hS)) h
theorem gR {P : Program} {ops : Array Oper} {Q : Exit → Act → World → Prop} {md : Region.Mode} {S : World → Prop} (i : Nat) {o : Oper} {n : Nat} {l : Array Bool} {a : Act} {w : World} (h : ∀ v, Gr w v → S v → ∀ K : Act → World → Prop, Shut (∀ b u, S u → wpG P md ops Q S n (l.setIfInBounds i true) b u → K b u) → if Region.wanted o (yielded ops a.tmps) = true then Oper.wp P o a v K Q else K (a.put o.dst undef) v) (hr : Region.ready md ops l = [i] := by kernel_rfl) (ho : ops[i]? = some o := by rfl) : wpG P md ops Q S (n + 1) l a w := wpG_ready hr (by simp) (fun v g s => AllG.cons ho (h v g s) AllG.nil)
theorem gC {P : Program} {ops : Array Oper} {Q : Exit → Act → World → Prop} {md : Region.Mode} {S : World → Prop} (i : Nat) (hcl : ∀ w u, S w → Gr w u → S u) {oi : Oper} {v : Value} {f : FuncId} {args : Array Value} {n : Nat} {l : Array Bool} {a : Act} {w : World} (hc : ∀ w, S w → Calls P f args w fun e w' => e = .returned v ∧ Gr w w') (h : wpG P md ops Q S n (l.setIfInBounds i true) (a.put oi.dst v) w) (hi : ops[i]? = some oi := by rfl) (hs : Region.noSelect ops = true := by kernel_rfl) (hf : Region.free md ops l i = true := by kernel_rfl) (hr : (Region.ready md ops l).contains i = true := by kernel_rfl) (hQ : ∀ c a w, Q (.panic c) (a.put oi.dst v) w → Q (.panic c) a w := by exact fun _ _ _ h => h) (hw : Region.wanted oi (yielded ops a.tmps) = true := by rfl) (hy : ∀ w, S w → (execOp a.eval oi).run P w = .ok (.enter f args) w := by (intro w' hSw; go_simp; try with_reducible rfl)) : wpG P md ops Q S (n + 1) l a w := wpG_call hcl hi hs hf hr hQ hc hw hy h
end
section
open Go.ChangeShapes Go.WideShapes Go.ChangeAt Go.RowKit
set_option linter.unusedVariables false
set_option linter.unusedSimpArgs false
set_option maxRecDepth 100000
set_option maxHeartbeats 16000000
theorem isOneOf_c (v f m l : Int) (hl : wrap64 (f + m) = l) (b : Bool) (hb : decide (f ≤ v ∧ v < l) = b) (w : World) :
 Calls Tryz.prog 164 #[v, f, m] w fun e w' => e = .returned (.bool b) ∧ w' = w := by
 subst hb
 by_cases h1 : f ≤ v
 ·by_cases h2 : v < l
  ·have e : decide (f ≤ v ∧ v < l) = true := by simp [h1, h2]
   rw [e];go_in;go_wp2_with fail
   go_ret
   exact ⟨rfl, rfl⟩
  ·have e : decide (f ≤ v ∧ v < l) = false := by simp [h2]
   rw [e];go_in;go_wp2_with fail
   go_ret
   exact ⟨rfl, rfl⟩
 ·have e : decide (f ≤ v ∧ v < l) = false := by simp [h1]
  rw [e];go_in;go_wp2_with fail
  go_ret
  exact ⟨rfl, rfl⟩
theorem one_c (v m : Int) (b : Bool) (hb : decide (0 ≤ v ∧ v < m + 1) = b) (w : World) :
 Calls Tryz.prog 75 #[v, m] w fun e w' => e = .returned (.bool b) ∧ w' = w := by
 subst hb
 by_cases h1 : 0 ≤ v
 ·by_cases h2 : v ≤ m
  ·have e : decide (0 ≤ v ∧ v < m + 1) = true := by simp [h1]; omega
   rw [e];go_in;go_wp2_with fail
   go_ret
   exact ⟨rfl, rfl⟩
  ·have e : decide (0 ≤ v ∧ v < m + 1) = false := by simp; omega
   rw [e];go_in;go_wp2_with fail
   go_ret
   exact ⟨rfl, rfl⟩
 ·have e : decide (0 ≤ v ∧ v < m + 1) = false := by simp [h1]
  rw [e];go_in;go_wp2_with fail
  go_ret
  exact ⟨rfl, rfl⟩
theorem fieldsMayBe_g (fo lo ke sc mo : Int) (iv b0 b1 b2 b3 b4 : Bool) (H0 : Hid (∀ W, Calls Tryz.prog 164 #[fo, .int .i64 0, .int .i64 2] W fun e w' => e = .returned (.bool b0) ∧ w' = W)) (H1 : Hid (∀ W, Calls Tryz.prog 164 #[lo, .int .i64 2, .int .i64 5] W fun e w' => e = .returned (.bool b1) ∧ w' = W)) (H2 : Hid (∀ W, Calls Tryz.prog 164 #[ke, .int .i64 0, .int .i64 3] W fun e w' => e = .returned (.bool b2) ∧ w' = W)) (H3 : Hid (∀ W, Calls Tryz.prog 164 #[sc, .int .i64 0, .int .i64 3] W fun e w' => e = .returned (.bool b3) ∧ w' = W)) (H4 : Hid (∀ W, Calls Tryz.prog 164 #[mo, .int .i64 0, .int .i64 3] W fun e w' => e = .returned (.bool b4) ∧ w' = W)) (w : World) :
 CW 123 #[.agg #[fo, lo, ke, sc, mo, iv]] w (.bool (b0 && (b1 && (b2 && (b3 && b4))))) :=by
 delta CW
 cases b0
 ·skip
  go_in
  go_wp2_with (go_at_call 164; (first | with_reducible refine (H0.out _).mono ?_ | with_reducible refine (H1.out _).mono ?_ | with_reducible refine (H2.out _).mono ?_ | with_reducible refine (H3.out _).mono ?_ | with_reducible refine (H4.out _).mono ?_); rintro e w1 ⟨rfl, rfl⟩)
  go_ret
  exact ⟨rfl, by repeat (first | exact Gr.refl _ | apply Gr.drew | apply Gr.alloc)⟩
 ·skip
  cases b1
  ·skip
   go_in
   go_wp2_with (go_at_call 164; (first | with_reducible refine (H0.out _).mono ?_ | with_reducible refine (H1.out _).mono ?_ | with_reducible refine (H2.out _).mono ?_ | with_reducible refine (H3.out _).mono ?_ | with_reducible refine (H4.out _).mono ?_); rintro e w1 ⟨rfl, rfl⟩)
   go_ret
   exact ⟨rfl, by repeat (first | exact Gr.refl _ | apply Gr.drew | apply Gr.alloc)⟩
  ·skip
   cases b2
   ·skip
    go_in
    go_wp2_with (go_at_call 164; (first | with_reducible refine (H0.out _).mono ?_ | with_reducible refine (H1.out _).mono ?_ | with_reducible refine (H2.out _).mono ?_ | with_reducible refine (H3.out _).mono ?_ | with_reducible refine (H4.out _).mono ?_); rintro e w1 ⟨rfl, rfl⟩)
    go_ret
    exact ⟨rfl, by repeat (first | exact Gr.refl _ | apply Gr.drew | apply Gr.alloc)⟩
   ·skip
    cases b3
    ·skip
     go_in
     go_wp2_with (go_at_call 164; (first | with_reducible refine (H0.out _).mono ?_ | with_reducible refine (H1.out _).mono ?_ | with_reducible refine (H2.out _).mono ?_ | with_reducible refine (H3.out _).mono ?_ | with_reducible refine (H4.out _).mono ?_); rintro e w1 ⟨rfl, rfl⟩)
     go_ret
     exact ⟨rfl, by repeat (first | exact Gr.refl _ | apply Gr.drew | apply Gr.alloc)⟩
    ·skip
     cases b4
     ·skip
      go_in
      go_wp2_with (go_at_call 164; (first | with_reducible refine (H0.out _).mono ?_ | with_reducible refine (H1.out _).mono ?_ | with_reducible refine (H2.out _).mono ?_ | with_reducible refine (H3.out _).mono ?_ | with_reducible refine (H4.out _).mono ?_); rintro e w1 ⟨rfl, rfl⟩)
      go_ret
      exact ⟨rfl, by repeat (first | exact Gr.refl _ | apply Gr.drew | apply Gr.alloc)⟩
     ·skip
      go_in
      go_wp2_with (go_at_call 164; (first | with_reducible refine (H0.out _).mono ?_ | with_reducible refine (H1.out _).mono ?_ | with_reducible refine (H2.out _).mono ?_ | with_reducible refine (H3.out _).mono ?_ | with_reducible refine (H4.out _).mono ?_); rintro e w1 ⟨rfl, rfl⟩)
      go_ret
      exact ⟨rfl, by repeat (first | exact Gr.refl _ | apply Gr.drew | apply Gr.alloc)⟩
theorem fieldsMayBe_c (fo lo ke sc mo : Int) (iv : Bool) (w : World) :
 Calls Tryz.prog 123 #[.agg #[fo, lo, ke, sc, mo, iv]] w fun e w' => e = .returned (.bool (fieldsOk fo lo ke sc mo)) ∧ Gr w w' :=
 fieldsMayBe_g fo lo ke sc mo iv _ _ _ _ _ (kh fun W => isOneOf_c fo 0 2 2 (by rw [IntWalk.wrap64_in _ ⟨by omega, by omega⟩]; rfl) _ rfl W) (kh fun W => isOneOf_c lo 2 5 7 (by rw [IntWalk.wrap64_in _ ⟨by omega, by omega⟩]; rfl) _ rfl W) (kh fun W => isOneOf_c ke 0 3 3 (by rw [IntWalk.wrap64_in _ ⟨by omega, by omega⟩]; rfl) _ rfl W) (kh fun W => isOneOf_c sc 0 3 3 (by rw [IntWalk.wrap64_in _ ⟨by omega, by omega⟩]; rfl) _ rfl W) (kh fun W => isOneOf_c mo 0 3 3 (by rw [IntWalk.wrap64_in _ ⟨by omega, by omega⟩]; rfl) _ rfl W) w
theorem check_g (fo lo ke sc mo : Int) (iv b : Bool) (HF : CR 123 #[.agg #[fo, lo, ke, sc, mo, iv]] (.bool b)) (w : World) :
 CW 71 #[.agg #[fo, lo, ke, sc, mo, iv]] w (.int .i64 (if (b && !(decide (ke = 2) && !decide (sc = 0))) = true then 0 else 4)) :=by
 delta CW
 cases b
 ·skip
  go_in;go_wp2_with fail
  obtain ⟨u0, hu⟩ : ∃ uu, uu = w.alloc (.cells #[fo, lo, ke, sc, mo, iv] 24) := ⟨_, rfl⟩
  have R0 : CellsAt u0 w.heap.size 24 #[fo, lo, ke, sc, mo, iv] := by rw [hu]; exact CellsAt.new w 24 #[fo, lo, ke, sc, mo, iv]
  have gu : Gr w u0 := by rw [hu]; exact (Gr.refl w).alloc _ _
  rw [← hu];clear hu;refine (HF.out _).mono ?_;rintro e w1 ⟨rfl, g1⟩;have R1 := R0.gr g1;have l1 := R1.lt;have c2 := R1.at 2;have c3 := R1.at 3;go_wp2_with fail
  go_ret
  exact ⟨rfl, by repeat (first | exact gu.trans g1 | apply Gr.drew | apply Gr.alloc)⟩
 by_cases hk : ke = 2
 ·subst hk
  by_cases hs : sc = 0
  ·subst hs
   go_in;go_wp2_with fail
   obtain ⟨u0, hu⟩ : ∃ uu, uu = w.alloc (.cells #[fo, lo, .int .i64 2, .int .i64 0, mo, iv] 24) := ⟨_, rfl⟩
   have R0 : CellsAt u0 w.heap.size 24 #[fo, lo, .int .i64 2, .int .i64 0, mo, iv] := by rw [hu]; exact CellsAt.new w 24 #[fo, lo, .int .i64 2, .int .i64 0, mo, iv]
   have gu : Gr w u0 := by rw [hu]; exact (Gr.refl w).alloc _ _
   rw [← hu];clear hu;refine (HF.out _).mono ?_;rintro e w1 ⟨rfl, g1⟩;have R1 := R0.gr g1;have l1 := R1.lt;have c2 := R1.at 2;have c3 := R1.at 3;go_wp2_with fail
   go_ret
   exact ⟨rfl, by repeat (first | exact gu.trans g1 | apply Gr.drew | apply Gr.alloc)⟩
  ·have hs' : (sc != 0) = true := by simp [hs]
   have e : (if (true && !(decide ((2 : Int) = 2) && !decide (sc = 0))) = true then (0 : Int) else 4) = 4 := by simp [hs]
   rw [e];go_in;go_wp2_with fail
   obtain ⟨u0, hu⟩ : ∃ uu, uu = w.alloc (.cells #[fo, lo, .int .i64 2, sc, mo, iv] 24) := ⟨_, rfl⟩
   have R0 : CellsAt u0 w.heap.size 24 #[fo, lo, .int .i64 2, sc, mo, iv] := by rw [hu]; exact CellsAt.new w 24 #[fo, lo, .int .i64 2, sc, mo, iv]
   have gu : Gr w u0 := by rw [hu]; exact (Gr.refl w).alloc _ _
   rw [← hu];clear hu;refine (HF.out _).mono ?_;rintro e w1 ⟨rfl, g1⟩;have R1 := R0.gr g1;have l1 := R1.lt;have c2 := R1.at 2;have c3 := R1.at 3;go_wp2_with fail
   go_ret
   exact ⟨rfl, by repeat (first | exact gu.trans g1 | apply Gr.drew | apply Gr.alloc)⟩
 ·have hk' : (ke == 2) = false := by simp [hk]
  have e : (if (true && !(decide (ke = 2) && !decide (sc = 0))) = true then (0 : Int) else 4) = 0 := by simp [hk]
  rw [e];go_in;go_wp2_with fail
  obtain ⟨u0, hu⟩ : ∃ uu, uu = w.alloc (.cells #[fo, lo, ke, sc, mo, iv] 24) := ⟨_, rfl⟩
  have R0 : CellsAt u0 w.heap.size 24 #[fo, lo, ke, sc, mo, iv] := by rw [hu]; exact CellsAt.new w 24 #[fo, lo, ke, sc, mo, iv]
  have gu : Gr w u0 := by rw [hu]; exact (Gr.refl w).alloc _ _
  rw [← hu];clear hu;refine (HF.out _).mono ?_;rintro e w1 ⟨rfl, g1⟩;have R1 := R0.gr g1;have l1 := R1.lt;have c2 := R1.at 2;have c3 := R1.at 3;go_wp2_with fail
  go_ret
  exact ⟨rfl, by repeat (first | exact gu.trans g1 | apply Gr.drew | apply Gr.alloc)⟩
theorem check_c (fo lo ke sc mo : Int) (iv : Bool) (er : Int) (he : (if okF fo lo ke sc mo = true then 0 else 4) = er) (w : World) :
 CW 71 #[.agg #[fo, lo, ke, sc, mo, iv]] w (.int .i64 er) :=by
 delta CW
 subst he
 exact check_g fo lo ke sc mo iv _ (kh fun W => fieldsMayBe_c fo lo ke sc mo iv W) w
theorem refCheck_g (fo lo ke sc mo : Int) (iv b0 b1 b2 b3 : Bool) (hk : ¬ (ke = 2 ∧ ¬ sc = 0)) (H0 : Hid (∀ W, Calls Tryz.prog 75 #[fo, .int .i64 1] W fun e w' => e = .returned (.bool b0) ∧ w' = W)) (H1 : Hid (∀ W, Calls Tryz.prog 75 #[ke, .int .i64 2] W fun e w' => e = .returned (.bool b1) ∧ w' = W)) (H2 : Hid (∀ W, Calls Tryz.prog 75 #[sc, .int .i64 2] W fun e w' => e = .returned (.bool b2) ∧ w' = W)) (H3 : Hid (∀ W, Calls Tryz.prog 75 #[mo, .int .i64 2] W fun e w' => e = .returned (.bool b3) ∧ w' = W)) (w : World) :
 CW 37 #[.agg #[fo, lo, ke, sc, mo, iv]] w (.bool (b0 && (decide (2 ≤ lo) && (decide (lo ≤ 6) && (b1 && (b2 && b3)))))) :=by
 delta CW
 have hc : (ke = 2 ∧ sc = 0) ∨ ((ke == 2) = false ∧ ¬ ke = 2) := by
  by_cases k : ke = 2
  ·exact .inl ⟨k, Decidable.byContradiction fun s => hk ⟨k, s⟩⟩
  ·exact .inr ⟨by simp [k], k⟩
 clear hk
 rcases hc with ⟨rfl, rfl⟩ | ⟨hk1, hk2⟩
 ·skip
  cases b0
  ·skip
   go_in
   go_wp2_with (go_at_call 75; (first | with_reducible refine (H0.out _).mono ?_ | with_reducible refine (H1.out _).mono ?_ | with_reducible refine (H2.out _).mono ?_ | with_reducible refine (H3.out _).mono ?_); rintro e w1 ⟨rfl, rfl⟩)
   go_ret
   exact ⟨rfl, by repeat (first | exact Gr.refl _ | apply Gr.drew | apply Gr.alloc)⟩
  ·skip
   by_cases h1 : 2 ≤ lo
   ·skip
    simp only [h1, decide_true, Bool.true_and, Bool.and_true]
    by_cases h2 : lo ≤ 6
    ·skip
     simp only [h2, decide_true, Bool.true_and, Bool.and_true]
     cases b1
     ·skip
      go_in
      go_wp2_with (go_at_call 75; (first | with_reducible refine (H0.out _).mono ?_ | with_reducible refine (H1.out _).mono ?_ | with_reducible refine (H2.out _).mono ?_ | with_reducible refine (H3.out _).mono ?_); rintro e w1 ⟨rfl, rfl⟩)
      go_ret
      exact ⟨rfl, by repeat (first | exact Gr.refl _ | apply Gr.drew | apply Gr.alloc)⟩
     ·skip
      cases b2
      ·skip
       go_in
       go_wp2_with (go_at_call 75; (first | with_reducible refine (H0.out _).mono ?_ | with_reducible refine (H1.out _).mono ?_ | with_reducible refine (H2.out _).mono ?_ | with_reducible refine (H3.out _).mono ?_); rintro e w1 ⟨rfl, rfl⟩)
       go_ret
       exact ⟨rfl, by repeat (first | exact Gr.refl _ | apply Gr.drew | apply Gr.alloc)⟩
      ·skip
       cases b3
       ·skip
        go_in
        go_wp2_with (go_at_call 75; (first | with_reducible refine (H0.out _).mono ?_ | with_reducible refine (H1.out _).mono ?_ | with_reducible refine (H2.out _).mono ?_ | with_reducible refine (H3.out _).mono ?_); rintro e w1 ⟨rfl, rfl⟩)
        go_ret
        exact ⟨rfl, by repeat (first | exact Gr.refl _ | apply Gr.drew | apply Gr.alloc)⟩
       ·skip
        go_in
        go_wp2_with (go_at_call 75; (first | with_reducible refine (H0.out _).mono ?_ | with_reducible refine (H1.out _).mono ?_ | with_reducible refine (H2.out _).mono ?_ | with_reducible refine (H3.out _).mono ?_); rintro e w1 ⟨rfl, rfl⟩)
        go_ret
        exact ⟨rfl, by repeat (first | exact Gr.refl _ | apply Gr.drew | apply Gr.alloc)⟩
    ·skip
     simp only [h2, decide_false, Bool.false_and, Bool.and_false];go_in
     go_wp2_with (go_at_call 75; (first | with_reducible refine (H0.out _).mono ?_ | with_reducible refine (H1.out _).mono ?_ | with_reducible refine (H2.out _).mono ?_ | with_reducible refine (H3.out _).mono ?_); rintro e w1 ⟨rfl, rfl⟩)
     go_ret
     exact ⟨rfl, by repeat (first | exact Gr.refl _ | apply Gr.drew | apply Gr.alloc)⟩
   ·skip
    simp only [h1, decide_false, Bool.false_and, Bool.and_false];go_in
    go_wp2_with (go_at_call 75; (first | with_reducible refine (H0.out _).mono ?_ | with_reducible refine (H1.out _).mono ?_ | with_reducible refine (H2.out _).mono ?_ | with_reducible refine (H3.out _).mono ?_); rintro e w1 ⟨rfl, rfl⟩)
    go_ret
    exact ⟨rfl, by repeat (first | exact Gr.refl _ | apply Gr.drew | apply Gr.alloc)⟩
 ·skip
  cases b0
  ·skip
   go_in
   go_wp2_with (go_at_call 75; (first | with_reducible refine (H0.out _).mono ?_ | with_reducible refine (H1.out _).mono ?_ | with_reducible refine (H2.out _).mono ?_ | with_reducible refine (H3.out _).mono ?_); rintro e w1 ⟨rfl, rfl⟩)
   go_ret
   exact ⟨rfl, by repeat (first | exact Gr.refl _ | apply Gr.drew | apply Gr.alloc)⟩
  ·skip
   by_cases h1 : 2 ≤ lo
   ·skip
    simp only [h1, decide_true, Bool.true_and, Bool.and_true]
    by_cases h2 : lo ≤ 6
    ·skip
     simp only [h2, decide_true, Bool.true_and, Bool.and_true]
     cases b1
     ·skip
      go_in
      go_wp2_with (go_at_call 75; (first | with_reducible refine (H0.out _).mono ?_ | with_reducible refine (H1.out _).mono ?_ | with_reducible refine (H2.out _).mono ?_ | with_reducible refine (H3.out _).mono ?_); rintro e w1 ⟨rfl, rfl⟩)
      go_ret
      exact ⟨rfl, by repeat (first | exact Gr.refl _ | apply Gr.drew | apply Gr.alloc)⟩
     ·skip
      cases b2
      ·skip
       go_in
       go_wp2_with (go_at_call 75; (first | with_reducible refine (H0.out _).mono ?_ | with_reducible refine (H1.out _).mono ?_ | with_reducible refine (H2.out _).mono ?_ | with_reducible refine (H3.out _).mono ?_); rintro e w1 ⟨rfl, rfl⟩)
       go_ret
       exact ⟨rfl, by repeat (first | exact Gr.refl _ | apply Gr.drew | apply Gr.alloc)⟩
      ·skip
       cases b3
       ·skip
        go_in
        go_wp2_with (go_at_call 75; (first | with_reducible refine (H0.out _).mono ?_ | with_reducible refine (H1.out _).mono ?_ | with_reducible refine (H2.out _).mono ?_ | with_reducible refine (H3.out _).mono ?_); rintro e w1 ⟨rfl, rfl⟩)
        go_ret
        exact ⟨rfl, by repeat (first | exact Gr.refl _ | apply Gr.drew | apply Gr.alloc)⟩
       ·skip
        go_in
        go_wp2_with (go_at_call 75; (first | with_reducible refine (H0.out _).mono ?_ | with_reducible refine (H1.out _).mono ?_ | with_reducible refine (H2.out _).mono ?_ | with_reducible refine (H3.out _).mono ?_); rintro e w1 ⟨rfl, rfl⟩)
        go_ret
        exact ⟨rfl, by repeat (first | exact Gr.refl _ | apply Gr.drew | apply Gr.alloc)⟩
    ·skip
     simp only [h2, decide_false, Bool.false_and, Bool.and_false];go_in
     go_wp2_with (go_at_call 75; (first | with_reducible refine (H0.out _).mono ?_ | with_reducible refine (H1.out _).mono ?_ | with_reducible refine (H2.out _).mono ?_ | with_reducible refine (H3.out _).mono ?_); rintro e w1 ⟨rfl, rfl⟩)
     go_ret
     exact ⟨rfl, by repeat (first | exact Gr.refl _ | apply Gr.drew | apply Gr.alloc)⟩
   ·skip
    simp only [h1, decide_false, Bool.false_and, Bool.and_false];go_in
    go_wp2_with (go_at_call 75; (first | with_reducible refine (H0.out _).mono ?_ | with_reducible refine (H1.out _).mono ?_ | with_reducible refine (H2.out _).mono ?_ | with_reducible refine (H3.out _).mono ?_); rintro e w1 ⟨rfl, rfl⟩)
    go_ret
    exact ⟨rfl, by repeat (first | exact Gr.refl _ | apply Gr.drew | apply Gr.alloc)⟩
theorem refCheck_s (fo lo sc mo : Int) (iv : Bool) (hs : ¬ sc = 0) (w : World) :
 CW 37 #[.agg #[fo, lo, .int .i64 2, sc, mo, iv]] w (.bool false) :=by
 delta CW
 have hs' : (sc != 0) = true := by simp [hs]
 go_in
 go_wp2_with (fail)
 go_ret
 exact ⟨rfl, by repeat (first | exact Gr.refl _ | apply Gr.drew | apply Gr.alloc)⟩
theorem refCheck_c (fo lo ke sc mo : Int) (iv b : Bool) (hb : okF fo lo ke sc mo = b) (w : World) :
 CW 37 #[.agg #[fo, lo, ke, sc, mo, iv]] w (.bool b) :=by
 delta CW
 by_cases hk : ke = 2 ∧ ¬ sc = 0
 ·obtain ⟨rfl, hs⟩ := hk
  have e : b = false := by rw [← hb]; simp [okF, hs]
  rw [e]
  exact refCheck_s fo lo sc mo iv hs w
 ·have H := refCheck_g fo lo ke sc mo iv _ _ _ _ hk (kh fun W => one_c fo 1 _ rfl W) (kh fun W => one_c ke 2 _ rfl W) (kh fun W => one_c sc 2 _ rfl W) (kh fun W => one_c mo 2 _ rfl W) w
  have e : b = (decide (0 ≤ fo ∧ fo < 1 + 1) && (decide (2 ≤ lo) && (decide (lo ≤ 6) && (decide (0 ≤ ke ∧ ke < 2 + 1) && (decide (0 ≤ sc ∧ sc < 2 + 1) && decide (0 ≤ mo ∧ mo < 2 + 1)))))) := by
   rw [← hb, Bool.eq_iff_iff, okF_iff];simp only [Bool.and_eq_true, decide_eq_true_eq]
   omega
  rw [e]
  exact H
end
section
open Go.ChangeShapes Go.WideShapes Go.ChangeAt Go.RowKit
set_option linter.unusedVariables false
set_option maxRecDepth 100000
set_option maxHeartbeats 16000000
def NumsAt (w : World) (v : Value) (xs : List Int) : Prop :=
 ∃ p cap, v = .slice p xs.length cap ∧ xs.length ≤ cap ∧ cap ≤ maxLen ∧ (xs ≠ [] → ∃ b o, p = some ⟨b, o, none⟩ ∧ b < w.heap.size ∧ ∀ j x, xs[j]? = some x → w.cell? ⟨b, o + j, none⟩ = some (.int .i64 x))
theorem NumsAt.gr {w w' : World} {v : Value} {xs : List Int} (h : NumsAt w v xs) (hg : Gr w w') : NumsAt w' v xs := by
 obtain ⟨p, cap, hv, hl, hm, hc⟩ := h
 refine ⟨p, cap, hv, hl, hm, fun hx => ?_⟩
 obtain ⟨b, o, hp, hb, hc⟩ := hc hx
 exact ⟨b, o, hp, Nat.lt_of_lt_of_le hb hg.size, fun j x hj => (hg.cell (p := ⟨b, o + j, none⟩) hb).trans (hc j x hj)⟩
theorem NumsAt.len {w : World} {v : Value} {xs : List Int} (h : NumsAt w v xs) : ∃ p cap, v = .slice p xs.length cap := by
 obtain ⟨p, cap, hv, _⟩ := h
 exact ⟨p, cap, hv⟩
theorem NumsAt.nil (w : World) : NumsAt w (.slice none 0 0) [] := ⟨none, 0, rfl, Nat.le_refl _, Nat.zero_le _, fun h => absurd rfl h⟩
theorem NumsAt.at {w : World} {v : Value} {xs : List Int} (h : NumsAt w v xs) (hx : xs ≠ []) : ∃ b o cap, v = .slice (some ⟨b, o, none⟩) xs.length cap ∧ xs.length ≤ 9223372036854775807 ∧ b < w.heap.size ∧ ∀ j x, xs[j]? = some x → w.cell? ⟨b, o + j, none⟩ = some (.int .i64 x) := by
 obtain ⟨p, cap, hv, hl, hm, hc⟩ := h
 obtain ⟨b, o, rfl, hb, hc⟩ := hc hx
 exact ⟨b, o, cap, hv, by unfold maxLen at hm; omega, hb, hc⟩
theorem NumsAt.of_ints {w : World} {v : Value} {xs : List Int} (h : IntsAt w v xs) : NumsAt w v xs := by
 rcases h with ⟨rfl, rfl⟩ | ⟨b, o, cap, rfl, hl, hm, hb, hc⟩
 ·exact NumsAt.nil w
 ·exact ⟨_, cap, rfl, hl, hm, fun _ => ⟨b, o, rfl, hb, hc⟩⟩
theorem NumsAt.of_row {w : World} {base n : Nat} {t : TypeId} {v : Value} {xs : List Int} (h : w.ownsRow base t 1 v n (xs.map (Value.int .i64))) : NumsAt w v xs := .of_ints (IntsAt.of_row h)
theorem NumsAt.cut {w : World} {p : Option Addr} {len cap : Nat} {xs : List Int} (h : NumsAt w (.slice p len cap) xs) (m : Nat) (hm : m ≤ len) : NumsAt w (.slice p m cap) (xs.take m) ∧ (xs.take m).length = m ∧ m ≤ cap ∧ cap ≤ maxLen := by
 obtain ⟨p', cap', hv, hl, hmx, hc⟩ := h
 cases hv
 have e : (xs.take m).length = m := by rw [List.length_take]; omega
 refine ⟨⟨p, cap, by rw [e], by rw [e]; omega, hmx, fun hne => ?_⟩, e, by omega, hmx⟩
 obtain ⟨b, o, hp, hb, hc⟩ := hc (by intro e; rw [e] at hne; simp at hne)
 refine ⟨b, o, hp, hb, fun j x hj => hc j x ?_⟩
 rw [List.getElem?_take] at hj
 split at hj
 ·exact hj
 ·cases hj
theorem run_cut_int (p : Option Addr) (len cap m : Nat) (hm : m ≤ cap) (w : World) : (Instr.slice 22 (.slice p len cap) none (some (.int .i64 (m : Int))) none).run Tryz.prog w = .ok (.slice p m cap) w := by
 obtain ⟨i, hi, hzz⟩ := Option.map_eq_some_iff.1 info_int
 have h1 := run_slice_h (P := Tryz.prog) 22 p len cap (by exact Tryz.underlying22) .i64 (m : Int) (by omega) (by omega) (w := w)
 rw [h1]
 simp [sizeOf, typeInfo, sliced, show Tryz.prog.elem 22 = 3 by kernel_rfl, hi]
 intro _
 cases p <;> simp [Addr.add_zero']
theorem nums_open {H : Type} {enc : TypeId × Value → H} {W : World} {held : Bool} {fuel : Nat} {a : Option Addr} {len cap : Nat} {x : DataW H × List MemPlace}
 (h : DataW.trod enc Tryz.prog W 0 (fun _ => true) held fuel 22 [.slice a len cap] = some x) :
 ∃ xs : List Int, len = xs.length ∧ NumsAt W (.slice a len cap) xs ∧ ∀ g ∈ xs, (Lit.int .i64 g).wf = true := by
 rcases open_ints Tryz.underlying22 Tryz.underlying3 (by kernel_rfl) h with ⟨hcs, _⟩ | ⟨a', l, c, zs, hcs, _, hl, hm, hzl, _, hz, hw⟩
 ·simp at hcs
  obtain ⟨rfl, rfl, rfl⟩ := hcs
  exact ⟨[], rfl, NumsAt.nil W, fun g hg => by cases hg⟩
 ·simp at hcs
  obtain ⟨rfl, rfl, rfl⟩ := hcs
  have hzl : zs.length = cap := by simpa using hzl
  have hlen : (zs.take len).length = len := by rw [List.length_take]; omega
  refine ⟨zs.take len, hlen.symm, ⟨some a', cap, by rw [hlen], by omega, hm, fun hne => ?_⟩, fun g hg => hw g (List.mem_of_mem_take hg)⟩
  have h0 : 0 < len := by
   rcases Nat.eq_zero_or_pos len with h | h
   ·subst h; exact absurd (by simp) hne
   ·exact h
  have hc0 := hz 0 (by omega);rw [Addr.add_zero'] at hc0;have hsp := World.cell?_spot hc0;obtain ⟨b, o, sp⟩ := a'
  simp only at hsp
  subst hsp;refine ⟨b, o, rfl, block_lt_of_cell hc0, fun j x hj => ?_⟩;rw [List.getElem?_take] at hj
  split at hj
  case isFalse => cases hj
  have hjl : j < zs.length := (List.getElem?_eq_some_iff.1 hj).1
  have := hz j hjl
  rw [Addr.add_lit, List.getD_eq_getElem?_getD, hj] at this
  exact this
theorem same04n_c (u v : Value) (xs : List Int) (w : World) (hu : NumsAt w u xs) (hv : NumsAt w v xs) :
 CW 36 #[u, v] w (.bool true) :=by
 delta CW
 by_cases hx : xs = []
 ·subst hx
  obtain ⟨p, cap, rfl⟩ := hu.len;obtain ⟨p', cap', rfl⟩ := hv.len;rw [show ([] : List Int).length = 0 from rfl];clear hu hv;go_in;go_wp2_with fail
  go_loopw [13] (fun i wr => i = .int .i64 0 ∧ Gr w wr) (fun i _ => 0 - (intOf i).toNat)
  case atStart => exact ⟨rfl, Gr.refl _⟩
  case round =>
   obtain ⟨rfl, hg⟩ := hrel;go_wp2_with fail
   go_ret
   exact ⟨rfl, hg⟩
 ·obtain ⟨b, o, cap, rfl, hlen, hb, hc⟩ := hu.at hx
  obtain ⟨b', o', cap', rfl, _, hb', hc'⟩ := hv.at hx;have HC := kh hc;have HC' := kh hc';clear hc hc' hu hv hx;go_in;go_wp2_with fail
  go_loopw [13] (fun i wr => ∃ k : Nat, k ≤ xs.length ∧ i = .int .i64 k ∧ Gr w wr) (fun i _ => xs.length - (intOf i).toNat)
  case atStart => exact ⟨0, Nat.zero_le _, rfl, Gr.refl _⟩
  case round =>
   obtain ⟨k, hk, rfl, hg⟩ := hrel
   by_cases hlt : k < xs.length
   ·obtain ⟨x, hx⟩ := get_of_lt hlt
    have h1 := (hg.cell (p := ⟨b, o + k, none⟩) hb).trans (HC.out k x hx);have h2 := (hg.cell (p := ⟨b', o' + k, none⟩) hb').trans (HC'.out k x hx);clear hx;go_wp2_with fail
    go_quiet (fail)
    go_wp2_with fail
    go_roundw
    case rel => exact ⟨k + 1, by omega, by go_num, hg.drewN _⟩
    case measure => simp [intOf]; omega
   ·go_wp2_with fail
    go_ret
    exact ⟨rfl, hg⟩
end
end Go.Proofs.YtdignnmpfkgkoaaGreat
