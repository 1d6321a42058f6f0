/- What package round's functions answer, one contract for each: for the numbers that the hypotheses name, the call returns what is said, and the world has at most new blocks. -/
import Derived.Test.YteajjgegfpibkaaRows
import Derived.Test.YteajjgegfpibkaaMath
import Derived.WalkKit
import Derived.ProofKit
import Derived.OpenShut
import Derived.Deep.RegionHeld3
import Derived.Deep.QuietTactic
import Derived.BigQuiet
import Derived.Outline
import Derived.Lib.Hide
namespace Go.Proofs.Yteajjgegfpibkaa
open Go.ChangeShapes Go.WideShapes Go.ChangeAt Go.RowKit

set_option linter.unusedVariables false

/-- The world has at most new blocks. -/
structure Gr (W w' : World) : Prop where
  out : Below W.heap.size W w'
theorem Gr.refl (W : World) : Gr W W := ⟨Below.refl _ W⟩
theorem Gr.size {W w' : World} (h : Gr W w') : W.heap.size ≤ w'.heap.size := h.out.size
theorem Gr.drew {W w' : World} (h : Gr W w') : Gr W w'.drew := ⟨h.out.drew⟩
theorem Gr.drewN {W w' : World} (h : Gr W w') (n : Nat) : Gr W (w'.drewN n) := ⟨⟨h.out.os, h.out.tape, h.out.output, h.out.size, h.out.block⟩⟩
theorem Gr.allocO {W w' : World} (h : Gr W w') (o : Obj) : Gr W (w'.alloc o) := ⟨h.out.alloc h.size o⟩
theorem Gr.alloc {W w' : World} (h : Gr W w') (c : Array Value) (t : TypeId) : Gr W (w'.alloc (.cells c t)) := h.allocO _
theorem Gr.setCell {W w' : World} (h : Gr W w') {a : Addr} (ha : W.heap.size ≤ a.block) (v : Value) : Gr W (w'.setCell a v) := ⟨h.out.setCell ha v⟩
theorem Gr.trans {a b c : World} (h : Gr a b) (k : Gr b c) : Gr a c := ⟨h.out.trans (k.out.mono h.size)⟩
theorem Gr.block {W w' : World} (h : Gr W w') {k : Nat} (hk : k < W.heap.size) : w'.heap[k]? = W.heap[k]? := h.out.block k hk
theorem Gr.cell {W w' : World} (h : Gr W w') {p : Addr} (hp : p.block < W.heap.size) : w'.cell? p = W.cell? p := h.out.cell hp
theorem Gr.frozen {W w' : World} (h : Gr W w') (a : Addr) (ha : a.block < W.heap.size := by first | (simp; done) | (simp; omega)) : w'.frozen? a = W.frozen? a := h.out.frozen ha
theorem Gr.grown {W w w' : World} {row : Option Nat} (h : Gr W w) (hg : w.grownBy w' row) (hr : ∀ k, row = some k → W.heap.size ≤ k) : Gr W w' := ⟨h.out.grown hg h.size hr⟩
theorem Gr.by' {W w : World} {row : Option Nat} (h : Gr W w) : W.grownBy w row := ⟨h.out.os, h.out.tape, h.out.output, h.out.size, fun k hk _ => h.out.block k hk⟩

open Classical in
/-- The end of a law: the answer, the arguments as they were, what was there as it was. -/
theorem post_gr {H : Type} {enc : TypeId × Value → H} {P : Program} {f : Func} {s : ChangeSpec} {apart fresh handsOn : Bool} {W W' : World} {args : Array Value} {v : Value} {ds gs : List (DataW H)} {before pa pv : List MemPlace}
    (hW : DataW.Whole enc P f.params.toList s.vars apart W args.toList ds gs before)
    (hres : ∀ (b : Nat) (sp : Nat → Bool) (hd : Bool), DataW.TrodAll enc P W' b sp hd f.resultTypes.toList (v.resultList f.resultTypes.size) (s.fn H (ds ++ gs)).results [])
    (hargs : ∀ sp : Nat → Bool, (∀ p ∈ before, sp p.block = true) → DataW.TrodAll enc P W' 0 sp true f.params.toList args.toList (s.fn H (ds ++ gs)).args pa)
    (hvars : ∀ sp : Nat → Bool, (∀ p ∈ before, sp p.block = true) → DataW.TrodVars enc P W' sp s.vars (s.fn H (ds ++ gs)).vars pv)
    (hps : before = pa ++ pv) (hg : Gr W W') :
    s.post enc P f apart fresh handsOn false W args v W' := by
  have hold : ∀ p ∈ before, (fun b => decide (b < W.heap.size)) p.block = true := fun p hp => by simpa using hW.lt p hp
  exact ⟨ds, gs, before, [], pa, pv, hW, hres _ _ _, hargs _ hold, hvars _ hold, World.keptBut_mono (fun p hp => ⟨hp, by rw [hps, List.mem_append] at hp; exact Or.inr hp⟩) (hg.out.frame _), fun h => by cases h⟩

end Go.Proofs.Yteajjgegfpibkaa
