/- What package cx's small functions answer: the two parts of a number, what is told of both, and whether numbers are within a limit. -/
import Derived.Test.YtkbfniogannlhaaAll
import Derived.LoopN
namespace Go.Proofs.Ytkbfniogannlhaa
open Go.ChangeShapes Go.WideShapes Go.ChangeAt Go.RowKit
set_option linter.unusedVariables false

/-- Is a part within a limit, either way? -/
def inB (l a : Int) : Bool := decide (-l ≤ a ∧ a ≤ l)
theorem inB_true {l a : Int} (h0 : -l ≤ a) (h1 : a ≤ l) : inB l a = true := by simp [inB, h0, h1]
theorem inB_false {l a : Int} (h : a < -l ∨ l < a) : inB l a = false := by simp [inB]; omega
theorem inB_iff {l a : Int} : inB l a = true ↔ -l ≤ a ∧ a ≤ l := by simp [inB]

theorem re_c (x y : Int) (w : World) :
    Calls Try.prog 69 #[.agg #[.int .i64 x, .int .i64 y]] w fun e w' => e = .returned (.int .i64 x) ∧ w' = w.alloc (.cells #[.int .i64 x, .int .i64 y] 23) := by
  go_enter Try.func69, Try.ntmps69
  go_wp2
  go_ret
  exact ⟨rfl, rfl⟩

theorem im_c (x y : Int) (w : World) :
    Calls Try.prog 70 #[.agg #[.int .i64 x, .int .i64 y]] w fun e w' => e = .returned (.int .i64 y) ∧ w' = w.alloc (.cells #[.int .i64 x, .int .i64 y] 23) := by
  go_enter Try.func70, Try.ntmps70
  go_wp2
  go_ret
  exact ⟨rfl, rfl⟩

theorem re_g (x y : Int) (w : World) :
    Calls Try.prog 69 #[.agg #[.int .i64 x, .int .i64 y]] w fun e w' => e = .returned (.int .i64 x) ∧ Gr w w' :=
  (re_c x y w).mono fun e w' ⟨he, hw⟩ => ⟨he, by rw [hw]; exact (Gr.refl w).alloc _ _⟩

theorem im_g (x y : Int) (w : World) :
    Calls Try.prog 70 #[.agg #[.int .i64 x, .int .i64 y]] w fun e w' => e = .returned (.int .i64 y) ∧ Gr w w' :=
  (im_c x y w).mono fun e w' ⟨he, hw⟩ => ⟨he, by rw [hw]; exact (Gr.refl w).alloc _ _⟩

/-- A call of function k enters it. -/
def Enters (k : Nat) : Prop := ∀ (args : Array Value) (w : World), (callFunc k args).run Try.prog w = .ok (.enter k args) w
theorem enters_of {k : Nat} {fn : Func} (hf : Try.prog.funcs[k]? = some fn) (hn : (fn.name == "runtime.NumGoroutine") = false) (hb : fn.body.isNone = false) : Enters k := by
  intro args w
  have h1 : fn.name ≠ "runtime.NumGoroutine" := by simpa using hn
  have h2 : fn.body ≠ none := by intro h; rw [h] at hb; cases hb
  simp [callFunc, hf, h1, h2]

/-- What a closure answers for a part, in any later world. -/
def Tells (k : Nat) (cap : Array Value) (p : Nat) (v : Value) (w : World) : Prop :=
  ∀ W, Gr w W → Calls Try.prog k (#[.func (.func p) #[] #[]] ++ cap) W fun e w' => e = .returned v ∧ Gr W w'

theorem both_int (k : Nat) (cap : Array Value) (x y : Int) (w : World) (HE : Enters k)
    (HX : Hid (Tells k cap 69 (.int .i64 x) w)) (HY : Hid (Tells k cap 70 (.int .i64 y) w)) :
    Calls Try.prog 66 #[.func (.func k) #[] cap] w fun e w' => e = .returned (.tuple #[.int .i64 x, .int .i64 y]) ∧ Gr w w' := by
  unfold Enters at HE
  go_enter Try.func66, Try.ntmps66
  go_wp2_with fail
  refine (HX.out _ (Gr.refl _)).mono ?_
  rintro e w1 ⟨rfl, hg1⟩
  go_wp2_with fail
  refine (HY.out _ hg1).mono ?_
  rintro e w2 ⟨rfl, hg2⟩
  go_wp2
  go_ret2
  exact ⟨rfl, hg1.trans hg2⟩

theorem both_bool (k : Nat) (cap : Array Value) (x y : Bool) (w : World) (HE : Enters k)
    (HX : Hid (Tells k cap 69 (.bool x) w)) (HY : Hid (Tells k cap 70 (.bool y) w)) :
    Calls Try.prog 64 #[.func (.func k) #[] cap] w fun e w' => e = .returned (.tuple #[.bool x, .bool y]) ∧ Gr w w' := by
  unfold Enters at HE
  go_enter Try.func64, Try.ntmps64
  go_wp2_with fail
  refine (HX.out _ (Gr.refl _)).mono ?_
  rintro e w1 ⟨rfl, hg1⟩
  go_wp2_with fail
  refine (HY.out _ hg1).mono ?_
  rintro e w2 ⟨rfl, hg2⟩
  go_wp2
  go_ret2
  exact ⟨rfl, hg1.trans hg2⟩

theorem numberOf_c (k : Nat) (cap : Array Value) (x y : Int) (w : World) (HE : Enters k)
    (HX : Hid (Tells k cap 69 (.int .i64 x) w)) (HY : Hid (Tells k cap 70 (.int .i64 y) w)) :
    Calls Try.prog 55 #[.func (.func k) #[] cap] w fun e w' => e = .returned (.agg #[.int .i64 x, .int .i64 y]) ∧ Gr w w' := by
  have HB := Lib.hid fun (W : World) (g : Gr w W) => both_int k cap x y W HE (Lib.hid fun W1 g1 => HX.out W1 (g.trans g1)) (Lib.hid fun W1 g1 => HY.out W1 (g.trans g1))
  clear HX HY HE
  go_enter Try.func55, Try.ntmps55
  go_wp2_with fail
  refine (HB.out _ ((Gr.refl w).alloc _ _)).mono ?_
  rintro e w1 ⟨rfl, hg⟩
  have z : w.heap.size + 1 ≤ w1.heap.size := by have := hg.size; simpa using this
  have c0 : w1.cell? ⟨w.heap.size, 0, none⟩ = some (.int .i64 0) := (hg.cell (p := ⟨w.heap.size, 0, none⟩) (by simp)).trans (by go_simp)
  have c1 : w1.cell? ⟨w.heap.size, 1, none⟩ = some (.int .i64 0) := (hg.cell (p := ⟨w.heap.size, 1, none⟩) (by simp)).trans (by go_simp)
  have f0 : w1.frozen? ⟨w.heap.size, 0, none⟩ = false := (hg.frozen ⟨w.heap.size, 0, none⟩).trans (by go_simp)
  have f1 : w1.frozen? ⟨w.heap.size, 1, none⟩ = false := (hg.frozen ⟨w.heap.size, 1, none⟩).trans (by go_simp)
  go_wp2
  refine bodyPost_ret (v := .agg #[.int .i64 x, .int .i64 y]) ?_ rfl ⟨rfl, ?_⟩
  · simp [results, Try.results55, go_sem, c0, c1]
  · exact ((Gr.trans ((Gr.refl w).alloc _ _) hg).setCell (by simp) _).setCell (by simp) _

end Go.Proofs.Ytkbfniogannlhaa
