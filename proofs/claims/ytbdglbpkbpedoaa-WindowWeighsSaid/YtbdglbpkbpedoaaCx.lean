/- What package cx's small functions answer: the two parts of a number, what is told of both, and whether numbers are within a limit. · What package cx's closures answer for either part. -/
import Derived.Test.YtbdglbpkbpedoaaFns
import Derived.LoopN
namespace Go.Proofs.Ytbdglbpkbpedoaa
open Go.ChangeShapes Go.WideShapes Go.ChangeAt Go.RowKit
set_option linter.unusedVariables false
set_option maxRecDepth 100000

/-- Is a part within a limit, either way? -/
def inB (l a : Int) : Bool := decide (-l ≤ a ∧ a ≤ l)
theorem inB_true {l a : Int} (h0 : -l ≤ a) (h1 : a ≤ l) : inB l a = true := by simp [inB, h0, h1]
theorem inB_false {l a : Int} (h : a < -l ∨ l < a) : inB l a = false := by simp [inB]; omega
theorem inB_iff {l a : Int} : inB l a = true ↔ -l ≤ a ∧ a ≤ l := by simp [inB]

theorem re_c (x y : Int) (w : World) :
    Calls Try.prog 92 #[.agg #[.int .i64 x, .int .i64 y]] w fun e w' => e = .returned (.int .i64 x) ∧ w' = w.alloc (.cells #[.int .i64 x, .int .i64 y] 57) := by
  go_enter Try.func92, Try.ntmps92
  go_wp2
  go_ret
  exact ⟨rfl, rfl⟩

theorem im_c (x y : Int) (w : World) :
    Calls Try.prog 93 #[.agg #[.int .i64 x, .int .i64 y]] w fun e w' => e = .returned (.int .i64 y) ∧ w' = w.alloc (.cells #[.int .i64 x, .int .i64 y] 57) := by
  go_enter Try.func93, Try.ntmps93
  go_wp2
  go_ret
  exact ⟨rfl, rfl⟩

theorem re_g (x y : Int) (w : World) :
    Calls Try.prog 92 #[.agg #[.int .i64 x, .int .i64 y]] w fun e w' => e = .returned (.int .i64 x) ∧ Gr w w' :=
  (re_c x y w).mono fun e w' ⟨he, hw⟩ => ⟨he, by rw [hw]; exact (Gr.refl w).alloc _ _⟩

theorem im_g (x y : Int) (w : World) :
    Calls Try.prog 93 #[.agg #[.int .i64 x, .int .i64 y]] w fun e w' => e = .returned (.int .i64 y) ∧ Gr w w' :=
  (im_c x y w).mono fun e w' ⟨he, hw⟩ => ⟨he, by rw [hw]; exact (Gr.refl w).alloc _ _⟩

/-- A call of function k enters it. -/
def Enters (k : Nat) : Prop := ∀ (args : Array Value) (w : World), (callFunc k args).run Try.prog w = .ok (.enter k args) w
theorem enters_of {k : Nat} {fn : Func} (hf : Try.prog.funcs[k]? = some fn) (hn : (fn.name == "runtime.NumGoroutine") = false) (hb : fn.body.isNone = false) : Enters k := by
  intro args w
  have h1 : fn.name ≠ "runtime.NumGoroutine" := by simpa using hn
  have h2 : fn.body ≠ none := by intro h; rw [h] at hb; cases hb
  simp [callFunc, hf, h1, h2]

/-- What a closure answers for a part, in any later world. -/
def Tells (k : Nat) (cap : Array Value) (p : Nat) (v : Value) (w : World) : Prop :=
  ∀ W, Gr w W → Calls Try.prog k (#[.func (.func p) #[] #[]] ++ cap) W fun e w' => e = .returned v ∧ Gr W w'

theorem both_int (k : Nat) (cap : Array Value) (x y : Int) (w : World) (HE : Enters k)
    (HX : Hid (Tells k cap 92 (.int .i64 x) w)) (HY : Hid (Tells k cap 93 (.int .i64 y) w)) :
    Calls Try.prog 82 #[.func (.func k) #[] cap] w fun e w' => e = .returned (.tuple #[.int .i64 x, .int .i64 y]) ∧ Gr w w' := by
  unfold Enters at HE
  go_enter Try.func82, Try.ntmps82
  go_wp2_with fail
  refine (HX.out _ (Gr.refl _)).mono ?_
  rintro e w1 ⟨rfl, hg1⟩
  go_wp2_with fail
  refine (HY.out _ hg1).mono ?_
  rintro e w2 ⟨rfl, hg2⟩
  go_wp2
  go_ret2
  exact ⟨rfl, hg1.trans hg2⟩

theorem both_bool (k : Nat) (cap : Array Value) (x y : Bool) (w : World) (HE : Enters k)
    (HX : Hid (Tells k cap 92 (.bool x) w)) (HY : Hid (Tells k cap 93 (.bool y) w)) :
    Calls Try.prog 83 #[.func (.func k) #[] cap] w fun e w' => e = .returned (.tuple #[.bool x, .bool y]) ∧ Gr w w' := by
  unfold Enters at HE
  go_enter Try.func83, Try.ntmps83
  go_wp2_with fail
  refine (HX.out _ (Gr.refl _)).mono ?_
  rintro e w1 ⟨rfl, hg1⟩
  go_wp2_with fail
  refine (HY.out _ hg1).mono ?_
  rintro e w2 ⟨rfl, hg2⟩
  go_wp2
  go_ret2
  exact ⟨rfl, hg1.trans hg2⟩

theorem numberOf_c (k : Nat) (cap : Array Value) (x y : Int) (w : World) (HE : Enters k)
    (HX : Hid (Tells k cap 92 (.int .i64 x) w)) (HY : Hid (Tells k cap 93 (.int .i64 y) w)) :
    Calls Try.prog 74 #[.func (.func k) #[] cap] w fun e w' => e = .returned (.agg #[.int .i64 x, .int .i64 y]) ∧ Gr w w' := by
  have HB := Lib.hid fun (W : World) (g : Gr w W) => both_int k cap x y W HE (Lib.hid fun W1 g1 => HX.out W1 (g.trans g1)) (Lib.hid fun W1 g1 => HY.out W1 (g.trans g1))
  clear HX HY HE
  go_enter Try.func74, Try.ntmps74
  go_wp2_with fail
  refine (HB.out _ ((Gr.refl w).alloc _ _)).mono ?_
  rintro e w1 ⟨rfl, hg⟩
  have z : w.heap.size + 1 ≤ w1.heap.size := by have := hg.size; simpa using this
  have c0 : w1.cell? ⟨w.heap.size, 0, none⟩ = some (.int .i64 0) := (hg.cell (p := ⟨w.heap.size, 0, none⟩) (by simp)).trans (by go_simp)
  have c1 : w1.cell? ⟨w.heap.size, 1, none⟩ = some (.int .i64 0) := (hg.cell (p := ⟨w.heap.size, 1, none⟩) (by simp)).trans (by go_simp)
  have f0 : w1.frozen? ⟨w.heap.size, 0, none⟩ = false := (hg.frozen ⟨w.heap.size, 0, none⟩).trans (by go_simp)
  have f1 : w1.frozen? ⟨w.heap.size, 1, none⟩ = false := (hg.frozen ⟨w.heap.size, 1, none⟩).trans (by go_simp)
  go_wp2
  refine bodyPost_ret (v := .agg #[.int .i64 x, .int .i64 y]) ?_ rfl ⟨rfl, ?_⟩
  · simp [results, Try.results74, go_sem, c0, c1]
  · exact ((Gr.trans ((Gr.refl w).alloc _ _) hg).setCell (by simp) _).setCell (by simp) _

end Go.Proofs.Ytbdglbpkbpedoaa

namespace Go.Proofs.Ytbdglbpkbpedoaa
open Go.ChangeShapes Go.WideShapes Go.ChangeAt Go.RowKit
set_option linter.unusedVariables false

/-- A complex number lies in memory. -/
structure CxAt (w : World) (p : Nat) (x y : Int) : Prop where
  lt : p < w.heap.size
  c0 : w.cell? ⟨p, 0, none⟩ = some (.int .i64 x)
  c1 : w.cell? ⟨p, 1, none⟩ = some (.int .i64 y)
theorem CxAt.gr {w W : World} {p : Nat} {x y : Int} (h : CxAt w p x y) (g : Gr w W) : CxAt W p x y :=
  ⟨Nat.lt_of_lt_of_le h.lt g.size, (g.cell (p := ⟨p, 0, none⟩) h.lt).trans h.c0, (g.cell (p := ⟨p, 1, none⟩) h.lt).trans h.c1⟩

theorem shift1_re (p q m : Nat) (x0 x1 s mo : Int) (w : World) (hp : CxAt w p x0 x1) (hq : w.cell? ⟨q, 0, none⟩ = some (.int .i64 s)) (lq : q < w.heap.size) (hm : w.cell? ⟨m, 0, none⟩ = some (.int .i64 mo)) (lm : m < w.heap.size)
    (wx : -9223372036854775808 ≤ x0 ∧ x0 ≤ 9223372036854775807) (s0 : 0 ≤ s) (s1 : s ≤ 62) (m0 : 0 ≤ mo) (m1 : mo ≤ 2) :
    Calls Try.prog 75 #[.func (.func 92) #[] #[], .pointer (some ⟨p, 0, none⟩), .pointer (some ⟨q, 0, none⟩), .pointer (some ⟨m, 0, none⟩)] w fun e w' => e = .returned (.int .i64 (rnd x0 s.toNat mo)) ∧ Gr w w' := by
  have HS := Lib.hid (shift_ok x0 s mo wx s0 s1 m0 m1)
  generalize rnd x0 s.toNat mo = r at HS ⊢
  obtain ⟨lp, c0, c1⟩ := hp
  clear wx s0 s1 m0 m1
  go_enter Try.func75, Try.ntmps75
  go_wp2
  go_region_held3 (fun W => W.cell? ⟨p, 0, none⟩ = some (.int .i64 x0) ∧ W.cell? ⟨p, 1, none⟩ = some (.int .i64 x1) ∧ W.cell? ⟨q, 0, none⟩ = some (.int .i64 s) ∧ W.cell? ⟨m, 0, none⟩ = some (.int .i64 mo) ∧ Gr w W)
    (first | (go_split_ands; refine ⟨?_, ?_, ?_, ?_, ?_⟩; (all_goals (first | (go_keep; done) | (refine (Gr.cell (by assumption) ?_).trans ?_ <;> (first | assumption | (simp; done)) ; done) | (repeat (first | exact Gr.refl _ | assumption | apply Gr.drew | apply Gr.alloc | (refine Gr.trans ?_ (by assumption))))))))
    (first | (go_at_call 92; refine (re_c _ _ _).mono ?_; rintro e w' ⟨rfl, rfl⟩) | (go_at_call 24; go_split_ands; refine (HS.out _).mono ?_; rintro e w' ⟨rfl, hg⟩; have hgw : Gr w w' := Gr.trans (by assumption) hg))
  go_wp2
  go_ret
  exact ⟨rfl, by repeat (first | exact Gr.refl _ | assumption | apply Gr.drew | apply Gr.alloc)⟩

theorem shift1_im (p q m : Nat) (x0 x1 s mo : Int) (w : World) (hp : CxAt w p x0 x1) (hq : w.cell? ⟨q, 0, none⟩ = some (.int .i64 s)) (lq : q < w.heap.size) (hm : w.cell? ⟨m, 0, none⟩ = some (.int .i64 mo)) (lm : m < w.heap.size)
    (wx : -9223372036854775808 ≤ x1 ∧ x1 ≤ 9223372036854775807) (s0 : 0 ≤ s) (s1 : s ≤ 62) (m0 : 0 ≤ mo) (m1 : mo ≤ 2) :
    Calls Try.prog 75 #[.func (.func 93) #[] #[], .pointer (some ⟨p, 0, none⟩), .pointer (some ⟨q, 0, none⟩), .pointer (some ⟨m, 0, none⟩)] w fun e w' => e = .returned (.int .i64 (rnd x1 s.toNat mo)) ∧ Gr w w' := by
  have HS := Lib.hid (shift_ok x1 s mo wx s0 s1 m0 m1)
  generalize rnd x1 s.toNat mo = r at HS ⊢
  obtain ⟨lp, c0, c1⟩ := hp
  clear wx s0 s1 m0 m1
  go_enter Try.func75, Try.ntmps75
  go_wp2
  go_region_held3 (fun W => W.cell? ⟨p, 0, none⟩ = some (.int .i64 x0) ∧ W.cell? ⟨p, 1, none⟩ = some (.int .i64 x1) ∧ W.cell? ⟨q, 0, none⟩ = some (.int .i64 s) ∧ W.cell? ⟨m, 0, none⟩ = some (.int .i64 mo) ∧ Gr w W)
    (first | (go_split_ands; refine ⟨?_, ?_, ?_, ?_, ?_⟩; (all_goals (first | (go_keep; done) | (refine (Gr.cell (by assumption) ?_).trans ?_ <;> (first | assumption | (simp; done)) ; done) | (repeat (first | exact Gr.refl _ | assumption | apply Gr.drew | apply Gr.alloc | (refine Gr.trans ?_ (by assumption))))))))
    (first | (go_at_call 93; refine (im_c _ _ _).mono ?_; rintro e w' ⟨rfl, rfl⟩) | (go_at_call 24; go_split_ands; refine (HS.out _).mono ?_; rintro e w' ⟨rfl, hg⟩; have hgw : Gr w w' := Gr.trans (by assumption) hg))
  go_wp2
  go_ret
  exact ⟨rfl, by repeat (first | exact Gr.refl _ | assumption | apply Gr.drew | apply Gr.alloc)⟩

end Go.Proofs.Ytbdglbpkbpedoaa
