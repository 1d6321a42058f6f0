import Derived.ChangeSlices
import Derived.LoopN
import Derived.Test.YtdignnmpfkgkoaaGreatGS3
namespace Go.Proofs.YtdignnmpfkgkoaaGreat
section
open Go.ChangeShapes Go.WideShapes Go.ChangeAt Go.RowKit
set_option linter.unusedVariables false
set_option maxRecDepth 100000
def NumsAt (w : World) (v : Value) (xs : List Int) : Prop :=
 ∃ p cap, v = .slice p xs.length cap ∧ xs.length ≤ cap ∧ cap ≤ maxLen ∧ (xs ≠ [] → ∃ b o, p = some ⟨b, o, none⟩ ∧ b < w.heap.size ∧ ∀ j x, xs[j]? = some x → w.cell? ⟨b, o + j, none⟩ = some (.int .i64 x))
theorem NumsAt.gr {w w' : World} {v : Value} {xs : List Int} (h : NumsAt w v xs) (hg : Gr w w') : NumsAt w' v xs := by
 obtain ⟨p, cap, hv, hl, hm, hc⟩ := h
 refine ⟨p, cap, hv, hl, hm, fun hx => ?_⟩
 obtain ⟨b, o, hp, hb, hc⟩ := hc hx
 exact ⟨b, o, hp, Nat.lt_of_lt_of_le hb hg.size, fun j x hj => (hg.cell (p := ⟨b, o + j, none⟩) hb).trans (hc j x hj)⟩
theorem NumsAt.len {w : World} {v : Value} {xs : List Int} (h : NumsAt w v xs) : ∃ p cap, v = .slice p xs.length cap := by
 obtain ⟨p, cap, hv, _⟩ := h
 exact ⟨p, cap, hv⟩
theorem NumsAt.nil (w : World) : NumsAt w (.slice none 0 0) [] := ⟨none, 0, rfl, Nat.le_refl _, Nat.zero_le _, fun h => absurd rfl h⟩
theorem NumsAt.at {w : World} {v : Value} {xs : List Int} (h : NumsAt w v xs) (hx : xs ≠ []) : ∃ b o cap, v = .slice (some ⟨b, o, none⟩) xs.length cap ∧ xs.length ≤ 9223372036854775807 ∧ b < w.heap.size ∧ ∀ j x, xs[j]? = some x → w.cell? ⟨b, o + j, none⟩ = some (.int .i64 x) := by
 obtain ⟨p, cap, hv, hl, hm, hc⟩ := h
 obtain ⟨b, o, rfl, hb, hc⟩ := hc hx
 exact ⟨b, o, cap, hv, by unfold maxLen at hm; omega, hb, hc⟩
theorem NumsAt.of_ints {w : World} {v : Value} {xs : List Int} (h : IntsAt w v xs) : NumsAt w v xs := by
 rcases h with ⟨rfl, rfl⟩ | ⟨b, o, cap, rfl, hl, hm, hb, hc⟩
 ·exact NumsAt.nil w
 ·exact ⟨_, cap, rfl, hl, hm, fun _ => ⟨b, o, rfl, hb, hc⟩⟩
theorem NumsAt.of_row {w : World} {base n : Nat} {t : TypeId} {v : Value} {xs : List Int} (h : w.ownsRow base t 1 v n (xs.map (Value.int .i64))) : NumsAt w v xs := .of_ints (IntsAt.of_row h)
theorem NumsAt.cut {w : World} {p : Option Addr} {len cap : Nat} {xs : List Int} (h : NumsAt w (.slice p len cap) xs) (m : Nat) (hm : m ≤ len) : NumsAt w (.slice p m cap) (xs.take m) ∧ (xs.take m).length = m ∧ m ≤ cap ∧ cap ≤ maxLen := by
 obtain ⟨p', cap', hv, hl, hmx, hc⟩ := h
 cases hv
 have e : (xs.take m).length = m := by rw [List.length_take]; omega
 refine ⟨⟨p, cap, by rw [e], by rw [e]; omega, hmx, fun hne => ?_⟩, e, by omega, hmx⟩
 obtain ⟨b, o, hp, hb, hc⟩ := hc (by intro e; rw [e] at hne; simp at hne)
 refine ⟨b, o, hp, hb, fun j x hj => hc j x ?_⟩
 rw [List.getElem?_take] at hj
 split at hj
 ·exact hj
 ·cases hj
theorem run_cut_int (p : Option Addr) (len cap m : Nat) (hm : m ≤ cap) (w : World) : (Instr.slice 22 (.slice p len cap) none (some (.int .i64 (m : Int))) none).run Tryz.prog w = .ok (.slice p m cap) w := by
 obtain ⟨i, hi, hzz⟩ := Option.map_eq_some_iff.1 info_int
 have h1 := run_slice_h (P := Tryz.prog) 22 p len cap (by exact Tryz.underlying22) .i64 (m : Int) (by omega) (by omega) (w := w)
 rw [h1]
 simp [sizeOf, typeInfo, sliced, show Tryz.prog.elem 22 = 3 by kernel_rfl, hi]
 intro _
 cases p <;> simp [Addr.add_zero']
theorem nums_open {H : Type} {enc : TypeId × Value → H} {W : World} {held : Bool} {fuel : Nat} {a : Option Addr} {len cap : Nat} {x : DataW H × List MemPlace}
 (h : DataW.trod enc Tryz.prog W 0 (fun _ => true) held fuel 22 [.slice a len cap] = some x) :
 ∃ xs : List Int, len = xs.length ∧ NumsAt W (.slice a len cap) xs ∧ ∀ g ∈ xs, (Lit.int .i64 g).wf = true := by
 rcases open_ints Tryz.underlying22 Tryz.underlying3 (by kernel_rfl) h with ⟨hcs, _⟩ | ⟨a', l, c, zs, hcs, _, hl, hm, hzl, _, hz, hw⟩
 ·simp at hcs
  obtain ⟨rfl, rfl, rfl⟩ := hcs
  exact ⟨[], rfl, NumsAt.nil W, fun g hg => by cases hg⟩
 ·simp at hcs
  obtain ⟨rfl, rfl, rfl⟩ := hcs
  have hzl : zs.length = cap := by simpa using hzl
  have hlen : (zs.take len).length = len := by rw [List.length_take]; omega
  refine ⟨zs.take len, hlen.symm, ⟨some a', cap, by rw [hlen], by omega, hm, fun hne => ?_⟩, fun g hg => hw g (List.mem_of_mem_take hg)⟩
  have h0 : 0 < len := by
   rcases Nat.eq_zero_or_pos len with h | h
   ·subst h; exact absurd (by simp) hne
   ·exact h
  have hc0 := hz 0 (by omega)
  rw [Addr.add_zero'] at hc0
  have hsp := World.cell?_spot hc0
  obtain ⟨b, o, sp⟩ := a'
  simp only at hsp
  subst hsp
  refine ⟨b, o, rfl, block_lt_of_cell hc0, fun j x hj => ?_⟩
  rw [List.getElem?_take] at hj
  split at hj
  case isFalse => cases hj
  have hjl : j < zs.length := (List.getElem?_eq_some_iff.1 hj).1
  have := hz j hjl
  rw [Addr.add_lit, List.getD_eq_getElem?_getD, hj] at this
  exact this
end
section
open Go.ChangeShapes Go.WideShapes Go.ChangeAt Go.RowKit
set_option linter.unusedVariables false
set_option linter.unusedSimpArgs false
set_option maxRecDepth 100000
def partIn (l h : Int) (a : Gi) : Bool := decide ((l ≤ a.re ∧ a.re ≤ h) ∧ (l ≤ a.im ∧ a.im ≤ h))
def partsB (l h : Int) (xs : List Gi) : Bool := xs.all (partIn l h)
theorem partsB_no {l h : Int} {xs : List Gi} {k : Nat} {a : Gi} (hk : xs[k]? = some a) (g : partIn l h a = false) : partsB l h xs = false := by
 unfold partsB
 rw [Bool.eq_false_iff, Ne, List.all_eq_true]
 intro H
 rw [H a (List.mem_of_getElem? hk)] at g
 cases g
theorem partsB_snoc {l h : Int} {xs : List Gi} {k : Nat} {a : Gi} (hk : xs[k]? = some a) (h1 : partsB l h (xs.take k) = true) (g : partIn l h a = true) : partsB l h (xs.take (k + 1)) = true := by
 rw [take_snoc hk]
 unfold partsB at *
 rw [List.all_append, h1]
 simp [g]
end
section
open Go.ChangeShapes Go.WideShapes Go.ChangeAt Go.RowKit
set_option linter.unusedVariables false
set_option maxRecDepth 100000
def inB (l a : Int) : Bool := decide (-l ≤ a ∧ a ≤ l)
theorem inB_true {l a : Int} (h0 : -l ≤ a) (h1 : a ≤ l) : inB l a = true := by simp [inB, h0, h1]
theorem inB_false {l a : Int} (h : a < -l ∨ l < a) : inB l a = false := by simp [inB]; omega
theorem inB_iff {l a : Int} : inB l a = true ↔ -l ≤ a ∧ a ≤ l := by simp [inB]
theorem re_c (x y : Int) (w : World) :
 Calls Tryz.prog 211 #[.agg #[.int .i64 x, .int .i64 y]] w fun e w' => e = .returned (.int .i64 x) ∧ w' = w.alloc (.cells #[.int .i64 x, .int .i64 y] 50) := by
 go_enter Tryz.func211, Tryz.ntmps211
 go_wp2
 go_ret
 exact ⟨rfl, rfl⟩
theorem im_c (x y : Int) (w : World) :
 Calls Tryz.prog 212 #[.agg #[.int .i64 x, .int .i64 y]] w fun e w' => e = .returned (.int .i64 y) ∧ w' = w.alloc (.cells #[.int .i64 x, .int .i64 y] 50) := by
 go_enter Tryz.func212, Tryz.ntmps212
 go_wp2
 go_ret
 exact ⟨rfl, rfl⟩
theorem re_g (x y : Int) (w : World) :
 Calls Tryz.prog 211 #[.agg #[.int .i64 x, .int .i64 y]] w fun e w' => e = .returned (.int .i64 x) ∧ Gr w w' :=
 (re_c x y w).mono fun e w' ⟨he, hw⟩ => ⟨he, by rw [hw]; exact (Gr.refl w).alloc _ _⟩
theorem im_g (x y : Int) (w : World) :
 Calls Tryz.prog 212 #[.agg #[.int .i64 x, .int .i64 y]] w fun e w' => e = .returned (.int .i64 y) ∧ Gr w w' :=
 (im_c x y w).mono fun e w' ⟨he, hw⟩ => ⟨he, by rw [hw]; exact (Gr.refl w).alloc _ _⟩
def Enters (k : Nat) : Prop := ∀ (args : Array Value) (w : World), (callFunc k args).run Tryz.prog w = .ok (.enter k args) w
theorem enters_of {k : Nat} {fn : Func} (hf : Tryz.prog.funcs[k]? = some fn) (hn : (fn.name == "runtime.NumGoroutine") = false) (hb : fn.body.isNone = false) : Enters k := by
 intro args w
 have h1 : fn.name ≠ "runtime.NumGoroutine" := by simpa using hn
 have h2 : fn.body ≠ none := by intro h; rw [h] at hb; cases hb
 simp [callFunc, hf, h1, h2]
def Tells (k : Nat) (cap : Array Value) (p : Nat) (v : Value) (w : World) : Prop :=
 ∀ W, Gr w W → Calls Tryz.prog k (#[.func (.func p) #[] #[]] ++ cap) W fun e w' => e = .returned v ∧ Gr W w'
theorem both_int (k : Nat) (cap : Array Value) (x y : Int) (w : World) (HE : Enters k)
 (HX : Hid (Tells k cap 211 (.int .i64 x) w)) (HY : Hid (Tells k cap 212 (.int .i64 y) w)) :
 Calls Tryz.prog 192 #[.func (.func k) #[] cap] w fun e w' => e = .returned (.tuple #[.int .i64 x, .int .i64 y]) ∧ Gr w w' := by
 unfold Enters at HE
 go_enter Tryz.func192, Tryz.ntmps192
 go_wp2_with fail
 refine (HX.out _ (Gr.refl _)).mono ?_
 rintro e w1 ⟨rfl, hg1⟩
 go_wp2_with fail
 refine (HY.out _ hg1).mono ?_
 rintro e w2 ⟨rfl, hg2⟩
 go_wp2
 go_ret2
 exact ⟨rfl, hg1.trans hg2⟩
theorem both_bool (k : Nat) (cap : Array Value) (x y : Bool) (w : World) (HE : Enters k)
 (HX : Hid (Tells k cap 211 (.bool x) w)) (HY : Hid (Tells k cap 212 (.bool y) w)) :
 Calls Tryz.prog 189 #[.func (.func k) #[] cap] w fun e w' => e = .returned (.tuple #[.bool x, .bool y]) ∧ Gr w w' := by
 unfold Enters at HE
 go_enter Tryz.func189, Tryz.ntmps189
 go_wp2_with fail
 refine (HX.out _ (Gr.refl _)).mono ?_
 rintro e w1 ⟨rfl, hg1⟩
 go_wp2_with fail
 refine (HY.out _ hg1).mono ?_
 rintro e w2 ⟨rfl, hg2⟩
 go_wp2
 go_ret2
 exact ⟨rfl, hg1.trans hg2⟩
theorem numberOf_c (k : Nat) (cap : Array Value) (x y : Int) (w : World) (HE : Enters k)
 (HX : Hid (Tells k cap 211 (.int .i64 x) w)) (HY : Hid (Tells k cap 212 (.int .i64 y) w)) :
 Calls Tryz.prog 165 #[.func (.func k) #[] cap] w fun e w' => e = .returned (.agg #[.int .i64 x, .int .i64 y]) ∧ Gr w w' := by
 have HB := Lib.hid fun (W : World) (g : Gr w W) => both_int k cap x y W HE (Lib.hid fun W1 g1 => HX.out W1 (g.trans g1)) (Lib.hid fun W1 g1 => HY.out W1 (g.trans g1))
 clear HX HY HE
 go_enter Tryz.func165, Tryz.ntmps165
 go_wp2_with fail
 refine (HB.out _ ((Gr.refl w).alloc _ _)).mono ?_
 rintro e w1 ⟨rfl, hg⟩
 have z : w.heap.size + 1 ≤ w1.heap.size := by have := hg.size; simpa using this
 have c0 : w1.cell? ⟨w.heap.size, 0, none⟩ = some (.int .i64 0) := (hg.cell (p := ⟨w.heap.size, 0, none⟩) (by simp)).trans (by go_simp)
 have c1 : w1.cell? ⟨w.heap.size, 1, none⟩ = some (.int .i64 0) := (hg.cell (p := ⟨w.heap.size, 1, none⟩) (by simp)).trans (by go_simp)
 have f0 : w1.frozen? ⟨w.heap.size, 0, none⟩ = false := (hg.frozen ⟨w.heap.size, 0, none⟩).trans (by go_simp)
 have f1 : w1.frozen? ⟨w.heap.size, 1, none⟩ = false := (hg.frozen ⟨w.heap.size, 1, none⟩).trans (by go_simp)
 go_wp2
 refine bodyPost_ret (v := .agg #[.int .i64 x, .int .i64 y]) ?_ rfl ⟨rfl, ?_⟩
 ·simp [results, Tryz.results165, go_sem, c0, c1]
 ·exact ((Gr.trans ((Gr.refl w).alloc _ _) hg).setCell (by simp) _).setCell (by simp) _
end
section
open Go.ChangeShapes Go.WideShapes Go.ChangeAt Go.RowKit
set_option linter.unusedVariables false
structure CxAt (w : World) (p : Nat) (x y : Int) : Prop where
 lt : p < w.heap.size
 c0 : w.cell? ⟨p, 0, none⟩ = some (.int .i64 x)
 c1 : w.cell? ⟨p, 1, none⟩ = some (.int .i64 y)
theorem CxAt.gr {w W : World} {p : Nat} {x y : Int} (h : CxAt w p x y) (g : Gr w W) : CxAt W p x y :=
 ⟨Nat.lt_of_lt_of_le h.lt g.size, (g.cell (p := ⟨p, 0, none⟩) h.lt).trans h.c0, (g.cell (p := ⟨p, 1, none⟩) h.lt).trans h.c1⟩
theorem sum1_re (p q : Nat) (x0 x1 y0 y1 r : Int) (w : World) (hp : CxAt w p x0 x1) (hq : CxAt w q y0 y1) (hw : IntKind.i64.wrap (x0 + y0) = r) :
 Calls Tryz.prog 166 #[.func (.func 211) #[] #[], .pointer (some ⟨p, 0, none⟩), .pointer (some ⟨q, 0, none⟩)] w fun e w' => e = .returned (.int .i64 r) ∧ Gr w w' := by
 obtain ⟨lp, c0, c1⟩ := hp
 obtain ⟨lq, d0, d1⟩ := hq
 go_enter Tryz.func166, Tryz.ntmps166
 go_wp2
 go_region_held3 (fun W => W.cell? ⟨p, 0, none⟩ = some (.int .i64 x0) ∧ W.cell? ⟨p, 1, none⟩ = some (.int .i64 x1) ∧ W.cell? ⟨q, 0, none⟩ = some (.int .i64 y0) ∧ W.cell? ⟨q, 1, none⟩ = some (.int .i64 y1) ∧ Gr w W)
  (first | (go_split_ands; refine ⟨?_, ?_, ?_, ?_, ?_⟩; (all_goals (first | (go_keep; done) | (repeat (first | exact Gr.refl _ | assumption | apply Gr.drew | apply Gr.alloc))))))
  (first | (go_at_call 211; refine (re_c _ _ _).mono ?_; rintro e w' ⟨rfl, rfl⟩))
 go_wp2
 go_ret
 exact ⟨by rw [← hw]; rfl, by repeat (first | exact Gr.refl _ | assumption | apply Gr.drew | apply Gr.alloc)⟩
theorem sum1_im (p q : Nat) (x0 x1 y0 y1 r : Int) (w : World) (hp : CxAt w p x0 x1) (hq : CxAt w q y0 y1) (hw : IntKind.i64.wrap (x1 + y1) = r) :
 Calls Tryz.prog 166 #[.func (.func 212) #[] #[], .pointer (some ⟨p, 0, none⟩), .pointer (some ⟨q, 0, none⟩)] w fun e w' => e = .returned (.int .i64 r) ∧ Gr w w' := by
 obtain ⟨lp, c0, c1⟩ := hp
 obtain ⟨lq, d0, d1⟩ := hq
 go_enter Tryz.func166, Tryz.ntmps166
 go_wp2
 go_region_held3 (fun W => W.cell? ⟨p, 0, none⟩ = some (.int .i64 x0) ∧ W.cell? ⟨p, 1, none⟩ = some (.int .i64 x1) ∧ W.cell? ⟨q, 0, none⟩ = some (.int .i64 y0) ∧ W.cell? ⟨q, 1, none⟩ = some (.int .i64 y1) ∧ Gr w W)
  (first | (go_split_ands; refine ⟨?_, ?_, ?_, ?_, ?_⟩; (all_goals (first | (go_keep; done) | (repeat (first | exact Gr.refl _ | assumption | apply Gr.drew | apply Gr.alloc))))))
  (first | (go_at_call 212; refine (im_c _ _ _).mono ?_; rintro e w' ⟨rfl, rfl⟩))
 go_wp2
 go_ret
 exact ⟨by rw [← hw]; rfl, by repeat (first | exact Gr.refl _ | assumption | apply Gr.drew | apply Gr.alloc)⟩
theorem less1_re (p q : Nat) (x0 x1 y0 y1 r : Int) (w : World) (hp : CxAt w p x0 x1) (hq : CxAt w q y0 y1) (hw : IntKind.i64.wrap (x0 - y0) = r) :
 Calls Tryz.prog 167 #[.func (.func 211) #[] #[], .pointer (some ⟨p, 0, none⟩), .pointer (some ⟨q, 0, none⟩)] w fun e w' => e = .returned (.int .i64 r) ∧ Gr w w' := by
 obtain ⟨lp, c0, c1⟩ := hp
 obtain ⟨lq, d0, d1⟩ := hq
 go_enter Tryz.func167, Tryz.ntmps167
 go_wp2
 go_region_held3 (fun W => W.cell? ⟨p, 0, none⟩ = some (.int .i64 x0) ∧ W.cell? ⟨p, 1, none⟩ = some (.int .i64 x1) ∧ W.cell? ⟨q, 0, none⟩ = some (.int .i64 y0) ∧ W.cell? ⟨q, 1, none⟩ = some (.int .i64 y1) ∧ Gr w W)
  (first | (go_split_ands; refine ⟨?_, ?_, ?_, ?_, ?_⟩; (all_goals (first | (go_keep; done) | (repeat (first | exact Gr.refl _ | assumption | apply Gr.drew | apply Gr.alloc))))))
  (first | (go_at_call 211; refine (re_c _ _ _).mono ?_; rintro e w' ⟨rfl, rfl⟩))
 go_wp2
 go_ret
 exact ⟨by rw [← hw]; rfl, by repeat (first | exact Gr.refl _ | assumption | apply Gr.drew | apply Gr.alloc)⟩
theorem less1_im (p q : Nat) (x0 x1 y0 y1 r : Int) (w : World) (hp : CxAt w p x0 x1) (hq : CxAt w q y0 y1) (hw : IntKind.i64.wrap (x1 - y1) = r) :
 Calls Tryz.prog 167 #[.func (.func 212) #[] #[], .pointer (some ⟨p, 0, none⟩), .pointer (some ⟨q, 0, none⟩)] w fun e w' => e = .returned (.int .i64 r) ∧ Gr w w' := by
 obtain ⟨lp, c0, c1⟩ := hp
 obtain ⟨lq, d0, d1⟩ := hq
 go_enter Tryz.func167, Tryz.ntmps167
 go_wp2
 go_region_held3 (fun W => W.cell? ⟨p, 0, none⟩ = some (.int .i64 x0) ∧ W.cell? ⟨p, 1, none⟩ = some (.int .i64 x1) ∧ W.cell? ⟨q, 0, none⟩ = some (.int .i64 y0) ∧ W.cell? ⟨q, 1, none⟩ = some (.int .i64 y1) ∧ Gr w W)
  (first | (go_split_ands; refine ⟨?_, ?_, ?_, ?_, ?_⟩; (all_goals (first | (go_keep; done) | (repeat (first | exact Gr.refl _ | assumption | apply Gr.drew | apply Gr.alloc))))))
  (first | (go_at_call 212; refine (im_c _ _ _).mono ?_; rintro e w' ⟨rfl, rfl⟩))
 go_wp2
 go_ret
 exact ⟨by rw [← hw]; rfl, by repeat (first | exact Gr.refl _ | assumption | apply Gr.drew | apply Gr.alloc)⟩
theorem shift1_re (p q m : Nat) (x0 x1 s mo : Int) (w : World) (hp : CxAt w p x0 x1) (hq : w.cell? ⟨q, 0, none⟩ = some (.int .i64 s)) (lq : q < w.heap.size) (hm : w.cell? ⟨m, 0, none⟩ = some (.int .i64 mo)) (lm : m < w.heap.size)
 (wx : -9223372036854775808 ≤ x0 ∧ x0 ≤ 9223372036854775807) (s0 : 0 ≤ s) (s1 : s ≤ 62) (m0 : 0 ≤ mo) (m1 : mo ≤ 2) :
 Calls Tryz.prog 169 #[.func (.func 211) #[] #[], .pointer (some ⟨p, 0, none⟩), .pointer (some ⟨q, 0, none⟩), .pointer (some ⟨m, 0, none⟩)] w fun e w' => e = .returned (.int .i64 (rnd x0 s.toNat mo)) ∧ Gr w w' := by
 have HS := Lib.hid (shift_ok x0 s mo wx s0 s1 m0 m1)
 generalize rnd x0 s.toNat mo = r at HS ⊢
 obtain ⟨lp, c0, c1⟩ := hp
 clear wx s0 s1 m0 m1
 go_enter Tryz.func169, Tryz.ntmps169
 go_wp2
 go_region_held3 (fun W => W.cell? ⟨p, 0, none⟩ = some (.int .i64 x0) ∧ W.cell? ⟨p, 1, none⟩ = some (.int .i64 x1) ∧ W.cell? ⟨q, 0, none⟩ = some (.int .i64 s) ∧ W.cell? ⟨m, 0, none⟩ = some (.int .i64 mo) ∧ Gr w W)
  (first | (go_split_ands; refine ⟨?_, ?_, ?_, ?_, ?_⟩; (all_goals (first | (go_keep; done) | (refine (Gr.cell (by assumption) ?_).trans ?_ <;> (first | assumption | (simp; done)) ; done) | (repeat (first | exact Gr.refl _ | assumption | apply Gr.drew | apply Gr.alloc | (refine Gr.trans ?_ (by assumption))))))))
  (first | (go_at_call 211; refine (re_c _ _ _).mono ?_; rintro e w' ⟨rfl, rfl⟩) | (go_at_call 70; go_split_ands; refine (HS.out _).mono ?_; rintro e w' ⟨rfl, hg⟩; have hgw : Gr w w' := Gr.trans (by assumption) hg))
 go_wp2
 go_ret
 exact ⟨rfl, by repeat (first | exact Gr.refl _ | assumption | apply Gr.drew | apply Gr.alloc)⟩
theorem shift1_im (p q m : Nat) (x0 x1 s mo : Int) (w : World) (hp : CxAt w p x0 x1) (hq : w.cell? ⟨q, 0, none⟩ = some (.int .i64 s)) (lq : q < w.heap.size) (hm : w.cell? ⟨m, 0, none⟩ = some (.int .i64 mo)) (lm : m < w.heap.size)
 (wx : -9223372036854775808 ≤ x1 ∧ x1 ≤ 9223372036854775807) (s0 : 0 ≤ s) (s1 : s ≤ 62) (m0 : 0 ≤ mo) (m1 : mo ≤ 2) :
 Calls Tryz.prog 169 #[.func (.func 212) #[] #[], .pointer (some ⟨p, 0, none⟩), .pointer (some ⟨q, 0, none⟩), .pointer (some ⟨m, 0, none⟩)] w fun e w' => e = .returned (.int .i64 (rnd x1 s.toNat mo)) ∧ Gr w w' := by
 have HS := Lib.hid (shift_ok x1 s mo wx s0 s1 m0 m1)
 generalize rnd x1 s.toNat mo = r at HS ⊢
 obtain ⟨lp, c0, c1⟩ := hp
 clear wx s0 s1 m0 m1
 go_enter Tryz.func169, Tryz.ntmps169
 go_wp2
 go_region_held3 (fun W => W.cell? ⟨p, 0, none⟩ = some (.int .i64 x0) ∧ W.cell? ⟨p, 1, none⟩ = some (.int .i64 x1) ∧ W.cell? ⟨q, 0, none⟩ = some (.int .i64 s) ∧ W.cell? ⟨m, 0, none⟩ = some (.int .i64 mo) ∧ Gr w W)
  (first | (go_split_ands; refine ⟨?_, ?_, ?_, ?_, ?_⟩; (all_goals (first | (go_keep; done) | (refine (Gr.cell (by assumption) ?_).trans ?_ <;> (first | assumption | (simp; done)) ; done) | (repeat (first | exact Gr.refl _ | assumption | apply Gr.drew | apply Gr.alloc | (refine Gr.trans ?_ (by assumption))))))))
  (first | (go_at_call 212; refine (im_c _ _ _).mono ?_; rintro e w' ⟨rfl, rfl⟩) | (go_at_call 70; go_split_ands; refine (HS.out _).mono ?_; rintro e w' ⟨rfl, hg⟩; have hgw : Gr w w' := Gr.trans (by assumption) hg))
 go_wp2
 go_ret
 exact ⟨rfl, by repeat (first | exact Gr.refl _ | assumption | apply Gr.drew | apply Gr.alloc)⟩
end
section
set_option linter.unusedVariables false
set_option maxRecDepth 100000
def absI (n : Int) : Int := if n < 0 then -n else n
theorem absI_nonneg (n : Int) : 0 ≤ absI n := by unfold absI; split <;> omega
theorem absI_le {n l : Int} : absI n ≤ l ↔ -l ≤ n ∧ n ≤ l := by unfold absI; split <;> omega
def mx (m : Int) (a : Gi) : Int := max (max m (absI a.re)) (absI a.im)
def maxG (xs : List Gi) : Int := xs.foldl mx 0
theorem maxG_snoc (xs : List Gi) (a : Gi) : maxG (xs ++ [a]) = mx (maxG xs) a := by unfold maxG; rw [List.foldl_append]; rfl
theorem maxG_nonneg (xs : List Gi) : 0 ≤ maxG xs := by
 have h : ∀ (ys : List Gi) (m : Int), 0 ≤ m → 0 ≤ ys.foldl mx m := by
  intro ys
  induction ys with
  | nil => exact fun m h => h
  | cons a ys ih => exact fun m h => ih _ (by unfold mx; omega)
 exact h xs 0 (Int.le_refl 0)
theorem maxG_le (xs : List Gi) (l : Int) (hl : 0 ≤ l) (h : ∀ a ∈ xs, absI a.re ≤ l ∧ absI a.im ≤ l) : maxG xs ≤ l := by
 have g : ∀ (ys : List Gi) (m : Int), m ≤ l → (∀ a ∈ ys, absI a.re ≤ l ∧ absI a.im ≤ l) → ys.foldl mx m ≤ l := by
  intro ys
  induction ys with
  | nil => exact fun m h _ => h
  | cons a ys ih =>
    intro m hm hy
    have ha := hy a (List.mem_cons_self ..)
    exact ih _ (by unfold mx; omega) (fun b hb => hy b (List.mem_cons_of_mem _ hb))
 exact g xs 0 hl h
theorem maxG_ge (xs : List Gi) : ∀ a ∈ xs, absI a.re ≤ maxG xs ∧ absI a.im ≤ maxG xs := by
 have g : ∀ (ys : List Gi) (m : Int), m ≤ ys.foldl mx m ∧ ∀ a ∈ ys, absI a.re ≤ ys.foldl mx m ∧ absI a.im ≤ ys.foldl mx m := by
  intro ys
  induction ys with
  | nil => exact fun m => ⟨Int.le_refl _, fun a ha => by cases ha⟩
  | cons a ys ih =>
    intro m
    obtain ⟨h1, h2⟩ := ih (mx m a)
    have h3 : m ≤ mx m a ∧ absI a.re ≤ mx m a ∧ absI a.im ≤ mx m a := by unfold mx; omega
    refine ⟨by show m ≤ ys.foldl mx (mx m a); omega, fun b hb => ?_⟩
    show absI b.re ≤ ys.foldl mx (mx m a) ∧ absI b.im ≤ ys.foldl mx (mx m a)
    rcases List.mem_cons.1 hb with rfl | hb
    ·omega
    ·exact h2 b hb
 exact (g xs 0).2
def allIn (l : Int) (xs : List Gi) : Bool := xs.all (fun a => inB l a.re && inB l a.im)
theorem allIn_iff (l : Int) (xs : List Gi) : allIn l xs = true ↔ ∀ a ∈ xs, absI a.re ≤ l ∧ absI a.im ≤ l := by
 unfold allIn
 rw [List.all_eq_true]
 constructor
 ·intro h a ha
  have := h a ha
  simp only [Bool.and_eq_true, inB_iff] at this
  exact ⟨absI_le.2 this.1, absI_le.2 this.2⟩
 ·intro h a ha
  have := h a ha
  simp only [Bool.and_eq_true, inB_iff]
  exact ⟨absI_le.1 this.1, absI_le.1 this.2⟩
theorem allIn_no {l : Int} {xs : List Gi} {k : Nat} {a : Gi} (hk : xs[k]? = some a) (h : (inB l a.re && inB l a.im) = false) : allIn l xs = false := by
 unfold allIn
 rw [Bool.eq_false_iff, Ne, List.all_eq_true]
 intro g
 have := g a (List.mem_of_getElem? hk)
 rw [this] at h
 cases h
theorem allIn_snoc {l : Int} {xs : List Gi} {k : Nat} {a : Gi} (hk : xs[k]? = some a) (h1 : allIn l (xs.take k) = true) (h : (inB l a.re && inB l a.im) = true) : allIn l (xs.take (k + 1)) = true := by
 rw [List.take_add_one, hk]
 unfold allIn at h1 ⊢
 rw [List.all_append, h1]
 simpa using h
theorem pow_le31 (n : Nat) (h : n ≤ 31) : (2 : Int) ^ n ≤ 2147483648 := by
 have h1 : (2 : Nat) ^ n ≤ 2 ^ 31 := Nat.pow_le_pow_right (by decide) h
 have h2 : ((2 ^ n : Nat) : Int) ≤ ((2 ^ 31 : Nat) : Int) := Int.ofNat_le.2 h1
 rw [Int.natCast_pow] at h2
 simpa using h2
def roomTo (p m : Int) : Nat → Nat
 | 0 => 0
 | k + 1 => if 0 < m ∧ m * 2 ^ (k + 1) ≤ p / 2 then k + 1 else roomTo p m k
def room (p m : Int) : Nat := roomTo p m 31
theorem roomTo_le (p m : Int) (k : Nat) : roomTo p m k ≤ k := by
 induction k with
 | zero => exact Nat.le_refl _
 | succ k ih => rw [roomTo]; split <;> omega
theorem roomTo_fits (p m : Int) (k : Nat) (h : 0 < roomTo p m k) : 0 < m ∧ m * 2 ^ roomTo p m k ≤ p / 2 := by
 induction k with
 | zero => exact absurd h (Nat.lt_irrefl _)
 | succ k ih =>
   rw [roomTo] at h ⊢
   split
   ·assumption
   ·rename_i hn
    rw [if_neg hn] at h
    exact ih h
theorem roomTo_great (p m : Int) (k j : Nat) (hj : roomTo p m k < j) (hk : j ≤ k) (hm : 0 < m) : p / 2 < m * 2 ^ j := by
 induction k with
 | zero => omega
 | succ k ih =>
   rw [roomTo] at hj
   split at hj
   ·omega
   ·rename_i hn
    by_cases e : j = k + 1
    ·subst e
     exact Int.not_le.1 (fun h => hn ⟨hm, h⟩)
    ·exact ih hj (by omega)
theorem room_unique (p m : Int) (s : Nat) (hp : p < 4294967296) (hs : s ≤ 31) (h1 : 0 < s → 0 < m ∧ m * 2 ^ s ≤ p / 2) (h2 : 0 < m → p / 2 < m * 2 ^ (s + 1)) : s = room p m := by
 have a1 := roomTo_le p m 31
 have a2 := roomTo_fits p m 31
 unfold room
 rcases Nat.lt_trichotomy s (roomTo p m 31) with h | h | h
 ·obtain ⟨hm, b⟩ := a2 (by omega)
  have c := h2 hm
  have d : m * 2 ^ (s + 1) ≤ m * 2 ^ roomTo p m 31 := Int.mul_le_mul_of_nonneg_left (by exact_mod_cast Nat.pow_le_pow_right (n := 2) (by omega) (show s + 1 ≤ roomTo p m 31 by omega)) (by omega)
  omega
 ·exact h
 ·obtain ⟨hm, b⟩ := h1 (by omega)
  have c := roomTo_great p m 31 s h hs hm
  omega
theorem room_fits (p m : Int) (h : 0 < room p m) : 0 < m ∧ m * 2 ^ room p m ≤ p / 2 := roomTo_fits p m 31 h
theorem room_le (p m : Int) : room p m ≤ 31 := roomTo_le p m 31
def preOf (kernel p m : Int) : Int :=
 if kernel = 4 then (if m ≤ p / 8 then 0 else 1 + (if m ≤ p / 4 then 0 else if m ≤ p / 2 then 1 else 2)) else if m ≤ p / 4 then 0 else if m ≤ p / 2 then 1 else 2
def shG (s mo : Int) (a : Gi) : Gi := if 0 ≤ s then ⟨rnd a.re s.toNat mo, rnd a.im s.toNat mo⟩ else ⟨a.re * 2 ^ (-s).toNat, a.im * 2 ^ (-s).toNat⟩
end
section
set_option linter.unusedVariables false
def gmul (b w : Gi) : Gi := ⟨b.re * w.re - b.im * w.im, b.re * w.im + b.im * w.re⟩
def padd (bits n : Nat) (mo : Int) (a t : Gi) : Gi := ⟨rnd (a.re * 2 ^ bits + t.re) n mo, rnd (a.im * 2 ^ bits + t.im) n mo⟩
def psub (bits n : Nat) (mo : Int) (a t : Gi) : Gi := ⟨rnd (a.re * 2 ^ bits - t.re) n mo, rnd (a.im * 2 ^ bits - t.im) n mo⟩
def pairUp (bits s : Nat) (mo : Int) (a b w : Gi) : Gi := padd bits (bits + s) mo a (gmul b w)
def pairDown (bits s : Nat) (mo : Int) (a b w : Gi) : Gi := psub bits (bits + s) mo a (gmul b w)
theorem mulG_bd (x y k l : Int) (hk : 0 ≤ k) (hx : -k ≤ x ∧ x ≤ k) (hy : -l ≤ y ∧ y ≤ l) : -(k * l) ≤ x * y ∧ x * y ≤ k * l := by
 have hl : 0 ≤ l := by omega
 have h1 : (x * y).natAbs ≤ (k * l).natAbs := by
  rw [Int.natAbs_mul, Int.natAbs_mul]
  exact Nat.mul_le_mul (by omega) (by omega)
 have h2 : 0 ≤ k * l := Int.mul_nonneg hk hl
 omega
theorem gmul_bd (b w : Gi) (k l : Int) (hk : 0 ≤ k) (hb : absI b.re ≤ k ∧ absI b.im ≤ k) (hw : absI w.re ≤ l ∧ absI w.im ≤ l) :
 absI (gmul b w).re ≤ 2 * (k * l) ∧ absI (gmul b w).im ≤ 2 * (k * l) := by
 have b1 := absI_le.1 hb.1
 have b2 := absI_le.1 hb.2
 have w1 := absI_le.1 hw.1
 have w2 := absI_le.1 hw.2
 have m1 := mulG_bd b.re w.re k l hk b1 w1
 have m2 := mulG_bd b.im w.im k l hk b2 w2
 have m3 := mulG_bd b.re w.im k l hk b1 w2
 have m4 := mulG_bd b.im w.re k l hk b2 w1
 unfold gmul
 generalize b.re * w.re = p1 at *
 generalize b.im * w.im = p2 at *
 generalize b.re * w.im = p3 at *
 generalize b.im * w.re = p4 at *
 generalize k * l = q at *
 exact ⟨absI_le.2 (by simp only; omega), absI_le.2 (by simp only; omega)⟩
theorem rnd_grow (x M : Int) (n : Nat) (mo : Int) (hm : mo = 0 ∨ mo = 1 ∨ mo = 2) (hx : absI x ≤ M) : (absI (rnd x n mo) - 1) * 2 ^ n < M + 1 := by
 have h := rnd_off x n mo hm
 have hp := pow_pos2 n
 have hx1 := absI_le.1 hx
 obtain ⟨h1, h2, _⟩ := h
 generalize rnd x n mo = r at *
 rw [Int.sub_mul, Int.one_mul]
 unfold absI
 split
 ·rw [Int.neg_mul]
  generalize r * 2 ^ n = t at *
  generalize (2 : Int) ^ n = P at *
  omega
 ·generalize r * 2 ^ n = t at *
  generalize (2 : Int) ^ n = P at *
  omega
theorem part_grow (x p m : Int) (bits s : Nat) (mo : Int) (hm : mo = 0 ∨ mo = 1 ∨ mo = 2) (hx : absI x ≤ m) (hp : absI p ≤ 2 * (m * 2 ^ bits)) (h0 : 0 ≤ m) :
 (absI (rnd (x * 2 ^ bits + p) (bits + s) mo) - 1) * 2 ^ s ≤ 3 * m ∧ (absI (rnd (x * 2 ^ bits - p) (bits + s) mo) - 1) * 2 ^ s ≤ 3 * m := by
 have hb := pow_pos2 bits
 have hx1 := absI_le.1 hx
 have hp1 := absI_le.1 hp
 have e1 : -(m * 2 ^ bits) ≤ x * 2 ^ bits ∧ x * 2 ^ bits ≤ m * 2 ^ bits := by
  have a := Int.mul_le_mul_of_nonneg_right hx1.1 (Int.le_of_lt hb)
  have b := Int.mul_le_mul_of_nonneg_right hx1.2 (Int.le_of_lt hb)
  rw [Int.neg_mul] at a
  exact ⟨a, b⟩
 have key : ∀ t : Int, absI t ≤ 3 * (m * 2 ^ bits) → (absI (rnd t (bits + s) mo) - 1) * 2 ^ s ≤ 3 * m := by
  intro t ht
  have g := rnd_grow t _ (bits + s) mo hm ht
  rw [Int.pow_add, Int.mul_comm (2 ^ bits) (2 ^ s), ← Int.mul_assoc] at g
  generalize (absI (rnd t (bits + s) mo) - 1) * 2 ^ s = y at *
  have g2 : y * 2 ^ bits < (3 * m) * 2 ^ bits + 1 := by rw [Int.mul_assoc]; exact g
  refine Int.not_lt.1 fun h => ?_
  have g3 : (3 * m + 1) * 2 ^ bits ≤ y * 2 ^ bits := Int.mul_le_mul_of_nonneg_right (by omega) (Int.le_of_lt hb)
  rw [Int.add_mul, Int.one_mul] at g3
  omega
 generalize x * 2 ^ bits = X at *
 generalize hM : m * 2 ^ bits = M at *
 exact ⟨key _ (absI_le.2 (by omega)), key _ (absI_le.2 (by omega))⟩
theorem rnd_of_zero (n : Nat) (mo : Int) (hm : mo = 0 ∨ mo = 1 ∨ mo = 2) : rnd 0 n mo = 0 := by
 have := rnd_mul 0 n mo hm
 rwa [Int.zero_mul] at this
def rootOf (ws : List Gi) (inv : Bool) (k : Nat) : Gi := if inv then (ws.getD k ⟨0, 0⟩).conj else ws.getD k ⟨0, 0⟩
def twoAt (xs ws : List Gi) (h bits s : Nat) (mo : Int) (inv : Bool) (i : Nat) : Gi :=
 if i % (2 * h) < h then pairUp bits s mo (xs.getD i ⟨0, 0⟩) (xs.getD (i + h) ⟨0, 0⟩) (rootOf ws inv (i % (2 * h) * (xs.length / (2 * h))))
 else pairDown bits s mo (xs.getD (i - h) ⟨0, 0⟩) (xs.getD i ⟨0, 0⟩) (rootOf ws inv ((i % (2 * h) - h) * (xs.length / (2 * h))))
def twoL (xs ws : List Gi) (h bits s : Nat) (mo : Int) (inv : Bool) : List Gi := (List.range xs.length).map (twoAt xs ws h bits s mo inv)
theorem twoL_len (xs ws : List Gi) (h bits s : Nat) (mo : Int) (inv : Bool) : (twoL xs ws h bits s mo inv).length = xs.length := by unfold twoL; simp
end
section
open Go.ChangeShapes Go.WideShapes Go.ChangeAt Go.RowKit
set_option linter.unusedVariables false
set_option maxRecDepth 100000
def FB (f b p : Int) : Prop := (f = 0 ∧ b = 15 ∧ p = 32768) ∨ (f = 1 ∧ b = 31 ∧ p = 2147483648)
def clampI (p x : Int) : Int := if x < -p then -p else if p - 1 < x then p - 1 else x
theorem clampI_low {p x : Int} (h : x < -p) : clampI p x = -p := if_pos h
theorem clampI_high {p x : Int} (h0 : 0 < p) (h : p - 1 < x) : clampI p x = p - 1 := by rw [clampI, if_neg (by omega), if_pos h]
theorem clampI_mid {p x : Int} (h0 : -p ≤ x) (h1 : x < p) : clampI p x = x := by rw [clampI, if_neg (by omega), if_neg (by omega)]
theorem FB.pos {f b p : Int} (h : FB f b p) : 0 < p ∧ p ≤ 2147483648 ∧ 0 ≤ b ∧ b ≤ 31 ∧ 0 ≤ f ∧ f ≤ 1 := by
 rcases h with ⟨rfl, rfl, rfl⟩ | ⟨rfl, rfl, rfl⟩ <;> omega
theorem FB.pow {f b p : Int} (h : FB f b p) : (2 : Int) ^ b.toNat = p := by
 rcases h with ⟨rfl, rfl, rfl⟩ | ⟨rfl, rfl, rfl⟩ <;> rfl
theorem FB.of {f : Int} (h0 : 0 ≤ f) (h1 : f ≤ 1) : ∃ b p, FB f b p := by
 by_cases h : f = 0
 ·exact ⟨15, 32768, .inl ⟨h, rfl, rfl⟩⟩
 ·exact ⟨31, 2147483648, .inr ⟨by omega, rfl, rfl⟩⟩
theorem clamped_low (b p x : Int) (hb : Hid ((b = 15 ∧ p = 32768) ∨ (b = 31 ∧ p = 2147483648))) (h : x < -p) (w : World) :
 Calls Tryz.prog 59 #[.int .i64 x, .int .i64 b] w fun e w' => e = .returned (.int .i64 (-p)) ∧ Gr w w' := by
 rcases hb.out with ⟨rfl, rfl⟩ | ⟨rfl, rfl⟩ <;> clear hb
 all_goals
  go_enter Tryz.func59, Tryz.ntmps59
  go_wp2
  go_region
  all_goals (go_wp2; go_ret; exact ⟨rfl, by repeat (first | exact Gr.refl _ | assumption | apply Gr.drew | apply Gr.alloc)⟩)
theorem clamped_high (b p x : Int) (hb : Hid ((b = 15 ∧ p = 32768) ∨ (b = 31 ∧ p = 2147483648))) (h : p - 1 < x) (w : World) :
 Calls Tryz.prog 59 #[.int .i64 x, .int .i64 b] w fun e w' => e = .returned (.int .i64 (p - 1)) ∧ Gr w w' := by
 rcases hb.out with ⟨rfl, rfl⟩ | ⟨rfl, rfl⟩ <;> clear hb
 all_goals
  go_enter Tryz.func59, Tryz.ntmps59
  go_wp2
  go_region
  all_goals (go_wp2; go_ret; exact ⟨rfl, by repeat (first | exact Gr.refl _ | assumption | apply Gr.drew | apply Gr.alloc)⟩)
theorem clamped_mid' (b p x : Int) (hb : Hid ((b = 15 ∧ p = 32768) ∨ (b = 31 ∧ p = 2147483648))) (h0 : -p < x) (h1 : x ≤ p - 1) (w : World) :
 Calls Tryz.prog 59 #[.int .i64 x, .int .i64 b] w fun e w' => e = .returned (.int .i64 x) ∧ Gr w w' := by
 rcases hb.out with ⟨rfl, rfl⟩ | ⟨rfl, rfl⟩ <;> clear hb
 all_goals
  go_enter Tryz.func59, Tryz.ntmps59
  go_wp2
  go_region
  all_goals (go_wp2; go_ret; exact ⟨rfl, by repeat (first | exact Gr.refl _ | assumption | apply Gr.drew | apply Gr.alloc)⟩)
theorem clamped_least (b p : Int) (hb : Hid ((b = 15 ∧ p = 32768) ∨ (b = 31 ∧ p = 2147483648))) (w : World) :
 Calls Tryz.prog 59 #[.int .i64 (-p), .int .i64 b] w fun e w' => e = .returned (.int .i64 (-p)) ∧ Gr w w' := by
 rcases hb.out with ⟨rfl, rfl⟩ | ⟨rfl, rfl⟩ <;> clear hb
 all_goals
  go_enter Tryz.func59, Tryz.ntmps59
  go_wp2
  go_region
  all_goals (go_wp2; go_ret; exact ⟨rfl, by repeat (first | exact Gr.refl _ | assumption | apply Gr.drew | apply Gr.alloc)⟩)
theorem clamped_mid (b p x : Int) (hb : Hid ((b = 15 ∧ p = 32768) ∨ (b = 31 ∧ p = 2147483648))) (h0 : -p ≤ x) (h1 : x ≤ p - 1) (w : World) :
 Calls Tryz.prog 59 #[.int .i64 x, .int .i64 b] w fun e w' => e = .returned (.int .i64 x) ∧ Gr w w' := by
 by_cases hx : -p < x
 ·exact clamped_mid' b p x hb hx h1 w
 ·obtain rfl : x = -p := by omega
  exact clamped_least b p hb w
theorem FB.bp {f b p : Int} (h : FB f b p) : Hid ((b = 15 ∧ p = 32768) ∨ (b = 31 ∧ p = 2147483648)) := by
 rcases h with ⟨_, h⟩ | ⟨_, h⟩
 ·exact Lib.hid (.inl h)
 ·exact Lib.hid (.inr h)
theorem clamped_c (f b p x : Int) (H : FB f b p) (w : World) :
 Calls Tryz.prog 59 #[.int .i64 x, .int .i64 b] w fun e w' => e = .returned (.int .i64 (clampI p x)) ∧ Gr w w' := by
 have hp := H.pos
 by_cases h0 : x < -p
 ·rw [clampI_low h0]; exact clamped_low b p x H.bp h0 w
 ·by_cases h1 : p - 1 < x
  ·rw [clampI_high hp.1 h1]; exact clamped_high b p x H.bp h1 w
  ·rw [clampI_mid (by omega) (by omega)]; exact clamped_mid b p x H.bp (by omega) (by omega) w
theorem bits_c (f b p : Int) (H : FB f b p) (w : World) :
 Calls Tryz.prog 58 #[.int .i64 f] w fun e w' => e = .returned (.tuple #[.int .i64 b, .int .i64 0]) ∧ w' = w := by
 rcases H with ⟨rfl, rfl, rfl⟩ | ⟨rfl, rfl, rfl⟩
 all_goals
  go_enter Tryz.func58, Tryz.ntmps58
  go_wp2
  go_ret2
  exact ⟨rfl, rfl⟩
theorem clamp_c (f b p x : Int) (H : FB f b p) (w : World) :
 Calls Tryz.prog 23 #[.int .i64 x, .int .i64 f] w fun e w' => e = .returned (.tuple #[.int .i64 (clampI p x), .bool (clampI p x != x), .int .i64 0]) ∧ Gr w w' := by
 have HB := Lib.hid (bits_c f b p H)
 have HC := Lib.hid (clamped_c f b p x H)
 generalize clampI p x = y at HC ⊢
 clear H
 go_enter Tryz.func23, Tryz.ntmps23
 go_wp2_with (first
  | (go_at_call 58; refine (HB.out _).mono ?_; rintro e w1 ⟨rfl, rfl⟩)
  | (go_at_call 59; refine (HC.out _).mono ?_; rintro e w1 ⟨rfl, hg⟩))
 go_ret3
 exact ⟨rfl, hg⟩
end
section
open Go.ChangeShapes Go.WideShapes Go.ChangeAt Go.RowKit
set_option linter.unusedVariables false
end
section
open Go.ChangeShapes Go.WideShapes Go.ChangeAt Go.RowKit
set_option linter.unusedVariables false
end
section
end
section
open Go.ChangeShapes Go.WideShapes Go.ChangeAt Go.RowKit
set_option linter.unusedVariables false
end
end Go.Proofs.YtdignnmpfkgkoaaGreat
