/- What package cx's closures answer for either part. -/
import Derived.Test.YtkbfniogannlhaaCx
namespace Go.Proofs.Ytkbfniogannlhaa
open Go.ChangeShapes Go.WideShapes Go.ChangeAt Go.RowKit
set_option linter.unusedVariables false

/-- A complex number lies in memory. -/
structure CxAt (w : World) (p : Nat) (x y : Int) : Prop where
  lt : p < w.heap.size
  c0 : w.cell? ⟨p, 0, none⟩ = some (.int .i64 x)
  c1 : w.cell? ⟨p, 1, none⟩ = some (.int .i64 y)
theorem CxAt.gr {w W : World} {p : Nat} {x y : Int} (h : CxAt w p x y) (g : Gr w W) : CxAt W p x y :=
  ⟨Nat.lt_of_lt_of_le h.lt g.size, (g.cell (p := ⟨p, 0, none⟩) h.lt).trans h.c0, (g.cell (p := ⟨p, 1, none⟩) h.lt).trans h.c1⟩

theorem sum1_re (p q : Nat) (x0 x1 y0 y1 r : Int) (w : World) (hp : CxAt w p x0 x1) (hq : CxAt w q y0 y1) (hw : IntKind.i64.wrap (x0 + y0) = r) :
    Calls Try.prog 56 #[.func (.func 69) #[] #[], .pointer (some ⟨p, 0, none⟩), .pointer (some ⟨q, 0, none⟩)] w fun e w' => e = .returned (.int .i64 r) ∧ Gr w w' := by
  obtain ⟨lp, c0, c1⟩ := hp
  obtain ⟨lq, d0, d1⟩ := hq
  go_enter Try.func56, Try.ntmps56
  go_wp2
  go_region_held3 (fun W => W.cell? ⟨p, 0, none⟩ = some (.int .i64 x0) ∧ W.cell? ⟨p, 1, none⟩ = some (.int .i64 x1) ∧ W.cell? ⟨q, 0, none⟩ = some (.int .i64 y0) ∧ W.cell? ⟨q, 1, none⟩ = some (.int .i64 y1) ∧ Gr w W)
    (first | (go_split_ands; refine ⟨?_, ?_, ?_, ?_, ?_⟩; (all_goals (first | (go_keep; done) | (repeat (first | exact Gr.refl _ | assumption | apply Gr.drew | apply Gr.alloc))))))
    (first | (go_at_call 69; refine (re_c _ _ _).mono ?_; rintro e w' ⟨rfl, rfl⟩))
  go_wp2
  go_ret
  exact ⟨by rw [← hw]; rfl, by repeat (first | exact Gr.refl _ | assumption | apply Gr.drew | apply Gr.alloc)⟩

theorem sum1_im (p q : Nat) (x0 x1 y0 y1 r : Int) (w : World) (hp : CxAt w p x0 x1) (hq : CxAt w q y0 y1) (hw : IntKind.i64.wrap (x1 + y1) = r) :
    Calls Try.prog 56 #[.func (.func 70) #[] #[], .pointer (some ⟨p, 0, none⟩), .pointer (some ⟨q, 0, none⟩)] w fun e w' => e = .returned (.int .i64 r) ∧ Gr w w' := by
  obtain ⟨lp, c0, c1⟩ := hp
  obtain ⟨lq, d0, d1⟩ := hq
  go_enter Try.func56, Try.ntmps56
  go_wp2
  go_region_held3 (fun W => W.cell? ⟨p, 0, none⟩ = some (.int .i64 x0) ∧ W.cell? ⟨p, 1, none⟩ = some (.int .i64 x1) ∧ W.cell? ⟨q, 0, none⟩ = some (.int .i64 y0) ∧ W.cell? ⟨q, 1, none⟩ = some (.int .i64 y1) ∧ Gr w W)
    (first | (go_split_ands; refine ⟨?_, ?_, ?_, ?_, ?_⟩; (all_goals (first | (go_keep; done) | (repeat (first | exact Gr.refl _ | assumption | apply Gr.drew | apply Gr.alloc))))))
    (first | (go_at_call 70; refine (im_c _ _ _).mono ?_; rintro e w' ⟨rfl, rfl⟩))
  go_wp2
  go_ret
  exact ⟨by rw [← hw]; rfl, by repeat (first | exact Gr.refl _ | assumption | apply Gr.drew | apply Gr.alloc)⟩

theorem less1_re (p q : Nat) (x0 x1 y0 y1 r : Int) (w : World) (hp : CxAt w p x0 x1) (hq : CxAt w q y0 y1) (hw : IntKind.i64.wrap (x0 - y0) = r) :
    Calls Try.prog 57 #[.func (.func 69) #[] #[], .pointer (some ⟨p, 0, none⟩), .pointer (some ⟨q, 0, none⟩)] w fun e w' => e = .returned (.int .i64 r) ∧ Gr w w' := by
  obtain ⟨lp, c0, c1⟩ := hp
  obtain ⟨lq, d0, d1⟩ := hq
  go_enter Try.func57, Try.ntmps57
  go_wp2
  go_region_held3 (fun W => W.cell? ⟨p, 0, none⟩ = some (.int .i64 x0) ∧ W.cell? ⟨p, 1, none⟩ = some (.int .i64 x1) ∧ W.cell? ⟨q, 0, none⟩ = some (.int .i64 y0) ∧ W.cell? ⟨q, 1, none⟩ = some (.int .i64 y1) ∧ Gr w W)
    (first | (go_split_ands; refine ⟨?_, ?_, ?_, ?_, ?_⟩; (all_goals (first | (go_keep; done) | (repeat (first | exact Gr.refl _ | assumption | apply Gr.drew | apply Gr.alloc))))))
    (first | (go_at_call 69; refine (re_c _ _ _).mono ?_; rintro e w' ⟨rfl, rfl⟩))
  go_wp2
  go_ret
  exact ⟨by rw [← hw]; rfl, by repeat (first | exact Gr.refl _ | assumption | apply Gr.drew | apply Gr.alloc)⟩

theorem less1_im (p q : Nat) (x0 x1 y0 y1 r : Int) (w : World) (hp : CxAt w p x0 x1) (hq : CxAt w q y0 y1) (hw : IntKind.i64.wrap (x1 - y1) = r) :
    Calls Try.prog 57 #[.func (.func 70) #[] #[], .pointer (some ⟨p, 0, none⟩), .pointer (some ⟨q, 0, none⟩)] w fun e w' => e = .returned (.int .i64 r) ∧ Gr w w' := by
  obtain ⟨lp, c0, c1⟩ := hp
  obtain ⟨lq, d0, d1⟩ := hq
  go_enter Try.func57, Try.ntmps57
  go_wp2
  go_region_held3 (fun W => W.cell? ⟨p, 0, none⟩ = some (.int .i64 x0) ∧ W.cell? ⟨p, 1, none⟩ = some (.int .i64 x1) ∧ W.cell? ⟨q, 0, none⟩ = some (.int .i64 y0) ∧ W.cell? ⟨q, 1, none⟩ = some (.int .i64 y1) ∧ Gr w W)
    (first | (go_split_ands; refine ⟨?_, ?_, ?_, ?_, ?_⟩; (all_goals (first | (go_keep; done) | (repeat (first | exact Gr.refl _ | assumption | apply Gr.drew | apply Gr.alloc))))))
    (first | (go_at_call 70; refine (im_c _ _ _).mono ?_; rintro e w' ⟨rfl, rfl⟩))
  go_wp2
  go_ret
  exact ⟨by rw [← hw]; rfl, by repeat (first | exact Gr.refl _ | assumption | apply Gr.drew | apply Gr.alloc)⟩

theorem shift1_re (p q m : Nat) (x0 x1 s mo : Int) (w : World) (hp : CxAt w p x0 x1) (hq : w.cell? ⟨q, 0, none⟩ = some (.int .i64 s)) (lq : q < w.heap.size) (hm : w.cell? ⟨m, 0, none⟩ = some (.int .i64 mo)) (lm : m < w.heap.size)
    (wx : -9223372036854775808 ≤ x0 ∧ x0 ≤ 9223372036854775807) (s0 : 0 ≤ s) (s1 : s ≤ 62) (m0 : 0 ≤ mo) (m1 : mo ≤ 2) :
    Calls Try.prog 58 #[.func (.func 69) #[] #[], .pointer (some ⟨p, 0, none⟩), .pointer (some ⟨q, 0, none⟩), .pointer (some ⟨m, 0, none⟩)] w fun e w' => e = .returned (.int .i64 (rnd x0 s.toNat mo)) ∧ Gr w w' := by
  have HS := Lib.hid (shift_ok x0 s mo wx s0 s1 m0 m1)
  generalize rnd x0 s.toNat mo = r at HS ⊢
  obtain ⟨lp, c0, c1⟩ := hp
  clear wx s0 s1 m0 m1
  go_enter Try.func58, Try.ntmps58
  go_wp2
  go_region_held3 (fun W => W.cell? ⟨p, 0, none⟩ = some (.int .i64 x0) ∧ W.cell? ⟨p, 1, none⟩ = some (.int .i64 x1) ∧ W.cell? ⟨q, 0, none⟩ = some (.int .i64 s) ∧ W.cell? ⟨m, 0, none⟩ = some (.int .i64 mo) ∧ Gr w W)
    (first | (go_split_ands; refine ⟨?_, ?_, ?_, ?_, ?_⟩; (all_goals (first | (go_keep; done) | (refine (Gr.cell (by assumption) ?_).trans ?_ <;> (first | assumption | (simp; done)) ; done) | (repeat (first | exact Gr.refl _ | assumption | apply Gr.drew | apply Gr.alloc | (refine Gr.trans ?_ (by assumption))))))))
    (first | (go_at_call 69; refine (re_c _ _ _).mono ?_; rintro e w' ⟨rfl, rfl⟩) | (go_at_call 38; go_split_ands; refine (HS.out _).mono ?_; rintro e w' ⟨rfl, hg⟩; have hgw : Gr w w' := Gr.trans (by assumption) hg))
  go_wp2
  go_ret
  exact ⟨rfl, by repeat (first | exact Gr.refl _ | assumption | apply Gr.drew | apply Gr.alloc)⟩

theorem shift1_im (p q m : Nat) (x0 x1 s mo : Int) (w : World) (hp : CxAt w p x0 x1) (hq : w.cell? ⟨q, 0, none⟩ = some (.int .i64 s)) (lq : q < w.heap.size) (hm : w.cell? ⟨m, 0, none⟩ = some (.int .i64 mo)) (lm : m < w.heap.size)
    (wx : -9223372036854775808 ≤ x1 ∧ x1 ≤ 9223372036854775807) (s0 : 0 ≤ s) (s1 : s ≤ 62) (m0 : 0 ≤ mo) (m1 : mo ≤ 2) :
    Calls Try.prog 58 #[.func (.func 70) #[] #[], .pointer (some ⟨p, 0, none⟩), .pointer (some ⟨q, 0, none⟩), .pointer (some ⟨m, 0, none⟩)] w fun e w' => e = .returned (.int .i64 (rnd x1 s.toNat mo)) ∧ Gr w w' := by
  have HS := Lib.hid (shift_ok x1 s mo wx s0 s1 m0 m1)
  generalize rnd x1 s.toNat mo = r at HS ⊢
  obtain ⟨lp, c0, c1⟩ := hp
  clear wx s0 s1 m0 m1
  go_enter Try.func58, Try.ntmps58
  go_wp2
  go_region_held3 (fun W => W.cell? ⟨p, 0, none⟩ = some (.int .i64 x0) ∧ W.cell? ⟨p, 1, none⟩ = some (.int .i64 x1) ∧ W.cell? ⟨q, 0, none⟩ = some (.int .i64 s) ∧ W.cell? ⟨m, 0, none⟩ = some (.int .i64 mo) ∧ Gr w W)
    (first | (go_split_ands; refine ⟨?_, ?_, ?_, ?_, ?_⟩; (all_goals (first | (go_keep; done) | (refine (Gr.cell (by assumption) ?_).trans ?_ <;> (first | assumption | (simp; done)) ; done) | (repeat (first | exact Gr.refl _ | assumption | apply Gr.drew | apply Gr.alloc | (refine Gr.trans ?_ (by assumption))))))))
    (first | (go_at_call 70; refine (im_c _ _ _).mono ?_; rintro e w' ⟨rfl, rfl⟩) | (go_at_call 38; go_split_ands; refine (HS.out _).mono ?_; rintro e w' ⟨rfl, hg⟩; have hgw : Gr w w' := Gr.trans (by assumption) hg))
  go_wp2
  go_ret
  exact ⟨rfl, by repeat (first | exact Gr.refl _ | assumption | apply Gr.drew | apply Gr.alloc)⟩

end Go.Proofs.Ytkbfniogannlhaa
