/- SplitJoins, from what package split's Join and reference 12's answer. -/
import Derived.Test.YtmhcbphkkcmecaaLaw12
import Derived.Test.YtmhcbphkkcmecaaRef12
namespace Go.Proofs.Ytmhcbphkkcmecaa
open Go.ChangeShapes Go.WideShapes Go.ChangeAt Go.RowKit
set_option linter.unusedVariables false
set_option linter.unusedSimpArgs false
set_option maxRecDepth 100000


set_option maxHeartbeats 4000000 in
theorem splitJoins_arg (b mo : Int) (inv : Bool) (ju jv jy jz ja jc : Gi) (hc : b < 0 ∨ (0 ≤ b ∧ 29 < b) ∨ (0 ≤ b ∧ b ≤ 29 ∧ mo < 0) ∨ (0 ≤ b ∧ b ≤ 29 ∧ 0 ≤ mo ∧ 2 < mo)) (HJ : Hid (∀ W, Calls Try.prog 23 #[.agg #[.int .i64 (ju).re, .int .i64 (ju).im], .agg #[.int .i64 (jv).re, .int .i64 (jv).im], .agg #[.int .i64 (jy).re, .int .i64 (jy).im], .agg #[.int .i64 (jz).re, .int .i64 (jz).im], .agg #[.int .i64 (ja).re, .int .i64 (ja).im], .agg #[.int .i64 (jc).re, .int .i64 (jc).im], .int .i64 b, .int .i64 mo, .bool inv] W fun e w' => e = .returned (.tuple #[.agg #[.int .i64 0, .int .i64 0, .int .i64 0, .int .i64 0, .int .i64 0, .int .i64 0, .int .i64 0, .int .i64 0], .int .i64 1]) ∧ Gr W w')) (AL : Hid (∀ W, Calls Try.prog 24 #[] W fun e w' => e = .returned (.bool true) ∧ Gr W w')) (w : World) :
    Calls Try.prog 7 #[.agg #[.int .i64 (ju).re, .int .i64 (ju).im], .agg #[.int .i64 (jv).re, .int .i64 (jv).im], .agg #[.int .i64 (jy).re, .int .i64 (jy).im], .agg #[.int .i64 (jz).re, .int .i64 (jz).im], .agg #[.int .i64 (ja).re, .int .i64 (ja).im], .agg #[.int .i64 (jc).re, .int .i64 (jc).im], .int .i64 b, .int .i64 mo, .bool inv] w fun e w' => e = .returned (.bool true) ∧ Gr w w' := by
  go_enter Try.func7, Try.ntmps7
  go_wp2_with fail
  obtain ⟨u0, hU⟩ : ∃ uu, uu = (((((((w.alloc (.cells #[.int .i64 ju.re, .int .i64 ju.im] 23)).alloc (.cells #[.int .i64 jv.re, .int .i64 jv.im] 23)).alloc (.cells #[.int .i64 jy.re, .int .i64 jy.im] 23)).alloc (.cells #[.int .i64 jz.re, .int .i64 jz.im] 23)).alloc (.cells #[.int .i64 ja.re, .int .i64 ja.im] 23)).alloc (.cells #[.int .i64 jc.re, .int .i64 jc.im] 23)).alloc (.cells #[.int .i64 ju.re, .int .i64 ju.im, .int .i64 jv.re, .int .i64 jv.im, .int .i64 jy.re, .int .i64 jy.im, .int .i64 jz.re, .int .i64 jz.im, .int .i64 ja.re, .int .i64 ja.im, .int .i64 jc.re, .int .i64 jc.im] 47)) := ⟨_, rfl⟩
  have gu : Gr w u0 := by rw [hU]; exact (((((((Gr.refl w).alloc _ _).alloc _ _).alloc _ _).alloc _ _).alloc _ _).alloc _ _).alloc _ _
  have R0 : CellsAt u0 (w.heap.size) 23 #[.int .i64 ju.re, .int .i64 ju.im] := by
    rw [hU]
    have := (((((((CellsAt.new w 23 #[.int .i64 ju.re, .int .i64 ju.im]).alloc (.cells #[.int .i64 jv.re, .int .i64 jv.im] 23)).alloc (.cells #[.int .i64 jy.re, .int .i64 jy.im] 23)).alloc (.cells #[.int .i64 jz.re, .int .i64 jz.im] 23)).alloc (.cells #[.int .i64 ja.re, .int .i64 ja.im] 23)).alloc (.cells #[.int .i64 jc.re, .int .i64 jc.im] 23)).alloc (.cells #[.int .i64 ju.re, .int .i64 ju.im, .int .i64 jv.re, .int .i64 jv.im, .int .i64 jy.re, .int .i64 jy.im, .int .i64 jz.re, .int .i64 jz.im, .int .i64 ja.re, .int .i64 ja.im, .int .i64 jc.re, .int .i64 jc.im] 47))
    simpa only [World.size_alloc] using this
  have R1 : CellsAt u0 (w.heap.size + 1) 23 #[.int .i64 jv.re, .int .i64 jv.im] := by
    rw [hU]
    have := ((((((CellsAt.new (w.alloc (.cells #[.int .i64 ju.re, .int .i64 ju.im] 23)) 23 #[.int .i64 jv.re, .int .i64 jv.im]).alloc (.cells #[.int .i64 jy.re, .int .i64 jy.im] 23)).alloc (.cells #[.int .i64 jz.re, .int .i64 jz.im] 23)).alloc (.cells #[.int .i64 ja.re, .int .i64 ja.im] 23)).alloc (.cells #[.int .i64 jc.re, .int .i64 jc.im] 23)).alloc (.cells #[.int .i64 ju.re, .int .i64 ju.im, .int .i64 jv.re, .int .i64 jv.im, .int .i64 jy.re, .int .i64 jy.im, .int .i64 jz.re, .int .i64 jz.im, .int .i64 ja.re, .int .i64 ja.im, .int .i64 jc.re, .int .i64 jc.im] 47))
    simpa only [World.size_alloc] using this
  have R2 : CellsAt u0 (w.heap.size + 1 + 1) 23 #[.int .i64 jy.re, .int .i64 jy.im] := by
    rw [hU]
    have := (((((CellsAt.new ((w.alloc (.cells #[.int .i64 ju.re, .int .i64 ju.im] 23)).alloc (.cells #[.int .i64 jv.re, .int .i64 jv.im] 23)) 23 #[.int .i64 jy.re, .int .i64 jy.im]).alloc (.cells #[.int .i64 jz.re, .int .i64 jz.im] 23)).alloc (.cells #[.int .i64 ja.re, .int .i64 ja.im] 23)).alloc (.cells #[.int .i64 jc.re, .int .i64 jc.im] 23)).alloc (.cells #[.int .i64 ju.re, .int .i64 ju.im, .int .i64 jv.re, .int .i64 jv.im, .int .i64 jy.re, .int .i64 jy.im, .int .i64 jz.re, .int .i64 jz.im, .int .i64 ja.re, .int .i64 ja.im, .int .i64 jc.re, .int .i64 jc.im] 47))
    simpa only [World.size_alloc] using this
  have R3 : CellsAt u0 (w.heap.size + 1 + 1 + 1) 23 #[.int .i64 jz.re, .int .i64 jz.im] := by
    rw [hU]
    have := ((((CellsAt.new (((w.alloc (.cells #[.int .i64 ju.re, .int .i64 ju.im] 23)).alloc (.cells #[.int .i64 jv.re, .int .i64 jv.im] 23)).alloc (.cells #[.int .i64 jy.re, .int .i64 jy.im] 23)) 23 #[.int .i64 jz.re, .int .i64 jz.im]).alloc (.cells #[.int .i64 ja.re, .int .i64 ja.im] 23)).alloc (.cells #[.int .i64 jc.re, .int .i64 jc.im] 23)).alloc (.cells #[.int .i64 ju.re, .int .i64 ju.im, .int .i64 jv.re, .int .i64 jv.im, .int .i64 jy.re, .int .i64 jy.im, .int .i64 jz.re, .int .i64 jz.im, .int .i64 ja.re, .int .i64 ja.im, .int .i64 jc.re, .int .i64 jc.im] 47))
    simpa only [World.size_alloc] using this
  have R4 : CellsAt u0 (w.heap.size + 1 + 1 + 1 + 1) 23 #[.int .i64 ja.re, .int .i64 ja.im] := by
    rw [hU]
    have := (((CellsAt.new ((((w.alloc (.cells #[.int .i64 ju.re, .int .i64 ju.im] 23)).alloc (.cells #[.int .i64 jv.re, .int .i64 jv.im] 23)).alloc (.cells #[.int .i64 jy.re, .int .i64 jy.im] 23)).alloc (.cells #[.int .i64 jz.re, .int .i64 jz.im] 23)) 23 #[.int .i64 ja.re, .int .i64 ja.im]).alloc (.cells #[.int .i64 jc.re, .int .i64 jc.im] 23)).alloc (.cells #[.int .i64 ju.re, .int .i64 ju.im, .int .i64 jv.re, .int .i64 jv.im, .int .i64 jy.re, .int .i64 jy.im, .int .i64 jz.re, .int .i64 jz.im, .int .i64 ja.re, .int .i64 ja.im, .int .i64 jc.re, .int .i64 jc.im] 47))
    simpa only [World.size_alloc] using this
  have R5 : CellsAt u0 (w.heap.size + 1 + 1 + 1 + 1 + 1) 23 #[.int .i64 jc.re, .int .i64 jc.im] := by
    rw [hU]
    have := ((CellsAt.new (((((w.alloc (.cells #[.int .i64 ju.re, .int .i64 ju.im] 23)).alloc (.cells #[.int .i64 jv.re, .int .i64 jv.im] 23)).alloc (.cells #[.int .i64 jy.re, .int .i64 jy.im] 23)).alloc (.cells #[.int .i64 jz.re, .int .i64 jz.im] 23)).alloc (.cells #[.int .i64 ja.re, .int .i64 ja.im] 23)) 23 #[.int .i64 jc.re, .int .i64 jc.im]).alloc (.cells #[.int .i64 ju.re, .int .i64 ju.im, .int .i64 jv.re, .int .i64 jv.im, .int .i64 jy.re, .int .i64 jy.im, .int .i64 jz.re, .int .i64 jz.im, .int .i64 ja.re, .int .i64 ja.im, .int .i64 jc.re, .int .i64 jc.im] 47))
    simpa only [World.size_alloc] using this
  have R6 : CellsAt u0 (w.heap.size + 1 + 1 + 1 + 1 + 1 + 1) 47 #[.int .i64 ju.re, .int .i64 ju.im, .int .i64 jv.re, .int .i64 jv.im, .int .i64 jy.re, .int .i64 jy.im, .int .i64 jz.re, .int .i64 jz.im, .int .i64 ja.re, .int .i64 ja.im, .int .i64 jc.re, .int .i64 jc.im] := by
    rw [hU]
    have := (CellsAt.new ((((((w.alloc (.cells #[.int .i64 ju.re, .int .i64 ju.im] 23)).alloc (.cells #[.int .i64 jv.re, .int .i64 jv.im] 23)).alloc (.cells #[.int .i64 jy.re, .int .i64 jy.im] 23)).alloc (.cells #[.int .i64 jz.re, .int .i64 jz.im] 23)).alloc (.cells #[.int .i64 ja.re, .int .i64 ja.im] 23)).alloc (.cells #[.int .i64 jc.re, .int .i64 jc.im] 23)) 47 #[.int .i64 ju.re, .int .i64 ju.im, .int .i64 jv.re, .int .i64 jv.im, .int .i64 jy.re, .int .i64 jy.im, .int .i64 jz.re, .int .i64 jz.im, .int .i64 ja.re, .int .i64 ja.im, .int .i64 jc.re, .int .i64 jc.im])
    simpa only [World.size_alloc] using this
  rw [← hU]
  clear hU
  have lu := R0.lt
  have lv := R1.lt
  have ly := R2.lt
  have lz := R3.lt
  have la := R4.lt
  have lc := R5.lt
  have lJ := R6.lt
  refine (HJ.out _).mono ?_
  rintro e w1 ⟨rfl, g1⟩
  have Fu_1 := CellsAt.gr (R0) g1
  have lu_1 := CellsAt.lt (Fu_1)
  have Fv_1 := CellsAt.gr (R1) g1
  have lv_1 := CellsAt.lt (Fv_1)
  have Fy_1 := CellsAt.gr (R2) g1
  have ly_1 := CellsAt.lt (Fy_1)
  have Fz_1 := CellsAt.gr (R3) g1
  have lz_1 := CellsAt.lt (Fz_1)
  have Fa_1 := CellsAt.gr (R4) g1
  have la_1 := CellsAt.lt (Fa_1)
  have Fc_1 := CellsAt.gr (R5) g1
  have lc_1 := CellsAt.lt (Fc_1)
  have FJ_1 := CellsAt.gr (R6) g1
  have lJ_1 := CellsAt.lt (FJ_1)
  have z1 := (gu).trans g1
  clear R0 R1 R2 R3 R4 R5 R6 gu g1
  have heq : ∀ W, (Op.equalIn 10000 24 (.agg #[.int .i64 0, .int .i64 0, .int .i64 0, .int .i64 0, .int .i64 0, .int .i64 0, .int .i64 0, .int .i64 0]) (.agg #[.int .i64 0, .int .i64 0, .int .i64 0, .int .i64 0, .int .i64 0, .int .i64 0, .int .i64 0, .int .i64 0])).run Try.prog W = .ok true W := fun _ => by kernel_rfl
  rcases hc with c1 | ⟨c0, c1⟩ | ⟨c0, c1, c2⟩ | ⟨c0, c1, c2, c3⟩
  all_goals
    go_wp2_with fail
    refine (AL.out _).mono ?_
    rintro e w2 ⟨rfl, g2⟩
    have FJ_2 := CellsAt.gr ((FJ_1).alloc _) g2
    have lJ_2 := CellsAt.lt (FJ_2)
    have Fx_2 := CellsAt.gr (CellsAt.new w1 24 #[.int .i64 0, .int .i64 0, .int .i64 0, .int .i64 0, .int .i64 0, .int .i64 0, .int .i64 0, .int .i64 0]) g2
    have lx_2 := CellsAt.lt (Fx_2)
    have z2 := ((z1).alloc _ _).trans g2
    clear g2
    have cx0 := CellsAt.cell (Fx_2) 0
    have cx1 := CellsAt.cell (Fx_2) 1
    have cx2 := CellsAt.cell (Fx_2) 2
    have cx3 := CellsAt.cell (Fx_2) 3
    have cx4 := CellsAt.cell (Fx_2) 4
    have cx5 := CellsAt.cell (Fx_2) 5
    have cx6 := CellsAt.cell (Fx_2) 6
    have cx7 := CellsAt.cell (Fx_2) 7
    simp only [List.getElem?_toArray, List.getElem?_cons_zero, List.getElem?_cons_succ] at cx0 cx1 cx2 cx3 cx4 cx5 cx6 cx7
    go_wp2_with fail
    clear cx0 cx1 cx2 cx3 cx4 cx5 cx6 cx7
    go_ret
    exact ⟨rfl, z2⟩

set_option maxHeartbeats 4000000 in
theorem splitJoins_range (b mo : Int) (inv : Bool) (ju jv jy jz ja jc : Gi) (b0 : 0 ≤ b) (b1 : b ≤ 29) (m0 : 0 ≤ mo) (m1 : mo ≤ 2) (HJ : Hid (∀ W, Calls Try.prog 23 #[.agg #[.int .i64 (ju).re, .int .i64 (ju).im], .agg #[.int .i64 (jv).re, .int .i64 (jv).im], .agg #[.int .i64 (jy).re, .int .i64 (jy).im], .agg #[.int .i64 (jz).re, .int .i64 (jz).im], .agg #[.int .i64 (ja).re, .int .i64 (ja).im], .agg #[.int .i64 (jc).re, .int .i64 (jc).im], .int .i64 b, .int .i64 mo, .bool inv] W fun e w' => e = .returned (.tuple #[.agg #[.int .i64 0, .int .i64 0, .int .i64 0, .int .i64 0, .int .i64 0, .int .i64 0, .int .i64 0, .int .i64 0], .int .i64 2]) ∧ Gr W w')) (HR : Hid (∀ W, Calls Try.prog 25 #[.agg #[.int .i64 ju.re, .int .i64 ju.im, .int .i64 jv.re, .int .i64 jv.im, .int .i64 jy.re, .int .i64 jy.im, .int .i64 jz.re, .int .i64 jz.im, .int .i64 ja.re, .int .i64 ja.im, .int .i64 jc.re, .int .i64 jc.im], .int .i64 b] W fun e w' => e = .returned (.bool false) ∧ Gr W w')) (AL : Hid (∀ W, Calls Try.prog 24 #[] W fun e w' => e = .returned (.bool true) ∧ Gr W w')) (w : World) :
    Calls Try.prog 7 #[.agg #[.int .i64 (ju).re, .int .i64 (ju).im], .agg #[.int .i64 (jv).re, .int .i64 (jv).im], .agg #[.int .i64 (jy).re, .int .i64 (jy).im], .agg #[.int .i64 (jz).re, .int .i64 (jz).im], .agg #[.int .i64 (ja).re, .int .i64 (ja).im], .agg #[.int .i64 (jc).re, .int .i64 (jc).im], .int .i64 b, .int .i64 mo, .bool inv] w fun e w' => e = .returned (.bool true) ∧ Gr w w' := by
  go_enter Try.func7, Try.ntmps7
  go_wp2_with fail
  obtain ⟨u0, hU⟩ : ∃ uu, uu = (((((((w.alloc (.cells #[.int .i64 ju.re, .int .i64 ju.im] 23)).alloc (.cells #[.int .i64 jv.re, .int .i64 jv.im] 23)).alloc (.cells #[.int .i64 jy.re, .int .i64 jy.im] 23)).alloc (.cells #[.int .i64 jz.re, .int .i64 jz.im] 23)).alloc (.cells #[.int .i64 ja.re, .int .i64 ja.im] 23)).alloc (.cells #[.int .i64 jc.re, .int .i64 jc.im] 23)).alloc (.cells #[.int .i64 ju.re, .int .i64 ju.im, .int .i64 jv.re, .int .i64 jv.im, .int .i64 jy.re, .int .i64 jy.im, .int .i64 jz.re, .int .i64 jz.im, .int .i64 ja.re, .int .i64 ja.im, .int .i64 jc.re, .int .i64 jc.im] 47)) := ⟨_, rfl⟩
  have gu : Gr w u0 := by rw [hU]; exact (((((((Gr.refl w).alloc _ _).alloc _ _).alloc _ _).alloc _ _).alloc _ _).alloc _ _).alloc _ _
  have R0 : CellsAt u0 (w.heap.size) 23 #[.int .i64 ju.re, .int .i64 ju.im] := by
    rw [hU]
    have := (((((((CellsAt.new w 23 #[.int .i64 ju.re, .int .i64 ju.im]).alloc (.cells #[.int .i64 jv.re, .int .i64 jv.im] 23)).alloc (.cells #[.int .i64 jy.re, .int .i64 jy.im] 23)).alloc (.cells #[.int .i64 jz.re, .int .i64 jz.im] 23)).alloc (.cells #[.int .i64 ja.re, .int .i64 ja.im] 23)).alloc (.cells #[.int .i64 jc.re, .int .i64 jc.im] 23)).alloc (.cells #[.int .i64 ju.re, .int .i64 ju.im, .int .i64 jv.re, .int .i64 jv.im, .int .i64 jy.re, .int .i64 jy.im, .int .i64 jz.re, .int .i64 jz.im, .int .i64 ja.re, .int .i64 ja.im, .int .i64 jc.re, .int .i64 jc.im] 47))
    simpa only [World.size_alloc] using this
  have R1 : CellsAt u0 (w.heap.size + 1) 23 #[.int .i64 jv.re, .int .i64 jv.im] := by
    rw [hU]
    have := ((((((CellsAt.new (w.alloc (.cells #[.int .i64 ju.re, .int .i64 ju.im] 23)) 23 #[.int .i64 jv.re, .int .i64 jv.im]).alloc (.cells #[.int .i64 jy.re, .int .i64 jy.im] 23)).alloc (.cells #[.int .i64 jz.re, .int .i64 jz.im] 23)).alloc (.cells #[.int .i64 ja.re, .int .i64 ja.im] 23)).alloc (.cells #[.int .i64 jc.re, .int .i64 jc.im] 23)).alloc (.cells #[.int .i64 ju.re, .int .i64 ju.im, .int .i64 jv.re, .int .i64 jv.im, .int .i64 jy.re, .int .i64 jy.im, .int .i64 jz.re, .int .i64 jz.im, .int .i64 ja.re, .int .i64 ja.im, .int .i64 jc.re, .int .i64 jc.im] 47))
    simpa only [World.size_alloc] using this
  have R2 : CellsAt u0 (w.heap.size + 1 + 1) 23 #[.int .i64 jy.re, .int .i64 jy.im] := by
    rw [hU]
    have := (((((CellsAt.new ((w.alloc (.cells #[.int .i64 ju.re, .int .i64 ju.im] 23)).alloc (.cells #[.int .i64 jv.re, .int .i64 jv.im] 23)) 23 #[.int .i64 jy.re, .int .i64 jy.im]).alloc (.cells #[.int .i64 jz.re, .int .i64 jz.im] 23)).alloc (.cells #[.int .i64 ja.re, .int .i64 ja.im] 23)).alloc (.cells #[.int .i64 jc.re, .int .i64 jc.im] 23)).alloc (.cells #[.int .i64 ju.re, .int .i64 ju.im, .int .i64 jv.re, .int .i64 jv.im, .int .i64 jy.re, .int .i64 jy.im, .int .i64 jz.re, .int .i64 jz.im, .int .i64 ja.re, .int .i64 ja.im, .int .i64 jc.re, .int .i64 jc.im] 47))
    simpa only [World.size_alloc] using this
  have R3 : CellsAt u0 (w.heap.size + 1 + 1 + 1) 23 #[.int .i64 jz.re, .int .i64 jz.im] := by
    rw [hU]
    have := ((((CellsAt.new (((w.alloc (.cells #[.int .i64 ju.re, .int .i64 ju.im] 23)).alloc (.cells #[.int .i64 jv.re, .int .i64 jv.im] 23)).alloc (.cells #[.int .i64 jy.re, .int .i64 jy.im] 23)) 23 #[.int .i64 jz.re, .int .i64 jz.im]).alloc (.cells #[.int .i64 ja.re, .int .i64 ja.im] 23)).alloc (.cells #[.int .i64 jc.re, .int .i64 jc.im] 23)).alloc (.cells #[.int .i64 ju.re, .int .i64 ju.im, .int .i64 jv.re, .int .i64 jv.im, .int .i64 jy.re, .int .i64 jy.im, .int .i64 jz.re, .int .i64 jz.im, .int .i64 ja.re, .int .i64 ja.im, .int .i64 jc.re, .int .i64 jc.im] 47))
    simpa only [World.size_alloc] using this
  have R4 : CellsAt u0 (w.heap.size + 1 + 1 + 1 + 1) 23 #[.int .i64 ja.re, .int .i64 ja.im] := by
    rw [hU]
    have := (((CellsAt.new ((((w.alloc (.cells #[.int .i64 ju.re, .int .i64 ju.im] 23)).alloc (.cells #[.int .i64 jv.re, .int .i64 jv.im] 23)).alloc (.cells #[.int .i64 jy.re, .int .i64 jy.im] 23)).alloc (.cells #[.int .i64 jz.re, .int .i64 jz.im] 23)) 23 #[.int .i64 ja.re, .int .i64 ja.im]).alloc (.cells #[.int .i64 jc.re, .int .i64 jc.im] 23)).alloc (.cells #[.int .i64 ju.re, .int .i64 ju.im, .int .i64 jv.re, .int .i64 jv.im, .int .i64 jy.re, .int .i64 jy.im, .int .i64 jz.re, .int .i64 jz.im, .int .i64 ja.re, .int .i64 ja.im, .int .i64 jc.re, .int .i64 jc.im] 47))
    simpa only [World.size_alloc] using this
  have R5 : CellsAt u0 (w.heap.size + 1 + 1 + 1 + 1 + 1) 23 #[.int .i64 jc.re, .int .i64 jc.im] := by
    rw [hU]
    have := ((CellsAt.new (((((w.alloc (.cells #[.int .i64 ju.re, .int .i64 ju.im] 23)).alloc (.cells #[.int .i64 jv.re, .int .i64 jv.im] 23)).alloc (.cells #[.int .i64 jy.re, .int .i64 jy.im] 23)).alloc (.cells #[.int .i64 jz.re, .int .i64 jz.im] 23)).alloc (.cells #[.int .i64 ja.re, .int .i64 ja.im] 23)) 23 #[.int .i64 jc.re, .int .i64 jc.im]).alloc (.cells #[.int .i64 ju.re, .int .i64 ju.im, .int .i64 jv.re, .int .i64 jv.im, .int .i64 jy.re, .int .i64 jy.im, .int .i64 jz.re, .int .i64 jz.im, .int .i64 ja.re, .int .i64 ja.im, .int .i64 jc.re, .int .i64 jc.im] 47))
    simpa only [World.size_alloc] using this
  have R6 : CellsAt u0 (w.heap.size + 1 + 1 + 1 + 1 + 1 + 1) 47 #[.int .i64 ju.re, .int .i64 ju.im, .int .i64 jv.re, .int .i64 jv.im, .int .i64 jy.re, .int .i64 jy.im, .int .i64 jz.re, .int .i64 jz.im, .int .i64 ja.re, .int .i64 ja.im, .int .i64 jc.re, .int .i64 jc.im] := by
    rw [hU]
    have := (CellsAt.new ((((((w.alloc (.cells #[.int .i64 ju.re, .int .i64 ju.im] 23)).alloc (.cells #[.int .i64 jv.re, .int .i64 jv.im] 23)).alloc (.cells #[.int .i64 jy.re, .int .i64 jy.im] 23)).alloc (.cells #[.int .i64 jz.re, .int .i64 jz.im] 23)).alloc (.cells #[.int .i64 ja.re, .int .i64 ja.im] 23)).alloc (.cells #[.int .i64 jc.re, .int .i64 jc.im] 23)) 47 #[.int .i64 ju.re, .int .i64 ju.im, .int .i64 jv.re, .int .i64 jv.im, .int .i64 jy.re, .int .i64 jy.im, .int .i64 jz.re, .int .i64 jz.im, .int .i64 ja.re, .int .i64 ja.im, .int .i64 jc.re, .int .i64 jc.im])
    simpa only [World.size_alloc] using this
  rw [← hU]
  clear hU
  have lu := R0.lt
  have lv := R1.lt
  have ly := R2.lt
  have lz := R3.lt
  have la := R4.lt
  have lc := R5.lt
  have lJ := R6.lt
  refine (HJ.out _).mono ?_
  rintro e w1 ⟨rfl, g1⟩
  have Fu_1 := CellsAt.gr (R0) g1
  have lu_1 := CellsAt.lt (Fu_1)
  have Fv_1 := CellsAt.gr (R1) g1
  have lv_1 := CellsAt.lt (Fv_1)
  have Fy_1 := CellsAt.gr (R2) g1
  have ly_1 := CellsAt.lt (Fy_1)
  have Fz_1 := CellsAt.gr (R3) g1
  have lz_1 := CellsAt.lt (Fz_1)
  have Fa_1 := CellsAt.gr (R4) g1
  have la_1 := CellsAt.lt (Fa_1)
  have Fc_1 := CellsAt.gr (R5) g1
  have lc_1 := CellsAt.lt (Fc_1)
  have FJ_1 := CellsAt.gr (R6) g1
  have lJ_1 := CellsAt.lt (FJ_1)
  have z1 := (gu).trans g1
  clear R0 R1 R2 R3 R4 R5 R6 gu g1
  have heq : ∀ W, (Op.equalIn 10000 24 (.agg #[.int .i64 0, .int .i64 0, .int .i64 0, .int .i64 0, .int .i64 0, .int .i64 0, .int .i64 0, .int .i64 0]) (.agg #[.int .i64 0, .int .i64 0, .int .i64 0, .int .i64 0, .int .i64 0, .int .i64 0, .int .i64 0, .int .i64 0])).run Try.prog W = .ok true W := fun _ => by kernel_rfl
  have cJ0 := CellsAt.cell (FJ_1) 0
  have cJ1 := CellsAt.cell (FJ_1) 1
  have cJ2 := CellsAt.cell (FJ_1) 2
  have cJ3 := CellsAt.cell (FJ_1) 3
  have cJ4 := CellsAt.cell (FJ_1) 4
  have cJ5 := CellsAt.cell (FJ_1) 5
  have cJ6 := CellsAt.cell (FJ_1) 6
  have cJ7 := CellsAt.cell (FJ_1) 7
  have cJ8 := CellsAt.cell (FJ_1) 8
  have cJ9 := CellsAt.cell (FJ_1) 9
  have cJ10 := CellsAt.cell (FJ_1) 10
  have cJ11 := CellsAt.cell (FJ_1) 11
  simp only [List.getElem?_toArray, List.getElem?_cons_zero, List.getElem?_cons_succ] at cJ0 cJ1 cJ2 cJ3 cJ4 cJ5 cJ6 cJ7 cJ8 cJ9 cJ10 cJ11
  go_wp2_with fail
  clear cJ0 cJ1 cJ2 cJ3 cJ4 cJ5 cJ6 cJ7 cJ8 cJ9 cJ10 cJ11
  refine (HR.out _).mono ?_
  rintro e w2 ⟨rfl, g2⟩
  have FJ_2 := CellsAt.gr ((FJ_1).alloc _) g2
  have lJ_2 := CellsAt.lt (FJ_2)
  have Fx_2 := CellsAt.gr (CellsAt.new w1 24 #[.int .i64 0, .int .i64 0, .int .i64 0, .int .i64 0, .int .i64 0, .int .i64 0, .int .i64 0, .int .i64 0]) g2
  have lx_2 := CellsAt.lt (Fx_2)
  have z2 := ((z1).alloc _ _).trans g2
  clear g2
  go_wp2_with fail
  refine (AL.out _).mono ?_
  rintro e w3 ⟨rfl, g3⟩
  have FJ_3 := CellsAt.gr (FJ_2) g3
  have lJ_3 := CellsAt.lt (FJ_3)
  have Fx_3 := CellsAt.gr (Fx_2) g3
  have lx_3 := CellsAt.lt (Fx_3)
  have z3 := (z2).trans g3
  clear FJ_2 Fx_2 z2 g3
  have cx0 := CellsAt.cell (Fx_3) 0
  have cx1 := CellsAt.cell (Fx_3) 1
  have cx2 := CellsAt.cell (Fx_3) 2
  have cx3 := CellsAt.cell (Fx_3) 3
  have cx4 := CellsAt.cell (Fx_3) 4
  have cx5 := CellsAt.cell (Fx_3) 5
  have cx6 := CellsAt.cell (Fx_3) 6
  have cx7 := CellsAt.cell (Fx_3) 7
  simp only [List.getElem?_toArray, List.getElem?_cons_zero, List.getElem?_cons_succ] at cx0 cx1 cx2 cx3 cx4 cx5 cx6 cx7
  go_wp2_with fail
  clear cx0 cx1 cx2 cx3 cx4 cx5 cx6 cx7
  go_ret
  exact ⟨rfl, z3⟩

set_option maxHeartbeats 4000000 in
theorem splitJoins_ok (b mo : Int) (inv : Bool) (ju jv jy jz ja jc : Gi) (f : Nat → Gi) (b0 : 0 ≤ b) (b1 : b ≤ 29) (m0 : 0 ≤ mo) (m1 : mo ≤ 2) (HJ : Hid (∀ W, Calls Try.prog 23 #[.agg #[.int .i64 (ju).re, .int .i64 (ju).im], .agg #[.int .i64 (jv).re, .int .i64 (jv).im], .agg #[.int .i64 (jy).re, .int .i64 (jy).im], .agg #[.int .i64 (jz).re, .int .i64 (jz).im], .agg #[.int .i64 (ja).re, .int .i64 (ja).im], .agg #[.int .i64 (jc).re, .int .i64 (jc).im], .int .i64 b, .int .i64 mo, .bool inv] W fun e w' => e = .returned (.tuple #[.agg #[.int .i64 (f 0).re, .int .i64 (f 0).im, .int .i64 (f 1).re, .int .i64 (f 1).im, .int .i64 (f 2).re, .int .i64 (f 2).im, .int .i64 (f 3).re, .int .i64 (f 3).im], .int .i64 0]) ∧ Gr W w')) (HR : Hid (∀ W, Calls Try.prog 25 #[.agg #[.int .i64 ju.re, .int .i64 ju.im, .int .i64 jv.re, .int .i64 jv.im, .int .i64 jy.re, .int .i64 jy.im, .int .i64 jz.re, .int .i64 jz.im, .int .i64 ja.re, .int .i64 ja.im, .int .i64 jc.re, .int .i64 jc.im], .int .i64 b] W fun e w' => e = .returned (.bool true) ∧ Gr W w'))
    (HRJ : Hid (∀ q : Nat, q < 4 → ∀ W, Calls Try.prog 26 #[.agg #[.int .i64 ju.re, .int .i64 ju.im, .int .i64 jv.re, .int .i64 jv.im, .int .i64 jy.re, .int .i64 jy.im, .int .i64 jz.re, .int .i64 jz.im, .int .i64 ja.re, .int .i64 ja.im, .int .i64 jc.re, .int .i64 jc.im], .int .i64 (q : Int), .int .i64 b, .int .i64 mo, .bool inv] W fun e w' => e = .returned (.agg #[.int .i64 (f q).re, .int .i64 (f q).im]) ∧ Gr W w')) (AL : Hid (∀ W, Calls Try.prog 24 #[] W fun e w' => e = .returned (.bool true) ∧ Gr W w')) (w : World) :
    Calls Try.prog 7 #[.agg #[.int .i64 (ju).re, .int .i64 (ju).im], .agg #[.int .i64 (jv).re, .int .i64 (jv).im], .agg #[.int .i64 (jy).re, .int .i64 (jy).im], .agg #[.int .i64 (jz).re, .int .i64 (jz).im], .agg #[.int .i64 (ja).re, .int .i64 (ja).im], .agg #[.int .i64 (jc).re, .int .i64 (jc).im], .int .i64 b, .int .i64 mo, .bool inv] w fun e w' => e = .returned (.bool true) ∧ Gr w w' := by
  go_enter Try.func7, Try.ntmps7
  go_wp2_with fail
  obtain ⟨u0, hU⟩ : ∃ uu, uu = (((((((w.alloc (.cells #[.int .i64 ju.re, .int .i64 ju.im] 23)).alloc (.cells #[.int .i64 jv.re, .int .i64 jv.im] 23)).alloc (.cells #[.int .i64 jy.re, .int .i64 jy.im] 23)).alloc (.cells #[.int .i64 jz.re, .int .i64 jz.im] 23)).alloc (.cells #[.int .i64 ja.re, .int .i64 ja.im] 23)).alloc (.cells #[.int .i64 jc.re, .int .i64 jc.im] 23)).alloc (.cells #[.int .i64 ju.re, .int .i64 ju.im, .int .i64 jv.re, .int .i64 jv.im, .int .i64 jy.re, .int .i64 jy.im, .int .i64 jz.re, .int .i64 jz.im, .int .i64 ja.re, .int .i64 ja.im, .int .i64 jc.re, .int .i64 jc.im] 47)) := ⟨_, rfl⟩
  have gu : Gr w u0 := by rw [hU]; exact (((((((Gr.refl w).alloc _ _).alloc _ _).alloc _ _).alloc _ _).alloc _ _).alloc _ _).alloc _ _
  have R0 : CellsAt u0 (w.heap.size) 23 #[.int .i64 ju.re, .int .i64 ju.im] := by
    rw [hU]
    have := (((((((CellsAt.new w 23 #[.int .i64 ju.re, .int .i64 ju.im]).alloc (.cells #[.int .i64 jv.re, .int .i64 jv.im] 23)).alloc (.cells #[.int .i64 jy.re, .int .i64 jy.im] 23)).alloc (.cells #[.int .i64 jz.re, .int .i64 jz.im] 23)).alloc (.cells #[.int .i64 ja.re, .int .i64 ja.im] 23)).alloc (.cells #[.int .i64 jc.re, .int .i64 jc.im] 23)).alloc (.cells #[.int .i64 ju.re, .int .i64 ju.im, .int .i64 jv.re, .int .i64 jv.im, .int .i64 jy.re, .int .i64 jy.im, .int .i64 jz.re, .int .i64 jz.im, .int .i64 ja.re, .int .i64 ja.im, .int .i64 jc.re, .int .i64 jc.im] 47))
    simpa only [World.size_alloc] using this
  have R1 : CellsAt u0 (w.heap.size + 1) 23 #[.int .i64 jv.re, .int .i64 jv.im] := by
    rw [hU]
    have := ((((((CellsAt.new (w.alloc (.cells #[.int .i64 ju.re, .int .i64 ju.im] 23)) 23 #[.int .i64 jv.re, .int .i64 jv.im]).alloc (.cells #[.int .i64 jy.re, .int .i64 jy.im] 23)).alloc (.cells #[.int .i64 jz.re, .int .i64 jz.im] 23)).alloc (.cells #[.int .i64 ja.re, .int .i64 ja.im] 23)).alloc (.cells #[.int .i64 jc.re, .int .i64 jc.im] 23)).alloc (.cells #[.int .i64 ju.re, .int .i64 ju.im, .int .i64 jv.re, .int .i64 jv.im, .int .i64 jy.re, .int .i64 jy.im, .int .i64 jz.re, .int .i64 jz.im, .int .i64 ja.re, .int .i64 ja.im, .int .i64 jc.re, .int .i64 jc.im] 47))
    simpa only [World.size_alloc] using this
  have R2 : CellsAt u0 (w.heap.size + 1 + 1) 23 #[.int .i64 jy.re, .int .i64 jy.im] := by
    rw [hU]
    have := (((((CellsAt.new ((w.alloc (.cells #[.int .i64 ju.re, .int .i64 ju.im] 23)).alloc (.cells #[.int .i64 jv.re, .int .i64 jv.im] 23)) 23 #[.int .i64 jy.re, .int .i64 jy.im]).alloc (.cells #[.int .i64 jz.re, .int .i64 jz.im] 23)).alloc (.cells #[.int .i64 ja.re, .int .i64 ja.im] 23)).alloc (.cells #[.int .i64 jc.re, .int .i64 jc.im] 23)).alloc (.cells #[.int .i64 ju.re, .int .i64 ju.im, .int .i64 jv.re, .int .i64 jv.im, .int .i64 jy.re, .int .i64 jy.im, .int .i64 jz.re, .int .i64 jz.im, .int .i64 ja.re, .int .i64 ja.im, .int .i64 jc.re, .int .i64 jc.im] 47))
    simpa only [World.size_alloc] using this
  have R3 : CellsAt u0 (w.heap.size + 1 + 1 + 1) 23 #[.int .i64 jz.re, .int .i64 jz.im] := by
    rw [hU]
    have := ((((CellsAt.new (((w.alloc (.cells #[.int .i64 ju.re, .int .i64 ju.im] 23)).alloc (.cells #[.int .i64 jv.re, .int .i64 jv.im] 23)).alloc (.cells #[.int .i64 jy.re, .int .i64 jy.im] 23)) 23 #[.int .i64 jz.re, .int .i64 jz.im]).alloc (.cells #[.int .i64 ja.re, .int .i64 ja.im] 23)).alloc (.cells #[.int .i64 jc.re, .int .i64 jc.im] 23)).alloc (.cells #[.int .i64 ju.re, .int .i64 ju.im, .int .i64 jv.re, .int .i64 jv.im, .int .i64 jy.re, .int .i64 jy.im, .int .i64 jz.re, .int .i64 jz.im, .int .i64 ja.re, .int .i64 ja.im, .int .i64 jc.re, .int .i64 jc.im] 47))
    simpa only [World.size_alloc] using this
  have R4 : CellsAt u0 (w.heap.size + 1 + 1 + 1 + 1) 23 #[.int .i64 ja.re, .int .i64 ja.im] := by
    rw [hU]
    have := (((CellsAt.new ((((w.alloc (.cells #[.int .i64 ju.re, .int .i64 ju.im] 23)).alloc (.cells #[.int .i64 jv.re, .int .i64 jv.im] 23)).alloc (.cells #[.int .i64 jy.re, .int .i64 jy.im] 23)).alloc (.cells #[.int .i64 jz.re, .int .i64 jz.im] 23)) 23 #[.int .i64 ja.re, .int .i64 ja.im]).alloc (.cells #[.int .i64 jc.re, .int .i64 jc.im] 23)).alloc (.cells #[.int .i64 ju.re, .int .i64 ju.im, .int .i64 jv.re, .int .i64 jv.im, .int .i64 jy.re, .int .i64 jy.im, .int .i64 jz.re, .int .i64 jz.im, .int .i64 ja.re, .int .i64 ja.im, .int .i64 jc.re, .int .i64 jc.im] 47))
    simpa only [World.size_alloc] using this
  have R5 : CellsAt u0 (w.heap.size + 1 + 1 + 1 + 1 + 1) 23 #[.int .i64 jc.re, .int .i64 jc.im] := by
    rw [hU]
    have := ((CellsAt.new (((((w.alloc (.cells #[.int .i64 ju.re, .int .i64 ju.im] 23)).alloc (.cells #[.int .i64 jv.re, .int .i64 jv.im] 23)).alloc (.cells #[.int .i64 jy.re, .int .i64 jy.im] 23)).alloc (.cells #[.int .i64 jz.re, .int .i64 jz.im] 23)).alloc (.cells #[.int .i64 ja.re, .int .i64 ja.im] 23)) 23 #[.int .i64 jc.re, .int .i64 jc.im]).alloc (.cells #[.int .i64 ju.re, .int .i64 ju.im, .int .i64 jv.re, .int .i64 jv.im, .int .i64 jy.re, .int .i64 jy.im, .int .i64 jz.re, .int .i64 jz.im, .int .i64 ja.re, .int .i64 ja.im, .int .i64 jc.re, .int .i64 jc.im] 47))
    simpa only [World.size_alloc] using this
  have R6 : CellsAt u0 (w.heap.size + 1 + 1 + 1 + 1 + 1 + 1) 47 #[.int .i64 ju.re, .int .i64 ju.im, .int .i64 jv.re, .int .i64 jv.im, .int .i64 jy.re, .int .i64 jy.im, .int .i64 jz.re, .int .i64 jz.im, .int .i64 ja.re, .int .i64 ja.im, .int .i64 jc.re, .int .i64 jc.im] := by
    rw [hU]
    have := (CellsAt.new ((((((w.alloc (.cells #[.int .i64 ju.re, .int .i64 ju.im] 23)).alloc (.cells #[.int .i64 jv.re, .int .i64 jv.im] 23)).alloc (.cells #[.int .i64 jy.re, .int .i64 jy.im] 23)).alloc (.cells #[.int .i64 jz.re, .int .i64 jz.im] 23)).alloc (.cells #[.int .i64 ja.re, .int .i64 ja.im] 23)).alloc (.cells #[.int .i64 jc.re, .int .i64 jc.im] 23)) 47 #[.int .i64 ju.re, .int .i64 ju.im, .int .i64 jv.re, .int .i64 jv.im, .int .i64 jy.re, .int .i64 jy.im, .int .i64 jz.re, .int .i64 jz.im, .int .i64 ja.re, .int .i64 ja.im, .int .i64 jc.re, .int .i64 jc.im])
    simpa only [World.size_alloc] using this
  rw [← hU]
  clear hU
  have lu := R0.lt
  have lv := R1.lt
  have ly := R2.lt
  have lz := R3.lt
  have la := R4.lt
  have lc := R5.lt
  have lJ := R6.lt
  refine (HJ.out _).mono ?_
  rintro e w1 ⟨rfl, g1⟩
  have Fu_1 := CellsAt.gr (R0) g1
  have lu_1 := CellsAt.lt (Fu_1)
  have Fv_1 := CellsAt.gr (R1) g1
  have lv_1 := CellsAt.lt (Fv_1)
  have Fy_1 := CellsAt.gr (R2) g1
  have ly_1 := CellsAt.lt (Fy_1)
  have Fz_1 := CellsAt.gr (R3) g1
  have lz_1 := CellsAt.lt (Fz_1)
  have Fa_1 := CellsAt.gr (R4) g1
  have la_1 := CellsAt.lt (Fa_1)
  have Fc_1 := CellsAt.gr (R5) g1
  have lc_1 := CellsAt.lt (Fc_1)
  have FJ_1 := CellsAt.gr (R6) g1
  have lJ_1 := CellsAt.lt (FJ_1)
  have z1 := (gu).trans g1
  clear R0 R1 R2 R3 R4 R5 R6 gu g1
  have cJ0 := CellsAt.cell (FJ_1) 0
  have cJ1 := CellsAt.cell (FJ_1) 1
  have cJ2 := CellsAt.cell (FJ_1) 2
  have cJ3 := CellsAt.cell (FJ_1) 3
  have cJ4 := CellsAt.cell (FJ_1) 4
  have cJ5 := CellsAt.cell (FJ_1) 5
  have cJ6 := CellsAt.cell (FJ_1) 6
  have cJ7 := CellsAt.cell (FJ_1) 7
  have cJ8 := CellsAt.cell (FJ_1) 8
  have cJ9 := CellsAt.cell (FJ_1) 9
  have cJ10 := CellsAt.cell (FJ_1) 10
  have cJ11 := CellsAt.cell (FJ_1) 11
  simp only [List.getElem?_toArray, List.getElem?_cons_zero, List.getElem?_cons_succ] at cJ0 cJ1 cJ2 cJ3 cJ4 cJ5 cJ6 cJ7 cJ8 cJ9 cJ10 cJ11
  go_wp2_with fail
  clear cJ0 cJ1 cJ2 cJ3 cJ4 cJ5 cJ6 cJ7 cJ8 cJ9 cJ10 cJ11
  refine (HR.out _).mono ?_
  rintro e w2 ⟨rfl, g2⟩
  have FJ_2 := CellsAt.gr ((FJ_1).alloc _) g2
  have lJ_2 := CellsAt.lt (FJ_2)
  have Fx_2 := CellsAt.gr (CellsAt.new w1 24 #[.int .i64 (f 0).re, .int .i64 (f 0).im, .int .i64 (f 1).re, .int .i64 (f 1).im, .int .i64 (f 2).re, .int .i64 (f 2).im, .int .i64 (f 3).re, .int .i64 (f 3).im]) g2
  have lx_2 := CellsAt.lt (Fx_2)
  have z2 := ((z1).alloc _ _).trans g2
  clear g2
  have X0 : RowAt w2 (w1.heap.size) 24 4 f := RowAt.of4 (f := f) Fx_2
  clear b0 b1 m0 m1
  go_wp2_with fail
  go_loopw [83] (fun i wr => ∃ q : Nat, q ≤ 4 ∧ i = .int .i64 q ∧ Gr w2 wr) (fun i _ => 4 - (intOf i).toNat)
  case atStart => exact ⟨0, by omega, rfl, Gr.refl _⟩
  case round =>
    obtain ⟨q, hq, rfl, hg⟩ := hrel
    by_cases hqt : q < 4
    · have hqt' : (q : Int) < 4 := by omega
      have HQ := Lib.hid (HRJ.out q hqt)
      have x0 := (X0.gr hg).cells q hqt
      have J0 := (FJ_2).gr hg
      go_wp2_with fail
      have KS : ∀ W, Gr wr W → (W.cell? ⟨w.heap.size + 1 + 1 + 1 + 1 + 1 + 1, 0, none⟩ = some (.int .i64 ju.re) ∧ W.cell? ⟨w.heap.size + 1 + 1 + 1 + 1 + 1 + 1, 1, none⟩ = some (.int .i64 ju.im) ∧ W.cell? ⟨w.heap.size + 1 + 1 + 1 + 1 + 1 + 1, 2, none⟩ = some (.int .i64 jv.re) ∧ W.cell? ⟨w.heap.size + 1 + 1 + 1 + 1 + 1 + 1, 3, none⟩ = some (.int .i64 jv.im) ∧ W.cell? ⟨w.heap.size + 1 + 1 + 1 + 1 + 1 + 1, 4, none⟩ = some (.int .i64 jy.re) ∧ W.cell? ⟨w.heap.size + 1 + 1 + 1 + 1 + 1 + 1, 5, none⟩ = some (.int .i64 jy.im) ∧ W.cell? ⟨w.heap.size + 1 + 1 + 1 + 1 + 1 + 1, 6, none⟩ = some (.int .i64 jz.re) ∧ W.cell? ⟨w.heap.size + 1 + 1 + 1 + 1 + 1 + 1, 7, none⟩ = some (.int .i64 jz.im) ∧ W.cell? ⟨w.heap.size + 1 + 1 + 1 + 1 + 1 + 1, 8, none⟩ = some (.int .i64 ja.re) ∧ W.cell? ⟨w.heap.size + 1 + 1 + 1 + 1 + 1 + 1, 9, none⟩ = some (.int .i64 ja.im) ∧ W.cell? ⟨w.heap.size + 1 + 1 + 1 + 1 + 1 + 1, 10, none⟩ = some (.int .i64 jc.re) ∧ W.cell? ⟨w.heap.size + 1 + 1 + 1 + 1 + 1 + 1, 11, none⟩ = some (.int .i64 jc.im) ∧ W.cell? ⟨w1.heap.size, q * 2, none⟩ = some (.int .i64 (f q).re) ∧ W.cell? ⟨w1.heap.size, q * 2 + 1, none⟩ = some (.int .i64 (f q).im)) := fun W hG => ⟨(J0.gr hG).cell 0, (J0.gr hG).cell 1, (J0.gr hG).cell 2, (J0.gr hG).cell 3, (J0.gr hG).cell 4, (J0.gr hG).cell 5, (J0.gr hG).cell 6, (J0.gr hG).cell 7, (J0.gr hG).cell 8, (J0.gr hG).cell 9, (J0.gr hG).cell 10, (J0.gr hG).cell 11, (hG.cell (p := ⟨w1.heap.size, _, none⟩) (X0.gr hg).lt).trans x0.1, (hG.cell (p := ⟨w1.heap.size, _, none⟩) (X0.gr hg).lt).trans x0.2⟩
      clear x0 J0
      have hclG := gr_closed wr
      try simp only [List.append_eq, List.cons_append, List.nil_append]
      refine wp_region_grow (S := Gr wr) rfl (Gr.drew (Gr.refl _)) ?_
      refine wpG_take (i := 0) (v := ?_) hclG rfl (by kernel_rfl) (by kernel_rfl) (by kernel_rfl) (fun _ _ _ h => h) (by rfl) ?_ ?_
      rotate_left
      · (intro w' hSw; go_simp; try with_reducible rfl)
      try simp only [Act.put, List.setIfInBounds_toArray, List.set_cons_zero, List.set_cons_succ, List.getElem_toArray, List.getElem_cons_zero, List.getElem_cons_succ]
      refine wpG_take (i := 1) (v := ?_) hclG rfl (by kernel_rfl) (by kernel_rfl) (by kernel_rfl) (fun _ _ _ h => h) (by rfl) ?_ ?_
      rotate_left
      · (intro w' hSw; go_simp; try with_reducible rfl)
      try simp only [Act.put, List.setIfInBounds_toArray, List.set_cons_zero, List.set_cons_succ, List.getElem_toArray, List.getElem_cons_zero, List.getElem_cons_succ]
      refine wpG_take (i := 2) (v := ?_) hclG rfl (by kernel_rfl) (by kernel_rfl) (by kernel_rfl) (fun _ _ _ h => h) (by rfl) ?_ ?_
      rotate_left
      · (intro w' hSw; have hk := KS w' hSw; go_split_ands; go_simp; try with_reducible rfl)
      try simp only [Act.put, List.setIfInBounds_toArray, List.set_cons_zero, List.set_cons_succ, List.getElem_toArray, List.getElem_cons_zero, List.getElem_cons_succ]
      refine wpG_take (i := 3) (v := ?_) hclG rfl (by kernel_rfl) (by kernel_rfl) (by kernel_rfl) (fun _ _ _ h => h) (by rfl) ?_ ?_
      rotate_left
      · (intro w' hSw; have hk := KS w' hSw; go_split_ands; go_simp; try with_reducible rfl)
      try simp only [Act.put, List.setIfInBounds_toArray, List.set_cons_zero, List.set_cons_succ, List.getElem_toArray, List.getElem_cons_zero, List.getElem_cons_succ]
      refine wpG_take (i := 4) (v := ?_) hclG rfl (by kernel_rfl) (by kernel_rfl) (by kernel_rfl) (fun _ _ _ h => h) (by rfl) ?_ ?_
      rotate_left
      · (intro w' hSw; go_simp; try with_reducible rfl)
      try simp only [Act.put, List.setIfInBounds_toArray, List.set_cons_zero, List.set_cons_succ, List.getElem_toArray, List.getElem_cons_zero, List.getElem_cons_succ]
      refine wpG_take (i := 5) (v := ?_) hclG rfl (by kernel_rfl) (by kernel_rfl) (by kernel_rfl) (fun _ _ _ h => h) (by rfl) ?_ ?_
      rotate_left
      · (intro w' hSw; go_simp; try with_reducible rfl)
      try simp only [Act.put, List.setIfInBounds_toArray, List.set_cons_zero, List.set_cons_succ, List.getElem_toArray, List.getElem_cons_zero, List.getElem_cons_succ]
      refine wpG_take (i := 6) (v := ?_) hclG rfl (by kernel_rfl) (by kernel_rfl) (by kernel_rfl) (fun _ _ _ h => h) (by rfl) ?_ ?_
      rotate_left
      · (intro w' hSw; go_simp; try with_reducible rfl)
      try simp only [Act.put, List.setIfInBounds_toArray, List.set_cons_zero, List.set_cons_succ, List.getElem_toArray, List.getElem_cons_zero, List.getElem_cons_succ]
      refine wpG_take (i := 7) (v := ?_) hclG rfl (by kernel_rfl) (by kernel_rfl) (by kernel_rfl) (fun _ _ _ h => h) (by rfl) ?_ ?_
      rotate_left
      · (intro w' hSw; go_simp; try with_reducible rfl)
      try simp only [Act.put, List.setIfInBounds_toArray, List.set_cons_zero, List.set_cons_succ, List.getElem_toArray, List.getElem_cons_zero, List.getElem_cons_succ]
      refine wpG_call (i := 8) hclG rfl (by kernel_rfl) (by kernel_rfl) (by kernel_rfl) (fun _ _ _ h => h) (fun W hS => HQ.out W) (by rfl) ?_ ?_
      · (intro w' hSw; go_simp; try with_reducible rfl)
      try simp only [Act.put, List.setIfInBounds_toArray, List.set_cons_zero, List.set_cons_succ, List.getElem_toArray, List.getElem_cons_zero, List.getElem_cons_succ]
      refine wpG_take (i := 9) (v := ?_) hclG rfl (by kernel_rfl) (by kernel_rfl) (by kernel_rfl) (fun _ _ _ h => h) (by rfl) ?_ ?_
      rotate_left
      · (intro w' hSw; go_simp; try with_reducible rfl)
      try simp only [Act.put, List.setIfInBounds_toArray, List.set_cons_zero, List.set_cons_succ, List.getElem_toArray, List.getElem_cons_zero, List.getElem_cons_succ]
      refine wpG_done (by kernel_rfl) (fun wq gq => ?_) _
      have gw := hg.trans ((Gr.drew (Gr.refl wr)).trans gq)
      clear KS hclG hg gq HQ
      go_wp2_with fail
      go_roundw
      case rel => exact ⟨q + 1, by omega, by go_num, gw⟩
      case measure => simp [intOf]; omega
    · obtain rfl : q = 4 := by omega
      go_wp2_with fail
      refine (AL.out _).mono ?_
      rintro e wq ⟨rfl, gq⟩
      go_wp2_with fail
      go_ret
      exact ⟨rfl, (z2).trans (hg.trans gq)⟩

end Go.Proofs.Ytmhcbphkkcmecaa
