/- FourSums, from what package four's Quad answers. -/
import Derived.Test.YtmhcbphkkcmecaaLaw11
import Derived.Test.YtmhcbphkkcmecaaMax4
import Derived.Test.YtmhcbphkkcmecaaArr4
import Derived.Test.YtmhcbphkkcmecaaGrow
namespace Go.Proofs.Ytmhcbphkkcmecaa
open Go.ChangeShapes Go.WideShapes Go.ChangeAt Go.RowKit
set_option linter.unusedVariables false
set_option linter.unusedSimpArgs false
set_option maxRecDepth 100000


set_option maxHeartbeats 2000000 in
theorem fourSums_bad (f g : Nat → Gi) (b s mo e : Int) (inv : Bool) (he : (e != 0) = true)
    (HQ : Hid (∀ W, Calls Try.prog 10 #[.agg #[.int .i64 (f 0).re, .int .i64 (f 0).im, .int .i64 (f 1).re, .int .i64 (f 1).im, .int .i64 (f 2).re, .int .i64 (f 2).im, .int .i64 (f 3).re, .int .i64 (f 3).im], .agg #[.int .i64 (g 0).re, .int .i64 (g 0).im, .int .i64 (g 1).re, .int .i64 (g 1).im, .int .i64 (g 2).re, .int .i64 (g 2).im, .int .i64 (g 3).re, .int .i64 (g 3).im], .int .i64 b, .int .i64 s, .int .i64 mo, .bool inv] W fun e' w' => e' = .returned (.tuple #[.agg #[.int .i64 0, .int .i64 0, .int .i64 0, .int .i64 0, .int .i64 0, .int .i64 0, .int .i64 0, .int .i64 0], .int .i64 e]) ∧ Gr W w')) (AL : Hid (∀ W, Calls Try.prog 12 #[] W fun e w' => e = .returned (.bool true) ∧ Gr W w')) (w : World) :
    Calls Try.prog 5 #[.agg #[.int .i64 (f 0).re, .int .i64 (f 0).im, .int .i64 (f 1).re, .int .i64 (f 1).im, .int .i64 (f 2).re, .int .i64 (f 2).im, .int .i64 (f 3).re, .int .i64 (f 3).im], .agg #[.int .i64 (g 0).re, .int .i64 (g 0).im, .int .i64 (g 1).re, .int .i64 (g 1).im, .int .i64 (g 2).re, .int .i64 (g 2).im, .int .i64 (g 3).re, .int .i64 (g 3).im], .int .i64 b, .int .i64 s, .int .i64 mo, .bool inv] w fun e w' => e = .returned (.bool true) ∧ Gr w w' := by
  have heq : ∀ W, (Op.equalIn 10000 24 (.agg #[.int .i64 0, .int .i64 0, .int .i64 0, .int .i64 0, .int .i64 0, .int .i64 0, .int .i64 0, .int .i64 0]) (.agg #[.int .i64 0, .int .i64 0, .int .i64 0, .int .i64 0, .int .i64 0, .int .i64 0, .int .i64 0, .int .i64 0])).run Try.prog W = .ok true W := fun _ => by kernel_rfl
  go_enter Try.func5, Try.ntmps5
  go_wp2_with fail
  obtain ⟨u0, hU⟩ : ∃ uu, uu = ((w.alloc (.cells #[.int .i64 (f 0).re, .int .i64 (f 0).im, .int .i64 (f 1).re, .int .i64 (f 1).im, .int .i64 (f 2).re, .int .i64 (f 2).im, .int .i64 (f 3).re, .int .i64 (f 3).im] 24)).alloc (.cells #[.int .i64 (g 0).re, .int .i64 (g 0).im, .int .i64 (g 1).re, .int .i64 (g 1).im, .int .i64 (g 2).re, .int .i64 (g 2).im, .int .i64 (g 3).re, .int .i64 (g 3).im] 24)) := ⟨_, rfl⟩
  have gu : Gr w u0 := by rw [hU]; exact ((Gr.refl w).alloc _ _).alloc _ _
  have R0 : CellsAt u0 (w.heap.size) 24 #[.int .i64 (f 0).re, .int .i64 (f 0).im, .int .i64 (f 1).re, .int .i64 (f 1).im, .int .i64 (f 2).re, .int .i64 (f 2).im, .int .i64 (f 3).re, .int .i64 (f 3).im] := by
    rw [hU]
    have := ((CellsAt.new w 24 #[.int .i64 (f 0).re, .int .i64 (f 0).im, .int .i64 (f 1).re, .int .i64 (f 1).im, .int .i64 (f 2).re, .int .i64 (f 2).im, .int .i64 (f 3).re, .int .i64 (f 3).im]).alloc (.cells #[.int .i64 (g 0).re, .int .i64 (g 0).im, .int .i64 (g 1).re, .int .i64 (g 1).im, .int .i64 (g 2).re, .int .i64 (g 2).im, .int .i64 (g 3).re, .int .i64 (g 3).im] 24))
    simpa only [World.size_alloc] using this
  have R1 : CellsAt u0 (w.heap.size + 1) 24 #[.int .i64 (g 0).re, .int .i64 (g 0).im, .int .i64 (g 1).re, .int .i64 (g 1).im, .int .i64 (g 2).re, .int .i64 (g 2).im, .int .i64 (g 3).re, .int .i64 (g 3).im] := by
    rw [hU]
    have := (CellsAt.new (w.alloc (.cells #[.int .i64 (f 0).re, .int .i64 (f 0).im, .int .i64 (f 1).re, .int .i64 (f 1).im, .int .i64 (f 2).re, .int .i64 (f 2).im, .int .i64 (f 3).re, .int .i64 (f 3).im] 24)) 24 #[.int .i64 (g 0).re, .int .i64 (g 0).im, .int .i64 (g 1).re, .int .i64 (g 1).im, .int .i64 (g 2).re, .int .i64 (g 2).im, .int .i64 (g 3).re, .int .i64 (g 3).im])
    simpa only [World.size_alloc] using this
  rw [← hU]
  clear hU
  have la := R0.lt
  have lg := R1.lt
  refine (HQ.out _).mono ?_
  rintro e w1 ⟨rfl, g1⟩
  have Fa_1 := CellsAt.gr (R0) g1
  have la_1 := CellsAt.lt (Fa_1)
  have Fg_1 := CellsAt.gr (R1) g1
  have lg_1 := CellsAt.lt (Fg_1)
  have z1 := (gu).trans g1
  clear R0 R1 gu g1
  go_wp2_with fail
  obtain ⟨u1, hqp1⟩ : ∃ zz, zz = (w1.alloc (.cells #[.int .i64 0, .int .i64 0, .int .i64 0, .int .i64 0, .int .i64 0, .int .i64 0, .int .i64 0, .int .i64 0] 24)) := ⟨_, rfl⟩
  have Ya_p1 : CellsAt u1 (w.heap.size) 24 #[.int .i64 (f 0).re, .int .i64 (f 0).im, .int .i64 (f 1).re, .int .i64 (f 1).im, .int .i64 (f 2).re, .int .i64 (f 2).im, .int .i64 (f 3).re, .int .i64 (f 3).im] := by rw [hqp1]; first | exact (Fa_1).alloc _ | simpa using (Fa_1).alloc _
  have Yg_p1 : CellsAt u1 (w.heap.size + 1) 24 #[.int .i64 (g 0).re, .int .i64 (g 0).im, .int .i64 (g 1).re, .int .i64 (g 1).im, .int .i64 (g 2).re, .int .i64 (g 2).im, .int .i64 (g 3).re, .int .i64 (g 3).im] := by rw [hqp1]; first | exact (Fg_1).alloc _ | simpa using (Fg_1).alloc _
  have Yx_p1 : CellsAt u1 (w1.heap.size) 24 #[.int .i64 0, .int .i64 0, .int .i64 0, .int .i64 0, .int .i64 0, .int .i64 0, .int .i64 0, .int .i64 0] := by rw [hqp1]; first | exact CellsAt.new w1 24 #[.int .i64 0, .int .i64 0, .int .i64 0, .int .i64 0, .int .i64 0, .int .i64 0, .int .i64 0, .int .i64 0] | simpa using CellsAt.new w1 24 #[.int .i64 0, .int .i64 0, .int .i64 0, .int .i64 0, .int .i64 0, .int .i64 0, .int .i64 0, .int .i64 0]
  have yp1 : Gr w u1 := by rw [hqp1]; exact (z1).alloc _ _
  rw [← hqp1]
  clear hqp1
  refine (AL.out _).mono ?_
  rintro e w2 ⟨rfl, g2⟩
  have Fa_2 := CellsAt.gr (Ya_p1) g2
  have la_2 := CellsAt.lt (Fa_2)
  have Fg_2 := CellsAt.gr (Yg_p1) g2
  have lg_2 := CellsAt.lt (Fg_2)
  have Fx_2 := CellsAt.gr (Yx_p1) g2
  have lx_2 := CellsAt.lt (Fx_2)
  have z2 := (yp1).trans g2
  clear Ya_p1 Yg_p1 Yx_p1 yp1 g2
  have cx0 := CellsAt.cell (Fx_2) 0
  have cx1 := CellsAt.cell (Fx_2) 1
  have cx2 := CellsAt.cell (Fx_2) 2
  have cx3 := CellsAt.cell (Fx_2) 3
  have cx4 := CellsAt.cell (Fx_2) 4
  have cx5 := CellsAt.cell (Fx_2) 5
  have cx6 := CellsAt.cell (Fx_2) 6
  have cx7 := CellsAt.cell (Fx_2) 7
  simp only [List.getElem?_toArray, List.getElem?_cons_zero, List.getElem?_cons_succ] at cx0 cx1 cx2 cx3 cx4 cx5 cx6 cx7
  go_wp2_with fail
  clear cx0 cx1 cx2 cx3 cx4 cx5 cx6 cx7
  go_ret
  exact ⟨by simp, z2⟩

set_option maxHeartbeats 2000000 in
theorem fourSums_ok (f g V : Nat → Gi) (b s mo : Int) (inv : Bool) (PR PI QR QI DR DI M N : Int) (hs0 : ¬ s < 0)
    (HN : Hid (IntKind.i64.wrap (((V 0).re + (V 1).re + (V 2).re + (V 3).re) * 2 ^ min s.toNat 64) = PR ∧ IntKind.i64.wrap (((V 0).im + (V 1).im + (V 2).im + (V 3).im) * 2 ^ min s.toNat 64) = PI ∧ IntKind.i64.wrap (4 * (f 0).re) = QR ∧ IntKind.i64.wrap (4 * (f 0).im) = QI ∧ IntKind.i64.wrap (PR - QR) = DR ∧ IntKind.i64.wrap (PI - QI) = DI ∧ wrap64 (-DR) = -DR ∧ wrap64 (-DI) = -DI ∧ wrap64 (4 * 2 ^ min s.toNat 64) = M))
    (hmax : (if -DI > (if DI > (if -DR > DR then -DR else DR) then DI else (if -DR > DR then -DR else DR)) then -DI else (if DI > (if -DR > DR then -DR else DR) then DI else (if -DR > DR then -DR else DR))) = N) (hle : N ≤ M)
    (HV : Hid (∀ k, k < 4 → -17179869184 ≤ (V k).re ∧ (V k).re ≤ 17179869184 ∧ -17179869184 ≤ (V k).im ∧ (V k).im ≤ 17179869184))
    (HQ : Hid (∀ W, Calls Try.prog 10 #[.agg #[.int .i64 (f 0).re, .int .i64 (f 0).im, .int .i64 (f 1).re, .int .i64 (f 1).im, .int .i64 (f 2).re, .int .i64 (f 2).im, .int .i64 (f 3).re, .int .i64 (f 3).im], .agg #[.int .i64 (g 0).re, .int .i64 (g 0).im, .int .i64 (g 1).re, .int .i64 (g 1).im, .int .i64 (g 2).re, .int .i64 (g 2).im, .int .i64 (g 3).re, .int .i64 (g 3).im], .int .i64 b, .int .i64 s, .int .i64 mo, .bool inv] W fun e' w' => e' = .returned (.tuple #[.agg #[.int .i64 (V 0).re, .int .i64 (V 0).im, .int .i64 (V 1).re, .int .i64 (V 1).im, .int .i64 (V 2).re, .int .i64 (V 2).im, .int .i64 (V 3).re, .int .i64 (V 3).im], .int .i64 0]) ∧ Gr W w')) (AL : Hid (∀ W, Calls Try.prog 12 #[] W fun e w' => e = .returned (.bool true) ∧ Gr W w')) (w : World) :
    Calls Try.prog 5 #[.agg #[.int .i64 (f 0).re, .int .i64 (f 0).im, .int .i64 (f 1).re, .int .i64 (f 1).im, .int .i64 (f 2).re, .int .i64 (f 2).im, .int .i64 (f 3).re, .int .i64 (f 3).im], .agg #[.int .i64 (g 0).re, .int .i64 (g 0).im, .int .i64 (g 1).re, .int .i64 (g 1).im, .int .i64 (g 2).re, .int .i64 (g 2).im, .int .i64 (g 3).re, .int .i64 (g 3).im], .int .i64 b, .int .i64 s, .int .i64 mo, .bool inv] w fun e w' => e = .returned (.bool true) ∧ Gr w w' := by
  go_enter Try.func5, Try.ntmps5
  go_wp2_with fail
  obtain ⟨u0, hU⟩ : ∃ uu, uu = ((w.alloc (.cells #[.int .i64 (f 0).re, .int .i64 (f 0).im, .int .i64 (f 1).re, .int .i64 (f 1).im, .int .i64 (f 2).re, .int .i64 (f 2).im, .int .i64 (f 3).re, .int .i64 (f 3).im] 24)).alloc (.cells #[.int .i64 (g 0).re, .int .i64 (g 0).im, .int .i64 (g 1).re, .int .i64 (g 1).im, .int .i64 (g 2).re, .int .i64 (g 2).im, .int .i64 (g 3).re, .int .i64 (g 3).im] 24)) := ⟨_, rfl⟩
  have gu : Gr w u0 := by rw [hU]; exact ((Gr.refl w).alloc _ _).alloc _ _
  have R0 : CellsAt u0 (w.heap.size) 24 #[.int .i64 (f 0).re, .int .i64 (f 0).im, .int .i64 (f 1).re, .int .i64 (f 1).im, .int .i64 (f 2).re, .int .i64 (f 2).im, .int .i64 (f 3).re, .int .i64 (f 3).im] := by
    rw [hU]
    have := ((CellsAt.new w 24 #[.int .i64 (f 0).re, .int .i64 (f 0).im, .int .i64 (f 1).re, .int .i64 (f 1).im, .int .i64 (f 2).re, .int .i64 (f 2).im, .int .i64 (f 3).re, .int .i64 (f 3).im]).alloc (.cells #[.int .i64 (g 0).re, .int .i64 (g 0).im, .int .i64 (g 1).re, .int .i64 (g 1).im, .int .i64 (g 2).re, .int .i64 (g 2).im, .int .i64 (g 3).re, .int .i64 (g 3).im] 24))
    simpa only [World.size_alloc] using this
  have R1 : CellsAt u0 (w.heap.size + 1) 24 #[.int .i64 (g 0).re, .int .i64 (g 0).im, .int .i64 (g 1).re, .int .i64 (g 1).im, .int .i64 (g 2).re, .int .i64 (g 2).im, .int .i64 (g 3).re, .int .i64 (g 3).im] := by
    rw [hU]
    have := (CellsAt.new (w.alloc (.cells #[.int .i64 (f 0).re, .int .i64 (f 0).im, .int .i64 (f 1).re, .int .i64 (f 1).im, .int .i64 (f 2).re, .int .i64 (f 2).im, .int .i64 (f 3).re, .int .i64 (f 3).im] 24)) 24 #[.int .i64 (g 0).re, .int .i64 (g 0).im, .int .i64 (g 1).re, .int .i64 (g 1).im, .int .i64 (g 2).re, .int .i64 (g 2).im, .int .i64 (g 3).re, .int .i64 (g 3).im])
    simpa only [World.size_alloc] using this
  rw [← hU]
  clear hU
  have la := R0.lt
  have lg := R1.lt
  refine (HQ.out _).mono ?_
  rintro e w1 ⟨rfl, g1⟩
  have Fa_1 := CellsAt.gr (R0) g1
  have la_1 := CellsAt.lt (Fa_1)
  have Fg_1 := CellsAt.gr (R1) g1
  have lg_1 := CellsAt.lt (Fg_1)
  have z1 := (gu).trans g1
  clear R0 R1 gu g1
  go_wp2_with fail
  obtain ⟨u1, hqp1⟩ : ∃ zz, zz = (w1.alloc (.cells #[.int .i64 (V 0).re, .int .i64 (V 0).im, .int .i64 (V 1).re, .int .i64 (V 1).im, .int .i64 (V 2).re, .int .i64 (V 2).im, .int .i64 (V 3).re, .int .i64 (V 3).im] 24)) := ⟨_, rfl⟩
  have Ya_p1 : CellsAt u1 (w.heap.size) 24 #[.int .i64 (f 0).re, .int .i64 (f 0).im, .int .i64 (f 1).re, .int .i64 (f 1).im, .int .i64 (f 2).re, .int .i64 (f 2).im, .int .i64 (f 3).re, .int .i64 (f 3).im] := by rw [hqp1]; first | exact (Fa_1).alloc _ | simpa using (Fa_1).alloc _
  have Yg_p1 : CellsAt u1 (w.heap.size + 1) 24 #[.int .i64 (g 0).re, .int .i64 (g 0).im, .int .i64 (g 1).re, .int .i64 (g 1).im, .int .i64 (g 2).re, .int .i64 (g 2).im, .int .i64 (g 3).re, .int .i64 (g 3).im] := by rw [hqp1]; first | exact (Fg_1).alloc _ | simpa using (Fg_1).alloc _
  have Yx_p1 : CellsAt u1 (w1.heap.size) 24 #[.int .i64 (V 0).re, .int .i64 (V 0).im, .int .i64 (V 1).re, .int .i64 (V 1).im, .int .i64 (V 2).re, .int .i64 (V 2).im, .int .i64 (V 3).re, .int .i64 (V 3).im] := by rw [hqp1]; first | exact CellsAt.new w1 24 #[.int .i64 (V 0).re, .int .i64 (V 0).im, .int .i64 (V 1).re, .int .i64 (V 1).im, .int .i64 (V 2).re, .int .i64 (V 2).im, .int .i64 (V 3).re, .int .i64 (V 3).im] | simpa using CellsAt.new w1 24 #[.int .i64 (V 0).re, .int .i64 (V 0).im, .int .i64 (V 1).re, .int .i64 (V 1).im, .int .i64 (V 2).re, .int .i64 (V 2).im, .int .i64 (V 3).re, .int .i64 (V 3).im]
  have yp1 : Gr w u1 := by rw [hqp1]; exact (z1).alloc _ _
  rw [← hqp1]
  clear hqp1
  have i0 : ∀ W, (Instr.index 24 (.agg #[.int .i64 (V 0).re, .int .i64 (V 0).im, .int .i64 (V 1).re, .int .i64 (V 1).im, .int .i64 (V 2).re, .int .i64 (V 2).im, .int .i64 (V 3).re, .int .i64 (V 3).im]) (.int .i64 0)).run Try.prog W = .ok (.agg #[.int .i64 (V 0).re, .int .i64 (V 0).im]) W := fun W => idx4 V 0 (by omega) W
  obtain ⟨v00, v01, v02, v03⟩ := HV.out 0 (by omega)
  have i1 : ∀ W, (Instr.index 24 (.agg #[.int .i64 (V 0).re, .int .i64 (V 0).im, .int .i64 (V 1).re, .int .i64 (V 1).im, .int .i64 (V 2).re, .int .i64 (V 2).im, .int .i64 (V 3).re, .int .i64 (V 3).im]) (.int .i64 1)).run Try.prog W = .ok (.agg #[.int .i64 (V 1).re, .int .i64 (V 1).im]) W := fun W => idx4 V 1 (by omega) W
  obtain ⟨v10, v11, v12, v13⟩ := HV.out 1 (by omega)
  have i2 : ∀ W, (Instr.index 24 (.agg #[.int .i64 (V 0).re, .int .i64 (V 0).im, .int .i64 (V 1).re, .int .i64 (V 1).im, .int .i64 (V 2).re, .int .i64 (V 2).im, .int .i64 (V 3).re, .int .i64 (V 3).im]) (.int .i64 2)).run Try.prog W = .ok (.agg #[.int .i64 (V 2).re, .int .i64 (V 2).im]) W := fun W => idx4 V 2 (by omega) W
  obtain ⟨v20, v21, v22, v23⟩ := HV.out 2 (by omega)
  have i3 : ∀ W, (Instr.index 24 (.agg #[.int .i64 (V 0).re, .int .i64 (V 0).im, .int .i64 (V 1).re, .int .i64 (V 1).im, .int .i64 (V 2).re, .int .i64 (V 2).im, .int .i64 (V 3).re, .int .i64 (V 3).im]) (.int .i64 3)).run Try.prog W = .ok (.agg #[.int .i64 (V 3).re, .int .i64 (V 3).im]) W := fun W => idx4 V 3 (by omega) W
  obtain ⟨v30, v31, v32, v33⟩ := HV.out 3 (by omega)
  refine wp_loop_rounds 5 ?_
  rw [rounds_succ]
  go_wp2_with fail
  obtain ⟨ea0, eb0⟩ : IntKind.i64.wrap ((V 0).re) = (V 0).re ∧ IntKind.i64.wrap ((V 0).im) = (V 0).im := ⟨IntWalk.i64_in _ ⟨by omega, by omega⟩, IntWalk.i64_in _ ⟨by omega, by omega⟩⟩
  obtain ⟨r0, hqp2⟩ : ∃ zz, zz = (u1.alloc (.cells #[.int .i64 (V 0).re, .int .i64 (V 0).im] 23)) := ⟨_, rfl⟩
  have Ya_p2 : CellsAt r0 (w.heap.size) 24 #[.int .i64 (f 0).re, .int .i64 (f 0).im, .int .i64 (f 1).re, .int .i64 (f 1).im, .int .i64 (f 2).re, .int .i64 (f 2).im, .int .i64 (f 3).re, .int .i64 (f 3).im] := by rw [hqp2]; first | exact (Ya_p1).alloc _ | simpa using (Ya_p1).alloc _
  have Yy0_p2 : CellsAt r0 (u1.heap.size) 23 #[.int .i64 (V 0).re, .int .i64 (V 0).im] := by rw [hqp2]; first | exact CellsAt.new u1 23 #[.int .i64 (V 0).re, .int .i64 (V 0).im] | simpa using CellsAt.new u1 23 #[.int .i64 (V 0).re, .int .i64 (V 0).im]
  have yp2 : Gr w r0 := by rw [hqp2]; exact (yp1).alloc _ _
  rw [← hqp2]
  clear hqp2
  have KS : ∀ W, Gr r0 W → (W.cell? ⟨u1.heap.size, 0, none⟩ = some (.int .i64 (V 0).re) ∧ W.cell? ⟨u1.heap.size, 1, none⟩ = some (.int .i64 (V 0).im)) := fun W hG => ⟨(CellsAt.gr Yy0_p2 hG).cell 0, (CellsAt.gr Yy0_p2 hG).cell 1⟩
  have hclG := gr_closed r0
  try simp only [List.append_eq, List.cons_append, List.nil_append]
  refine wp_region_grow (S := Gr r0) rfl (Gr.drew (Gr.refl _)) ?_
  refine wpG_take (i := 0) (v := ?_) hclG rfl (by kernel_rfl) (by kernel_rfl) (by kernel_rfl) (fun _ _ _ h => h) (by rfl) ?_ ?_
  rotate_left
  · (intro w' hSw; go_simp; try with_reducible rfl)
  try simp only [Act.put, List.setIfInBounds_toArray, List.set_cons_zero, List.set_cons_succ, List.getElem_toArray, List.getElem_cons_zero, List.getElem_cons_succ]
  refine wpG_take (i := 1) (v := ?_) hclG rfl (by kernel_rfl) (by kernel_rfl) (by kernel_rfl) (fun _ _ _ h => h) (by rfl) ?_ ?_
  rotate_left
  · (intro w' hSw; go_simp; try with_reducible rfl)
  try simp only [Act.put, List.setIfInBounds_toArray, List.set_cons_zero, List.set_cons_succ, List.getElem_toArray, List.getElem_cons_zero, List.getElem_cons_succ]
  refine wpG_take (i := 2) (v := ?_) hclG rfl (by kernel_rfl) (by kernel_rfl) (by kernel_rfl) (fun _ _ _ h => h) (by rfl) ?_ ?_
  rotate_left
  · (intro w' hSw; have hk := KS w' hSw; go_split_ands; go_simp; try with_reducible rfl)
  try simp only [Act.put, List.setIfInBounds_toArray, List.set_cons_zero, List.set_cons_succ, List.getElem_toArray, List.getElem_cons_zero, List.getElem_cons_succ]
  refine wpG_take (i := 3) (v := ?_) hclG rfl (by kernel_rfl) (by kernel_rfl) (by kernel_rfl) (fun _ _ _ h => h) (by rfl) ?_ ?_
  rotate_left
  · (intro w' hSw; go_simp; try with_reducible rfl)
  try simp only [Act.put, List.setIfInBounds_toArray, List.set_cons_zero, List.set_cons_succ, List.getElem_toArray, List.getElem_cons_zero, List.getElem_cons_succ]
  refine wpG_take (i := 4) (v := ?_) hclG rfl (by kernel_rfl) (by kernel_rfl) (by kernel_rfl) (fun _ _ _ h => h) (by rfl) ?_ ?_
  rotate_left
  · (intro w' hSw; go_simp; try with_reducible rfl)
  try simp only [Act.put, List.setIfInBounds_toArray, List.set_cons_zero, List.set_cons_succ, List.getElem_toArray, List.getElem_cons_zero, List.getElem_cons_succ]
  refine wpG_take (i := 5) (v := ?_) hclG rfl (by kernel_rfl) (by kernel_rfl) (by kernel_rfl) (fun _ _ _ h => h) (by rfl) ?_ ?_
  rotate_left
  · (intro w' hSw; go_simp; try with_reducible rfl)
  try simp only [Act.put, List.setIfInBounds_toArray, List.set_cons_zero, List.set_cons_succ, List.getElem_toArray, List.getElem_cons_zero, List.getElem_cons_succ]
  refine wpG_take (i := 6) (v := ?_) hclG rfl (by kernel_rfl) (by kernel_rfl) (by kernel_rfl) (fun _ _ _ h => h) (by rfl) ?_ ?_
  rotate_left
  · (intro w' hSw; have hk := KS w' hSw; go_split_ands; go_simp; try with_reducible rfl)
  try simp only [Act.put, List.setIfInBounds_toArray, List.set_cons_zero, List.set_cons_succ, List.getElem_toArray, List.getElem_cons_zero, List.getElem_cons_succ]
  refine wpG_take (i := 7) (v := ?_) hclG rfl (by kernel_rfl) (by kernel_rfl) (by kernel_rfl) (fun _ _ _ h => h) (by rfl) ?_ ?_
  rotate_left
  · (intro w' hSw; go_simp; try with_reducible rfl)
  try simp only [Act.put, List.setIfInBounds_toArray, List.set_cons_zero, List.set_cons_succ, List.getElem_toArray, List.getElem_cons_zero, List.getElem_cons_succ]
  refine wpG_take (i := 8) (v := ?_) hclG rfl (by kernel_rfl) (by kernel_rfl) (by kernel_rfl) (fun _ _ _ h => h) (by rfl) ?_ ?_
  rotate_left
  · (intro w' hSw; go_simp; try with_reducible rfl)
  try simp only [Act.put, List.setIfInBounds_toArray, List.set_cons_zero, List.set_cons_succ, List.getElem_toArray, List.getElem_cons_zero, List.getElem_cons_succ]
  refine wpG_take (i := 9) (v := ?_) hclG rfl (by kernel_rfl) (by kernel_rfl) (by kernel_rfl) (fun _ _ _ h => h) (by rfl) ?_ ?_
  rotate_left
  · (intro w' hSw; go_simp; try with_reducible rfl)
  try simp only [Act.put, List.setIfInBounds_toArray, List.set_cons_zero, List.set_cons_succ, List.getElem_toArray, List.getElem_cons_zero, List.getElem_cons_succ]
  refine wpG_done (by kernel_rfl) (fun w2 g2 => ?_) _
  replace g2 := (Gr.drew (Gr.refl r0)).trans g2
  have Fa_2 := CellsAt.gr (Ya_p2) g2
  have la_2 := CellsAt.lt (Fa_2)
  have Fy0_2 := CellsAt.gr (Yy0_p2) g2
  have ly0_2 := CellsAt.lt (Fy0_2)
  have z2 := (yp2).trans g2
  clear Ya_p2 Yy0_p2 yp2 g2
  clear hclG KS
  clear ea0 eb0
  go_wp2_with fail
  rw [rounds_succ]
  go_wp2_with fail
  obtain ⟨ea1, eb1⟩ : IntKind.i64.wrap ((V 0).re + (V 1).re) = (V 0).re + (V 1).re ∧ IntKind.i64.wrap ((V 0).im + (V 1).im) = (V 0).im + (V 1).im := ⟨IntWalk.i64_in _ ⟨by omega, by omega⟩, IntWalk.i64_in _ ⟨by omega, by omega⟩⟩
  obtain ⟨r1, hqp3⟩ : ∃ zz, zz = (w2.alloc (.cells #[.int .i64 (V 1).re, .int .i64 (V 1).im] 23)) := ⟨_, rfl⟩
  have Ya_p3 : CellsAt r1 (w.heap.size) 24 #[.int .i64 (f 0).re, .int .i64 (f 0).im, .int .i64 (f 1).re, .int .i64 (f 1).im, .int .i64 (f 2).re, .int .i64 (f 2).im, .int .i64 (f 3).re, .int .i64 (f 3).im] := by rw [hqp3]; first | exact (Fa_2).alloc _ | simpa using (Fa_2).alloc _
  have Yy1_p3 : CellsAt r1 (w2.heap.size) 23 #[.int .i64 (V 1).re, .int .i64 (V 1).im] := by rw [hqp3]; first | exact CellsAt.new w2 23 #[.int .i64 (V 1).re, .int .i64 (V 1).im] | simpa using CellsAt.new w2 23 #[.int .i64 (V 1).re, .int .i64 (V 1).im]
  have yp3 : Gr w r1 := by rw [hqp3]; exact (z2).alloc _ _
  rw [← hqp3]
  clear hqp3
  have KS : ∀ W, Gr r1 W → (W.cell? ⟨w2.heap.size, 0, none⟩ = some (.int .i64 (V 1).re) ∧ W.cell? ⟨w2.heap.size, 1, none⟩ = some (.int .i64 (V 1).im)) := fun W hG => ⟨(CellsAt.gr Yy1_p3 hG).cell 0, (CellsAt.gr Yy1_p3 hG).cell 1⟩
  have hclG := gr_closed r1
  try simp only [List.append_eq, List.cons_append, List.nil_append]
  refine wp_region_grow (S := Gr r1) rfl (Gr.drew (Gr.refl _)) ?_
  refine wpG_take (i := 0) (v := ?_) hclG rfl (by kernel_rfl) (by kernel_rfl) (by kernel_rfl) (fun _ _ _ h => h) (by rfl) ?_ ?_
  rotate_left
  · (intro w' hSw; go_simp; try with_reducible rfl)
  try simp only [Act.put, List.setIfInBounds_toArray, List.set_cons_zero, List.set_cons_succ, List.getElem_toArray, List.getElem_cons_zero, List.getElem_cons_succ]
  refine wpG_take (i := 1) (v := ?_) hclG rfl (by kernel_rfl) (by kernel_rfl) (by kernel_rfl) (fun _ _ _ h => h) (by rfl) ?_ ?_
  rotate_left
  · (intro w' hSw; go_simp; try with_reducible rfl)
  try simp only [Act.put, List.setIfInBounds_toArray, List.set_cons_zero, List.set_cons_succ, List.getElem_toArray, List.getElem_cons_zero, List.getElem_cons_succ]
  refine wpG_take (i := 2) (v := ?_) hclG rfl (by kernel_rfl) (by kernel_rfl) (by kernel_rfl) (fun _ _ _ h => h) (by rfl) ?_ ?_
  rotate_left
  · (intro w' hSw; have hk := KS w' hSw; go_split_ands; go_simp; try with_reducible rfl)
  try simp only [Act.put, List.setIfInBounds_toArray, List.set_cons_zero, List.set_cons_succ, List.getElem_toArray, List.getElem_cons_zero, List.getElem_cons_succ]
  refine wpG_take (i := 3) (v := ?_) hclG rfl (by kernel_rfl) (by kernel_rfl) (by kernel_rfl) (fun _ _ _ h => h) (by rfl) ?_ ?_
  rotate_left
  · (intro w' hSw; go_simp; try with_reducible rfl)
  try simp only [Act.put, List.setIfInBounds_toArray, List.set_cons_zero, List.set_cons_succ, List.getElem_toArray, List.getElem_cons_zero, List.getElem_cons_succ]
  refine wpG_take (i := 4) (v := ?_) hclG rfl (by kernel_rfl) (by kernel_rfl) (by kernel_rfl) (fun _ _ _ h => h) (by rfl) ?_ ?_
  rotate_left
  · (intro w' hSw; go_simp; try with_reducible rfl)
  try simp only [Act.put, List.setIfInBounds_toArray, List.set_cons_zero, List.set_cons_succ, List.getElem_toArray, List.getElem_cons_zero, List.getElem_cons_succ]
  refine wpG_take (i := 5) (v := ?_) hclG rfl (by kernel_rfl) (by kernel_rfl) (by kernel_rfl) (fun _ _ _ h => h) (by rfl) ?_ ?_
  rotate_left
  · (intro w' hSw; go_simp; try with_reducible rfl)
  try simp only [Act.put, List.setIfInBounds_toArray, List.set_cons_zero, List.set_cons_succ, List.getElem_toArray, List.getElem_cons_zero, List.getElem_cons_succ]
  refine wpG_take (i := 6) (v := ?_) hclG rfl (by kernel_rfl) (by kernel_rfl) (by kernel_rfl) (fun _ _ _ h => h) (by rfl) ?_ ?_
  rotate_left
  · (intro w' hSw; have hk := KS w' hSw; go_split_ands; go_simp; try with_reducible rfl)
  try simp only [Act.put, List.setIfInBounds_toArray, List.set_cons_zero, List.set_cons_succ, List.getElem_toArray, List.getElem_cons_zero, List.getElem_cons_succ]
  refine wpG_take (i := 7) (v := ?_) hclG rfl (by kernel_rfl) (by kernel_rfl) (by kernel_rfl) (fun _ _ _ h => h) (by rfl) ?_ ?_
  rotate_left
  · (intro w' hSw; go_simp; try with_reducible rfl)
  try simp only [Act.put, List.setIfInBounds_toArray, List.set_cons_zero, List.set_cons_succ, List.getElem_toArray, List.getElem_cons_zero, List.getElem_cons_succ]
  refine wpG_take (i := 8) (v := ?_) hclG rfl (by kernel_rfl) (by kernel_rfl) (by kernel_rfl) (fun _ _ _ h => h) (by rfl) ?_ ?_
  rotate_left
  · (intro w' hSw; go_simp; try with_reducible rfl)
  try simp only [Act.put, List.setIfInBounds_toArray, List.set_cons_zero, List.set_cons_succ, List.getElem_toArray, List.getElem_cons_zero, List.getElem_cons_succ]
  refine wpG_take (i := 9) (v := ?_) hclG rfl (by kernel_rfl) (by kernel_rfl) (by kernel_rfl) (fun _ _ _ h => h) (by rfl) ?_ ?_
  rotate_left
  · (intro w' hSw; go_simp; try with_reducible rfl)
  try simp only [Act.put, List.setIfInBounds_toArray, List.set_cons_zero, List.set_cons_succ, List.getElem_toArray, List.getElem_cons_zero, List.getElem_cons_succ]
  refine wpG_done (by kernel_rfl) (fun w3 g3 => ?_) _
  replace g3 := (Gr.drew (Gr.refl r1)).trans g3
  have Fa_3 := CellsAt.gr (Ya_p3) g3
  have la_3 := CellsAt.lt (Fa_3)
  have Fy1_3 := CellsAt.gr (Yy1_p3) g3
  have ly1_3 := CellsAt.lt (Fy1_3)
  have z3 := (yp3).trans g3
  clear Ya_p3 Yy1_p3 yp3 g3
  clear hclG KS
  clear ea1 eb1
  go_wp2_with fail
  rw [rounds_succ]
  go_wp2_with fail
  obtain ⟨ea2, eb2⟩ : IntKind.i64.wrap ((V 0).re + (V 1).re + (V 2).re) = (V 0).re + (V 1).re + (V 2).re ∧ IntKind.i64.wrap ((V 0).im + (V 1).im + (V 2).im) = (V 0).im + (V 1).im + (V 2).im := ⟨IntWalk.i64_in _ ⟨by omega, by omega⟩, IntWalk.i64_in _ ⟨by omega, by omega⟩⟩
  obtain ⟨r2, hqp4⟩ : ∃ zz, zz = (w3.alloc (.cells #[.int .i64 (V 2).re, .int .i64 (V 2).im] 23)) := ⟨_, rfl⟩
  have Ya_p4 : CellsAt r2 (w.heap.size) 24 #[.int .i64 (f 0).re, .int .i64 (f 0).im, .int .i64 (f 1).re, .int .i64 (f 1).im, .int .i64 (f 2).re, .int .i64 (f 2).im, .int .i64 (f 3).re, .int .i64 (f 3).im] := by rw [hqp4]; first | exact (Fa_3).alloc _ | simpa using (Fa_3).alloc _
  have Yy2_p4 : CellsAt r2 (w3.heap.size) 23 #[.int .i64 (V 2).re, .int .i64 (V 2).im] := by rw [hqp4]; first | exact CellsAt.new w3 23 #[.int .i64 (V 2).re, .int .i64 (V 2).im] | simpa using CellsAt.new w3 23 #[.int .i64 (V 2).re, .int .i64 (V 2).im]
  have yp4 : Gr w r2 := by rw [hqp4]; exact (z3).alloc _ _
  rw [← hqp4]
  clear hqp4
  have KS : ∀ W, Gr r2 W → (W.cell? ⟨w3.heap.size, 0, none⟩ = some (.int .i64 (V 2).re) ∧ W.cell? ⟨w3.heap.size, 1, none⟩ = some (.int .i64 (V 2).im)) := fun W hG => ⟨(CellsAt.gr Yy2_p4 hG).cell 0, (CellsAt.gr Yy2_p4 hG).cell 1⟩
  have hclG := gr_closed r2
  try simp only [List.append_eq, List.cons_append, List.nil_append]
  refine wp_region_grow (S := Gr r2) rfl (Gr.drew (Gr.refl _)) ?_
  refine wpG_take (i := 0) (v := ?_) hclG rfl (by kernel_rfl) (by kernel_rfl) (by kernel_rfl) (fun _ _ _ h => h) (by rfl) ?_ ?_
  rotate_left
  · (intro w' hSw; go_simp; try with_reducible rfl)
  try simp only [Act.put, List.setIfInBounds_toArray, List.set_cons_zero, List.set_cons_succ, List.getElem_toArray, List.getElem_cons_zero, List.getElem_cons_succ]
  refine wpG_take (i := 1) (v := ?_) hclG rfl (by kernel_rfl) (by kernel_rfl) (by kernel_rfl) (fun _ _ _ h => h) (by rfl) ?_ ?_
  rotate_left
  · (intro w' hSw; go_simp; try with_reducible rfl)
  try simp only [Act.put, List.setIfInBounds_toArray, List.set_cons_zero, List.set_cons_succ, List.getElem_toArray, List.getElem_cons_zero, List.getElem_cons_succ]
  refine wpG_take (i := 2) (v := ?_) hclG rfl (by kernel_rfl) (by kernel_rfl) (by kernel_rfl) (fun _ _ _ h => h) (by rfl) ?_ ?_
  rotate_left
  · (intro w' hSw; have hk := KS w' hSw; go_split_ands; go_simp; try with_reducible rfl)
  try simp only [Act.put, List.setIfInBounds_toArray, List.set_cons_zero, List.set_cons_succ, List.getElem_toArray, List.getElem_cons_zero, List.getElem_cons_succ]
  refine wpG_take (i := 3) (v := ?_) hclG rfl (by kernel_rfl) (by kernel_rfl) (by kernel_rfl) (fun _ _ _ h => h) (by rfl) ?_ ?_
  rotate_left
  · (intro w' hSw; go_simp; try with_reducible rfl)
  try simp only [Act.put, List.setIfInBounds_toArray, List.set_cons_zero, List.set_cons_succ, List.getElem_toArray, List.getElem_cons_zero, List.getElem_cons_succ]
  refine wpG_take (i := 4) (v := ?_) hclG rfl (by kernel_rfl) (by kernel_rfl) (by kernel_rfl) (fun _ _ _ h => h) (by rfl) ?_ ?_
  rotate_left
  · (intro w' hSw; go_simp; try with_reducible rfl)
  try simp only [Act.put, List.setIfInBounds_toArray, List.set_cons_zero, List.set_cons_succ, List.getElem_toArray, List.getElem_cons_zero, List.getElem_cons_succ]
  refine wpG_take (i := 5) (v := ?_) hclG rfl (by kernel_rfl) (by kernel_rfl) (by kernel_rfl) (fun _ _ _ h => h) (by rfl) ?_ ?_
  rotate_left
  · (intro w' hSw; go_simp; try with_reducible rfl)
  try simp only [Act.put, List.setIfInBounds_toArray, List.set_cons_zero, List.set_cons_succ, List.getElem_toArray, List.getElem_cons_zero, List.getElem_cons_succ]
  refine wpG_take (i := 6) (v := ?_) hclG rfl (by kernel_rfl) (by kernel_rfl) (by kernel_rfl) (fun _ _ _ h => h) (by rfl) ?_ ?_
  rotate_left
  · (intro w' hSw; have hk := KS w' hSw; go_split_ands; go_simp; try with_reducible rfl)
  try simp only [Act.put, List.setIfInBounds_toArray, List.set_cons_zero, List.set_cons_succ, List.getElem_toArray, List.getElem_cons_zero, List.getElem_cons_succ]
  refine wpG_take (i := 7) (v := ?_) hclG rfl (by kernel_rfl) (by kernel_rfl) (by kernel_rfl) (fun _ _ _ h => h) (by rfl) ?_ ?_
  rotate_left
  · (intro w' hSw; go_simp; try with_reducible rfl)
  try simp only [Act.put, List.setIfInBounds_toArray, List.set_cons_zero, List.set_cons_succ, List.getElem_toArray, List.getElem_cons_zero, List.getElem_cons_succ]
  refine wpG_take (i := 8) (v := ?_) hclG rfl (by kernel_rfl) (by kernel_rfl) (by kernel_rfl) (fun _ _ _ h => h) (by rfl) ?_ ?_
  rotate_left
  · (intro w' hSw; go_simp; try with_reducible rfl)
  try simp only [Act.put, List.setIfInBounds_toArray, List.set_cons_zero, List.set_cons_succ, List.getElem_toArray, List.getElem_cons_zero, List.getElem_cons_succ]
  refine wpG_take (i := 9) (v := ?_) hclG rfl (by kernel_rfl) (by kernel_rfl) (by kernel_rfl) (fun _ _ _ h => h) (by rfl) ?_ ?_
  rotate_left
  · (intro w' hSw; go_simp; try with_reducible rfl)
  try simp only [Act.put, List.setIfInBounds_toArray, List.set_cons_zero, List.set_cons_succ, List.getElem_toArray, List.getElem_cons_zero, List.getElem_cons_succ]
  refine wpG_done (by kernel_rfl) (fun w4 g4 => ?_) _
  replace g4 := (Gr.drew (Gr.refl r2)).trans g4
  have Fa_4 := CellsAt.gr (Ya_p4) g4
  have la_4 := CellsAt.lt (Fa_4)
  have Fy2_4 := CellsAt.gr (Yy2_p4) g4
  have ly2_4 := CellsAt.lt (Fy2_4)
  have z4 := (yp4).trans g4
  clear Ya_p4 Yy2_p4 yp4 g4
  clear hclG KS
  clear ea2 eb2
  go_wp2_with fail
  rw [rounds_succ]
  go_wp2_with fail
  obtain ⟨ea3, eb3⟩ : IntKind.i64.wrap ((V 0).re + (V 1).re + (V 2).re + (V 3).re) = (V 0).re + (V 1).re + (V 2).re + (V 3).re ∧ IntKind.i64.wrap ((V 0).im + (V 1).im + (V 2).im + (V 3).im) = (V 0).im + (V 1).im + (V 2).im + (V 3).im := ⟨IntWalk.i64_in _ ⟨by omega, by omega⟩, IntWalk.i64_in _ ⟨by omega, by omega⟩⟩
  obtain ⟨r3, hqp5⟩ : ∃ zz, zz = (w4.alloc (.cells #[.int .i64 (V 3).re, .int .i64 (V 3).im] 23)) := ⟨_, rfl⟩
  have Ya_p5 : CellsAt r3 (w.heap.size) 24 #[.int .i64 (f 0).re, .int .i64 (f 0).im, .int .i64 (f 1).re, .int .i64 (f 1).im, .int .i64 (f 2).re, .int .i64 (f 2).im, .int .i64 (f 3).re, .int .i64 (f 3).im] := by rw [hqp5]; first | exact (Fa_4).alloc _ | simpa using (Fa_4).alloc _
  have Yy3_p5 : CellsAt r3 (w4.heap.size) 23 #[.int .i64 (V 3).re, .int .i64 (V 3).im] := by rw [hqp5]; first | exact CellsAt.new w4 23 #[.int .i64 (V 3).re, .int .i64 (V 3).im] | simpa using CellsAt.new w4 23 #[.int .i64 (V 3).re, .int .i64 (V 3).im]
  have yp5 : Gr w r3 := by rw [hqp5]; exact (z4).alloc _ _
  rw [← hqp5]
  clear hqp5
  have KS : ∀ W, Gr r3 W → (W.cell? ⟨w4.heap.size, 0, none⟩ = some (.int .i64 (V 3).re) ∧ W.cell? ⟨w4.heap.size, 1, none⟩ = some (.int .i64 (V 3).im)) := fun W hG => ⟨(CellsAt.gr Yy3_p5 hG).cell 0, (CellsAt.gr Yy3_p5 hG).cell 1⟩
  have hclG := gr_closed r3
  try simp only [List.append_eq, List.cons_append, List.nil_append]
  refine wp_region_grow (S := Gr r3) rfl (Gr.drew (Gr.refl _)) ?_
  refine wpG_take (i := 0) (v := ?_) hclG rfl (by kernel_rfl) (by kernel_rfl) (by kernel_rfl) (fun _ _ _ h => h) (by rfl) ?_ ?_
  rotate_left
  · (intro w' hSw; go_simp; try with_reducible rfl)
  try simp only [Act.put, List.setIfInBounds_toArray, List.set_cons_zero, List.set_cons_succ, List.getElem_toArray, List.getElem_cons_zero, List.getElem_cons_succ]
  refine wpG_take (i := 1) (v := ?_) hclG rfl (by kernel_rfl) (by kernel_rfl) (by kernel_rfl) (fun _ _ _ h => h) (by rfl) ?_ ?_
  rotate_left
  · (intro w' hSw; go_simp; try with_reducible rfl)
  try simp only [Act.put, List.setIfInBounds_toArray, List.set_cons_zero, List.set_cons_succ, List.getElem_toArray, List.getElem_cons_zero, List.getElem_cons_succ]
  refine wpG_take (i := 2) (v := ?_) hclG rfl (by kernel_rfl) (by kernel_rfl) (by kernel_rfl) (fun _ _ _ h => h) (by rfl) ?_ ?_
  rotate_left
  · (intro w' hSw; have hk := KS w' hSw; go_split_ands; go_simp; try with_reducible rfl)
  try simp only [Act.put, List.setIfInBounds_toArray, List.set_cons_zero, List.set_cons_succ, List.getElem_toArray, List.getElem_cons_zero, List.getElem_cons_succ]
  refine wpG_take (i := 3) (v := ?_) hclG rfl (by kernel_rfl) (by kernel_rfl) (by kernel_rfl) (fun _ _ _ h => h) (by rfl) ?_ ?_
  rotate_left
  · (intro w' hSw; go_simp; try with_reducible rfl)
  try simp only [Act.put, List.setIfInBounds_toArray, List.set_cons_zero, List.set_cons_succ, List.getElem_toArray, List.getElem_cons_zero, List.getElem_cons_succ]
  refine wpG_take (i := 4) (v := ?_) hclG rfl (by kernel_rfl) (by kernel_rfl) (by kernel_rfl) (fun _ _ _ h => h) (by rfl) ?_ ?_
  rotate_left
  · (intro w' hSw; go_simp; try with_reducible rfl)
  try simp only [Act.put, List.setIfInBounds_toArray, List.set_cons_zero, List.set_cons_succ, List.getElem_toArray, List.getElem_cons_zero, List.getElem_cons_succ]
  refine wpG_take (i := 5) (v := ?_) hclG rfl (by kernel_rfl) (by kernel_rfl) (by kernel_rfl) (fun _ _ _ h => h) (by rfl) ?_ ?_
  rotate_left
  · (intro w' hSw; go_simp; try with_reducible rfl)
  try simp only [Act.put, List.setIfInBounds_toArray, List.set_cons_zero, List.set_cons_succ, List.getElem_toArray, List.getElem_cons_zero, List.getElem_cons_succ]
  refine wpG_take (i := 6) (v := ?_) hclG rfl (by kernel_rfl) (by kernel_rfl) (by kernel_rfl) (fun _ _ _ h => h) (by rfl) ?_ ?_
  rotate_left
  · (intro w' hSw; have hk := KS w' hSw; go_split_ands; go_simp; try with_reducible rfl)
  try simp only [Act.put, List.setIfInBounds_toArray, List.set_cons_zero, List.set_cons_succ, List.getElem_toArray, List.getElem_cons_zero, List.getElem_cons_succ]
  refine wpG_take (i := 7) (v := ?_) hclG rfl (by kernel_rfl) (by kernel_rfl) (by kernel_rfl) (fun _ _ _ h => h) (by rfl) ?_ ?_
  rotate_left
  · (intro w' hSw; go_simp; try with_reducible rfl)
  try simp only [Act.put, List.setIfInBounds_toArray, List.set_cons_zero, List.set_cons_succ, List.getElem_toArray, List.getElem_cons_zero, List.getElem_cons_succ]
  refine wpG_take (i := 8) (v := ?_) hclG rfl (by kernel_rfl) (by kernel_rfl) (by kernel_rfl) (fun _ _ _ h => h) (by rfl) ?_ ?_
  rotate_left
  · (intro w' hSw; go_simp; try with_reducible rfl)
  try simp only [Act.put, List.setIfInBounds_toArray, List.set_cons_zero, List.set_cons_succ, List.getElem_toArray, List.getElem_cons_zero, List.getElem_cons_succ]
  refine wpG_take (i := 9) (v := ?_) hclG rfl (by kernel_rfl) (by kernel_rfl) (by kernel_rfl) (fun _ _ _ h => h) (by rfl) ?_ ?_
  rotate_left
  · (intro w' hSw; go_simp; try with_reducible rfl)
  try simp only [Act.put, List.setIfInBounds_toArray, List.set_cons_zero, List.set_cons_succ, List.getElem_toArray, List.getElem_cons_zero, List.getElem_cons_succ]
  refine wpG_done (by kernel_rfl) (fun w5 g5 => ?_) _
  replace g5 := (Gr.drew (Gr.refl r3)).trans g5
  have Fa_5 := CellsAt.gr (Ya_p5) g5
  have la_5 := CellsAt.lt (Fa_5)
  have Fy3_5 := CellsAt.gr (Yy3_p5) g5
  have ly3_5 := CellsAt.lt (Fy3_5)
  have z5 := (yp5).trans g5
  clear Ya_p5 Yy3_p5 yp5 g5
  clear hclG KS
  clear ea3 eb3
  go_wp2_with fail
  rw [rounds_succ]
  go_wp2_with fail
  obtain ⟨n1, n2, n3, n4, n5, n6, n7, n8, n9⟩ := HN.out
  obtain ⟨r4, hqp6⟩ : ∃ zz, zz = w5 := ⟨_, rfl⟩
  have Ya_p6 : CellsAt r4 (w.heap.size) 24 #[.int .i64 (f 0).re, .int .i64 (f 0).im, .int .i64 (f 1).re, .int .i64 (f 1).im, .int .i64 (f 2).re, .int .i64 (f 2).im, .int .i64 (f 3).re, .int .i64 (f 3).im] := by rw [hqp6]; first | exact Fa_5 | simpa using Fa_5
  have yp6 : Gr w r4 := by rw [hqp6]; exact z5
  rw [← hqp6]
  clear hqp6
  have KS : ∀ W, Gr r4 W → (W.cell? ⟨w.heap.size, 0, none⟩ = some (.int .i64 (f 0).re) ∧ W.cell? ⟨w.heap.size, 1, none⟩ = some (.int .i64 (f 0).im) ∧ W.cell? ⟨w.heap.size, 2, none⟩ = some (.int .i64 (f 1).re) ∧ W.cell? ⟨w.heap.size, 3, none⟩ = some (.int .i64 (f 1).im) ∧ W.cell? ⟨w.heap.size, 4, none⟩ = some (.int .i64 (f 2).re) ∧ W.cell? ⟨w.heap.size, 5, none⟩ = some (.int .i64 (f 2).im) ∧ W.cell? ⟨w.heap.size, 6, none⟩ = some (.int .i64 (f 3).re) ∧ W.cell? ⟨w.heap.size, 7, none⟩ = some (.int .i64 (f 3).im)) := fun W hG => ⟨(CellsAt.gr Ya_p6 hG).cell 0, (CellsAt.gr Ya_p6 hG).cell 1, (CellsAt.gr Ya_p6 hG).cell 2, (CellsAt.gr Ya_p6 hG).cell 3, (CellsAt.gr Ya_p6 hG).cell 4, (CellsAt.gr Ya_p6 hG).cell 5, (CellsAt.gr Ya_p6 hG).cell 6, (CellsAt.gr Ya_p6 hG).cell 7⟩
  have hclG := gr_closed r4
  try simp only [List.append_eq, List.cons_append, List.nil_append]
  refine wp_region_grow (S := Gr r4) rfl (Gr.drew (Gr.refl _)) ?_
  refine wpG_take (i := 0) (v := ?_) hclG rfl (by kernel_rfl) (by kernel_rfl) (by kernel_rfl) (fun _ _ _ h => h) (by rfl) ?_ ?_
  rotate_left
  · (intro w' hSw; go_simp; try with_reducible rfl)
  try simp only [Act.put, List.setIfInBounds_toArray, List.set_cons_zero, List.set_cons_succ, List.getElem_toArray, List.getElem_cons_zero, List.getElem_cons_succ]
  refine wpG_take (i := 1) (v := ?_) hclG rfl (by kernel_rfl) (by kernel_rfl) (by kernel_rfl) (fun _ _ _ h => h) (by rfl) ?_ ?_
  rotate_left
  · (intro w' hSw; go_simp; try with_reducible rfl)
  try simp only [Act.put, List.setIfInBounds_toArray, List.set_cons_zero, List.set_cons_succ, List.getElem_toArray, List.getElem_cons_zero, List.getElem_cons_succ]
  refine wpG_take (i := 2) (v := ?_) hclG rfl (by kernel_rfl) (by kernel_rfl) (by kernel_rfl) (fun _ _ _ h => h) (by rfl) ?_ ?_
  rotate_left
  · (intro w' hSw; go_simp; try with_reducible rfl)
  try simp only [Act.put, List.setIfInBounds_toArray, List.set_cons_zero, List.set_cons_succ, List.getElem_toArray, List.getElem_cons_zero, List.getElem_cons_succ]
  refine wpG_take (i := 3) (v := ?_) hclG rfl (by kernel_rfl) (by kernel_rfl) (by kernel_rfl) (fun _ _ _ h => h) (by rfl) ?_ ?_
  rotate_left
  · (intro w' hSw; go_simp; try with_reducible rfl)
  try simp only [Act.put, List.setIfInBounds_toArray, List.set_cons_zero, List.set_cons_succ, List.getElem_toArray, List.getElem_cons_zero, List.getElem_cons_succ]
  refine wpG_take (i := 4) (v := ?_) hclG rfl (by kernel_rfl) (by kernel_rfl) (by kernel_rfl) (fun _ _ _ h => h) (by rfl) ?_ ?_
  rotate_left
  · (intro w' hSw; go_simp; try with_reducible rfl)
  try simp only [Act.put, List.setIfInBounds_toArray, List.set_cons_zero, List.set_cons_succ, List.getElem_toArray, List.getElem_cons_zero, List.getElem_cons_succ]
  refine wpG_take (i := 5) (v := ?_) hclG rfl (by kernel_rfl) (by kernel_rfl) (by kernel_rfl) (fun _ _ _ h => h) (by rfl) ?_ ?_
  rotate_left
  · (intro w' hSw; have hk := KS w' hSw; go_split_ands; go_simp; try with_reducible rfl)
  try simp only [Act.put, List.setIfInBounds_toArray, List.set_cons_zero, List.set_cons_succ, List.getElem_toArray, List.getElem_cons_zero, List.getElem_cons_succ]
  refine wpG_take (i := 6) (v := ?_) hclG rfl (by kernel_rfl) (by kernel_rfl) (by kernel_rfl) (fun _ _ _ h => h) (by rfl) ?_ ?_
  rotate_left
  · (intro w' hSw; go_simp; try with_reducible rfl)
  try simp only [Act.put, List.setIfInBounds_toArray, List.set_cons_zero, List.set_cons_succ, List.getElem_toArray, List.getElem_cons_zero, List.getElem_cons_succ]
  refine wpG_take (i := 7) (v := ?_) hclG rfl (by kernel_rfl) (by kernel_rfl) (by kernel_rfl) (fun _ _ _ h => h) (by rfl) ?_ ?_
  rotate_left
  · (intro w' hSw; go_simp; try with_reducible rfl)
  try simp only [Act.put, List.setIfInBounds_toArray, List.set_cons_zero, List.set_cons_succ, List.getElem_toArray, List.getElem_cons_zero, List.getElem_cons_succ]
  refine wpG_take (i := 8) (v := ?_) hclG rfl (by kernel_rfl) (by kernel_rfl) (by kernel_rfl) (fun _ _ _ h => h) (by rfl) ?_ ?_
  rotate_left
  · (intro w' hSw; go_simp; try with_reducible rfl)
  try simp only [Act.put, List.setIfInBounds_toArray, List.set_cons_zero, List.set_cons_succ, List.getElem_toArray, List.getElem_cons_zero, List.getElem_cons_succ]
  refine wpG_take (i := 9) (v := ?_) hclG rfl (by kernel_rfl) (by kernel_rfl) (by kernel_rfl) (fun _ _ _ h => h) (by rfl) ?_ ?_
  rotate_left
  · (intro w' hSw; go_simp; try with_reducible rfl)
  try simp only [Act.put, List.setIfInBounds_toArray, List.set_cons_zero, List.set_cons_succ, List.getElem_toArray, List.getElem_cons_zero, List.getElem_cons_succ]
  refine wpG_take (i := 10) (v := ?_) hclG rfl (by kernel_rfl) (by kernel_rfl) (by kernel_rfl) (fun _ _ _ h => h) (by rfl) ?_ ?_
  rotate_left
  · (intro w' hSw; go_simp; try with_reducible rfl)
  try simp only [Act.put, List.setIfInBounds_toArray, List.set_cons_zero, List.set_cons_succ, List.getElem_toArray, List.getElem_cons_zero, List.getElem_cons_succ]
  refine wpG_take (i := 11) (v := ?_) hclG rfl (by kernel_rfl) (by kernel_rfl) (by kernel_rfl) (fun _ _ _ h => h) (by rfl) ?_ ?_
  rotate_left
  · (intro w' hSw; go_simp; try with_reducible rfl)
  try simp only [Act.put, List.setIfInBounds_toArray, List.set_cons_zero, List.set_cons_succ, List.getElem_toArray, List.getElem_cons_zero, List.getElem_cons_succ]
  refine wpG_take (i := 12) (v := ?_) hclG rfl (by kernel_rfl) (by kernel_rfl) (by kernel_rfl) (fun _ _ _ h => h) (by rfl) ?_ ?_
  rotate_left
  · (intro w' hSw; go_simp; try with_reducible rfl)
  try simp only [Act.put, List.setIfInBounds_toArray, List.set_cons_zero, List.set_cons_succ, List.getElem_toArray, List.getElem_cons_zero, List.getElem_cons_succ]
  refine wpG_take (i := 13) (v := ?_) hclG rfl (by kernel_rfl) (by kernel_rfl) (by kernel_rfl) (fun _ _ _ h => h) (by rfl) ?_ ?_
  rotate_left
  · (intro w' hSw; have hk := KS w' hSw; go_split_ands; go_simp; try with_reducible rfl)
  try simp only [Act.put, List.setIfInBounds_toArray, List.set_cons_zero, List.set_cons_succ, List.getElem_toArray, List.getElem_cons_zero, List.getElem_cons_succ]
  refine wpG_take (i := 14) (v := ?_) hclG rfl (by kernel_rfl) (by kernel_rfl) (by kernel_rfl) (fun _ _ _ h => h) (by rfl) ?_ ?_
  rotate_left
  · (intro w' hSw; go_simp; try with_reducible rfl)
  try simp only [Act.put, List.setIfInBounds_toArray, List.set_cons_zero, List.set_cons_succ, List.getElem_toArray, List.getElem_cons_zero, List.getElem_cons_succ]
  refine wpG_take (i := 15) (v := ?_) hclG rfl (by kernel_rfl) (by kernel_rfl) (by kernel_rfl) (fun _ _ _ h => h) (by rfl) ?_ ?_
  rotate_left
  · (intro w' hSw; go_simp; try with_reducible rfl)
  try simp only [Act.put, List.setIfInBounds_toArray, List.set_cons_zero, List.set_cons_succ, List.getElem_toArray, List.getElem_cons_zero, List.getElem_cons_succ]
  refine wpG_take (i := 16) (v := ?_) hclG rfl (by kernel_rfl) (by kernel_rfl) (by kernel_rfl) (fun _ _ _ h => h) (by rfl) ?_ ?_
  rotate_left
  · (intro w' hSw; go_simp; try with_reducible rfl)
  try simp only [Act.put, List.setIfInBounds_toArray, List.set_cons_zero, List.set_cons_succ, List.getElem_toArray, List.getElem_cons_zero, List.getElem_cons_succ]
  refine wpG_take (i := 17) (v := ?_) hclG rfl (by kernel_rfl) (by kernel_rfl) (by kernel_rfl) (fun _ _ _ h => h) (by rfl) ?_ ?_
  rotate_left
  · (intro w' hSw; go_simp; try with_reducible rfl)
  try simp only [Act.put, List.setIfInBounds_toArray, List.set_cons_zero, List.set_cons_succ, List.getElem_toArray, List.getElem_cons_zero, List.getElem_cons_succ]
  refine wpG_done (by kernel_rfl) (fun w6 g6 => ?_) _
  replace g6 := (Gr.drew (Gr.refl r4)).trans g6
  have Fa_6 := CellsAt.gr (Ya_p6) g6
  have la_6 := CellsAt.lt (Fa_6)
  have z6 := (yp6).trans g6
  clear Ya_p6 yp6 g6
  clear hclG KS
  clear n1 n2 n3 n4 n5 n6
  go_wp2_with fail
  refine (AL.out _).mono ?_
  rintro e w7 ⟨rfl, g7⟩
  have Fa_7 := CellsAt.gr (Fa_6) g7
  have la_7 := CellsAt.lt (Fa_7)
  have z7 := (z6).trans g7
  clear Fa_6 z6 g7
  have hmx := fun ts t => run_max4 ts t DR (-DR) DI (-DI) N hmax
  clear hmax
  go_wp2_with fail
  go_ret
  exact ⟨by simp [hle], z7⟩

end Go.Proofs.Ytmhcbphkkcmecaa
