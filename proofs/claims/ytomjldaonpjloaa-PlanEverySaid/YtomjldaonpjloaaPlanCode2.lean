/- What package plan's numbered plans are. -/
import Derived.Test.YtomjldaonpjloaaPlanCode1
namespace Go.Proofs.Ytomjldaonpjloaa
open Go.ChangeShapes Go.WideShapes Go.ChangeAt Go.RowKit
set_option linter.unusedVariables false
set_option linter.unusedSimpArgs false
set_option maxRecDepth 100000


set_option maxHeartbeats 1000000 in
theorem next_c (a f m r v q : Int) (hm : ¬ m = 0) (hr : a.tmod m = r) (hv : wrap64 (f + r) = v) (hq : a.tdiv m = q) (hq2 : wrap64 q = q) (B : Nat) (w : World) (hB : CellsAt w B 3 #[.int .i64 a]) :
    Calls Try.prog 67 #[.int .i64 f, .int .i64 m, .pointer (some ⟨B, 0, none⟩)] w fun e w' => e = .returned (.int .i64 v) ∧ w' = w.setCell ⟨B, 0, none⟩ (.int .i64 q) := by
  have l0 := hB.lt
  have c0 := hB.cell 0
  have m0 := hB.frozen 0
  simp only [List.getElem?_toArray, List.getElem?_cons_zero] at c0
  go_enter Try.func67, Try.ntmps67
  go_wp2_with fail
  go_ret
  exact ⟨by simp [hv], rfl⟩


set_option maxHeartbeats 4000000 in
theorem numbered_g (a0 a1 a2 a3 a4 a5 a6 v0 v1 v2 v3 v4 v5 : Int) (H0 : Hid (∀ W B, CellsAt W B 3 #[.int .i64 a0] → Calls Try.prog 67 #[.int .i64 0, .int .i64 2, .pointer (some ⟨B, 0, none⟩)] W fun e w' => e = .returned (.int .i64 v0) ∧ w' = W.setCell ⟨B, 0, none⟩ (.int .i64 a1))) (H1 : Hid (∀ W B, CellsAt W B 3 #[.int .i64 a1] → Calls Try.prog 67 #[.int .i64 0, .int .i64 3, .pointer (some ⟨B, 0, none⟩)] W fun e w' => e = .returned (.int .i64 v1) ∧ w' = W.setCell ⟨B, 0, none⟩ (.int .i64 a2))) (H2 : Hid (∀ W B, CellsAt W B 3 #[.int .i64 a2] → Calls Try.prog 67 #[.int .i64 0, .int .i64 3, .pointer (some ⟨B, 0, none⟩)] W fun e w' => e = .returned (.int .i64 v2) ∧ w' = W.setCell ⟨B, 0, none⟩ (.int .i64 a3))) (H3 : Hid (∀ W B, CellsAt W B 3 #[.int .i64 a3] → Calls Try.prog 67 #[.int .i64 0, .int .i64 3, .pointer (some ⟨B, 0, none⟩)] W fun e w' => e = .returned (.int .i64 v3) ∧ w' = W.setCell ⟨B, 0, none⟩ (.int .i64 a4))) (H4 : Hid (∀ W B, CellsAt W B 3 #[.int .i64 a4] → Calls Try.prog 67 #[.int .i64 2, .int .i64 5, .pointer (some ⟨B, 0, none⟩)] W fun e w' => e = .returned (.int .i64 v4) ∧ w' = W.setCell ⟨B, 0, none⟩ (.int .i64 a5))) (H5 : Hid (∀ W B, CellsAt W B 3 #[.int .i64 a5] → Calls Try.prog 67 #[.int .i64 0, .int .i64 2, .pointer (some ⟨B, 0, none⟩)] W fun e w' => e = .returned (.int .i64 v5) ∧ w' = W.setCell ⟨B, 0, none⟩ (.int .i64 a6))) (w : World) :
    Calls Try.prog 48 #[.int .i64 a0] w fun e w' => e = .returned (.agg #[.int .i64 v5, .int .i64 v4, .int .i64 v3, .int .i64 v2, .int .i64 v1, .bool (v0 == 1)]) ∧ Gr w w' := by
  go_enter Try.func48, Try.ntmps48
  go_wp2_with fail
  obtain ⟨u0, hU⟩ : ∃ uu, uu = (((w.alloc (.cells #[.int .i64 a0] 3)).alloc (.cells #[.int .i64 0, .int .i64 0, .int .i64 0, .int .i64 0, .int .i64 0, .bool false] 23)).alloc (.cells #[.int .i64 0, .int .i64 0, .int .i64 0, .int .i64 0, .int .i64 0, .bool false] 23)) := ⟨_, rfl⟩
  have gu : Gr w u0 := by rw [hU]; exact (((Gr.refl w).alloc _ _).alloc _ _).alloc _ _
  have R0 : CellsAt u0 (w.heap.size) 3 #[.int .i64 a0] := by
    rw [hU]
    have := (((CellsAt.new w 3 #[.int .i64 a0]).alloc (.cells #[.int .i64 0, .int .i64 0, .int .i64 0, .int .i64 0, .int .i64 0, .bool false] 23)).alloc (.cells #[.int .i64 0, .int .i64 0, .int .i64 0, .int .i64 0, .int .i64 0, .bool false] 23))
    simpa only [World.size_alloc] using this
  have R1 : CellsAt u0 (w.heap.size + 1) 23 #[.int .i64 0, .int .i64 0, .int .i64 0, .int .i64 0, .int .i64 0, .bool false] := by
    rw [hU]
    have := ((CellsAt.new (w.alloc (.cells #[.int .i64 a0] 3)) 23 #[.int .i64 0, .int .i64 0, .int .i64 0, .int .i64 0, .int .i64 0, .bool false]).alloc (.cells #[.int .i64 0, .int .i64 0, .int .i64 0, .int .i64 0, .int .i64 0, .bool false] 23))
    simpa only [World.size_alloc] using this
  have R2 : CellsAt u0 (w.heap.size + 1 + 1) 23 #[.int .i64 0, .int .i64 0, .int .i64 0, .int .i64 0, .int .i64 0, .bool false] := by
    rw [hU]
    have := (CellsAt.new ((w.alloc (.cells #[.int .i64 a0] 3)).alloc (.cells #[.int .i64 0, .int .i64 0, .int .i64 0, .int .i64 0, .int .i64 0, .bool false] 23)) 23 #[.int .i64 0, .int .i64 0, .int .i64 0, .int .i64 0, .int .i64 0, .bool false])
    simpa only [World.size_alloc] using this
  rw [← hU]
  clear hU
  have ln := R0.lt
  have lr := R1.lt
  have lp := R2.lt
  refine (H0.out _ _ R0).mono ?_
  rintro e wz ⟨rfl, rfl⟩
  obtain ⟨x0, hqp1⟩ : ∃ zz, zz = (u0.setCell ⟨w.heap.size, 0, none⟩ (.int .i64 a1)) := ⟨_, rfl⟩
  have Yn_p1 : CellsAt x0 (w.heap.size) 3 #[.int .i64 a1] := by rw [hqp1]; first | exact CellsAt.set (R0) 0 (.int .i64 a1) | simpa using CellsAt.set (R0) 0 (.int .i64 a1)
  have Yr_p1 : CellsAt x0 (w.heap.size + 1) 23 #[.int .i64 0, .int .i64 0, .int .i64 0, .int .i64 0, .int .i64 0, .bool false] := by rw [hqp1]; first | exact (R1).other (by omega) _ _ | simpa using (R1).other (by omega) _ _
  have Yp_p1 : CellsAt x0 (w.heap.size + 1 + 1) 23 #[.int .i64 0, .int .i64 0, .int .i64 0, .int .i64 0, .int .i64 0, .bool false] := by rw [hqp1]; first | exact (R2).other (by omega) _ _ | simpa using (R2).other (by omega) _ _
  have yp1 : Gr w x0 := by rw [hqp1]; exact (gu).setCell (by first | omega | (simp only; omega)) _
  rw [← hqp1]
  clear hqp1
  have cp0 := CellsAt.cell (Yp_p1) 0
  have cp1 := CellsAt.cell (Yp_p1) 1
  have cp2 := CellsAt.cell (Yp_p1) 2
  have cp3 := CellsAt.cell (Yp_p1) 3
  have cp4 := CellsAt.cell (Yp_p1) 4
  have cp5 := CellsAt.cell (Yp_p1) 5
  simp only [List.getElem?_toArray, List.getElem?_cons_zero, List.getElem?_cons_succ] at cp0 cp1 cp2 cp3 cp4 cp5
  have mp0 := CellsAt.frozen (Yp_p1) 0
  have mp1 := CellsAt.frozen (Yp_p1) 1
  have mp2 := CellsAt.frozen (Yp_p1) 2
  have mp3 := CellsAt.frozen (Yp_p1) 3
  have mp4 := CellsAt.frozen (Yp_p1) 4
  have mp5 := CellsAt.frozen (Yp_p1) 5
  go_wp2_with fail
  clear cp0 cp1 cp2 cp3 cp4 cp5 mp0 mp1 mp2 mp3 mp4 mp5
  obtain ⟨y0, hqp2⟩ : ∃ zz, zz = (x0.setCell ⟨w.heap.size + 1 + 1, 5, none⟩ (.bool (v0 == 1))) := ⟨_, rfl⟩
  have Yn_p2 : CellsAt y0 (w.heap.size) 3 #[.int .i64 a1] := by rw [hqp2]; first | exact (Yn_p1).other (by omega) _ _ | simpa using (Yn_p1).other (by omega) _ _
  have Yr_p2 : CellsAt y0 (w.heap.size + 1) 23 #[.int .i64 0, .int .i64 0, .int .i64 0, .int .i64 0, .int .i64 0, .bool false] := by rw [hqp2]; first | exact (Yr_p1).other (by omega) _ _ | simpa using (Yr_p1).other (by omega) _ _
  have Yp_p2 : CellsAt y0 (w.heap.size + 1 + 1) 23 #[.int .i64 0, .int .i64 0, .int .i64 0, .int .i64 0, .int .i64 0, .bool (v0 == 1)] := by rw [hqp2]; first | exact CellsAt.set (Yp_p1) 5 (.bool (v0 == 1)) | simpa using CellsAt.set (Yp_p1) 5 (.bool (v0 == 1))
  have yp2 : Gr w y0 := by rw [hqp2]; exact (yp1).setCell (by first | omega | (simp only; omega)) _
  rw [← hqp2]
  clear hqp2
  refine (H1.out _ _ Yn_p2).mono ?_
  rintro e wz ⟨rfl, rfl⟩
  obtain ⟨x1, hqp3⟩ : ∃ zz, zz = (y0.setCell ⟨w.heap.size, 0, none⟩ (.int .i64 a2)) := ⟨_, rfl⟩
  have Yn_p3 : CellsAt x1 (w.heap.size) 3 #[.int .i64 a2] := by rw [hqp3]; first | exact CellsAt.set (Yn_p2) 0 (.int .i64 a2) | simpa using CellsAt.set (Yn_p2) 0 (.int .i64 a2)
  have Yr_p3 : CellsAt x1 (w.heap.size + 1) 23 #[.int .i64 0, .int .i64 0, .int .i64 0, .int .i64 0, .int .i64 0, .bool false] := by rw [hqp3]; first | exact (Yr_p2).other (by omega) _ _ | simpa using (Yr_p2).other (by omega) _ _
  have Yp_p3 : CellsAt x1 (w.heap.size + 1 + 1) 23 #[.int .i64 0, .int .i64 0, .int .i64 0, .int .i64 0, .int .i64 0, .bool (v0 == 1)] := by rw [hqp3]; first | exact (Yp_p2).other (by omega) _ _ | simpa using (Yp_p2).other (by omega) _ _
  have yp3 : Gr w x1 := by rw [hqp3]; exact (yp2).setCell (by first | omega | (simp only; omega)) _
  rw [← hqp3]
  clear hqp3
  have cp0 := CellsAt.cell (Yp_p3) 0
  have cp1 := CellsAt.cell (Yp_p3) 1
  have cp2 := CellsAt.cell (Yp_p3) 2
  have cp3 := CellsAt.cell (Yp_p3) 3
  have cp4 := CellsAt.cell (Yp_p3) 4
  have cp5 := CellsAt.cell (Yp_p3) 5
  simp only [List.getElem?_toArray, List.getElem?_cons_zero, List.getElem?_cons_succ] at cp0 cp1 cp2 cp3 cp4 cp5
  have mp0 := CellsAt.frozen (Yp_p3) 0
  have mp1 := CellsAt.frozen (Yp_p3) 1
  have mp2 := CellsAt.frozen (Yp_p3) 2
  have mp3 := CellsAt.frozen (Yp_p3) 3
  have mp4 := CellsAt.frozen (Yp_p3) 4
  have mp5 := CellsAt.frozen (Yp_p3) 5
  go_wp2_with fail
  clear cp0 cp1 cp2 cp3 cp4 cp5 mp0 mp1 mp2 mp3 mp4 mp5
  obtain ⟨y1, hqp4⟩ : ∃ zz, zz = (x1.setCell ⟨w.heap.size + 1 + 1, 4, none⟩ (.int .i64 v1)) := ⟨_, rfl⟩
  have Yn_p4 : CellsAt y1 (w.heap.size) 3 #[.int .i64 a2] := by rw [hqp4]; first | exact (Yn_p3).other (by omega) _ _ | simpa using (Yn_p3).other (by omega) _ _
  have Yr_p4 : CellsAt y1 (w.heap.size + 1) 23 #[.int .i64 0, .int .i64 0, .int .i64 0, .int .i64 0, .int .i64 0, .bool false] := by rw [hqp4]; first | exact (Yr_p3).other (by omega) _ _ | simpa using (Yr_p3).other (by omega) _ _
  have Yp_p4 : CellsAt y1 (w.heap.size + 1 + 1) 23 #[.int .i64 0, .int .i64 0, .int .i64 0, .int .i64 0, .int .i64 v1, .bool (v0 == 1)] := by rw [hqp4]; first | exact CellsAt.set (Yp_p3) 4 (.int .i64 v1) | simpa using CellsAt.set (Yp_p3) 4 (.int .i64 v1)
  have yp4 : Gr w y1 := by rw [hqp4]; exact (yp3).setCell (by first | omega | (simp only; omega)) _
  rw [← hqp4]
  clear hqp4
  refine (H2.out _ _ Yn_p4).mono ?_
  rintro e wz ⟨rfl, rfl⟩
  obtain ⟨x2, hqp5⟩ : ∃ zz, zz = (y1.setCell ⟨w.heap.size, 0, none⟩ (.int .i64 a3)) := ⟨_, rfl⟩
  have Yn_p5 : CellsAt x2 (w.heap.size) 3 #[.int .i64 a3] := by rw [hqp5]; first | exact CellsAt.set (Yn_p4) 0 (.int .i64 a3) | simpa using CellsAt.set (Yn_p4) 0 (.int .i64 a3)
  have Yr_p5 : CellsAt x2 (w.heap.size + 1) 23 #[.int .i64 0, .int .i64 0, .int .i64 0, .int .i64 0, .int .i64 0, .bool false] := by rw [hqp5]; first | exact (Yr_p4).other (by omega) _ _ | simpa using (Yr_p4).other (by omega) _ _
  have Yp_p5 : CellsAt x2 (w.heap.size + 1 + 1) 23 #[.int .i64 0, .int .i64 0, .int .i64 0, .int .i64 0, .int .i64 v1, .bool (v0 == 1)] := by rw [hqp5]; first | exact (Yp_p4).other (by omega) _ _ | simpa using (Yp_p4).other (by omega) _ _
  have yp5 : Gr w x2 := by rw [hqp5]; exact (yp4).setCell (by first | omega | (simp only; omega)) _
  rw [← hqp5]
  clear hqp5
  have cp0 := CellsAt.cell (Yp_p5) 0
  have cp1 := CellsAt.cell (Yp_p5) 1
  have cp2 := CellsAt.cell (Yp_p5) 2
  have cp3 := CellsAt.cell (Yp_p5) 3
  have cp4 := CellsAt.cell (Yp_p5) 4
  have cp5 := CellsAt.cell (Yp_p5) 5
  simp only [List.getElem?_toArray, List.getElem?_cons_zero, List.getElem?_cons_succ] at cp0 cp1 cp2 cp3 cp4 cp5
  have mp0 := CellsAt.frozen (Yp_p5) 0
  have mp1 := CellsAt.frozen (Yp_p5) 1
  have mp2 := CellsAt.frozen (Yp_p5) 2
  have mp3 := CellsAt.frozen (Yp_p5) 3
  have mp4 := CellsAt.frozen (Yp_p5) 4
  have mp5 := CellsAt.frozen (Yp_p5) 5
  go_wp2_with fail
  clear cp0 cp1 cp2 cp3 cp4 cp5 mp0 mp1 mp2 mp3 mp4 mp5
  obtain ⟨y2, hqp6⟩ : ∃ zz, zz = (x2.setCell ⟨w.heap.size + 1 + 1, 3, none⟩ (.int .i64 v2)) := ⟨_, rfl⟩
  have Yn_p6 : CellsAt y2 (w.heap.size) 3 #[.int .i64 a3] := by rw [hqp6]; first | exact (Yn_p5).other (by omega) _ _ | simpa using (Yn_p5).other (by omega) _ _
  have Yr_p6 : CellsAt y2 (w.heap.size + 1) 23 #[.int .i64 0, .int .i64 0, .int .i64 0, .int .i64 0, .int .i64 0, .bool false] := by rw [hqp6]; first | exact (Yr_p5).other (by omega) _ _ | simpa using (Yr_p5).other (by omega) _ _
  have Yp_p6 : CellsAt y2 (w.heap.size + 1 + 1) 23 #[.int .i64 0, .int .i64 0, .int .i64 0, .int .i64 v2, .int .i64 v1, .bool (v0 == 1)] := by rw [hqp6]; first | exact CellsAt.set (Yp_p5) 3 (.int .i64 v2) | simpa using CellsAt.set (Yp_p5) 3 (.int .i64 v2)
  have yp6 : Gr w y2 := by rw [hqp6]; exact (yp5).setCell (by first | omega | (simp only; omega)) _
  rw [← hqp6]
  clear hqp6
  refine (H3.out _ _ Yn_p6).mono ?_
  rintro e wz ⟨rfl, rfl⟩
  obtain ⟨x3, hqp7⟩ : ∃ zz, zz = (y2.setCell ⟨w.heap.size, 0, none⟩ (.int .i64 a4)) := ⟨_, rfl⟩
  have Yn_p7 : CellsAt x3 (w.heap.size) 3 #[.int .i64 a4] := by rw [hqp7]; first | exact CellsAt.set (Yn_p6) 0 (.int .i64 a4) | simpa using CellsAt.set (Yn_p6) 0 (.int .i64 a4)
  have Yr_p7 : CellsAt x3 (w.heap.size + 1) 23 #[.int .i64 0, .int .i64 0, .int .i64 0, .int .i64 0, .int .i64 0, .bool false] := by rw [hqp7]; first | exact (Yr_p6).other (by omega) _ _ | simpa using (Yr_p6).other (by omega) _ _
  have Yp_p7 : CellsAt x3 (w.heap.size + 1 + 1) 23 #[.int .i64 0, .int .i64 0, .int .i64 0, .int .i64 v2, .int .i64 v1, .bool (v0 == 1)] := by rw [hqp7]; first | exact (Yp_p6).other (by omega) _ _ | simpa using (Yp_p6).other (by omega) _ _
  have yp7 : Gr w x3 := by rw [hqp7]; exact (yp6).setCell (by first | omega | (simp only; omega)) _
  rw [← hqp7]
  clear hqp7
  have cp0 := CellsAt.cell (Yp_p7) 0
  have cp1 := CellsAt.cell (Yp_p7) 1
  have cp2 := CellsAt.cell (Yp_p7) 2
  have cp3 := CellsAt.cell (Yp_p7) 3
  have cp4 := CellsAt.cell (Yp_p7) 4
  have cp5 := CellsAt.cell (Yp_p7) 5
  simp only [List.getElem?_toArray, List.getElem?_cons_zero, List.getElem?_cons_succ] at cp0 cp1 cp2 cp3 cp4 cp5
  have mp0 := CellsAt.frozen (Yp_p7) 0
  have mp1 := CellsAt.frozen (Yp_p7) 1
  have mp2 := CellsAt.frozen (Yp_p7) 2
  have mp3 := CellsAt.frozen (Yp_p7) 3
  have mp4 := CellsAt.frozen (Yp_p7) 4
  have mp5 := CellsAt.frozen (Yp_p7) 5
  go_wp2_with fail
  clear cp0 cp1 cp2 cp3 cp4 cp5 mp0 mp1 mp2 mp3 mp4 mp5
  obtain ⟨y3, hqp8⟩ : ∃ zz, zz = (x3.setCell ⟨w.heap.size + 1 + 1, 2, none⟩ (.int .i64 v3)) := ⟨_, rfl⟩
  have Yn_p8 : CellsAt y3 (w.heap.size) 3 #[.int .i64 a4] := by rw [hqp8]; first | exact (Yn_p7).other (by omega) _ _ | simpa using (Yn_p7).other (by omega) _ _
  have Yr_p8 : CellsAt y3 (w.heap.size + 1) 23 #[.int .i64 0, .int .i64 0, .int .i64 0, .int .i64 0, .int .i64 0, .bool false] := by rw [hqp8]; first | exact (Yr_p7).other (by omega) _ _ | simpa using (Yr_p7).other (by omega) _ _
  have Yp_p8 : CellsAt y3 (w.heap.size + 1 + 1) 23 #[.int .i64 0, .int .i64 0, .int .i64 v3, .int .i64 v2, .int .i64 v1, .bool (v0 == 1)] := by rw [hqp8]; first | exact CellsAt.set (Yp_p7) 2 (.int .i64 v3) | simpa using CellsAt.set (Yp_p7) 2 (.int .i64 v3)
  have yp8 : Gr w y3 := by rw [hqp8]; exact (yp7).setCell (by first | omega | (simp only; omega)) _
  rw [← hqp8]
  clear hqp8
  refine (H4.out _ _ Yn_p8).mono ?_
  rintro e wz ⟨rfl, rfl⟩
  obtain ⟨x4, hqp9⟩ : ∃ zz, zz = (y3.setCell ⟨w.heap.size, 0, none⟩ (.int .i64 a5)) := ⟨_, rfl⟩
  have Yn_p9 : CellsAt x4 (w.heap.size) 3 #[.int .i64 a5] := by rw [hqp9]; first | exact CellsAt.set (Yn_p8) 0 (.int .i64 a5) | simpa using CellsAt.set (Yn_p8) 0 (.int .i64 a5)
  have Yr_p9 : CellsAt x4 (w.heap.size + 1) 23 #[.int .i64 0, .int .i64 0, .int .i64 0, .int .i64 0, .int .i64 0, .bool false] := by rw [hqp9]; first | exact (Yr_p8).other (by omega) _ _ | simpa using (Yr_p8).other (by omega) _ _
  have Yp_p9 : CellsAt x4 (w.heap.size + 1 + 1) 23 #[.int .i64 0, .int .i64 0, .int .i64 v3, .int .i64 v2, .int .i64 v1, .bool (v0 == 1)] := by rw [hqp9]; first | exact (Yp_p8).other (by omega) _ _ | simpa using (Yp_p8).other (by omega) _ _
  have yp9 : Gr w x4 := by rw [hqp9]; exact (yp8).setCell (by first | omega | (simp only; omega)) _
  rw [← hqp9]
  clear hqp9
  have cp0 := CellsAt.cell (Yp_p9) 0
  have cp1 := CellsAt.cell (Yp_p9) 1
  have cp2 := CellsAt.cell (Yp_p9) 2
  have cp3 := CellsAt.cell (Yp_p9) 3
  have cp4 := CellsAt.cell (Yp_p9) 4
  have cp5 := CellsAt.cell (Yp_p9) 5
  simp only [List.getElem?_toArray, List.getElem?_cons_zero, List.getElem?_cons_succ] at cp0 cp1 cp2 cp3 cp4 cp5
  have mp0 := CellsAt.frozen (Yp_p9) 0
  have mp1 := CellsAt.frozen (Yp_p9) 1
  have mp2 := CellsAt.frozen (Yp_p9) 2
  have mp3 := CellsAt.frozen (Yp_p9) 3
  have mp4 := CellsAt.frozen (Yp_p9) 4
  have mp5 := CellsAt.frozen (Yp_p9) 5
  go_wp2_with fail
  clear cp0 cp1 cp2 cp3 cp4 cp5 mp0 mp1 mp2 mp3 mp4 mp5
  obtain ⟨y4, hqp10⟩ : ∃ zz, zz = (x4.setCell ⟨w.heap.size + 1 + 1, 1, none⟩ (.int .i64 v4)) := ⟨_, rfl⟩
  have Yn_p10 : CellsAt y4 (w.heap.size) 3 #[.int .i64 a5] := by rw [hqp10]; first | exact (Yn_p9).other (by omega) _ _ | simpa using (Yn_p9).other (by omega) _ _
  have Yr_p10 : CellsAt y4 (w.heap.size + 1) 23 #[.int .i64 0, .int .i64 0, .int .i64 0, .int .i64 0, .int .i64 0, .bool false] := by rw [hqp10]; first | exact (Yr_p9).other (by omega) _ _ | simpa using (Yr_p9).other (by omega) _ _
  have Yp_p10 : CellsAt y4 (w.heap.size + 1 + 1) 23 #[.int .i64 0, .int .i64 v4, .int .i64 v3, .int .i64 v2, .int .i64 v1, .bool (v0 == 1)] := by rw [hqp10]; first | exact CellsAt.set (Yp_p9) 1 (.int .i64 v4) | simpa using CellsAt.set (Yp_p9) 1 (.int .i64 v4)
  have yp10 : Gr w y4 := by rw [hqp10]; exact (yp9).setCell (by first | omega | (simp only; omega)) _
  rw [← hqp10]
  clear hqp10
  refine (H5.out _ _ Yn_p10).mono ?_
  rintro e wz ⟨rfl, rfl⟩
  obtain ⟨x5, hqp11⟩ : ∃ zz, zz = (y4.setCell ⟨w.heap.size, 0, none⟩ (.int .i64 a6)) := ⟨_, rfl⟩
  have Yn_p11 : CellsAt x5 (w.heap.size) 3 #[.int .i64 a6] := by rw [hqp11]; first | exact CellsAt.set (Yn_p10) 0 (.int .i64 a6) | simpa using CellsAt.set (Yn_p10) 0 (.int .i64 a6)
  have Yr_p11 : CellsAt x5 (w.heap.size + 1) 23 #[.int .i64 0, .int .i64 0, .int .i64 0, .int .i64 0, .int .i64 0, .bool false] := by rw [hqp11]; first | exact (Yr_p10).other (by omega) _ _ | simpa using (Yr_p10).other (by omega) _ _
  have Yp_p11 : CellsAt x5 (w.heap.size + 1 + 1) 23 #[.int .i64 0, .int .i64 v4, .int .i64 v3, .int .i64 v2, .int .i64 v1, .bool (v0 == 1)] := by rw [hqp11]; first | exact (Yp_p10).other (by omega) _ _ | simpa using (Yp_p10).other (by omega) _ _
  have yp11 : Gr w x5 := by rw [hqp11]; exact (yp10).setCell (by first | omega | (simp only; omega)) _
  rw [← hqp11]
  clear hqp11
  have cp0 := CellsAt.cell (Yp_p11) 0
  have cp1 := CellsAt.cell (Yp_p11) 1
  have cp2 := CellsAt.cell (Yp_p11) 2
  have cp3 := CellsAt.cell (Yp_p11) 3
  have cp4 := CellsAt.cell (Yp_p11) 4
  have cp5 := CellsAt.cell (Yp_p11) 5
  have cr0 := CellsAt.cell (Yr_p11) 0
  have cr1 := CellsAt.cell (Yr_p11) 1
  have cr2 := CellsAt.cell (Yr_p11) 2
  have cr3 := CellsAt.cell (Yr_p11) 3
  have cr4 := CellsAt.cell (Yr_p11) 4
  have cr5 := CellsAt.cell (Yr_p11) 5
  simp only [List.getElem?_toArray, List.getElem?_cons_zero, List.getElem?_cons_succ] at cp0 cp1 cp2 cp3 cp4 cp5 cr0 cr1 cr2 cr3 cr4 cr5
  have mp0 := CellsAt.frozen (Yp_p11) 0
  have mp1 := CellsAt.frozen (Yp_p11) 1
  have mp2 := CellsAt.frozen (Yp_p11) 2
  have mp3 := CellsAt.frozen (Yp_p11) 3
  have mp4 := CellsAt.frozen (Yp_p11) 4
  have mp5 := CellsAt.frozen (Yp_p11) 5
  have mr0 := CellsAt.frozen (Yr_p11) 0
  have mr1 := CellsAt.frozen (Yr_p11) 1
  have mr2 := CellsAt.frozen (Yr_p11) 2
  have mr3 := CellsAt.frozen (Yr_p11) 3
  have mr4 := CellsAt.frozen (Yr_p11) 4
  have mr5 := CellsAt.frozen (Yr_p11) 5
  go_wp2_with fail
  clear cp0 cp1 cp2 cp3 cp4 cp5 cr0 cr1 cr2 cr3 cr4 cr5 mp0 mp1 mp2 mp3 mp4 mp5 mr0 mr1 mr2 mr3 mr4 mr5
  obtain ⟨uf, hqp12⟩ : ∃ zz, zz = (((((((x5.setCell ⟨w.heap.size + 1 + 1, 0, none⟩ (.int .i64 v5)).setCell ⟨w.heap.size + 1, 0, none⟩ (.int .i64 v5)).setCell ⟨w.heap.size + 1, 1, none⟩ (.int .i64 v4)).setCell ⟨w.heap.size + 1, 2, none⟩ (.int .i64 v3)).setCell ⟨w.heap.size + 1, 3, none⟩ (.int .i64 v2)).setCell ⟨w.heap.size + 1, 4, none⟩ (.int .i64 v1)).setCell ⟨w.heap.size + 1, 5, none⟩ (.bool (v0 == 1))) := ⟨_, rfl⟩
  have Yn_p12 : CellsAt uf (w.heap.size) 3 #[.int .i64 a6] := by rw [hqp12]; first | exact (((((((Yn_p11).other (by omega) _ _).other (by omega) _ _).other (by omega) _ _).other (by omega) _ _).other (by omega) _ _).other (by omega) _ _).other (by omega) _ _ | simpa using (((((((Yn_p11).other (by omega) _ _).other (by omega) _ _).other (by omega) _ _).other (by omega) _ _).other (by omega) _ _).other (by omega) _ _).other (by omega) _ _
  have Yr_p12 : CellsAt uf (w.heap.size + 1) 23 #[.int .i64 v5, .int .i64 v4, .int .i64 v3, .int .i64 v2, .int .i64 v1, .bool (v0 == 1)] := by rw [hqp12]; first | exact CellsAt.set (CellsAt.set (CellsAt.set (CellsAt.set (CellsAt.set (CellsAt.set ((Yr_p11).other (by omega) _ _) 0 (.int .i64 v5)) 1 (.int .i64 v4)) 2 (.int .i64 v3)) 3 (.int .i64 v2)) 4 (.int .i64 v1)) 5 (.bool (v0 == 1)) | simpa using CellsAt.set (CellsAt.set (CellsAt.set (CellsAt.set (CellsAt.set (CellsAt.set ((Yr_p11).other (by omega) _ _) 0 (.int .i64 v5)) 1 (.int .i64 v4)) 2 (.int .i64 v3)) 3 (.int .i64 v2)) 4 (.int .i64 v1)) 5 (.bool (v0 == 1))
  have Yp_p12 : CellsAt uf (w.heap.size + 1 + 1) 23 #[.int .i64 v5, .int .i64 v4, .int .i64 v3, .int .i64 v2, .int .i64 v1, .bool (v0 == 1)] := by rw [hqp12]; first | exact ((((((CellsAt.set (Yp_p11) 0 (.int .i64 v5)).other (by omega) _ _).other (by omega) _ _).other (by omega) _ _).other (by omega) _ _).other (by omega) _ _).other (by omega) _ _ | simpa using ((((((CellsAt.set (Yp_p11) 0 (.int .i64 v5)).other (by omega) _ _).other (by omega) _ _).other (by omega) _ _).other (by omega) _ _).other (by omega) _ _).other (by omega) _ _
  have yp12 : Gr w uf := by rw [hqp12]; exact (((((((yp11).setCell (by first | omega | (simp only; omega)) _).setCell (by first | omega | (simp only; omega)) _).setCell (by first | omega | (simp only; omega)) _).setCell (by first | omega | (simp only; omega)) _).setCell (by first | omega | (simp only; omega)) _).setCell (by first | omega | (simp only; omega)) _).setCell (by first | omega | (simp only; omega)) _
  rw [← hqp12]
  clear hqp12
  have cr0 := CellsAt.cell (Yr_p12) 0
  have cr1 := CellsAt.cell (Yr_p12) 1
  have cr2 := CellsAt.cell (Yr_p12) 2
  have cr3 := CellsAt.cell (Yr_p12) 3
  have cr4 := CellsAt.cell (Yr_p12) 4
  have cr5 := CellsAt.cell (Yr_p12) 5
  simp only [List.getElem?_toArray, List.getElem?_cons_zero, List.getElem?_cons_succ] at cr0 cr1 cr2 cr3 cr4 cr5
  refine bodyPost_ret (v := .agg #[.int .i64 v5, .int .i64 v4, .int .i64 v3, .int .i64 v2, .int .i64 v1, .bool (v0 == 1)]) ?_ rfl ⟨rfl, yp12⟩
  simp [results, Try.results48, go_sem, *]


theorem numbered_c (n : Nat) (hn : n < 540) (w : World) :
    Calls Try.prog 48 #[.int .i64 (n : Int)] w fun e w' => e = .returned (.agg #[.int .i64 (planN n).fo, .int .i64 (planN n).lo, .int .i64 (planN n).ke, .int .i64 (planN n).sc, .int .i64 (planN n).mo, .bool (planN n).iv]) ∧ Gr w w' := by
  have H := numbered_g _ _ _ _ _ _ _ _ _ _ _ _ _
    (Lib.hid fun W B hB => next_c ((n : Int)) 0 2 ((n : Int) % 2) _ ((n : Int) / 2) (by decide) (Int.tmod_eq_emod_of_nonneg (by omega)) rfl (Int.tdiv_eq_ediv_of_nonneg (by omega)) (IntWalk.wrap64_in _ ⟨by omega, by omega⟩) B W hB)
    (Lib.hid fun W B hB => next_c ((n : Int) / 2) 0 3 ((n : Int) / 2 % 3) _ ((n : Int) / 2 / 3) (by decide) (Int.tmod_eq_emod_of_nonneg (by omega)) rfl (Int.tdiv_eq_ediv_of_nonneg (by omega)) (IntWalk.wrap64_in _ ⟨by omega, by omega⟩) B W hB)
    (Lib.hid fun W B hB => next_c ((n : Int) / 2 / 3) 0 3 ((n : Int) / 2 / 3 % 3) _ ((n : Int) / 2 / 3 / 3) (by decide) (Int.tmod_eq_emod_of_nonneg (by omega)) rfl (Int.tdiv_eq_ediv_of_nonneg (by omega)) (IntWalk.wrap64_in _ ⟨by omega, by omega⟩) B W hB)
    (Lib.hid fun W B hB => next_c ((n : Int) / 2 / 3 / 3) 0 3 ((n : Int) / 2 / 3 / 3 % 3) _ ((n : Int) / 2 / 3 / 3 / 3) (by decide) (Int.tmod_eq_emod_of_nonneg (by omega)) rfl (Int.tdiv_eq_ediv_of_nonneg (by omega)) (IntWalk.wrap64_in _ ⟨by omega, by omega⟩) B W hB)
    (Lib.hid fun W B hB => next_c ((n : Int) / 2 / 3 / 3 / 3) 2 5 ((n : Int) / 2 / 3 / 3 / 3 % 5) _ ((n : Int) / 2 / 3 / 3 / 3 / 5) (by decide) (Int.tmod_eq_emod_of_nonneg (by omega)) rfl (Int.tdiv_eq_ediv_of_nonneg (by omega)) (IntWalk.wrap64_in _ ⟨by omega, by omega⟩) B W hB)
    (Lib.hid fun W B hB => next_c ((n : Int) / 2 / 3 / 3 / 3 / 5) 0 2 ((n : Int) / 2 / 3 / 3 / 3 / 5 % 2) _ ((n : Int) / 2 / 3 / 3 / 3 / 5 / 2) (by decide) (Int.tmod_eq_emod_of_nonneg (by omega)) rfl (Int.tdiv_eq_ediv_of_nonneg (by omega)) (IntWalk.wrap64_in _ ⟨by omega, by omega⟩) B W hB) w
  have e0 : wrap64 (0 + (n : Int) % 2) = (n : Int) % 2 := by rw [IntWalk.wrap64_in _ ⟨by omega, by omega⟩]; omega
  have e1 : wrap64 (0 + (n : Int) / 2 % 3) = (n : Int) / 2 % 3 := by rw [IntWalk.wrap64_in _ ⟨by omega, by omega⟩]; omega
  have e2 : wrap64 (0 + (n : Int) / 2 / 3 % 3) = (n : Int) / 2 / 3 % 3 := by rw [IntWalk.wrap64_in _ ⟨by omega, by omega⟩]; omega
  have e3 : wrap64 (0 + (n : Int) / 2 / 3 / 3 % 3) = (n : Int) / 2 / 3 / 3 % 3 := by rw [IntWalk.wrap64_in _ ⟨by omega, by omega⟩]; omega
  have e4 : wrap64 (2 + (n : Int) / 2 / 3 / 3 / 3 % 5) = 2 + (n : Int) / 2 / 3 / 3 / 3 % 5 := by rw [IntWalk.wrap64_in _ ⟨by omega, by omega⟩]
  have e5 : wrap64 (0 + (n : Int) / 2 / 3 / 3 / 3 / 5 % 2) = (n : Int) / 2 / 3 / 3 / 3 / 5 % 2 := by rw [IntWalk.wrap64_in _ ⟨by omega, by omega⟩]; omega
  rw [e0, e1, e2, e3, e4, e5] at H
  exact H


end Go.Proofs.Ytomjldaonpjloaa
