import Derived.Deep.Cut
import Derived.Deep.CutRange
import Derived.Test.YtdignnmpfkgkoaaGreatRealBinsS16
namespace Go.Proofs.YtdignnmpfkgkoaaGreat
section
open Go.ChangeShapes Go.WideShapes Go.ChangeAt Go.RowKit
set_option linter.unusedVariables false
set_option maxRecDepth 100000
set_option linter.unusedSimpArgs false
set_option maxHeartbeats 16000000
theorem fTerms_of (b s mo P : Int) (inv : Bool) (f g T : Nat → Gi) (hP : IntKind.i64.wrap (2 ^ min b.toNat 64) = P) (hb0 : 0 ≤ b)
 (HT : Hid (∀ k, k < 4 → ∀ W, Calls Tryz.prog 128 #[.agg #[.int .i64 (f k).re, .int .i64 (f k).im], .agg #[.int .i64 (if k = 0 then ⟨P, 0⟩ else g k).re, .int .i64 (if k = 0 then ⟨P, 0⟩ else g k).im]] W fun e w' => e = .returned (.tuple #[.agg #[.int .i64 (T k).re, .int .i64 (T k).im], .int .i64 0]) ∧ Gr W w')) (w : World) :
 CW 218 #[.agg #[b, s, mo, inv], .agg #[(f 0).re, (f 0).im, (f 1).re, (f 1).im, (f 2).re, (f 2).im, (f 3).re, (f 3).im], .agg #[(g 0).re, (g 0).im, (g 1).re, (g 1).im, (g 2).re, (g 2).im, (g 3).re, (g 3).im]] w (.agg #[(T 0).re, (T 0).im, (T 1).re, (T 1).im, (T 2).re, (T 2).im, (T 3).re, (T 3).im]) :=by
 delta CW
 go_in
 go_wp2_with fail
 obtain ⟨u0, hU⟩ : ∃ u, u = ((((w.alloc (.cells #[b, s, mo, inv] 212)).alloc (.cells #[(f 0).re, (f 0).im, (f 1).re, (f 1).im, (f 2).re, (f 2).im, (f 3).re, (f 3).im] 225)).alloc (.cells #[P, .int .i64 0, (g 1).re, (g 1).im, (g 2).re, (g 2).im, (g 3).re, (g 3).im] 225)).alloc (.cells #[.int .i64 0, .int .i64 0, .int .i64 0, .int .i64 0, .int .i64 0, .int .i64 0, .int .i64 0, .int .i64 0] 225)) := ⟨_, rfl⟩
 have ⟨gu, R0, R1, R2, R3⟩ := lay4 hU
 rw [← hU]
 clear hU
 have A1 : RowAt u0 (w.heap.size + 1) 225 4 (upto T f 0) := (RowAt.of4 (f := f) R1).eq (fun j _ => (upto_none T f j).symm)
 have A2 : RowAt u0 (w.heap.size + 1 + 1) 225 4 (fun k => if k = 0 then ⟨P, 0⟩ else g k) := RowAt.of4 (f := fun k => if k = 0 then ⟨P, 0⟩ else g k) R2
 clear R0 R1 R2 hP
 go_loopw [7, 13] (fun _ i wr => ∃ k : Nat, k ≤ 4 ∧ i = .int .i64 k ∧ RowAt wr (w.heap.size + 1) 225 4 (upto T f k) ∧ RowAt wr (w.heap.size + 1 + 1) 225 4 (fun k => if k = 0 then ⟨P, 0⟩ else g k) ∧ CellsAt wr (w.heap.size + 1 + 1 + 1) 225 #[.int .i64 0, .int .i64 0, .int .i64 0, .int .i64 0, .int .i64 0, .int .i64 0, .int .i64 0, .int .i64 0] ∧ Gr w wr) (fun _ i _ => 4 - (intOf i).toNat)
 case atStart => exact ⟨0, by omega, rfl, A1, A2, R3, gu⟩
 case round =>
  clear A1 A2 R3 gu;obtain ⟨k, hk, rfl, A1, A2, R3, gu⟩ := hrel
  by_cases hlt : k < 4
  ·have hlt' : (k : Int) < 4 := by omega
   have HT1 := kh (HT.out k hlt);have c2 := A2.cells k hlt;generalize hG : (if k = 0 then (⟨P, 0⟩ : Gi) else g k) = G at *;have l1 := A1.lt;have l2 := A2.lt;have c1 := A1.cells k hlt;rw [upto_at] at c1;go_wp2_with fail
   have KS : ∀ W, GB (w.heap.size + 1) wr W → (W.cell? ⟨w.heap.size + 1 + 1, k * 2, none⟩ = some (.int .i64 G.re) ∧ W.cell? ⟨w.heap.size + 1 + 1, k * 2 + 1, none⟩ = some (.int .i64 G.im) ∧ w.heap.size + 1 + 1 < W.heap.size) := fun W hG =>
    ⟨(hG.cell l2 (by simp)).trans c2.1, (hG.cell l2 (by simp)).trans c2.2, Nat.lt_of_lt_of_le l2 hG.size⟩
   clear c2;refine wp_region_held_drew (S := fun W => W.cell? ⟨w.heap.size + 1 + 1, k * 2, none⟩ = some (.int .i64 G.re) ∧ W.cell? ⟨w.heap.size + 1 + 1, k * 2 + 1, none⟩ = some (.int .i64 G.im) ∧ w.heap.size + 1 + 1 < W.heap.size) rfl (KS _ (GB.drew (GB.refl _ _))) (fun hS => ?_);refine hT 0 ?_;refine hT 1 ?_;refine hT 2 ?_;refine hT 4 ?_;refine hT 5 ?_;refine hT 6 ?_;refine hR 3 fun K hK => ?_
   go_simp
   refine hK.out _ _ ?_ (fun hHeld => ?_)
   ·(exact hS)
   clear hK K
   try simp only [Act.put, putS]
   refine hR 7 fun K hK => ?_
   go_simp
   go_at_call 128
   refine (HT1.out _).mono ?_;rintro e w3 ⟨rfl, g3⟩;have k3 := (GB.drew (GB.refl (w.heap.size + 1) wr)).gr g3;refine hK.out _ _ ?_ (fun hHeld => ?_)
   ·(exact KS _ k3)
   clear hK K
   try simp only [Act.put, putS]
   refine hT 8 ?_;refine hT 9 ?_;refine hT 10 ?_;refine hT 11 ?_;have A3 := (A1.drew).gr g3;have l3 := A3.lt;have d3 := A3.cells k hlt;have m0 := A3.marks (k * 2);have m1 := A3.marks (k * 2 + 1);refine hR 12 fun K hK => ?_
   go_simp
   have k4 := (k3.set (k * 2) (.int .i64 (T k).re)).set (k * 2 + 1) (.int .i64 (T k).im);refine hK.out _ _ ?_ (fun hHeld => ?_)
   ·(exact KS _ k4)
   clear hK K
   try simp only [Act.put, putS]
   refine wpAnyH_done (by kernel_rfl) ?_ _;have A4 := (A3.set k hlt (T k)).eq (fun j _ => upto_next T f k j);have A5 := A2.gb k4 (by omega);have R5 := k4.cellsAt R3 (by omega)
   have gz : Gr w _ := k4.new gu (by omega)
   generalize ((w3.setCell ⟨w.heap.size + 1, k * 2, none⟩ (.int .i64 (T k).re)).setCell ⟨w.heap.size + 1, k * 2 + 1, none⟩ (.int .i64 (T k).im)) = wz at *;clear A3 k3 KS g3 hS m0 m1 l1 l2 l3 d3 c1 hG HT1 R3 A1 A2 gu HT k4;go_wp2_with fail
   go_roundw
   case rel => exact ⟨k + 1, by omega, by go_num, A4, A5, R5, gz⟩
   case measure => simp [intOf]; omega
  ·obtain rfl : k = 4 := by omega
   have C1 := (A1.eq (g := T) (fun j hj => upto_all T f 4 j hj)).cells4;clear A1 A2 HT
   go_wp2_with (first | (refine wpList_load_row rfl 225 _ rfl (w.heap.size + 1) rfl 225 _ (0, 0) _ C1 Tryz.underlying225 rfl (by kernel_rfl) ?_) | (refine wpList_store_row rfl 225 _ _ rfl (w.heap.size + 1 + 1 + 1) _ rfl rfl 225 _ R3 (by kernel_rfl) (by kernel_rfl) (by kernel_rfl) ?_))
   have R4 := R3.setRow (c4 T);refine bodyPost_ret (v := .agg #[(T 0).re, (T 0).im, (T 1).re, (T 1).im, (T 2).re, (T 2).im, (T 3).re, (T 3).im]) ?_ rfl ⟨rfl, gu.setRow (by omega) _⟩
   exact results_cell_row rfl _ _ _ _ _ (0, 0) _ rfl R4 Tryz.underlying225 rfl (by kernel_rfl)
theorem fTurned_true (b s mo q : Int) (t U S : Nat → Gi) (tq : Nat → Int) (q0 : 0 ≤ q) (q3 : q ≤ 3) (t0 : tq 0 = 0) (t1 : tq 1 = q) (t2 : tq 2 = (2 * (-q))) (t3 : tq 3 = (-q)) (s0 : S 0 = ⟨0, 0⟩)
 (HS : Hid (∀ k, k < 4 → wrap64 ((S k).re + (U k).re) = (S (k + 1)).re ∧ wrap64 ((S k).im + (U k).im) = (S (k + 1)).im))
 (HT : Hid (∀ k, k < 4 → ∀ W, Calls Tryz.prog 125 #[.agg #[.int .i64 (t k).re, .int .i64 (t k).im], .int .i64 (tq k)] W fun e w' => e = .returned (.tuple #[.agg #[.int .i64 (U k).re, .int .i64 (U k).im], .int .i64 0]) ∧ Gr W w')) (w : World) :
 CW 219 #[.agg #[b, s, mo, true], .agg #[(t 0).re, (t 0).im, (t 1).re, (t 1).im, (t 2).re, (t 2).im, (t 3).re, (t 3).im], q] w (.agg #[(S 4).re, (S 4).im]) :=by
 delta CW
 have hI0 : ∀ k : Nat, k < 4 → ∀ w, (Instr.index 235 (.agg #[.int .i64 0, q, .int .i64 (2 * (-q)), .int .i64 (-q)]) (.int .i64 (k : Int))).run Tryz.prog w = .ok (.int .i64 (tq k)) w := by
  have i0 : ∀ w, (Instr.index 235 (.agg #[.int .i64 0, q, .int .i64 (2 * (-q)), .int .i64 (-q)]) (.int .i64 0)).run Tryz.prog w = .ok (.int .i64 0) w := fun _ => by kernel_rfl
  have i1 : ∀ w, (Instr.index 235 (.agg #[.int .i64 0, q, .int .i64 (2 * (-q)), .int .i64 (-q)]) (.int .i64 1)).run Tryz.prog w = .ok (.int .i64 q) w := fun _ => by kernel_rfl
  have i2 : ∀ w, (Instr.index 235 (.agg #[.int .i64 0, q, .int .i64 (2 * (-q)), .int .i64 (-q)]) (.int .i64 2)).run Tryz.prog w = .ok (.int .i64 (2 * (-q))) w := fun _ => by kernel_rfl
  have i3 : ∀ w, (Instr.index 235 (.agg #[.int .i64 0, q, .int .i64 (2 * (-q)), .int .i64 (-q)]) (.int .i64 3)).run Tryz.prog w = .ok (.int .i64 (-q)) w := fun _ => by kernel_rfl
  intro k hk w
  have hc : k = 0 ∨ k = 1 ∨ k = 2 ∨ k = 3 := by omega
  rcases hc with e | e | e | e
  ·subst e; rw [t0]; exact i0 w
  ·subst e; rw [t1]; exact i1 w
  ·subst e; rw [t2]; exact i2 w
  ·subst e; rw [t3]; exact i3 w
 have HI := kh hI0
 clear hI0
 clear t0 t1 t2 t3
 go_in
 go_wp2_with fail
 obtain ⟨u0, hU⟩ : ∃ u, u = ((((w.alloc (.cells #[b, s, mo, true] 212)).alloc (.cells #[(t 0).re, (t 0).im, (t 1).re, (t 1).im, (t 2).re, (t 2).im, (t 3).re, (t 3).im] 225)).alloc (.cells #[.int .i64 0, .int .i64 0] 50)).alloc (.cells #[.int .i64 0, .int .i64 0] 50)) := ⟨_, rfl⟩
 have ⟨gu, R0, R1, R2, R3⟩ := lay4 hU
 rw [← hU]
 clear hU
 have A1 : RowAt u0 (w.heap.size + 1) 225 4 t := RowAt.of4 (f := t) R1
 have A3 : CellsAt u0 (w.heap.size + 1 + 1 + 1) 50 #[(S 0).re, (S 0).im] := by rw [s0]; exact R3
 clear R0 R1 R3
 go_loopw [8, 9, 22] (fun _ _ i wr => ∃ k : Nat, k ≤ 4 ∧ i = .int .i64 k ∧ RowAt wr (w.heap.size + 1) 225 4 t ∧ CellsAt wr (w.heap.size + 1 + 1) 50 #[.int .i64 0, .int .i64 0] ∧ CellsAt wr (w.heap.size + 1 + 1 + 1) 50 #[.int .i64 (S k).re, .int .i64 (S k).im] ∧ Gr w wr) (fun _ _ i _ => 4 - (intOf i).toNat)
 case atStart => exact ⟨0, by omega, rfl, A1, R2, A3, gu⟩
 case round =>
  clear A1 A3 R2 gu;obtain ⟨k, hk, rfl, A1, R2, A3, gu⟩ := hrel
  by_cases hlt : k < 4
  ·have hlt' : (k : Int) < 4 := by omega
   have HT1 := kh (HT.out k hlt);have hI := HI.out k hlt;obtain ⟨hs1, hs2⟩ := HS.out k hlt;have HS1 := kh (And.intro hs1 hs2);clear hs1 hs2;have c1 := A1.cells k hlt;have l1 := A1.lt;generalize hx : tq k = x at *;clear HI HT HS hx;go_wp2_with fail;refine (HT1.out _).mono ?_;rintro e w2 ⟨rfl, g2⟩;have P1 := A1.gr g2;have P2 := R2.gr g2;have P3 := A3.gr g2;have gz := gu.trans g2;have d0 := P3.cell 0;have d1 := P3.cell 1;obtain ⟨m0, m1⟩ := P3.f2;have l3 := P3.lt;simp only [getS] at d0 d1;obtain ⟨hs1, hs2⟩ := HS1.out;clear A1 R2 A3 gu g2 c1 l1 hI HT1;go_wp2_with fail;have N3 := ((P3.set 0 (.int .i64 (S (k + 1)).re)).set 1 (.int .i64 (S (k + 1)).im)).alloc (.cells #[.int .i64 (U k).re, .int .i64 (U k).im] 50)
   go_roundw
   case rel => exact ⟨k + 1, by omega, by go_num, (P1.other (by omega) _ _ _ _).alloc _, ((P2.ot).ot).alloc _, N3, ((gz.setCell (by first | (simp; done) | (simp; omega)) _).setCell (by first | (simp; done) | (simp; omega)) _).alloc _ _⟩
   case measure => simp [intOf]; omega
  ·obtain rfl : k = 4 := by omega
   obtain ⟨c0, c1⟩ := A3.t2;have l3 := A3.lt;have l2 := R2.lt;obtain ⟨m0, m1⟩ := R2.f2;obtain ⟨d0, d1⟩ := R2.t2;clear HI HT HS s0 A1 R2 A3;go_wp2_with fail;refine bodyPost_ret (v := .agg #[(S 4).re, (S 4).im]) ?_ rfl ⟨rfl, (gu.setCell (by first | (simp; done) | (simp; omega)) _).setCell (by first | (simp; done) | (simp; omega)) _⟩
   simp [results, Tryz.results219, go_sem, d0, d1]
theorem fTurned_false (b s mo q : Int) (t U S : Nat → Gi) (tq : Nat → Int) (q0 : 0 ≤ q) (q3 : q ≤ 3) (t0 : tq 0 = 0) (t1 : tq 1 = (-q)) (t2 : tq 2 = (2 * q)) (t3 : tq 3 = q) (s0 : S 0 = ⟨0, 0⟩)
 (HS : Hid (∀ k, k < 4 → wrap64 ((S k).re + (U k).re) = (S (k + 1)).re ∧ wrap64 ((S k).im + (U k).im) = (S (k + 1)).im))
 (HT : Hid (∀ k, k < 4 → ∀ W, Calls Tryz.prog 125 #[.agg #[.int .i64 (t k).re, .int .i64 (t k).im], .int .i64 (tq k)] W fun e w' => e = .returned (.tuple #[.agg #[.int .i64 (U k).re, .int .i64 (U k).im], .int .i64 0]) ∧ Gr W w')) (w : World) :
 CW 219 #[.agg #[b, s, mo, false], .agg #[(t 0).re, (t 0).im, (t 1).re, (t 1).im, (t 2).re, (t 2).im, (t 3).re, (t 3).im], q] w (.agg #[(S 4).re, (S 4).im]) :=by
 delta CW
 have hI0 : ∀ k : Nat, k < 4 → ∀ w, (Instr.index 235 (.agg #[.int .i64 0, .int .i64 (-q), .int .i64 (2 * q), q]) (.int .i64 (k : Int))).run Tryz.prog w = .ok (.int .i64 (tq k)) w := by
  have i0 : ∀ w, (Instr.index 235 (.agg #[.int .i64 0, .int .i64 (-q), .int .i64 (2 * q), q]) (.int .i64 0)).run Tryz.prog w = .ok (.int .i64 0) w := fun _ => by kernel_rfl
  have i1 : ∀ w, (Instr.index 235 (.agg #[.int .i64 0, .int .i64 (-q), .int .i64 (2 * q), q]) (.int .i64 1)).run Tryz.prog w = .ok (.int .i64 (-q)) w := fun _ => by kernel_rfl
  have i2 : ∀ w, (Instr.index 235 (.agg #[.int .i64 0, .int .i64 (-q), .int .i64 (2 * q), q]) (.int .i64 2)).run Tryz.prog w = .ok (.int .i64 (2 * q)) w := fun _ => by kernel_rfl
  have i3 : ∀ w, (Instr.index 235 (.agg #[.int .i64 0, .int .i64 (-q), .int .i64 (2 * q), q]) (.int .i64 3)).run Tryz.prog w = .ok (.int .i64 q) w := fun _ => by kernel_rfl
  intro k hk w
  have hc : k = 0 ∨ k = 1 ∨ k = 2 ∨ k = 3 := by omega
  rcases hc with e | e | e | e
  ·subst e; rw [t0]; exact i0 w
  ·subst e; rw [t1]; exact i1 w
  ·subst e; rw [t2]; exact i2 w
  ·subst e; rw [t3]; exact i3 w
 have HI := kh hI0
 clear hI0
 clear t0 t1 t2 t3
 go_in
 go_wp2_with fail
 obtain ⟨u0, hU⟩ : ∃ u, u = ((((w.alloc (.cells #[b, s, mo, false] 212)).alloc (.cells #[(t 0).re, (t 0).im, (t 1).re, (t 1).im, (t 2).re, (t 2).im, (t 3).re, (t 3).im] 225)).alloc (.cells #[.int .i64 0, .int .i64 0] 50)).alloc (.cells #[.int .i64 0, .int .i64 0] 50)) := ⟨_, rfl⟩
 have ⟨gu, R0, R1, R2, R3⟩ := lay4 hU
 rw [← hU]
 clear hU
 have A1 : RowAt u0 (w.heap.size + 1) 225 4 t := RowAt.of4 (f := t) R1
 have A3 : CellsAt u0 (w.heap.size + 1 + 1 + 1) 50 #[(S 0).re, (S 0).im] := by rw [s0]; exact R3
 clear R0 R1 R3
 go_loopw [8, 9, 22] (fun _ _ i wr => ∃ k : Nat, k ≤ 4 ∧ i = .int .i64 k ∧ RowAt wr (w.heap.size + 1) 225 4 t ∧ CellsAt wr (w.heap.size + 1 + 1) 50 #[.int .i64 0, .int .i64 0] ∧ CellsAt wr (w.heap.size + 1 + 1 + 1) 50 #[.int .i64 (S k).re, .int .i64 (S k).im] ∧ Gr w wr) (fun _ _ i _ => 4 - (intOf i).toNat)
 case atStart => exact ⟨0, by omega, rfl, A1, R2, A3, gu⟩
 case round =>
  clear A1 A3 R2 gu;obtain ⟨k, hk, rfl, A1, R2, A3, gu⟩ := hrel
  by_cases hlt : k < 4
  ·have hlt' : (k : Int) < 4 := by omega
   have HT1 := kh (HT.out k hlt);have hI := HI.out k hlt;obtain ⟨hs1, hs2⟩ := HS.out k hlt;have HS1 := kh (And.intro hs1 hs2);clear hs1 hs2;have c1 := A1.cells k hlt;have l1 := A1.lt;generalize hx : tq k = x at *;clear HI HT HS hx;go_wp2_with fail;refine (HT1.out _).mono ?_;rintro e w2 ⟨rfl, g2⟩;have P1 := A1.gr g2;have P2 := R2.gr g2;have P3 := A3.gr g2;have gz := gu.trans g2;have d0 := P3.cell 0;have d1 := P3.cell 1;obtain ⟨m0, m1⟩ := P3.f2;have l3 := P3.lt;simp only [getS] at d0 d1;obtain ⟨hs1, hs2⟩ := HS1.out;clear A1 R2 A3 gu g2 c1 l1 hI HT1;go_wp2_with fail;have N3 := ((P3.set 0 (.int .i64 (S (k + 1)).re)).set 1 (.int .i64 (S (k + 1)).im)).alloc (.cells #[.int .i64 (U k).re, .int .i64 (U k).im] 50)
   go_roundw
   case rel => exact ⟨k + 1, by omega, by go_num, (P1.other (by omega) _ _ _ _).alloc _, ((P2.ot).ot).alloc _, N3, ((gz.setCell (by first | (simp; done) | (simp; omega)) _).setCell (by first | (simp; done) | (simp; omega)) _).alloc _ _⟩
   case measure => simp [intOf]; omega
  ·obtain rfl : k = 4 := by omega
   obtain ⟨c0, c1⟩ := A3.t2;have l3 := A3.lt;have l2 := R2.lt;obtain ⟨m0, m1⟩ := R2.f2;obtain ⟨d0, d1⟩ := R2.t2;clear HI HT HS s0 A1 R2 A3;go_wp2_with fail;refine bodyPost_ret (v := .agg #[(S 4).re, (S 4).im]) ?_ rfl ⟨rfl, (gu.setCell (by first | (simp; done) | (simp; omega)) _).setCell (by first | (simp; done) | (simp; omega)) _⟩
   simp [results, Tryz.results219, go_sem, d0, d1]
theorem fAsked_false (b s mo : Int) (bw ow n c step : Nat) (ws : List Gi) (R : Nat → Gi) (hn : ws.length = n) (hst : 3 * step < n) (hn64 : n ≤ 64)
 (HC : Hid (∀ k, k < 4 → ws.getD (k * step) ⟨0, 0⟩ = R k))
 (w : World) (hv : CxsAt w (.slice (some ⟨bw, ow, none⟩) n c) ws) :
 CW 209 #[.agg #[b, s, mo, false], .slice (some ⟨bw, ow, none⟩) n c, (step : Int)] w (.agg #[(R 0).re, (R 0).im, (R 1).re, (R 1).im, (R 2).re, (R 2).im, (R 3).re, (R 3).im]) :=by
 delta CW
 obtain ⟨bx, ox, cx, hvv, _, hbx, hcx⟩ := hv.at (by intro e; rw [e] at hn; simp at hn; omega)
 cases hvv
 have HCX := kh fun j (hj : j < ws.length) => hcx j (ws.getD j ⟨0, 0⟩) (by rw [List.getD_eq_getElem?_getD, List.getElem?_eq_getElem (by omega)]; rfl)
 clear hcx hv
 go_in
 go_wp2_with fail
 obtain ⟨u0, hU⟩ : ∃ u, u = (((w.alloc (.cells #[b, s, mo, false] 212)).alloc (.cells #[.int .i64 0, .int .i64 0, .int .i64 0, .int .i64 0, .int .i64 0, .int .i64 0, .int .i64 0, .int .i64 0] 225)).alloc (.cells #[.int .i64 0, .int .i64 0, .int .i64 0, .int .i64 0, .int .i64 0, .int .i64 0, .int .i64 0, .int .i64 0] 225)) := ⟨_, rfl⟩
 have ⟨gu, R0, R1, R2⟩ := lay3 hU
 rw [← hU]
 clear hU
 have A2 : RowAt u0 (w.heap.size + 1 + 1) 225 4 (upto R (fun _ => ⟨0, 0⟩) 0) := (RowAt.of4 (f := fun _ => ⟨0, 0⟩) R2).eq (fun j _ => (upto_none R (fun _ => ⟨0, 0⟩) j).symm)
 clear R2
 go_loopw [8, 9] (fun _ i wr => ∃ k : Nat, k ≤ 4 ∧ i = .int .i64 k ∧ CellsAt wr (w.heap.size) 212 #[b, s, mo, false] ∧ CellsAt wr (w.heap.size + 1) 225 #[.int .i64 0, .int .i64 0, .int .i64 0, .int .i64 0, .int .i64 0, .int .i64 0, .int .i64 0, .int .i64 0] ∧ RowAt wr (w.heap.size + 1 + 1) 225 4 (upto R (fun _ => ⟨0, 0⟩) k) ∧ Gr w wr) (fun _ i _ => 4 - (intOf i).toNat)
 case atStart => exact ⟨0, by omega, rfl, R0, R1, A2, gu⟩
 case round =>
  clear R0 R1 A2 gu;obtain ⟨k, hk, rfl, R0, R1, P, gu⟩ := hrel
  by_cases hlt : k < 4
  ·have hlt' : (k : Int) < 4 := by omega
   have HC1 := kh (HC.out k hlt)
   have hks : k * step ≤ 3 * step := Nat.mul_le_mul_right _ (by omega)
   have hwm := wmul k step (by omega);have hbw := Nat.lt_of_lt_of_le hbx gu.size;obtain ⟨c1, c2⟩ := HCX.out (k * step) (by omega);have c1 := (gu.cell (p := ⟨bw, _, none⟩) hbx).trans c1;have c2 := (gu.cell (p := ⟨bw, _, none⟩) hbx).trans c2
   have hp : ((k * step : Nat) : Int) < ws.length := by omega
   generalize hG : ws.getD (k * step) ⟨0, 0⟩ = G at *;generalize k * step = p at *;have l0 := R0.lt;have l2 := P.lt;have d := P.cells k hlt;have m0 := P.marks (k * 2);have m1 := P.marks (k * 2 + 1);have e3 := R0.cell 3;simp only [getS] at e3;clear HC HCX hks hG;go_wp2_with fail;have N := (P.set k hlt G).eq (g := upto R (fun _ => ⟨0, 0⟩) (k + 1)) (fun j _ => by rw [HC1.out]; exact upto_next R _ k j)
   go_roundw
   case rel => exact ⟨k + 1, by omega, by go_num, (R0.ot).ot, (R1.ot).ot, N, (gu.setCell (by first | (simp; done) | (simp; omega)) _).setCell (by first | (simp; done) | (simp; omega)) _⟩
   case measure => simp [intOf]; omega
  ·obtain rfl : k = 4 := by omega
   have C1 := (P.eq (g := R) (fun j hj => upto_all R _ 4 j hj)).cells4;clear P HC HCX R0
   go_wp2_with (first | (refine wpList_load_row rfl 225 _ rfl (w.heap.size + 1 + 1) rfl 225 _ (0, 0) _ C1 Tryz.underlying225 rfl (by kernel_rfl) ?_) | (refine wpList_store_row rfl 225 _ _ rfl (w.heap.size + 1) _ rfl rfl 225 _ R1 (by kernel_rfl) (by kernel_rfl) (by kernel_rfl) ?_))
   have R4 := R1.setRow (c4 R);refine bodyPost_ret (v := .agg #[(R 0).re, (R 0).im, (R 1).re, (R 1).im, (R 2).re, (R 2).im, (R 3).re, (R 3).im]) ?_ rfl ⟨rfl, gu.setRow (by omega) _⟩
   exact results_cell_row rfl _ _ _ _ _ (0, 0) _ rfl R4 Tryz.underlying225 rfl (by kernel_rfl)
theorem fAsked_true (b s mo : Int) (bw ow n c step : Nat) (ws : List Gi) (R : Nat → Gi) (hn : ws.length = n) (hst : 3 * step < n) (hn64 : n ≤ 64)
 (HC : Hid (∀ k, k < 4 → ∀ W, Calls Tryz.prog 116 #[.agg #[.int .i64 (ws.getD (k * step) ⟨0, 0⟩).re, .int .i64 (ws.getD (k * step) ⟨0, 0⟩).im]] W fun e w' => e = .returned (.tuple #[.agg #[.int .i64 (R k).re, .int .i64 (R k).im], .int .i64 0]) ∧ Gr W w'))
 (w : World) (hv : CxsAt w (.slice (some ⟨bw, ow, none⟩) n c) ws) :
 CW 209 #[.agg #[b, s, mo, true], .slice (some ⟨bw, ow, none⟩) n c, (step : Int)] w (.agg #[(R 0).re, (R 0).im, (R 1).re, (R 1).im, (R 2).re, (R 2).im, (R 3).re, (R 3).im]) :=by
 delta CW
 obtain ⟨bx, ox, cx, hvv, _, hbx, hcx⟩ := hv.at (by intro e; rw [e] at hn; simp at hn; omega)
 cases hvv
 have HCX := kh fun j (hj : j < ws.length) => hcx j (ws.getD j ⟨0, 0⟩) (by rw [List.getD_eq_getElem?_getD, List.getElem?_eq_getElem (by omega)]; rfl)
 clear hcx hv
 go_in
 go_wp2_with fail
 obtain ⟨u0, hU⟩ : ∃ u, u = (((w.alloc (.cells #[b, s, mo, true] 212)).alloc (.cells #[.int .i64 0, .int .i64 0, .int .i64 0, .int .i64 0, .int .i64 0, .int .i64 0, .int .i64 0, .int .i64 0] 225)).alloc (.cells #[.int .i64 0, .int .i64 0, .int .i64 0, .int .i64 0, .int .i64 0, .int .i64 0, .int .i64 0, .int .i64 0] 225)) := ⟨_, rfl⟩
 have ⟨gu, R0, R1, R2⟩ := lay3 hU
 rw [← hU]
 clear hU
 have A2 : RowAt u0 (w.heap.size + 1 + 1) 225 4 (upto R (fun _ => ⟨0, 0⟩) 0) := (RowAt.of4 (f := fun _ => ⟨0, 0⟩) R2).eq (fun j _ => (upto_none R (fun _ => ⟨0, 0⟩) j).symm)
 clear R2
 go_loopw [8, 9] (fun _ i wr => ∃ k : Nat, k ≤ 4 ∧ i = .int .i64 k ∧ CellsAt wr (w.heap.size) 212 #[b, s, mo, true] ∧ CellsAt wr (w.heap.size + 1) 225 #[.int .i64 0, .int .i64 0, .int .i64 0, .int .i64 0, .int .i64 0, .int .i64 0, .int .i64 0, .int .i64 0] ∧ RowAt wr (w.heap.size + 1 + 1) 225 4 (upto R (fun _ => ⟨0, 0⟩) k) ∧ Gr w wr) (fun _ i _ => 4 - (intOf i).toNat)
 case atStart => exact ⟨0, by omega, rfl, R0, R1, A2, gu⟩
 case round =>
  clear R0 R1 A2 gu;obtain ⟨k, hk, rfl, R0, R1, P, gu⟩ := hrel
  by_cases hlt : k < 4
  ·have hlt' : (k : Int) < 4 := by omega
   have HC1 := kh (HC.out k hlt)
   have hks : k * step ≤ 3 * step := Nat.mul_le_mul_right _ (by omega)
   have hwm := wmul k step (by omega);have hbw := Nat.lt_of_lt_of_le hbx gu.size;obtain ⟨c1, c2⟩ := HCX.out (k * step) (by omega);have c1 := (gu.cell (p := ⟨bw, _, none⟩) hbx).trans c1;have c2 := (gu.cell (p := ⟨bw, _, none⟩) hbx).trans c2
   have hp : ((k * step : Nat) : Int) < ws.length := by omega
   generalize hG : ws.getD (k * step) ⟨0, 0⟩ = G at *;generalize k * step = p at *;have l0 := R0.lt;have l2 := P.lt;have d := P.cells k hlt;have m0 := P.marks (k * 2);have m1 := P.marks (k * 2 + 1);have e3 := R0.cell 3;simp only [getS] at e3;clear HC HCX hks hG;go_wp2_with fail;have P1 := P.set k hlt G;have Q1 := (R1.other (B' := w.heap.size + 1 + 1) (by omega) (k * 2) (.int .i64 G.re)).other (B' := w.heap.size + 1 + 1) (by omega) (k * 2 + 1) (.int .i64 G.im);have Q0 := (R0.other (B' := w.heap.size + 1 + 1) (by omega) (k * 2) (.int .i64 G.re)).other (B' := w.heap.size + 1 + 1) (by omega) (k * 2 + 1) (.int .i64 G.im);have g1 := ((gu.setCell (a := ⟨w.heap.size + 1 + 1, k * 2, none⟩) (by simp; omega) (.int .i64 G.re)).setCell (a := ⟨w.heap.size + 1 + 1, k * 2 + 1, none⟩) (by simp; omega) (.int .i64 G.im));clear d m0 m1 l2 l0 e3 c1 c2 gu R0 R1 P hbw;generalize ((wr.setCell ⟨w.heap.size + 1 + 1, k * 2, none⟩ (.int .i64 G.re)).setCell ⟨w.heap.size + 1 + 1, k * 2 + 1, none⟩ (.int .i64 G.im)) = wy at *;refine (HC1.out _).mono ?_;rintro e w3 ⟨rfl, g3⟩;have P2 := P1.gr g3;have Y1 := Q1.gr g3;have Y0 := Q0.gr g3;have g4 := g1.trans g3;have l2 := P2.lt;have d := P2.cells k hlt;have m0 := P2.marks (k * 2);have m1 := P2.marks (k * 2 + 1);clear P1 Q1 Q0 g1 g3 HC1;go_wp2_with fail;have N := (P2.set k hlt (R k)).eq (g := upto R (fun _ => ⟨0, 0⟩) (k + 1)) (fun j _ => by
    rw [← upto_next]
    by_cases e : j = k
    ·rw [if_pos e, if_pos e]
    ·rw [if_neg e, if_neg e, if_neg e])
   go_roundw
   case rel => exact ⟨k + 1, by omega, by go_num, (Y0.ot).ot, (Y1.ot).ot, N, (g4.setCell (by first | (simp; done) | (simp; omega)) _).setCell (by first | (simp; done) | (simp; omega)) _⟩
   case measure => simp [intOf]; omega
  ·obtain rfl : k = 4 := by omega
   have C1 := (P.eq (g := R) (fun j hj => upto_all R _ 4 j hj)).cells4;clear P HC HCX R0
   go_wp2_with (first | (refine wpList_load_row rfl 225 _ rfl (w.heap.size + 1 + 1) rfl 225 _ (0, 0) _ C1 Tryz.underlying225 rfl (by kernel_rfl) ?_) | (refine wpList_store_row rfl 225 _ _ rfl (w.heap.size + 1) _ rfl rfl 225 _ R1 (by kernel_rfl) (by kernel_rfl) (by kernel_rfl) ?_))
   have R4 := R1.setRow (c4 R);refine bodyPost_ret (v := .agg #[(R 0).re, (R 0).im, (R 1).re, (R 1).im, (R 2).re, (R 2).im, (R 3).re, (R 3).im]) ?_ rfl ⟨rfl, gu.setRow (by omega) _⟩
   exact results_cell_row rfl _ _ _ _ _ (0, 0) _ rfl R4 Tryz.underlying225 rfl (by kernel_rfl)
theorem fQuad_of (b s mo n : Int) (inv : Bool) (f g T Q V : Nat → Gi)
 (HM : CR 218 #[.agg #[b, s, mo, inv], .agg #[(f 0).re, (f 0).im, (f 1).re, (f 1).im, (f 2).re, (f 2).im, (f 3).re, (f 3).im], .agg #[(g 0).re, (g 0).im, (g 1).re, (g 1).im, (g 2).re, (g 2).im, (g 3).re, (g 3).im]] (.agg #[(T 0).re, (T 0).im, (T 1).re, (T 1).im, (T 2).re, (T 2).im, (T 3).re, (T 3).im]))
 (HS : Hid (∀ k : Nat, k < 4 → ∀ W, Calls Tryz.prog 219 #[.agg #[b, s, mo, inv], .agg #[(T 0).re, (T 0).im, (T 1).re, (T 1).im, (T 2).re, (T 2).im, (T 3).re, (T 3).im], .int .i64 (k : Int)] W fun e w' => e = .returned (.agg #[.int .i64 (Q k).re, .int .i64 (Q k).im]) ∧ Gr W w'))
 (HD : CR 217 #[.agg #[b, s, mo, inv]] (.int .i64 n))
 (HF : Hid (∀ k, k < 4 → ∀ W, Calls Tryz.prog 129 #[.agg #[.int .i64 (Q k).re, .int .i64 (Q k).im], n, mo] W fun e w' => e = .returned (.tuple #[.agg #[.int .i64 (V k).re, .int .i64 (V k).im], .int .i64 0]) ∧ Gr W w')) (w : World) :
 CW 208 #[.agg #[b, s, mo, inv], .agg #[(f 0).re, (f 0).im, (f 1).re, (f 1).im, (f 2).re, (f 2).im, (f 3).re, (f 3).im], .agg #[(g 0).re, (g 0).im, (g 1).re, (g 1).im, (g 2).re, (g 2).im, (g 3).re, (g 3).im]] w (.agg #[(V 0).re, (V 0).im, (V 1).re, (V 1).im, (V 2).re, (V 2).im, (V 3).re, (V 3).im]) :=by
 delta CW
 go_in
 go_wp2_with fail
 refine lc4 fun u0 gu R0 R1 R2 R3 => ?_
 refine (HM.out _).mono ?_
 rintro e w2 ⟨rfl, g2⟩
 have P0 := (R0.gr g2).alloc (.cells #[(T 0).re, (T 0).im, (T 1).re, (T 1).im, (T 2).re, (T 2).im, (T 3).re, (T 3).im] 225)
 have P1 := (R1.gr g2).alloc (.cells #[(T 0).re, (T 0).im, (T 1).re, (T 1).im, (T 2).re, (T 2).im, (T 3).re, (T 3).im] 225)
 have P3 := (R3.gr g2).alloc (.cells #[(T 0).re, (T 0).im, (T 1).re, (T 1).im, (T 2).re, (T 2).im, (T 3).re, (T 3).im] 225)
 have PT := CellsAt.new w2 225 #[(T 0).re, (T 0).im, (T 1).re, (T 1).im, (T 2).re, (T 2).im, (T 3).re, (T 3).im]
 have gv := (gu.trans g2).alloc #[(T 0).re, (T 0).im, (T 1).re, (T 1).im, (T 2).re, (T 2).im, (T 3).re, (T 3).im] 225
 have hBT := (R3.gr g2).lt
 generalize hB : w2.heap.size = BT at *
 clear R0 R1 R2 R3 g2 gu HM
 go_wp2_with fail
 have A1 : RowAt (w2.alloc (.cells #[(T 0).re, (T 0).im, (T 1).re, (T 1).im, (T 2).re, (T 2).im, (T 3).re, (T 3).im] 225)) (w.heap.size + 1) 225 4 (upto V f 0) := (RowAt.of4 (f := f) P1).eq (fun j _ => (upto_none V f j).symm)
 clear P1
 go_loopw [8, 13] (fun _ i wr => ∃ k : Nat, k ≤ 4 ∧ i = .int .i64 k ∧ CellsAt wr (w.heap.size) 212 #[b, s, mo, inv] ∧ RowAt wr (w.heap.size + 1) 225 4 (upto V f k) ∧ CellsAt wr (w.heap.size + 1 + 1 + 1) 225 #[.int .i64 0, .int .i64 0, .int .i64 0, .int .i64 0, .int .i64 0, .int .i64 0, .int .i64 0, .int .i64 0] ∧ CellsAt wr BT 225 #[(T 0).re, (T 0).im, (T 1).re, (T 1).im, (T 2).re, (T 2).im, (T 3).re, (T 3).im] ∧ Gr w wr) (fun _ i _ => 4 - (intOf i).toNat)
 case atStart => exact ⟨0, by omega, rfl, P0, A1, P3, PT, gv⟩
 case round =>
  clear P0 A1 P3 PT gv;obtain ⟨k, hk, rfl, R0, A1, R3, RT, gu⟩ := hrel
  by_cases hlt : k < 4
  ·have hlt' : (k : Int) < 4 := by omega
   have HS1 := kh (HS.out k hlt);have HF1 := kh (HF.out k hlt);have l1 := A1.lt;go_wp2_with fail
   have KS : ∀ W, GB (w.heap.size + 1) wr W → (W.cell? ⟨w.heap.size, 0, none⟩ = some (.int .i64 b) ∧ W.cell? ⟨w.heap.size, 1, none⟩ = some (.int .i64 s) ∧ W.cell? ⟨w.heap.size, 2, none⟩ = some (.int .i64 mo) ∧ W.cell? ⟨w.heap.size, 3, none⟩ = some (.bool inv) ∧ W.cell? ⟨BT, 0, none⟩ = some (.int .i64 (T 0).re) ∧ W.cell? ⟨BT, 1, none⟩ = some (.int .i64 (T 0).im) ∧ W.cell? ⟨BT, 2, none⟩ = some (.int .i64 (T 1).re) ∧ W.cell? ⟨BT, 3, none⟩ = some (.int .i64 (T 1).im) ∧ W.cell? ⟨BT, 4, none⟩ = some (.int .i64 (T 2).re) ∧ W.cell? ⟨BT, 5, none⟩ = some (.int .i64 (T 2).im) ∧ W.cell? ⟨BT, 6, none⟩ = some (.int .i64 (T 3).re) ∧ W.cell? ⟨BT, 7, none⟩ = some (.int .i64 (T 3).im) ∧ w.heap.size < W.heap.size ∧ BT < W.heap.size) := fun W hG =>
    ⟨(hG.cellsAt R0 (by omega)).cell 0, (hG.cellsAt R0 (by omega)).cell 1, (hG.cellsAt R0 (by omega)).cell 2, (hG.cellsAt R0 (by omega)).cell 3, (hG.cellsAt RT (by omega)).cell 0, (hG.cellsAt RT (by omega)).cell 1, (hG.cellsAt RT (by omega)).cell 2, (hG.cellsAt RT (by omega)).cell 3, (hG.cellsAt RT (by omega)).cell 4, (hG.cellsAt RT (by omega)).cell 5, (hG.cellsAt RT (by omega)).cell 6, (hG.cellsAt RT (by omega)).cell 7, Nat.lt_of_lt_of_le R0.lt hG.size, Nat.lt_of_lt_of_le RT.lt hG.size⟩
   refine wp_region_held_drew (S := fun W => W.cell? ⟨w.heap.size, 0, none⟩ = some (.int .i64 b) ∧ W.cell? ⟨w.heap.size, 1, none⟩ = some (.int .i64 s) ∧ W.cell? ⟨w.heap.size, 2, none⟩ = some (.int .i64 mo) ∧ W.cell? ⟨w.heap.size, 3, none⟩ = some (.bool inv) ∧ W.cell? ⟨BT, 0, none⟩ = some (.int .i64 (T 0).re) ∧ W.cell? ⟨BT, 1, none⟩ = some (.int .i64 (T 0).im) ∧ W.cell? ⟨BT, 2, none⟩ = some (.int .i64 (T 1).re) ∧ W.cell? ⟨BT, 3, none⟩ = some (.int .i64 (T 1).im) ∧ W.cell? ⟨BT, 4, none⟩ = some (.int .i64 (T 2).re) ∧ W.cell? ⟨BT, 5, none⟩ = some (.int .i64 (T 2).im) ∧ W.cell? ⟨BT, 6, none⟩ = some (.int .i64 (T 3).re) ∧ W.cell? ⟨BT, 7, none⟩ = some (.int .i64 (T 3).im) ∧ w.heap.size < W.heap.size ∧ BT < W.heap.size) rfl (KS _ (GB.drew (GB.refl _ _))) (fun hS => ?_);refine hT 0 ?_;refine hT 1 ?_;refine hT 2 ?_;refine hT 3 ?_;refine hT 5 ?_;refine hT 7 ?_;refine hT 8 ?_;refine hR 4 fun K hK => ?_
   go_simp
   go_at_call 219
   refine (HS1.out _).mono ?_;rintro e w3 ⟨rfl, g3⟩;have k3 := (GB.drew (GB.refl (w.heap.size + 1) wr)).gr g3;have x3 := A1.drew.gr g3;refine hK.out _ _ ?_ (fun hHeld => ?_)
   ·(exact KS _ k3)
   clear hK K
   try simp only [Act.put, putS]
   refine hR 6 fun K hK => ?_
   go_simp
   go_at_call 217
   refine (HD.out _).mono ?_;rintro e w4 ⟨rfl, g4⟩;have k4 := k3.gr g4;have x4 := x3.gr g4;refine hK.out _ _ ?_ (fun hHeld => ?_)
   ·(exact KS _ k4)
   clear hK K
   try simp only [Act.put, putS]
   refine hR 9 fun K hK => ?_
   go_simp
   go_at_call 129
   refine (HF1.out _).mono ?_;rintro e w5 ⟨rfl, g5⟩;have k5 := k4.gr g5;have A3 := x4.gr g5;refine hK.out _ _ ?_ (fun hHeld => ?_)
   ·(exact KS _ k5)
   clear hK K
   try simp only [Act.put, putS]
   refine hT 10 ?_;refine hT 11 ?_;refine hT 12 ?_;refine hT 13 ?_;have l3 := A3.lt;have d3 := A3.cells k hlt;have m0 := A3.marks (k * 2);have m1 := A3.marks (k * 2 + 1);refine hR 14 fun K hK => ?_
   go_simp
   have k6 := (k5.set (k * 2) (.int .i64 (V k).re)).set (k * 2 + 1) (.int .i64 (V k).im);refine hK.out _ _ ?_ (fun hHeld => ?_)
   ·(exact KS _ k6)
   clear hK K
   try simp only [Act.put, putS]
   refine wpAnyH_done (by kernel_rfl) ?_ _;have A4 := (A3.set k hlt (V k)).eq (fun j _ => upto_next V f k j);have R4 := k6.cellsAt R0 (by omega);have R5 := k6.cellsAt R3 (by omega);have R6 := k6.cellsAt RT (by omega)
   have gz : Gr w _ := k6.new gu (by omega)
   generalize ((w5.setCell ⟨w.heap.size + 1, k * 2, none⟩ (.int .i64 (V k).re)).setCell ⟨w.heap.size + 1, k * 2 + 1, none⟩ (.int .i64 (V k).im)) = wz at *;clear A3 x3 x4 k3 k4 k5 k6 KS g3 g4 g5 hS m0 m1 l1 l3 d3 HS1 HF1 R0 R3 RT A1 gu HS HF;go_wp2_with fail
   go_roundw
   case rel => exact ⟨k + 1, by omega, by go_num, R4, A4, R5, R6, gz⟩
   case measure => simp [intOf]; omega
  ·obtain rfl : k = 4 := by omega
   have C1 := (A1.eq (g := V) (fun j hj => upto_all V f 4 j hj)).cells4;clear A1 HS HF HD R0 RT
   go_wp2_with (first | (refine wpList_load_row rfl 225 _ rfl (w.heap.size + 1) rfl 225 _ (0, 0) _ C1 Tryz.underlying225 rfl (by kernel_rfl) ?_) | (refine wpList_store_row rfl 225 _ _ rfl (w.heap.size + 1 + 1 + 1) _ rfl rfl 225 _ R3 (by kernel_rfl) (by kernel_rfl) (by kernel_rfl) ?_))
   have R4 := R3.setRow (c4 V);refine bodyPost_ret (v := .agg #[(V 0).re, (V 0).im, (V 1).re, (V 1).im, (V 2).re, (V 2).im, (V 3).re, (V 3).im]) ?_ rfl ⟨rfl, gu.setRow (by omega) _⟩
   exact results_cell_row rfl _ _ _ _ _ (0, 0) _ rfl R4 Tryz.underlying225 rfl (by kernel_rfl)
end
end Go.Proofs.YtdignnmpfkgkoaaGreat
