/- Package dft: numbers measured; roots in two halves; sums of 80 bits. -/
import Derived.Test.YtpkkokcidbcopaaScanCode1
import Derived.Test.YtpkkokcidbcopaaRootCode
import Derived.Test.YtpkkokcidbcopaaFlip
import Derived.Test.YtpkkokcidbcopaaGiCalls
import Derived.Test.YtpkkokcidbcopaaGrow
import Derived.Test.YtpkkokcidbcopaaWide
namespace Go.Proofs.Ytpkkokcidbcopaa
open Go.ChangeShapes Go.WideShapes Go.ChangeAt Go.RowKit
set_option linter.unusedVariables false
set_option linter.unusedSimpArgs false
set_option maxRecDepth 100000

theorem CellsAt.at4 {W : World} {B : Nat} {t : TypeId} {a0 a1 a2 a3 : Value} (h : CellsAt W B t #[a0, a1, a2, a3]) : W.cell? ⟨B, 0, none⟩ = some a0 ∧ W.cell? ⟨B, 1, none⟩ = some a1 ∧ W.cell? ⟨B, 2, none⟩ = some a2 ∧ W.cell? ⟨B, 3, none⟩ = some a3 := ⟨h.cell 0, h.cell 1, h.cell 2, h.cell 3⟩

theorem dMeasured_yes (n L : Nat) (h : IsLog (n : Int) L) (px : Option Addr) (cx : Nat) (xs : List Gi) (hxn : xs.length = n) (m y : Int) (hy : (allIn 2147483648 xs = true ∧ m = maxG xs ∧ y = 0) ∨ (allIn 2147483648 xs = false ∧ m = 0 ∧ y = 2)) (w : World) (hvx : CxsAt w (.slice px n cx) xs) :
    Calls Try.prog 9 #[.slice px n cx] w fun e w' => e = .returned (.tuple #[.int .i64 (if y = 0 then (L : Int) else 0), .int .i64 m, .int .i64 y]) ∧ Gr w w' := by
  have HL := Lib.hid (log08_yes (n : Int) L h)
  have hle : xs.length ≤ 1048576 := by have := isLog_cases h; omega
  rcases hy with ⟨hb, rfl, rfl⟩ | ⟨hb, rfl, rfl⟩
  · have HM := Lib.hid fun W hW => scanMax_yes (.slice px n cx) xs hb hle W hW
    generalize maxG xs = m at *
    clear h hb hle
    rw [if_pos rfl]
    go_enter Try.func9, Try.ntmps9
    go_wp2_with (go_at_call 13; refine (HL.out _).mono ?_; rintro e wz ⟨rfl, rfl⟩)
    refine (HM.out _ hvx).mono ?_
    rintro e w1 ⟨rfl, g1⟩
    go_wp2_with fail
    refine bodyPost_ret (v := .tuple #[.int .i64 (L : Int), .int .i64 m, .int .i64 0]) ?_ rfl ⟨rfl, g1⟩
    simp [results, Try.results9, go_sem, *]
  · have HM := Lib.hid fun W hW => scanMax_no (.slice px n cx) xs hb hle W hW
    clear h hb hle
    rw [if_neg (by decide)]
    go_enter Try.func9, Try.ntmps9
    go_wp2_with (go_at_call 13; refine (HL.out _).mono ?_; rintro e wz ⟨rfl, rfl⟩)
    refine (HM.out _ hvx).mono ?_
    rintro e w1 ⟨rfl, g1⟩
    go_wp2_with fail
    refine bodyPost_ret (v := .tuple #[.int .i64 0, .int .i64 0, .int .i64 2]) ?_ rfl ⟨rfl, g1⟩
    simp [results, Try.results9, go_sem, *]
theorem dMeasured_no (n : Nat) (h : ¬ ∃ L, IsLog (n : Int) L) (px : Option Addr) (cx : Nat) (w : World) :
    Calls Try.prog 9 #[.slice px n cx] w fun e w' => e = .returned (.tuple #[.int .i64 0, .int .i64 0, .int .i64 3]) ∧ Gr w w' := by
  have hh : ∀ q L : Nat, 2 ≤ L → L ≤ 6 → 2 ^ L = q → (n : Int) ≠ (q : Int) := fun q L a b e hq => h ⟨L, a, b, by rw [hq, e]⟩
  have HL := Lib.hid (log08_no (n : Int) (hh 4 2 (by decide) (by decide) rfl) (hh 8 3 (by decide) (by decide) rfl) (hh 16 4 (by decide) (by decide) rfl) (hh 32 5 (by decide) (by decide) rfl) (hh 64 6 (by decide) (by decide) rfl))
  clear h hh
  go_enter Try.func9, Try.ntmps9
  go_wp2_with (go_at_call 13; refine (HL.out _).mono ?_; rintro e wz ⟨rfl, rfl⟩)
  refine bodyPost_ret (v := .tuple #[.int .i64 0, .int .i64 0, .int .i64 3]) ?_ rfl ⟨rfl, Gr.refl _⟩
  simp [results, Try.results9, go_sem, *]

set_option maxHeartbeats 1000000 in
theorem dHalves_of (x y p q : Int) (u : Gi) (HS : Hid (∀ W, Calls Try.prog 27 #[.agg #[.int .i64 x, .int .i64 y], .int .i64 20, .int .i64 0] W fun e w' => e = .returned (.tuple #[.agg #[.int .i64 (u).re, .int .i64 (u).im], .int .i64 0]) ∧ Gr W w')) (e1 : bits .and .i64 x 1048575 = p) (e2 : bits .and .i64 y 1048575 = q) (w : World) :
    Calls Try.prog 19 #[.agg #[.int .i64 x, .int .i64 y]] w fun e w' => e = .returned (.agg #[.int .i64 u.re, .int .i64 u.im, .int .i64 p, .int .i64 q]) ∧ Gr w w' := by
  go_enter Try.func19, Try.ntmps19
  go_wp2_with fail
  obtain ⟨u0, hU⟩ : ∃ uu, uu = ((w.alloc (.cells #[.int .i64 x, .int .i64 y] 24)).alloc (.cells #[.int .i64 0, .int .i64 0, .int .i64 0, .int .i64 0] 44)) := ⟨_, rfl⟩
  have gu : Gr w u0 := by rw [hU]; exact ((Gr.refl w).alloc _ _).alloc _ _
  have R0 : CellsAt u0 (w.heap.size) 24 #[.int .i64 x, .int .i64 y] := by
    rw [hU]
    have := ((CellsAt.new w 24 #[.int .i64 x, .int .i64 y]).alloc (.cells #[.int .i64 0, .int .i64 0, .int .i64 0, .int .i64 0] 44))
    simpa only [World.size_alloc] using this
  have R1 : CellsAt u0 (w.heap.size + 1) 44 #[.int .i64 0, .int .i64 0, .int .i64 0, .int .i64 0] := by
    rw [hU]
    have := (CellsAt.new (w.alloc (.cells #[.int .i64 x, .int .i64 y] 24)) 44 #[.int .i64 0, .int .i64 0, .int .i64 0, .int .i64 0])
    simpa only [World.size_alloc] using this
  rw [← hU]
  clear hU
  have la := R0.lt
  have lr := R1.lt
  have ca0 := CellsAt.cell (R0) 0
  have ca1 := CellsAt.cell (R0) 1
  simp only [List.getElem?_toArray, List.getElem?_cons_zero, List.getElem?_cons_succ] at ca0 ca1
  go_wp2_with fail
  clear ca0 ca1
  refine (HS.out _).mono ?_
  rintro e w1 ⟨rfl, g1⟩
  have Fa_1 := CellsAt.gr (R0) g1
  have la_1 := CellsAt.lt (Fa_1)
  have Fr_1 := CellsAt.gr (R1) g1
  have lr_1 := CellsAt.lt (Fr_1)
  have z1 := (gu).trans g1
  clear R0 R1 gu g1
  have ca0 := CellsAt.cell (Fa_1) 0
  have ca1 := CellsAt.cell (Fa_1) 1
  simp only [List.getElem?_toArray, List.getElem?_cons_zero, List.getElem?_cons_succ] at ca0 ca1
  have mr0 := CellsAt.frozen (Fr_1) 0
  have cr0 := CellsAt.cell (Fr_1) 0
  simp only [List.getElem?_toArray, List.getElem?_cons_zero, List.getElem?_cons_succ] at cr0
  have mr1 := CellsAt.frozen (Fr_1) 1
  have cr1 := CellsAt.cell (Fr_1) 1
  simp only [List.getElem?_toArray, List.getElem?_cons_zero, List.getElem?_cons_succ] at cr1
  have mr2 := CellsAt.frozen (Fr_1) 2
  have cr2 := CellsAt.cell (Fr_1) 2
  simp only [List.getElem?_toArray, List.getElem?_cons_zero, List.getElem?_cons_succ] at cr2
  have mr3 := CellsAt.frozen (Fr_1) 3
  have cr3 := CellsAt.cell (Fr_1) 3
  simp only [List.getElem?_toArray, List.getElem?_cons_zero, List.getElem?_cons_succ] at cr3
  go_wp2_with fail
  clear ca0 ca1 mr0 cr0 mr1 cr1 mr2 cr2 mr3 cr3
  obtain ⟨uf, hqp1⟩ : ∃ zz, zz = (((((w1.setCell ⟨w.heap.size + 1, 0, none⟩ (.int .i64 u.re)).setCell ⟨w.heap.size + 1, 1, none⟩ (.int .i64 u.im)).setCell ⟨w.heap.size + 1, 2, none⟩ (.int .i64 p)).setCell ⟨w.heap.size + 1, 3, none⟩ (.int .i64 q)).alloc (.cells #[.int .i64 (u).re, .int .i64 (u).im] 24)) := ⟨_, rfl⟩
  have Ya_p1 : CellsAt uf (w.heap.size) 24 #[.int .i64 x, .int .i64 y] := by rw [hqp1]; first | exact (((((Fa_1).other (by omega) _ _).other (by omega) _ _).other (by omega) _ _).other (by omega) _ _).alloc _ | simpa using (((((Fa_1).other (by omega) _ _).other (by omega) _ _).other (by omega) _ _).other (by omega) _ _).alloc _
  have Yr_p1 : CellsAt uf (w.heap.size + 1) 44 #[.int .i64 u.re, .int .i64 u.im, .int .i64 p, .int .i64 q] := by rw [hqp1]; first | exact (CellsAt.set (CellsAt.set (CellsAt.set (CellsAt.set (Fr_1) 0 (.int .i64 u.re)) 1 (.int .i64 u.im)) 2 (.int .i64 p)) 3 (.int .i64 q)).alloc _ | simpa using (CellsAt.set (CellsAt.set (CellsAt.set (CellsAt.set (Fr_1) 0 (.int .i64 u.re)) 1 (.int .i64 u.im)) 2 (.int .i64 p)) 3 (.int .i64 q)).alloc _
  have Yu_p1 : CellsAt uf (w1.heap.size) 24 #[.int .i64 (u).re, .int .i64 (u).im] := by rw [hqp1]; first | exact CellsAt.newAt ((((w1.setCell ⟨w.heap.size + 1, 0, none⟩ (.int .i64 u.re)).setCell ⟨w.heap.size + 1, 1, none⟩ (.int .i64 u.im)).setCell ⟨w.heap.size + 1, 2, none⟩ (.int .i64 p)).setCell ⟨w.heap.size + 1, 3, none⟩ (.int .i64 q)) 24 #[.int .i64 (u).re, .int .i64 (u).im] (B := w1.heap.size) (by simp) | simpa using CellsAt.newAt ((((w1.setCell ⟨w.heap.size + 1, 0, none⟩ (.int .i64 u.re)).setCell ⟨w.heap.size + 1, 1, none⟩ (.int .i64 u.im)).setCell ⟨w.heap.size + 1, 2, none⟩ (.int .i64 p)).setCell ⟨w.heap.size + 1, 3, none⟩ (.int .i64 q)) 24 #[.int .i64 (u).re, .int .i64 (u).im] (B := w1.heap.size) (by simp)
  have yp1 : Gr w uf := by rw [hqp1]; exact (((((z1).setCell (by first | omega | (simp only; omega)) _).setCell (by first | omega | (simp only; omega)) _).setCell (by first | omega | (simp only; omega)) _).setCell (by first | omega | (simp only; omega)) _).alloc _ _
  rw [← hqp1]
  clear hqp1
  have cr0 := CellsAt.cell (Yr_p1) 0
  have cr1 := CellsAt.cell (Yr_p1) 1
  have cr2 := CellsAt.cell (Yr_p1) 2
  have cr3 := CellsAt.cell (Yr_p1) 3
  simp only [List.getElem?_toArray, List.getElem?_cons_zero, List.getElem?_cons_succ] at cr0 cr1 cr2 cr3
  refine bodyPost_ret (v := .agg #[.int .i64 u.re, .int .i64 u.im, .int .i64 p, .int .i64 q]) ?_ rfl ⟨rfl, yp1⟩
  simp [results, Try.results19, go_sem, *]

set_option maxHeartbeats 1000000 in
theorem dTold_of (a b c s z : Gi) (H1 : Hid (∀ W, Calls Try.prog 27 #[.agg #[.int .i64 (b).re, .int .i64 (b).im], .int .i64 20, .int .i64 0] W fun e w' => e = .returned (.tuple #[.agg #[.int .i64 (c).re, .int .i64 (c).im], .int .i64 0]) ∧ Gr W w')) (H2 : Hid (∀ W, Calls Try.prog 26 #[.agg #[.int .i64 (a).re, .int .i64 (a).im], .agg #[.int .i64 (c).re, .int .i64 (c).im]] W fun e w' => e = .returned (.tuple #[.agg #[.int .i64 (s).re, .int .i64 (s).im], .int .i64 0]) ∧ Gr W w')) (H3 : Hid (∀ W, Calls Try.prog 27 #[.agg #[.int .i64 (s).re, .int .i64 (s).im], .int .i64 12, .int .i64 0] W fun e w' => e = .returned (.tuple #[.agg #[.int .i64 (z).re, .int .i64 (z).im], .int .i64 0]) ∧ Gr W w')) (w : World) :
    Calls Try.prog 16 #[.agg #[.int .i64 (a).re, .int .i64 (a).im, .int .i64 (b).re, .int .i64 (b).im]] w fun e w' => e = .returned (.agg #[.int .i64 (z).re, .int .i64 (z).im]) ∧ Gr w w' := by
  go_enter Try.func16, Try.ntmps16
  go_wp2_with fail
  obtain ⟨u0, hU⟩ : ∃ uu, uu = ((w.alloc (.cells #[.int .i64 (a).re, .int .i64 (a).im, .int .i64 (b).re, .int .i64 (b).im] 44)).alloc (.cells #[.int .i64 0, .int .i64 0] 24)) := ⟨_, rfl⟩
  have gu : Gr w u0 := by rw [hU]; exact ((Gr.refl w).alloc _ _).alloc _ _
  have R0 : CellsAt u0 (w.heap.size) 44 #[.int .i64 (a).re, .int .i64 (a).im, .int .i64 (b).re, .int .i64 (b).im] := by
    rw [hU]
    have := ((CellsAt.new w 44 #[.int .i64 (a).re, .int .i64 (a).im, .int .i64 (b).re, .int .i64 (b).im]).alloc (.cells #[.int .i64 0, .int .i64 0] 24))
    simpa only [World.size_alloc] using this
  have R1 : CellsAt u0 (w.heap.size + 1) 24 #[.int .i64 0, .int .i64 0] := by
    rw [hU]
    have := (CellsAt.new (w.alloc (.cells #[.int .i64 (a).re, .int .i64 (a).im, .int .i64 (b).re, .int .i64 (b).im] 44)) 24 #[.int .i64 0, .int .i64 0])
    simpa only [World.size_alloc] using this
  rw [← hU]
  clear hU
  have lu := R0.lt
  have lr := R1.lt
  have cu0 := CellsAt.cell (R0) 0
  have cu1 := CellsAt.cell (R0) 1
  have cu2 := CellsAt.cell (R0) 2
  have cu3 := CellsAt.cell (R0) 3
  simp only [List.getElem?_toArray, List.getElem?_cons_zero, List.getElem?_cons_succ] at cu0 cu1 cu2 cu3
  go_wp2_with fail
  clear cu0 cu1 cu2 cu3
  refine (H1.out _).mono ?_
  rintro e w1 ⟨rfl, g1⟩
  have Fu_1 := CellsAt.gr (R0) g1
  have lu_1 := CellsAt.lt (Fu_1)
  have Fr_1 := CellsAt.gr (R1) g1
  have lr_1 := CellsAt.lt (Fr_1)
  have z1 := (gu).trans g1
  clear R0 R1 gu g1
  have cu0 := CellsAt.cell (Fu_1) 0
  have cu1 := CellsAt.cell (Fu_1) 1
  have cu2 := CellsAt.cell (Fu_1) 2
  have cu3 := CellsAt.cell (Fu_1) 3
  simp only [List.getElem?_toArray, List.getElem?_cons_zero, List.getElem?_cons_succ] at cu0 cu1 cu2 cu3
  go_wp2_with fail
  clear cu0 cu1 cu2 cu3
  refine (H2.out _).mono ?_
  rintro e w2 ⟨rfl, g2⟩
  have Fu_2 := CellsAt.gr ((Fu_1).alloc _) g2
  have lu_2 := CellsAt.lt (Fu_2)
  have Fr_2 := CellsAt.gr ((Fr_1).alloc _) g2
  have lr_2 := CellsAt.lt (Fr_2)
  have Fc_2 := CellsAt.gr (CellsAt.new w1 24 #[.int .i64 (c).re, .int .i64 (c).im]) g2
  have lc_2 := CellsAt.lt (Fc_2)
  have z2 := ((z1).alloc _ _).trans g2
  clear g2
  go_wp2_with fail
  refine (H3.out _).mono ?_
  rintro e w3 ⟨rfl, g3⟩
  have Fu_3 := CellsAt.gr ((Fu_2).alloc _) g3
  have lu_3 := CellsAt.lt (Fu_3)
  have Fr_3 := CellsAt.gr ((Fr_2).alloc _) g3
  have lr_3 := CellsAt.lt (Fr_3)
  have Fc_3 := CellsAt.gr ((Fc_2).alloc _) g3
  have lc_3 := CellsAt.lt (Fc_3)
  have Fs_3 := CellsAt.gr (CellsAt.new w2 24 #[.int .i64 (s).re, .int .i64 (s).im]) g3
  have ls_3 := CellsAt.lt (Fs_3)
  have z3 := ((z2).alloc _ _).trans g3
  clear g3
  have mr0 := CellsAt.frozen (Fr_3) 0
  have cr0 := CellsAt.cell (Fr_3) 0
  simp only [List.getElem?_toArray, List.getElem?_cons_zero, List.getElem?_cons_succ] at cr0
  have mr1 := CellsAt.frozen (Fr_3) 1
  have cr1 := CellsAt.cell (Fr_3) 1
  simp only [List.getElem?_toArray, List.getElem?_cons_zero, List.getElem?_cons_succ] at cr1
  go_wp2_with fail
  clear mr0 cr0 mr1 cr1
  obtain ⟨uf, hqp1⟩ : ∃ zz, zz = (((w3.setCell ⟨w.heap.size + 1, 0, none⟩ (.int .i64 (z).re)).setCell ⟨w.heap.size + 1, 1, none⟩ (.int .i64 (z).im)).alloc (.cells #[.int .i64 (z).re, .int .i64 (z).im] 24)) := ⟨_, rfl⟩
  have Yu_p1 : CellsAt uf (w.heap.size) 44 #[.int .i64 (a).re, .int .i64 (a).im, .int .i64 (b).re, .int .i64 (b).im] := by rw [hqp1]; first | exact (((Fu_3).other (by omega) _ _).other (by omega) _ _).alloc _ | simpa using (((Fu_3).other (by omega) _ _).other (by omega) _ _).alloc _
  have Yr_p1 : CellsAt uf (w.heap.size + 1) 24 #[.int .i64 (z).re, .int .i64 (z).im] := by rw [hqp1]; first | exact (CellsAt.set2 (Fr_3) _ _).alloc _ | simpa using (CellsAt.set2 (Fr_3) _ _).alloc _
  have Yc_p1 : CellsAt uf (w1.heap.size) 24 #[.int .i64 (c).re, .int .i64 (c).im] := by rw [hqp1]; first | exact (((Fc_3).other (by omega) _ _).other (by omega) _ _).alloc _ | simpa using (((Fc_3).other (by omega) _ _).other (by omega) _ _).alloc _
  have Ys_p1 : CellsAt uf (w2.heap.size) 24 #[.int .i64 (s).re, .int .i64 (s).im] := by rw [hqp1]; first | exact (((Fs_3).other (by omega) _ _).other (by omega) _ _).alloc _ | simpa using (((Fs_3).other (by omega) _ _).other (by omega) _ _).alloc _
  have Yz_p1 : CellsAt uf (w3.heap.size) 24 #[.int .i64 (z).re, .int .i64 (z).im] := by rw [hqp1]; first | exact CellsAt.newAt ((w3.setCell ⟨w.heap.size + 1, 0, none⟩ (.int .i64 (z).re)).setCell ⟨w.heap.size + 1, 1, none⟩ (.int .i64 (z).im)) 24 #[.int .i64 (z).re, .int .i64 (z).im] (B := w3.heap.size) (by simp) | simpa using CellsAt.newAt ((w3.setCell ⟨w.heap.size + 1, 0, none⟩ (.int .i64 (z).re)).setCell ⟨w.heap.size + 1, 1, none⟩ (.int .i64 (z).im)) 24 #[.int .i64 (z).re, .int .i64 (z).im] (B := w3.heap.size) (by simp)
  have yp1 : Gr w uf := by rw [hqp1]; exact (((z3).setCell (by first | omega | (simp only; omega)) _).setCell (by first | omega | (simp only; omega)) _).alloc _ _
  rw [← hqp1]
  clear hqp1
  have cr0 := CellsAt.cell (Yr_p1) 0
  have cr1 := CellsAt.cell (Yr_p1) 1
  simp only [List.getElem?_toArray, List.getElem?_cons_zero, List.getElem?_cons_succ] at cr0 cr1
  refine bodyPost_ret (v := .agg #[.int .i64 (z).re, .int .i64 (z).im]) ?_ rfl ⟨rfl, yp1⟩
  simp [results, Try.results16, go_sem, *]

set_option maxHeartbeats 4000000 in
theorem dPlus_of (sm0 sm1 a hf0 hf1 pr0 pr1 nw0 nw1 : Gi) (HT0 : Hid (∀ W, Calls Try.prog 25 #[.agg #[.int .i64 (a).re, .int .i64 (a).im], .agg #[.int .i64 (hf0).re, .int .i64 (hf0).im]] W fun e w' => e = .returned (.tuple #[.agg #[.int .i64 (pr0).re, .int .i64 (pr0).im], .int .i64 0]) ∧ Gr W w')) (HS0 : Hid (∀ W, Calls Try.prog 26 #[.agg #[.int .i64 (sm0).re, .int .i64 (sm0).im], .agg #[.int .i64 (pr0).re, .int .i64 (pr0).im]] W fun e w' => e = .returned (.tuple #[.agg #[.int .i64 (nw0).re, .int .i64 (nw0).im], .int .i64 0]) ∧ Gr W w')) (HT1 : Hid (∀ W, Calls Try.prog 25 #[.agg #[.int .i64 (a).re, .int .i64 (a).im], .agg #[.int .i64 (hf1).re, .int .i64 (hf1).im]] W fun e w' => e = .returned (.tuple #[.agg #[.int .i64 (pr1).re, .int .i64 (pr1).im], .int .i64 0]) ∧ Gr W w')) (HS1 : Hid (∀ W, Calls Try.prog 26 #[.agg #[.int .i64 (sm1).re, .int .i64 (sm1).im], .agg #[.int .i64 (pr1).re, .int .i64 (pr1).im]] W fun e w' => e = .returned (.tuple #[.agg #[.int .i64 (nw1).re, .int .i64 (nw1).im], .int .i64 0]) ∧ Gr W w')) (w : World) :
    Calls Try.prog 15 #[.agg #[.int .i64 (sm0).re, .int .i64 (sm0).im, .int .i64 (sm1).re, .int .i64 (sm1).im], .agg #[.int .i64 (a).re, .int .i64 (a).im], .agg #[.int .i64 (hf0).re, .int .i64 (hf0).im, .int .i64 (hf1).re, .int .i64 (hf1).im]] w fun e w' => e = .returned (.agg #[.int .i64 (nw0).re, .int .i64 (nw0).im, .int .i64 (nw1).re, .int .i64 (nw1).im]) ∧ Gr w w' := by
  go_enter Try.func15, Try.ntmps15
  go_wp2_with fail
  obtain ⟨u0, hU⟩ : ∃ uu, uu = ((((w.alloc (.cells #[.int .i64 (sm0).re, .int .i64 (sm0).im, .int .i64 (sm1).re, .int .i64 (sm1).im] 44)).alloc (.cells #[.int .i64 (a).re, .int .i64 (a).im] 24)).alloc (.cells #[.int .i64 (hf0).re, .int .i64 (hf0).im, .int .i64 (hf1).re, .int .i64 (hf1).im] 44)).alloc (.cells #[.int .i64 0, .int .i64 0, .int .i64 0, .int .i64 0] 44)) := ⟨_, rfl⟩
  have gu : Gr w u0 := by rw [hU]; exact ((((Gr.refl w).alloc _ _).alloc _ _).alloc _ _).alloc _ _
  have R0 : CellsAt u0 (w.heap.size) 44 #[.int .i64 (sm0).re, .int .i64 (sm0).im, .int .i64 (sm1).re, .int .i64 (sm1).im] := by
    rw [hU]
    have := ((((CellsAt.new w 44 #[.int .i64 (sm0).re, .int .i64 (sm0).im, .int .i64 (sm1).re, .int .i64 (sm1).im]).alloc (.cells #[.int .i64 (a).re, .int .i64 (a).im] 24)).alloc (.cells #[.int .i64 (hf0).re, .int .i64 (hf0).im, .int .i64 (hf1).re, .int .i64 (hf1).im] 44)).alloc (.cells #[.int .i64 0, .int .i64 0, .int .i64 0, .int .i64 0] 44))
    simpa only [World.size_alloc] using this
  have R1 : CellsAt u0 (w.heap.size + 1) 24 #[.int .i64 (a).re, .int .i64 (a).im] := by
    rw [hU]
    have := (((CellsAt.new (w.alloc (.cells #[.int .i64 (sm0).re, .int .i64 (sm0).im, .int .i64 (sm1).re, .int .i64 (sm1).im] 44)) 24 #[.int .i64 (a).re, .int .i64 (a).im]).alloc (.cells #[.int .i64 (hf0).re, .int .i64 (hf0).im, .int .i64 (hf1).re, .int .i64 (hf1).im] 44)).alloc (.cells #[.int .i64 0, .int .i64 0, .int .i64 0, .int .i64 0] 44))
    simpa only [World.size_alloc] using this
  have R2 : CellsAt u0 (w.heap.size + 1 + 1) 44 #[.int .i64 (hf0).re, .int .i64 (hf0).im, .int .i64 (hf1).re, .int .i64 (hf1).im] := by
    rw [hU]
    have := ((CellsAt.new ((w.alloc (.cells #[.int .i64 (sm0).re, .int .i64 (sm0).im, .int .i64 (sm1).re, .int .i64 (sm1).im] 44)).alloc (.cells #[.int .i64 (a).re, .int .i64 (a).im] 24)) 44 #[.int .i64 (hf0).re, .int .i64 (hf0).im, .int .i64 (hf1).re, .int .i64 (hf1).im]).alloc (.cells #[.int .i64 0, .int .i64 0, .int .i64 0, .int .i64 0] 44))
    simpa only [World.size_alloc] using this
  have R3 : CellsAt u0 (w.heap.size + 1 + 1 + 1) 44 #[.int .i64 0, .int .i64 0, .int .i64 0, .int .i64 0] := by
    rw [hU]
    have := (CellsAt.new (((w.alloc (.cells #[.int .i64 (sm0).re, .int .i64 (sm0).im, .int .i64 (sm1).re, .int .i64 (sm1).im] 44)).alloc (.cells #[.int .i64 (a).re, .int .i64 (a).im] 24)).alloc (.cells #[.int .i64 (hf0).re, .int .i64 (hf0).im, .int .i64 (hf1).re, .int .i64 (hf1).im] 44)) 44 #[.int .i64 0, .int .i64 0, .int .i64 0, .int .i64 0])
    simpa only [World.size_alloc] using this
  rw [← hU]
  clear hU
  have ls := R0.lt
  have la := R1.lt
  have lh := R2.lt
  have lr := R3.lt
  have ch0 := CellsAt.cell (R2) 0
  have ch1 := CellsAt.cell (R2) 1
  have ch2 := CellsAt.cell (R2) 2
  have ch3 := CellsAt.cell (R2) 3
  simp only [List.getElem?_toArray, List.getElem?_cons_zero, List.getElem?_cons_succ] at ch0 ch1 ch2 ch3
  go_wp2_with fail
  clear ch0 ch1 ch2 ch3
  have i0 : ∀ W, (Instr.index 44 (.agg #[.int .i64 (hf0).re, .int .i64 (hf0).im, .int .i64 (hf1).re, .int .i64 (hf1).im]) (.int .i64 0)).run Try.prog W = .ok (.agg #[.int .i64 (hf0).re, .int .i64 (hf0).im]) W := fun _ => by kernel_rfl
  have i1 : ∀ W, (Instr.index 44 (.agg #[.int .i64 (hf0).re, .int .i64 (hf0).im, .int .i64 (hf1).re, .int .i64 (hf1).im]) (.int .i64 1)).run Try.prog W = .ok (.agg #[.int .i64 (hf1).re, .int .i64 (hf1).im]) W := fun _ => by kernel_rfl
  refine wp_loop_rounds 3 ?_
  rw [rounds_succ]
  have ca0 := CellsAt.cell (R1) 0
  have ca1 := CellsAt.cell (R1) 1
  simp only [List.getElem?_toArray, List.getElem?_cons_zero, List.getElem?_cons_succ] at ca0 ca1
  go_wp2_with fail
  clear ca0 ca1
  refine (HT0.out _).mono ?_
  rintro e w1 ⟨rfl, g1⟩
  have Fs_1 := CellsAt.gr ((R0).alloc _) g1
  have ls_1 := CellsAt.lt (Fs_1)
  have Fa_1 := CellsAt.gr ((R1).alloc _) g1
  have la_1 := CellsAt.lt (Fa_1)
  have Fh_1 := CellsAt.gr ((R2).alloc _) g1
  have lh_1 := CellsAt.lt (Fh_1)
  have Fr_1 := CellsAt.gr ((R3).alloc _) g1
  have lr_1 := CellsAt.lt (Fr_1)
  have Fx0_1 := CellsAt.gr (CellsAt.new u0 24 #[.int .i64 (hf0).re, .int .i64 (hf0).im]) g1
  have lx0_1 := CellsAt.lt (Fx0_1)
  have z1 := ((gu).alloc _ _).trans g1
  clear g1
  go_wp2_with fail
  obtain ⟨uu0, hqp1⟩ : ∃ zz, zz = (w1.alloc (.cells #[.int .i64 (pr0).re, .int .i64 (pr0).im] 24)) := ⟨_, rfl⟩
  have Ys_p1 : CellsAt uu0 (w.heap.size) 44 #[.int .i64 (sm0).re, .int .i64 (sm0).im, .int .i64 (sm1).re, .int .i64 (sm1).im] := by rw [hqp1]; first | exact (Fs_1).alloc _ | simpa using (Fs_1).alloc _
  have Ya_p1 : CellsAt uu0 (w.heap.size + 1) 24 #[.int .i64 (a).re, .int .i64 (a).im] := by rw [hqp1]; first | exact (Fa_1).alloc _ | simpa using (Fa_1).alloc _
  have Yh_p1 : CellsAt uu0 (w.heap.size + 1 + 1) 44 #[.int .i64 (hf0).re, .int .i64 (hf0).im, .int .i64 (hf1).re, .int .i64 (hf1).im] := by rw [hqp1]; first | exact (Fh_1).alloc _ | simpa using (Fh_1).alloc _
  have Yr_p1 : CellsAt uu0 (w.heap.size + 1 + 1 + 1) 44 #[.int .i64 0, .int .i64 0, .int .i64 0, .int .i64 0] := by rw [hqp1]; first | exact (Fr_1).alloc _ | simpa using (Fr_1).alloc _
  have Yx0_p1 : CellsAt uu0 (u0.heap.size) 24 #[.int .i64 (hf0).re, .int .i64 (hf0).im] := by rw [hqp1]; first | exact (Fx0_1).alloc _ | simpa using (Fx0_1).alloc _
  have Ypp0_p1 : CellsAt uu0 (w1.heap.size) 24 #[.int .i64 (pr0).re, .int .i64 (pr0).im] := by rw [hqp1]; first | exact CellsAt.new w1 24 #[.int .i64 (pr0).re, .int .i64 (pr0).im] | simpa using CellsAt.new w1 24 #[.int .i64 (pr0).re, .int .i64 (pr0).im]
  have yp1 : Gr w uu0 := by rw [hqp1]; exact (z1).alloc _ _
  rw [← hqp1]
  clear hqp1
  have KS : ∀ W, GB (w.heap.size) uu0 W → (W.cell? ⟨w1.heap.size, 0, none⟩ = some (.int .i64 (pr0).re) ∧ W.cell? ⟨w1.heap.size, 1, none⟩ = some (.int .i64 (pr0).im)) := fun W hG => ⟨(GB.cellsAt hG Ypp0_p1 (by omega)).cell 0, (GB.cellsAt hG Ypp0_p1 (by omega)).cell 1⟩
  have hclG := gb_closed (w.heap.size) uu0
  try simp only [List.append_eq, List.cons_append, List.nil_append]
  refine wp_region_grow (S := GB (w.heap.size) uu0) rfl (GB.drew (GB.refl _ _)) ?_
  refine wpG_take (i := 0) (v := ?_) hclG rfl (by kernel_rfl) (by kernel_rfl) (by kernel_rfl) (fun _ _ _ h => h) (by rfl) ?_ ?_
  rotate_left
  · (intro w' hSw; go_simp; try with_reducible rfl)
  try simp only [Act.put, List.setIfInBounds_toArray, List.set_cons_zero, List.set_cons_succ, List.getElem_toArray, List.getElem_cons_zero, List.getElem_cons_succ]
  refine wpG_take (i := 1) (v := ?_) hclG rfl (by kernel_rfl) (by kernel_rfl) (by kernel_rfl) (fun _ _ _ h => h) (by rfl) ?_ ?_
  rotate_left
  · (intro w' hSw; go_simp; try with_reducible rfl)
  try simp only [Act.put, List.setIfInBounds_toArray, List.set_cons_zero, List.set_cons_succ, List.getElem_toArray, List.getElem_cons_zero, List.getElem_cons_succ]
  refine wpG_take (i := 2) (v := ?_) hclG rfl (by kernel_rfl) (by kernel_rfl) (by kernel_rfl) (fun _ _ _ h => h) (by rfl) ?_ ?_
  rotate_left
  · (intro w' hSw; go_simp; try with_reducible rfl)
  try simp only [Act.put, List.setIfInBounds_toArray, List.set_cons_zero, List.set_cons_succ, List.getElem_toArray, List.getElem_cons_zero, List.getElem_cons_succ]
  refine wpG_take (i := 4) (v := ?_) hclG rfl (by kernel_rfl) (by kernel_rfl) (by kernel_rfl) (fun _ _ _ h => h) (by rfl) ?_ ?_
  rotate_left
  · (intro w' hSw; have hk := KS w' hSw; go_split_ands; go_simp; try with_reducible rfl)
  try simp only [Act.put, List.setIfInBounds_toArray, List.set_cons_zero, List.set_cons_succ, List.getElem_toArray, List.getElem_cons_zero, List.getElem_cons_succ]
  refine wpG_ready (rs := [3]) (by kernel_rfl) (by simp) (fun w2 g2 s2 => ?_)
  refine AllG.cons rfl (fun K hK => ?_) AllG.nil
  replace g2 := (Gr.drew (Gr.refl uu0)).trans g2
  have Fs_2 := CellsAt.gr (Ys_p1) g2
  have ls_2 := CellsAt.lt (Fs_2)
  have Fa_2 := CellsAt.gr (Ya_p1) g2
  have la_2 := CellsAt.lt (Fa_2)
  have Fh_2 := CellsAt.gr (Yh_p1) g2
  have lh_2 := CellsAt.lt (Fh_2)
  have Fr_2 := CellsAt.gr (Yr_p1) g2
  have lr_2 := CellsAt.lt (Fr_2)
  have Fx0_2 := CellsAt.gr (Yx0_p1) g2
  have lx0_2 := CellsAt.lt (Fx0_2)
  have Fpp0_2 := CellsAt.gr (Ypp0_p1) g2
  have lpp0_2 := CellsAt.lt (Fpp0_2)
  have z2 := (yp1).trans g2
  clear Ys_p1 Ya_p1 Yh_p1 Yr_p1 Yx0_p1 Ypp0_p1 yp1 g2
  have cs0 := CellsAt.cell (Fs_2) 0
  have cs1 := CellsAt.cell (Fs_2) 1
  have cs2 := CellsAt.cell (Fs_2) 2
  have cs3 := CellsAt.cell (Fs_2) 3
  simp only [List.getElem?_toArray, List.getElem?_cons_zero, List.getElem?_cons_succ] at cs0 cs1 cs2 cs3
  go_simp
  clear cs0 cs1 cs2 cs3
  refine hK.out _ _ ?_ ?_
  · exact s2
  clear hK K
  try simp only [Act.put, List.setIfInBounds_toArray, List.set_cons_zero, List.set_cons_succ, List.getElem_toArray, List.getElem_cons_zero, List.getElem_cons_succ]
  refine wpG_call (i := 5) hclG rfl (by kernel_rfl) (by kernel_rfl) (by kernel_rfl) (fun _ _ _ h => h) (fun W _ => HS0.out W) (by rfl) ?_ ?_
  · (intro w' hSw; go_simp; try with_reducible rfl)
  try simp only [Act.put, List.setIfInBounds_toArray, List.set_cons_zero, List.set_cons_succ, List.getElem_toArray, List.getElem_cons_zero, List.getElem_cons_succ]
  refine wpG_take (i := 6) (v := ?_) hclG rfl (by kernel_rfl) (by kernel_rfl) (by kernel_rfl) (fun _ _ _ h => h) (by rfl) ?_ ?_
  rotate_left
  · (intro w' hSw; go_simp; try with_reducible rfl)
  try simp only [Act.put, List.setIfInBounds_toArray, List.set_cons_zero, List.set_cons_succ, List.getElem_toArray, List.getElem_cons_zero, List.getElem_cons_succ]
  refine wpG_take (i := 7) (v := ?_) hclG rfl (by kernel_rfl) (by kernel_rfl) (by kernel_rfl) (fun _ _ _ h => h) (by rfl) ?_ ?_
  rotate_left
  · (intro w' hSw; go_simp; try with_reducible rfl)
  try simp only [Act.put, List.setIfInBounds_toArray, List.set_cons_zero, List.set_cons_succ, List.getElem_toArray, List.getElem_cons_zero, List.getElem_cons_succ]
  refine wpG_take (i := 8) (v := ?_) hclG rfl (by kernel_rfl) (by kernel_rfl) (by kernel_rfl) (fun _ _ _ h => h) (by rfl) ?_ ?_
  rotate_left
  · (intro w' hSw; go_simp; try with_reducible rfl)
  try simp only [Act.put, List.setIfInBounds_toArray, List.set_cons_zero, List.set_cons_succ, List.getElem_toArray, List.getElem_cons_zero, List.getElem_cons_succ]
  refine wpG_take (i := 9) (v := ?_) hclG rfl (by kernel_rfl) (by kernel_rfl) (by kernel_rfl) (fun _ _ _ h => h) (by rfl) ?_ ?_
  rotate_left
  · (intro w' hSw; go_simp; try with_reducible rfl)
  try simp only [Act.put, List.setIfInBounds_toArray, List.set_cons_zero, List.set_cons_succ, List.getElem_toArray, List.getElem_cons_zero, List.getElem_cons_succ]
  refine wpG_ready (rs := [10]) (by kernel_rfl) (by simp) (fun w3 g3 s3 => ?_)
  refine AllG.cons rfl (fun K hK => ?_) AllG.nil
  have Fs_3 := CellsAt.gr (Fs_2) g3
  have ls_3 := CellsAt.lt (Fs_3)
  have Fa_3 := CellsAt.gr (Fa_2) g3
  have la_3 := CellsAt.lt (Fa_3)
  have Fh_3 := CellsAt.gr (Fh_2) g3
  have lh_3 := CellsAt.lt (Fh_3)
  have Fr_3 := CellsAt.gr (Fr_2) g3
  have lr_3 := CellsAt.lt (Fr_3)
  have Fx0_3 := CellsAt.gr (Fx0_2) g3
  have lx0_3 := CellsAt.lt (Fx0_3)
  have Fpp0_3 := CellsAt.gr (Fpp0_2) g3
  have lpp0_3 := CellsAt.lt (Fpp0_3)
  have z3 := (z2).trans g3
  clear Fs_2 Fa_2 Fh_2 Fr_2 Fx0_2 Fpp0_2 z2 g3
  have ms0 := CellsAt.frozen (Fs_3) 0
  have cs0 := CellsAt.cell (Fs_3) 0
  simp only [List.getElem?_toArray, List.getElem?_cons_zero, List.getElem?_cons_succ] at cs0
  have ms1 := CellsAt.frozen (Fs_3) 1
  have cs1 := CellsAt.cell (Fs_3) 1
  simp only [List.getElem?_toArray, List.getElem?_cons_zero, List.getElem?_cons_succ] at cs1
  have ms2 := CellsAt.frozen (Fs_3) 2
  have cs2 := CellsAt.cell (Fs_3) 2
  simp only [List.getElem?_toArray, List.getElem?_cons_zero, List.getElem?_cons_succ] at cs2
  have ms3 := CellsAt.frozen (Fs_3) 3
  have cs3 := CellsAt.cell (Fs_3) 3
  simp only [List.getElem?_toArray, List.getElem?_cons_zero, List.getElem?_cons_succ] at cs3
  go_simp
  clear ms0 cs0 ms1 cs1 ms2 cs2 ms3 cs3
  refine hK.out _ _ ?_ ?_
  · exact (GB.set (GB.set s3 _ _) _ _)
  clear hK K
  try simp only [Act.put, List.setIfInBounds_toArray, List.set_cons_zero, List.set_cons_succ, List.getElem_toArray, List.getElem_cons_zero, List.getElem_cons_succ]
  refine wpG_done (by kernel_rfl) (fun w4 g4 => ?_) _
  have Fs_4 : CellsAt w4 (w.heap.size) 44 #[.int .i64 (nw0).re, .int .i64 (nw0).im, .int .i64 (sm1).re, .int .i64 (sm1).im] := CellsAt.gr (CellsAt.set (CellsAt.set (Fs_3) 0 (.int .i64 (nw0).re)) 1 (.int .i64 (nw0).im)) g4
  have ls_4 := CellsAt.lt (Fs_4)
  have Fa_4 := CellsAt.gr (((Fa_3).other (by omega) _ _).other (by omega) _ _) g4
  have la_4 := CellsAt.lt (Fa_4)
  have Fh_4 := CellsAt.gr (((Fh_3).other (by omega) _ _).other (by omega) _ _) g4
  have lh_4 := CellsAt.lt (Fh_4)
  have Fr_4 := CellsAt.gr (((Fr_3).other (by omega) _ _).other (by omega) _ _) g4
  have lr_4 := CellsAt.lt (Fr_4)
  have Fx0_4 := CellsAt.gr (((Fx0_3).other (by omega) _ _).other (by omega) _ _) g4
  have lx0_4 := CellsAt.lt (Fx0_4)
  have Fpp0_4 := CellsAt.gr (((Fpp0_3).other (by omega) _ _).other (by omega) _ _) g4
  have lpp0_4 := CellsAt.lt (Fpp0_4)
  have z4 := (((z3).setCell (by first | omega | (simp only; omega)) _).setCell (by first | omega | (simp only; omega)) _).trans g4
  clear g4
  clear hclG KS
  go_wp2_with fail
  rw [rounds_succ]
  have ca0 := CellsAt.cell (Fa_4) 0
  have ca1 := CellsAt.cell (Fa_4) 1
  simp only [List.getElem?_toArray, List.getElem?_cons_zero, List.getElem?_cons_succ] at ca0 ca1
  go_wp2_with fail
  clear ca0 ca1
  refine (HT1.out _).mono ?_
  rintro e w5 ⟨rfl, g5⟩
  have Fs_5 := CellsAt.gr ((Fs_4).alloc _) g5
  have ls_5 := CellsAt.lt (Fs_5)
  have Fa_5 := CellsAt.gr ((Fa_4).alloc _) g5
  have la_5 := CellsAt.lt (Fa_5)
  have Fh_5 := CellsAt.gr ((Fh_4).alloc _) g5
  have lh_5 := CellsAt.lt (Fh_5)
  have Fr_5 := CellsAt.gr ((Fr_4).alloc _) g5
  have lr_5 := CellsAt.lt (Fr_5)
  have Fx1_5 := CellsAt.gr (CellsAt.new w4 24 #[.int .i64 (hf1).re, .int .i64 (hf1).im]) g5
  have lx1_5 := CellsAt.lt (Fx1_5)
  have z5 := ((z4).alloc _ _).trans g5
  clear g5
  go_wp2_with fail
  obtain ⟨uu1, hqp2⟩ : ∃ zz, zz = (w5.alloc (.cells #[.int .i64 (pr1).re, .int .i64 (pr1).im] 24)) := ⟨_, rfl⟩
  have Ys_p2 : CellsAt uu1 (w.heap.size) 44 #[.int .i64 (nw0).re, .int .i64 (nw0).im, .int .i64 (sm1).re, .int .i64 (sm1).im] := by rw [hqp2]; first | exact (Fs_5).alloc _ | simpa using (Fs_5).alloc _
  have Ya_p2 : CellsAt uu1 (w.heap.size + 1) 24 #[.int .i64 (a).re, .int .i64 (a).im] := by rw [hqp2]; first | exact (Fa_5).alloc _ | simpa using (Fa_5).alloc _
  have Yh_p2 : CellsAt uu1 (w.heap.size + 1 + 1) 44 #[.int .i64 (hf0).re, .int .i64 (hf0).im, .int .i64 (hf1).re, .int .i64 (hf1).im] := by rw [hqp2]; first | exact (Fh_5).alloc _ | simpa using (Fh_5).alloc _
  have Yr_p2 : CellsAt uu1 (w.heap.size + 1 + 1 + 1) 44 #[.int .i64 0, .int .i64 0, .int .i64 0, .int .i64 0] := by rw [hqp2]; first | exact (Fr_5).alloc _ | simpa using (Fr_5).alloc _
  have Yx1_p2 : CellsAt uu1 (w4.heap.size) 24 #[.int .i64 (hf1).re, .int .i64 (hf1).im] := by rw [hqp2]; first | exact (Fx1_5).alloc _ | simpa using (Fx1_5).alloc _
  have Ypp1_p2 : CellsAt uu1 (w5.heap.size) 24 #[.int .i64 (pr1).re, .int .i64 (pr1).im] := by rw [hqp2]; first | exact CellsAt.new w5 24 #[.int .i64 (pr1).re, .int .i64 (pr1).im] | simpa using CellsAt.new w5 24 #[.int .i64 (pr1).re, .int .i64 (pr1).im]
  have yp2 : Gr w uu1 := by rw [hqp2]; exact (z5).alloc _ _
  rw [← hqp2]
  clear hqp2
  have KS : ∀ W, GB (w.heap.size) uu1 W → (W.cell? ⟨w5.heap.size, 0, none⟩ = some (.int .i64 (pr1).re) ∧ W.cell? ⟨w5.heap.size, 1, none⟩ = some (.int .i64 (pr1).im)) := fun W hG => ⟨(GB.cellsAt hG Ypp1_p2 (by omega)).cell 0, (GB.cellsAt hG Ypp1_p2 (by omega)).cell 1⟩
  have hclG := gb_closed (w.heap.size) uu1
  try simp only [List.append_eq, List.cons_append, List.nil_append]
  refine wp_region_grow (S := GB (w.heap.size) uu1) rfl (GB.drew (GB.refl _ _)) ?_
  refine wpG_take (i := 0) (v := ?_) hclG rfl (by kernel_rfl) (by kernel_rfl) (by kernel_rfl) (fun _ _ _ h => h) (by rfl) ?_ ?_
  rotate_left
  · (intro w' hSw; go_simp; try with_reducible rfl)
  try simp only [Act.put, List.setIfInBounds_toArray, List.set_cons_zero, List.set_cons_succ, List.getElem_toArray, List.getElem_cons_zero, List.getElem_cons_succ]
  refine wpG_take (i := 1) (v := ?_) hclG rfl (by kernel_rfl) (by kernel_rfl) (by kernel_rfl) (fun _ _ _ h => h) (by rfl) ?_ ?_
  rotate_left
  · (intro w' hSw; go_simp; try with_reducible rfl)
  try simp only [Act.put, List.setIfInBounds_toArray, List.set_cons_zero, List.set_cons_succ, List.getElem_toArray, List.getElem_cons_zero, List.getElem_cons_succ]
  refine wpG_take (i := 2) (v := ?_) hclG rfl (by kernel_rfl) (by kernel_rfl) (by kernel_rfl) (fun _ _ _ h => h) (by rfl) ?_ ?_
  rotate_left
  · (intro w' hSw; go_simp; try with_reducible rfl)
  try simp only [Act.put, List.setIfInBounds_toArray, List.set_cons_zero, List.set_cons_succ, List.getElem_toArray, List.getElem_cons_zero, List.getElem_cons_succ]
  refine wpG_take (i := 4) (v := ?_) hclG rfl (by kernel_rfl) (by kernel_rfl) (by kernel_rfl) (fun _ _ _ h => h) (by rfl) ?_ ?_
  rotate_left
  · (intro w' hSw; have hk := KS w' hSw; go_split_ands; go_simp; try with_reducible rfl)
  try simp only [Act.put, List.setIfInBounds_toArray, List.set_cons_zero, List.set_cons_succ, List.getElem_toArray, List.getElem_cons_zero, List.getElem_cons_succ]
  refine wpG_ready (rs := [3]) (by kernel_rfl) (by simp) (fun w6 g6 s6 => ?_)
  refine AllG.cons rfl (fun K hK => ?_) AllG.nil
  replace g6 := (Gr.drew (Gr.refl uu1)).trans g6
  have Fs_6 := CellsAt.gr (Ys_p2) g6
  have ls_6 := CellsAt.lt (Fs_6)
  have Fa_6 := CellsAt.gr (Ya_p2) g6
  have la_6 := CellsAt.lt (Fa_6)
  have Fh_6 := CellsAt.gr (Yh_p2) g6
  have lh_6 := CellsAt.lt (Fh_6)
  have Fr_6 := CellsAt.gr (Yr_p2) g6
  have lr_6 := CellsAt.lt (Fr_6)
  have Fx1_6 := CellsAt.gr (Yx1_p2) g6
  have lx1_6 := CellsAt.lt (Fx1_6)
  have Fpp1_6 := CellsAt.gr (Ypp1_p2) g6
  have lpp1_6 := CellsAt.lt (Fpp1_6)
  have z6 := (yp2).trans g6
  clear Ys_p2 Ya_p2 Yh_p2 Yr_p2 Yx1_p2 Ypp1_p2 yp2 g6
  have cs0 := CellsAt.cell (Fs_6) 0
  have cs1 := CellsAt.cell (Fs_6) 1
  have cs2 := CellsAt.cell (Fs_6) 2
  have cs3 := CellsAt.cell (Fs_6) 3
  simp only [List.getElem?_toArray, List.getElem?_cons_zero, List.getElem?_cons_succ] at cs0 cs1 cs2 cs3
  go_simp
  clear cs0 cs1 cs2 cs3
  refine hK.out _ _ ?_ ?_
  · exact s6
  clear hK K
  try simp only [Act.put, List.setIfInBounds_toArray, List.set_cons_zero, List.set_cons_succ, List.getElem_toArray, List.getElem_cons_zero, List.getElem_cons_succ]
  refine wpG_call (i := 5) hclG rfl (by kernel_rfl) (by kernel_rfl) (by kernel_rfl) (fun _ _ _ h => h) (fun W _ => HS1.out W) (by rfl) ?_ ?_
  · (intro w' hSw; go_simp; try with_reducible rfl)
  try simp only [Act.put, List.setIfInBounds_toArray, List.set_cons_zero, List.set_cons_succ, List.getElem_toArray, List.getElem_cons_zero, List.getElem_cons_succ]
  refine wpG_take (i := 6) (v := ?_) hclG rfl (by kernel_rfl) (by kernel_rfl) (by kernel_rfl) (fun _ _ _ h => h) (by rfl) ?_ ?_
  rotate_left
  · (intro w' hSw; go_simp; try with_reducible rfl)
  try simp only [Act.put, List.setIfInBounds_toArray, List.set_cons_zero, List.set_cons_succ, List.getElem_toArray, List.getElem_cons_zero, List.getElem_cons_succ]
  refine wpG_take (i := 7) (v := ?_) hclG rfl (by kernel_rfl) (by kernel_rfl) (by kernel_rfl) (fun _ _ _ h => h) (by rfl) ?_ ?_
  rotate_left
  · (intro w' hSw; go_simp; try with_reducible rfl)
  try simp only [Act.put, List.setIfInBounds_toArray, List.set_cons_zero, List.set_cons_succ, List.getElem_toArray, List.getElem_cons_zero, List.getElem_cons_succ]
  refine wpG_take (i := 8) (v := ?_) hclG rfl (by kernel_rfl) (by kernel_rfl) (by kernel_rfl) (fun _ _ _ h => h) (by rfl) ?_ ?_
  rotate_left
  · (intro w' hSw; go_simp; try with_reducible rfl)
  try simp only [Act.put, List.setIfInBounds_toArray, List.set_cons_zero, List.set_cons_succ, List.getElem_toArray, List.getElem_cons_zero, List.getElem_cons_succ]
  refine wpG_take (i := 9) (v := ?_) hclG rfl (by kernel_rfl) (by kernel_rfl) (by kernel_rfl) (fun _ _ _ h => h) (by rfl) ?_ ?_
  rotate_left
  · (intro w' hSw; go_simp; try with_reducible rfl)
  try simp only [Act.put, List.setIfInBounds_toArray, List.set_cons_zero, List.set_cons_succ, List.getElem_toArray, List.getElem_cons_zero, List.getElem_cons_succ]
  refine wpG_ready (rs := [10]) (by kernel_rfl) (by simp) (fun w7 g7 s7 => ?_)
  refine AllG.cons rfl (fun K hK => ?_) AllG.nil
  have Fs_7 := CellsAt.gr (Fs_6) g7
  have ls_7 := CellsAt.lt (Fs_7)
  have Fa_7 := CellsAt.gr (Fa_6) g7
  have la_7 := CellsAt.lt (Fa_7)
  have Fh_7 := CellsAt.gr (Fh_6) g7
  have lh_7 := CellsAt.lt (Fh_7)
  have Fr_7 := CellsAt.gr (Fr_6) g7
  have lr_7 := CellsAt.lt (Fr_7)
  have Fx1_7 := CellsAt.gr (Fx1_6) g7
  have lx1_7 := CellsAt.lt (Fx1_7)
  have Fpp1_7 := CellsAt.gr (Fpp1_6) g7
  have lpp1_7 := CellsAt.lt (Fpp1_7)
  have z7 := (z6).trans g7
  clear Fs_6 Fa_6 Fh_6 Fr_6 Fx1_6 Fpp1_6 z6 g7
  have ms0 := CellsAt.frozen (Fs_7) 0
  have cs0 := CellsAt.cell (Fs_7) 0
  simp only [List.getElem?_toArray, List.getElem?_cons_zero, List.getElem?_cons_succ] at cs0
  have ms1 := CellsAt.frozen (Fs_7) 1
  have cs1 := CellsAt.cell (Fs_7) 1
  simp only [List.getElem?_toArray, List.getElem?_cons_zero, List.getElem?_cons_succ] at cs1
  have ms2 := CellsAt.frozen (Fs_7) 2
  have cs2 := CellsAt.cell (Fs_7) 2
  simp only [List.getElem?_toArray, List.getElem?_cons_zero, List.getElem?_cons_succ] at cs2
  have ms3 := CellsAt.frozen (Fs_7) 3
  have cs3 := CellsAt.cell (Fs_7) 3
  simp only [List.getElem?_toArray, List.getElem?_cons_zero, List.getElem?_cons_succ] at cs3
  go_simp
  clear ms0 cs0 ms1 cs1 ms2 cs2 ms3 cs3
  refine hK.out _ _ ?_ ?_
  · exact (GB.set (GB.set s7 _ _) _ _)
  clear hK K
  try simp only [Act.put, List.setIfInBounds_toArray, List.set_cons_zero, List.set_cons_succ, List.getElem_toArray, List.getElem_cons_zero, List.getElem_cons_succ]
  refine wpG_done (by kernel_rfl) (fun w8 g8 => ?_) _
  have Fs_8 : CellsAt w8 (w.heap.size) 44 #[.int .i64 (nw0).re, .int .i64 (nw0).im, .int .i64 (nw1).re, .int .i64 (nw1).im] := CellsAt.gr (CellsAt.set (CellsAt.set (Fs_7) 2 (.int .i64 (nw1).re)) 3 (.int .i64 (nw1).im)) g8
  have ls_8 := CellsAt.lt (Fs_8)
  have Fa_8 := CellsAt.gr (((Fa_7).other (by omega) _ _).other (by omega) _ _) g8
  have la_8 := CellsAt.lt (Fa_8)
  have Fh_8 := CellsAt.gr (((Fh_7).other (by omega) _ _).other (by omega) _ _) g8
  have lh_8 := CellsAt.lt (Fh_8)
  have Fr_8 := CellsAt.gr (((Fr_7).other (by omega) _ _).other (by omega) _ _) g8
  have lr_8 := CellsAt.lt (Fr_8)
  have Fx1_8 := CellsAt.gr (((Fx1_7).other (by omega) _ _).other (by omega) _ _) g8
  have lx1_8 := CellsAt.lt (Fx1_8)
  have Fpp1_8 := CellsAt.gr (((Fpp1_7).other (by omega) _ _).other (by omega) _ _) g8
  have lpp1_8 := CellsAt.lt (Fpp1_8)
  have z8 := (((z7).setCell (by first | omega | (simp only; omega)) _).setCell (by first | omega | (simp only; omega)) _).trans g8
  clear g8
  clear hclG KS
  go_wp2_with fail
  rw [rounds_succ]
  have cs0 := CellsAt.cell (Fs_8) 0
  have cs1 := CellsAt.cell (Fs_8) 1
  have cs2 := CellsAt.cell (Fs_8) 2
  have cs3 := CellsAt.cell (Fs_8) 3
  simp only [List.getElem?_toArray, List.getElem?_cons_zero, List.getElem?_cons_succ] at cs0 cs1 cs2 cs3
  have mr0 := CellsAt.frozen (Fr_8) 0
  have cr0 := CellsAt.cell (Fr_8) 0
  simp only [List.getElem?_toArray, List.getElem?_cons_zero, List.getElem?_cons_succ] at cr0
  have mr1 := CellsAt.frozen (Fr_8) 1
  have cr1 := CellsAt.cell (Fr_8) 1
  simp only [List.getElem?_toArray, List.getElem?_cons_zero, List.getElem?_cons_succ] at cr1
  have mr2 := CellsAt.frozen (Fr_8) 2
  have cr2 := CellsAt.cell (Fr_8) 2
  simp only [List.getElem?_toArray, List.getElem?_cons_zero, List.getElem?_cons_succ] at cr2
  have mr3 := CellsAt.frozen (Fr_8) 3
  have cr3 := CellsAt.cell (Fr_8) 3
  simp only [List.getElem?_toArray, List.getElem?_cons_zero, List.getElem?_cons_succ] at cr3
  go_wp2_with fail
  clear cs0 cs1 cs2 cs3 mr0 cr0 mr1 cr1 mr2 cr2 mr3 cr3
  obtain ⟨uf, hqp3⟩ : ∃ zz, zz = ((((w8.setCell ⟨w.heap.size + 1 + 1 + 1, 0, none⟩ (.int .i64 (nw0).re)).setCell ⟨w.heap.size + 1 + 1 + 1, 1, none⟩ (.int .i64 (nw0).im)).setCell ⟨w.heap.size + 1 + 1 + 1, 2, none⟩ (.int .i64 (nw1).re)).setCell ⟨w.heap.size + 1 + 1 + 1, 3, none⟩ (.int .i64 (nw1).im)) := ⟨_, rfl⟩
  have Ys_p3 : CellsAt uf (w.heap.size) 44 #[.int .i64 (nw0).re, .int .i64 (nw0).im, .int .i64 (nw1).re, .int .i64 (nw1).im] := by rw [hqp3]; first | exact ((((Fs_8).other (by omega) _ _).other (by omega) _ _).other (by omega) _ _).other (by omega) _ _ | simpa using ((((Fs_8).other (by omega) _ _).other (by omega) _ _).other (by omega) _ _).other (by omega) _ _
  have Ya_p3 : CellsAt uf (w.heap.size + 1) 24 #[.int .i64 (a).re, .int .i64 (a).im] := by rw [hqp3]; first | exact ((((Fa_8).other (by omega) _ _).other (by omega) _ _).other (by omega) _ _).other (by omega) _ _ | simpa using ((((Fa_8).other (by omega) _ _).other (by omega) _ _).other (by omega) _ _).other (by omega) _ _
  have Yh_p3 : CellsAt uf (w.heap.size + 1 + 1) 44 #[.int .i64 (hf0).re, .int .i64 (hf0).im, .int .i64 (hf1).re, .int .i64 (hf1).im] := by rw [hqp3]; first | exact ((((Fh_8).other (by omega) _ _).other (by omega) _ _).other (by omega) _ _).other (by omega) _ _ | simpa using ((((Fh_8).other (by omega) _ _).other (by omega) _ _).other (by omega) _ _).other (by omega) _ _
  have Yr_p3 : CellsAt uf (w.heap.size + 1 + 1 + 1) 44 #[.int .i64 (nw0).re, .int .i64 (nw0).im, .int .i64 (nw1).re, .int .i64 (nw1).im] := by rw [hqp3]; first | exact CellsAt.set (CellsAt.set (CellsAt.set (CellsAt.set (Fr_8) 0 (.int .i64 (nw0).re)) 1 (.int .i64 (nw0).im)) 2 (.int .i64 (nw1).re)) 3 (.int .i64 (nw1).im) | simpa using CellsAt.set (CellsAt.set (CellsAt.set (CellsAt.set (Fr_8) 0 (.int .i64 (nw0).re)) 1 (.int .i64 (nw0).im)) 2 (.int .i64 (nw1).re)) 3 (.int .i64 (nw1).im)
  have yp3 : Gr w uf := by rw [hqp3]; exact ((((z8).setCell (by first | omega | (simp only; omega)) _).setCell (by first | omega | (simp only; omega)) _).setCell (by first | omega | (simp only; omega)) _).setCell (by first | omega | (simp only; omega)) _
  rw [← hqp3]
  clear hqp3
  have cr0 := CellsAt.cell (Yr_p3) 0
  have cr1 := CellsAt.cell (Yr_p3) 1
  have cr2 := CellsAt.cell (Yr_p3) 2
  have cr3 := CellsAt.cell (Yr_p3) 3
  simp only [List.getElem?_toArray, List.getElem?_cons_zero, List.getElem?_cons_succ] at cr0 cr1 cr2 cr3
  refine bodyPost_ret (v := .agg #[.int .i64 (nw0).re, .int .i64 (nw0).im, .int .i64 (nw1).re, .int .i64 (nw1).im]) ?_ rfl ⟨rfl, yp3⟩
  simp [results, Try.results15, go_sem, *]

end Go.Proofs.Ytpkkokcidbcopaa
