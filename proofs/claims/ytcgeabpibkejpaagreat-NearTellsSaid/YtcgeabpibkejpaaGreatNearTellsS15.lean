import Derived.Test.YtcgeabpibkejpaaGreatNearTellsS14
namespace Go.Proofs.YtcgeabpibkejpaaGreat
section
open Go.ChangeShapes Go.WideShapes Go.ChangeAt Go.RowKit
set_option linter.unusedVariables false
set_option linter.unusedSimpArgs false
set_option maxRecDepth 100000
set_option maxHeartbeats 2000000 in
theorem ftWithin_c (v : Value) (xs : List Gi) (l h : Int) (w : World) (hv : CxsAt w v xs) :
 Calls Tryz.prog 72 #[.int .i64 l, .int .i64 h, v] w fun e w' => e = .returned (.bool (partsB l h xs)) ∧ Gr w w' := by
 by_cases hx0 : xs = []
 ·subst hx0
  obtain ⟨p, cap, rfl⟩ := hv.len
  rw [show ([] : List Gi).length = 0 from rfl]
  clear hv
  go_enter Tryz.func72, Tryz.ntmps72
  go_wp2_with fail
  go_loopw [11] (fun i wr => i = .int .i64 0 ∧ Gr w wr) (fun i _ => 0 - (intOf i).toNat)
  case atStart => exact ⟨rfl, Gr.refl _⟩
  case round =>
   obtain ⟨rfl, hg⟩ := hrel
   go_wp2_with fail
   go_ret
   exact ⟨rfl, hg⟩
 ·obtain ⟨b, o, cap, rfl, hlen, hb, hc⟩ := hv.at hx0
  have HC := Lib.hid hc
  clear hc hv hx0
  go_enter Tryz.func72, Tryz.ntmps72
  go_wp2_with fail
  go_loopw [11] (fun i wr => ∃ k : Nat, k ≤ xs.length ∧ i = .int .i64 k ∧ partsB l h (xs.take k) = true ∧ Gr w wr) (fun i _ => xs.length - (intOf i).toNat)
  case atStart => exact ⟨0, Nat.zero_le _, rfl, rfl, Gr.refl _⟩
  case round =>
   obtain ⟨k, hk, rfl, hp, hg⟩ := hrel
   by_cases hlt : k < xs.length
   ·obtain ⟨x, hx⟩ := get_of_lt hlt
    have h1 := (hg.cell (p := ⟨b, o + k * 2, none⟩) hb).trans (HC.out k x hx).1
    have h2 := (hg.cell (p := ⟨b, o + k * 2 + 1, none⟩) hb).trans (HC.out k x hx).2
    have hlI : (k : Int) < (xs.length : Int) := by omega
    obtain ⟨re, im⟩ := x
    simp only at h1 h2
    rcases Int.lt_trichotomy re im with a | a | a
    ·have a2 : ¬ im < re := by omega
     by_cases q1 : re < l
     ·have hb : partIn l h (Gi.mk re im) = false := by simp only [partIn]; simp; omega
      go_wp2_with fail
      go_ret
      exact ⟨by rw [partsB_no hx hb]; rfl, hg.alloc _ _⟩
     ·by_cases q2 : h < im
      ·have hb : partIn l h (Gi.mk re im) = false := by simp only [partIn]; simp; omega
       go_wp2_with fail
       go_ret
       exact ⟨by rw [partsB_no hx hb]; rfl, hg.alloc _ _⟩
      ·have hs := Lib.hid (partsB_snoc hx hp (show partIn l h (Gi.mk re im) = true by simp only [partIn]; simp; omega))
       go_wp2_with fail
       go_roundw
       case rel => exact ⟨k + 1, by omega, by go_num, hs.out, hg.alloc _ _⟩
       case measure => simp [intOf]; omega
    ·have a2 : ¬ im < re := by omega
     have a3 : ¬ re < im := by omega
     by_cases q1 : re < l
     ·have hb : partIn l h (Gi.mk re im) = false := by simp only [partIn]; simp; omega
      go_wp2_with fail
      go_ret
      exact ⟨by rw [partsB_no hx hb]; rfl, hg.alloc _ _⟩
     ·by_cases q2 : h < re
      ·have hb : partIn l h (Gi.mk re im) = false := by simp only [partIn]; simp; omega
       go_wp2_with fail
       go_ret
       exact ⟨by rw [partsB_no hx hb]; rfl, hg.alloc _ _⟩
      ·have hs := Lib.hid (partsB_snoc hx hp (show partIn l h (Gi.mk re im) = true by simp only [partIn]; simp; omega))
       go_wp2_with fail
       go_roundw
       case rel => exact ⟨k + 1, by omega, by go_num, hs.out, hg.alloc _ _⟩
       case measure => simp [intOf]; omega
    ·have a3 : ¬ re < im := by omega
     by_cases q1 : im < l
     ·have hb : partIn l h (Gi.mk re im) = false := by simp only [partIn]; simp; omega
      go_wp2_with fail
      go_ret
      exact ⟨by rw [partsB_no hx hb]; rfl, hg.alloc _ _⟩
     ·by_cases q2 : h < re
      ·have hb : partIn l h (Gi.mk re im) = false := by simp only [partIn]; simp; omega
       go_wp2_with fail
       go_ret
       exact ⟨by rw [partsB_no hx hb]; rfl, hg.alloc _ _⟩
      ·have hs := Lib.hid (partsB_snoc hx hp (show partIn l h (Gi.mk re im) = true by simp only [partIn]; simp; omega))
       go_wp2_with fail
       go_roundw
       case rel => exact ⟨k + 1, by omega, by go_num, hs.out, hg.alloc _ _⟩
       case measure => simp [intOf]; omega
   ·obtain rfl : k = xs.length := by omega
    have hlI : ¬ (xs.length : Int) < (xs.length : Int) := by omega
    rw [List.take_length] at hp
    go_wp2_with fail
    go_ret
    exact ⟨by first | rfl | (rw [hp]; rfl) | simp, hg⟩
end
section
open Go.ChangeShapes Go.WideShapes Go.ChangeAt Go.RowKit Go.MapKept
set_option linter.unusedVariables false
set_option linter.unusedSimpArgs false
set_option maxRecDepth 100000
def passF (k : Int) : Value := if k = 4 then .func (.func 99) #[] #[] else .func (.func 98) #[] #[]
def KMap (W : World) (B : Nat) : Prop := W.heap[B]? = some (.map #[⟨.int .i64 2, passF 2, 0⟩, ⟨.int .i64 4, passF 4, 1⟩] 2)
theorem KMap.gr {W W' : World} {B : Nat} (h : KMap W B) (g : Gr W W') : KMap W' B := (g.block (Array.getElem?_eq_some_iff.1 h).1).trans h
theorem KMap.lt {W : World} {B : Nat} (h : KMap W B) : B < W.heap.size := (Array.getElem?_eq_some_iff.1 h).1
theorem und_kmap : ∃ k e, Tryz.prog.underlying 69 = some (.map k e) ∧ k = 3 ∧ e = 101 := ⟨_, _, by kernel_rfl, rfl, rfl⟩
theorem kkey_check (e : Bool) (x : Int) (w : World) : (Instr.checkKey e 10000 3 (.int .i64 x)).run Tryz.prog w = .ok () w := by kernel_rfl
theorem und_int : Tryz.prog.underlying 3 = some (.int .i64) := by kernel_rfl
theorem KMap.look {W : World} {B : Nat} (h : KMap W B) (k : Int) (hk : k = 2 ∨ k = 4) : (Instr.lookup 69 (.map (some B)) (.int .i64 k) false).run Tryz.prog W = .ok (passF k) W := by
 obtain ⟨a, e, hu, rfl, rfl⟩ := und_kmap
 rcases hk with rfl | rfl <;> simp [Instr.lookup, run_underlying hu, MapKept.run_getObj_map h, kkey_check, Instr.findKey, run_underlying und_int, Instr.findNow, Instr.sameNow, Result.andThen]
end
section
open Go.ChangeShapes Go.WideShapes Go.ChangeAt Go.RowKit
set_option linter.unusedVariables false
set_option linter.unusedSimpArgs false
set_option maxRecDepth 100000
theorem KMap.set {W : World} {B b : Nat} (h : KMap W B) (hne : B ≠ b) (j : Nat) (v : Value) : KMap (W.setCell ⟨b, j, none⟩ v) B := by
 unfold KMap
 rw [Below.heap_setCell _ _ _ _ hne]
 exact h
theorem KMap.ne {W : World} {B b : Nat} {t : TypeId} {c : Array Value} (h : KMap W B) (hc : CellsAt W b t c) : B ≠ b := by
 rintro rfl
 have h1 := (show W.heap[B]? = _ from h).symm.trans (show W.heap[B]? = _ from hc)
 cases h1
def shF (sc : Int) : FuncId := if sc = 0 then 231 else if sc = 1 then 234 else 239
def fiF (sc : Int) : FuncId := if sc = 0 then 230 else if sc = 1 then 233 else 238
def ahF (sc : Int) : FuncId := if sc = 0 then 229 else if sc = 1 then 232 else 237
set_option maxHeartbeats 2000000 in
theorem ftReady_no (v : Value) (xs : List Gi) (fo lo ke sc mo y : Int) (iv : Bool) (hy : ¬ y = 0) (hb : (y == 0) = false) (HN : Hid (∀ W, CxsAt W v xs → Calls Tryz.prog 42 #[v, .agg #[.int .i64 fo, .int .i64 lo, .int .i64 ke, .int .i64 sc, .int .i64 mo, .bool iv]] W fun e w' => e = .returned (.int .i64 y) ∧ Gr W w')) (w : World) (hv : CxsAt w v xs) :
 Calls Tryz.prog 17 #[v, .agg #[.int .i64 fo, .int .i64 lo, .int .i64 ke, .int .i64 sc, .int .i64 mo, .bool iv]] w fun e w' => e = .returned (.tuple #[.agg #[.slice none 0 0, .int .i64 0, .bool false, .slice none 0 0], .int .i64 y]) ∧ Gr w w' := by
 go_enter Tryz.func17, Tryz.ntmps17
 go_wp2_with fail
 obtain ⟨u0, hU⟩ : ∃ uu, uu = ((w.alloc (.cells #[.int .i64 fo, .int .i64 lo, .int .i64 ke, .int .i64 sc, .int .i64 mo, .bool iv] 24)).alloc (.cells #[.slice none 0 0, .int .i64 0, .bool false, .slice none 0 0] 27)) := ⟨_, rfl⟩
 have ⟨gu, R0, R1⟩ := lay2 hU
 rw [← hU]
 clear hU
 have lp := R0.lt
 have lr := R1.lt
 obtain ⟨cp0, cp1, cp2, cp3, cp4, cp5⟩ := R0.t6
 go_wp2_with fail
 clear cp0 cp1 cp2 cp3 cp4 cp5
 refine (HN.out _ (hv.gr gu)).mono ?_
 rintro e w1 ⟨rfl, g1⟩
 have ⟨Fp_1, lp_1⟩ := CellsAt.gl (R0) g1
 have ⟨Fr_1, lr_1⟩ := CellsAt.gl (R1) g1
 have z1 := (gu).trans g1
 clear R0 R1 gu g1
 have mr0 := CellsAt.frozen (Fr_1) 0
 have cr0 := Fr_1.at 0
 have mr1 := CellsAt.frozen (Fr_1) 1
 have cr1 := Fr_1.at 1
 have mr2 := CellsAt.frozen (Fr_1) 2
 have cr2 := Fr_1.at 2
 have mr3 := CellsAt.frozen (Fr_1) 3
 have cr3 := Fr_1.at 3
 go_wp2_with fail
 clear mr0 cr0 mr1 cr1 mr2 cr2 mr3 cr3
 obtain ⟨uf, hqf⟩ : ∃ zz, zz = ((((w1.setCell ⟨w.heap.size + 1, 0, none⟩ (.slice none 0 0)).setCell ⟨w.heap.size + 1, 1, none⟩ (.int .i64 0)).setCell ⟨w.heap.size + 1, 2, none⟩ (.bool false)).setCell ⟨w.heap.size + 1, 3, none⟩ (.slice none 0 0)) := ⟨_, rfl⟩
 have Yr : CellsAt uf (w.heap.size + 1) 27 #[.slice none 0 0, .int .i64 0, .bool false, .slice none 0 0] := by rw [hqf]; first | exact CellsAt.set (CellsAt.set (CellsAt.set (CellsAt.set (Fr_1) 0 (.slice none 0 0)) 1 (.int .i64 0)) 2 (.bool false)) 3 (.slice none 0 0) | simpa using CellsAt.set (CellsAt.set (CellsAt.set (CellsAt.set (Fr_1) 0 (.slice none 0 0)) 1 (.int .i64 0)) 2 (.bool false)) 3 (.slice none 0 0)
 have yz : Gr w uf := by rw [hqf]; exact ((((z1).setCell (by first | omega | (simp only; omega)) _).setCell (by first | omega | (simp only; omega)) _).setCell (by first | omega | (simp only; omega)) _).setCell (by first | omega | (simp only; omega)) _
 rw [← hqf]
 clear hqf
 have cr0 := CellsAt.cell Yr 0
 have cr1 := CellsAt.cell Yr 1
 have cr2 := CellsAt.cell Yr 2
 have cr3 := CellsAt.cell Yr 3
 simp only [getS] at cr0 cr1 cr2 cr3
 refine bodyPost_ret (v := .tuple #[.agg #[.slice none 0 0, .int .i64 0, .bool false, .slice none 0 0], .int .i64 y]) ?_ rfl ⟨rfl, yz⟩
 simp [results, Tryz.results17, go_sem, *]
set_option maxHeartbeats 2000000 in
theorem ftReady_row (v : Value) (xs fs ys : List Gi) (fo lo ke sc mo s : Int) (iv : Bool) (sT : TypeId) (rV : Value) (F1 : FuncId) (e1 : Enters F1) (m1 : ∀ n W, (method (n + 1) sT rV "headroom/fft.ahead").run Tryz.prog W = .ok (F1, rV) W) (hke : ¬ ke = 2) (hkb : (ke == 2) = false)
 (HN : Hid (∀ W, CxsAt W v xs → Calls Tryz.prog 42 #[v, .agg #[.int .i64 fo, .int .i64 lo, .int .i64 ke, .int .i64 sc, .int .i64 mo, .bool iv]] W fun e w' => e = .returned (.int .i64 0) ∧ Gr W w')) (HS : CR 43 #[.agg #[.int .i64 fo, .int .i64 lo, .int .i64 ke, .int .i64 sc, .int .i64 mo, .bool iv]] (.iface sT rV))
 (HA : Hid (∀ W, CxsAt W v xs → Calls Tryz.prog F1 #[rV, v] W fun e w' => e = .returned (.int .i64 s) ∧ Gr W w'))
 (HF : Hid (∀ W, CxsAt W v xs → Calls Tryz.prog 44 #[v] W fun e w' => ∃ u, e = .returned (.tuple #[u, .int .i64 0]) ∧ CxsAt w' u fs ∧ Gr W w'))
 (HSH : Hid (∀ u W, CxsAt W u fs → Calls Tryz.prog 45 #[u, .int .i64 s, .int .i64 mo] W fun e w' => ∃ u, e = .returned (.tuple #[u, .int .i64 0]) ∧ CxsAt w' u ys ∧ Gr W w')) (w : World) (hv : CxsAt w v xs) :
 Calls Tryz.prog 17 #[v, .agg #[.int .i64 fo, .int .i64 lo, .int .i64 ke, .int .i64 sc, .int .i64 mo, .bool iv]] w fun e w' => ∃ u, e = .returned (.tuple #[.agg #[u, .int .i64 s, .bool false, .slice none 0 0], .int .i64 0]) ∧ CxsAt w' u ys ∧ Gr w w' := by
 unfold Enters at e1
 go_enter Tryz.func17, Tryz.ntmps17
 go_wp2_with fail
 obtain ⟨u0, hU⟩ : ∃ uu, uu = ((w.alloc (.cells #[.int .i64 fo, .int .i64 lo, .int .i64 ke, .int .i64 sc, .int .i64 mo, .bool iv] 24)).alloc (.cells #[.slice none 0 0, .int .i64 0, .bool false, .slice none 0 0] 27)) := ⟨_, rfl⟩
 have ⟨gu, R0, R1⟩ := lay2 hU
 rw [← hU]
 clear hU
 have lp := R0.lt
 have lr := R1.lt
 obtain ⟨cp0, cp1, cp2, cp3, cp4, cp5⟩ := R0.t6
 go_wp2_with fail
 clear cp0 cp1 cp2 cp3 cp4 cp5
 refine (HN.out _ (hv.gr gu)).mono ?_
 rintro e w1 ⟨rfl, g1⟩
 have ⟨Fp_1, lp_1⟩ := CellsAt.gl (R0) g1
 have ⟨Fr_1, lr_1⟩ := CellsAt.gl (R1) g1
 have z1 := (gu).trans g1
 clear R0 R1 gu g1
 obtain ⟨cp0, cp1, cp2, cp3, cp4, cp5⟩ := Fp_1.t6
 go_wp2_with fail
 clear cp0 cp1 cp2 cp3 cp4 cp5
 refine (HS.out _).mono ?_
 rintro e w2 ⟨rfl, g2⟩
 have ⟨Fp_2, lp_2⟩ := CellsAt.gl (Fp_1) g2
 have ⟨Fr_2, lr_2⟩ := CellsAt.gl (Fr_1) g2
 have z2 := (z1).trans g2
 clear Fp_1 Fr_1 z1 g2
 obtain ⟨cp0, cp1, cp2, cp3, cp4, cp5⟩ := Fp_2.t6
 go_wp2_with fail
 clear cp0 cp1 cp2 cp3 cp4 cp5
 refine (HA.out _ (hv.gr z2)).mono ?_
 rintro e w3 ⟨rfl, g3⟩
 have ⟨Fp_3, lp_3⟩ := CellsAt.gl (Fp_2) g3
 have ⟨Fr_3, lr_3⟩ := CellsAt.gl (Fr_2) g3
 have z3 := (z2).trans g3
 clear Fp_2 Fr_2 z2 g3
 obtain ⟨cp0, cp1, cp2, cp3, cp4, cp5⟩ := Fp_3.t6
 go_wp2_with fail
 clear cp0 cp1 cp2 cp3 cp4 cp5
 refine (HF.out _ (hv.gr z3)).mono ?_
 rintro e w4 ⟨vf, rfl, hf, g4⟩
 have ⟨Fp_4, lp_4⟩ := CellsAt.gl (Fp_3) g4
 have ⟨Fr_4, lr_4⟩ := CellsAt.gl (Fr_3) g4
 have z4 := (z3).trans g4
 clear Fp_3 Fr_3 z3 g4
 obtain ⟨cp0, cp1, cp2, cp3, cp4, cp5⟩ := Fp_4.t6
 go_wp2_with fail
 clear cp0 cp1 cp2 cp3 cp4 cp5
 refine (HSH.out _ _ hf).mono ?_
 rintro e w5 ⟨vy, rfl, hy, g5⟩
 have ⟨Fp_5, lp_5⟩ := CellsAt.gl (Fp_4) g5
 have ⟨Fr_5, lr_5⟩ := CellsAt.gl (Fr_4) g5
 have Kf_5 := CxsAt.gr (hf) g5
 have z5 := (z4).trans g5
 clear Fp_4 Fr_4 z4 g5
 obtain ⟨yp, yc, rfl⟩ := hy.len
 have mr0 := CellsAt.frozen (Fr_5) 0
 have cr0 := Fr_5.at 0
 have mr1 := CellsAt.frozen (Fr_5) 1
 have cr1 := Fr_5.at 1
 have mr2 := CellsAt.frozen (Fr_5) 2
 have cr2 := Fr_5.at 2
 have mr3 := CellsAt.frozen (Fr_5) 3
 have cr3 := Fr_5.at 3
 go_wp2_with fail
 clear mr0 cr0 mr1 cr1 mr2 cr2 mr3 cr3
 have ap := CxsAt.apart hy Fr_5
 have cxe := (((hy.set ap 0 (.slice yp ys.length yc)).set ap 1 (.int .i64 s)).set ap 2 (.bool false)).set ap 3 (.slice none 0 0)
 obtain ⟨uf, hqf⟩ : ∃ zz, zz = ((((w5.setCell ⟨w.heap.size + 1, 0, none⟩ (.slice yp ys.length yc)).setCell ⟨w.heap.size + 1, 1, none⟩ (.int .i64 s)).setCell ⟨w.heap.size + 1, 2, none⟩ (.bool false)).setCell ⟨w.heap.size + 1, 3, none⟩ (.slice none 0 0)) := ⟨_, rfl⟩
 rw [← hqf] at cxe
 have Yr : CellsAt uf (w.heap.size + 1) 27 #[.slice yp ys.length yc, .int .i64 s, .bool false, .slice none 0 0] := by rw [hqf]; first | exact CellsAt.set (CellsAt.set (CellsAt.set (CellsAt.set (Fr_5) 0 (.slice yp ys.length yc)) 1 (.int .i64 s)) 2 (.bool false)) 3 (.slice none 0 0) | simpa using CellsAt.set (CellsAt.set (CellsAt.set (CellsAt.set (Fr_5) 0 (.slice yp ys.length yc)) 1 (.int .i64 s)) 2 (.bool false)) 3 (.slice none 0 0)
 have yz : Gr w uf := by rw [hqf]; exact ((((z5).setCell (by first | omega | (simp only; omega)) _).setCell (by first | omega | (simp only; omega)) _).setCell (by first | omega | (simp only; omega)) _).setCell (by first | omega | (simp only; omega)) _
 rw [← hqf]
 clear hqf
 have cr0 := CellsAt.cell Yr 0
 have cr1 := CellsAt.cell Yr 1
 have cr2 := CellsAt.cell Yr 2
 have cr3 := CellsAt.cell Yr 3
 simp only [getS] at cr0 cr1 cr2 cr3
 refine bodyPost_ret (v := .tuple #[.agg #[.slice yp ys.length yc, .int .i64 s, .bool false, .slice none 0 0], .int .i64 0]) ?_ rfl ⟨_, rfl, cxe, yz⟩
 simp [results, Tryz.results17, go_sem, *]
set_option maxHeartbeats 2000000 in
theorem ftReady_split (v : Value) (xs ys : List Gi) (fo lo sc mo s : Int) (iv : Bool) (sT : TypeId) (rV : Value) (F1 : FuncId) (e1 : Enters F1) (m1 : ∀ n W, (method (n + 1) sT rV "headroom/fft.ahead").run Tryz.prog W = .ok (F1, rV) W)
 (HN : Hid (∀ W, CxsAt W v xs → Calls Tryz.prog 42 #[v, .agg #[.int .i64 fo, .int .i64 lo, .int .i64 2, .int .i64 sc, .int .i64 mo, .bool iv]] W fun e w' => e = .returned (.int .i64 0) ∧ Gr W w')) (HS : CR 43 #[.agg #[.int .i64 fo, .int .i64 lo, .int .i64 2, .int .i64 sc, .int .i64 mo, .bool iv]] (.iface sT rV))
 (HA : Hid (∀ W, CxsAt W v xs → Calls Tryz.prog F1 #[rV, v] W fun e w' => e = .returned (.int .i64 s) ∧ Gr W w'))
 (HSH : Hid (∀ u W, CxsAt W u xs → Calls Tryz.prog 45 #[u, .int .i64 s, .int .i64 mo] W fun e w' => ∃ u, e = .returned (.tuple #[u, .int .i64 0]) ∧ CxsAt w' u ys ∧ Gr W w')) (w : World) (hv : CxsAt w v xs) :
 Calls Tryz.prog 17 #[v, .agg #[.int .i64 fo, .int .i64 lo, .int .i64 2, .int .i64 sc, .int .i64 mo, .bool iv]] w fun e w' => ∃ u, e = .returned (.tuple #[.agg #[u, .int .i64 s, .bool false, .slice none 0 0], .int .i64 0]) ∧ CxsAt w' u ys ∧ Gr w w' := by
 unfold Enters at e1
 go_enter Tryz.func17, Tryz.ntmps17
 go_wp2_with fail
 obtain ⟨u0, hU⟩ : ∃ uu, uu = ((w.alloc (.cells #[.int .i64 fo, .int .i64 lo, .int .i64 2, .int .i64 sc, .int .i64 mo, .bool iv] 24)).alloc (.cells #[.slice none 0 0, .int .i64 0, .bool false, .slice none 0 0] 27)) := ⟨_, rfl⟩
 have ⟨gu, R0, R1⟩ := lay2 hU
 rw [← hU]
 clear hU
 have lp := R0.lt
 have lr := R1.lt
 obtain ⟨cp0, cp1, cp2, cp3, cp4, cp5⟩ := R0.t6
 go_wp2_with fail
 clear cp0 cp1 cp2 cp3 cp4 cp5
 refine (HN.out _ (hv.gr gu)).mono ?_
 rintro e w1 ⟨rfl, g1⟩
 have ⟨Fp_1, lp_1⟩ := CellsAt.gl (R0) g1
 have ⟨Fr_1, lr_1⟩ := CellsAt.gl (R1) g1
 have z1 := (gu).trans g1
 clear R0 R1 gu g1
 obtain ⟨cp0, cp1, cp2, cp3, cp4, cp5⟩ := Fp_1.t6
 go_wp2_with fail
 clear cp0 cp1 cp2 cp3 cp4 cp5
 refine (HS.out _).mono ?_
 rintro e w2 ⟨rfl, g2⟩
 have ⟨Fp_2, lp_2⟩ := CellsAt.gl (Fp_1) g2
 have ⟨Fr_2, lr_2⟩ := CellsAt.gl (Fr_1) g2
 have z2 := (z1).trans g2
 clear Fp_1 Fr_1 z1 g2
 obtain ⟨cp0, cp1, cp2, cp3, cp4, cp5⟩ := Fp_2.t6
 go_wp2_with fail
 clear cp0 cp1 cp2 cp3 cp4 cp5
 refine (HA.out _ (hv.gr z2)).mono ?_
 rintro e w3 ⟨rfl, g3⟩
 have ⟨Fp_3, lp_3⟩ := CellsAt.gl (Fp_2) g3
 have ⟨Fr_3, lr_3⟩ := CellsAt.gl (Fr_2) g3
 have z3 := (z2).trans g3
 clear Fp_2 Fr_2 z2 g3
 obtain ⟨cp0, cp1, cp2, cp3, cp4, cp5⟩ := Fp_3.t6
 go_wp2_with fail
 clear cp0 cp1 cp2 cp3 cp4 cp5
 refine (HSH.out _ _ (hv.gr z3)).mono ?_
 rintro e w4 ⟨vy, rfl, hy, g4⟩
 have ⟨Fp_4, lp_4⟩ := CellsAt.gl (Fp_3) g4
 have ⟨Fr_4, lr_4⟩ := CellsAt.gl (Fr_3) g4
 have z4 := (z3).trans g4
 clear Fp_3 Fr_3 z3 g4
 obtain ⟨yp, yc, rfl⟩ := hy.len
 have mr0 := CellsAt.frozen (Fr_4) 0
 have cr0 := Fr_4.at 0
 have mr1 := CellsAt.frozen (Fr_4) 1
 have cr1 := Fr_4.at 1
 have mr2 := CellsAt.frozen (Fr_4) 2
 have cr2 := Fr_4.at 2
 have mr3 := CellsAt.frozen (Fr_4) 3
 have cr3 := Fr_4.at 3
 go_wp2_with fail
 clear mr0 cr0 mr1 cr1 mr2 cr2 mr3 cr3
 have ap := CxsAt.apart hy Fr_4
 have cxe := (((hy.set ap 0 (.slice yp ys.length yc)).set ap 1 (.int .i64 s)).set ap 2 (.bool false)).set ap 3 (.slice none 0 0)
 obtain ⟨uf, hqf⟩ : ∃ zz, zz = ((((w4.setCell ⟨w.heap.size + 1, 0, none⟩ (.slice yp ys.length yc)).setCell ⟨w.heap.size + 1, 1, none⟩ (.int .i64 s)).setCell ⟨w.heap.size + 1, 2, none⟩ (.bool false)).setCell ⟨w.heap.size + 1, 3, none⟩ (.slice none 0 0)) := ⟨_, rfl⟩
 rw [← hqf] at cxe
 have Yr : CellsAt uf (w.heap.size + 1) 27 #[.slice yp ys.length yc, .int .i64 s, .bool false, .slice none 0 0] := by rw [hqf]; first | exact CellsAt.set (CellsAt.set (CellsAt.set (CellsAt.set (Fr_4) 0 (.slice yp ys.length yc)) 1 (.int .i64 s)) 2 (.bool false)) 3 (.slice none 0 0) | simpa using CellsAt.set (CellsAt.set (CellsAt.set (CellsAt.set (Fr_4) 0 (.slice yp ys.length yc)) 1 (.int .i64 s)) 2 (.bool false)) 3 (.slice none 0 0)
 have yz : Gr w uf := by rw [hqf]; exact ((((z4).setCell (by first | omega | (simp only; omega)) _).setCell (by first | omega | (simp only; omega)) _).setCell (by first | omega | (simp only; omega)) _).setCell (by first | omega | (simp only; omega)) _
 rw [← hqf]
 clear hqf
 have cr0 := CellsAt.cell Yr 0
 have cr1 := CellsAt.cell Yr 1
 have cr2 := CellsAt.cell Yr 2
 have cr3 := CellsAt.cell Yr 3
 simp only [getS] at cr0 cr1 cr2 cr3
 refine bodyPost_ret (v := .tuple #[.agg #[.slice yp ys.length yc, .int .i64 s, .bool false, .slice none 0 0], .int .i64 0]) ?_ rfl ⟨_, rfl, cxe, yz⟩
 simp [results, Tryz.results17, go_sem, *]
theorem one_shl {lo n : Int} (h : (lo = 2 ∧ n = 4) ∨ (lo = 3 ∧ n = 8) ∨ (lo = 4 ∧ n = 16) ∨ (lo = 5 ∧ n = 32) ∨ (lo = 6 ∧ n = 64)) (W : World) : (Op.shift .shl .i64 1 .i64 lo).run Tryz.prog W = .ok (.int .i64 n) W := by
 rcases h with ⟨rfl, rfl⟩ | ⟨rfl, rfl⟩ | ⟨rfl, rfl⟩ | ⟨rfl, rfl⟩ | ⟨rfl, rfl⟩ <;> kernel_rfl
set_option maxHeartbeats 2000000 in
theorem ftNum_plan (v : Value) (fo lo ke sc mo : Int) (iv : Bool) (HC : CR 65 #[.agg #[.int .i64 fo, .int .i64 lo, .int .i64 ke, .int .i64 sc, .int .i64 mo, .bool iv]] (.int .i64 4)) (w : World) :
 Calls Tryz.prog 42 #[v, .agg #[.int .i64 fo, .int .i64 lo, .int .i64 ke, .int .i64 sc, .int .i64 mo, .bool iv]] w fun e w' => e = .returned (.int .i64 4) ∧ Gr w w' := by
 go_enter Tryz.func42, Tryz.ntmps42
 go_wp2_with fail
 obtain ⟨u0, hU⟩ : ∃ uu, uu = (w.alloc (.cells #[.int .i64 fo, .int .i64 lo, .int .i64 ke, .int .i64 sc, .int .i64 mo, .bool iv] 24)) := ⟨_, rfl⟩
 have ⟨gu, R0⟩ := lay1 hU
 rw [← hU]
 clear hU
 have lp := R0.lt
 refine (HC.out _).mono ?_
 rintro e w1 ⟨rfl, g1⟩
 have ⟨Fp_1, lp_1⟩ := CellsAt.gl (R0) g1
 have z1 := (gu).trans g1
 clear R0 gu g1
 go_wp2_with fail
 go_ret
 exact ⟨rfl, z1⟩
set_option maxHeartbeats 2000000 in
theorem ftNum_size (p : Option Addr) (l cap : Nat) (fo lo ke sc mo n : Int) (iv : Bool) (hlo : (lo = 2 ∧ n = 4) ∨ (lo = 3 ∧ n = 8) ∨ (lo = 4 ∧ n = 16) ∨ (lo = 5 ∧ n = 32) ∨ (lo = 6 ∧ n = 64)) (hn : ¬ (l : Int) = n) (HC : CR 65 #[.agg #[.int .i64 fo, .int .i64 lo, .int .i64 ke, .int .i64 sc, .int .i64 mo, .bool iv]] (.int .i64 0)) (w : World) :
 Calls Tryz.prog 42 #[.slice p l cap, .agg #[.int .i64 fo, .int .i64 lo, .int .i64 ke, .int .i64 sc, .int .i64 mo, .bool iv]] w fun e w' => e = .returned (.int .i64 3) ∧ Gr w w' := by
 have hb : ((l : Int) == n) = false := by simp [hn]
 have hsh := one_shl hlo
 clear hlo
 go_enter Tryz.func42, Tryz.ntmps42
 go_wp2_with fail
 obtain ⟨u0, hU⟩ : ∃ uu, uu = (w.alloc (.cells #[.int .i64 fo, .int .i64 lo, .int .i64 ke, .int .i64 sc, .int .i64 mo, .bool iv] 24)) := ⟨_, rfl⟩
 have ⟨gu, R0⟩ := lay1 hU
 rw [← hU]
 clear hU
 have lp := R0.lt
 refine (HC.out _).mono ?_
 rintro e w1 ⟨rfl, g1⟩
 have ⟨Fp_1, lp_1⟩ := CellsAt.gl (R0) g1
 have z1 := (gu).trans g1
 clear R0 gu g1
 obtain ⟨cp0, cp1, cp2, cp3, cp4, cp5⟩ := Fp_1.t6
 go_wp2_with fail
 clear cp0 cp1 cp2 cp3 cp4 cp5
 go_ret
 exact ⟨rfl, z1⟩
set_option maxHeartbeats 2000000 in
theorem ftNum_parts (p : Option Addr) (l cap : Nat) (xs : List Gi) (fo lo ke sc mo n q : Int) (iv r : Bool) (hlo : (lo = 2 ∧ n = 4) ∨ (lo = 3 ∧ n = 8) ∨ (lo = 4 ∧ n = 16) ∨ (lo = 5 ∧ n = 32) ∨ (lo = 6 ∧ n = 64)) (hn : (l : Int) = n) (q0 : 0 ≤ q) (q1 : q ≤ 2147483648) (HC : CR 65 #[.agg #[.int .i64 fo, .int .i64 lo, .int .i64 ke, .int .i64 sc, .int .i64 mo, .bool iv]] (.int .i64 0)) (HO : CR 71 #[.agg #[.int .i64 fo, .int .i64 lo, .int .i64 ke, .int .i64 sc, .int .i64 mo, .bool iv]] (.int .i64 q))
 (HW : Hid (∀ W, CxsAt W (.slice p l cap) xs → Calls Tryz.prog 72 #[.int .i64 (-q), .int .i64 (q - 1), .slice p l cap] W fun e w' => e = .returned (.bool r) ∧ Gr W w')) (w : World) (hv : CxsAt w (.slice p l cap) xs) :
 Calls Tryz.prog 42 #[.slice p l cap, .agg #[.int .i64 fo, .int .i64 lo, .int .i64 ke, .int .i64 sc, .int .i64 mo, .bool iv]] w fun e w' => e = .returned (.int .i64 (if r = true then 0 else 2)) ∧ Gr w w' := by
 have hb : ((l : Int) == n) = true := by simp [hn]
 have hsh := one_shl hlo
 clear hlo
 go_enter Tryz.func42, Tryz.ntmps42
 go_wp2_with fail
 obtain ⟨u0, hU⟩ : ∃ uu, uu = (w.alloc (.cells #[.int .i64 fo, .int .i64 lo, .int .i64 ke, .int .i64 sc, .int .i64 mo, .bool iv] 24)) := ⟨_, rfl⟩
 have ⟨gu, R0⟩ := lay1 hU
 rw [← hU]
 clear hU
 have lp := R0.lt
 refine (HC.out _).mono ?_
 rintro e w1 ⟨rfl, g1⟩
 have ⟨Fp_1, lp_1⟩ := CellsAt.gl (R0) g1
 have z1 := (gu).trans g1
 clear R0 gu g1
 obtain ⟨cp0, cp1, cp2, cp3, cp4, cp5⟩ := Fp_1.t6
 go_wp2_with fail
 clear cp0 cp1 cp2 cp3 cp4 cp5
 refine (HO.out _).mono ?_
 rintro e w2 ⟨rfl, g2⟩
 have ⟨Fp_2, lp_2⟩ := CellsAt.gl (Fp_1) g2
 have z2 := (z1).trans g2
 clear Fp_1 z1 g2
 go_wp2_with fail
 refine (HW.out _ (hv.gr z2)).mono ?_
 rintro e w3 ⟨rfl, g3⟩
 have ⟨Fp_3, lp_3⟩ := CellsAt.gl (Fp_2) g3
 have z3 := (z2).trans g3
 clear Fp_2 z2 g3
 cases r
 all_goals
  go_wp2_with fail
  go_ret
  exact ⟨rfl, z3⟩
end
section
open Go.ChangeShapes Go.WideShapes Go.ChangeAt Go.RowKit Go.Shelf
set_option linter.unusedVariables false
set_option maxRecDepth 100000
theorem wideA_fn (f : FuncId) : Fence.wide.fn f = True := rfl
attribute [local go_sem] wideA_fn Oper.semAt_some
theorem divided_c (x d : Int) (wx : -9223372036854775808 ≤ x ∧ x ≤ 9223372036854775807) (h : 1 ≤ d) (w : World) :
 Calls Tryz.prog 204 #[.int .i64 x, .int .i64 d] w fun e w' => e = .returned (.int .i64 (x / d)) ∧ w' = w := by
 have HD := Lib.hid (div_ok x d wx h)
 clear wx h
 go_enter Tryz.func204, Tryz.ntmps204
 go_wp2_with (go_at_call 208; refine (HD.out _).mono ?_; rintro e w2 ⟨rfl, rfl⟩)
 go_ret
 exact ⟨rfl, rfl⟩
theorem hasArc_yes (x : Int) (h0 : 2 ≤ x) (h1 : x ≤ 17592186044416) (w : World) :
 Calls Tryz.prog 213 #[.int .i64 x] w fun e w' => e = .returned (.bool true) ∧ w' = w := by
 go_enter Tryz.func213, Tryz.ntmps213
 go_wp2
 go_ret
 exact ⟨rfl, rfl⟩
theorem terms_c (x : Int) (w : World) :
 Calls Tryz.prog 200 #[.int .i64 x] w fun e w' => e = .returned (.func (.func 203) #[] #[.pointer (some ⟨w.heap.size, 0, none⟩)]) ∧ w' = w.alloc (.cells #[.int .i64 x] 3) := by
 go_enter Tryz.func200, Tryz.ntmps200
 go_wp2
 go_ret
 exact ⟨rfl, rfl⟩
def IsT (m : Nat) (ys : List Int) : Prop := ∃ k, k ≤ 28 ∧ arcP m k = 0 ∧ (∀ j, j < k → 0 < arcP m j) ∧ ys = (List.range k).map (arcT m)
def sgn (j : Nat) : Int := if j % 2 = 1 then -1 else 1
theorem sgn_mul (m j : Nat) : sgn j * ((arcP m j : Int) / (2 * (j : Int) + 1)) = arcT m j := by
 have e : (arcP m j : Int) / (2 * (j : Int) + 1) = (arcM m j : Int) := by
  rw [arcM, Int.natCast_ediv]; simp
 rw [e, sgn, arcT]
 split <;> omega
theorem sgn_succ (j : Nat) : -sgn j = sgn (j + 1) := by
 unfold sgn
 by_cases h : j % 2 = 1
 ·rw [if_pos h, if_neg (by omega)]; rfl
 ·rw [if_neg h, if_pos (by omega)]
theorem sgn_bd (j : Nat) : -1 ≤ sgn j ∧ sgn j ≤ 1 := by unfold sgn; split <;> omega
theorem arcT_bd (m j : Nat) (h : 2 ≤ m) : -36028797018963968 ≤ arcT m j ∧ arcT m j ≤ 36028797018963968 := by
 have := arcM_top m j h
 unfold arcT
 split <;> omega
theorem arcP_cast (m j : Nat) : (arcP m (j + 1) : Int) = (arcP m j : Int) / (m : Int) / (m : Int) := by
 rw [arcP, Int.natCast_ediv, Int.natCast_ediv]
theorem arcL_succ (m j : Nat) : (List.range (j + 1)).map (arcT m) = (List.range j).map (arcT m) ++ [arcT m j] := by
 rw [List.range_succ, List.map_append]; rfl
set_option maxRecDepth 100000 in set_option maxHeartbeats 2000000 in
theorem terms1_in (n : Nat) (hn : 1 ≤ n) (l Bn B0 m : Nat) (m0 : 2 ≤ m) (m1 : m ≤ 17592186044416) (J Jx : List Int → World → Prop) (W0 : World) (hJ : AbidesFrom W0.heap.size J)
 (hY : ∀ pre x W, J pre W → pre.length < 28 → YieldAt Fence.wide (n - 1) Tryz.prog l #[.int .i64 x] W fun e W' =>
  (e = .returned (.bool true) ∧ J (pre ++ [x]) W' ∧ W'.heap[Bn]? = W.heap[Bn]?) ∨ (e = .returned (.bool false) ∧ Jx (pre ++ [x]) W'))
 (W : World) (hBn : Boxed W Bn 3 (.int .i64 m)) (h0 : J [] W) :
 CallsIn Fence.wide n Tryz.prog 203 #[.func (.yield l) #[] #[], .pointer (some ⟨Bn, 0, none⟩)] W fun e W' => (∃ v, e = .returned v) ∧
  ((∃ ys, IsT m ys ∧ J ys W') ∨ (∃ pre, True ∧ Jx pre W')) := by
 have hc := hBn.cell
 have HD1 := Lib.hid (divided_c 72057594037927936 m (by omega) (by omega))
 have e0 : ((72057594037927936 : Int) / (m : Int)) = (arcP m 0 : Int) := by rw [arcP, Int.natCast_ediv]; rfl
 rw [e0] at HD1
 clear e0
 have M1 := Lib.hid m1
 refine callsIn_of_wp Tryz.func203 rfl trivial ?_ rfl
 simp only [Tryz.ntmps203, List.size_toArray, List.length_cons, List.length_nil, Nat.reduceAdd, Nat.reduceSub, Array.replicate_succ, Array.replicate_zero, List.push_toArray, List.append_toArray, List.nil_append, List.cons_append]
 gi_wp2_with (gi_at_call 204; refine (callsIn_wide.2 (HD1.out _)).mono ?_; rintro e w2 ⟨rfl, rfl⟩)
 gi_loopw [3, 4, 5] (fun s d p wr => ∃ j : Nat, j ≤ 28 ∧ s = .int .i64 (sgn j) ∧ d = .int .i64 (2 * (j : Int) + 1) ∧ p = .int .i64 (arcP m j) ∧ Boxed wr Bn 3 (.int .i64 m) ∧ (∀ i, i < j → 0 < arcP m i) ∧ J ((List.range j).map (arcT m)) wr)
  (fun _ d _ _ => 100 - (intOf d).toNat)
 case atStart =>
  exact ⟨0, by omega, rfl, rfl, rfl, hBn, fun i hi => absurd hi (Nat.not_lt_zero _), h0⟩
 case round =>
  clear hc h0 hBn
  obtain ⟨j, hj, rfl, rfl, rfl, hb, hl, hJs⟩ := hrel
  have hc := hb.cell
  by_cases hp : arcP m j = 0
  ·have hp' : ((arcP m j : Int) != 0) = false := by simp [hp]
   gi_wp2
   go_end0
   exact ⟨⟨_, rfl⟩, .inl ⟨_, ⟨j, hj, hp, hl, rfl⟩, hJs⟩⟩
  ·have hp' : ((arcP m j : Int) != 0) = true := by simpa using hp
   have hj28 := arcP_live m j m0 (by omega)
   obtain ⟨fn, tmps, assign, body, hy, hR⟩ := hY _ (arcT m j) wr hJs (by simpa using hj28)
   have ht := arcP_top m j m0
   have HD := Lib.hid (divided_c (arcP m j) (2 * (j : Int) + 1) (by omega) (by omega))
   have E : wrap64 (sgn j * ((arcP m j : Int) / (2 * (j : Int) + 1))) = arcT m j := by
    rw [sgn_mul]
    have := arcT_bd m j m0
    exact IntWalk.wrap64_in _ ⟨by omega, by omega⟩
   rw [← E] at hy
   have HT := Lib.hid ht
   have HE := Lib.hid E
   clear E ht hc
   have hc := hb.cell
   gi_wp2_with (gi_at_call 204; refine (callsIn_wide.2 (HD.out _)).mono ?_; rintro e w2 ⟨rfl, rfl⟩)
   refine hR.mono ?_
   clear hy hR
   rintro e W3 (⟨rfl, hJ3, hk3⟩ | ⟨rfl, hJx3⟩)
   ·have hb3 : Boxed W3 Bn 3 (.int .i64 m) := hk3.trans hb
    clear hc hJs hk3
    have hc3 := hb3.cell
    have ht := HT.out
    have HA := Lib.hid (divided_c (arcP m j) m (by omega) (by omega))
    have hq : (arcP m j : Int) / (m : Int) ≤ 36028797018963968 := Int.le_trans (Int.ediv_le_self _ (by omega)) (by omega)
    have hq0 : 0 ≤ (arcP m j : Int) / (m : Int) := Int.ediv_nonneg (by omega) (by omega)
    have HB := Lib.hid (divided_c ((arcP m j : Int) / (m : Int)) m (by omega) (by omega))
    rw [← arcP_cast] at HB
    have sb := sgn_bd j
    clear ht hq hq0
    gi_wp2_with fail
    clear sb
    gi_quiet (first | (gi_at_call 204; with_reducible refine CallsIn.quiet_of_same (callsIn_wide.2 (HA.out _))) | (gi_at_call 204; with_reducible refine CallsIn.quiet_of_same (callsIn_wide.2 (HB.out _))))
    have hJ4 : J ((List.range (j + 1)).map (arcT m)) (W3.drewN nq) := by
     rw [arcL_succ]
     exact hJ _ _ _ none hJ3 ⟨rfl, rfl, rfl, Nat.le_refl _, fun _ _ _ => rfl⟩ (fun r e => by cases e)
    go_roundw
    case rel =>
     (repeat apply Exists.intro)
     refine ⟨?_, rfl⟩
     refine ⟨j + 1, by omega, by rw [sgn_succ], ?_, rfl, hb3, fun i hi => ?_, hJ4⟩
     ·congr 1
     ·by_cases hij : i = j
      ·rw [hij]; omega
      ·exact hl i (by omega)
    case measure => simp [intOf]; omega
   ·gi_wp2
    refine bodyPost_ret (results_none rfl _ _ _) rfl ?_
    exact ⟨⟨_, rfl⟩, .inr ⟨_, trivial, hJx3⟩⟩
theorem terms_stops (n : Nat) (hn : 1 ≤ n) (Bn m : Nat) (m0 : 2 ≤ m) (m1 : m ≤ 17592186044416) (w : World) (hb : Boxed w Bn 3 (.int .i64 m)) :
 SeqStopsK Fence.wide n Tryz.prog 203 #[.pointer (some ⟨Bn, 0, none⟩)] (fun x : Int => #[Value.int .i64 x]) (fun A B => B.heap[Bn]? = A.heap[Bn]?) (IsT m) (fun _ => True) 28 w := fun l J Jx W hW hJ _ hY h0 =>
 terms1_in n hn l Bn 0 m m0 m1 J Jx W hJ hY W ((hW.block Bn hb.lt).trans hb) h0
def sumW (xs : List Int) : Int := xs.foldl (fun s x => wrap64 (s + x)) 0
theorem sumW_snoc (xs : List Int) (x : Int) : sumW (xs ++ [x]) = wrap64 (sumW xs + x) := by simp [sumW]
theorem sumW_arc (m : Nat) (h : 2 ≤ m) : ∀ k, sumW ((List.range k).map (arcT m)) = arcS m k
 | 0 => rfl
 | k + 1 => by
   rw [arcL_succ, sumW_snoc, sumW_arc m h k]
   have := arcS_bd m (k + 1) h
   exact IntWalk.wrap64_in _ ⟨by rw [arcS] at this; omega, by rw [arcS] at this; omega⟩
theorem IsT.sum {m : Nat} {ys : List Int} (h : IsT m ys) (m0 : 2 ≤ m) : sumW ys = (arcOf m : Int) := by
 obtain ⟨k, hk, h0, _, rfl⟩ := h
 rw [sumW_arc m m0, arcS_all m k m0 (by omega) h0]
set_option maxRecDepth 100000 in set_option maxHeartbeats 2000000 in
theorem sum_c (Bn m : Nat) (m0 : 2 ≤ m) (m1 : m ≤ 17592186044416) (w : World) (hbn : Boxed w Bn 3 (.int .i64 m)) :
 Calls Tryz.prog 199 #[.func (.func 203) #[] #[.pointer (some ⟨Bn, 0, none⟩)]] w fun e w' => e = .returned (.int .i64 (arcOf m)) ∧ Gr w w' := by
 refine (callsIn_wide (n := 5)).1 ?_
 refine callsIn_of_wp_marks Tryz.func199 rfl trivial ?_ rfl
 simp only [Tryz.ntmps199, List.size_toArray, List.length_cons, List.length_nil, Nat.reduceAdd, Nat.reduceSub, Array.replicate_succ, Array.replicate_zero, List.push_toArray, List.append_toArray, List.nil_append, List.cons_append]
 gi_wp2
 have hs := And.intro (Boxed.new w 3 (.int .i64 0)).cell (Boxed.new w 3 (.int .i64 0)).frozen
 have hB0 : Below w.heap.size w (w.alloc (.cells #[.int .i64 0] 3)) := (Below.refl _ w).alloc (Nat.le_refl _) _
 refine wpIn_rangeFunc_ownF rfl (by omega) (gf := 203) (lb := #[.pointer (some ⟨Bn, 0, none⟩)]) rfl trivial (enters_of Tryz.func203 (by kernel_rfl) rfl)
  (terms_stops 4 (by omega) Bn m m0 m1 w hbn) (fun h k => k.trans h)
  (fun W l o o' hl h _ _ => World.putObj_heap_other (fun e => by have := hbn.lt; simp at hl; omega)) hB0 (fun _ => rfl)
  (fun pre W => (W.cell? ⟨w.heap.size, 0, none⟩ = some (.int .i64 (sumW pre)) ∧ W.frozen? ⟨w.heap.size, 0, none⟩ = false) ∧ Below w.heap.size w W)
  (fun _ _ _ => False)
  (OwnFrom.and (Own.from (fun s A B row hs hg hr => ⟨cell_kept hs.1 hg hr, (frozen_kept hs.1 hg hr).trans hs.2⟩) _) (ownFrom_below (Nat.le_refl _) (by simp)))
  (fun _ _ _ _ _ hs _ _ => hs)
  ⟨⟨hs.1, hs.2⟩, hB0⟩
  (fun x => { tmps := #[.func (.func 203) #[] #[.pointer (some ⟨Bn, 0, none⟩)], undef, .int .i64 0, .pointer (some ⟨w.heap.size, 0, none⟩), .int .i64 x, .func (.func 203) #[] #[.pointer (some ⟨Bn, 0, none⟩)], .int .i64 x, undef, undef, undef, undef], defers := [] }) ?assign ?body ?done ?stop
 case assign =>
  intro l x W K hK
  gi_wp2
  exact hK
 case body =>
  rintro l pre x W ⟨⟨hc, hf⟩, hB⟩ _
  gi_wp2
  refine ⟨KeepsOthers.setCell _ _ _, Below.heap_setCell _ _ _ _ ?_, ⟨by rw [sumW_snoc]; exact World.cell?_setCell_same' _ _ _ (by rw [hc]; rfl), by rw [World.frozen?_setCell]; exact hf⟩, hB.setCell (p := ⟨w.heap.size, 0, none⟩) (Nat.le_refl _) _⟩
  have := hbn.lt
  simp; omega
 case done =>
  rintro D ys W hD hS ⟨⟨hc, _⟩, hB⟩ hK
  rw [hS.sum m0] at hc
  gi_wp2
  refine ⟨by simp, .inl ⟨_, _, rfl, run_takeDeferred hK, ?_⟩⟩
  exact ⟨_, results_tmp rfl _ _ _, rfl, ⟨hB.trans (belowK_b (w := w) (Nat.le_refl _) W D _ _ (by simp at hD; omega) hK rfl rfl)⟩⟩
 case stop =>
  rintro D c pre W _ _ h _
  exact h.elim
end
section
open Go.ChangeShapes Go.WideShapes Go.ChangeAt Go.RowKit Go.Shelf
set_option linter.unusedVariables false
attribute [local go_sem] wideA_fn Oper.semAt_some
theorem arc_ok (m : Nat) (m0 : 2 ≤ m) (m1 : m ≤ 17592186044416) (w : World) :
 Calls Tryz.prog 212 #[.int .i64 m] w fun e w' => e = .returned (.tuple #[.int .i64 (arcOf m), .int .i64 0]) ∧ Gr w w' := by
 have HH := Lib.hid (hasArc_yes m (by omega) (by omega))
 have HT := Lib.hid (terms_c m)
 have HS := Lib.hid fun W => sum_c W.heap.size m m0 m1 (W.alloc (.cells #[.int .i64 m] 3)) (Boxed.new W _ _)
 clear m0 m1
 go_enter Tryz.func212, Tryz.ntmps212
 go_wp2_with (first
  | (go_at_call 213; refine (HH.out _).mono ?_; rintro e w1 ⟨rfl, rfl⟩)
  | (go_at_call 200; refine (HT.out _).mono ?_; rintro e w2 ⟨rfl, rfl⟩)
  | (go_at_call 199; refine (HS.out _).mono ?_; rintro e w3 ⟨rfl, hg⟩))
 go_ret2
 exact ⟨rfl, Gr.trans ((Gr.refl _).alloc _ _) hg⟩
theorem arc_2 : arcOf 2 = 33409331186036029 := by decide +kernel
theorem arc_3 : arcOf 3 = 23184570830191493 := by decide +kernel
theorem quarter_c (w : World) :
 Calls Tryz.prog 195 #[] w fun e w' => e = .returned (.int .i64 56593902016227522) ∧ Gr w w' := by
 have HT2 := Lib.hid (terms_c 2)
 have HT3 := Lib.hid (terms_c 3)
 have HS2 := Lib.hid fun W => sum_c W.heap.size 2 (by omega) (by omega) (W.alloc (.cells #[.int .i64 2] 3)) (Boxed.new W _ _)
 have HS3 := Lib.hid fun W => sum_c W.heap.size 3 (by omega) (by omega) (W.alloc (.cells #[.int .i64 3] 3)) (Boxed.new W _ _)
 rw [arc_2] at HS2
 rw [arc_3] at HS3
 go_enter Tryz.func195, Tryz.ntmps195
 go_wp2_with (first
  | (go_at_call 200; with_reducible refine (HT2.out _).mono ?_; rintro e w1 ⟨rfl, rfl⟩)
  | (go_at_call 199; with_reducible refine (HS2.out _).mono ?_; rintro e w2 ⟨rfl, hg2⟩; clear HS2 HT2)
  | (go_at_call 200; with_reducible refine (HT3.out _).mono ?_; rintro e w3 ⟨rfl, rfl⟩)
  | (go_at_call 199; with_reducible refine (HS3.out _).mono ?_; rintro e w4 ⟨rfl, hg4⟩))
 go_ret
 exact ⟨rfl, (Gr.trans ((Gr.refl _).alloc _ _) hg2).trans (Gr.trans ((Gr.refl _).alloc _ _) hg4)⟩
end
end Go.Proofs.YtcgeabpibkejpaaGreat
