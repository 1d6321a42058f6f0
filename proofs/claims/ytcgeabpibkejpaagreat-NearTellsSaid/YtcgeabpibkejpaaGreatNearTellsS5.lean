import Derived.Test.YtcgeabpibkejpaaGreatNearTellsS4
namespace Go.Proofs.YtcgeabpibkejpaaGreat
section
open Go.ChangeShapes Go.WideShapes Go.ChangeAt Go.RowKit
set_option linter.unusedVariables false
set_option linter.unusedSimpArgs false
set_option maxRecDepth 100000
def partIn (l h : Int) (a : Gi) : Bool := decide ((l ≤ a.re ∧ a.re ≤ h) ∧ (l ≤ a.im ∧ a.im ≤ h))
def partsB (l h : Int) (xs : List Gi) : Bool := xs.all (partIn l h)
theorem partsB_no {l h : Int} {xs : List Gi} {k : Nat} {a : Gi} (hk : xs[k]? = some a) (g : partIn l h a = false) : partsB l h xs = false := by
 unfold partsB
 rw [Bool.eq_false_iff, Ne, List.all_eq_true]
 intro H
 rw [H a (List.mem_of_getElem? hk)] at g
 cases g
theorem partsB_snoc {l h : Int} {xs : List Gi} {k : Nat} {a : Gi} (hk : xs[k]? = some a) (h1 : partsB l h (xs.take k) = true) (g : partIn l h a = true) : partsB l h (xs.take (k + 1)) = true := by
 rw [take_snoc hk]
 unfold partsB at *
 rw [List.all_append, h1]
 simp [g]
set_option maxHeartbeats 2000000 in
theorem parts15_c (v : Value) (xs : List Gi) (l h : Int) (w : World) (hv : CxsAt w v xs) :
 Calls Tryz.prog 28 #[v, .int .i64 l, .int .i64 h] w fun e w' => e = .returned (.bool (partsB l h xs)) ∧ Gr w w' := by
 by_cases hx0 : xs = []
 ·subst hx0
  obtain ⟨p, cap, rfl⟩ := hv.len
  rw [show ([] : List Gi).length = 0 from rfl]
  clear hv
  go_enter Tryz.func28, Tryz.ntmps28
  go_wp2_with fail
  go_loopw [11] (fun i wr => i = .int .i64 0 ∧ Gr w wr) (fun i _ => 0 - (intOf i).toNat)
  case atStart => exact ⟨rfl, Gr.refl _⟩
  case round =>
   obtain ⟨rfl, hg⟩ := hrel
   go_wp2_with fail
   go_ret
   exact ⟨rfl, hg⟩
 ·obtain ⟨b, o, cap, rfl, hlen, hb, hc⟩ := hv.at hx0
  have HC := Lib.hid hc
  clear hc hv hx0
  go_enter Tryz.func28, Tryz.ntmps28
  go_wp2_with fail
  go_loopw [11] (fun i wr => ∃ k : Nat, k ≤ xs.length ∧ i = .int .i64 k ∧ partsB l h (xs.take k) = true ∧ Gr w wr) (fun i _ => xs.length - (intOf i).toNat)
  case atStart => exact ⟨0, Nat.zero_le _, rfl, rfl, Gr.refl _⟩
  case round =>
   obtain ⟨k, hk, rfl, hp, hg⟩ := hrel
   by_cases hlt : k < xs.length
   ·obtain ⟨x, hx⟩ := get_of_lt hlt
    have h1 := (hg.cell (p := ⟨b, o + k * 2, none⟩) hb).trans (HC.out k x hx).1
    have h2 := (hg.cell (p := ⟨b, o + k * 2 + 1, none⟩) hb).trans (HC.out k x hx).2
    have hlI : (k : Int) < (xs.length : Int) := by omega
    obtain ⟨re, im⟩ := x
    simp only at h1 h2
    by_cases q1 : l ≤ re
    ·by_cases q2 : re ≤ h
     ·by_cases q3 : l ≤ im
      ·by_cases q4 : im ≤ h
       ·have hs := Lib.hid (partsB_snoc hx hp (show partIn l h (Gi.mk re im) = true by simp only [partIn]; simp; omega))
        go_wp2_with fail
        go_roundw
        case rel => exact ⟨k + 1, by omega, by go_num, hs.out, hg.alloc _ _⟩
        case measure => simp [intOf]; omega
       ·skip
        have hb : partIn l h (Gi.mk re im) = false := by simp only [partIn]; simp; omega
        go_wp2_with fail
        go_ret
        exact ⟨by rw [partsB_no hx hb]; rfl, hg.alloc _ _⟩
      ·skip
       have hb : partIn l h (Gi.mk re im) = false := by simp only [partIn]; simp; omega
       go_wp2_with fail
       go_ret
       exact ⟨by rw [partsB_no hx hb]; rfl, hg.alloc _ _⟩
     ·skip
      have hb : partIn l h (Gi.mk re im) = false := by simp only [partIn]; simp; omega
      go_wp2_with fail
      go_ret
      exact ⟨by rw [partsB_no hx hb]; rfl, hg.alloc _ _⟩
    ·skip
     have hb : partIn l h (Gi.mk re im) = false := by simp only [partIn]; simp; omega
     go_wp2_with fail
     go_ret
     exact ⟨by rw [partsB_no hx hb]; rfl, hg.alloc _ _⟩
   ·obtain rfl : k = xs.length := by omega
    have hlI : ¬ (xs.length : Int) < (xs.length : Int) := by omega
    rw [List.take_length] at hp
    go_wp2_with fail
    go_ret
    exact ⟨by first | rfl | (rw [hp]; rfl) | simp, hg⟩
set_option maxHeartbeats 2000000 in
theorem may15_plan (v : Value) (fo lo ke sc mo : Int) (iv op : Bool) (HC : CR 25 #[.agg #[.int .i64 fo, .int .i64 lo, .int .i64 ke, .int .i64 sc, .int .i64 mo, .bool iv]] (.bool false)) (w : World) :
 Calls Tryz.prog 10 #[v, .agg #[.int .i64 fo, .int .i64 lo, .int .i64 ke, .int .i64 sc, .int .i64 mo, .bool iv], .bool op] w fun e w' => e = .returned (.int .i64 4) ∧ Gr w w' := by
 go_enter Tryz.func10, Tryz.ntmps10
 go_wp2_with fail
 obtain ⟨u0, hu⟩ : ∃ uu, uu = w.alloc (.cells #[.int .i64 fo, .int .i64 lo, .int .i64 ke, .int .i64 sc, .int .i64 mo, .bool iv] 24) := ⟨_, rfl⟩
 have R0 : CellsAt u0 w.heap.size 24 #[.int .i64 fo, .int .i64 lo, .int .i64 ke, .int .i64 sc, .int .i64 mo, .bool iv] := by rw [hu]; exact CellsAt.new w 24 _
 have y0 : Gr w u0 := by rw [hu]; exact (Gr.refl w).alloc _ _
 rw [← hu]
 clear hu
 refine (HC.out _).mono ?_
 rintro e w1 ⟨rfl, g1⟩
 have R1 := R0.gr g1
 have y1 := y0.trans g1
 have l1 := R1.lt
 clear R0 y0 g1
 go_wp2_with fail
 go_ret
 exact ⟨rfl, y1⟩
set_option maxHeartbeats 2000000 in
theorem may15_size (p : Option Addr) (len cap : Nat) (fo lo ke sc mo n : Int) (iv op : Bool) (hn : ((len : Int) == n) = false) (HC : CR 25 #[.agg #[.int .i64 fo, .int .i64 lo, .int .i64 ke, .int .i64 sc, .int .i64 mo, .bool iv]] (.bool true)) (HP : CR 26 #[.int .i64 lo] (.int .i64 n)) (w : World) :
 Calls Tryz.prog 10 #[.slice p len cap, .agg #[.int .i64 fo, .int .i64 lo, .int .i64 ke, .int .i64 sc, .int .i64 mo, .bool iv], .bool op] w fun e w' => e = .returned (.int .i64 3) ∧ Gr w w' := by
 go_enter Tryz.func10, Tryz.ntmps10
 go_wp2_with fail
 obtain ⟨u0, hu⟩ : ∃ uu, uu = w.alloc (.cells #[.int .i64 fo, .int .i64 lo, .int .i64 ke, .int .i64 sc, .int .i64 mo, .bool iv] 24) := ⟨_, rfl⟩
 have R0 : CellsAt u0 w.heap.size 24 #[.int .i64 fo, .int .i64 lo, .int .i64 ke, .int .i64 sc, .int .i64 mo, .bool iv] := by rw [hu]; exact CellsAt.new w 24 _
 have y0 : Gr w u0 := by rw [hu]; exact (Gr.refl w).alloc _ _
 rw [← hu]
 clear hu
 refine (HC.out _).mono ?_
 rintro e w1 ⟨rfl, g1⟩
 have R1 := R0.gr g1
 have y1 := y0.trans g1
 have l1 := R1.lt
 clear R0 y0 g1
 have c0 := CellsAt.cell R1 0
 have c1 := CellsAt.cell R1 1
 have c2 := CellsAt.cell R1 2
 have c3 := CellsAt.cell R1 3
 have c4 := CellsAt.cell R1 4
 have c5 := CellsAt.cell R1 5
 simp only [getS] at c0 c1 c2 c3 c4 c5
 go_wp2_with fail
 clear c0 c1 c2 c3 c4 c5
 refine (HP.out _).mono ?_
 rintro e w2 ⟨rfl, g2⟩
 have R2 := R1.gr g2
 have y2 := y1.trans g2
 have l2 := R2.lt
 clear R1 y1 g2
 go_wp2_with fail
 go_ret
 exact ⟨rfl, y2⟩
set_option maxHeartbeats 2000000 in
theorem may15_oy (p : Option Addr) (len cap : Nat) (xs : List Gi) (fo lo ke sc mo n q : Int) (iv : Bool) (hn : ((len : Int) == n) = true) (q0 : 0 ≤ q) (q1 : q ≤ 2147483648) (HC : CR 25 #[.agg #[.int .i64 fo, .int .i64 lo, .int .i64 ke, .int .i64 sc, .int .i64 mo, .bool iv]] (.bool true)) (HP : CR 26 #[.int .i64 lo] (.int .i64 n)) (HO : CR 27 #[.int .i64 fo] (.int .i64 q))
 (HA : Hid (∀ W, CxsAt W (.slice p len cap) xs → Calls Tryz.prog 28 #[.slice p len cap, .int .i64 (-q), .int .i64 q] W fun e w' => e = .returned (.bool true) ∧ Gr W w')) (w : World) (hv : CxsAt w (.slice p len cap) xs) :
 Calls Tryz.prog 10 #[.slice p len cap, .agg #[.int .i64 fo, .int .i64 lo, .int .i64 ke, .int .i64 sc, .int .i64 mo, .bool iv], .bool true] w fun e w' => e = .returned (.int .i64 0) ∧ Gr w w' := by
 go_enter Tryz.func10, Tryz.ntmps10
 go_wp2_with fail
 obtain ⟨u0, hu⟩ : ∃ uu, uu = w.alloc (.cells #[.int .i64 fo, .int .i64 lo, .int .i64 ke, .int .i64 sc, .int .i64 mo, .bool iv] 24) := ⟨_, rfl⟩
 have R0 : CellsAt u0 w.heap.size 24 #[.int .i64 fo, .int .i64 lo, .int .i64 ke, .int .i64 sc, .int .i64 mo, .bool iv] := by rw [hu]; exact CellsAt.new w 24 _
 have y0 : Gr w u0 := by rw [hu]; exact (Gr.refl w).alloc _ _
 rw [← hu]
 clear hu
 refine (HC.out _).mono ?_
 rintro e w1 ⟨rfl, g1⟩
 have R1 := R0.gr g1
 have y1 := y0.trans g1
 have l1 := R1.lt
 clear R0 y0 g1
 have c0 := CellsAt.cell R1 0
 have c1 := CellsAt.cell R1 1
 have c2 := CellsAt.cell R1 2
 have c3 := CellsAt.cell R1 3
 have c4 := CellsAt.cell R1 4
 have c5 := CellsAt.cell R1 5
 simp only [getS] at c0 c1 c2 c3 c4 c5
 go_wp2_with fail
 clear c0 c1 c2 c3 c4 c5
 refine (HP.out _).mono ?_
 rintro e w2 ⟨rfl, g2⟩
 have R2 := R1.gr g2
 have y2 := y1.trans g2
 have l2 := R2.lt
 clear R1 y1 g2
 have c0 := CellsAt.cell R2 0
 have c1 := CellsAt.cell R2 1
 have c2 := CellsAt.cell R2 2
 have c3 := CellsAt.cell R2 3
 have c4 := CellsAt.cell R2 4
 have c5 := CellsAt.cell R2 5
 simp only [getS] at c0 c1 c2 c3 c4 c5
 go_wp2_with fail
 clear c0 c1 c2 c3 c4 c5
 refine (HO.out _).mono ?_
 rintro e w3 ⟨rfl, g3⟩
 have R3 := R2.gr g3
 have y3 := y2.trans g3
 have l3 := R3.lt
 clear R2 y2 g3
 go_wp2_with fail
 refine (HA.out _ (hv.gr y3)).mono ?_
 rintro e w4 ⟨rfl, g4⟩
 go_wp2_with fail
 go_ret
 exact ⟨rfl, y3.trans g4⟩
set_option maxHeartbeats 2000000 in
theorem may15_on (p : Option Addr) (len cap : Nat) (xs : List Gi) (fo lo ke sc mo n q : Int) (iv : Bool) (hn : ((len : Int) == n) = true) (q0 : 0 ≤ q) (q1 : q ≤ 2147483648) (HC : CR 25 #[.agg #[.int .i64 fo, .int .i64 lo, .int .i64 ke, .int .i64 sc, .int .i64 mo, .bool iv]] (.bool true)) (HP : CR 26 #[.int .i64 lo] (.int .i64 n)) (HO : CR 27 #[.int .i64 fo] (.int .i64 q))
 (HA : Hid (∀ W, CxsAt W (.slice p len cap) xs → Calls Tryz.prog 28 #[.slice p len cap, .int .i64 (-q), .int .i64 q] W fun e w' => e = .returned (.bool false) ∧ Gr W w')) (w : World) (hv : CxsAt w (.slice p len cap) xs) :
 Calls Tryz.prog 10 #[.slice p len cap, .agg #[.int .i64 fo, .int .i64 lo, .int .i64 ke, .int .i64 sc, .int .i64 mo, .bool iv], .bool true] w fun e w' => e = .returned (.int .i64 2) ∧ Gr w w' := by
 go_enter Tryz.func10, Tryz.ntmps10
 go_wp2_with fail
 obtain ⟨u0, hu⟩ : ∃ uu, uu = w.alloc (.cells #[.int .i64 fo, .int .i64 lo, .int .i64 ke, .int .i64 sc, .int .i64 mo, .bool iv] 24) := ⟨_, rfl⟩
 have R0 : CellsAt u0 w.heap.size 24 #[.int .i64 fo, .int .i64 lo, .int .i64 ke, .int .i64 sc, .int .i64 mo, .bool iv] := by rw [hu]; exact CellsAt.new w 24 _
 have y0 : Gr w u0 := by rw [hu]; exact (Gr.refl w).alloc _ _
 rw [← hu]
 clear hu
 refine (HC.out _).mono ?_
 rintro e w1 ⟨rfl, g1⟩
 have R1 := R0.gr g1
 have y1 := y0.trans g1
 have l1 := R1.lt
 clear R0 y0 g1
 have c0 := CellsAt.cell R1 0
 have c1 := CellsAt.cell R1 1
 have c2 := CellsAt.cell R1 2
 have c3 := CellsAt.cell R1 3
 have c4 := CellsAt.cell R1 4
 have c5 := CellsAt.cell R1 5
 simp only [getS] at c0 c1 c2 c3 c4 c5
 go_wp2_with fail
 clear c0 c1 c2 c3 c4 c5
 refine (HP.out _).mono ?_
 rintro e w2 ⟨rfl, g2⟩
 have R2 := R1.gr g2
 have y2 := y1.trans g2
 have l2 := R2.lt
 clear R1 y1 g2
 have c0 := CellsAt.cell R2 0
 have c1 := CellsAt.cell R2 1
 have c2 := CellsAt.cell R2 2
 have c3 := CellsAt.cell R2 3
 have c4 := CellsAt.cell R2 4
 have c5 := CellsAt.cell R2 5
 simp only [getS] at c0 c1 c2 c3 c4 c5
 go_wp2_with fail
 clear c0 c1 c2 c3 c4 c5
 refine (HO.out _).mono ?_
 rintro e w3 ⟨rfl, g3⟩
 have R3 := R2.gr g3
 have y3 := y2.trans g3
 have l3 := R3.lt
 clear R2 y2 g3
 go_wp2_with fail
 refine (HA.out _ (hv.gr y3)).mono ?_
 rintro e w4 ⟨rfl, g4⟩
 go_wp2_with fail
 go_ret
 exact ⟨rfl, y3.trans g4⟩
set_option maxHeartbeats 2000000 in
theorem may15_cy (p : Option Addr) (len cap : Nat) (xs : List Gi) (fo lo ke sc mo n q : Int) (iv : Bool) (hn : ((len : Int) == n) = true) (q0 : 0 ≤ q) (q1 : q ≤ 2147483648) (HC : CR 25 #[.agg #[.int .i64 fo, .int .i64 lo, .int .i64 ke, .int .i64 sc, .int .i64 mo, .bool iv]] (.bool true)) (HP : CR 26 #[.int .i64 lo] (.int .i64 n)) (HO : CR 27 #[.int .i64 fo] (.int .i64 q))
 (HA : Hid (∀ W, CxsAt W (.slice p len cap) xs → Calls Tryz.prog 28 #[.slice p len cap, .int .i64 (-q), .int .i64 (q - 1)] W fun e w' => e = .returned (.bool true) ∧ Gr W w')) (w : World) (hv : CxsAt w (.slice p len cap) xs) :
 Calls Tryz.prog 10 #[.slice p len cap, .agg #[.int .i64 fo, .int .i64 lo, .int .i64 ke, .int .i64 sc, .int .i64 mo, .bool iv], .bool false] w fun e w' => e = .returned (.int .i64 0) ∧ Gr w w' := by
 go_enter Tryz.func10, Tryz.ntmps10
 go_wp2_with fail
 obtain ⟨u0, hu⟩ : ∃ uu, uu = w.alloc (.cells #[.int .i64 fo, .int .i64 lo, .int .i64 ke, .int .i64 sc, .int .i64 mo, .bool iv] 24) := ⟨_, rfl⟩
 have R0 : CellsAt u0 w.heap.size 24 #[.int .i64 fo, .int .i64 lo, .int .i64 ke, .int .i64 sc, .int .i64 mo, .bool iv] := by rw [hu]; exact CellsAt.new w 24 _
 have y0 : Gr w u0 := by rw [hu]; exact (Gr.refl w).alloc _ _
 rw [← hu]
 clear hu
 refine (HC.out _).mono ?_
 rintro e w1 ⟨rfl, g1⟩
 have R1 := R0.gr g1
 have y1 := y0.trans g1
 have l1 := R1.lt
 clear R0 y0 g1
 have c0 := CellsAt.cell R1 0
 have c1 := CellsAt.cell R1 1
 have c2 := CellsAt.cell R1 2
 have c3 := CellsAt.cell R1 3
 have c4 := CellsAt.cell R1 4
 have c5 := CellsAt.cell R1 5
 simp only [getS] at c0 c1 c2 c3 c4 c5
 go_wp2_with fail
 clear c0 c1 c2 c3 c4 c5
 refine (HP.out _).mono ?_
 rintro e w2 ⟨rfl, g2⟩
 have R2 := R1.gr g2
 have y2 := y1.trans g2
 have l2 := R2.lt
 clear R1 y1 g2
 have c0 := CellsAt.cell R2 0
 have c1 := CellsAt.cell R2 1
 have c2 := CellsAt.cell R2 2
 have c3 := CellsAt.cell R2 3
 have c4 := CellsAt.cell R2 4
 have c5 := CellsAt.cell R2 5
 simp only [getS] at c0 c1 c2 c3 c4 c5
 go_wp2_with fail
 clear c0 c1 c2 c3 c4 c5
 refine (HO.out _).mono ?_
 rintro e w3 ⟨rfl, g3⟩
 have R3 := R2.gr g3
 have y3 := y2.trans g3
 have l3 := R3.lt
 clear R2 y2 g3
 go_wp2_with fail
 refine (HA.out _ (hv.gr y3)).mono ?_
 rintro e w4 ⟨rfl, g4⟩
 go_wp2_with fail
 go_ret
 exact ⟨rfl, y3.trans g4⟩
set_option maxHeartbeats 2000000 in
theorem may15_cn (p : Option Addr) (len cap : Nat) (xs : List Gi) (fo lo ke sc mo n q : Int) (iv : Bool) (hn : ((len : Int) == n) = true) (q0 : 0 ≤ q) (q1 : q ≤ 2147483648) (HC : CR 25 #[.agg #[.int .i64 fo, .int .i64 lo, .int .i64 ke, .int .i64 sc, .int .i64 mo, .bool iv]] (.bool true)) (HP : CR 26 #[.int .i64 lo] (.int .i64 n)) (HO : CR 27 #[.int .i64 fo] (.int .i64 q))
 (HA : Hid (∀ W, CxsAt W (.slice p len cap) xs → Calls Tryz.prog 28 #[.slice p len cap, .int .i64 (-q), .int .i64 (q - 1)] W fun e w' => e = .returned (.bool false) ∧ Gr W w')) (w : World) (hv : CxsAt w (.slice p len cap) xs) :
 Calls Tryz.prog 10 #[.slice p len cap, .agg #[.int .i64 fo, .int .i64 lo, .int .i64 ke, .int .i64 sc, .int .i64 mo, .bool iv], .bool false] w fun e w' => e = .returned (.int .i64 2) ∧ Gr w w' := by
 go_enter Tryz.func10, Tryz.ntmps10
 go_wp2_with fail
 obtain ⟨u0, hu⟩ : ∃ uu, uu = w.alloc (.cells #[.int .i64 fo, .int .i64 lo, .int .i64 ke, .int .i64 sc, .int .i64 mo, .bool iv] 24) := ⟨_, rfl⟩
 have R0 : CellsAt u0 w.heap.size 24 #[.int .i64 fo, .int .i64 lo, .int .i64 ke, .int .i64 sc, .int .i64 mo, .bool iv] := by rw [hu]; exact CellsAt.new w 24 _
 have y0 : Gr w u0 := by rw [hu]; exact (Gr.refl w).alloc _ _
 rw [← hu]
 clear hu
 refine (HC.out _).mono ?_
 rintro e w1 ⟨rfl, g1⟩
 have R1 := R0.gr g1
 have y1 := y0.trans g1
 have l1 := R1.lt
 clear R0 y0 g1
 have c0 := CellsAt.cell R1 0
 have c1 := CellsAt.cell R1 1
 have c2 := CellsAt.cell R1 2
 have c3 := CellsAt.cell R1 3
 have c4 := CellsAt.cell R1 4
 have c5 := CellsAt.cell R1 5
 simp only [getS] at c0 c1 c2 c3 c4 c5
 go_wp2_with fail
 clear c0 c1 c2 c3 c4 c5
 refine (HP.out _).mono ?_
 rintro e w2 ⟨rfl, g2⟩
 have R2 := R1.gr g2
 have y2 := y1.trans g2
 have l2 := R2.lt
 clear R1 y1 g2
 have c0 := CellsAt.cell R2 0
 have c1 := CellsAt.cell R2 1
 have c2 := CellsAt.cell R2 2
 have c3 := CellsAt.cell R2 3
 have c4 := CellsAt.cell R2 4
 have c5 := CellsAt.cell R2 5
 simp only [getS] at c0 c1 c2 c3 c4 c5
 go_wp2_with fail
 clear c0 c1 c2 c3 c4 c5
 refine (HO.out _).mono ?_
 rintro e w3 ⟨rfl, g3⟩
 have R3 := R2.gr g3
 have y3 := y2.trans g3
 have l3 := R3.lt
 clear R2 y2 g3
 go_wp2_with fail
 refine (HA.out _ (hv.gr y3)).mono ?_
 rintro e w4 ⟨rfl, g4⟩
 go_wp2_with fail
 go_ret
 exact ⟨rfl, y3.trans g4⟩
end
section
set_option linter.unusedVariables false
set_option maxRecDepth 100000
def upB (n : Int) (s : Nat) : Int := -(-n / 2 ^ s)
def baseB (k : Int) : Int := if k = 2 then 224 else 288
def stepB (e k sc s : Int) : Int := if sc = 2 then (if k = 2 then 2 * e + 608 else 4 * e + 1632) else if k = 2 then upB (2 * e) s.toNat + 224 else upB (4 * e) s.toNat + 288
def startB (sc : Int) : Int := if sc = 0 then 91 else 0
def topB (sc k : Int) : Int := if sc = 2 then 0 else if (sc = 1 ∧ k = 2) ∨ (sc = 0 ∧ k = 4) then 2 else if sc = 1 then 3 else 1
def fitB (sc k l : Int) : Bool := decide (0 ≤ l ∧ l ≤ topB sc k) && (decide (sc = 1) || decide (l = topB sc k))
def fitsB (sc : Int) : List Gi → List Int → Bool
 | [], [] => true
 | p :: ps, l :: ls => fitB sc p.re l && fitsB sc ps ls
 | _, _ => false
def runB (sc : Int) (e : Int) : List Gi → List Int → Int
 | p :: ps, l :: ls => runB sc (stepB e p.re sc l) ps ls
 | _, _ => e
def ofB (sc ke lo : Int) (l : List Int) : Int := runB sc (startB sc) (passL ke lo) l + (if ke = 2 then 224 * lo else 0)
def mayB (e k sc s : Int) : Bool := decide (0 ≤ e ∧ e ≤ 1099511627776) && ((decide (k = 2) || decide (k = 4)) && (decide (0 ≤ sc ∧ sc ≤ 2) && decide (0 ≤ s ∧ s ≤ 3)))
theorem mayB_iff {e k sc s : Int} : mayB e k sc s = true ↔ (0 ≤ e ∧ e ≤ 1099511627776) ∧ (k = 2 ∨ k = 4) ∧ (0 ≤ sc ∧ sc ≤ 2) ∧ (0 ≤ s ∧ s ≤ 3) := by simp [mayB]
theorem fitB_iff {sc k l : Int} : fitB sc k l = true ↔ (0 ≤ l ∧ l ≤ topB sc k) ∧ (sc = 1 ∨ l = topB sc k) := by simp [fitB]
theorem upB_pos (a : Int) (s : Nat) (h : 0 ≤ a) (hs : s ≤ 4) : 0 ≤ upB a s ∧ upB a s ≤ a ∧ a ≤ 16 * upB a s := by
 have hs : s = 0 ∨ s = 1 ∨ s = 2 ∨ s = 3 ∨ s = 4 := by omega
 unfold upB
 rcases hs with rfl | rfl | rfl | rfl | rfl <;> simp only [Int.reducePow] <;> omega
theorem stepB_pos (e k sc s : Int) (he : 0 ≤ e) (hs : s ≤ 4) : 0 ≤ stepB e k sc s ∧ stepB e k sc s ≤ 4 * e + 1632 := by
 have h2 := upB_pos (2 * e) s.toNat (by omega) (by omega)
 have h4 := upB_pos (4 * e) s.toNat (by omega) (by omega)
 unfold stepB
 repeat' split
 all_goals omega
theorem topB_le (sc k : Int) : 0 ≤ topB sc k ∧ topB sc k ≤ 3 := by
 unfold topB
 repeat' split
 all_goals omega
theorem fitsB_len (sc : Int) (ps : List Gi) : ∀ ls : List Int, fitsB sc ps ls = true → ls.length = ps.length := by
 induction ps with
 | nil => intro ls h; cases ls with | nil => rfl | cons l ls => cases h
 | cons p ps ih =>
   intro ls h
   cases ls with
   | nil => cases h
   | cons l ls =>
     simp only [fitsB, Bool.and_eq_true] at h
     simp [ih ls h.2]
theorem passG_kern (ke lo n : Int) : ∀ (f : Nat) (h : Int), ∀ x ∈ passG ke lo n f h, x.re = 2 ∨ x.re = 4
 | 0, h, x, hx => by cases hx
 | f + 1, h, x, hx => by
   unfold passG at hx
   split at hx
   ·rcases List.mem_cons.1 hx with rfl | hx
    ·simp only [passK]; split <;> simp
    ·exact passG_kern ke lo n f _ x hx
   ·cases hx
theorem passL_kern (ke lo : Int) : ∀ x ∈ passL ke lo, x.re = 2 ∨ x.re = 4 := by
 unfold passL
 split
 ·intro x hx; cases hx
 ·exact passG_kern _ _ _ _ _
theorem passL_len6 (ke lo : Int) (k0 : 0 ≤ ke) (k1 : ke < 3) (h0 : 2 ≤ lo) (h1 : lo < 7) : (passL ke lo).length ≤ 6 := by
 have hk : ke = 0 ∨ ke = 1 ∨ ke = 2 := by omega
 have hl : lo = 2 ∨ lo = 3 ∨ lo = 4 ∨ lo = 5 ∨ lo = 6 := by omega
 rcases hk with rfl | rfl | rfl <;> rcases hl with rfl | rfl | rfl | rfl | rfl <;> decide +kernel
theorem runB_snoc (sc : Int) (p : Gi) (l : Int) : ∀ (ps : List Gi) (ls : List Int) (e : Int), ps.length = ls.length → runB sc e (ps ++ [p]) (ls ++ [l]) = stepB (runB sc e ps ls) p.re sc l
 | [], [], e, _ => rfl
 | [], l' :: ls, e, h => by simp at h
 | p' :: ps, [], e, h => by simp at h
 | p' :: ps, l' :: ls, e, h => by
   simp only [List.cons_append, runB]
   exact runB_snoc sc p l ps ls _ (by simpa using h)
theorem fitsB_no (sc : Int) (ps : List Gi) (ls : List Int) (h : ps.length ≠ ls.length) : fitsB sc ps ls = false := by
 cases hf : fitsB sc ps ls
 ·rfl
 ·exact absurd (fitsB_len sc ps ls hf).symm h
theorem fitsB_at (sc : Int) (ps : List Gi) : ∀ (ls : List Int) (j : Nat) (p : Gi) (l : Int), fitsB sc ps ls = true → ps[j]? = some p → ls[j]? = some l → fitB sc p.re l = true := by
 induction ps with
 | nil => intro ls j p l hf hp; cases hp
 | cons q ps ih =>
   intro ls j p l hf hp hl
   cases ls with
   | nil => cases hl
   | cons m ls =>
     simp only [fitsB, Bool.and_eq_true] at hf
     cases j with
     | zero => simp only [List.getElem?_cons_zero, Option.some.injEq] at hp hl; rw [← hp, ← hl]; exact hf.1
     | succ j => exact ih ls j p l hf.2 (by simpa using hp) (by simpa using hl)
theorem fitsB_off (sc : Int) (ps : List Gi) : ∀ (ls : List Int) (j : Nat) (p : Gi) (l : Int), ps[j]? = some p → ls[j]? = some l → fitB sc p.re l = false → fitsB sc ps ls = false := by
 intro ls j p l hp hl h
 cases hf : fitsB sc ps ls
 ·rfl
 ·rw [fitsB_at sc ps ls j p l hf hp hl] at h; cases h
theorem fitsB_all (sc : Int) (ps : List Gi) : ∀ (ls : List Int), ps.length = ls.length → (∀ (j : Nat) p l, ps[j]? = some p → ls[j]? = some l → fitB sc p.re l = true) → fitsB sc ps ls = true := by
 induction ps with
 | nil => intro ls h _; cases ls with | nil => rfl | cons l ls => simp at h
 | cons q ps ih =>
   intro ls h hf
   cases ls with
   | nil => simp at h
   | cons m ls =>
     simp only [fitsB, Bool.and_eq_true]
     exact ⟨hf 0 q m rfl rfl, ih ls (by simpa using h) fun j p l hp hl => hf (j + 1) p l (by simpa using hp) (by simpa using hl)⟩
def lostB (sc ke lo : Int) (ls : List Int) (j : Nat) : Int := runB sc (startB sc) ((passL ke lo).take j) (ls.take j)
theorem runB_le (sc : Int) : ∀ (ps : List Gi) (ls : List Int) (e : Int), 0 ≤ e → (∀ (j : Nat) p l, ps[j]? = some p → ls[j]? = some l → fitB sc p.re l = true) → 0 ≤ runB sc e ps ls ∧ runB sc e ps ls + 1000 ≤ (e + 1000) * 4 ^ ps.length
 | [], ls, e, h, _ => by simp [runB, h]
 | p :: ps, [], e, h, _ => by
   refine ⟨h, ?_⟩
   have : (1 : Int) ≤ 4 ^ (p :: ps).length := Int.pow_pos (by decide)
   have := Int.mul_le_mul_of_nonneg_left this (show 0 ≤ e + 1000 by omega)
   simp only [runB]
   omega
 | p :: ps, l :: ls, e, h, hf => by
   have h0 := fitB_iff.1 (hf 0 p l rfl rfl)
   have ht := topB_le sc p.re
   have hs := stepB_pos e p.re sc l h (by omega)
   have ih := runB_le sc ps ls (stepB e p.re sc l) hs.1 (fun j p l hp hl => hf (j + 1) p l (by simpa using hp) (by simpa using hl))
   refine ⟨ih.1, Int.le_trans ih.2 ?_⟩
   have hp : (0 : Int) ≤ 4 ^ ps.length := Int.le_of_lt (Int.pow_pos (by decide))
   have h1 := Int.mul_le_mul_of_nonneg_right (show stepB e p.re sc l + 1000 ≤ (e + 1000) * 4 by omega) hp
   rw [List.length_cons, Int.pow_succ, Int.mul_comm (4 ^ ps.length) 4, ← Int.mul_assoc]
   exact h1
theorem lostB_nums (sc ke lo : Int) (ls : List Int) (j : Nat) (k0 : 0 ≤ ke) (k1 : ke < 3) (h0 : 2 ≤ lo) (h1 : lo < 7) (hf : fitsB sc (passL ke lo) ls = true) : 0 ≤ lostB sc ke lo ls j ∧ lostB sc ke lo ls j ≤ 16777216 := by
 have h6 := passL_len6 ke lo k0 k1 h0 h1
 have hst : 0 ≤ startB sc ∧ startB sc ≤ 91 := by unfold startB; split <;> omega
 have hr := runB_le sc ((passL ke lo).take j) (ls.take j) (startB sc) hst.1 (fun i p l hp hl => by
  rw [List.getElem?_take] at hp hl
  split at hp
  ·rename_i hij
   rw [if_pos hij] at hl
   exact fitsB_at sc _ ls i p l hf hp hl
  ·cases hp)
 refine ⟨hr.1, ?_⟩
 have hlen : ((passL ke lo).take j).length ≤ 6 := by rw [List.length_take]; omega
 have h4 : (4 : Int) ^ ((passL ke lo).take j).length ≤ 4 ^ 6 := by
  generalize ((passL ke lo).take j).length = m at *
  have : m = 0 ∨ m = 1 ∨ m = 2 ∨ m = 3 ∨ m = 4 ∨ m = 5 ∨ m = 6 := by omega
  rcases this with rfl | rfl | rfl | rfl | rfl | rfl | rfl <;> decide
 have hp : (0 : Int) ≤ 4 ^ ((passL ke lo).take j).length := Int.le_of_lt (Int.pow_pos (by decide))
 generalize (4 : Int) ^ ((passL ke lo).take j).length = q at *
 have h2 := Int.mul_le_mul_of_nonneg_right (show startB sc + 1000 ≤ 1091 by omega) hp
 have h3 : lostB sc ke lo ls j = runB sc (startB sc) ((passL ke lo).take j) (ls.take j) := rfl
 omega
end
section
open Go.ChangeShapes Go.WideShapes Go.ChangeAt Go.RowKit
set_option linter.unusedVariables false
set_option linter.unusedSimpArgs false
set_option maxRecDepth 100000
theorem start14_c (fo lo ke sc mo : Int) (iv : Bool) (w : World) : Calls Tryz.prog 61 #[.agg #[.int .i64 fo, .int .i64 lo, .int .i64 ke, .int .i64 sc, .int .i64 mo, .bool iv]] w fun e w' => e = .returned (.int .i64 (startB sc)) ∧ Gr w w' := by
 by_cases h : sc = 0
 ·subst h
  go_enter Tryz.func61, Tryz.ntmps61
  go_wp2_with fail
  go_ret
  exact ⟨rfl, by repeat (first | exact Gr.refl _ | apply Gr.drew | apply Gr.alloc)⟩
 ·have h' : (sc == 0) = false := by simp [h]
  unfold startB
  rw [if_neg h]
  go_enter Tryz.func61, Tryz.ntmps61
  go_wp2_with fail
  go_ret
  exact ⟨rfl, by repeat (first | exact Gr.refl _ | apply Gr.drew | apply Gr.alloc)⟩
theorem up14_c (n s q : Int) (n0 : 0 ≤ n) (n1 : n ≤ 8796093022208) (s0 : 0 ≤ s) (s1 : s ≤ 3) (hq : upB n s.toNat = q) (w : World) : Calls Tryz.prog 91 #[.int .i64 n, .int .i64 s] w fun e w' => e = .returned (.int .i64 q) ∧ w' = w := by
 have hp := upB_pos n s.toNat n0 (by omega)
 have HF := Lib.hid (floor_c (-n) s (by omega) s0 (by omega))
 have he : -n / 2 ^ s.toNat = -q := by unfold upB at hq; omega
 rw [he] at HF
 rw [hq] at hp
 clear he hq
 go_enter Tryz.func91, Tryz.ntmps91
 go_wp2_with (go_at_call 63; refine (HF.out _).mono ?_; rintro e wz ⟨rfl, rfl⟩)
 go_ret
 exact ⟨by simp, rfl⟩
theorem step14_c (e k sc s : Int) (h : mayB e k sc s = true) (w : World) : Calls Tryz.prog 62 #[.int .i64 e, .int .i64 k, .int .i64 sc, .int .i64 s] w fun e' w' => e' = .returned (.int .i64 (stepB e k sc s)) ∧ w' = w := by
 obtain ⟨⟨h0, h1⟩, hk, ⟨h2, h3⟩, h4, h5⟩ := mayB_iff.1 h
 clear h
 by_cases hs : sc = 2
 ·subst hs
  rcases hk with rfl | rfl
  ·rw [show stepB e 2 2 s = 2 * e + 608 by simp [stepB]]
   go_enter Tryz.func62, Tryz.ntmps62
   go_wp2_with fail
   go_ret
   exact ⟨by first | rfl | (simp; done) | (simp; omega), rfl⟩
  ·rw [show stepB e 4 2 s = 4 * e + 1632 by simp [stepB]]
   go_enter Tryz.func62, Tryz.ntmps62
   go_wp2_with fail
   go_ret
   exact ⟨by first | rfl | (simp; done) | (simp; omega), rfl⟩
 ·have hs' : (sc == 2) = false := by simp [hs]
  rcases hk with rfl | rfl
  ·rw [show stepB e 2 sc s = upB (2 * e) s.toNat + 224 by simp [stepB, hs]]
   obtain ⟨q, hq⟩ : ∃ q, upB (2 * e) s.toNat = q := ⟨_, rfl⟩
   have hp := upB_pos (2 * e) s.toNat (by omega) (by omega)
   rw [hq] at hp ⊢
   obtain ⟨hp1, hp2, hp3⟩ := hp
   have HU := Lib.hid (up14_c (2 * e) s q (by omega) (by omega) h4 h5 hq)
   clear hq
   go_enter Tryz.func62, Tryz.ntmps62
   go_wp2_with (go_at_call 91; refine (HU.out _).mono ?_; rintro e' wz ⟨rfl, rfl⟩)
   go_ret
   exact ⟨by first | rfl | (simp; done) | (simp; omega), rfl⟩
  ·rw [show stepB e 4 sc s = upB (4 * e) s.toNat + 288 by simp [stepB, hs]]
   obtain ⟨q, hq⟩ : ∃ q, upB (4 * e) s.toNat = q := ⟨_, rfl⟩
   have hp := upB_pos (4 * e) s.toNat (by omega) (by omega)
   rw [hq] at hp ⊢
   obtain ⟨hp1, hp2, hp3⟩ := hp
   have HU := Lib.hid (up14_c (4 * e) s q (by omega) (by omega) h4 h5 hq)
   clear hq
   go_enter Tryz.func62, Tryz.ntmps62
   go_wp2_with (go_at_call 91; refine (HU.out _).mono ?_; rintro e' wz ⟨rfl, rfl⟩)
   go_ret
   exact ⟨by first | rfl | (simp; done) | (simp; omega), rfl⟩
set_option maxHeartbeats 1000000 in
theorem top14_c (fo lo ke sc mo k : Int) (iv : Bool) (w : World) : Calls Tryz.prog 57 #[.agg #[.int .i64 fo, .int .i64 lo, .int .i64 ke, .int .i64 sc, .int .i64 mo, .bool iv], .int .i64 k] w fun e w' => e = .returned (.int .i64 (topB sc k)) ∧ Gr w w' := by
 by_cases h2 : sc = 2
 ·subst h2
  rw [show topB 2 k = 0 by simp [topB]]
  go_enter Tryz.func57, Tryz.ntmps57
  go_wp2_with fail
  go_ret
  exact ⟨rfl, by repeat (first | exact Gr.refl _ | apply Gr.drew | apply Gr.alloc)⟩
 ·have h2' : (sc == 2) = false := by simp [h2]
  by_cases h1 : sc = 1
  ·subst h1
   by_cases hk : k = 2
   ·subst hk
    rw [show topB 1 2 = 2 by simp [topB]]
    go_enter Tryz.func57, Tryz.ntmps57
    go_wp2_with fail
    go_ret
    exact ⟨rfl, by repeat (first | exact Gr.refl _ | apply Gr.drew | apply Gr.alloc)⟩
   ·have hk' : (k == 2) = false := by simp [hk]
    rw [show topB 1 k = 3 by simp [topB, hk]]
    go_enter Tryz.func57, Tryz.ntmps57
    go_wp2_with fail
    go_ret
    exact ⟨rfl, by repeat (first | exact Gr.refl _ | apply Gr.drew | apply Gr.alloc)⟩
  ·have h1' : (sc == 1) = false := by simp [h1]
   by_cases h0 : sc = 0
   ·subst h0
    by_cases hk : k = 4
    ·subst hk
     rw [show topB 0 4 = 2 by simp [topB]]
     go_enter Tryz.func57, Tryz.ntmps57
     go_wp2_with fail
     go_ret
     exact ⟨rfl, by repeat (first | exact Gr.refl _ | apply Gr.drew | apply Gr.alloc)⟩
    ·have hk' : (k == 4) = false := by simp [hk]
     rw [show topB 0 k = 1 by simp [topB, hk]]
     go_enter Tryz.func57, Tryz.ntmps57
     go_wp2_with fail
     go_ret
     exact ⟨rfl, by repeat (first | exact Gr.refl _ | apply Gr.drew | apply Gr.alloc)⟩
   ·have h0' : (sc == 0) = false := by simp [h0]
    rw [show topB sc k = 1 by simp [topB, h0, h1, h2]]
    go_enter Tryz.func57, Tryz.ntmps57
    go_wp2_with fail
    go_ret
    exact ⟨rfl, by repeat (first | exact Gr.refl _ | apply Gr.drew | apply Gr.alloc)⟩
end
end Go.Proofs.YtcgeabpibkejpaaGreat
