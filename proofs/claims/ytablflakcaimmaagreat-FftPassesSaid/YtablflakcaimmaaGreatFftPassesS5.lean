import Derived.ChangeSlices
import Derived.LoopN
import Derived.Test.YtablflakcaimmaaGreatFftPassesS4
namespace Go.Proofs.YtablflakcaimmaaGreat
section
open Go.ChangeShapes Go.WideShapes Go.ChangeAt Go.RowKit
set_option linter.unusedVariables false
set_option maxRecDepth 100000
def NumsAt (w : World) (v : Value) (xs : List Int) : Prop :=
 ∃ p cap, v = .slice p xs.length cap ∧ xs.length ≤ cap ∧ cap ≤ maxLen ∧ (xs ≠ [] → ∃ b o, p = some ⟨b, o, none⟩ ∧ b < w.heap.size ∧ ∀ j x, xs[j]? = some x → w.cell? ⟨b, o + j, none⟩ = some (.int .i64 x))
theorem NumsAt.gr {w w' : World} {v : Value} {xs : List Int} (h : NumsAt w v xs) (hg : Gr w w') : NumsAt w' v xs := by
 obtain ⟨p, cap, hv, hl, hm, hc⟩ := h
 refine ⟨p, cap, hv, hl, hm, fun hx => ?_⟩
 obtain ⟨b, o, hp, hb, hc⟩ := hc hx
 exact ⟨b, o, hp, Nat.lt_of_lt_of_le hb hg.size, fun j x hj => (hg.cell (p := ⟨b, o + j, none⟩) hb).trans (hc j x hj)⟩
theorem NumsAt.len {w : World} {v : Value} {xs : List Int} (h : NumsAt w v xs) : ∃ p cap, v = .slice p xs.length cap := by
 obtain ⟨p, cap, hv, _⟩ := h
 exact ⟨p, cap, hv⟩
theorem NumsAt.nil (w : World) : NumsAt w (.slice none 0 0) [] := ⟨none, 0, rfl, Nat.le_refl _, Nat.zero_le _, fun h => absurd rfl h⟩
theorem NumsAt.at {w : World} {v : Value} {xs : List Int} (h : NumsAt w v xs) (hx : xs ≠ []) : ∃ b o cap, v = .slice (some ⟨b, o, none⟩) xs.length cap ∧ xs.length ≤ 9223372036854775807 ∧ b < w.heap.size ∧ ∀ j x, xs[j]? = some x → w.cell? ⟨b, o + j, none⟩ = some (.int .i64 x) := by
 obtain ⟨p, cap, hv, hl, hm, hc⟩ := h
 obtain ⟨b, o, rfl, hb, hc⟩ := hc hx
 exact ⟨b, o, cap, hv, by unfold maxLen at hm; omega, hb, hc⟩
theorem NumsAt.of_ints {w : World} {v : Value} {xs : List Int} (h : IntsAt w v xs) : NumsAt w v xs := by
 rcases h with ⟨rfl, rfl⟩ | ⟨b, o, cap, rfl, hl, hm, hb, hc⟩
 ·exact NumsAt.nil w
 ·exact ⟨_, cap, rfl, hl, hm, fun _ => ⟨b, o, rfl, hb, hc⟩⟩
theorem NumsAt.of_row {w : World} {base n : Nat} {t : TypeId} {v : Value} {xs : List Int} (h : w.ownsRow base t 1 v n (xs.map (Value.int .i64))) : NumsAt w v xs := .of_ints (IntsAt.of_row h)
theorem NumsAt.cut {w : World} {p : Option Addr} {len cap : Nat} {xs : List Int} (h : NumsAt w (.slice p len cap) xs) (m : Nat) (hm : m ≤ len) : NumsAt w (.slice p m cap) (xs.take m) ∧ (xs.take m).length = m ∧ m ≤ cap ∧ cap ≤ maxLen := by
 obtain ⟨p', cap', hv, hl, hmx, hc⟩ := h
 cases hv
 have e : (xs.take m).length = m := by rw [List.length_take]; omega
 refine ⟨⟨p, cap, by rw [e], by rw [e]; omega, hmx, fun hne => ?_⟩, e, by omega, hmx⟩
 obtain ⟨b, o, hp, hb, hc⟩ := hc (by intro e; rw [e] at hne; simp at hne)
 refine ⟨b, o, hp, hb, fun j x hj => hc j x ?_⟩
 rw [List.getElem?_take] at hj
 split at hj
 ·exact hj
 ·cases hj
theorem run_cut_int (p : Option Addr) (len cap m : Nat) (hm : m ≤ cap) (w : World) : (Instr.slice 25 (.slice p len cap) none (some (.int .i64 (m : Int))) none).run Tryz.prog w = .ok (.slice p m cap) w := by
 obtain ⟨i, hi, hzz⟩ := Option.map_eq_some_iff.1 info_int
 have h1 := run_slice_h (P := Tryz.prog) 25 p len cap (by exact Tryz.underlying25) .i64 (m : Int) (by omega) (by omega) (w := w)
 rw [h1]
 simp [sizeOf, typeInfo, sliced, show Tryz.prog.elem 25 = 3 by kernel_rfl, hi]
 intro _
 cases p <;> simp [Addr.add_zero']
theorem nums_open {H : Type} {enc : TypeId × Value → H} {W : World} {held : Bool} {fuel : Nat} {a : Option Addr} {len cap : Nat} {x : DataW H × List MemPlace}
 (h : DataW.trod enc Tryz.prog W 0 (fun _ => true) held fuel 25 [.slice a len cap] = some x) :
 ∃ xs : List Int, len = xs.length ∧ NumsAt W (.slice a len cap) xs ∧ ∀ g ∈ xs, (Lit.int .i64 g).wf = true := by
 rcases open_ints Tryz.underlying25 Tryz.underlying3 (by kernel_rfl) h with ⟨hcs, _⟩ | ⟨a', l, c, zs, hcs, _, hl, hm, hzl, _, hz, hw⟩
 ·simp at hcs
  obtain ⟨rfl, rfl, rfl⟩ := hcs
  exact ⟨[], rfl, NumsAt.nil W, fun g hg => by cases hg⟩
 ·simp at hcs
  obtain ⟨rfl, rfl, rfl⟩ := hcs
  have hzl : zs.length = cap := by simpa using hzl
  have hlen : (zs.take len).length = len := by rw [List.length_take]; omega
  refine ⟨zs.take len, hlen.symm, ⟨some a', cap, by rw [hlen], by omega, hm, fun hne => ?_⟩, fun g hg => hw g (List.mem_of_mem_take hg)⟩
  have h0 : 0 < len := by
   rcases Nat.eq_zero_or_pos len with h | h
   ·subst h; exact absurd (by simp) hne
   ·exact h
  have hc0 := hz 0 (by omega)
  rw [Addr.add_zero'] at hc0
  have hsp := World.cell?_spot hc0
  obtain ⟨b, o, sp⟩ := a'
  simp only at hsp
  subst hsp
  refine ⟨b, o, rfl, block_lt_of_cell hc0, fun j x hj => ?_⟩
  rw [List.getElem?_take] at hj
  split at hj
  case isFalse => cases hj
  have hjl : j < zs.length := (List.getElem?_eq_some_iff.1 hj).1
  have := hz j hjl
  rw [Addr.add_lit, List.getD_eq_getElem?_getD, hj] at this
  exact this
set_option maxHeartbeats 1000000 in
theorem same04n_c (u v : Value) (xs : List Int) (w : World) (hu : NumsAt w u xs) (hv : NumsAt w v xs) :
 Calls Tryz.prog 33 #[u, v] w fun e w' => e = .returned (.bool true) ∧ Gr w w' := by
 by_cases hx : xs = []
 ·subst hx
  obtain ⟨p, cap, rfl⟩ := hu.len
  obtain ⟨p', cap', rfl⟩ := hv.len
  rw [show ([] : List Int).length = 0 from rfl]
  clear hu hv
  go_enter Tryz.func33, Tryz.ntmps33
  go_wp2_with fail
  go_loopw [13] (fun i wr => i = .int .i64 0 ∧ Gr w wr) (fun i _ => 0 - (intOf i).toNat)
  case atStart => exact ⟨rfl, Gr.refl _⟩
  case round =>
   obtain ⟨rfl, hg⟩ := hrel
   go_wp2_with fail
   go_ret
   exact ⟨rfl, hg⟩
 ·obtain ⟨b, o, cap, rfl, hlen, hb, hc⟩ := hu.at hx
  obtain ⟨b', o', cap', rfl, _, hb', hc'⟩ := hv.at hx
  have HC := Lib.hid hc
  have HC' := Lib.hid hc'
  clear hc hc' hu hv hx
  go_enter Tryz.func33, Tryz.ntmps33
  go_wp2_with fail
  go_loopw [13] (fun i wr => ∃ k : Nat, k ≤ xs.length ∧ i = .int .i64 k ∧ Gr w wr) (fun i _ => xs.length - (intOf i).toNat)
  case atStart => exact ⟨0, Nat.zero_le _, rfl, Gr.refl _⟩
  case round =>
   obtain ⟨k, hk, rfl, hg⟩ := hrel
   by_cases hlt : k < xs.length
   ·obtain ⟨x, hx⟩ := get_of_lt hlt
    have h1 := (hg.cell (p := ⟨b, o + k, none⟩) hb).trans (HC.out k x hx)
    have h2 := (hg.cell (p := ⟨b', o' + k, none⟩) hb').trans (HC'.out k x hx)
    clear hx
    go_wp2_with fail
    go_quiet (fail)
    go_wp2_with fail
    go_roundw
    case rel => exact ⟨k + 1, by omega, by go_num, hg.drewN _⟩
    case measure => simp [intOf]; omega
   ·go_wp2_with fail
    go_ret
    exact ⟨rfl, hg⟩
end
section
open Go.ChangeShapes Go.WideShapes Go.ChangeAt Go.RowKit
set_option linter.unusedVariables false
set_option linter.unusedSimpArgs false
set_option maxRecDepth 100000
def partIn (l h : Int) (a : Gi) : Bool := decide ((l ≤ a.re ∧ a.re ≤ h) ∧ (l ≤ a.im ∧ a.im ≤ h))
def partsB (l h : Int) (xs : List Gi) : Bool := xs.all (partIn l h)
theorem partsB_no {l h : Int} {xs : List Gi} {k : Nat} {a : Gi} (hk : xs[k]? = some a) (g : partIn l h a = false) : partsB l h xs = false := by
 unfold partsB
 rw [Bool.eq_false_iff, Ne, List.all_eq_true]
 intro H
 rw [H a (List.mem_of_getElem? hk)] at g
 cases g
theorem partsB_snoc {l h : Int} {xs : List Gi} {k : Nat} {a : Gi} (hk : xs[k]? = some a) (h1 : partsB l h (xs.take k) = true) (g : partIn l h a = true) : partsB l h (xs.take (k + 1)) = true := by
 rw [take_snoc hk]
 unfold partsB at *
 rw [List.all_append, h1]
 simp [g]
set_option maxHeartbeats 2000000 in
theorem parts15_c (v : Value) (xs : List Gi) (l h : Int) (w : World) (hv : CxsAt w v xs) :
 Calls Tryz.prog 31 #[v, .int .i64 l, .int .i64 h] w fun e w' => e = .returned (.bool (partsB l h xs)) ∧ Gr w w' := by
 by_cases hx0 : xs = []
 ·subst hx0
  obtain ⟨p, cap, rfl⟩ := hv.len
  rw [show ([] : List Gi).length = 0 from rfl]
  clear hv
  go_enter Tryz.func31, Tryz.ntmps31
  go_wp2_with fail
  go_loopw [11] (fun i wr => i = .int .i64 0 ∧ Gr w wr) (fun i _ => 0 - (intOf i).toNat)
  case atStart => exact ⟨rfl, Gr.refl _⟩
  case round =>
   obtain ⟨rfl, hg⟩ := hrel
   go_wp2_with fail
   go_ret
   exact ⟨rfl, hg⟩
 ·obtain ⟨b, o, cap, rfl, hlen, hb, hc⟩ := hv.at hx0
  have HC := Lib.hid hc
  clear hc hv hx0
  go_enter Tryz.func31, Tryz.ntmps31
  go_wp2_with fail
  go_loopw [11] (fun i wr => ∃ k : Nat, k ≤ xs.length ∧ i = .int .i64 k ∧ partsB l h (xs.take k) = true ∧ Gr w wr) (fun i _ => xs.length - (intOf i).toNat)
  case atStart => exact ⟨0, Nat.zero_le _, rfl, rfl, Gr.refl _⟩
  case round =>
   obtain ⟨k, hk, rfl, hp, hg⟩ := hrel
   by_cases hlt : k < xs.length
   ·obtain ⟨x, hx⟩ := get_of_lt hlt
    have h1 := (hg.cell (p := ⟨b, o + k * 2, none⟩) hb).trans (HC.out k x hx).1
    have h2 := (hg.cell (p := ⟨b, o + k * 2 + 1, none⟩) hb).trans (HC.out k x hx).2
    have hlI : (k : Int) < (xs.length : Int) := by omega
    obtain ⟨re, im⟩ := x
    simp only at h1 h2
    by_cases q1 : l ≤ re
    ·by_cases q2 : re ≤ h
     ·by_cases q3 : l ≤ im
      ·by_cases q4 : im ≤ h
       ·have hs := Lib.hid (partsB_snoc hx hp (show partIn l h (Gi.mk re im) = true by simp only [partIn]; simp; omega))
        go_wp2_with fail
        go_roundw
        case rel => exact ⟨k + 1, by omega, by go_num, hs.out, hg.alloc _ _⟩
        case measure => simp [intOf]; omega
       ·skip
        have hb : partIn l h (Gi.mk re im) = false := by simp only [partIn]; simp; omega
        go_wp2_with fail
        go_ret
        exact ⟨by rw [partsB_no hx hb]; rfl, hg.alloc _ _⟩
      ·skip
       have hb : partIn l h (Gi.mk re im) = false := by simp only [partIn]; simp; omega
       go_wp2_with fail
       go_ret
       exact ⟨by rw [partsB_no hx hb]; rfl, hg.alloc _ _⟩
     ·skip
      have hb : partIn l h (Gi.mk re im) = false := by simp only [partIn]; simp; omega
      go_wp2_with fail
      go_ret
      exact ⟨by rw [partsB_no hx hb]; rfl, hg.alloc _ _⟩
    ·skip
     have hb : partIn l h (Gi.mk re im) = false := by simp only [partIn]; simp; omega
     go_wp2_with fail
     go_ret
     exact ⟨by rw [partsB_no hx hb]; rfl, hg.alloc _ _⟩
   ·obtain rfl : k = xs.length := by omega
    have hlI : ¬ (xs.length : Int) < (xs.length : Int) := by omega
    rw [List.take_length] at hp
    go_wp2_with fail
    go_ret
    exact ⟨by first | rfl | (rw [hp]; rfl) | simp, hg⟩
set_option maxHeartbeats 2000000 in
theorem may15_plan (v : Value) (fo lo ke sc mo : Int) (iv op : Bool) (HC : CR 17 #[.agg #[.int .i64 fo, .int .i64 lo, .int .i64 ke, .int .i64 sc, .int .i64 mo, .bool iv]] (.bool false)) (w : World) :
 Calls Tryz.prog 10 #[v, .agg #[.int .i64 fo, .int .i64 lo, .int .i64 ke, .int .i64 sc, .int .i64 mo, .bool iv], .bool op] w fun e w' => e = .returned (.int .i64 4) ∧ Gr w w' := by
 go_enter Tryz.func10, Tryz.ntmps10
 go_wp2_with fail
 obtain ⟨u0, hu⟩ : ∃ uu, uu = w.alloc (.cells #[.int .i64 fo, .int .i64 lo, .int .i64 ke, .int .i64 sc, .int .i64 mo, .bool iv] 24) := ⟨_, rfl⟩
 have R0 : CellsAt u0 w.heap.size 24 #[.int .i64 fo, .int .i64 lo, .int .i64 ke, .int .i64 sc, .int .i64 mo, .bool iv] := by rw [hu]; exact CellsAt.new w 24 _
 have y0 : Gr w u0 := by rw [hu]; exact (Gr.refl w).alloc _ _
 rw [← hu]
 clear hu
 refine (HC.out _).mono ?_
 rintro e w1 ⟨rfl, g1⟩
 have R1 := R0.gr g1
 have y1 := y0.trans g1
 have l1 := R1.lt
 clear R0 y0 g1
 go_wp2_with fail
 go_ret
 exact ⟨rfl, y1⟩
set_option maxHeartbeats 2000000 in
theorem may15_size (p : Option Addr) (len cap : Nat) (fo lo ke sc mo n : Int) (iv op : Bool) (hn : ((len : Int) == n) = false) (HC : CR 17 #[.agg #[.int .i64 fo, .int .i64 lo, .int .i64 ke, .int .i64 sc, .int .i64 mo, .bool iv]] (.bool true)) (HP : CR 26 #[.int .i64 lo] (.int .i64 n)) (w : World) :
 Calls Tryz.prog 10 #[.slice p len cap, .agg #[.int .i64 fo, .int .i64 lo, .int .i64 ke, .int .i64 sc, .int .i64 mo, .bool iv], .bool op] w fun e w' => e = .returned (.int .i64 3) ∧ Gr w w' := by
 go_enter Tryz.func10, Tryz.ntmps10
 go_wp2_with fail
 obtain ⟨u0, hu⟩ : ∃ uu, uu = w.alloc (.cells #[.int .i64 fo, .int .i64 lo, .int .i64 ke, .int .i64 sc, .int .i64 mo, .bool iv] 24) := ⟨_, rfl⟩
 have R0 : CellsAt u0 w.heap.size 24 #[.int .i64 fo, .int .i64 lo, .int .i64 ke, .int .i64 sc, .int .i64 mo, .bool iv] := by rw [hu]; exact CellsAt.new w 24 _
 have y0 : Gr w u0 := by rw [hu]; exact (Gr.refl w).alloc _ _
 rw [← hu]
 clear hu
 refine (HC.out _).mono ?_
 rintro e w1 ⟨rfl, g1⟩
 have R1 := R0.gr g1
 have y1 := y0.trans g1
 have l1 := R1.lt
 clear R0 y0 g1
 have c0 := CellsAt.cell R1 0
 have c1 := CellsAt.cell R1 1
 have c2 := CellsAt.cell R1 2
 have c3 := CellsAt.cell R1 3
 have c4 := CellsAt.cell R1 4
 have c5 := CellsAt.cell R1 5
 simp only [getS] at c0 c1 c2 c3 c4 c5
 go_wp2_with fail
 clear c0 c1 c2 c3 c4 c5
 refine (HP.out _).mono ?_
 rintro e w2 ⟨rfl, g2⟩
 have R2 := R1.gr g2
 have y2 := y1.trans g2
 have l2 := R2.lt
 clear R1 y1 g2
 go_wp2_with fail
 go_ret
 exact ⟨rfl, y2⟩
set_option maxHeartbeats 2000000 in
theorem may15_oy (p : Option Addr) (len cap : Nat) (xs : List Gi) (fo lo ke sc mo n q : Int) (iv : Bool) (hn : ((len : Int) == n) = true) (q0 : 0 ≤ q) (q1 : q ≤ 2147483648) (HC : CR 17 #[.agg #[.int .i64 fo, .int .i64 lo, .int .i64 ke, .int .i64 sc, .int .i64 mo, .bool iv]] (.bool true)) (HP : CR 26 #[.int .i64 lo] (.int .i64 n)) (HO : CR 30 #[.int .i64 fo] (.int .i64 q))
 (HA : Hid (∀ W, CxsAt W (.slice p len cap) xs → Calls Tryz.prog 31 #[.slice p len cap, .int .i64 (-q), .int .i64 q] W fun e w' => e = .returned (.bool true) ∧ Gr W w')) (w : World) (hv : CxsAt w (.slice p len cap) xs) :
 Calls Tryz.prog 10 #[.slice p len cap, .agg #[.int .i64 fo, .int .i64 lo, .int .i64 ke, .int .i64 sc, .int .i64 mo, .bool iv], .bool true] w fun e w' => e = .returned (.int .i64 0) ∧ Gr w w' := by
 go_enter Tryz.func10, Tryz.ntmps10
 go_wp2_with fail
 obtain ⟨u0, hu⟩ : ∃ uu, uu = w.alloc (.cells #[.int .i64 fo, .int .i64 lo, .int .i64 ke, .int .i64 sc, .int .i64 mo, .bool iv] 24) := ⟨_, rfl⟩
 have R0 : CellsAt u0 w.heap.size 24 #[.int .i64 fo, .int .i64 lo, .int .i64 ke, .int .i64 sc, .int .i64 mo, .bool iv] := by rw [hu]; exact CellsAt.new w 24 _
 have y0 : Gr w u0 := by rw [hu]; exact (Gr.refl w).alloc _ _
 rw [← hu]
 clear hu
 refine (HC.out _).mono ?_
 rintro e w1 ⟨rfl, g1⟩
 have R1 := R0.gr g1
 have y1 := y0.trans g1
 have l1 := R1.lt
 clear R0 y0 g1
 have c0 := CellsAt.cell R1 0
 have c1 := CellsAt.cell R1 1
 have c2 := CellsAt.cell R1 2
 have c3 := CellsAt.cell R1 3
 have c4 := CellsAt.cell R1 4
 have c5 := CellsAt.cell R1 5
 simp only [getS] at c0 c1 c2 c3 c4 c5
 go_wp2_with fail
 clear c0 c1 c2 c3 c4 c5
 refine (HP.out _).mono ?_
 rintro e w2 ⟨rfl, g2⟩
 have R2 := R1.gr g2
 have y2 := y1.trans g2
 have l2 := R2.lt
 clear R1 y1 g2
 have c0 := CellsAt.cell R2 0
 have c1 := CellsAt.cell R2 1
 have c2 := CellsAt.cell R2 2
 have c3 := CellsAt.cell R2 3
 have c4 := CellsAt.cell R2 4
 have c5 := CellsAt.cell R2 5
 simp only [getS] at c0 c1 c2 c3 c4 c5
 go_wp2_with fail
 clear c0 c1 c2 c3 c4 c5
 refine (HO.out _).mono ?_
 rintro e w3 ⟨rfl, g3⟩
 have R3 := R2.gr g3
 have y3 := y2.trans g3
 have l3 := R3.lt
 clear R2 y2 g3
 go_wp2_with fail
 refine (HA.out _ (hv.gr y3)).mono ?_
 rintro e w4 ⟨rfl, g4⟩
 go_wp2_with fail
 go_ret
 exact ⟨rfl, y3.trans g4⟩
set_option maxHeartbeats 2000000 in
theorem may15_on (p : Option Addr) (len cap : Nat) (xs : List Gi) (fo lo ke sc mo n q : Int) (iv : Bool) (hn : ((len : Int) == n) = true) (q0 : 0 ≤ q) (q1 : q ≤ 2147483648) (HC : CR 17 #[.agg #[.int .i64 fo, .int .i64 lo, .int .i64 ke, .int .i64 sc, .int .i64 mo, .bool iv]] (.bool true)) (HP : CR 26 #[.int .i64 lo] (.int .i64 n)) (HO : CR 30 #[.int .i64 fo] (.int .i64 q))
 (HA : Hid (∀ W, CxsAt W (.slice p len cap) xs → Calls Tryz.prog 31 #[.slice p len cap, .int .i64 (-q), .int .i64 q] W fun e w' => e = .returned (.bool false) ∧ Gr W w')) (w : World) (hv : CxsAt w (.slice p len cap) xs) :
 Calls Tryz.prog 10 #[.slice p len cap, .agg #[.int .i64 fo, .int .i64 lo, .int .i64 ke, .int .i64 sc, .int .i64 mo, .bool iv], .bool true] w fun e w' => e = .returned (.int .i64 2) ∧ Gr w w' := by
 go_enter Tryz.func10, Tryz.ntmps10
 go_wp2_with fail
 obtain ⟨u0, hu⟩ : ∃ uu, uu = w.alloc (.cells #[.int .i64 fo, .int .i64 lo, .int .i64 ke, .int .i64 sc, .int .i64 mo, .bool iv] 24) := ⟨_, rfl⟩
 have R0 : CellsAt u0 w.heap.size 24 #[.int .i64 fo, .int .i64 lo, .int .i64 ke, .int .i64 sc, .int .i64 mo, .bool iv] := by rw [hu]; exact CellsAt.new w 24 _
 have y0 : Gr w u0 := by rw [hu]; exact (Gr.refl w).alloc _ _
 rw [← hu]
 clear hu
 refine (HC.out _).mono ?_
 rintro e w1 ⟨rfl, g1⟩
 have R1 := R0.gr g1
 have y1 := y0.trans g1
 have l1 := R1.lt
 clear R0 y0 g1
 have c0 := CellsAt.cell R1 0
 have c1 := CellsAt.cell R1 1
 have c2 := CellsAt.cell R1 2
 have c3 := CellsAt.cell R1 3
 have c4 := CellsAt.cell R1 4
 have c5 := CellsAt.cell R1 5
 simp only [getS] at c0 c1 c2 c3 c4 c5
 go_wp2_with fail
 clear c0 c1 c2 c3 c4 c5
 refine (HP.out _).mono ?_
 rintro e w2 ⟨rfl, g2⟩
 have R2 := R1.gr g2
 have y2 := y1.trans g2
 have l2 := R2.lt
 clear R1 y1 g2
 have c0 := CellsAt.cell R2 0
 have c1 := CellsAt.cell R2 1
 have c2 := CellsAt.cell R2 2
 have c3 := CellsAt.cell R2 3
 have c4 := CellsAt.cell R2 4
 have c5 := CellsAt.cell R2 5
 simp only [getS] at c0 c1 c2 c3 c4 c5
 go_wp2_with fail
 clear c0 c1 c2 c3 c4 c5
 refine (HO.out _).mono ?_
 rintro e w3 ⟨rfl, g3⟩
 have R3 := R2.gr g3
 have y3 := y2.trans g3
 have l3 := R3.lt
 clear R2 y2 g3
 go_wp2_with fail
 refine (HA.out _ (hv.gr y3)).mono ?_
 rintro e w4 ⟨rfl, g4⟩
 go_wp2_with fail
 go_ret
 exact ⟨rfl, y3.trans g4⟩
set_option maxHeartbeats 2000000 in
theorem may15_cy (p : Option Addr) (len cap : Nat) (xs : List Gi) (fo lo ke sc mo n q : Int) (iv : Bool) (hn : ((len : Int) == n) = true) (q0 : 0 ≤ q) (q1 : q ≤ 2147483648) (HC : CR 17 #[.agg #[.int .i64 fo, .int .i64 lo, .int .i64 ke, .int .i64 sc, .int .i64 mo, .bool iv]] (.bool true)) (HP : CR 26 #[.int .i64 lo] (.int .i64 n)) (HO : CR 30 #[.int .i64 fo] (.int .i64 q))
 (HA : Hid (∀ W, CxsAt W (.slice p len cap) xs → Calls Tryz.prog 31 #[.slice p len cap, .int .i64 (-q), .int .i64 (q - 1)] W fun e w' => e = .returned (.bool true) ∧ Gr W w')) (w : World) (hv : CxsAt w (.slice p len cap) xs) :
 Calls Tryz.prog 10 #[.slice p len cap, .agg #[.int .i64 fo, .int .i64 lo, .int .i64 ke, .int .i64 sc, .int .i64 mo, .bool iv], .bool false] w fun e w' => e = .returned (.int .i64 0) ∧ Gr w w' := by
 go_enter Tryz.func10, Tryz.ntmps10
 go_wp2_with fail
 obtain ⟨u0, hu⟩ : ∃ uu, uu = w.alloc (.cells #[.int .i64 fo, .int .i64 lo, .int .i64 ke, .int .i64 sc, .int .i64 mo, .bool iv] 24) := ⟨_, rfl⟩
 have R0 : CellsAt u0 w.heap.size 24 #[.int .i64 fo, .int .i64 lo, .int .i64 ke, .int .i64 sc, .int .i64 mo, .bool iv] := by rw [hu]; exact CellsAt.new w 24 _
 have y0 : Gr w u0 := by rw [hu]; exact (Gr.refl w).alloc _ _
 rw [← hu]
 clear hu
 refine (HC.out _).mono ?_
 rintro e w1 ⟨rfl, g1⟩
 have R1 := R0.gr g1
 have y1 := y0.trans g1
 have l1 := R1.lt
 clear R0 y0 g1
 have c0 := CellsAt.cell R1 0
 have c1 := CellsAt.cell R1 1
 have c2 := CellsAt.cell R1 2
 have c3 := CellsAt.cell R1 3
 have c4 := CellsAt.cell R1 4
 have c5 := CellsAt.cell R1 5
 simp only [getS] at c0 c1 c2 c3 c4 c5
 go_wp2_with fail
 clear c0 c1 c2 c3 c4 c5
 refine (HP.out _).mono ?_
 rintro e w2 ⟨rfl, g2⟩
 have R2 := R1.gr g2
 have y2 := y1.trans g2
 have l2 := R2.lt
 clear R1 y1 g2
 have c0 := CellsAt.cell R2 0
 have c1 := CellsAt.cell R2 1
 have c2 := CellsAt.cell R2 2
 have c3 := CellsAt.cell R2 3
 have c4 := CellsAt.cell R2 4
 have c5 := CellsAt.cell R2 5
 simp only [getS] at c0 c1 c2 c3 c4 c5
 go_wp2_with fail
 clear c0 c1 c2 c3 c4 c5
 refine (HO.out _).mono ?_
 rintro e w3 ⟨rfl, g3⟩
 have R3 := R2.gr g3
 have y3 := y2.trans g3
 have l3 := R3.lt
 clear R2 y2 g3
 go_wp2_with fail
 refine (HA.out _ (hv.gr y3)).mono ?_
 rintro e w4 ⟨rfl, g4⟩
 go_wp2_with fail
 go_ret
 exact ⟨rfl, y3.trans g4⟩
set_option maxHeartbeats 2000000 in
theorem may15_cn (p : Option Addr) (len cap : Nat) (xs : List Gi) (fo lo ke sc mo n q : Int) (iv : Bool) (hn : ((len : Int) == n) = true) (q0 : 0 ≤ q) (q1 : q ≤ 2147483648) (HC : CR 17 #[.agg #[.int .i64 fo, .int .i64 lo, .int .i64 ke, .int .i64 sc, .int .i64 mo, .bool iv]] (.bool true)) (HP : CR 26 #[.int .i64 lo] (.int .i64 n)) (HO : CR 30 #[.int .i64 fo] (.int .i64 q))
 (HA : Hid (∀ W, CxsAt W (.slice p len cap) xs → Calls Tryz.prog 31 #[.slice p len cap, .int .i64 (-q), .int .i64 (q - 1)] W fun e w' => e = .returned (.bool false) ∧ Gr W w')) (w : World) (hv : CxsAt w (.slice p len cap) xs) :
 Calls Tryz.prog 10 #[.slice p len cap, .agg #[.int .i64 fo, .int .i64 lo, .int .i64 ke, .int .i64 sc, .int .i64 mo, .bool iv], .bool false] w fun e w' => e = .returned (.int .i64 2) ∧ Gr w w' := by
 go_enter Tryz.func10, Tryz.ntmps10
 go_wp2_with fail
 obtain ⟨u0, hu⟩ : ∃ uu, uu = w.alloc (.cells #[.int .i64 fo, .int .i64 lo, .int .i64 ke, .int .i64 sc, .int .i64 mo, .bool iv] 24) := ⟨_, rfl⟩
 have R0 : CellsAt u0 w.heap.size 24 #[.int .i64 fo, .int .i64 lo, .int .i64 ke, .int .i64 sc, .int .i64 mo, .bool iv] := by rw [hu]; exact CellsAt.new w 24 _
 have y0 : Gr w u0 := by rw [hu]; exact (Gr.refl w).alloc _ _
 rw [← hu]
 clear hu
 refine (HC.out _).mono ?_
 rintro e w1 ⟨rfl, g1⟩
 have R1 := R0.gr g1
 have y1 := y0.trans g1
 have l1 := R1.lt
 clear R0 y0 g1
 have c0 := CellsAt.cell R1 0
 have c1 := CellsAt.cell R1 1
 have c2 := CellsAt.cell R1 2
 have c3 := CellsAt.cell R1 3
 have c4 := CellsAt.cell R1 4
 have c5 := CellsAt.cell R1 5
 simp only [getS] at c0 c1 c2 c3 c4 c5
 go_wp2_with fail
 clear c0 c1 c2 c3 c4 c5
 refine (HP.out _).mono ?_
 rintro e w2 ⟨rfl, g2⟩
 have R2 := R1.gr g2
 have y2 := y1.trans g2
 have l2 := R2.lt
 clear R1 y1 g2
 have c0 := CellsAt.cell R2 0
 have c1 := CellsAt.cell R2 1
 have c2 := CellsAt.cell R2 2
 have c3 := CellsAt.cell R2 3
 have c4 := CellsAt.cell R2 4
 have c5 := CellsAt.cell R2 5
 simp only [getS] at c0 c1 c2 c3 c4 c5
 go_wp2_with fail
 clear c0 c1 c2 c3 c4 c5
 refine (HO.out _).mono ?_
 rintro e w3 ⟨rfl, g3⟩
 have R3 := R2.gr g3
 have y3 := y2.trans g3
 have l3 := R3.lt
 clear R2 y2 g3
 go_wp2_with fail
 refine (HA.out _ (hv.gr y3)).mono ?_
 rintro e w4 ⟨rfl, g4⟩
 go_wp2_with fail
 go_ret
 exact ⟨rfl, y3.trans g4⟩
set_option maxHeartbeats 2000000 in
theorem same15_c (vx vs ux us : Value) (ex : Int) (sat : Bool) (xs : List Gi) (sh : List Int) (w : World) (hx : CxsAt w vx xs) (hs : NumsAt w vs sh) (kx : CxsAt w ux xs) (ks : NumsAt w us sh) :
 Calls Tryz.prog 12 #[.agg #[vx, .int .i64 ex, .bool sat, vs], .agg #[ux, .int .i64 ex, .bool sat, us]] w fun e w' => e = .returned (.bool true) ∧ Gr w w' := by
 go_enter Tryz.func12, Tryz.ntmps12
 go_wp2_with fail
 obtain ⟨u0, hU⟩ : ∃ uu, uu = ((w.alloc (.cells #[vx, .int .i64 ex, .bool sat, vs] 27)).alloc (.cells #[ux, .int .i64 ex, .bool sat, us] 27)) := ⟨_, rfl⟩
 have ⟨gu, R0, R1⟩ := lay2 hU
 rw [← hU]
 clear hU
 have la := R0.lt
 have lb := R1.lt
 obtain ⟨ca0, ca1, ca2, ca3⟩ := R0.t4
 obtain ⟨cb0, cb1, cb2, cb3⟩ := R1.t4
 go_wp2_with fail
 clear ca0 ca1 ca2 ca3 cb0 cb1 cb2 cb3
 refine (same03_c vx ux xs _ (hx.gr gu) (kx.gr gu)).mono ?_
 rintro e w1 ⟨rfl, g1⟩
 have ⟨Fa_1, la_1⟩ := CellsAt.gl (R0) g1
 have ⟨Fb_1, lb_1⟩ := CellsAt.gl (R1) g1
 have z1 := (gu).trans g1
 clear R0 R1 gu g1
 obtain ⟨ca0, ca1, ca2, ca3⟩ := Fa_1.t4
 obtain ⟨cb0, cb1, cb2, cb3⟩ := Fb_1.t4
 go_wp2_with fail
 clear ca0 ca1 ca2 ca3 cb0 cb1 cb2 cb3
 refine (same04n_c vs us sh _ (hs.gr z1) (ks.gr z1)).mono ?_
 rintro e w2 ⟨rfl, g2⟩
 go_wp2_with fail
 go_ret
 exact ⟨rfl, (z1).trans g2⟩
end
section
open Go.ChangeShapes Go.WideShapes Go.ChangeAt Go.RowKit
set_option linter.unusedVariables false
set_option maxRecDepth 100000
def inB (l a : Int) : Bool := decide (-l ≤ a ∧ a ≤ l)
theorem inB_true {l a : Int} (h0 : -l ≤ a) (h1 : a ≤ l) : inB l a = true := by simp [inB, h0, h1]
theorem inB_false {l a : Int} (h : a < -l ∨ l < a) : inB l a = false := by simp [inB]; omega
theorem inB_iff {l a : Int} : inB l a = true ↔ -l ≤ a ∧ a ≤ l := by simp [inB]
theorem re_c (x y : Int) (w : World) :
 Calls Tryz.prog 158 #[.agg #[.int .i64 x, .int .i64 y]] w fun e w' => e = .returned (.int .i64 x) ∧ w' = w.alloc (.cells #[.int .i64 x, .int .i64 y] 55) := by
 go_enter Tryz.func158, Tryz.ntmps158
 go_wp2
 go_ret
 exact ⟨rfl, rfl⟩
theorem im_c (x y : Int) (w : World) :
 Calls Tryz.prog 159 #[.agg #[.int .i64 x, .int .i64 y]] w fun e w' => e = .returned (.int .i64 y) ∧ w' = w.alloc (.cells #[.int .i64 x, .int .i64 y] 55) := by
 go_enter Tryz.func159, Tryz.ntmps159
 go_wp2
 go_ret
 exact ⟨rfl, rfl⟩
theorem re_g (x y : Int) (w : World) :
 Calls Tryz.prog 158 #[.agg #[.int .i64 x, .int .i64 y]] w fun e w' => e = .returned (.int .i64 x) ∧ Gr w w' :=
 (re_c x y w).mono fun e w' ⟨he, hw⟩ => ⟨he, by rw [hw]; exact (Gr.refl w).alloc _ _⟩
theorem im_g (x y : Int) (w : World) :
 Calls Tryz.prog 159 #[.agg #[.int .i64 x, .int .i64 y]] w fun e w' => e = .returned (.int .i64 y) ∧ Gr w w' :=
 (im_c x y w).mono fun e w' ⟨he, hw⟩ => ⟨he, by rw [hw]; exact (Gr.refl w).alloc _ _⟩
def Enters (k : Nat) : Prop := ∀ (args : Array Value) (w : World), (callFunc k args).run Tryz.prog w = .ok (.enter k args) w
theorem enters_of {k : Nat} {fn : Func} (hf : Tryz.prog.funcs[k]? = some fn) (hn : (fn.name == "runtime.NumGoroutine") = false) (hb : fn.body.isNone = false) : Enters k := by
 intro args w
 have h1 : fn.name ≠ "runtime.NumGoroutine" := by simpa using hn
 have h2 : fn.body ≠ none := by intro h; rw [h] at hb; cases hb
 simp [callFunc, hf, h1, h2]
def Tells (k : Nat) (cap : Array Value) (p : Nat) (v : Value) (w : World) : Prop :=
 ∀ W, Gr w W → Calls Tryz.prog k (#[.func (.func p) #[] #[]] ++ cap) W fun e w' => e = .returned v ∧ Gr W w'
theorem both_int (k : Nat) (cap : Array Value) (x y : Int) (w : World) (HE : Enters k)
 (HX : Hid (Tells k cap 158 (.int .i64 x) w)) (HY : Hid (Tells k cap 159 (.int .i64 y) w)) :
 Calls Tryz.prog 133 #[.func (.func k) #[] cap] w fun e w' => e = .returned (.tuple #[.int .i64 x, .int .i64 y]) ∧ Gr w w' := by
 unfold Enters at HE
 go_enter Tryz.func133, Tryz.ntmps133
 go_wp2_with fail
 refine (HX.out _ (Gr.refl _)).mono ?_
 rintro e w1 ⟨rfl, hg1⟩
 go_wp2_with fail
 refine (HY.out _ hg1).mono ?_
 rintro e w2 ⟨rfl, hg2⟩
 go_wp2
 go_ret2
 exact ⟨rfl, hg1.trans hg2⟩
theorem both_bool (k : Nat) (cap : Array Value) (x y : Bool) (w : World) (HE : Enters k)
 (HX : Hid (Tells k cap 158 (.bool x) w)) (HY : Hid (Tells k cap 159 (.bool y) w)) :
 Calls Tryz.prog 174 #[.func (.func k) #[] cap] w fun e w' => e = .returned (.tuple #[.bool x, .bool y]) ∧ Gr w w' := by
 unfold Enters at HE
 go_enter Tryz.func174, Tryz.ntmps174
 go_wp2_with fail
 refine (HX.out _ (Gr.refl _)).mono ?_
 rintro e w1 ⟨rfl, hg1⟩
 go_wp2_with fail
 refine (HY.out _ hg1).mono ?_
 rintro e w2 ⟨rfl, hg2⟩
 go_wp2
 go_ret2
 exact ⟨rfl, hg1.trans hg2⟩
theorem numberOf_c (k : Nat) (cap : Array Value) (x y : Int) (w : World) (HE : Enters k)
 (HX : Hid (Tells k cap 158 (.int .i64 x) w)) (HY : Hid (Tells k cap 159 (.int .i64 y) w)) :
 Calls Tryz.prog 106 #[.func (.func k) #[] cap] w fun e w' => e = .returned (.agg #[.int .i64 x, .int .i64 y]) ∧ Gr w w' := by
 have HB := Lib.hid fun (W : World) (g : Gr w W) => both_int k cap x y W HE (Lib.hid fun W1 g1 => HX.out W1 (g.trans g1)) (Lib.hid fun W1 g1 => HY.out W1 (g.trans g1))
 clear HX HY HE
 go_enter Tryz.func106, Tryz.ntmps106
 go_wp2_with fail
 refine (HB.out _ ((Gr.refl w).alloc _ _)).mono ?_
 rintro e w1 ⟨rfl, hg⟩
 have z : w.heap.size + 1 ≤ w1.heap.size := by have := hg.size; simpa using this
 have c0 : w1.cell? ⟨w.heap.size, 0, none⟩ = some (.int .i64 0) := (hg.cell (p := ⟨w.heap.size, 0, none⟩) (by simp)).trans (by go_simp)
 have c1 : w1.cell? ⟨w.heap.size, 1, none⟩ = some (.int .i64 0) := (hg.cell (p := ⟨w.heap.size, 1, none⟩) (by simp)).trans (by go_simp)
 have f0 : w1.frozen? ⟨w.heap.size, 0, none⟩ = false := (hg.frozen ⟨w.heap.size, 0, none⟩).trans (by go_simp)
 have f1 : w1.frozen? ⟨w.heap.size, 1, none⟩ = false := (hg.frozen ⟨w.heap.size, 1, none⟩).trans (by go_simp)
 go_wp2
 refine bodyPost_ret (v := .agg #[.int .i64 x, .int .i64 y]) ?_ rfl ⟨rfl, ?_⟩
 ·simp [results, Tryz.results106, go_sem, c0, c1]
 ·exact ((Gr.trans ((Gr.refl w).alloc _ _) hg).setCell (by simp) _).setCell (by simp) _
end
section
open Go.ChangeShapes Go.WideShapes Go.ChangeAt Go.RowKit
set_option linter.unusedVariables false
structure CxAt (w : World) (p : Nat) (x y : Int) : Prop where
 lt : p < w.heap.size
 c0 : w.cell? ⟨p, 0, none⟩ = some (.int .i64 x)
 c1 : w.cell? ⟨p, 1, none⟩ = some (.int .i64 y)
theorem CxAt.gr {w W : World} {p : Nat} {x y : Int} (h : CxAt w p x y) (g : Gr w W) : CxAt W p x y :=
 ⟨Nat.lt_of_lt_of_le h.lt g.size, (g.cell (p := ⟨p, 0, none⟩) h.lt).trans h.c0, (g.cell (p := ⟨p, 1, none⟩) h.lt).trans h.c1⟩
theorem sum1_re (p q : Nat) (x0 x1 y0 y1 r : Int) (w : World) (hp : CxAt w p x0 x1) (hq : CxAt w q y0 y1) (hw : IntKind.i64.wrap (x0 + y0) = r) :
 Calls Tryz.prog 161 #[.func (.func 158) #[] #[], .pointer (some ⟨p, 0, none⟩), .pointer (some ⟨q, 0, none⟩)] w fun e w' => e = .returned (.int .i64 r) ∧ Gr w w' := by
 obtain ⟨lp, c0, c1⟩ := hp
 obtain ⟨lq, d0, d1⟩ := hq
 go_enter Tryz.func161, Tryz.ntmps161
 go_wp2
 go_region_held3 (fun W => W.cell? ⟨p, 0, none⟩ = some (.int .i64 x0) ∧ W.cell? ⟨p, 1, none⟩ = some (.int .i64 x1) ∧ W.cell? ⟨q, 0, none⟩ = some (.int .i64 y0) ∧ W.cell? ⟨q, 1, none⟩ = some (.int .i64 y1) ∧ Gr w W)
  (first | (go_split_ands; refine ⟨?_, ?_, ?_, ?_, ?_⟩; (all_goals (first | (go_keep; done) | (repeat (first | exact Gr.refl _ | assumption | apply Gr.drew | apply Gr.alloc))))))
  (first | (go_at_call 158; refine (re_c _ _ _).mono ?_; rintro e w' ⟨rfl, rfl⟩))
 go_wp2
 go_ret
 exact ⟨by rw [← hw]; rfl, by repeat (first | exact Gr.refl _ | assumption | apply Gr.drew | apply Gr.alloc)⟩
theorem sum1_im (p q : Nat) (x0 x1 y0 y1 r : Int) (w : World) (hp : CxAt w p x0 x1) (hq : CxAt w q y0 y1) (hw : IntKind.i64.wrap (x1 + y1) = r) :
 Calls Tryz.prog 161 #[.func (.func 159) #[] #[], .pointer (some ⟨p, 0, none⟩), .pointer (some ⟨q, 0, none⟩)] w fun e w' => e = .returned (.int .i64 r) ∧ Gr w w' := by
 obtain ⟨lp, c0, c1⟩ := hp
 obtain ⟨lq, d0, d1⟩ := hq
 go_enter Tryz.func161, Tryz.ntmps161
 go_wp2
 go_region_held3 (fun W => W.cell? ⟨p, 0, none⟩ = some (.int .i64 x0) ∧ W.cell? ⟨p, 1, none⟩ = some (.int .i64 x1) ∧ W.cell? ⟨q, 0, none⟩ = some (.int .i64 y0) ∧ W.cell? ⟨q, 1, none⟩ = some (.int .i64 y1) ∧ Gr w W)
  (first | (go_split_ands; refine ⟨?_, ?_, ?_, ?_, ?_⟩; (all_goals (first | (go_keep; done) | (repeat (first | exact Gr.refl _ | assumption | apply Gr.drew | apply Gr.alloc))))))
  (first | (go_at_call 159; refine (im_c _ _ _).mono ?_; rintro e w' ⟨rfl, rfl⟩))
 go_wp2
 go_ret
 exact ⟨by rw [← hw]; rfl, by repeat (first | exact Gr.refl _ | assumption | apply Gr.drew | apply Gr.alloc)⟩
theorem less1_re (p q : Nat) (x0 x1 y0 y1 r : Int) (w : World) (hp : CxAt w p x0 x1) (hq : CxAt w q y0 y1) (hw : IntKind.i64.wrap (x0 - y0) = r) :
 Calls Tryz.prog 162 #[.func (.func 158) #[] #[], .pointer (some ⟨p, 0, none⟩), .pointer (some ⟨q, 0, none⟩)] w fun e w' => e = .returned (.int .i64 r) ∧ Gr w w' := by
 obtain ⟨lp, c0, c1⟩ := hp
 obtain ⟨lq, d0, d1⟩ := hq
 go_enter Tryz.func162, Tryz.ntmps162
 go_wp2
 go_region_held3 (fun W => W.cell? ⟨p, 0, none⟩ = some (.int .i64 x0) ∧ W.cell? ⟨p, 1, none⟩ = some (.int .i64 x1) ∧ W.cell? ⟨q, 0, none⟩ = some (.int .i64 y0) ∧ W.cell? ⟨q, 1, none⟩ = some (.int .i64 y1) ∧ Gr w W)
  (first | (go_split_ands; refine ⟨?_, ?_, ?_, ?_, ?_⟩; (all_goals (first | (go_keep; done) | (repeat (first | exact Gr.refl _ | assumption | apply Gr.drew | apply Gr.alloc))))))
  (first | (go_at_call 158; refine (re_c _ _ _).mono ?_; rintro e w' ⟨rfl, rfl⟩))
 go_wp2
 go_ret
 exact ⟨by rw [← hw]; rfl, by repeat (first | exact Gr.refl _ | assumption | apply Gr.drew | apply Gr.alloc)⟩
theorem less1_im (p q : Nat) (x0 x1 y0 y1 r : Int) (w : World) (hp : CxAt w p x0 x1) (hq : CxAt w q y0 y1) (hw : IntKind.i64.wrap (x1 - y1) = r) :
 Calls Tryz.prog 162 #[.func (.func 159) #[] #[], .pointer (some ⟨p, 0, none⟩), .pointer (some ⟨q, 0, none⟩)] w fun e w' => e = .returned (.int .i64 r) ∧ Gr w w' := by
 obtain ⟨lp, c0, c1⟩ := hp
 obtain ⟨lq, d0, d1⟩ := hq
 go_enter Tryz.func162, Tryz.ntmps162
 go_wp2
 go_region_held3 (fun W => W.cell? ⟨p, 0, none⟩ = some (.int .i64 x0) ∧ W.cell? ⟨p, 1, none⟩ = some (.int .i64 x1) ∧ W.cell? ⟨q, 0, none⟩ = some (.int .i64 y0) ∧ W.cell? ⟨q, 1, none⟩ = some (.int .i64 y1) ∧ Gr w W)
  (first | (go_split_ands; refine ⟨?_, ?_, ?_, ?_, ?_⟩; (all_goals (first | (go_keep; done) | (repeat (first | exact Gr.refl _ | assumption | apply Gr.drew | apply Gr.alloc))))))
  (first | (go_at_call 159; refine (im_c _ _ _).mono ?_; rintro e w' ⟨rfl, rfl⟩))
 go_wp2
 go_ret
 exact ⟨by rw [← hw]; rfl, by repeat (first | exact Gr.refl _ | assumption | apply Gr.drew | apply Gr.alloc)⟩
theorem shift1_re (p q m : Nat) (x0 x1 s mo : Int) (w : World) (hp : CxAt w p x0 x1) (hq : w.cell? ⟨q, 0, none⟩ = some (.int .i64 s)) (lq : q < w.heap.size) (hm : w.cell? ⟨m, 0, none⟩ = some (.int .i64 mo)) (lm : m < w.heap.size)
 (wx : -9223372036854775808 ≤ x0 ∧ x0 ≤ 9223372036854775807) (s0 : 0 ≤ s) (s1 : s ≤ 62) (m0 : 0 ≤ mo) (m1 : mo ≤ 2) :
 Calls Tryz.prog 107 #[.func (.func 158) #[] #[], .pointer (some ⟨p, 0, none⟩), .pointer (some ⟨q, 0, none⟩), .pointer (some ⟨m, 0, none⟩)] w fun e w' => e = .returned (.int .i64 (rnd x0 s.toNat mo)) ∧ Gr w w' := by
 have HS := Lib.hid (shift_ok x0 s mo wx s0 s1 m0 m1)
 generalize rnd x0 s.toNat mo = r at HS ⊢
 obtain ⟨lp, c0, c1⟩ := hp
 clear wx s0 s1 m0 m1
 go_enter Tryz.func107, Tryz.ntmps107
 go_wp2
 go_region_held3 (fun W => W.cell? ⟨p, 0, none⟩ = some (.int .i64 x0) ∧ W.cell? ⟨p, 1, none⟩ = some (.int .i64 x1) ∧ W.cell? ⟨q, 0, none⟩ = some (.int .i64 s) ∧ W.cell? ⟨m, 0, none⟩ = some (.int .i64 mo) ∧ Gr w W)
  (first | (go_split_ands; refine ⟨?_, ?_, ?_, ?_, ?_⟩; (all_goals (first | (go_keep; done) | (refine (Gr.cell (by assumption) ?_).trans ?_ <;> (first | assumption | (simp; done)) ; done) | (repeat (first | exact Gr.refl _ | assumption | apply Gr.drew | apply Gr.alloc | (refine Gr.trans ?_ (by assumption))))))))
  (first | (go_at_call 158; refine (re_c _ _ _).mono ?_; rintro e w' ⟨rfl, rfl⟩) | (go_at_call 85; go_split_ands; refine (HS.out _).mono ?_; rintro e w' ⟨rfl, hg⟩; have hgw : Gr w w' := Gr.trans (by assumption) hg))
 go_wp2
 go_ret
 exact ⟨rfl, by repeat (first | exact Gr.refl _ | assumption | apply Gr.drew | apply Gr.alloc)⟩
theorem shift1_im (p q m : Nat) (x0 x1 s mo : Int) (w : World) (hp : CxAt w p x0 x1) (hq : w.cell? ⟨q, 0, none⟩ = some (.int .i64 s)) (lq : q < w.heap.size) (hm : w.cell? ⟨m, 0, none⟩ = some (.int .i64 mo)) (lm : m < w.heap.size)
 (wx : -9223372036854775808 ≤ x1 ∧ x1 ≤ 9223372036854775807) (s0 : 0 ≤ s) (s1 : s ≤ 62) (m0 : 0 ≤ mo) (m1 : mo ≤ 2) :
 Calls Tryz.prog 107 #[.func (.func 159) #[] #[], .pointer (some ⟨p, 0, none⟩), .pointer (some ⟨q, 0, none⟩), .pointer (some ⟨m, 0, none⟩)] w fun e w' => e = .returned (.int .i64 (rnd x1 s.toNat mo)) ∧ Gr w w' := by
 have HS := Lib.hid (shift_ok x1 s mo wx s0 s1 m0 m1)
 generalize rnd x1 s.toNat mo = r at HS ⊢
 obtain ⟨lp, c0, c1⟩ := hp
 clear wx s0 s1 m0 m1
 go_enter Tryz.func107, Tryz.ntmps107
 go_wp2
 go_region_held3 (fun W => W.cell? ⟨p, 0, none⟩ = some (.int .i64 x0) ∧ W.cell? ⟨p, 1, none⟩ = some (.int .i64 x1) ∧ W.cell? ⟨q, 0, none⟩ = some (.int .i64 s) ∧ W.cell? ⟨m, 0, none⟩ = some (.int .i64 mo) ∧ Gr w W)
  (first | (go_split_ands; refine ⟨?_, ?_, ?_, ?_, ?_⟩; (all_goals (first | (go_keep; done) | (refine (Gr.cell (by assumption) ?_).trans ?_ <;> (first | assumption | (simp; done)) ; done) | (repeat (first | exact Gr.refl _ | assumption | apply Gr.drew | apply Gr.alloc | (refine Gr.trans ?_ (by assumption))))))))
  (first | (go_at_call 159; refine (im_c _ _ _).mono ?_; rintro e w' ⟨rfl, rfl⟩) | (go_at_call 85; go_split_ands; refine (HS.out _).mono ?_; rintro e w' ⟨rfl, hg⟩; have hgw : Gr w w' := Gr.trans (by assumption) hg))
 go_wp2
 go_ret
 exact ⟨rfl, by repeat (first | exact Gr.refl _ | assumption | apply Gr.drew | apply Gr.alloc)⟩
end
end Go.Proofs.YtablflakcaimmaaGreat
