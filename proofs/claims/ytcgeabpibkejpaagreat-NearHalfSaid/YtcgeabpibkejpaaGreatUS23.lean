import Derived.Test.YtcgeabpibkejpaaGreatUS22
namespace Go.Proofs.YtcgeabpibkejpaaGreat
section
open Go.ChangeShapes Go.WideShapes Go.ChangeAt Go.RowKit
set_option linter.unusedVariables false
set_option linter.unusedSimpArgs false
set_option maxRecDepth 100000
set_option maxHeartbeats 2000000 in
theorem ftWithin_c (v : Value) (xs : List Gi) (l h : Int) (w : World) (hv : CxsAt w v xs) :
 Calls Tryz.prog 72 #[.int .i64 l, .int .i64 h, v] w fun e w' => e = .returned (.bool (partsB l h xs)) ∧ Gr w w' := by
 by_cases hx0 : xs = []
 ·subst hx0
  obtain ⟨p, cap, rfl⟩ := hv.len
  rw [show ([] : List Gi).length = 0 from rfl]
  clear hv
  go_enter Tryz.func72, Tryz.ntmps72
  go_wp2_with fail
  go_loopw [11] (fun i wr => i = .int .i64 0 ∧ Gr w wr) (fun i _ => 0 - (intOf i).toNat)
  case atStart => exact ⟨rfl, Gr.refl _⟩
  case round =>
   obtain ⟨rfl, hg⟩ := hrel
   go_wp2_with fail
   go_ret
   exact ⟨rfl, hg⟩
 ·obtain ⟨b, o, cap, rfl, hlen, hb, hc⟩ := hv.at hx0
  have HC := Lib.hid hc
  clear hc hv hx0
  go_enter Tryz.func72, Tryz.ntmps72
  go_wp2_with fail
  go_loopw [11] (fun i wr => ∃ k : Nat, k ≤ xs.length ∧ i = .int .i64 k ∧ partsB l h (xs.take k) = true ∧ Gr w wr) (fun i _ => xs.length - (intOf i).toNat)
  case atStart => exact ⟨0, Nat.zero_le _, rfl, rfl, Gr.refl _⟩
  case round =>
   obtain ⟨k, hk, rfl, hp, hg⟩ := hrel
   by_cases hlt : k < xs.length
   ·obtain ⟨x, hx⟩ := get_of_lt hlt
    have h1 := (hg.cell (p := ⟨b, o + k * 2, none⟩) hb).trans (HC.out k x hx).1
    have h2 := (hg.cell (p := ⟨b, o + k * 2 + 1, none⟩) hb).trans (HC.out k x hx).2
    have hlI : (k : Int) < (xs.length : Int) := by omega
    obtain ⟨re, im⟩ := x
    simp only at h1 h2
    rcases Int.lt_trichotomy re im with a | a | a
    ·have a2 : ¬ im < re := by omega
     by_cases q1 : re < l
     ·have hb : partIn l h (Gi.mk re im) = false := by simp only [partIn]; simp; omega
      go_wp2_with fail
      go_ret
      exact ⟨by rw [partsB_no hx hb]; rfl, hg.alloc _ _⟩
     ·by_cases q2 : h < im
      ·have hb : partIn l h (Gi.mk re im) = false := by simp only [partIn]; simp; omega
       go_wp2_with fail
       go_ret
       exact ⟨by rw [partsB_no hx hb]; rfl, hg.alloc _ _⟩
      ·have hs := Lib.hid (partsB_snoc hx hp (show partIn l h (Gi.mk re im) = true by simp only [partIn]; simp; omega))
       go_wp2_with fail
       go_roundw
       case rel => exact ⟨k + 1, by omega, by go_num, hs.out, hg.alloc _ _⟩
       case measure => simp [intOf]; omega
    ·have a2 : ¬ im < re := by omega
     have a3 : ¬ re < im := by omega
     by_cases q1 : re < l
     ·have hb : partIn l h (Gi.mk re im) = false := by simp only [partIn]; simp; omega
      go_wp2_with fail
      go_ret
      exact ⟨by rw [partsB_no hx hb]; rfl, hg.alloc _ _⟩
     ·by_cases q2 : h < re
      ·have hb : partIn l h (Gi.mk re im) = false := by simp only [partIn]; simp; omega
       go_wp2_with fail
       go_ret
       exact ⟨by rw [partsB_no hx hb]; rfl, hg.alloc _ _⟩
      ·have hs := Lib.hid (partsB_snoc hx hp (show partIn l h (Gi.mk re im) = true by simp only [partIn]; simp; omega))
       go_wp2_with fail
       go_roundw
       case rel => exact ⟨k + 1, by omega, by go_num, hs.out, hg.alloc _ _⟩
       case measure => simp [intOf]; omega
    ·have a3 : ¬ re < im := by omega
     by_cases q1 : im < l
     ·have hb : partIn l h (Gi.mk re im) = false := by simp only [partIn]; simp; omega
      go_wp2_with fail
      go_ret
      exact ⟨by rw [partsB_no hx hb]; rfl, hg.alloc _ _⟩
     ·by_cases q2 : h < re
      ·have hb : partIn l h (Gi.mk re im) = false := by simp only [partIn]; simp; omega
       go_wp2_with fail
       go_ret
       exact ⟨by rw [partsB_no hx hb]; rfl, hg.alloc _ _⟩
      ·have hs := Lib.hid (partsB_snoc hx hp (show partIn l h (Gi.mk re im) = true by simp only [partIn]; simp; omega))
       go_wp2_with fail
       go_roundw
       case rel => exact ⟨k + 1, by omega, by go_num, hs.out, hg.alloc _ _⟩
       case measure => simp [intOf]; omega
   ·obtain rfl : k = xs.length := by omega
    have hlI : ¬ (xs.length : Int) < (xs.length : Int) := by omega
    rw [List.take_length] at hp
    go_wp2_with fail
    go_ret
    exact ⟨by first | rfl | (rw [hp]; rfl) | simp, hg⟩
set_option maxHeartbeats 4000000 in
theorem ftFitted_2 (fo p : Int) (v : Value) (xs : List Gi) (hl : xs.length ≤ 1048576) (HC : Hid (∀ x W, Calls Tryz.prog 102 #[.int .i64 x, .int .i64 fo] W fun e w' => e = .returned (.tuple #[.int .i64 (clampI p x), .bool (clampI p x != x), .int .i64 0]) ∧ Gr W w')) (w : World) (hv : CxsAt w v xs) :
 Calls Tryz.prog 238 #[.agg #[.int .i64 fo], v] w fun e w' => ∃ v', e = .returned (.tuple #[v', .bool (xs.any (offG p))]) ∧ CxsAt w' v' (xs.map (clampG p)) ∧ Gr w w' := by
 have hmk := run_make_cx xs.length hl
 by_cases hx : xs = []
 ·subst hx
  obtain ⟨q, cap, rfl⟩ := hv.len
  rw [show ([] : List Gi).length = 0 from rfl]
  clear hmk
  have hmk : ∀ W : World, (Instr.makeSlice 22 (.int .i64 0) (.int .i64 0)).run Tryz.prog W = .ok (.slice (some ⟨W.heap.size, 0, none⟩) 0 0) (W.alloc (.cells (madeCells #[.int .i64 0, .int .i64 0] (0 * 2)) 58)) := run_make_cx 0 (by omega)
  clear hv
  go_enter Tryz.func238, Tryz.ntmps238
  go_wp2_with fail
  refine wp_loop_rounds 1 ?_
  rw [rounds_succ]
  go_wp2_with fail
  go_ret2
  exact ⟨_, rfl, ⟨_, 0, rfl, Nat.le_refl _, Nat.zero_le _, fun h => absurd rfl h⟩, ((Gr.refl _).alloc _ _).alloc _ _⟩
 ·obtain ⟨b, o, cap, rfl, hlen, hbb, hc⟩ := hv.at hx
  have HXC := Lib.hid hc
  clear hc hv hx
  go_enter Tryz.func238, Tryz.ntmps238
  go_wp2_with fail
  have B0 := (CellsAt.new w 110 #[.int .i64 fo]).alloc (.cells (madeCells #[.int .i64 0, .int .i64 0] (xs.length * 2)) 58)
  have M0 := CellsAt.new (w.alloc (.cells #[.int .i64 fo] 110)) 58 (madeCells #[.int .i64 0, .int .i64 0] (xs.length * 2))
  have M1 := size_madeCells #[.int .i64 0, .int .i64 0] (xs.length * 2)
  rw [World.size_alloc] at M0
  go_loopw [7, 8, 10, 11, 12, 13, 14, 15, 21] (fun cl _ _ _ _ _ _ _ i wr => ∃ k : Nat, ∃ c : Array Value, k ≤ xs.length ∧ i = .int .i64 k ∧ cl = .bool ((xs.take k).any (offG p)) ∧ CellsAt wr (w.heap.size + 1) 58 c ∧ c.size = xs.length * 2 ∧ (∀ j x, j < k → xs[j]? = some x → c[j * 2]? = some (.int .i64 (clampG p x).re) ∧ c[j * 2 + 1]? = some (.int .i64 (clampG p x).im)) ∧ CellsAt wr w.heap.size 110 #[.int .i64 fo] ∧ Gr w wr) (fun _ _ _ _ _ _ _ _ i _ => xs.length - (intOf i).toNat)
  case atStart => exact ⟨0, _, by omega, rfl, rfl, M0, M1, fun j x hj => absurd hj (Nat.not_lt_zero _), B0, ((Gr.refl _).alloc _ _).alloc _ _⟩
  case round =>
   clear M0 M1 hmk B0
   obtain ⟨k, c, hk, rfl, rfl, hC, hsz, hj, hB, hg⟩ := hrel
   by_cases hlt : k < xs.length
   ·obtain ⟨x, hx⟩ := get_of_lt hlt
    have h1 := (hg.cell (p := ⟨b, o + k * 2, none⟩) hbb).trans (HXC.out k x hx).1
    have h2 := (hg.cell (p := ⟨b, o + k * 2 + 1, none⟩) hbb).trans (HXC.out k x hx).2
    have hbl : b < wr.heap.size := Nat.lt_of_lt_of_le hbb hg.size
    have hkI : (k : Int) < (xs.length : Int) := by omega
    have HA := Lib.hid (show (xs.take (k + 1)).any (offG p) = ((xs.take k).any (offG p) || offG p x) by rw [take_snoc hx, List.any_append, List.any_cons, List.any_nil, Bool.or_false])
    have HS := Lib.hid hsz
    have HJ := Lib.hid hj
    have HXK := Lib.hid hx
    have HC1 := Lib.hid fun W => HC.out x.re W
    have HC2 := Lib.hid fun W => HC.out x.im W
    clear hx hsz hj HC HXC
    generalize hca : (xs.take k).any (offG p) = ca at *
    obtain ⟨re, im⟩ := x
    have HO := Lib.hid (show offG p ⟨re, im⟩ = ((clampI p re != re) || (clampI p im != im)) from rfl)
    have HG := Lib.hid (show clampG p ⟨re, im⟩ = ⟨clampI p re, clampI p im⟩ from rfl)
    simp only at h1 h2 HC1 HC2
    generalize clampI p re = r0 at *
    generalize clampI p im = r1 at *
    generalize (r0 != re) = b0 at *
    generalize (r1 != im) = b1 at *
    have hBl := hB.lt
    have hCl := hC.lt
    have cb := hB.cell 0
    simp only [List.getElem?_toArray, List.getElem?_cons_zero] at cb
    clear hca
    go_wp2_with fail
    have hA1 := CellsAt.new wr 58 #[.int .i64 re, .int .i64 im]
    have gA := (Gr.refl wr).alloc #[.int .i64 re, .int .i64 im] 58
    refine (HC1.out _).mono ?_
    rintro e w2 ⟨rfl, g2⟩
    have hA2 := hA1.gr g2
    have gA2 := gA.trans g2
    have hB2 := hB.gr gA2
    have cb := hB2.cell 0
    have ca1 := hA2.cell 1
    simp only [getS] at cb ca1
    clear hA1 gA g2 HC1
    go_wp2_with fail
    refine (HC2.out _).mono ?_
    rintro e w3 ⟨rfl, g3⟩
    have gA3 := gA2.trans g3
    have hC3 := hC.gr gA3
    have hB3 := hB.gr gA3
    have hg3 := hg.trans gA3
    have f2 := hC3.frozen (k * 2)
    have f3 := hC3.frozen (k * 2 + 1)
    have q2 := hC3.cell (k * 2)
    have q3 := hC3.cell (k * 2 + 1)
    rw [Array.getElem?_eq_getElem (show k * 2 < c.size by rw [HS.out]; omega)] at q2
    rw [Array.getElem?_eq_getElem (show k * 2 + 1 < c.size by rw [HS.out]; omega)] at q3
    have hCl3 := hC3.lt
    have hgs := hg3.size
    clear cb ca1 hA2 gA2 hB2 g3 gA3 HC2 hB hC hg
    cases ca <;> cases b0 <;> cases b1
    all_goals
     go_wp2_with fail
     have hC4 := (hC3.set (k * 2) (.int .i64 r0)).set (k * 2 + 1) (.int .i64 r1)
     have hB4 := (hB3.other (B' := w.heap.size + 1) (by omega) (k * 2) (.int .i64 r0)).other (B' := w.heap.size + 1) (by omega) (k * 2 + 1) (.int .i64 r1)
     have hg4 := (hg3.setCell (a := ⟨w.heap.size + 1, k * 2, none⟩) (by simp) (.int .i64 r0)).setCell (a := ⟨w.heap.size + 1, k * 2 + 1, none⟩) (by simp) (.int .i64 r1)
     go_roundw
     case rel =>
      refine ⟨k + 1, _, by omega, by go_num, by rw [HA.out, HO.out]; rfl, hC4, by simpa using HS.out, fun j y hj hy => ?_, hB4, hg4⟩
      by_cases e : j = k
      ·subst e
       rw [HXK.out] at hy
       obtain rfl := Option.some.inj hy
       rw [HG.out]
       constructor
       ·rw [Array.getElem?_setIfInBounds, if_neg (by omega), Array.getElem?_setIfInBounds, if_pos rfl, if_pos (by rw [HS.out]; omega)]
       ·rw [Array.getElem?_setIfInBounds, if_pos rfl, if_pos (by simp only [Array.size_setIfInBounds]; rw [HS.out]; omega)]
      ·have := HJ.out j y (by omega) hy
       constructor
       ·rw [Array.getElem?_setIfInBounds, if_neg (by omega), Array.getElem?_setIfInBounds, if_neg (by omega)]
        exact this.1
       ·rw [Array.getElem?_setIfInBounds, if_neg (by omega), Array.getElem?_setIfInBounds, if_neg (by omega)]
        exact this.2
     case measure => simp [intOf]; omega
   ·obtain rfl : k = xs.length := by omega
    have hkI : ¬ (xs.length : Int) < (xs.length : Int) := by omega
    rw [List.take_length]
    have hlen4 : (xs.map (clampG p)).length = xs.length := by simp
    go_wp2_with fail
    go_ret2
    refine ⟨.slice (some ⟨w.heap.size + 1, 0, none⟩) xs.length xs.length, rfl, ⟨some ⟨w.heap.size + 1, 0, none⟩, xs.length, by rw [List.length_map], by rw [List.length_map]; omega, by unfold maxLen; omega, fun _ => ⟨w.heap.size + 1, 0, rfl, hC.lt, fun j x hx => ?_⟩⟩, hg⟩
    rw [List.getElem?_map] at hx
    obtain ⟨x', hx', rfl⟩ := Option.map_eq_some_iff.1 hx
    have hjl := (List.getElem?_eq_some_iff.1 hx').1
    have := hj j x' hjl hx'
    rw [hC.cell, hC.cell, Nat.zero_add]
    exact this
end
section
open Go.ChangeShapes Go.WideShapes Go.ChangeAt Go.RowKit Go.MapKept
set_option linter.unusedVariables false
set_option linter.unusedSimpArgs false
set_option maxRecDepth 100000
def passF (k : Int) : Value := if k = 4 then .func (.func 99) #[] #[] else .func (.func 98) #[] #[]
def KMap (W : World) (B : Nat) : Prop := W.heap[B]? = some (.map #[⟨.int .i64 2, passF 2, 0⟩, ⟨.int .i64 4, passF 4, 1⟩] 2)
theorem KMap.gr {W W' : World} {B : Nat} (h : KMap W B) (g : Gr W W') : KMap W' B := (g.block (Array.getElem?_eq_some_iff.1 h).1).trans h
theorem KMap.lt {W : World} {B : Nat} (h : KMap W B) : B < W.heap.size := (Array.getElem?_eq_some_iff.1 h).1
theorem und_kmap : ∃ k e, Tryz.prog.underlying 69 = some (.map k e) ∧ k = 3 ∧ e = 101 := ⟨_, _, by kernel_rfl, rfl, rfl⟩
theorem kkey_check (e : Bool) (x : Int) (w : World) : (Instr.checkKey e 10000 3 (.int .i64 x)).run Tryz.prog w = .ok () w := by kernel_rfl
theorem und_int : Tryz.prog.underlying 3 = some (.int .i64) := by kernel_rfl
theorem KMap.look {W : World} {B : Nat} (h : KMap W B) (k : Int) (hk : k = 2 ∨ k = 4) : (Instr.lookup 69 (.map (some B)) (.int .i64 k) false).run Tryz.prog W = .ok (passF k) W := by
 obtain ⟨a, e, hu, rfl, rfl⟩ := und_kmap
 rcases hk with rfl | rfl <;> simp [Instr.lookup, run_underlying hu, MapKept.run_getObj_map h, kkey_check, Instr.findKey, run_underlying und_int, Instr.findNow, Instr.sameNow, Result.andThen]
theorem kmap_first (W : World) (B : Nat) (h : W.heap[B]? = some (.map #[] 0)) (v : Value) :
 (Instr.mapUpdate 69 (.map (some B)) (.int .i64 2) v).run Tryz.prog W = .ok () { W with heap := W.heap.setIfInBounds B (.map #[⟨.int .i64 2, v, 0⟩] 1) } := by
 obtain ⟨a, e, hu, rfl, rfl⟩ := und_kmap
 simp [Instr.mapUpdate, run_underlying hu, MapKept.run_getObj_map h, kkey_check, Instr.findKey, run_underlying und_int, Instr.findNow, Instr.sameNow, MapKept.run_setObj_map _ h, Result.andThen]
theorem kmap_second (W : World) (B : Nat) (u v : Value) (h : W.heap[B]? = some (.map #[⟨.int .i64 2, u, 0⟩] 1)) :
 (Instr.mapUpdate 69 (.map (some B)) (.int .i64 4) v).run Tryz.prog W = .ok () { W with heap := W.heap.setIfInBounds B (.map #[⟨.int .i64 2, u, 0⟩, ⟨.int .i64 4, v, 1⟩] 2) } := by
 obtain ⟨a, e, hu, rfl, rfl⟩ := und_kmap
 simp [Instr.mapUpdate, run_underlying hu, MapKept.run_getObj_map h, kkey_check, Instr.findKey, run_underlying und_int, Instr.findNow, Instr.sameNow, MapKept.run_setObj_map _ h, Result.andThen]
theorem ftKernels_c (w : World) : Calls Tryz.prog 69 #[] w fun e w' => ∃ B, e = .returned (.map (some B)) ∧ KMap w' B ∧ Gr w w' := by
 have hmm := @run_makeMap Tryz.prog
 have h0 := (MapKept.heap_alloc w (.map #[] 0)).1
 have h1 := kmap_first (w.alloc (.map #[] 0)) w.heap.size h0 (.func (.func 98) #[] #[])
 have h2 := (MapKept.heap_set (o' := .map #[⟨.int .i64 2, .func (.func 98) #[] #[], 0⟩] 1) h0).1
 have g0 := (Gr.refl w).allocO (.map #[] 0)
 generalize hw1 : (w.alloc (.map #[] 0)) = W0 at h0 h1 h2 g0
 have g1 : Gr w { W0 with heap := W0.heap.setIfInBounds w.heap.size (.map #[⟨.int .i64 2, .func (.func 98) #[] #[], 0⟩] 1) } := ⟨g0.out.os, g0.out.tape, g0.out.output, by have := g0.out.size; simpa using this, fun j hj => ((MapKept.heap_set h0).2 j (by omega)).trans (g0.out.block j hj)⟩
 generalize hw2 : ({ W0 with heap := W0.heap.setIfInBounds w.heap.size (.map #[⟨.int .i64 2, .func (.func 98) #[] #[], 0⟩] 1) } : World) = W1 at h1 g1
 have h2' : W1.heap[w.heap.size]? = some (.map #[⟨.int .i64 2, .func (.func 98) #[] #[], 0⟩] 1) := by rw [← hw2]; exact h2
 have h3 := kmap_second W1 w.heap.size _ (.func (.func 99) #[] #[]) h2'
 have h4 := (MapKept.heap_set (o' := .map #[⟨.int .i64 2, .func (.func 98) #[] #[], 0⟩, ⟨.int .i64 4, .func (.func 99) #[] #[], 1⟩] 2) h2').1
 have g2 : Gr w { W1 with heap := W1.heap.setIfInBounds w.heap.size (.map #[⟨.int .i64 2, .func (.func 98) #[] #[], 0⟩, ⟨.int .i64 4, .func (.func 99) #[] #[], 1⟩] 2) } := ⟨g1.out.os, g1.out.tape, g1.out.output, by have := g1.out.size; simpa using this, fun j hj => ((MapKept.heap_set h2').2 j (by omega)).trans (g1.out.block j hj)⟩
 rw [← hw1] at h1
 clear h0 h2 h2' g0 g1 hw2 hw1
 go_enter Tryz.func69, Tryz.ntmps69
 go_wp2_with fail
 go_ret
 exact ⟨_, rfl, h4, g2⟩
theorem nil_yes (c : Nat) (W : World) : (binOp .eql 25 (.slice none 0 c) (.slice none 0 0)).run Tryz.prog W = .ok (.bool true) W := by kernel_rfl
theorem nil_no (q : Addr) (n c : Nat) (W : World) : (binOp .eql 25 (.slice (some q) n c) (.slice none 0 0)).run Tryz.prog W = .ok (.bool false) W := by kernel_rfl
set_option maxHeartbeats 2000000 in
theorem ftClone_c (v : Value) (ls : List Int) (hls : ls.length ≤ 20) (w : World) (hv : NumsAt w v ls) :
 Calls Tryz.prog 70 #[v] w fun e w' => ∃ u, e = .returned u ∧ w'.ownsRow w.heap.size 3 1 u ls.length (ls.map (Value.int .i64)) ∧ Gr w w' := by
 obtain ⟨sp, sl, rfl⟩ := hv.len
 cases sp with
 | none =>
   have h0 : ls = [] := by
    apply Classical.byContradiction
    intro hx
    obtain ⟨b, o, cap, hsl, _⟩ := hv.at hx
    cases hsl
   subst h0
   have hn := nil_yes sl
   go_enter Tryz.func70, Tryz.ntmps70
   go_wp2_with fail
   go_ret
   exact ⟨_, rfl, ⟨rfl, .inl ⟨rfl, rfl⟩⟩, Gr.refl _⟩
 | some q =>
   have hn := nil_no q ls.length sl
   have hlw := hv.gr ((Gr.refl w).alloc #[] 3)
   go_enter Tryz.func70, Tryz.ntmps70
   go_wp2_with (at_builtin; refine wpList_append_nums rfl (.tmp 5) (.tmp 6) rfl w.heap.size _ 0 [] ls rfl (World.ownsRow_made w #[] 0 (Nat.le_refl _) (by unfold maxLen; omega) (by simp)) (some q) sl rfl hlw (by omega) (by simp) ?_; intro v1 W1 hown1 hgrow1 hblk1; rw [Nat.zero_add, List.nil_append] at hown1; have G1 : Gr w W1 := ((Gr.refl w).alloc _ _).grown hgrow1 (fun k e => by cases e; exact Nat.le_refl _); clear hgrow1 hblk1)
   go_ret
   exact ⟨_, rfl, hown1, G1⟩
end
section
open Go.ChangeShapes Go.WideShapes Go.ChangeAt Go.RowKit
set_option linter.unusedVariables false
set_option linter.unusedSimpArgs false
set_option maxRecDepth 100000
theorem KMap.set {W : World} {B b : Nat} (h : KMap W B) (hne : B ≠ b) (j : Nat) (v : Value) : KMap (W.setCell ⟨b, j, none⟩ v) B := by
 unfold KMap
 rw [Below.heap_setCell _ _ _ _ hne]
 exact h
theorem KMap.ne {W : World} {B b : Nat} {t : TypeId} {c : Array Value} (h : KMap W B) (hc : CellsAt W b t c) : B ≠ b := by
 rintro rfl
 have h1 := (show W.heap[B]? = _ from h).symm.trans (show W.heap[B]? = _ from hc)
 cases h1
theorem CellsAt.set10 {W : World} {B : Nat} {t : TypeId} {a0 a1 a2 a3 a4 a5 a6 a7 a8 a9 : Value} (h : CellsAt W B t #[a0, a1, a2, a3, a4, a5, a6, a7, a8, a9]) (v0 v1 v2 v3 v4 v5 v6 v7 v8 v9 : Value) : CellsAt ((((((((((W.setCell ⟨B, 0, none⟩ v0).setCell ⟨B, 1, none⟩ v1).setCell ⟨B, 2, none⟩ v2).setCell ⟨B, 3, none⟩ v3).setCell ⟨B, 4, none⟩ v4).setCell ⟨B, 5, none⟩ v5).setCell ⟨B, 6, none⟩ v6).setCell ⟨B, 7, none⟩ v7).setCell ⟨B, 8, none⟩ v8).setCell ⟨B, 9, none⟩ v9) B t #[v0, v1, v2, v3, v4, v5, v6, v7, v8, v9] := by
 have := ((((((((((h.set 0 v0).set 1 v1).set 2 v2).set 3 v3).set 4 v4).set 5 v5).set 6 v6).set 7 v7).set 8 v8).set 9 v9)
 simpa using this
theorem apart10 {W : World} {v : Value} {xs : List Gi} {B : Nat} {t : TypeId} {a0 a1 a2 a3 a4 a6 a7 a8 a9 : Value} {b : Bool} (hl : 3 ≤ xs.length) (h : CxsAt W v xs) (hc : CellsAt W B t #[a0, a1, a2, a3, a4, .bool b, a6, a7, a8, a9]) : Apart v xs B := by
 rintro b0 o cap rfl hne rfl
 obtain ⟨b', o', cap', e, _, _, hx⟩ := h.at hne
 cases e
 obtain ⟨x0, h0⟩ := get_of_lt (show 0 < xs.length by omega)
 obtain ⟨x1, h1⟩ := get_of_lt (show 1 < xs.length by omega)
 obtain ⟨x2, h2⟩ := get_of_lt (show 2 < xs.length by omega)
 have e0 := hx 0 x0 h0
 have e1 := hx 1 x1 h1
 have e2 := hx 2 x2 h2
 rw [hc.cell, hc.cell] at e0 e1 e2
 have ho : o = 0 ∨ o = 1 ∨ o = 2 ∨ o = 3 ∨ o = 4 ∨ o = 5 ∨ 6 ≤ o := by omega
 rcases ho with rfl | rfl | rfl | rfl | rfl | rfl | ho
 all_goals first | (simp at e0; done) | (simp at e1; done) | (simp at e2; done) | skip
 rw [Array.getElem?_eq_none (by simp; omega)] at e2
 cases e2.1
def shF (sc : Int) : FuncId := if sc = 0 then 231 else if sc = 1 then 234 else 239
def fiF (sc : Int) : FuncId := if sc = 0 then 230 else if sc = 1 then 233 else 238
def ahF (sc : Int) : FuncId := if sc = 0 then 229 else if sc = 1 then 232 else 237
def psF (k : Int) : FuncId := if k = 4 then 99 else 98
set_option maxHeartbeats 4000000 in
theorem ftOf_c (fo lo ke sc mo b b2 : Int) (sT : TypeId) (sV : Value) (iv : Bool) (ws : List Gi) (hws : 3 ≤ ws.length) (hb : IntKind.i64.wrap (b - 2) = b2) (HB : CR 67 #[.int .i64 fo] (.tuple #[.int .i64 b, .int .i64 0]))
 (HT : Hid (∀ W, Calls Tryz.prog 68 #[.int .i64 lo, .int .i64 fo] W fun e w' => ∃ v, e = .returned (.tuple #[v, .int .i64 0]) ∧ CxsAt w' v ws ∧ Gr W w'))
 (HS : CR 43 #[.agg #[.int .i64 fo, .int .i64 lo, .int .i64 ke, .int .i64 sc, .int .i64 mo, .bool iv]] (.iface sT sV))
 (HK : Hid (∀ W, Calls Tryz.prog 69 #[] W fun e w' => ∃ B, e = .returned (.map (some B)) ∧ KMap w' B ∧ Gr W w')) (w : World) :
 Calls Tryz.prog 40 #[.agg #[.int .i64 fo, .int .i64 lo, .int .i64 ke, .int .i64 sc, .int .i64 mo, .bool iv]] w fun e w' => ∃ B v, e = .returned (.agg #[.int .i64 fo, .int .i64 lo, .int .i64 ke, .int .i64 sc, .int .i64 mo, .bool iv, .iface sT sV, .map (some B), v, .int .i64 b2]) ∧ KMap w' B ∧ CxsAt w' v ws ∧ Gr w w' := by
 go_enter Tryz.func40, Tryz.ntmps40
 go_wp2_with fail
 obtain ⟨u0, hU⟩ : ∃ uu, uu = ((w.alloc (.cells #[.int .i64 fo, .int .i64 lo, .int .i64 ke, .int .i64 sc, .int .i64 mo, .bool iv] 24)).alloc (.cells #[.int .i64 0, .int .i64 0, .int .i64 0, .int .i64 0, .int .i64 0, .bool false, .nilIface, .map none, .slice none 0 0, .int .i64 0] 71)) := ⟨_, rfl⟩
 have ⟨gu, R0, R1⟩ := lay2 hU
 rw [← hU]
 clear hU
 have lp := R0.lt
 have lr := R1.lt
 obtain ⟨cp0, cp1, cp2, cp3, cp4, cp5⟩ := R0.t6
 go_wp2_with fail
 clear cp0 cp1 cp2 cp3 cp4 cp5
 refine (HB.out _).mono ?_
 rintro e w1 ⟨rfl, g1⟩
 have ⟨Fp_1, lp_1⟩ := CellsAt.gl (R0) g1
 have ⟨Fr_1, lr_1⟩ := CellsAt.gl (R1) g1
 have z1 := (gu).trans g1
 clear R0 R1 gu g1
 obtain ⟨cp0, cp1, cp2, cp3, cp4, cp5⟩ := Fp_1.t6
 go_wp2_with fail
 clear cp0 cp1 cp2 cp3 cp4 cp5
 refine (HT.out _).mono ?_
 rintro e w2 ⟨vw, rfl, hw, g2⟩
 have ⟨Fp_2, lp_2⟩ := CellsAt.gl (Fp_1) g2
 have ⟨Fr_2, lr_2⟩ := CellsAt.gl (Fr_1) g2
 have z2 := (z1).trans g2
 clear Fp_1 Fr_1 z1 g2
 obtain ⟨wp, wc, rfl⟩ := hw.len
 go_wp2_with fail
 obtain ⟨ub, hqp1⟩ : ∃ zz, zz = w2 := ⟨_, rfl⟩
 have Yp_p1 : CellsAt ub (w.heap.size) 24 #[.int .i64 fo, .int .i64 lo, .int .i64 ke, .int .i64 sc, .int .i64 mo, .bool iv] := by rw [hqp1]; first | exact Fp_2 | simpa using Fp_2
 have Yr_p1 : CellsAt ub (w.heap.size + 1) 71 #[.int .i64 0, .int .i64 0, .int .i64 0, .int .i64 0, .int .i64 0, .bool false, .nilIface, .map none, .slice none 0 0, .int .i64 0] := by rw [hqp1]; first | exact Fr_2 | simpa using Fr_2
 have Vw_p1 := hw
 rw [← hqp1] at Vw_p1
 have yp1 : Gr w ub := by rw [hqp1]; exact z2
 rw [← hqp1]
 clear hqp1
 have KS : ∀ W, GB (w.heap.size + 1) ub W → (W.cell? ⟨w.heap.size, 0, none⟩ = some (.int .i64 fo) ∧ W.cell? ⟨w.heap.size, 1, none⟩ = some (.int .i64 lo) ∧ W.cell? ⟨w.heap.size, 2, none⟩ = some (.int .i64 ke) ∧ W.cell? ⟨w.heap.size, 3, none⟩ = some (.int .i64 sc) ∧ W.cell? ⟨w.heap.size, 4, none⟩ = some (.int .i64 mo) ∧ W.cell? ⟨w.heap.size, 5, none⟩ = some (.bool iv)) := fun W hG => ⟨(GB.cellsAt hG Yp_p1 (by omega)).cell 0, (GB.cellsAt hG Yp_p1 (by omega)).cell 1, (GB.cellsAt hG Yp_p1 (by omega)).cell 2, (GB.cellsAt hG Yp_p1 (by omega)).cell 3, (GB.cellsAt hG Yp_p1 (by omega)).cell 4, (GB.cellsAt hG Yp_p1 (by omega)).cell 5⟩
 have hclG := gb_closed (w.heap.size + 1) ub
 try simp only [List.append_eq, List.cons_append, List.nil_append]
 refine wp_region_grow (S := GB (w.heap.size + 1) ub) rfl (GB.drew (GB.refl _ _)) ?_
 refine gK 0 hclG KS ?_
 refine gK 1 hclG KS ?_
 refine wpG_call (i := 2) hclG rfl (by kernel_rfl) (by kernel_rfl) (by kernel_rfl) (fun _ _ _ h => h) ((fun W hS => HS.out W)) (by rfl) ?_ ?_
 ·(intro w' hSw; go_simp; try with_reducible rfl)
 try simp only [Act.put, putS]
 refine gT 4 hclG ?_
 refine gT 5 hclG ?_
 refine gT 6 hclG ?_
 refine wpG_ready (rs := [3]) (by kernel_rfl) (by simp) (fun w3 g3 s3 => ?_)
 refine AllG.cons rfl (fun K hK => ?_) AllG.nil
 replace g3 := (Gr.drew (Gr.refl ub)).trans g3
 have ⟨Fp_3, lp_3⟩ := CellsAt.gl (Yp_p1) g3
 have ⟨Fr_3, lr_3⟩ := CellsAt.gl (Yr_p1) g3
 have Kw_3 := CxsAt.gr (Vw_p1) g3
 have z3 := (yp1).trans g3
 clear Yp_p1 Yr_p1 yp1 g3
 go_simp
 refine (HK.out w3).mono ?_
 rintro e w4 ⟨vB, rfl, hB, g4⟩
 have hneK := KMap.ne hB (CellsAt.gr (Fr_3) g4)
 have t4 := GB.gr s3 g4
 have ⟨Fp_4, lp_4⟩ := CellsAt.gl (Fp_3) g4
 have ⟨Fr_4, lr_4⟩ := CellsAt.gl (Fr_3) g4
 have Kw_4 := CxsAt.gr (Kw_3) g4
 have z4 := (z3).trans g4
 clear Fp_3 Fr_3 z3 g4
 refine hK.out _ _ ?_ ?_
 ·exact t4
 clear hK K
 try simp only [Act.put, putS]
 refine gT 7 hclG ?_
 refine wpG_ready (rs := [8]) (by kernel_rfl) (by simp) (fun w5 g5 s5 => ?_)
 refine AllG.cons rfl (fun K hK => ?_) AllG.nil
 have ⟨Fp_5, lp_5⟩ := CellsAt.gl (Fp_4) g5
 have ⟨Fr_5, lr_5⟩ := CellsAt.gl (Fr_4) g5
 have Kw_5 := CxsAt.gr (Kw_4) g5
 have MK_5 := KMap.gr (hB) g5
 have z5 := (z4).trans g5
 clear Fp_4 Fr_4 z4 g5
 have mr0 := CellsAt.frozen (Fr_5) 0
 have cr0 := Fr_5.at 0
 have mr1 := CellsAt.frozen (Fr_5) 1
 have cr1 := Fr_5.at 1
 have mr2 := CellsAt.frozen (Fr_5) 2
 have cr2 := Fr_5.at 2
 have mr3 := CellsAt.frozen (Fr_5) 3
 have cr3 := Fr_5.at 3
 have mr4 := CellsAt.frozen (Fr_5) 4
 have cr4 := Fr_5.at 4
 have mr5 := CellsAt.frozen (Fr_5) 5
 have cr5 := Fr_5.at 5
 have mr6 := CellsAt.frozen (Fr_5) 6
 have cr6 := Fr_5.at 6
 have mr7 := CellsAt.frozen (Fr_5) 7
 have cr7 := Fr_5.at 7
 have mr8 := CellsAt.frozen (Fr_5) 8
 have cr8 := Fr_5.at 8
 have mr9 := CellsAt.frozen (Fr_5) 9
 have cr9 := Fr_5.at 9
 go_simp
 clear mr0 cr0 mr1 cr1 mr2 cr2 mr3 cr3 mr4 cr4 mr5 cr5 mr6 cr6 mr7 cr7 mr8 cr8 mr9 cr9
 have Aw_5 := apart10 hws Kw_5 Fr_5
 refine hK.out _ _ ?_ ?_
 ·exact (GB.set (GB.set (GB.set (GB.set (GB.set (GB.set (GB.set (GB.set (GB.set (GB.set s5 _ _) _ _) _ _) _ _) _ _) _ _) _ _) _ _) _ _) _ _)
 clear hK K
 try simp only [Act.put, putS]
 refine wpG_done (by kernel_rfl) (fun w6 g6 => ?_) _
 have ⟨Fp_6, lp_6⟩ := CellsAt.gl (((((((((((Fp_5).other (by omega) _ _).other (by omega) _ _).other (by omega) _ _).other (by omega) _ _).other (by omega) _ _).other (by omega) _ _).other (by omega) _ _).other (by omega) _ _).other (by omega) _ _).other (by omega) _ _) g6
 have ⟨Fr_6, lr_6⟩ := CellsAt.gl (CellsAt.set10 (Fr_5) _ _ _ _ _ _ _ _ _ _) g6
 have Kw_6 := CxsAt.gr ((CxsAt.set (CxsAt.set (CxsAt.set (CxsAt.set (CxsAt.set (CxsAt.set (CxsAt.set (CxsAt.set (CxsAt.set (CxsAt.set Kw_5 Aw_5 0 (.int .i64 fo)) Aw_5 1 (.int .i64 lo)) Aw_5 2 (.int .i64 ke)) Aw_5 3 (.int .i64 sc)) Aw_5 4 (.int .i64 mo)) Aw_5 5 (.bool iv)) Aw_5 6 (.iface sT sV)) Aw_5 7 (.map (some vB))) Aw_5 8 (.slice wp ws.length wc)) Aw_5 9 (.int .i64 b2))) g6
 have MK_6 := KMap.gr ((KMap.set (KMap.set (KMap.set (KMap.set (KMap.set (KMap.set (KMap.set (KMap.set (KMap.set (KMap.set MK_5 hneK 0 (.int .i64 fo)) hneK 1 (.int .i64 lo)) hneK 2 (.int .i64 ke)) hneK 3 (.int .i64 sc)) hneK 4 (.int .i64 mo)) hneK 5 (.bool iv)) hneK 6 (.iface sT sV)) hneK 7 (.map (some vB))) hneK 8 (.slice wp ws.length wc)) hneK 9 (.int .i64 b2))) g6
 have z6 := (((((((((((z5).setCell (by first | omega | (simp only; omega)) _).setCell (by first | omega | (simp only; omega)) _).setCell (by first | omega | (simp only; omega)) _).setCell (by first | omega | (simp only; omega)) _).setCell (by first | omega | (simp only; omega)) _).setCell (by first | omega | (simp only; omega)) _).setCell (by first | omega | (simp only; omega)) _).setCell (by first | omega | (simp only; omega)) _).setCell (by first | omega | (simp only; omega)) _).setCell (by first | omega | (simp only; omega)) _).trans g6
 clear g6
 clear hclG KS
 obtain ⟨cr0, cr1, cr2, cr3, cr4, cr5, cr6, cr7, cr8, cr9⟩ := Fr_6.t10
 go_wp2_with fail
 clear cr0 cr1 cr2 cr3 cr4 cr5 cr6 cr7 cr8 cr9
 refine bodyPost_ret (v := .agg #[.int .i64 fo, .int .i64 lo, .int .i64 ke, .int .i64 sc, .int .i64 mo, .bool iv, .iface sT sV, .map (some vB), .slice wp ws.length wc, .int .i64 b2]) ?_ rfl ⟨_, _, rfl, MK_6, Kw_6, z6⟩
 obtain ⟨cr0, cr1, cr2, cr3, cr4, cr5, cr6, cr7, cr8, cr9⟩ := Fr_6.t10
 simp [results, Tryz.results40, go_sem, *]
end
end Go.Proofs.YtcgeabpibkejpaaGreat
