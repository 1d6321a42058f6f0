import Derived.Test.YtdignnmpfkgkoaaGreatRealUntanglesS21
namespace Go.Proofs.YtdignnmpfkgkoaaGreat
section
open Go.ChangeShapes Go.WideShapes Go.ChangeAt Go.RowKit
set_option linter.unusedVariables false
set_option linter.unusedSimpArgs false
set_option maxRecDepth 100000
set_option maxHeartbeats 2000000 in
theorem ftWithin_c (v : Value) (xs : List Gi) (l h : Int) (w : World) (hv : CxsAt w v xs) :
 CW 147 #[.int .i64 l, .int .i64 h, v] w (.bool (partsB l h xs)) :=by
 delta CW
 by_cases hx0 : xs = []
 ·subst hx0
  obtain ⟨p, cap, rfl⟩ := hv.len
  rw [show ([] : List Gi).length = 0 from rfl]
  clear hv
  go_enter Tryz.func147, Tryz.ntmps147
  go_wp2_with fail
  go_loopw [11] (fun i wr => i = .int .i64 0 ∧ Gr w wr) (fun i _ => 0 - (intOf i).toNat)
  case atStart => exact ⟨rfl, Gr.refl _⟩
  case round =>
   obtain ⟨rfl, hg⟩ := hrel
   go_wp2_with fail
   go_ret
   exact ⟨rfl, hg⟩
 ·obtain ⟨b, o, cap, rfl, hlen, hb, hc⟩ := hv.at hx0
  have HC := Lib.hid hc
  clear hc hv hx0
  go_enter Tryz.func147, Tryz.ntmps147
  go_wp2_with fail
  go_loopw [11] (fun i wr => ∃ k : Nat, k ≤ xs.length ∧ i = .int .i64 k ∧ partsB l h (xs.take k) = true ∧ Gr w wr) (fun i _ => xs.length - (intOf i).toNat)
  case atStart => exact ⟨0, Nat.zero_le _, rfl, rfl, Gr.refl _⟩
  case round =>
   obtain ⟨k, hk, rfl, hp, hg⟩ := hrel
   by_cases hlt : k < xs.length
   ·obtain ⟨x, hx⟩ := get_of_lt hlt
    have h1 := (hg.cell (p := ⟨b, o + k * 2, none⟩) hb).trans (HC.out k x hx).1
    have h2 := (hg.cell (p := ⟨b, o + k * 2 + 1, none⟩) hb).trans (HC.out k x hx).2
    have hlI : (k : Int) < (xs.length : Int) := by omega
    obtain ⟨re, im⟩ := x
    simp only at h1 h2
    rcases Int.lt_trichotomy re im with a | a | a
    ·have a2 : ¬ im < re := by omega
     by_cases q1 : re < l
     ·have hb : partIn l h (Gi.mk re im) = false := by simp only [partIn]; simp; omega
      go_wp2_with fail
      go_ret
      exact ⟨by rw [partsB_no hx hb]; rfl, hg.alloc _ _⟩
     ·by_cases q2 : h < im
      ·have hb : partIn l h (Gi.mk re im) = false := by simp only [partIn]; simp; omega
       go_wp2_with fail
       go_ret
       exact ⟨by rw [partsB_no hx hb]; rfl, hg.alloc _ _⟩
      ·have hs := Lib.hid (partsB_snoc hx hp (show partIn l h (Gi.mk re im) = true by simp only [partIn]; simp; omega))
       go_wp2_with fail
       go_roundw
       case rel => exact ⟨k + 1, by omega, by go_num, hs.out, hg.alloc _ _⟩
       case measure => simp [intOf]; omega
    ·have a2 : ¬ im < re := by omega
     have a3 : ¬ re < im := by omega
     by_cases q1 : re < l
     ·have hb : partIn l h (Gi.mk re im) = false := by simp only [partIn]; simp; omega
      go_wp2_with fail
      go_ret
      exact ⟨by rw [partsB_no hx hb]; rfl, hg.alloc _ _⟩
     ·by_cases q2 : h < re
      ·have hb : partIn l h (Gi.mk re im) = false := by simp only [partIn]; simp; omega
       go_wp2_with fail
       go_ret
       exact ⟨by rw [partsB_no hx hb]; rfl, hg.alloc _ _⟩
      ·have hs := Lib.hid (partsB_snoc hx hp (show partIn l h (Gi.mk re im) = true by simp only [partIn]; simp; omega))
       go_wp2_with fail
       go_roundw
       case rel => exact ⟨k + 1, by omega, by go_num, hs.out, hg.alloc _ _⟩
       case measure => simp [intOf]; omega
    ·have a3 : ¬ re < im := by omega
     by_cases q1 : im < l
     ·have hb : partIn l h (Gi.mk re im) = false := by simp only [partIn]; simp; omega
      go_wp2_with fail
      go_ret
      exact ⟨by rw [partsB_no hx hb]; rfl, hg.alloc _ _⟩
     ·by_cases q2 : h < re
      ·have hb : partIn l h (Gi.mk re im) = false := by simp only [partIn]; simp; omega
       go_wp2_with fail
       go_ret
       exact ⟨by rw [partsB_no hx hb]; rfl, hg.alloc _ _⟩
      ·have hs := Lib.hid (partsB_snoc hx hp (show partIn l h (Gi.mk re im) = true by simp only [partIn]; simp; omega))
       go_wp2_with fail
       go_roundw
       case rel => exact ⟨k + 1, by omega, by go_num, hs.out, hg.alloc _ _⟩
       case measure => simp [intOf]; omega
   ·obtain rfl : k = xs.length := by omega
    have hlI : ¬ (xs.length : Int) < (xs.length : Int) := by omega
    rw [List.take_length] at hp
    go_wp2_with fail
    go_ret
    exact ⟨by first | rfl | (rw [hp]; rfl) | simp, hg⟩
set_option maxHeartbeats 4000000 in
theorem ftFitted_2 (fo p : Int) (v : Value) (xs : List Gi) (hl : xs.length ≤ 1048576) (HC : Hid (∀ x W, Calls Tryz.prog 23 #[.int .i64 x, .int .i64 fo] W fun e w' => e = .returned (.tuple #[.int .i64 (clampI p x), .bool (clampI p x != x), .int .i64 0]) ∧ Gr W w')) (w : World) (hv : CxsAt w v xs) :
 Calls Tryz.prog 265 #[.agg #[.int .i64 fo], v] w fun e w' => ∃ v', e = .returned (.tuple #[v', .bool (xs.any (offG p))]) ∧ CxsAt w' v' (xs.map (clampG p)) ∧ Gr w w' := by
 have hmk := run_make_cx xs.length hl
 by_cases hx : xs = []
 ·subst hx
  obtain ⟨q, cap, rfl⟩ := hv.len
  rw [show ([] : List Gi).length = 0 from rfl]
  clear hmk
  have hmk : ∀ W : World, (Instr.makeSlice 25 (.int .i64 0) (.int .i64 0)).run Tryz.prog W = .ok (.slice (some ⟨W.heap.size, 0, none⟩) 0 0) (W.alloc (.cells (madeCells #[.int .i64 0, .int .i64 0] (0 * 2)) 50)) := run_make_cx 0 (by omega)
  clear hv
  go_enter Tryz.func265, Tryz.ntmps265
  go_wp2_with fail
  refine wp_loop_rounds 1 ?_
  rw [rounds_succ]
  go_wp2_with fail
  go_ret2
  exact ⟨_, rfl, ⟨_, 0, rfl, Nat.le_refl _, Nat.zero_le _, fun h => absurd rfl h⟩, ((Gr.refl _).alloc _ _).alloc _ _⟩
 ·obtain ⟨b, o, cap, rfl, hlen, hbb, hc⟩ := hv.at hx
  have HXC := Lib.hid hc
  clear hc hv hx
  go_enter Tryz.func265, Tryz.ntmps265
  go_wp2_with fail
  have B0 := (CellsAt.new w 179 #[.int .i64 fo]).alloc (.cells (madeCells #[.int .i64 0, .int .i64 0] (xs.length * 2)) 50)
  have M0 := CellsAt.new (w.alloc (.cells #[.int .i64 fo] 179)) 50 (madeCells #[.int .i64 0, .int .i64 0] (xs.length * 2))
  have M1 := size_madeCells #[.int .i64 0, .int .i64 0] (xs.length * 2)
  rw [World.size_alloc] at M0
  go_loopw [7, 8, 10, 11, 12, 13, 14, 15, 21] (fun cl _ _ _ _ _ _ _ i wr => ∃ k : Nat, ∃ c : Array Value, k ≤ xs.length ∧ i = .int .i64 k ∧ cl = .bool ((xs.take k).any (offG p)) ∧ CellsAt wr (w.heap.size + 1) 50 c ∧ c.size = xs.length * 2 ∧ (∀ j x, j < k → xs[j]? = some x → c[j * 2]? = some (.int .i64 (clampG p x).re) ∧ c[j * 2 + 1]? = some (.int .i64 (clampG p x).im)) ∧ CellsAt wr w.heap.size 179 #[.int .i64 fo] ∧ Gr w wr) (fun _ _ _ _ _ _ _ _ i _ => xs.length - (intOf i).toNat)
  case atStart => exact ⟨0, _, by omega, rfl, rfl, M0, M1, fun j x hj => absurd hj (Nat.not_lt_zero _), B0, ((Gr.refl _).alloc _ _).alloc _ _⟩
  case round =>
   clear M0 M1 hmk B0
   obtain ⟨k, c, hk, rfl, rfl, hC, hsz, hj, hB, hg⟩ := hrel
   by_cases hlt : k < xs.length
   ·obtain ⟨x, hx⟩ := get_of_lt hlt
    have h1 := (hg.cell (p := ⟨b, o + k * 2, none⟩) hbb).trans (HXC.out k x hx).1
    have h2 := (hg.cell (p := ⟨b, o + k * 2 + 1, none⟩) hbb).trans (HXC.out k x hx).2
    have hbl : b < wr.heap.size := Nat.lt_of_lt_of_le hbb hg.size
    have hkI : (k : Int) < (xs.length : Int) := by omega
    have HA := Lib.hid (show (xs.take (k + 1)).any (offG p) = ((xs.take k).any (offG p) || offG p x) by rw [take_snoc hx, List.any_append, List.any_cons, List.any_nil, Bool.or_false])
    have HS := Lib.hid hsz
    have HJ := Lib.hid hj
    have HXK := Lib.hid hx
    have HC1 := Lib.hid fun W => HC.out x.re W
    have HC2 := Lib.hid fun W => HC.out x.im W
    clear hx hsz hj HC HXC
    generalize hca : (xs.take k).any (offG p) = ca at *
    obtain ⟨re, im⟩ := x
    have HO := Lib.hid (show offG p ⟨re, im⟩ = ((clampI p re != re) || (clampI p im != im)) from rfl)
    have HG := Lib.hid (show clampG p ⟨re, im⟩ = ⟨clampI p re, clampI p im⟩ from rfl)
    simp only at h1 h2 HC1 HC2
    generalize clampI p re = r0 at *
    generalize clampI p im = r1 at *
    generalize (r0 != re) = b0 at *
    generalize (r1 != im) = b1 at *
    have hBl := hB.lt
    have hCl := hC.lt
    have cb := hB.cell 0
    simp only [List.getElem?_toArray, List.getElem?_cons_zero] at cb
    clear hca
    go_wp2_with fail
    have hA1 := CellsAt.new wr 50 #[.int .i64 re, .int .i64 im]
    have gA := (Gr.refl wr).alloc #[.int .i64 re, .int .i64 im] 50
    refine (HC1.out _).mono ?_
    rintro e w2 ⟨rfl, g2⟩
    have hA2 := hA1.gr g2
    have gA2 := gA.trans g2
    have hB2 := hB.gr gA2
    have cb := hB2.cell 0
    have ca1 := hA2.cell 1
    simp only [getS] at cb ca1
    clear hA1 gA g2 HC1
    go_wp2_with fail
    refine (HC2.out _).mono ?_
    rintro e w3 ⟨rfl, g3⟩
    have gA3 := gA2.trans g3
    have hC3 := hC.gr gA3
    have hB3 := hB.gr gA3
    have hg3 := hg.trans gA3
    have f2 := hC3.frozen (k * 2)
    have f3 := hC3.frozen (k * 2 + 1)
    have q2 := hC3.cell (k * 2)
    have q3 := hC3.cell (k * 2 + 1)
    rw [Array.getElem?_eq_getElem (show k * 2 < c.size by rw [HS.out]; omega)] at q2
    rw [Array.getElem?_eq_getElem (show k * 2 + 1 < c.size by rw [HS.out]; omega)] at q3
    have hCl3 := hC3.lt
    have hgs := hg3.size
    clear cb ca1 hA2 gA2 hB2 g3 gA3 HC2 hB hC hg
    cases ca <;> cases b0 <;> cases b1
    all_goals
     go_wp2_with fail
     have hC4 := (hC3.set (k * 2) (.int .i64 r0)).set (k * 2 + 1) (.int .i64 r1)
     have hB4 := (hB3.other (B' := w.heap.size + 1) (by omega) (k * 2) (.int .i64 r0)).other (B' := w.heap.size + 1) (by omega) (k * 2 + 1) (.int .i64 r1)
     have hg4 := (hg3.setCell (a := ⟨w.heap.size + 1, k * 2, none⟩) (by simp) (.int .i64 r0)).setCell (a := ⟨w.heap.size + 1, k * 2 + 1, none⟩) (by simp) (.int .i64 r1)
     go_roundw
     case rel =>
      refine ⟨k + 1, _, by omega, by go_num, by rw [HA.out, HO.out]; rfl, hC4, by simpa using HS.out, fun j y hj hy => ?_, hB4, hg4⟩
      by_cases e : j = k
      ·subst e
       rw [HXK.out] at hy
       obtain rfl := Option.some.inj hy
       rw [HG.out]
       constructor
       ·rw [Array.getElem?_setIfInBounds, if_neg (by omega), Array.getElem?_setIfInBounds, if_pos rfl, if_pos (by rw [HS.out]; omega)]
       ·rw [Array.getElem?_setIfInBounds, if_pos rfl, if_pos (by simp only [Array.size_setIfInBounds]; rw [HS.out]; omega)]
      ·have := HJ.out j y (by omega) hy
       constructor
       ·rw [Array.getElem?_setIfInBounds, if_neg (by omega), Array.getElem?_setIfInBounds, if_neg (by omega)]
        exact this.1
       ·rw [Array.getElem?_setIfInBounds, if_neg (by omega), Array.getElem?_setIfInBounds, if_neg (by omega)]
        exact this.2
     case measure => simp [intOf]; omega
   ·obtain rfl : k = xs.length := by omega
    have hkI : ¬ (xs.length : Int) < (xs.length : Int) := by omega
    rw [List.take_length]
    have hlen4 : (xs.map (clampG p)).length = xs.length := by simp
    go_wp2_with fail
    go_ret2
    refine ⟨.slice (some ⟨w.heap.size + 1, 0, none⟩) xs.length xs.length, rfl, ⟨some ⟨w.heap.size + 1, 0, none⟩, xs.length, by rw [List.length_map], by rw [List.length_map]; omega, by unfold maxLen; omega, fun _ => ⟨w.heap.size + 1, 0, rfl, hC.lt, fun j x hx => ?_⟩⟩, hg⟩
    rw [List.getElem?_map] at hx
    obtain ⟨x', hx', rfl⟩ := Option.map_eq_some_iff.1 hx
    have hjl := (List.getElem?_eq_some_iff.1 hx').1
    have := hj j x' hjl hx'
    rw [hC.cell, hC.cell, Nat.zero_add]
    exact this
end
section
open Go.ChangeShapes Go.WideShapes Go.ChangeAt Go.RowKit Go.MapKept
set_option linter.unusedVariables false
set_option linter.unusedSimpArgs false
set_option maxRecDepth 100000
def passF (k : Int) : Value := if k = 4 then .func (.func 155) #[] #[] else .func (.func 154) #[] #[]
def KMap (W : World) (B : Nat) : Prop := W.heap[B]? = some (.map #[⟨.int .i64 2, passF 2, 0⟩, ⟨.int .i64 4, passF 4, 1⟩] 2)
theorem KMap.gr {W W' : World} {B : Nat} (h : KMap W B) (g : Gr W W') : KMap W' B := (g.block (Array.getElem?_eq_some_iff.1 h).1).trans h
theorem KMap.lt {W : World} {B : Nat} (h : KMap W B) : B < W.heap.size := (Array.getElem?_eq_some_iff.1 h).1
theorem und_kmap : ∃ k e, Tryz.prog.underlying 84 = some (.map k e) ∧ k = 3 ∧ e = 139 := ⟨_, _, by kernel_rfl, rfl, rfl⟩
theorem kkey_check (e : Bool) (x : Int) (w : World) : (Instr.checkKey e 10000 3 (.int .i64 x)).run Tryz.prog w = .ok () w := by kernel_rfl
theorem und_int : Tryz.prog.underlying 3 = some (.int .i64) := by kernel_rfl
theorem KMap.look {W : World} {B : Nat} (h : KMap W B) (k : Int) (hk : k = 2 ∨ k = 4) : (Instr.lookup 84 (.map (some B)) (.int .i64 k) false).run Tryz.prog W = .ok (passF k) W := by
 obtain ⟨a, e, hu, rfl, rfl⟩ := und_kmap
 rcases hk with rfl | rfl <;> simp [Instr.lookup, run_underlying hu, MapKept.run_getObj_map h, kkey_check, Instr.findKey, run_underlying und_int, Instr.findNow, Instr.sameNow, Result.andThen]
theorem kmap_first (W : World) (B : Nat) (h : W.heap[B]? = some (.map #[] 0)) (v : Value) :
 (Instr.mapUpdate 84 (.map (some B)) (.int .i64 2) v).run Tryz.prog W = .ok () { W with heap := W.heap.setIfInBounds B (.map #[⟨.int .i64 2, v, 0⟩] 1) } := by
 obtain ⟨a, e, hu, rfl, rfl⟩ := und_kmap
 simp [Instr.mapUpdate, run_underlying hu, MapKept.run_getObj_map h, kkey_check, Instr.findKey, run_underlying und_int, Instr.findNow, Instr.sameNow, MapKept.run_setObj_map _ h, Result.andThen]
theorem kmap_second (W : World) (B : Nat) (u v : Value) (h : W.heap[B]? = some (.map #[⟨.int .i64 2, u, 0⟩] 1)) :
 (Instr.mapUpdate 84 (.map (some B)) (.int .i64 4) v).run Tryz.prog W = .ok () { W with heap := W.heap.setIfInBounds B (.map #[⟨.int .i64 2, u, 0⟩, ⟨.int .i64 4, v, 1⟩] 2) } := by
 obtain ⟨a, e, hu, rfl, rfl⟩ := und_kmap
 simp [Instr.mapUpdate, run_underlying hu, MapKept.run_getObj_map h, kkey_check, Instr.findKey, run_underlying und_int, Instr.findNow, Instr.sameNow, MapKept.run_setObj_map _ h, Result.andThen]
theorem ftKernels_c (w : World) : Calls Tryz.prog 114 #[] w fun e w' => ∃ B, e = .returned (.map (some B)) ∧ KMap w' B ∧ Gr w w' := by
 have hmm := @run_makeMap Tryz.prog
 have h0 := (MapKept.heap_alloc w (.map #[] 0)).1
 have h1 := kmap_first (w.alloc (.map #[] 0)) w.heap.size h0 (.func (.func 154) #[] #[])
 have h2 := (MapKept.heap_set (o' := .map #[⟨.int .i64 2, .func (.func 154) #[] #[], 0⟩] 1) h0).1
 have g0 := (Gr.refl w).allocO (.map #[] 0)
 generalize hw1 : (w.alloc (.map #[] 0)) = W0 at h0 h1 h2 g0
 have g1 : Gr w { W0 with heap := W0.heap.setIfInBounds w.heap.size (.map #[⟨.int .i64 2, .func (.func 154) #[] #[], 0⟩] 1) } := ⟨g0.out.os, g0.out.tape, g0.out.output, by have := g0.out.size; simpa using this, fun j hj => ((MapKept.heap_set h0).2 j (by omega)).trans (g0.out.block j hj)⟩
 generalize hw2 : ({ W0 with heap := W0.heap.setIfInBounds w.heap.size (.map #[⟨.int .i64 2, .func (.func 154) #[] #[], 0⟩] 1) } : World) = W1 at h1 g1
 have h2' : W1.heap[w.heap.size]? = some (.map #[⟨.int .i64 2, .func (.func 154) #[] #[], 0⟩] 1) := by rw [← hw2]; exact h2
 have h3 := kmap_second W1 w.heap.size _ (.func (.func 155) #[] #[]) h2'
 have h4 := (MapKept.heap_set (o' := .map #[⟨.int .i64 2, .func (.func 154) #[] #[], 0⟩, ⟨.int .i64 4, .func (.func 155) #[] #[], 1⟩] 2) h2').1
 have g2 : Gr w { W1 with heap := W1.heap.setIfInBounds w.heap.size (.map #[⟨.int .i64 2, .func (.func 154) #[] #[], 0⟩, ⟨.int .i64 4, .func (.func 155) #[] #[], 1⟩] 2) } := ⟨g1.out.os, g1.out.tape, g1.out.output, by have := g1.out.size; simpa using this, fun j hj => ((MapKept.heap_set h2').2 j (by omega)).trans (g1.out.block j hj)⟩
 rw [← hw1] at h1
 clear h0 h2 h2' g0 g1 hw2 hw1
 go_enter Tryz.func114, Tryz.ntmps114
 go_wp2_with fail
 go_ret
 exact ⟨_, rfl, h4, g2⟩
theorem nil_yes (c : Nat) (W : World) : (binOp .eql 22 (.slice none 0 c) (.slice none 0 0)).run Tryz.prog W = .ok (.bool true) W := by kernel_rfl
theorem nil_no (q : Addr) (n c : Nat) (W : World) : (binOp .eql 22 (.slice (some q) n c) (.slice none 0 0)).run Tryz.prog W = .ok (.bool false) W := by kernel_rfl
set_option maxHeartbeats 2000000 in
theorem ftClone_c (v : Value) (ls : List Int) (hls : ls.length ≤ 20) (w : World) (hv : NumsAt w v ls) :
 Calls Tryz.prog 74 #[v] w fun e w' => ∃ u, e = .returned u ∧ w'.ownsRow w.heap.size 3 1 u ls.length (ls.map (Value.int .i64)) ∧ Gr w w' := by
 obtain ⟨sp, sl, rfl⟩ := hv.len
 cases sp with
 | none =>
   have h0 : ls = [] := by
    apply Classical.byContradiction
    intro hx
    obtain ⟨b, o, cap, hsl, _⟩ := hv.at hx
    cases hsl
   subst h0
   have hn := nil_yes sl
   go_enter Tryz.func74, Tryz.ntmps74
   go_wp2_with fail
   go_ret
   exact ⟨_, rfl, ⟨rfl, .inl ⟨rfl, rfl⟩⟩, Gr.refl _⟩
 | some q =>
   have hn := nil_no q ls.length sl
   have hlw := hv.gr ((Gr.refl w).alloc #[] 3)
   go_enter Tryz.func74, Tryz.ntmps74
   go_wp2_with (at_builtin; refine wpList_append_nums rfl (.tmp 5) (.tmp 6) rfl w.heap.size _ 0 [] ls rfl (World.ownsRow_made w #[] 0 (Nat.le_refl _) (by unfold maxLen; omega) (by simp)) (some q) sl rfl hlw (by omega) (by simp) ?_; intro v1 W1 hown1 hgrow1 hblk1; rw [Nat.zero_add, List.nil_append] at hown1; have G1 : Gr w W1 := ((Gr.refl w).alloc _ _).grown hgrow1 (fun k e => by cases e; exact Nat.le_refl _); clear hgrow1 hblk1)
   go_ret
   exact ⟨_, rfl, hown1, G1⟩
end
section
open Go.ChangeShapes Go.WideShapes Go.ChangeAt Go.RowKit
set_option linter.unusedVariables false
set_option linter.unusedSimpArgs false
set_option maxRecDepth 100000
def nAll (l : Int) (ls : List Int) : Bool := ls.all fun n => decide (-l ≤ n) && decide (n ≤ l)
theorem nAll_snoc {l : Int} {ls : List Int} {k : Nat} {x : Int} (hx : ls[k]? = some x) (h : nAll l (ls.take k) = true) (h0 : -l ≤ x) (h1 : x ≤ l) : nAll l (ls.take (k + 1)) = true := by
 unfold nAll at *
 rw [List.take_add_one, hx, List.all_append, h]
 simp [h0, h1]
theorem nAll_no {l : Int} {ls : List Int} {k : Nat} {x : Int} (hx : ls[k]? = some x) (h : x < -l ∨ l < x) : nAll l ls = false := by
 unfold nAll
 rw [List.all_eq_false]
 refine ⟨x, List.mem_of_getElem? hx, ?_⟩
 simp only [Bool.and_eq_true, decide_eq_true_eq]
 omega
theorem rlSize_c (a b : Int) (w : World) : CW 32 #[.int .i64 a, .int .i64 b] w (.int .i64 (if a = b then 0 else 3)) :=by
 delta CW
 by_cases h : a = b
 ·subst h
  rw [if_pos rfl]
  have hb : (a != a) = false := by simp
  have hc : (a == a) = true := by simp
  go_enter Tryz.func32, Tryz.ntmps32
  go_wp2_with fail
  go_ret
  exact ⟨rfl, Gr.refl _⟩
 ·rw [if_neg h]
  have hb : (a != b) = true := by simp [h]
  have hc : (a == b) = false := by simp [h]
  go_enter Tryz.func32, Tryz.ntmps32
  go_wp2_with fail
  go_ret
  exact ⟨rfl, Gr.refl _⟩
theorem rlBits_of (fo lo ke sc mo : Int) (iv : Bool) (b : Int) (HB : CR 58 #[.int .i64 fo] (.tuple #[.int .i64 b, .int .i64 0])) (w : World) : CW 97 #[.agg #[.int .i64 fo, .int .i64 lo, .int .i64 ke, .int .i64 sc, .int .i64 mo, .bool iv]] w (.int .i64 b) :=by
 delta CW
 go_enter Tryz.func97, Tryz.ntmps97
 go_wp2_with fail
 obtain ⟨u0, hU⟩ : ∃ uu, uu = (w.alloc (.cells #[.int .i64 fo, .int .i64 lo, .int .i64 ke, .int .i64 sc, .int .i64 mo, .bool iv] 24)) := ⟨_, rfl⟩
 have ⟨gu, R0⟩ := lay1 hU
 rw [← hU]
 clear hU
 have lp := R0.lt
 obtain ⟨cp0, cp1, cp2, cp3, cp4, cp5⟩ := R0.t6
 go_wp2_with fail
 clear cp0 cp1 cp2 cp3 cp4 cp5
 refine (HB.out _).mono ?_
 rintro e w1 ⟨rfl, g1⟩
 have ⟨Fp_1, lp_1⟩ := R0.gl g1
 have z1 := gu.trans g1
 clear R0 gu g1
 go_wp2_with fail
 go_ret
 exact ⟨rfl, z1⟩
theorem rlPlan_bad (fo lo ke sc mo : Int) (iv : Bool) (HC : CR 71 #[.agg #[.int .i64 fo, .int .i64 lo, .int .i64 ke, .int .i64 sc, .int .i64 mo, .bool iv]] (.int .i64 4)) (w : World) : CW 30 #[.agg #[.int .i64 fo, .int .i64 lo, .int .i64 ke, .int .i64 sc, .int .i64 mo, .bool iv]] w (.int .i64 4) :=by
 delta CW
 go_enter Tryz.func30, Tryz.ntmps30
 go_wp2_with fail
 obtain ⟨u0, hU⟩ : ∃ uu, uu = (w.alloc (.cells #[.int .i64 fo, .int .i64 lo, .int .i64 ke, .int .i64 sc, .int .i64 mo, .bool iv] 24)) := ⟨_, rfl⟩
 have ⟨gu, R0⟩ := lay1 hU
 rw [← hU]
 clear hU
 have lp := R0.lt
 obtain ⟨cp0, cp1, cp2, cp3, cp4, cp5⟩ := R0.t6
 go_wp2_with fail
 clear cp0 cp1 cp2 cp3 cp4 cp5
 refine (HC.out _).mono ?_
 rintro e w1 ⟨rfl, g1⟩
 have ⟨Fp_1, lp_1⟩ := R0.gl g1
 have z1 := gu.trans g1
 clear R0 gu g1
 go_wp2_with fail
 go_ret
 exact ⟨rfl, z1⟩
theorem rlPlan_long (fo lo ke sc mo : Int) (iv : Bool) (h5 : (5 : Int) < lo) (HC : CR 71 #[.agg #[.int .i64 fo, .int .i64 lo, .int .i64 ke, .int .i64 sc, .int .i64 mo, .bool iv]] (.int .i64 0)) (w : World) : CW 30 #[.agg #[.int .i64 fo, .int .i64 lo, .int .i64 ke, .int .i64 sc, .int .i64 mo, .bool iv]] w (.int .i64 4) :=by
 delta CW
 go_enter Tryz.func30, Tryz.ntmps30
 go_wp2_with fail
 obtain ⟨u0, hU⟩ : ∃ uu, uu = (w.alloc (.cells #[.int .i64 fo, .int .i64 lo, .int .i64 ke, .int .i64 sc, .int .i64 mo, .bool iv] 24)) := ⟨_, rfl⟩
 have ⟨gu, R0⟩ := lay1 hU
 rw [← hU]
 clear hU
 have lp := R0.lt
 obtain ⟨cp0, cp1, cp2, cp3, cp4, cp5⟩ := R0.t6
 go_wp2_with fail
 clear cp0 cp1 cp2 cp3 cp4 cp5
 refine (HC.out _).mono ?_
 rintro e w1 ⟨rfl, g1⟩
 have ⟨Fp_1, lp_1⟩ := R0.gl g1
 have z1 := gu.trans g1
 clear R0 gu g1
 obtain ⟨cp0, cp1, cp2, cp3, cp4, cp5⟩ := Fp_1.t6
 go_wp2_with fail
 clear cp0 cp1 cp2 cp3 cp4 cp5
 go_ret
 exact ⟨rfl, z1⟩
theorem rlPlan_ok (fo lo ke sc mo : Int) (iv : Bool) (h5 : ¬ (5 : Int) < lo) (HC : CR 71 #[.agg #[.int .i64 fo, .int .i64 lo, .int .i64 ke, .int .i64 sc, .int .i64 mo, .bool iv]] (.int .i64 0)) (w : World) : CW 30 #[.agg #[.int .i64 fo, .int .i64 lo, .int .i64 ke, .int .i64 sc, .int .i64 mo, .bool iv]] w (.int .i64 (if iv then 4 else 0)) :=by
 delta CW
 cases iv
 ·go_enter Tryz.func30, Tryz.ntmps30
  go_wp2_with fail
  obtain ⟨u0, hU⟩ : ∃ uu, uu = (w.alloc (.cells #[.int .i64 fo, .int .i64 lo, .int .i64 ke, .int .i64 sc, .int .i64 mo, .bool false] 24)) := ⟨_, rfl⟩
  have ⟨gu, R0⟩ := lay1 hU
  rw [← hU]
  clear hU
  have lp := R0.lt
  obtain ⟨cp0, cp1, cp2, cp3, cp4, cp5⟩ := R0.t6
  go_wp2_with fail
  clear cp0 cp1 cp2 cp3 cp4 cp5
  refine (HC.out _).mono ?_
  rintro e w1 ⟨rfl, g1⟩
  have ⟨Fp_1, lp_1⟩ := R0.gl g1
  have z1 := gu.trans g1
  clear R0 gu g1
  obtain ⟨cp0, cp1, cp2, cp3, cp4, cp5⟩ := Fp_1.t6
  go_wp2_with fail
  clear cp0 cp1 cp2 cp3 cp4 cp5
  go_ret
  exact ⟨rfl, z1⟩
 ·go_enter Tryz.func30, Tryz.ntmps30
  go_wp2_with fail
  obtain ⟨u0, hU⟩ : ∃ uu, uu = (w.alloc (.cells #[.int .i64 fo, .int .i64 lo, .int .i64 ke, .int .i64 sc, .int .i64 mo, .bool true] 24)) := ⟨_, rfl⟩
  have ⟨gu, R0⟩ := lay1 hU
  rw [← hU]
  clear hU
  have lp := R0.lt
  obtain ⟨cp0, cp1, cp2, cp3, cp4, cp5⟩ := R0.t6
  go_wp2_with fail
  clear cp0 cp1 cp2 cp3 cp4 cp5
  refine (HC.out _).mono ?_
  rintro e w1 ⟨rfl, g1⟩
  have ⟨Fp_1, lp_1⟩ := R0.gl g1
  have z1 := gu.trans g1
  clear R0 gu g1
  obtain ⟨cp0, cp1, cp2, cp3, cp4, cp5⟩ := Fp_1.t6
  go_wp2_with fail
  clear cp0 cp1 cp2 cp3 cp4 cp5
  go_ret
  exact ⟨rfl, z1⟩
set_option maxHeartbeats 1000000 in
theorem rlWithin_c (v : Value) (ls : List Int) (l : Int) (h0 : 0 ≤ l) (h1 : l ≤ 4611686018427387904) (hne : ls ≠ []) (w : World) (hv : NumsAt w v ls) :
 CW 98 #[.int .i64 l, v] w (.bool (nAll l ls)) :=by
 delta CW
 obtain ⟨b, o, cap, rfl, hlen, hb, hc⟩ := hv.at hne
 have HC := Lib.hid hc
 have hng : IntKind.i64.wrap (-l) = -l := IntWalk.i64_in _ ⟨by omega, by omega⟩
 have hng2 : wrap64 (-l) = -l := IntWalk.wrap64_in _ ⟨by omega, by omega⟩
 clear hc hv hne h0 h1
 go_enter Tryz.func98, Tryz.ntmps98
 go_wp2_with fail
 go_loopw [6, 9] (fun _ i wr => ∃ k : Nat, k ≤ ls.length ∧ i = .int .i64 k ∧ nAll l (ls.take k) = true ∧ Gr w wr) (fun _ i _ => ls.length - (intOf i).toNat)
 case atStart => exact ⟨0, Nat.zero_le _, rfl, rfl, Gr.refl _⟩
 case round =>
  obtain ⟨k, hk, rfl, hp, hg⟩ := hrel
  by_cases hlt : k < ls.length
  ·obtain ⟨x, hx⟩ := get_of_lt hlt
   have h1 := (hg.cell (p := ⟨b, o + k, none⟩) hb).trans (HC.out k x hx)
   have hlI : (k : Int) < (ls.length : Int) := by omega
   by_cases q1 : x < -l
   ·go_wp2_with fail
    go_ret
    exact ⟨by rw [nAll_no hx (.inl q1)]; rfl, hg⟩
   ·by_cases q2 : l < x
    ·go_wp2_with fail
     go_ret
     exact ⟨by rw [nAll_no hx (.inr q2)]; rfl, hg⟩
    ·have hs := Lib.hid (nAll_snoc hx hp (by omega) (by omega))
     go_wp2_with fail
     go_roundw
     case rel => exact ⟨k + 1, by omega, by go_num, hs.out, hg⟩
     case measure => simp [intOf]; omega
  ·obtain rfl : k = ls.length := by omega
   have hlI : ¬ (ls.length : Int) < (ls.length : Int) := by omega
   rw [List.take_length] at hp
   go_wp2_with fail
   go_ret
   exact ⟨by first | rfl | (rw [hp]; done) | simp [hp], hg⟩
theorem rlFitted_no (z : Gi) (fo lo ke sc mo : Int) (iv : Bool) (h2 : ¬ sc = 2) (w : World) : CW 72 #[.agg #[.int .i64 (z).re, .int .i64 (z).im], .agg #[.int .i64 fo, .int .i64 lo, .int .i64 ke, .int .i64 sc, .int .i64 mo, .bool iv]] w (.tuple #[.agg #[.int .i64 (z).re, .int .i64 (z).im], .bool false]) :=by
 delta CW
 have hb : (sc == 2) = false := by simp [h2]
 have hc : (sc != 2) = true := by simp [h2]
 go_enter Tryz.func72, Tryz.ntmps72
 go_wp2_with fail
 refine bodyPost_ret (v := .tuple #[.agg #[.int .i64 (z).re, .int .i64 (z).im], .bool false]) ?_ rfl ⟨rfl, (((Gr.refl w).alloc _ _).alloc _ _).alloc _ _⟩
 simp [results, Tryz.results72, go_sem, *]
theorem rlFitted_yes (z : Gi) (fo lo ke mo r s : Int) (iv f g : Bool) (H1 : CR 23 #[.int .i64 (z).re, .int .i64 fo] (.tuple #[.int .i64 r, .bool f, .int .i64 0])) (H2 : CR 23 #[.int .i64 (z).im, .int .i64 fo] (.tuple #[.int .i64 s, .bool g, .int .i64 0])) (w : World) : CW 72 #[.agg #[.int .i64 (z).re, .int .i64 (z).im], .agg #[.int .i64 fo, .int .i64 lo, .int .i64 ke, .int .i64 2, .int .i64 mo, .bool iv]] w (.tuple #[.agg #[.int .i64 r, .int .i64 s], .bool (f || g)]) :=by
 delta CW
 cases f
 ·go_enter Tryz.func72, Tryz.ntmps72
  go_wp2_with fail
  obtain ⟨u0, hU⟩ : ∃ uu, uu = (((w.alloc (.cells #[.int .i64 (z).re, .int .i64 (z).im] 50)).alloc (.cells #[.int .i64 fo, .int .i64 lo, .int .i64 ke, .int .i64 2, .int .i64 mo, .bool iv] 24)).alloc (.cells #[.int .i64 0, .int .i64 0] 50)) := ⟨_, rfl⟩
  have ⟨gu, R0, R1, R2⟩ := lay3 hU
  rw [← hU]
  clear hU
  have lz := R0.lt
  have lp := R1.lt
  have lr := R2.lt
  obtain ⟨cz0, cz1⟩ := R0.t2
  obtain ⟨cp0, cp1, cp2, cp3, cp4, cp5⟩ := R1.t6
  go_wp2_with fail
  clear cz0 cz1 cp0 cp1 cp2 cp3 cp4 cp5
  refine (H1.out _).mono ?_
  rintro e w1 ⟨rfl, g1⟩
  have ⟨Fz_1, lz_1⟩ := R0.gl g1
  have ⟨Fp_1, lp_1⟩ := R1.gl g1
  have ⟨Fr_1, lr_1⟩ := R2.gl g1
  have z1 := gu.trans g1
  clear R0 R1 R2 gu g1
  obtain ⟨cz0, cz1⟩ := Fz_1.t2
  obtain ⟨cp0, cp1, cp2, cp3, cp4, cp5⟩ := Fp_1.t6
  go_wp2_with fail
  clear cz0 cz1 cp0 cp1 cp2 cp3 cp4 cp5
  refine (H2.out _).mono ?_
  rintro e w2 ⟨rfl, g2⟩
  have ⟨Fz_2, lz_2⟩ := Fz_1.gl g2
  have ⟨Fp_2, lp_2⟩ := Fp_1.gl g2
  have ⟨Fr_2, lr_2⟩ := Fr_1.gl g2
  have z2 := z1.trans g2
  clear Fz_1 Fp_1 Fr_1 z1 g2
  have mr0 := CellsAt.frozen (Fr_2) 0
  have cr0 := Fr_2.at 0
  have mr1 := CellsAt.frozen (Fr_2) 1
  have cr1 := Fr_2.at 1
  go_wp2_with fail
  clear mr0 cr0 mr1 cr1
  obtain ⟨uf, hqp1⟩ : ∃ zz, zz = ((w2.setCell ⟨w.heap.size + 1 + 1, 0, none⟩ (.int .i64 r)).setCell ⟨w.heap.size + 1 + 1, 1, none⟩ (.int .i64 s)) := ⟨_, rfl⟩
  have Yz_p1 : CellsAt uf (w.heap.size) 50 #[.int .i64 (z).re, .int .i64 (z).im] := by rw [hqp1]; first | exact (Fz_2.ot).ot | simpa using (Fz_2.ot).ot
  have Yp_p1 : CellsAt uf (w.heap.size + 1) 24 #[.int .i64 fo, .int .i64 lo, .int .i64 ke, .int .i64 2, .int .i64 mo, .bool iv] := by rw [hqp1]; first | exact (Fp_2.ot).ot | simpa using (Fp_2.ot).ot
  have Yr_p1 : CellsAt uf (w.heap.size + 1 + 1) 50 #[.int .i64 r, .int .i64 s] := by rw [hqp1]; first | exact CellsAt.set2 (Fr_2) _ _ | simpa using CellsAt.set2 (Fr_2) _ _
  have yp1 : Gr w uf := by rw [hqp1]; exact (z2.sc _).sc _
  rw [← hqp1]
  clear hqp1
  obtain ⟨cr0, cr1⟩ := Yr_p1.t2
  refine bodyPost_ret (v := .tuple #[.agg #[.int .i64 r, .int .i64 s], .bool (false || g)]) ?_ rfl ⟨rfl, yp1⟩
  simp [results, Tryz.results72, go_sem, *]
 ·go_enter Tryz.func72, Tryz.ntmps72
  go_wp2_with fail
  obtain ⟨u0, hU⟩ : ∃ uu, uu = (((w.alloc (.cells #[.int .i64 (z).re, .int .i64 (z).im] 50)).alloc (.cells #[.int .i64 fo, .int .i64 lo, .int .i64 ke, .int .i64 2, .int .i64 mo, .bool iv] 24)).alloc (.cells #[.int .i64 0, .int .i64 0] 50)) := ⟨_, rfl⟩
  have ⟨gu, R0, R1, R2⟩ := lay3 hU
  rw [← hU]
  clear hU
  have lz := R0.lt
  have lp := R1.lt
  have lr := R2.lt
  obtain ⟨cz0, cz1⟩ := R0.t2
  obtain ⟨cp0, cp1, cp2, cp3, cp4, cp5⟩ := R1.t6
  go_wp2_with fail
  clear cz0 cz1 cp0 cp1 cp2 cp3 cp4 cp5
  refine (H1.out _).mono ?_
  rintro e w1 ⟨rfl, g1⟩
  have ⟨Fz_1, lz_1⟩ := R0.gl g1
  have ⟨Fp_1, lp_1⟩ := R1.gl g1
  have ⟨Fr_1, lr_1⟩ := R2.gl g1
  have z1 := gu.trans g1
  clear R0 R1 R2 gu g1
  obtain ⟨cz0, cz1⟩ := Fz_1.t2
  obtain ⟨cp0, cp1, cp2, cp3, cp4, cp5⟩ := Fp_1.t6
  go_wp2_with fail
  clear cz0 cz1 cp0 cp1 cp2 cp3 cp4 cp5
  refine (H2.out _).mono ?_
  rintro e w2 ⟨rfl, g2⟩
  have ⟨Fz_2, lz_2⟩ := Fz_1.gl g2
  have ⟨Fp_2, lp_2⟩ := Fp_1.gl g2
  have ⟨Fr_2, lr_2⟩ := Fr_1.gl g2
  have z2 := z1.trans g2
  clear Fz_1 Fp_1 Fr_1 z1 g2
  have mr0 := CellsAt.frozen (Fr_2) 0
  have cr0 := Fr_2.at 0
  have mr1 := CellsAt.frozen (Fr_2) 1
  have cr1 := Fr_2.at 1
  go_wp2_with fail
  clear mr0 cr0 mr1 cr1
  obtain ⟨uf, hqp1⟩ : ∃ zz, zz = ((w2.setCell ⟨w.heap.size + 1 + 1, 0, none⟩ (.int .i64 r)).setCell ⟨w.heap.size + 1 + 1, 1, none⟩ (.int .i64 s)) := ⟨_, rfl⟩
  have Yz_p1 : CellsAt uf (w.heap.size) 50 #[.int .i64 (z).re, .int .i64 (z).im] := by rw [hqp1]; first | exact (Fz_2.ot).ot | simpa using (Fz_2.ot).ot
  have Yp_p1 : CellsAt uf (w.heap.size + 1) 24 #[.int .i64 fo, .int .i64 lo, .int .i64 ke, .int .i64 2, .int .i64 mo, .bool iv] := by rw [hqp1]; first | exact (Fp_2.ot).ot | simpa using (Fp_2.ot).ot
  have Yr_p1 : CellsAt uf (w.heap.size + 1 + 1) 50 #[.int .i64 r, .int .i64 s] := by rw [hqp1]; first | exact CellsAt.set2 (Fr_2) _ _ | simpa using CellsAt.set2 (Fr_2) _ _
  have yp1 : Gr w uf := by rw [hqp1]; exact (z2.sc _).sc _
  rw [← hqp1]
  clear hqp1
  obtain ⟨cr0, cr1⟩ := Yr_p1.t2
  refine bodyPost_ret (v := .tuple #[.agg #[.int .i64 r, .int .i64 s], .bool (true || g)]) ?_ rfl ⟨rfl, yp1⟩
  simp [results, Tryz.results72, go_sem, *]
end
section
set_option linter.unusedVariables false
set_option maxRecDepth 100000
def upB (n : Int) (s : Nat) : Int := -(-n / 2 ^ s)
def baseB (k : Int) : Int := if k = 2 then 224 else 288
def stepB (e k sc s : Int) : Int := if sc = 2 then (if k = 2 then 2 * e + 608 else 4 * e + 1632) else if k = 2 then upB (2 * e) s.toNat + 224 else upB (4 * e) s.toNat + 288
def startB (sc : Int) : Int := if sc = 0 then 91 else 0
def topB (sc k : Int) : Int := if sc = 2 then 0 else if (sc = 1 ∧ k = 2) ∨ (sc = 0 ∧ k = 4) then 2 else if sc = 1 then 3 else 1
def fitB (sc k l : Int) : Bool := decide (0 ≤ l ∧ l ≤ topB sc k) && (decide (sc = 1) || decide (l = topB sc k))
def fitsB (sc : Int) : List Gi → List Int → Bool
 | [], [] => true
 | p :: ps, l :: ls => fitB sc p.re l && fitsB sc ps ls
 | _, _ => false
def runB (sc : Int) (e : Int) : List Gi → List Int → Int
 | p :: ps, l :: ls => runB sc (stepB e p.re sc l) ps ls
 | _, _ => e
def ofB (sc ke lo : Int) (l : List Int) : Int := runB sc (startB sc) (passL ke lo) l + (if ke = 2 then 224 * lo else 0)
def mayB (e k sc s : Int) : Bool := decide (0 ≤ e ∧ e ≤ 1099511627776) && ((decide (k = 2) || decide (k = 4)) && (decide (0 ≤ sc ∧ sc ≤ 2) && decide (0 ≤ s ∧ s ≤ 3)))
theorem mayB_iff {e k sc s : Int} : mayB e k sc s = true ↔ (0 ≤ e ∧ e ≤ 1099511627776) ∧ (k = 2 ∨ k = 4) ∧ (0 ≤ sc ∧ sc ≤ 2) ∧ (0 ≤ s ∧ s ≤ 3) := by simp [mayB]
theorem fitB_iff {sc k l : Int} : fitB sc k l = true ↔ (0 ≤ l ∧ l ≤ topB sc k) ∧ (sc = 1 ∨ l = topB sc k) := by simp [fitB]
theorem upB_pos (a : Int) (s : Nat) (h : 0 ≤ a) (hs : s ≤ 4) : 0 ≤ upB a s ∧ upB a s ≤ a ∧ a ≤ 16 * upB a s := by
 have hs : s = 0 ∨ s = 1 ∨ s = 2 ∨ s = 3 ∨ s = 4 := by omega
 unfold upB
 rcases hs with rfl | rfl | rfl | rfl | rfl <;> simp only [Int.reducePow] <;> omega
theorem stepB_pos (e k sc s : Int) (he : 0 ≤ e) (hs : s ≤ 4) : 0 ≤ stepB e k sc s ∧ stepB e k sc s ≤ 4 * e + 1632 := by
 have h2 := upB_pos (2 * e) s.toNat (by omega) (by omega)
 have h4 := upB_pos (4 * e) s.toNat (by omega) (by omega)
 unfold stepB
 repeat' split
 all_goals omega
theorem topB_le (sc k : Int) : 0 ≤ topB sc k ∧ topB sc k ≤ 3 := by
 unfold topB
 repeat' split
 all_goals omega
theorem fitsB_len (sc : Int) (ps : List Gi) : ∀ ls : List Int, fitsB sc ps ls = true → ls.length = ps.length := by
 induction ps with
 | nil => intro ls h; cases ls with | nil => rfl | cons l ls => cases h
 | cons p ps ih =>
   intro ls h
   cases ls with
   | nil => cases h
   | cons l ls =>
     simp only [fitsB, Bool.and_eq_true] at h
     simp [ih ls h.2]
theorem passG_kern (ke lo n : Int) : ∀ (f : Nat) (h : Int), ∀ x ∈ passG ke lo n f h, x.re = 2 ∨ x.re = 4
 | 0, h, x, hx => by cases hx
 | f + 1, h, x, hx => by
   unfold passG at hx
   split at hx
   ·rcases List.mem_cons.1 hx with rfl | hx
    ·simp only [passK]; split <;> simp
    ·exact passG_kern ke lo n f _ x hx
   ·cases hx
theorem passL_kern (ke lo : Int) : ∀ x ∈ passL ke lo, x.re = 2 ∨ x.re = 4 := by
 unfold passL
 split
 ·intro x hx; cases hx
 ·exact passG_kern _ _ _ _ _
theorem passL_len6 (ke lo : Int) (k0 : 0 ≤ ke) (k1 : ke < 3) (h0 : 2 ≤ lo) (h1 : lo < 7) : (passL ke lo).length ≤ 6 := by
 have hk : ke = 0 ∨ ke = 1 ∨ ke = 2 := by omega
 have hl : lo = 2 ∨ lo = 3 ∨ lo = 4 ∨ lo = 5 ∨ lo = 6 := by omega
 rcases hk with rfl | rfl | rfl <;> rcases hl with rfl | rfl | rfl | rfl | rfl <;> decide +kernel
theorem runB_snoc (sc : Int) (p : Gi) (l : Int) : ∀ (ps : List Gi) (ls : List Int) (e : Int), ps.length = ls.length → runB sc e (ps ++ [p]) (ls ++ [l]) = stepB (runB sc e ps ls) p.re sc l
 | [], [], e, _ => rfl
 | [], l' :: ls, e, h => by simp at h
 | p' :: ps, [], e, h => by simp at h
 | p' :: ps, l' :: ls, e, h => by
   simp only [List.cons_append, runB]
   exact runB_snoc sc p l ps ls _ (by simpa using h)
theorem fitsB_no (sc : Int) (ps : List Gi) (ls : List Int) (h : ps.length ≠ ls.length) : fitsB sc ps ls = false := by
 cases hf : fitsB sc ps ls
 ·rfl
 ·exact absurd (fitsB_len sc ps ls hf).symm h
theorem fitsB_at (sc : Int) (ps : List Gi) : ∀ (ls : List Int) (j : Nat) (p : Gi) (l : Int), fitsB sc ps ls = true → ps[j]? = some p → ls[j]? = some l → fitB sc p.re l = true := by
 induction ps with
 | nil => intro ls j p l hf hp; cases hp
 | cons q ps ih =>
   intro ls j p l hf hp hl
   cases ls with
   | nil => cases hl
   | cons m ls =>
     simp only [fitsB, Bool.and_eq_true] at hf
     cases j with
     | zero => simp only [List.getElem?_cons_zero, Option.some.injEq] at hp hl; rw [← hp, ← hl]; exact hf.1
     | succ j => exact ih ls j p l hf.2 (by simpa using hp) (by simpa using hl)
theorem fitsB_off (sc : Int) (ps : List Gi) : ∀ (ls : List Int) (j : Nat) (p : Gi) (l : Int), ps[j]? = some p → ls[j]? = some l → fitB sc p.re l = false → fitsB sc ps ls = false := by
 intro ls j p l hp hl h
 cases hf : fitsB sc ps ls
 ·rfl
 ·rw [fitsB_at sc ps ls j p l hf hp hl] at h; cases h
theorem fitsB_all (sc : Int) (ps : List Gi) : ∀ (ls : List Int), ps.length = ls.length → (∀ (j : Nat) p l, ps[j]? = some p → ls[j]? = some l → fitB sc p.re l = true) → fitsB sc ps ls = true := by
 induction ps with
 | nil => intro ls h _; cases ls with | nil => rfl | cons l ls => simp at h
 | cons q ps ih =>
   intro ls h hf
   cases ls with
   | nil => simp at h
   | cons m ls =>
     simp only [fitsB, Bool.and_eq_true]
     exact ⟨hf 0 q m rfl rfl, ih ls (by simpa using h) fun j p l hp hl => hf (j + 1) p l (by simpa using hp) (by simpa using hl)⟩
def lostB (sc ke lo : Int) (ls : List Int) (j : Nat) : Int := runB sc (startB sc) ((passL ke lo).take j) (ls.take j)
theorem runB_le (sc : Int) : ∀ (ps : List Gi) (ls : List Int) (e : Int), 0 ≤ e → (∀ (j : Nat) p l, ps[j]? = some p → ls[j]? = some l → fitB sc p.re l = true) → 0 ≤ runB sc e ps ls ∧ runB sc e ps ls + 1000 ≤ (e + 1000) * 4 ^ ps.length
 | [], ls, e, h, _ => by simp [runB, h]
 | p :: ps, [], e, h, _ => by
   refine ⟨h, ?_⟩
   have : (1 : Int) ≤ 4 ^ (p :: ps).length := Int.pow_pos (by decide)
   have := Int.mul_le_mul_of_nonneg_left this (show 0 ≤ e + 1000 by omega)
   simp only [runB]
   omega
 | p :: ps, l :: ls, e, h, hf => by
   have h0 := fitB_iff.1 (hf 0 p l rfl rfl)
   have ht := topB_le sc p.re
   have hs := stepB_pos e p.re sc l h (by omega)
   have ih := runB_le sc ps ls (stepB e p.re sc l) hs.1 (fun j p l hp hl => hf (j + 1) p l (by simpa using hp) (by simpa using hl))
   refine ⟨ih.1, Int.le_trans ih.2 ?_⟩
   have hp : (0 : Int) ≤ 4 ^ ps.length := Int.le_of_lt (Int.pow_pos (by decide))
   have h1 := Int.mul_le_mul_of_nonneg_right (show stepB e p.re sc l + 1000 ≤ (e + 1000) * 4 by omega) hp
   rw [List.length_cons, Int.pow_succ, Int.mul_comm (4 ^ ps.length) 4, ← Int.mul_assoc]
   exact h1
theorem lostB_nums (sc ke lo : Int) (ls : List Int) (j : Nat) (k0 : 0 ≤ ke) (k1 : ke < 3) (h0 : 2 ≤ lo) (h1 : lo < 7) (hf : fitsB sc (passL ke lo) ls = true) : 0 ≤ lostB sc ke lo ls j ∧ lostB sc ke lo ls j ≤ 16777216 := by
 have h6 := passL_len6 ke lo k0 k1 h0 h1
 have hst : 0 ≤ startB sc ∧ startB sc ≤ 91 := by unfold startB; split <;> omega
 have hr := runB_le sc ((passL ke lo).take j) (ls.take j) (startB sc) hst.1 (fun i p l hp hl => by
  rw [List.getElem?_take] at hp hl
  split at hp
  ·rename_i hij
   rw [if_pos hij] at hl
   exact fitsB_at sc _ ls i p l hf hp hl
  ·cases hp)
 refine ⟨hr.1, ?_⟩
 have hlen : ((passL ke lo).take j).length ≤ 6 := by rw [List.length_take]; omega
 have h4 : (4 : Int) ^ ((passL ke lo).take j).length ≤ 4 ^ 6 := by
  generalize ((passL ke lo).take j).length = m at *
  have : m = 0 ∨ m = 1 ∨ m = 2 ∨ m = 3 ∨ m = 4 ∨ m = 5 ∨ m = 6 := by omega
  rcases this with rfl | rfl | rfl | rfl | rfl | rfl | rfl <;> decide
 have hp : (0 : Int) ≤ 4 ^ ((passL ke lo).take j).length := Int.le_of_lt (Int.pow_pos (by decide))
 generalize (4 : Int) ^ ((passL ke lo).take j).length = q at *
 have h2 := Int.mul_le_mul_of_nonneg_right (show startB sc + 1000 ≤ 1091 by omega) hp
 have h3 : lostB sc ke lo ls j = runB sc (startB sc) ((passL ke lo).take j) (ls.take j) := rfl
 omega
end
end Go.Proofs.YtdignnmpfkgkoaaGreat
