import Derived.Test.YtdignnmpfkgkoaaGreatGS39
namespace Go.Proofs.YtdignnmpfkgkoaaGreat
section
open Go.ChangeShapes Go.WideShapes Go.ChangeAt Go.RowKit
set_option linter.unusedVariables false
set_option linter.unusedSimpArgs false
set_option maxRecDepth 100000
def HvAt (W : World) (x : Value) (n : Nat) (u v : Nat → Gi) : Prop := ∃ B o cap, x = .slice (some ⟨B, o, none⟩) n cap ∧ n ≤ cap ∧ cap ≤ maxLen ∧ B < W.heap.size ∧ ∀ j, j < n →
 W.cell? ⟨B, o + j * 4, none⟩ = some (.int .i64 (u j).re) ∧ W.cell? ⟨B, o + j * 4 + 1, none⟩ = some (.int .i64 (u j).im) ∧ W.cell? ⟨B, o + j * 4 + 2, none⟩ = some (.int .i64 (v j).re) ∧ W.cell? ⟨B, o + j * 4 + 3, none⟩ = some (.int .i64 (v j).im)
theorem HvAt.gr {W W' : World} {x : Value} {n : Nat} {u v : Nat → Gi} (h : HvAt W x n u v) (g : Gr W W') : HvAt W' x n u v := by
 obtain ⟨B, o, cap, hx, hl, hm, hb, hc⟩ := h
 refine ⟨B, o, cap, hx, hl, hm, Nat.lt_of_lt_of_le hb g.size, fun j hj => ?_⟩
 obtain ⟨h0, h1, h2, h3⟩ := hc j hj
 exact ⟨(g.cell (p := ⟨B, o + j * 4, none⟩) hb).trans h0, (g.cell (p := ⟨B, o + j * 4 + 1, none⟩) hb).trans h1, (g.cell (p := ⟨B, o + j * 4 + 2, none⟩) hb).trans h2, (g.cell (p := ⟨B, o + j * 4 + 3, none⟩) hb).trans h3⟩
theorem info_hv : (Tryz.prog.info? 145).map (fun i => (i.zero, i.size, i.bytes)) = some (some (.agg #[.int .i64 0, .int .i64 0, .int .i64 0, .int .i64 0]), 4, 32) := by kernel_rfl
theorem run_make_hv (n : Nat) (hn : n ≤ 1048576) (w : World) : (Instr.makeSlice 91 (.int .i64 (n : Int)) (.int .i64 (n : Int))).run Tryz.prog w = .ok (.slice (some ⟨w.heap.size, 0, none⟩) n n) (w.alloc (.cells (madeCells #[.int .i64 0, .int .i64 0, .int .i64 0, .int .i64 0] (n * 4)) 145)) := by
 obtain ⟨i, hi, hzz⟩ := Option.map_eq_some_iff.1 info_hv
 simp only [Prod.mk.injEq] at hzz
 obtain ⟨hz, hs, hb⟩ := hzz
 have hr := run_make (P := Tryz.prog) w 91 145 i _ Tryz.underlying91 hi hz .i64 .i64 n n (by omega) (Int.le_refl _) (by rw [hb]; omega) (by omega)
 rw [hs] at hr
 simp only [Int.toNat_natCast] at hr
 exact hr
def put4 (c : Array Value) (k : Nat) (a b d e : Value) : Array Value := (((c.setIfInBounds (k * 4) a).setIfInBounds (k * 4 + 1) b).setIfInBounds (k * 4 + 2) d).setIfInBounds (k * 4 + 3) e
theorem put4_size (c : Array Value) (k : Nat) (a b d e : Value) : (put4 c k a b d e).size = c.size := by unfold put4; simp
theorem put4_self (c : Array Value) (k : Nat) (a b d e : Value) (h : k * 4 + 3 < c.size) : (put4 c k a b d e)[k * 4]? = some a ∧ (put4 c k a b d e)[k * 4 + 1]? = some b ∧ (put4 c k a b d e)[k * 4 + 2]? = some d ∧ (put4 c k a b d e)[k * 4 + 3]? = some e := by
 unfold put4
 refine ⟨?_, ?_, ?_, ?_⟩
 ·rw [Array.getElem?_setIfInBounds, if_neg (by omega), Array.getElem?_setIfInBounds, if_neg (by omega), Array.getElem?_setIfInBounds, if_neg (by omega), Array.getElem?_setIfInBounds, if_pos rfl, if_pos (by omega)]
 ·rw [Array.getElem?_setIfInBounds, if_neg (by omega), Array.getElem?_setIfInBounds, if_neg (by omega), Array.getElem?_setIfInBounds, if_pos rfl, if_pos (by simp only [Array.size_setIfInBounds]; omega)]
 ·rw [Array.getElem?_setIfInBounds, if_neg (by omega), Array.getElem?_setIfInBounds, if_pos rfl, if_pos (by simp only [Array.size_setIfInBounds]; omega)]
 ·rw [Array.getElem?_setIfInBounds, if_pos rfl, if_pos (by simp only [Array.size_setIfInBounds]; omega)]
theorem put4_other (c : Array Value) (k : Nat) (a b d e : Value) (i : Nat) (h : i < k * 4 ∨ k * 4 + 3 < i) : (put4 c k a b d e)[i]? = c[i]? := by
 unfold put4
 rw [Array.getElem?_setIfInBounds, if_neg (by omega), Array.getElem?_setIfInBounds, if_neg (by omega), Array.getElem?_setIfInBounds, if_neg (by omega), Array.getElem?_setIfInBounds, if_neg (by omega)]
set_option maxHeartbeats 4000000 in
theorem dRoots_true (L : Int) (n : Nat) (hn : n ≤ 70) (ws : List Gi) (hln : ws.length = n) (hne : ws ≠ []) (G u v : Nat → Gi) (HT : Hid (∀ W, Calls Tryz.prog 115 #[.int .i64 L, .int .i64 40] W fun e w' => ∃ v, e = .returned (.tuple #[v, .int .i64 0]) ∧ CxsAt w' v ws ∧ Gr W w'))
 (HC : Hid (∀ j x, ws[j]? = some x → ∀ W, Calls Tryz.prog 116 #[.agg #[.int .i64 (x).re, .int .i64 (x).im]] W fun e w' => e = .returned (.tuple #[.agg #[.int .i64 (G j).re, .int .i64 (G j).im], .int .i64 0]) ∧ Gr W w')) (HH : Hid (∀ j, j < n → ∀ W, Calls Tryz.prog 117 #[.agg #[.int .i64 (G j).re, .int .i64 (G j).im]] W fun e w' => e = .returned (.agg #[.int .i64 (u j).re, .int .i64 (u j).im, .int .i64 (v j).re, .int .i64 (v j).im]) ∧ Gr W w')) (w : World) :
 Calls Tryz.prog 68 #[.int .i64 L, .bool true] w fun e w' => ∃ x, e = .returned x ∧ HvAt w' x n u v ∧ Gr w w' := by
 have hmk := run_make_hv n (by omega)
 go_enter Tryz.func68, Tryz.ntmps68
 go_wp2_with fail
 refine (HT.out _).mono ?_
 rintro e w1 ⟨vt, rfl, hvt, g1⟩
 obtain ⟨b, o, cap, rfl, hlen, hbb, hc⟩ := hvt.at hne
 rw [hln] at hlen ⊢
 have HXC := Lib.hid hc
 have HX := Lib.hid hln
 clear hc hvt hln hne HT
 go_wp2_with fail
 have M0 := CellsAt.new w1 145 (madeCells #[.int .i64 0, .int .i64 0, .int .i64 0, .int .i64 0] (n * 4))
 have M1 := size_madeCells #[.int .i64 0, .int .i64 0, .int .i64 0, .int .i64 0] (n * 4)
 go_loopw [8, 9, 20] (fun _ _ i wr => ∃ k : Nat, ∃ c : Array Value, k ≤ n ∧ i = .int .i64 k ∧ CellsAt wr w1.heap.size 145 c ∧ c.size = n * 4 ∧ (∀ j, j < k → c[j * 4]? = some (.int .i64 (u j).re) ∧ c[j * 4 + 1]? = some (.int .i64 (u j).im) ∧ c[j * 4 + 2]? = some (.int .i64 (v j).re) ∧ c[j * 4 + 3]? = some (.int .i64 (v j).im)) ∧ Gr w1 wr)
  (fun _ _ i _ => n - (intOf i).toNat)
 case atStart => exact ⟨0, _, by omega, rfl, M0, M1, fun j hj => absurd hj (Nat.not_lt_zero _), (Gr.refl _).alloc _ _⟩
 case round =>
  clear M0 M1 hmk
  obtain ⟨k, c, hk, rfl, hC, hs, hj, hg⟩ := hrel
  by_cases hlt : k < n
  ·have hkI : (k : Int) < (n : Int) := by omega
   obtain ⟨x, hx⟩ := get_of_lt (xs := ws) (by rw [HX.out]; exact hlt)
   have h1 := (hg.cell (p := ⟨b, o + k * 2, none⟩) hbb).trans (HXC.out k x hx).1
   have h2 := (hg.cell (p := ⟨b, o + k * 2 + 1, none⟩) hbb).trans (HXC.out k x hx).2
   have hbl : b < wr.heap.size := Nat.lt_of_lt_of_le hbb hg.size
   have HS := Lib.hid hs
   have HJ := Lib.hid hj
   have HC1 := Lib.hid (HC.out k x hx)
   have HH1 := Lib.hid (HH.out k hlt)
   have HU := Lib.hid (rfl : u k = u k)
   obtain ⟨uk, huk⟩ : ∃ z, u k = z := ⟨_, rfl⟩
   obtain ⟨vk, hvk⟩ : ∃ z, v k = z := ⟨_, rfl⟩
   rw [huk, hvk] at HH1
   have HUK := Lib.hid (And.intro huk hvk)
   generalize G k = y at HC1 HH1
   clear hx hs hj HC HH HXC HX huk hvk HU
   obtain ⟨re, im⟩ := x
   simp only at h1 h2 HC1
   have hsz := hg.size
   have hCl := hC.lt
   go_wp2_with fail
   have hC0 := hC.alloc (.cells #[.int .i64 re, .int .i64 im] 50)
   refine (HC1.out _).mono ?_
   rintro e wq1 ⟨rfl, gq1⟩
   have hC1 := hC0.gr gq1
   have ⟨Fa_q1, la_q1⟩ := CellsAt.gl (CellsAt.new wr 50 #[.int .i64 re, .int .i64 im]) gq1
   have zq1 := ((hg).alloc _ _).trans gq1
   clear gq1
   have ma0 := CellsAt.frozen (Fa_q1) 0
   have ca0 := Fa_q1.at 0
   have ma1 := CellsAt.frozen (Fa_q1) 1
   have ca1 := Fa_q1.at 1
   go_wp2_with fail
   clear ma0 ca0 ma1 ca1
   have hC2 := (hC1.other (B' := wr.heap.size) (by omega) 0 (.int .i64 (y).re)).other (B' := wr.heap.size) (by omega) 1 (.int .i64 (y).im)
   obtain ⟨uu, hqu⟩ : ∃ zz, zz = ((wq1.setCell ⟨wr.heap.size, 0, none⟩ (.int .i64 (y).re)).setCell ⟨wr.heap.size, 1, none⟩ (.int .i64 (y).im)) := ⟨_, rfl⟩
   have Ya : CellsAt uu (wr.heap.size) 50 #[.int .i64 (y).re, .int .i64 (y).im] := by rw [hqu]; first | exact CellsAt.set2 (Fa_q1) _ _ | simpa using CellsAt.set2 (Fa_q1) _ _
   have Yz : Gr w1 uu := by rw [hqu]; exact ((zq1).setCell (by first | omega | (simp only; omega)) _).setCell (by first | omega | (simp only; omega)) _
   rw [← hqu] at hC2
   rw [← hqu]
   clear hqu
   obtain ⟨ca0, ca1⟩ := Ya.t2
   go_wp2_with fail
   clear ca0 ca1
   refine (HH1.out _).mono ?_
   rintro e wq2 ⟨rfl, gq2⟩
   have hCe := hC2.gr gq2
   have ⟨Fa_q2, la_q2⟩ := CellsAt.gl (Ya) gq2
   have zq2 := (Yz).trans gq2
   clear Ya Yz gq2
   clear hC2
   have f0 := hCe.frozen (k * 4)
   have q0 := hCe.cell (k * 4)
   rw [Array.getElem?_eq_getElem (show k * 4 < c.size by rw [HS.out]; omega)] at q0
   have f1 := hCe.frozen (k * 4 + 1)
   have q1 := hCe.cell (k * 4 + 1)
   rw [Array.getElem?_eq_getElem (show k * 4 + 1 < c.size by rw [HS.out]; omega)] at q1
   have f2 := hCe.frozen (k * 4 + 2)
   have q2 := hCe.cell (k * 4 + 2)
   rw [Array.getElem?_eq_getElem (show k * 4 + 2 < c.size by rw [HS.out]; omega)] at q2
   have f3 := hCe.frozen (k * 4 + 3)
   have q3 := hCe.cell (k * 4 + 3)
   rw [Array.getElem?_eq_getElem (show k * 4 + 3 < c.size by rw [HS.out]; omega)] at q3
   have hCl3 := hCe.lt
   go_wp2_with fail
   have hCf := ((((hCe.set (k * 4) (.int .i64 (uk).re)).set (k * 4 + 1) (.int .i64 (uk).im)).set (k * 4 + 2) (.int .i64 (vk).re)).set (k * 4 + 3) (.int .i64 (vk).im))
   have hgf := ((((zq2).setCell (a := ⟨w1.heap.size, k * 4, none⟩) (by simp) (.int .i64 (uk).re)).setCell (a := ⟨w1.heap.size, k * 4 + 1, none⟩) (by simp) (.int .i64 (uk).im)).setCell (a := ⟨w1.heap.size, k * 4 + 2, none⟩) (by simp) (.int .i64 (vk).re)).setCell (a := ⟨w1.heap.size, k * 4 + 3, none⟩) (by simp) (.int .i64 (vk).im)
   go_roundw
   case rel =>
    refine ⟨k + 1, put4 c k _ _ _ _, by omega, by go_num, hCf, by rw [put4_size]; exact HS.out, fun j hj => ?_, hgf⟩
    by_cases e : j = k
    ·subst e
     rw [HUK.out.1, HUK.out.2]
     exact put4_self c j _ _ _ _ (by rw [HS.out]; omega)
    ·obtain ⟨z0, z1, z2, z3⟩ := HJ.out j (by omega)
     exact ⟨(put4_other c k _ _ _ _ _ (by omega)).trans z0, (put4_other c k _ _ _ _ _ (by omega)).trans z1, (put4_other c k _ _ _ _ _ (by omega)).trans z2, (put4_other c k _ _ _ _ _ (by omega)).trans z3⟩
   case measure => simp [intOf]; omega
  ·obtain rfl : k = n := by omega
   have hkI : ¬ (k : Int) < (k : Int) := by omega
   go_wp2_with fail
   go_ret
   refine ⟨_, rfl, ⟨_, 0, k, rfl, Nat.le_refl _, by unfold maxLen; omega, hC.lt, fun j hjl => ?_⟩, g1.trans hg⟩
   obtain ⟨z0, z1, z2, z3⟩ := hj j hjl
   rw [hC.cell, hC.cell, hC.cell, hC.cell]
   simp only [Nat.zero_add]
   exact ⟨z0, z1, z2, z3⟩
set_option maxHeartbeats 4000000 in
theorem dRoots_false (L : Int) (n : Nat) (hn : n ≤ 70) (ws : List Gi) (hln : ws.length = n) (hne : ws ≠ []) (G u v : Nat → Gi) (HT : Hid (∀ W, Calls Tryz.prog 115 #[.int .i64 L, .int .i64 40] W fun e w' => ∃ v, e = .returned (.tuple #[v, .int .i64 0]) ∧ CxsAt w' v ws ∧ Gr W w'))
 (HG : Hid (∀ j x, ws[j]? = some x → x = G j)) (HH : Hid (∀ j, j < n → ∀ W, Calls Tryz.prog 117 #[.agg #[.int .i64 (G j).re, .int .i64 (G j).im]] W fun e w' => e = .returned (.agg #[.int .i64 (u j).re, .int .i64 (u j).im, .int .i64 (v j).re, .int .i64 (v j).im]) ∧ Gr W w')) (w : World) :
 Calls Tryz.prog 68 #[.int .i64 L, .bool false] w fun e w' => ∃ x, e = .returned x ∧ HvAt w' x n u v ∧ Gr w w' := by
 have hmk := run_make_hv n (by omega)
 go_enter Tryz.func68, Tryz.ntmps68
 go_wp2_with fail
 refine (HT.out _).mono ?_
 rintro e w1 ⟨vt, rfl, hvt, g1⟩
 obtain ⟨b, o, cap, rfl, hlen, hbb, hc⟩ := hvt.at hne
 rw [hln] at hlen ⊢
 have HXC := Lib.hid hc
 have HX := Lib.hid hln
 clear hc hvt hln hne HT
 go_wp2_with fail
 have M0 := CellsAt.new w1 145 (madeCells #[.int .i64 0, .int .i64 0, .int .i64 0, .int .i64 0] (n * 4))
 have M1 := size_madeCells #[.int .i64 0, .int .i64 0, .int .i64 0, .int .i64 0] (n * 4)
 go_loopw [8, 9, 20] (fun _ _ i wr => ∃ k : Nat, ∃ c : Array Value, k ≤ n ∧ i = .int .i64 k ∧ CellsAt wr w1.heap.size 145 c ∧ c.size = n * 4 ∧ (∀ j, j < k → c[j * 4]? = some (.int .i64 (u j).re) ∧ c[j * 4 + 1]? = some (.int .i64 (u j).im) ∧ c[j * 4 + 2]? = some (.int .i64 (v j).re) ∧ c[j * 4 + 3]? = some (.int .i64 (v j).im)) ∧ Gr w1 wr)
  (fun _ _ i _ => n - (intOf i).toNat)
 case atStart => exact ⟨0, _, by omega, rfl, M0, M1, fun j hj => absurd hj (Nat.not_lt_zero _), (Gr.refl _).alloc _ _⟩
 case round =>
  clear M0 M1 hmk
  obtain ⟨k, c, hk, rfl, hC, hs, hj, hg⟩ := hrel
  by_cases hlt : k < n
  ·have hkI : (k : Int) < (n : Int) := by omega
   obtain ⟨x, hx⟩ := get_of_lt (xs := ws) (by rw [HX.out]; exact hlt)
   have h1 := (hg.cell (p := ⟨b, o + k * 2, none⟩) hbb).trans (HXC.out k x hx).1
   have h2 := (hg.cell (p := ⟨b, o + k * 2 + 1, none⟩) hbb).trans (HXC.out k x hx).2
   have hbl : b < wr.heap.size := Nat.lt_of_lt_of_le hbb hg.size
   have HS := Lib.hid hs
   have HJ := Lib.hid hj
   have hxg := HG.out k x hx
   have HH1 := Lib.hid (HH.out k hlt)
   rw [← hxg] at HH1
   have HU := Lib.hid (rfl : u k = u k)
   obtain ⟨uk, huk⟩ : ∃ z, u k = z := ⟨_, rfl⟩
   obtain ⟨vk, hvk⟩ : ∃ z, v k = z := ⟨_, rfl⟩
   rw [huk, hvk] at HH1
   have HUK := Lib.hid (And.intro huk hvk)
   skip
   clear hx hs hj HG hxg HH HXC HX huk hvk HU
   obtain ⟨re, im⟩ := x
   simp only at h1 h2 HH1
   have hsz := hg.size
   have hCl := hC.lt
   go_wp2_with fail
   have hC0 := hC.alloc (.cells #[.int .i64 re, .int .i64 im] 50)
   refine (HH1.out _).mono ?_
   rintro e wq2 ⟨rfl, gq2⟩
   have hCe := hC0.gr gq2
   have ⟨Fa_q2, la_q2⟩ := CellsAt.gl (CellsAt.new wr 50 #[.int .i64 re, .int .i64 im]) gq2
   have zq2 := ((hg).alloc _ _).trans gq2
   clear gq2
   clear hC0
   have f0 := hCe.frozen (k * 4)
   have q0 := hCe.cell (k * 4)
   rw [Array.getElem?_eq_getElem (show k * 4 < c.size by rw [HS.out]; omega)] at q0
   have f1 := hCe.frozen (k * 4 + 1)
   have q1 := hCe.cell (k * 4 + 1)
   rw [Array.getElem?_eq_getElem (show k * 4 + 1 < c.size by rw [HS.out]; omega)] at q1
   have f2 := hCe.frozen (k * 4 + 2)
   have q2 := hCe.cell (k * 4 + 2)
   rw [Array.getElem?_eq_getElem (show k * 4 + 2 < c.size by rw [HS.out]; omega)] at q2
   have f3 := hCe.frozen (k * 4 + 3)
   have q3 := hCe.cell (k * 4 + 3)
   rw [Array.getElem?_eq_getElem (show k * 4 + 3 < c.size by rw [HS.out]; omega)] at q3
   have hCl3 := hCe.lt
   go_wp2_with fail
   have hCf := ((((hCe.set (k * 4) (.int .i64 (uk).re)).set (k * 4 + 1) (.int .i64 (uk).im)).set (k * 4 + 2) (.int .i64 (vk).re)).set (k * 4 + 3) (.int .i64 (vk).im))
   have hgf := ((((zq2).setCell (a := ⟨w1.heap.size, k * 4, none⟩) (by simp) (.int .i64 (uk).re)).setCell (a := ⟨w1.heap.size, k * 4 + 1, none⟩) (by simp) (.int .i64 (uk).im)).setCell (a := ⟨w1.heap.size, k * 4 + 2, none⟩) (by simp) (.int .i64 (vk).re)).setCell (a := ⟨w1.heap.size, k * 4 + 3, none⟩) (by simp) (.int .i64 (vk).im)
   go_roundw
   case rel =>
    refine ⟨k + 1, put4 c k _ _ _ _, by omega, by go_num, hCf, by rw [put4_size]; exact HS.out, fun j hj => ?_, hgf⟩
    by_cases e : j = k
    ·subst e
     rw [HUK.out.1, HUK.out.2]
     exact put4_self c j _ _ _ _ (by rw [HS.out]; omega)
    ·obtain ⟨z0, z1, z2, z3⟩ := HJ.out j (by omega)
     exact ⟨(put4_other c k _ _ _ _ _ (by omega)).trans z0, (put4_other c k _ _ _ _ _ (by omega)).trans z1, (put4_other c k _ _ _ _ _ (by omega)).trans z2, (put4_other c k _ _ _ _ _ (by omega)).trans z3⟩
   case measure => simp [intOf]; omega
  ·obtain rfl : k = n := by omega
   have hkI : ¬ (k : Int) < (k : Int) := by omega
   go_wp2_with fail
   go_ret
   refine ⟨_, rfl, ⟨_, 0, k, rfl, Nat.le_refl _, by unfold maxLen; omega, hC.lt, fun j hjl => ?_⟩, g1.trans hg⟩
   obtain ⟨z0, z1, z2, z3⟩ := hj j hjl
   rw [hC.cell, hC.cell, hC.cell, hC.cell]
   simp only [Nat.zero_add]
   exact ⟨z0, z1, z2, z3⟩
set_option maxHeartbeats 8000000 in
theorem dBin_of (n : Nat) (k kk : Int) (px : Option Addr) (cx : Nat) (vw : Value) (xs : List Gi) (hxn : xs.length = n) (u v U V : Nat → Gi) (m : Nat → Int) (i : Nat → Nat) (z : Gi) (hkk : bits .and .i64 k ((n : Int) - 1) = kk)
 (hS : U 0 = ⟨0, 0⟩ ∧ V 0 = ⟨0, 0⟩) (HJ : Hid (∀ j : Nat, j < n → IntKind.i64.wrap ((j : Int) * kk) = m j ∧ bits .and .i64 (m j) ((n : Int) - 1) = (i j : Int) ∧ i j < n)) (hn0 : ¬ (n : Int) = 0) (hnM : n ≤ 1000)
 (HP : Hid (∀ j x, xs[j]? = some x → ∀ W, Calls Tryz.prog 118 #[.agg #[.int .i64 (U j).re, .int .i64 (U j).im, .int .i64 (V j).re, .int .i64 (V j).im], .agg #[.int .i64 (x).re, .int .i64 (x).im], .agg #[.int .i64 (u (i j)).re, .int .i64 (u (i j)).im, .int .i64 (v (i j)).re, .int .i64 (v (i j)).im]] W fun e w' => e = .returned (.agg #[.int .i64 (U (j + 1)).re, .int .i64 (U (j + 1)).im, .int .i64 (V (j + 1)).re, .int .i64 (V (j + 1)).im]) ∧ Gr W w'))
 (HD : CR 119 #[.agg #[.int .i64 (U n).re, .int .i64 (U n).im, .int .i64 (V n).re, .int .i64 (V n).im]] (.agg #[.int .i64 (z).re, .int .i64 (z).im])) (w : World) (hvx : CxsAt w (.slice px n cx) xs) (hvw : HvAt w vw n u v) :
 Calls Tryz.prog 69 #[.slice px n cx, vw, .int .i64 k] w fun e w' => e = .returned (.agg #[.int .i64 (z).re, .int .i64 (z).im]) ∧ Gr w w' := by
 have hne : xs ≠ [] := by intro e; rw [e] at hxn; simp at hxn; omega
 obtain ⟨b, o, cap, hsl, hlen, hb, hc⟩ := hvx.at hne
 rw [hxn] at hsl
 cases hsl
 obtain ⟨B, qo, qc, rfl, _, _, hBw, hcw⟩ := hvw
 have HW := Lib.hid hcw
 have HC := Lib.hid hc
 have HX := Lib.hid hxn
 clear hc hvx hne hlen hcw
 go_enter Tryz.func69, Tryz.ntmps69
 go_wp2_with fail
 obtain ⟨u0, hU⟩ : ∃ uu, uu = ((w.alloc (.cells #[.int .i64 0, .int .i64 0] 50)).alloc (.cells #[.int .i64 0, .int .i64 0, .int .i64 0, .int .i64 0] 145)) := ⟨_, rfl⟩
 have ⟨gu, R0, R1⟩ := lay2 hU
 rw [← hU]
 clear hU
 have lr := R0.lt
 have ls := R1.lt
 go_loopw [9, 10, 19] (fun _ _ i wr => ∃ j : Nat, j ≤ n ∧ i = .int .i64 j ∧ CellsAt wr w.heap.size 50 #[.int .i64 0, .int .i64 0] ∧ CellsAt wr (w.heap.size + 1) 145 #[.int .i64 (U j).re, .int .i64 (U j).im, .int .i64 (V j).re, .int .i64 (V j).im] ∧ Gr w wr) (fun _ _ i _ => n - (intOf i).toNat)
 case atStart => exact ⟨0, by omega, rfl, R0, by rw [hS.1, hS.2]; exact R1, gu⟩
 case round =>
  clear R0 R1 gu hS lr ls hkk
  obtain ⟨j, hj, rfl, BR, BS, hg⟩ := hrel
  by_cases hlt : j < n
  ·have hjI : (j : Int) < (n : Int) := by omega
   obtain ⟨x, hx⟩ := get_of_lt (xs := xs) (by rw [HX.out]; exact hlt)
   have h1 := (hg.cell (p := ⟨b, o + j * 2, none⟩) hb).trans (HC.out j x hx).1
   have h2 := (hg.cell (p := ⟨b, o + j * 2 + 1, none⟩) hb).trans (HC.out j x hx).2
   have hbl : b < wr.heap.size := Nat.lt_of_lt_of_le hb hg.size
   have HP1 := Lib.hid (HP.out j x hx)
   obtain ⟨hm, hi, hil⟩ := HJ.out j hlt
   have hiI : (i j : Int) < (n : Int) := by omega
   have HW1 := Lib.hid (HW.out (i j) hil)
   obtain ⟨n0, hn0⟩ : ∃ z, U (j + 1) = z := ⟨_, rfl⟩
   obtain ⟨n1, hn1⟩ : ∃ z, V (j + 1) = z := ⟨_, rfl⟩
   rw [hn0, hn1] at HP1
   have HZ := Lib.hid (And.intro hn0 hn1)
   clear hn0 hn1 hx HP HD HC HX HJ HW hxn
   generalize U j = s0 at *
   generalize V j = s1 at *
   generalize m j = m at *
   generalize i j = i at *
   generalize u i = uu at *
   generalize v i = vv at *
   obtain ⟨re, im⟩ := x
   simp only at h1 h2 HP1
   have lr := CellsAt.lt BR
   have ls := CellsAt.lt BS
   go_wp2_with fail
   obtain ⟨va, hqap1⟩ : ∃ zz, zz = (wr.alloc (.cells #[.int .i64 re, .int .i64 im] 50)) := ⟨_, rfl⟩
   have Yr_ap1 : CellsAt va (w.heap.size) 50 #[.int .i64 0, .int .i64 0] := by rw [hqap1]; first | exact (BR).alloc _ | simpa using (BR).alloc _
   have Ys_ap1 : CellsAt va (w.heap.size + 1) 145 #[.int .i64 (s0).re, .int .i64 (s0).im, .int .i64 (s1).re, .int .i64 (s1).im] := by rw [hqap1]; first | exact (BS).alloc _ | simpa using (BS).alloc _
   have Ya_ap1 : CellsAt va (wr.heap.size) 50 #[.int .i64 re, .int .i64 im] := by rw [hqap1]; first | exact CellsAt.new wr 50 #[.int .i64 re, .int .i64 im] | simpa using CellsAt.new wr 50 #[.int .i64 re, .int .i64 im]
   have yap1 : Gr w va := by rw [hqap1]; exact (hg).alloc _ _
   rw [← hqap1]
   clear hqap1
   obtain ⟨hB, z0, z1, z2, z3⟩ : B < w.heap.size ∧ _ := ⟨hBw, HW1.out⟩
   have hBv : B < va.heap.size := Nat.lt_of_lt_of_le hB (yap1).size
   have hBs : B ≠ w.heap.size + 1 := by omega
   have KS : ∀ W, GB (w.heap.size + 1) va W → (W.cell? ⟨wr.heap.size, 0, none⟩ = some (.int .i64 re) ∧ W.cell? ⟨wr.heap.size, 1, none⟩ = some (.int .i64 im) ∧ W.cell? ⟨B, qo + i * 4, none⟩ = some (.int .i64 (uu).re) ∧ W.cell? ⟨B, qo + i * 4 + 1, none⟩ = some (.int .i64 (uu).im) ∧ W.cell? ⟨B, qo + i * 4 + 2, none⟩ = some (.int .i64 (vv).re) ∧ W.cell? ⟨B, qo + i * 4 + 3, none⟩ = some (.int .i64 (vv).im)) := fun W hG => ⟨(GB.cellsAt hG Ya_ap1 (by omega)).cell 0, (GB.cellsAt hG Ya_ap1 (by omega)).cell 1, ((GB.cell hG (p := ⟨B, qo + i * 4, none⟩) hBv hBs).trans ((yap1).cell (p := ⟨B, qo + i * 4, none⟩) hB)).trans z0, ((GB.cell hG (p := ⟨B, qo + i * 4 + 1, none⟩) hBv hBs).trans ((yap1).cell (p := ⟨B, qo + i * 4 + 1, none⟩) hB)).trans z1, ((GB.cell hG (p := ⟨B, qo + i * 4 + 2, none⟩) hBv hBs).trans ((yap1).cell (p := ⟨B, qo + i * 4 + 2, none⟩) hB)).trans z2, ((GB.cell hG (p := ⟨B, qo + i * 4 + 3, none⟩) hBv hBs).trans ((yap1).cell (p := ⟨B, qo + i * 4 + 3, none⟩) hB)).trans z3⟩
   have hclG := gb_closed (w.heap.size + 1) va
   try simp only [List.append_eq, List.cons_append, List.nil_append]
   refine wp_region_grow (S := GB (w.heap.size + 1) va) rfl (GB.drew (GB.refl _ _)) ?_
   refine gK 1 hclG KS ?_
   refine gT 2 hclG ?_
   refine gT 3 hclG ?_
   refine gT 4 hclG ?_
   refine gT 5 hclG ?_
   refine gT 6 hclG ?_
   refine gT 7 hclG ?_
   refine gT 8 hclG ?_
   refine gK 9 hclG KS ?_
   refine wpG_ready (rs := [0]) (by kernel_rfl) (by simp) (fun wa1 ga1 sa1 => ?_)
   refine AllG.cons rfl (fun K hK => ?_) AllG.nil
   replace ga1 := (Gr.drew (Gr.refl va)).trans ga1
   have ⟨Fr_a1, lr_a1⟩ := CellsAt.gl (Yr_ap1) ga1
   have ⟨Fs_a1, ls_a1⟩ := CellsAt.gl (Ys_ap1) ga1
   have ⟨Fa_a1, la_a1⟩ := CellsAt.gl (Ya_ap1) ga1
   have za1 := (yap1).trans ga1
   clear Yr_ap1 Ys_ap1 Ya_ap1 yap1 ga1
   obtain ⟨cs0, cs1, cs2, cs3⟩ := Fs_a1.t4
   go_simp
   clear cs0 cs1 cs2 cs3
   refine hK.out _ _ ?_ ?_
   ·exact sa1
   clear hK K
   try simp only [Act.put, putS]
   refine wpG_call (i := 10) hclG rfl (by kernel_rfl) (by kernel_rfl) (by kernel_rfl) (fun _ _ _ h => h) (fun W _ => HP1.out W) (by rfl) ?_ ?_
   ·(intro w' hSw; go_simp; try with_reducible rfl)
   try simp only [Act.put, putS]
   refine wpG_ready (rs := [11]) (by kernel_rfl) (by simp) (fun wa2 ga2 sa2 => ?_)
   refine AllG.cons rfl (fun K hK => ?_) AllG.nil
   have ⟨Fr_a2, lr_a2⟩ := CellsAt.gl (Fr_a1) ga2
   have ⟨Fs_a2, ls_a2⟩ := CellsAt.gl (Fs_a1) ga2
   have ⟨Fa_a2, la_a2⟩ := CellsAt.gl (Fa_a1) ga2
   have za2 := (za1).trans ga2
   clear Fr_a1 Fs_a1 Fa_a1 za1 ga2
   have ms0 := CellsAt.frozen (Fs_a2) 0
   have cs0 := Fs_a2.at 0
   have ms1 := CellsAt.frozen (Fs_a2) 1
   have cs1 := Fs_a2.at 1
   have ms2 := CellsAt.frozen (Fs_a2) 2
   have cs2 := Fs_a2.at 2
   have ms3 := CellsAt.frozen (Fs_a2) 3
   have cs3 := Fs_a2.at 3
   go_simp
   clear ms0 cs0 ms1 cs1 ms2 cs2 ms3 cs3
   refine hK.out _ _ ?_ ?_
   ·exact (GB.set (GB.set (GB.set (GB.set sa2 _ _) _ _) _ _) _ _)
   clear hK K
   try simp only [Act.put, putS]
   refine wpG_done (by kernel_rfl) (fun wa3 ga3 => ?_) _
   have ⟨Fr_a3, lr_a3⟩ := CellsAt.gl (((((Fr_a2).other (by omega) _ _).other (by omega) _ _).other (by omega) _ _).other (by omega) _ _) ga3
   have Fs_a3 : CellsAt wa3 (w.heap.size + 1) 145 #[.int .i64 (n0).re, .int .i64 (n0).im, .int .i64 (n1).re, .int .i64 (n1).im] := CellsAt.gr (CellsAt.set (CellsAt.set (CellsAt.set (CellsAt.set (Fs_a2) 0 (.int .i64 (n0).re)) 1 (.int .i64 (n0).im)) 2 (.int .i64 (n1).re)) 3 (.int .i64 (n1).im)) ga3
   have ls_a3 := CellsAt.lt (Fs_a3)
   have ⟨Fa_a3, la_a3⟩ := CellsAt.gl (((((Fa_a2).other (by omega) _ _).other (by omega) _ _).other (by omega) _ _).other (by omega) _ _) ga3
   have za3 := (((((za2).setCell (by first | omega | (simp only; omega)) _).setCell (by first | omega | (simp only; omega)) _).setCell (by first | omega | (simp only; omega)) _).setCell (by first | omega | (simp only; omega)) _).trans ga3
   clear ga3
   clear hclG KS
   go_wp2_with fail
   go_roundw
   case rel => exact ⟨j + 1, by omega, by go_num, Fr_a3, by rw [HZ.out.1, HZ.out.2]; exact Fs_a3, za3⟩
   case measure => simp [intOf]; omega
  ·obtain rfl : j = n := by omega
   have hjI : ¬ (j : Int) < (j : Int) := by omega
   have HD1 := Lib.hid HD.out
   clear HP HD HC HX HJ HW hxn hnM
   generalize U j = s0 at *
   generalize V j = s1 at *
   have lr := CellsAt.lt BR
   have ls := CellsAt.lt BS
   obtain ⟨cs0, cs1, cs2, cs3⟩ := BS.t4
   go_wp2_with fail
   clear cs0 cs1 cs2 cs3
   refine (HD1.out _).mono ?_
   rintro e we1 ⟨rfl, ge1⟩
   have ⟨Fr_e1, lr_e1⟩ := CellsAt.gl (BR) ge1
   have ⟨Fs_e1, ls_e1⟩ := CellsAt.gl (BS) ge1
   have ze1 := (hg).trans ge1
   clear BR BS hg ge1
   have mr0 := CellsAt.frozen (Fr_e1) 0
   have cr0 := Fr_e1.at 0
   have mr1 := CellsAt.frozen (Fr_e1) 1
   have cr1 := Fr_e1.at 1
   go_wp2_with fail
   clear mr0 cr0 mr1 cr1
   obtain ⟨ufe, hqep1⟩ : ∃ zz, zz = ((we1.setCell ⟨w.heap.size, 0, none⟩ (.int .i64 (z).re)).setCell ⟨w.heap.size, 1, none⟩ (.int .i64 (z).im)) := ⟨_, rfl⟩
   have Yr_ep1 : CellsAt ufe (w.heap.size) 50 #[.int .i64 (z).re, .int .i64 (z).im] := by rw [hqep1]; first | exact CellsAt.set2 (Fr_e1) _ _ | simpa using CellsAt.set2 (Fr_e1) _ _
   have Ys_ep1 : CellsAt ufe (w.heap.size + 1) 145 #[.int .i64 (s0).re, .int .i64 (s0).im, .int .i64 (s1).re, .int .i64 (s1).im] := by rw [hqep1]; first | exact ((Fs_e1).other (by omega) _ _).other (by omega) _ _ | simpa using ((Fs_e1).other (by omega) _ _).other (by omega) _ _
   have yep1 : Gr w ufe := by rw [hqep1]; exact ((ze1).setCell (by first | omega | (simp only; omega)) _).setCell (by first | omega | (simp only; omega)) _
   rw [← hqep1]
   clear hqep1
   obtain ⟨cr0, cr1⟩ := Yr_ep1.t2
   refine bodyPost_ret (v := .agg #[.int .i64 (z).re, .int .i64 (z).im]) ?_ rfl ⟨rfl, yep1⟩
   simp [results, Tryz.results69, go_sem, *]
end
end Go.Proofs.YtdignnmpfkgkoaaGreat
