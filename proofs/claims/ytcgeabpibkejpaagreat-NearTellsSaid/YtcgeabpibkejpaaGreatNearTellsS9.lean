import Derived.Lib.SliceRun
import Derived.BigRegion
import Derived.Test.YtcgeabpibkejpaaGreatNearTellsS8
namespace Go.Proofs.YtcgeabpibkejpaaGreat
section
open Go.ChangeShapes Go.WideShapes Go.ChangeAt Go.RowKit
set_option linter.unusedVariables false
set_option linter.unusedSimpArgs false
set_option maxRecDepth 100000
theorem cxs_of_cells {W : World} {B : Nat} {t : TypeId} {xs : List Gi} (h : CellsAt W B t (gcells xs).toArray) (hl : xs.length ≤ maxLen) : CxsAt W (.slice (some ⟨B, 0, none⟩) xs.length xs.length) xs := by
 refine ⟨_, _, rfl, Nat.le_refl _, hl, fun _ => ⟨B, 0, rfl, h.lt, fun j x hj => ?_⟩⟩
 have k := gcells_at xs j x hj
 rw [Nat.zero_add, h.cell, h.cell]
 simpa using k
theorem NumsAt.set {W : World} {v : Value} {ls : List Int} {B : Nat} (h : NumsAt W v ls) (ha : v.ownBlock ≠ some B) (j : Nat) (u : Value) : NumsAt (W.setCell ⟨B, j, none⟩ u) v ls := by
 obtain ⟨p, cap, hv, hl, hm, hc⟩ := h
 refine ⟨p, cap, hv, hl, hm, fun hx => ?_⟩
 obtain ⟨b, o, hp, hb, hcc⟩ := hc hx
 subst hp
 subst hv
 have hne : b ≠ B := fun e => ha (by rw [e]; rfl)
 have hh : (W.setCell ⟨B, j, none⟩ u).heap[b]? = W.heap[b]? := Below.heap_setCell _ _ _ _ hne
 refine ⟨b, o, rfl, Nat.lt_of_lt_of_le hb (KeepsWalks.setCell W _ u).size, fun k x hk => ?_⟩
 have := hcc k x hk
 unfold World.cell? at this ⊢
 rw [hh]
 exact this
structure BV where
 X : List Gi
 ex : Int
 sat : Bool
 sh : List Int
def BlkAt (w : World) (v : Value) (b : BV) : Prop := ∃ vx vs, v = .agg #[vx, .int .i64 b.ex, .bool b.sat, vs] ∧ CxsAt w vx b.X ∧ NumsAt w vs b.sh
theorem BlkAt.gr {w w' : World} {v : Value} {b : BV} (h : BlkAt w v b) (g : Gr w w') : BlkAt w' v b := by
 obtain ⟨vx, vs, rfl, hx, hs⟩ := h
 exact ⟨vx, vs, rfl, hx.gr g, hs.gr g⟩
section
variable {Q : Exit → Act → World → Prop}
end
end
section
open Go.ChangeShapes Go.WideShapes Go.ChangeAt Go.RowKit
set_option linter.unusedVariables false
set_option linter.unusedSimpArgs false
set_option maxRecDepth 100000
theorem nums_of_cells {W : World} {B cap : Nat} {t : TypeId} {c : Array Value} {ls : List Int} (h : CellsAt W B t c) (hc : ∀ (j : Nat) x, ls[j]? = some x → c[j]? = some (.int .i64 x)) (h1 : ls.length ≤ cap) (h2 : cap ≤ maxLen) : NumsAt W (.slice (some ⟨B, 0, none⟩) ls.length cap) ls := by
 refine ⟨_, cap, rfl, h1, h2, fun _ => ⟨B, 0, rfl, h.lt, fun j x hj => ?_⟩⟩
 rw [Nat.zero_add, h.cell]
 exact hc j x hj
set_option maxHeartbeats 4000000 in
theorem alive17_of (HF : Hid (∀ sp cl sy cy ss cs W, CxsAt W (.slice sp 4 cl) [⟨1, 0⟩, ⟨2, 0⟩, ⟨3, 0⟩, ⟨4, 0⟩] → CxsAt W (.slice sy 4 cy) [⟨10, 0⟩, ⟨-2, 2⟩, ⟨-2, 0⟩, ⟨-2, -3⟩] → NumsAt W (.slice ss 2 cs) [0, 0] → Calls Tryz.prog 7 #[.slice sp 4 cl, .agg #[.int .i64 0, .int .i64 2, .int .i64 0, .int .i64 2, .int .i64 0, .bool false], .agg #[.slice sy 4 cy, .int .i64 0, .bool false, .slice ss 2 cs]] W fun e w' => e = .returned (.tuple #[.int .i64 256, .int .i64 0]) ∧ Gr W w')) (HB : Hid (∀ sp cl sy cy ss cs W, CxsAt W (.slice sp 4 cl) [⟨1, 0⟩, ⟨2, 0⟩, ⟨3, 0⟩, ⟨4, 0⟩] → CxsAt W (.slice sy 4 cy) [⟨10, 0⟩, ⟨-2, 2⟩, ⟨-2, 0⟩, ⟨-2, -3⟩] → NumsAt W (.slice ss 2 cs) [0, 0] → Calls Tryz.prog 8 #[.slice sp 4 cl, .agg #[.int .i64 0, .int .i64 2, .int .i64 0, .int .i64 2, .int .i64 0, .bool false], .agg #[.slice sy 4 cy, .int .i64 0, .bool false, .slice ss 2 cs]] W fun e w' => e = .returned (.tuple #[.int .i64 7298, .int .i64 0]) ∧ Gr W w')) (w : World) :
 Calls Tryz.prog 12 #[] w fun e w' => e = .returned (.bool true) ∧ Gr w w' := by
 go_enter Tryz.func12, Tryz.ntmps12
 go_wp2_with fail
 obtain ⟨u0, hU⟩ : ∃ uu, uu = (((((w.alloc (.cells #[.int .i64 1, .int .i64 0, .int .i64 2, .int .i64 0, .int .i64 3, .int .i64 0, .int .i64 4, .int .i64 0] 58)).alloc (.cells #[.int .i64 0, .int .i64 2, .int .i64 0, .int .i64 2, .int .i64 0, .bool false] 24)).alloc (.cells #[.int .i64 10, .int .i64 0, .int .i64 (-2), .int .i64 2, .int .i64 (-2), .int .i64 0, .int .i64 (-2), .int .i64 (-3)] 58)).alloc (.cells #[.int .i64 0, .int .i64 0] 3)).alloc (.cells #[.slice (some ⟨w.heap.size + 1 + 1, 0, none⟩) 4 4, .int .i64 0, .bool false, .slice (some ⟨w.heap.size + 1 + 1 + 1, 0, none⟩) 2 2] 27)) := ⟨_, rfl⟩
 have ⟨gu, R0, R1, R2, R3, R4⟩ := lay5 hU
 rw [← hU]
 clear hU
 have lx := R0.lt
 have lp := R1.lt
 have ly := R2.lt
 have ls := R3.lt
 have lb := R4.lt
 have NX : CxsAt u0 (.slice (some ⟨w.heap.size, 0, none⟩) 4 4) [⟨1, 0⟩, ⟨2, 0⟩, ⟨3, 0⟩, ⟨4, 0⟩] := cxs_of_cells (xs := [⟨1, 0⟩, ⟨2, 0⟩, ⟨3, 0⟩, ⟨4, 0⟩]) R0 (by unfold maxLen; simp)
 have NY : CxsAt u0 (.slice (some ⟨w.heap.size + 1 + 1, 0, none⟩) 4 4) [⟨10, 0⟩, ⟨-2, 2⟩, ⟨-2, 0⟩, ⟨-2, -3⟩] := cxs_of_cells (xs := [⟨10, 0⟩, ⟨-2, 2⟩, ⟨-2, 0⟩, ⟨-2, -3⟩]) R2 (by unfold maxLen; simp)
 have NS : NumsAt u0 (.slice (some ⟨w.heap.size + 1 + 1 + 1, 0, none⟩) 2 2) [0, 0] := nums_of_cells (ls := [0, 0]) R3 (fun j x hj => by
  match j, hj with
  | 0, hj => cases hj; rfl
  | 1, hj => cases hj; rfl) (Nat.le_refl _) (by unfold maxLen; simp)
 obtain ⟨cp0, cp1, cp2, cp3, cp4, cp5⟩ := R1.t6
 obtain ⟨cb0, cb1, cb2, cb3⟩ := R4.t4
 go_wp2_with fail
 clear cp0 cp1 cp2 cp3 cp4 cp5 cb0 cb1 cb2 cb3
 refine (HF.out _ _ _ _ _ _ _ NX NY NS).mono ?_
 rintro e w1 ⟨rfl, g1⟩
 have ⟨Fp_1, lp_1⟩ := CellsAt.gl (R1) g1
 have ⟨Fb_1, lb_1⟩ := CellsAt.gl (R4) g1
 have Kx_1 := CxsAt.gr (NX) g1
 have Ky_1 := CxsAt.gr (NY) g1
 have Ns_1 := NumsAt.gr (NS) g1
 have z1 := (gu).trans g1
 clear R1 R4 gu g1
 obtain ⟨cp0, cp1, cp2, cp3, cp4, cp5⟩ := Fp_1.t6
 obtain ⟨cb0, cb1, cb2, cb3⟩ := Fb_1.t4
 go_wp2_with fail
 clear cp0 cp1 cp2 cp3 cp4 cp5 cb0 cb1 cb2 cb3
 refine (HB.out _ _ _ _ _ _ _ Kx_1 Ky_1 Ns_1).mono ?_
 rintro e w2 ⟨rfl, g2⟩
 have ⟨Fp_2, lp_2⟩ := CellsAt.gl (Fp_1) g2
 have ⟨Fb_2, lb_2⟩ := CellsAt.gl (Fb_1) g2
 have Kx_2 := CxsAt.gr (Kx_1) g2
 have Ky_2 := CxsAt.gr (Ky_1) g2
 have Ns_2 := NumsAt.gr (Ns_1) g2
 have z2 := (z1).trans g2
 clear Fp_1 Fb_1 z1 g2
 go_wp2_with fail
 go_ret
 exact ⟨by first | rfl | (simp; done), z2⟩
set_option maxHeartbeats 16000000 in
theorem tells17_of (p q sp : Option Addr) (l1 cap1 m1 l2 cap2 m2 l3 cap3 m3 : Nat) (fo lo ke sc mo ex : Int) (iv sa : Bool) (xs ys : List Gi) (ls : List Int) (hm1 : m1 ≤ cap1) (hmin1 : (if (70 : Int) < (l1 : Int) then 70 else (l1 : Int)) = (m1 : Int)) (hm2 : m2 ≤ cap2) (hmin2 : (if (70 : Int) < (l2 : Int) then 70 else (l2 : Int)) = (m2 : Int)) (hm3 : m3 ≤ cap3) (hmin3 : (if (10 : Int) < (l3 : Int) then 10 else (l3 : Int)) = (m3 : Int)) (u y0 y f r : Int) (t : Bool) (hc : (¬ y0 = 0 ∧ (y0 == 0) = false ∧ u = 0 ∧ y = y0 ∧ f = 0 ∧ r = 0 ∧ t = false) ∨ (y0 = 0 ∧ ¬ y = 0 ∧ (y == 0) = false ∧ f = 0 ∧ r = 0 ∧ t = false) ∨ (y0 = 0 ∧ y = 0 ∧ t = decide (f ≤ r))) (HU : Hid (∀ W, CxsAt W (.slice p m1 cap1) xs → Calls Tryz.prog 6 #[.slice p m1 cap1, .agg #[.int .i64 fo, .int .i64 lo, .int .i64 ke, .int .i64 sc, .int .i64 mo, .bool iv]] W fun e w' => e = .returned (.tuple #[.int .i64 u, .int .i64 y0]) ∧ Gr W w')) (HF : Hid (∀ W, CxsAt W (.slice p m1 cap1) xs → CxsAt W (.slice q m2 cap2) ys → NumsAt W (.slice sp m3 cap3) ls → Calls Tryz.prog 7 #[.slice p m1 cap1, .agg #[.int .i64 fo, .int .i64 lo, .int .i64 ke, .int .i64 sc, .int .i64 mo, .bool iv], .agg #[.slice q m2 cap2, .int .i64 ex, .bool sa, .slice sp m3 cap3]] W fun e w' => e = .returned (.tuple #[.int .i64 f, .int .i64 y]) ∧ Gr W w')) (HB : Hid (∀ W, CxsAt W (.slice p m1 cap1) xs → CxsAt W (.slice q m2 cap2) ys → NumsAt W (.slice sp m3 cap3) ls → Calls Tryz.prog 8 #[.slice p m1 cap1, .agg #[.int .i64 fo, .int .i64 lo, .int .i64 ke, .int .i64 sc, .int .i64 mo, .bool iv], .agg #[.slice q m2 cap2, .int .i64 ex, .bool sa, .slice sp m3 cap3]] W fun e w' => e = .returned (.tuple #[.int .i64 r, .int .i64 y]) ∧ Gr W w')) (HW : Hid (∀ W, CxsAt W (.slice p m1 cap1) xs → CxsAt W (.slice q m2 cap2) ys → NumsAt W (.slice sp m3 cap3) ls → Calls Tryz.prog 9 #[.slice p m1 cap1, .agg #[.int .i64 fo, .int .i64 lo, .int .i64 ke, .int .i64 sc, .int .i64 mo, .bool iv], .agg #[.slice q m2 cap2, .int .i64 ex, .bool sa, .slice sp m3 cap3]] W fun e w' => e = .returned (.tuple #[.bool t, .int .i64 y]) ∧ Gr W w'))
 (H15 : Hid (∀ W, CxsAt W (.slice p m1 cap1) xs → Calls Tryz.prog 10 #[.slice p m1 cap1, .agg #[.int .i64 fo, .int .i64 lo, .int .i64 ke, .int .i64 sc, .int .i64 mo, .bool iv], .bool false] W fun e w' => e = .returned (.int .i64 y0) ∧ Gr W w')) (HRU : Hid (y0 = 0 → ∀ W, CxsAt W (.slice p m1 cap1) xs → Calls Tryz.prog 11 #[.slice p m1 cap1, .agg #[.int .i64 fo, .int .i64 lo, .int .i64 ke, .int .i64 sc, .int .i64 mo, .bool iv]] W fun e w' => e = .returned (.int .i64 u) ∧ Gr W w')) (HM : Hid (∀ W, CxsAt W (.slice p m1 cap1) xs → CxsAt W (.slice q m2 cap2) ys → NumsAt W (.slice sp m3 cap3) ls → Calls Tryz.prog 13 #[.slice p m1 cap1, .agg #[.int .i64 fo, .int .i64 lo, .int .i64 ke, .int .i64 sc, .int .i64 mo, .bool iv], .agg #[.slice q m2 cap2, .int .i64 ex, .bool sa, .slice sp m3 cap3]] W fun e w' => e = .returned (.int .i64 y) ∧ Gr W w')) (HRF : Hid (y = 0 → ∀ W, CxsAt W (.slice p m1 cap1) xs → CxsAt W (.slice q m2 cap2) ys → NumsAt W (.slice sp m3 cap3) ls → Calls Tryz.prog 14 #[.slice p m1 cap1, .agg #[.int .i64 fo, .int .i64 lo, .int .i64 ke, .int .i64 sc, .int .i64 mo, .bool iv], .agg #[.slice q m2 cap2, .int .i64 ex, .bool sa, .slice sp m3 cap3]] W fun e w' => e = .returned (.int .i64 f) ∧ Gr W w')) (HRB : Hid (y = 0 → ∀ W, CxsAt W (.slice p m1 cap1) xs → CxsAt W (.slice q m2 cap2) ys → NumsAt W (.slice sp m3 cap3) ls → Calls Tryz.prog 15 #[.slice p m1 cap1, .agg #[.int .i64 fo, .int .i64 lo, .int .i64 ke, .int .i64 sc, .int .i64 mo, .bool iv], .agg #[.slice q m2 cap2, .int .i64 ex, .bool sa, .slice sp m3 cap3]] W fun e w' => e = .returned (.int .i64 r) ∧ Gr W w')) (AL : CR 12 #[] (.bool true)) (w : World) (hx : CxsAt w (.slice p m1 cap1) xs) (hy : CxsAt w (.slice q m2 cap2) ys) (hs : NumsAt w (.slice sp m3 cap3) ls) :
 Calls Tryz.prog 3 #[.slice p l1 cap1, .agg #[.int .i64 fo, .int .i64 lo, .int .i64 ke, .int .i64 sc, .int .i64 mo, .bool iv], .agg #[.slice q l2 cap2, .int .i64 ex, .bool sa, .slice sp l3 cap3]] w fun e w' => e = .returned (.bool true) ∧ Gr w w' := by
 have HCS := Lib.hid hc
 clear hc
 have hcut1 := run_cut_cx p l1 cap1 m1 hm1
 have hcut2 := run_cut_cx q l2 cap2 m2 hm2
 have hcut3 := run_cut_int sp l3 cap3 m3 hm3
 have VX := Lib.hid hx
 have VY := Lib.hid hy
 have VS := Lib.hid hs
 clear hx hy hs
 go_enter Tryz.func3, Tryz.ntmps3
 go_wp2_with fail
 obtain ⟨u0, hU⟩ : ∃ uu, uu = ((w.alloc (.cells #[.int .i64 fo, .int .i64 lo, .int .i64 ke, .int .i64 sc, .int .i64 mo, .bool iv] 24)).alloc (.cells #[.slice q l2 cap2, .int .i64 ex, .bool sa, .slice sp l3 cap3] 27)) := ⟨_, rfl⟩
 have ⟨gu, R0, R1⟩ := lay2 hU
 rw [← hU]
 clear hU
 have lp := R0.lt
 have lb := R1.lt
 have c0 := R1.cell 0
 have c3 := R1.cell 3
 simp only [getS] at c0 c3
 have m0f := R1.frozen 0
 have m3f := R1.frozen 3
 go_region
 clear c0 c3 m0f m3f hcut1 hcut2 hcut3
 obtain ⟨u1, hq⟩ : ∃ zz, zz = (((u0.setCell ⟨w.heap.size + 1, 0, none⟩ (.slice q m2 cap2)).setCell ⟨w.heap.size + 1, 3, none⟩ (.slice sp m3 cap3)).drew) := ⟨_, rfl⟩
 have S0 : CellsAt u1 w.heap.size 24 #[.int .i64 fo, .int .i64 lo, .int .i64 ke, .int .i64 sc, .int .i64 mo, .bool iv] := by rw [hq]; exact ((R0.other (by omega) _ _).other (by omega) _ _).gr (Gr.drew (Gr.refl _))
 have S1 : CellsAt u1 (w.heap.size + 1) 27 #[.slice q m2 cap2, .int .i64 ex, .bool sa, .slice sp m3 cap3] := by rw [hq]; exact ((R1.set 0 (.slice q m2 cap2)).set 3 (.slice sp m3 cap3)).gr (Gr.drew (Gr.refl _))
 have s1 : Gr w u1 := by rw [hq]; exact ((gu.setCell (by simp) _).setCell (by simp) _).drew
 rw [← hq]
 clear hq R0 R1 gu lb lp
 have lp := S0.lt
 have lb := S1.lt
 obtain ⟨cp0, cp1, cp2, cp3, cp4, cp5⟩ := S0.t6
 go_wp2_with fail
 clear cp0 cp1 cp2 cp3 cp4 cp5
 refine (HU.out _ (VX.out.gr (s1))).mono ?_
 rintro e w1 ⟨rfl, g1⟩
 have ⟨Fp_1, lp_1⟩ := CellsAt.gl (S0) g1
 have ⟨Fb_1, lb_1⟩ := CellsAt.gl (S1) g1
 have z1 := (s1).trans g1
 clear S0 S1 s1 g1
 obtain ⟨cp0, cp1, cp2, cp3, cp4, cp5⟩ := Fp_1.t6
 obtain ⟨cb0, cb1, cb2, cb3⟩ := Fb_1.t4
 go_wp2_with fail
 clear cp0 cp1 cp2 cp3 cp4 cp5 cb0 cb1 cb2 cb3
 refine (HF.out _ (VX.out.gr (z1)) (VY.out.gr (z1)) (VS.out.gr (z1))).mono ?_
 rintro e w2 ⟨rfl, g2⟩
 have ⟨Fp_2, lp_2⟩ := CellsAt.gl (Fp_1) g2
 have ⟨Fb_2, lb_2⟩ := CellsAt.gl (Fb_1) g2
 have z2 := (z1).trans g2
 clear Fp_1 Fb_1 z1 g2
 obtain ⟨cp0, cp1, cp2, cp3, cp4, cp5⟩ := Fp_2.t6
 obtain ⟨cb0, cb1, cb2, cb3⟩ := Fb_2.t4
 go_wp2_with fail
 clear cp0 cp1 cp2 cp3 cp4 cp5 cb0 cb1 cb2 cb3
 refine (HB.out _ (VX.out.gr (z2)) (VY.out.gr (z2)) (VS.out.gr (z2))).mono ?_
 rintro e w3 ⟨rfl, g3⟩
 have ⟨Fp_3, lp_3⟩ := CellsAt.gl (Fp_2) g3
 have ⟨Fb_3, lb_3⟩ := CellsAt.gl (Fb_2) g3
 have z3 := (z2).trans g3
 clear Fp_2 Fb_2 z2 g3
 obtain ⟨cp0, cp1, cp2, cp3, cp4, cp5⟩ := Fp_3.t6
 obtain ⟨cb0, cb1, cb2, cb3⟩ := Fb_3.t4
 go_wp2_with fail
 clear cp0 cp1 cp2 cp3 cp4 cp5 cb0 cb1 cb2 cb3
 refine (HW.out _ (VX.out.gr (z3)) (VY.out.gr (z3)) (VS.out.gr (z3))).mono ?_
 rintro e w4 ⟨rfl, g4⟩
 have ⟨Fp_4, lp_4⟩ := CellsAt.gl (Fp_3) g4
 have ⟨Fb_4, lb_4⟩ := CellsAt.gl (Fb_3) g4
 have z4 := (z3).trans g4
 clear Fp_3 Fb_3 z3 g4
 obtain ⟨cp0, cp1, cp2, cp3, cp4, cp5⟩ := Fp_4.t6
 go_wp2_with fail
 clear cp0 cp1 cp2 cp3 cp4 cp5
 refine (H15.out _ (VX.out.gr (z4))).mono ?_
 rintro e w5 ⟨rfl, g5⟩
 have ⟨Fp_5, lp_5⟩ := CellsAt.gl (Fp_4) g5
 have ⟨Fb_5, lb_5⟩ := CellsAt.gl (Fb_4) g5
 have z5 := (z4).trans g5
 clear Fp_4 Fb_4 z4 g5
 rcases HCS.out with ⟨a1, a2, rfl, rfl, rfl, rfl, rfl⟩ | ⟨rfl, a1, a2, rfl, rfl, rfl⟩ | ⟨rfl, rfl, rfl⟩
 ·have cp0 := CellsAt.cell (Fp_5) 0
  have cp1 := Fp_5.at 1
  have cp2 := Fp_5.at 2
  have cp3 := Fp_5.at 3
  have cp4 := Fp_5.at 4
  have cp5 := Fp_5.at 5
  simp only [getS] at cp0
  go_wp2_with fail
  clear cp0 cp1 cp2 cp3 cp4 cp5
  refine (AL.out _).mono ?_
  rintro e wx6 ⟨rfl, gx6⟩
  have ⟨Fp_x6, lp_x6⟩ := CellsAt.gl (Fp_5) gx6
  have ⟨Fb_x6, lb_x6⟩ := CellsAt.gl (Fb_5) gx6
  have zx6 := (z5).trans gx6
  clear Fp_5 Fb_5 z5 gx6
  obtain ⟨cp0, cp1, cp2, cp3, cp4, cp5⟩ := Fp_x6.t6
  obtain ⟨cb0, cb1, cb2, cb3⟩ := Fb_x6.t4
  go_wp2_with fail
  clear cp0 cp1 cp2 cp3 cp4 cp5 cb0 cb1 cb2 cb3
  refine (HM.out _ (VX.out.gr (zx6)) (VY.out.gr (zx6)) (VS.out.gr (zx6))).mono ?_
  rintro e wx7 ⟨rfl, gx7⟩
  have ⟨Fp_x7, lp_x7⟩ := CellsAt.gl (Fp_x6) gx7
  have ⟨Fb_x7, lb_x7⟩ := CellsAt.gl (Fb_x6) gx7
  have zx7 := (zx6).trans gx7
  clear Fp_x6 Fb_x6 zx6 gx7
  go_wp2_with fail
  go_ret
  exact ⟨by first | rfl | (simp; done), zx7⟩
 ·have cp0 := CellsAt.cell (Fp_5) 0
  have cp1 := Fp_5.at 1
  have cp2 := Fp_5.at 2
  have cp3 := Fp_5.at 3
  have cp4 := Fp_5.at 4
  have cp5 := Fp_5.at 5
  simp only [getS] at cp0
  go_wp2_with fail
  clear cp0 cp1 cp2 cp3 cp4 cp5
  have HRU1 := HRU.out (by first | exact rfl | trivial)
  refine (HRU1 _ (VX.out.gr (z5))).mono ?_
  rintro e wy6 ⟨rfl, gy6⟩
  have ⟨Fp_y6, lp_y6⟩ := CellsAt.gl (Fp_5) gy6
  have ⟨Fb_y6, lb_y6⟩ := CellsAt.gl (Fb_5) gy6
  have zy6 := (z5).trans gy6
  clear Fp_5 Fb_5 z5 gy6
  clear HRU1
  go_wp2_with fail
  refine (AL.out _).mono ?_
  rintro e wy7 ⟨rfl, gy7⟩
  have ⟨Fp_y7, lp_y7⟩ := CellsAt.gl (Fp_y6) gy7
  have ⟨Fb_y7, lb_y7⟩ := CellsAt.gl (Fb_y6) gy7
  have zy7 := (zy6).trans gy7
  clear Fp_y6 Fb_y6 zy6 gy7
  obtain ⟨cp0, cp1, cp2, cp3, cp4, cp5⟩ := Fp_y7.t6
  obtain ⟨cb0, cb1, cb2, cb3⟩ := Fb_y7.t4
  go_wp2_with fail
  clear cp0 cp1 cp2 cp3 cp4 cp5 cb0 cb1 cb2 cb3
  refine (HM.out _ (VX.out.gr (zy7)) (VY.out.gr (zy7)) (VS.out.gr (zy7))).mono ?_
  rintro e wy8 ⟨rfl, gy8⟩
  have ⟨Fp_y8, lp_y8⟩ := CellsAt.gl (Fp_y7) gy8
  have ⟨Fb_y8, lb_y8⟩ := CellsAt.gl (Fb_y7) gy8
  have zy8 := (zy7).trans gy8
  clear Fp_y7 Fb_y7 zy7 gy8
  go_wp2_with fail
  go_ret
  exact ⟨by first | rfl | (simp; done), zy8⟩
 ·have cp0 := CellsAt.cell (Fp_5) 0
  have cp1 := Fp_5.at 1
  have cp2 := Fp_5.at 2
  have cp3 := Fp_5.at 3
  have cp4 := Fp_5.at 4
  have cp5 := Fp_5.at 5
  simp only [getS] at cp0
  go_wp2_with fail
  clear cp0 cp1 cp2 cp3 cp4 cp5
  have HRU1 := HRU.out (by first | exact rfl | trivial)
  refine (HRU1 _ (VX.out.gr (z5))).mono ?_
  rintro e wz6 ⟨rfl, gz6⟩
  have ⟨Fp_z6, lp_z6⟩ := CellsAt.gl (Fp_5) gz6
  have ⟨Fb_z6, lb_z6⟩ := CellsAt.gl (Fb_5) gz6
  have zz6 := (z5).trans gz6
  clear Fp_5 Fb_5 z5 gz6
  clear HRU1
  go_wp2_with fail
  refine (AL.out _).mono ?_
  rintro e wz7 ⟨rfl, gz7⟩
  have ⟨Fp_z7, lp_z7⟩ := CellsAt.gl (Fp_z6) gz7
  have ⟨Fb_z7, lb_z7⟩ := CellsAt.gl (Fb_z6) gz7
  have zz7 := (zz6).trans gz7
  clear Fp_z6 Fb_z6 zz6 gz7
  obtain ⟨cp0, cp1, cp2, cp3, cp4, cp5⟩ := Fp_z7.t6
  obtain ⟨cb0, cb1, cb2, cb3⟩ := Fb_z7.t4
  go_wp2_with fail
  clear cp0 cp1 cp2 cp3 cp4 cp5 cb0 cb1 cb2 cb3
  refine (HM.out _ (VX.out.gr (zz7)) (VY.out.gr (zz7)) (VS.out.gr (zz7))).mono ?_
  rintro e wz8 ⟨rfl, gz8⟩
  have ⟨Fp_z8, lp_z8⟩ := CellsAt.gl (Fp_z7) gz8
  have ⟨Fb_z8, lb_z8⟩ := CellsAt.gl (Fb_z7) gz8
  have zz8 := (zz7).trans gz8
  clear Fp_z7 Fb_z7 zz7 gz8
  obtain ⟨cp0, cp1, cp2, cp3, cp4, cp5⟩ := Fp_z8.t6
  obtain ⟨cb0, cb1, cb2, cb3⟩ := Fb_z8.t4
  go_wp2_with fail
  clear cp0 cp1 cp2 cp3 cp4 cp5 cb0 cb1 cb2 cb3
  refine (HRF.out (by first | exact rfl | trivial) _ (VX.out.gr (zz8)) (VY.out.gr (zz8)) (VS.out.gr (zz8))).mono ?_
  rintro e wz9 ⟨rfl, gz9⟩
  have ⟨Fp_z9, lp_z9⟩ := CellsAt.gl (Fp_z8) gz9
  have ⟨Fb_z9, lb_z9⟩ := CellsAt.gl (Fb_z8) gz9
  have zz9 := (zz8).trans gz9
  clear Fp_z8 Fb_z8 zz8 gz9
  obtain ⟨cp0, cp1, cp2, cp3, cp4, cp5⟩ := Fp_z9.t6
  obtain ⟨cb0, cb1, cb2, cb3⟩ := Fb_z9.t4
  go_wp2_with fail
  clear cp0 cp1 cp2 cp3 cp4 cp5 cb0 cb1 cb2 cb3
  refine (HRB.out (by first | exact rfl | trivial) _ (VX.out.gr (zz9)) (VY.out.gr (zz9)) (VS.out.gr (zz9))).mono ?_
  rintro e wz10 ⟨rfl, gz10⟩
  have ⟨Fp_z10, lp_z10⟩ := CellsAt.gl (Fp_z9) gz10
  have ⟨Fb_z10, lb_z10⟩ := CellsAt.gl (Fb_z9) gz10
  have zz10 := (zz9).trans gz10
  clear Fp_z9 Fb_z9 zz9 gz10
  go_wp2_with fail
  go_ret
  exact ⟨by first | rfl | (simp; done), zz10⟩
end
section
open Go.ChangeShapes Go.WideShapes Go.ChangeAt Go.RowKit
set_option linter.unusedVariables false
set_option maxRecDepth 100000
def inB (l a : Int) : Bool := decide (-l ≤ a ∧ a ≤ l)
theorem inB_true {l a : Int} (h0 : -l ≤ a) (h1 : a ≤ l) : inB l a = true := by simp [inB, h0, h1]
theorem inB_false {l a : Int} (h : a < -l ∨ l < a) : inB l a = false := by simp [inB]; omega
theorem inB_iff {l a : Int} : inB l a = true ↔ -l ≤ a ∧ a ≤ l := by simp [inB]
theorem re_c (x y : Int) (w : World) :
 Calls Tryz.prog 185 #[.agg #[.int .i64 x, .int .i64 y]] w fun e w' => e = .returned (.int .i64 x) ∧ w' = w.alloc (.cells #[.int .i64 x, .int .i64 y] 58) := by
 go_enter Tryz.func185, Tryz.ntmps185
 go_wp2
 go_ret
 exact ⟨rfl, rfl⟩
theorem im_c (x y : Int) (w : World) :
 Calls Tryz.prog 186 #[.agg #[.int .i64 x, .int .i64 y]] w fun e w' => e = .returned (.int .i64 y) ∧ w' = w.alloc (.cells #[.int .i64 x, .int .i64 y] 58) := by
 go_enter Tryz.func186, Tryz.ntmps186
 go_wp2
 go_ret
 exact ⟨rfl, rfl⟩
theorem re_g (x y : Int) (w : World) :
 Calls Tryz.prog 185 #[.agg #[.int .i64 x, .int .i64 y]] w fun e w' => e = .returned (.int .i64 x) ∧ Gr w w' :=
 (re_c x y w).mono fun e w' ⟨he, hw⟩ => ⟨he, by rw [hw]; exact (Gr.refl w).alloc _ _⟩
theorem im_g (x y : Int) (w : World) :
 Calls Tryz.prog 186 #[.agg #[.int .i64 x, .int .i64 y]] w fun e w' => e = .returned (.int .i64 y) ∧ Gr w w' :=
 (im_c x y w).mono fun e w' ⟨he, hw⟩ => ⟨he, by rw [hw]; exact (Gr.refl w).alloc _ _⟩
def Enters (k : Nat) : Prop := ∀ (args : Array Value) (w : World), (callFunc k args).run Tryz.prog w = .ok (.enter k args) w
theorem enters_of {k : Nat} {fn : Func} (hf : Tryz.prog.funcs[k]? = some fn) (hn : (fn.name == "runtime.NumGoroutine") = false) (hb : fn.body.isNone = false) : Enters k := by
 intro args w
 have h1 : fn.name ≠ "runtime.NumGoroutine" := by simpa using hn
 have h2 : fn.body ≠ none := by intro h; rw [h] at hb; cases hb
 simp [callFunc, hf, h1, h2]
def Tells (k : Nat) (cap : Array Value) (p : Nat) (v : Value) (w : World) : Prop :=
 ∀ W, Gr w W → Calls Tryz.prog k (#[.func (.func p) #[] #[]] ++ cap) W fun e w' => e = .returned v ∧ Gr W w'
theorem both_int (k : Nat) (cap : Array Value) (x y : Int) (w : World) (HE : Enters k)
 (HX : Hid (Tells k cap 185 (.int .i64 x) w)) (HY : Hid (Tells k cap 186 (.int .i64 y) w)) :
 Calls Tryz.prog 169 #[.func (.func k) #[] cap] w fun e w' => e = .returned (.tuple #[.int .i64 x, .int .i64 y]) ∧ Gr w w' := by
 unfold Enters at HE
 go_enter Tryz.func169, Tryz.ntmps169
 go_wp2_with fail
 refine (HX.out _ (Gr.refl _)).mono ?_
 rintro e w1 ⟨rfl, hg1⟩
 go_wp2_with fail
 refine (HY.out _ hg1).mono ?_
 rintro e w2 ⟨rfl, hg2⟩
 go_wp2
 go_ret2
 exact ⟨rfl, hg1.trans hg2⟩
theorem both_bool (k : Nat) (cap : Array Value) (x y : Bool) (w : World) (HE : Enters k)
 (HX : Hid (Tells k cap 185 (.bool x) w)) (HY : Hid (Tells k cap 186 (.bool y) w)) :
 Calls Tryz.prog 170 #[.func (.func k) #[] cap] w fun e w' => e = .returned (.tuple #[.bool x, .bool y]) ∧ Gr w w' := by
 unfold Enters at HE
 go_enter Tryz.func170, Tryz.ntmps170
 go_wp2_with fail
 refine (HX.out _ (Gr.refl _)).mono ?_
 rintro e w1 ⟨rfl, hg1⟩
 go_wp2_with fail
 refine (HY.out _ hg1).mono ?_
 rintro e w2 ⟨rfl, hg2⟩
 go_wp2
 go_ret2
 exact ⟨rfl, hg1.trans hg2⟩
theorem numberOf_c (k : Nat) (cap : Array Value) (x y : Int) (w : World) (HE : Enters k)
 (HX : Hid (Tells k cap 185 (.int .i64 x) w)) (HY : Hid (Tells k cap 186 (.int .i64 y) w)) :
 Calls Tryz.prog 135 #[.func (.func k) #[] cap] w fun e w' => e = .returned (.agg #[.int .i64 x, .int .i64 y]) ∧ Gr w w' := by
 have HB := Lib.hid fun (W : World) (g : Gr w W) => both_int k cap x y W HE (Lib.hid fun W1 g1 => HX.out W1 (g.trans g1)) (Lib.hid fun W1 g1 => HY.out W1 (g.trans g1))
 clear HX HY HE
 go_enter Tryz.func135, Tryz.ntmps135
 go_wp2_with fail
 refine (HB.out _ ((Gr.refl w).alloc _ _)).mono ?_
 rintro e w1 ⟨rfl, hg⟩
 have z : w.heap.size + 1 ≤ w1.heap.size := by have := hg.size; simpa using this
 have c0 : w1.cell? ⟨w.heap.size, 0, none⟩ = some (.int .i64 0) := (hg.cell (p := ⟨w.heap.size, 0, none⟩) (by simp)).trans (by go_simp)
 have c1 : w1.cell? ⟨w.heap.size, 1, none⟩ = some (.int .i64 0) := (hg.cell (p := ⟨w.heap.size, 1, none⟩) (by simp)).trans (by go_simp)
 have f0 : w1.frozen? ⟨w.heap.size, 0, none⟩ = false := (hg.frozen ⟨w.heap.size, 0, none⟩).trans (by go_simp)
 have f1 : w1.frozen? ⟨w.heap.size, 1, none⟩ = false := (hg.frozen ⟨w.heap.size, 1, none⟩).trans (by go_simp)
 go_wp2
 refine bodyPost_ret (v := .agg #[.int .i64 x, .int .i64 y]) ?_ rfl ⟨rfl, ?_⟩
 ·simp [results, Tryz.results135, go_sem, c0, c1]
 ·exact ((Gr.trans ((Gr.refl w).alloc _ _) hg).setCell (by simp) _).setCell (by simp) _
end
section
open Go.ChangeShapes Go.WideShapes Go.ChangeAt Go.RowKit
set_option linter.unusedVariables false
structure CxAt (w : World) (p : Nat) (x y : Int) : Prop where
 lt : p < w.heap.size
 c0 : w.cell? ⟨p, 0, none⟩ = some (.int .i64 x)
 c1 : w.cell? ⟨p, 1, none⟩ = some (.int .i64 y)
theorem CxAt.gr {w W : World} {p : Nat} {x y : Int} (h : CxAt w p x y) (g : Gr w W) : CxAt W p x y :=
 ⟨Nat.lt_of_lt_of_le h.lt g.size, (g.cell (p := ⟨p, 0, none⟩) h.lt).trans h.c0, (g.cell (p := ⟨p, 1, none⟩) h.lt).trans h.c1⟩
theorem sum1_re (p q : Nat) (x0 x1 y0 y1 r : Int) (w : World) (hp : CxAt w p x0 x1) (hq : CxAt w q y0 y1) (hw : IntKind.i64.wrap (x0 + y0) = r) :
 Calls Tryz.prog 173 #[.func (.func 185) #[] #[], .pointer (some ⟨p, 0, none⟩), .pointer (some ⟨q, 0, none⟩)] w fun e w' => e = .returned (.int .i64 r) ∧ Gr w w' := by
 obtain ⟨lp, c0, c1⟩ := hp
 obtain ⟨lq, d0, d1⟩ := hq
 go_enter Tryz.func173, Tryz.ntmps173
 go_wp2
 go_region_held3 (fun W => W.cell? ⟨p, 0, none⟩ = some (.int .i64 x0) ∧ W.cell? ⟨p, 1, none⟩ = some (.int .i64 x1) ∧ W.cell? ⟨q, 0, none⟩ = some (.int .i64 y0) ∧ W.cell? ⟨q, 1, none⟩ = some (.int .i64 y1) ∧ Gr w W)
  (first | (go_split_ands; refine ⟨?_, ?_, ?_, ?_, ?_⟩; (all_goals (first | (go_keep; done) | (repeat (first | exact Gr.refl _ | assumption | apply Gr.drew | apply Gr.alloc))))))
  (first | (go_at_call 185; refine (re_c _ _ _).mono ?_; rintro e w' ⟨rfl, rfl⟩))
 go_wp2
 go_ret
 exact ⟨by rw [← hw]; rfl, by repeat (first | exact Gr.refl _ | assumption | apply Gr.drew | apply Gr.alloc)⟩
theorem sum1_im (p q : Nat) (x0 x1 y0 y1 r : Int) (w : World) (hp : CxAt w p x0 x1) (hq : CxAt w q y0 y1) (hw : IntKind.i64.wrap (x1 + y1) = r) :
 Calls Tryz.prog 173 #[.func (.func 186) #[] #[], .pointer (some ⟨p, 0, none⟩), .pointer (some ⟨q, 0, none⟩)] w fun e w' => e = .returned (.int .i64 r) ∧ Gr w w' := by
 obtain ⟨lp, c0, c1⟩ := hp
 obtain ⟨lq, d0, d1⟩ := hq
 go_enter Tryz.func173, Tryz.ntmps173
 go_wp2
 go_region_held3 (fun W => W.cell? ⟨p, 0, none⟩ = some (.int .i64 x0) ∧ W.cell? ⟨p, 1, none⟩ = some (.int .i64 x1) ∧ W.cell? ⟨q, 0, none⟩ = some (.int .i64 y0) ∧ W.cell? ⟨q, 1, none⟩ = some (.int .i64 y1) ∧ Gr w W)
  (first | (go_split_ands; refine ⟨?_, ?_, ?_, ?_, ?_⟩; (all_goals (first | (go_keep; done) | (repeat (first | exact Gr.refl _ | assumption | apply Gr.drew | apply Gr.alloc))))))
  (first | (go_at_call 186; refine (im_c _ _ _).mono ?_; rintro e w' ⟨rfl, rfl⟩))
 go_wp2
 go_ret
 exact ⟨by rw [← hw]; rfl, by repeat (first | exact Gr.refl _ | assumption | apply Gr.drew | apply Gr.alloc)⟩
theorem shift1_re (p q m : Nat) (x0 x1 s mo : Int) (w : World) (hp : CxAt w p x0 x1) (hq : w.cell? ⟨q, 0, none⟩ = some (.int .i64 s)) (lq : q < w.heap.size) (hm : w.cell? ⟨m, 0, none⟩ = some (.int .i64 mo)) (lm : m < w.heap.size)
 (wx : -9223372036854775808 ≤ x0 ∧ x0 ≤ 9223372036854775807) (s0 : 0 ≤ s) (s1 : s ≤ 62) (m0 : 0 ≤ mo) (m1 : mo ≤ 2) :
 Calls Tryz.prog 136 #[.func (.func 185) #[] #[], .pointer (some ⟨p, 0, none⟩), .pointer (some ⟨q, 0, none⟩), .pointer (some ⟨m, 0, none⟩)] w fun e w' => e = .returned (.int .i64 (rnd x0 s.toNat mo)) ∧ Gr w w' := by
 have HS := Lib.hid (shift_ok x0 s mo wx s0 s1 m0 m1)
 generalize rnd x0 s.toNat mo = r at HS ⊢
 obtain ⟨lp, c0, c1⟩ := hp
 clear wx s0 s1 m0 m1
 go_enter Tryz.func136, Tryz.ntmps136
 go_wp2
 go_region_held3 (fun W => W.cell? ⟨p, 0, none⟩ = some (.int .i64 x0) ∧ W.cell? ⟨p, 1, none⟩ = some (.int .i64 x1) ∧ W.cell? ⟨q, 0, none⟩ = some (.int .i64 s) ∧ W.cell? ⟨m, 0, none⟩ = some (.int .i64 mo) ∧ Gr w W)
  (first | (go_split_ands; refine ⟨?_, ?_, ?_, ?_, ?_⟩; (all_goals (first | (go_keep; done) | (refine (Gr.cell (by assumption) ?_).trans ?_ <;> (first | assumption | (simp; done)) ; done) | (repeat (first | exact Gr.refl _ | assumption | apply Gr.drew | apply Gr.alloc | (refine Gr.trans ?_ (by assumption))))))))
  (first | (go_at_call 185; refine (re_c _ _ _).mono ?_; rintro e w' ⟨rfl, rfl⟩) | (go_at_call 82; go_split_ands; refine (HS.out _).mono ?_; rintro e w' ⟨rfl, hg⟩; have hgw : Gr w w' := Gr.trans (by assumption) hg))
 go_wp2
 go_ret
 exact ⟨rfl, by repeat (first | exact Gr.refl _ | assumption | apply Gr.drew | apply Gr.alloc)⟩
theorem shift1_im (p q m : Nat) (x0 x1 s mo : Int) (w : World) (hp : CxAt w p x0 x1) (hq : w.cell? ⟨q, 0, none⟩ = some (.int .i64 s)) (lq : q < w.heap.size) (hm : w.cell? ⟨m, 0, none⟩ = some (.int .i64 mo)) (lm : m < w.heap.size)
 (wx : -9223372036854775808 ≤ x1 ∧ x1 ≤ 9223372036854775807) (s0 : 0 ≤ s) (s1 : s ≤ 62) (m0 : 0 ≤ mo) (m1 : mo ≤ 2) :
 Calls Tryz.prog 136 #[.func (.func 186) #[] #[], .pointer (some ⟨p, 0, none⟩), .pointer (some ⟨q, 0, none⟩), .pointer (some ⟨m, 0, none⟩)] w fun e w' => e = .returned (.int .i64 (rnd x1 s.toNat mo)) ∧ Gr w w' := by
 have HS := Lib.hid (shift_ok x1 s mo wx s0 s1 m0 m1)
 generalize rnd x1 s.toNat mo = r at HS ⊢
 obtain ⟨lp, c0, c1⟩ := hp
 clear wx s0 s1 m0 m1
 go_enter Tryz.func136, Tryz.ntmps136
 go_wp2
 go_region_held3 (fun W => W.cell? ⟨p, 0, none⟩ = some (.int .i64 x0) ∧ W.cell? ⟨p, 1, none⟩ = some (.int .i64 x1) ∧ W.cell? ⟨q, 0, none⟩ = some (.int .i64 s) ∧ W.cell? ⟨m, 0, none⟩ = some (.int .i64 mo) ∧ Gr w W)
  (first | (go_split_ands; refine ⟨?_, ?_, ?_, ?_, ?_⟩; (all_goals (first | (go_keep; done) | (refine (Gr.cell (by assumption) ?_).trans ?_ <;> (first | assumption | (simp; done)) ; done) | (repeat (first | exact Gr.refl _ | assumption | apply Gr.drew | apply Gr.alloc | (refine Gr.trans ?_ (by assumption))))))))
  (first | (go_at_call 186; refine (im_c _ _ _).mono ?_; rintro e w' ⟨rfl, rfl⟩) | (go_at_call 82; go_split_ands; refine (HS.out _).mono ?_; rintro e w' ⟨rfl, hg⟩; have hgw : Gr w w' := Gr.trans (by assumption) hg))
 go_wp2
 go_ret
 exact ⟨rfl, by repeat (first | exact Gr.refl _ | assumption | apply Gr.drew | apply Gr.alloc)⟩
end
section
set_option linter.unusedVariables false
set_option maxRecDepth 100000
def absI (n : Int) : Int := if n < 0 then -n else n
theorem absI_nonneg (n : Int) : 0 ≤ absI n := by unfold absI; split <;> omega
theorem absI_le {n l : Int} : absI n ≤ l ↔ -l ≤ n ∧ n ≤ l := by unfold absI; split <;> omega
theorem absI_bd (n : Int) : -(absI n) ≤ n ∧ n ≤ absI n := by unfold absI; split <;> omega
def mx (m : Int) (a : Gi) : Int := max (max m (absI a.re)) (absI a.im)
def maxG (xs : List Gi) : Int := xs.foldl mx 0
theorem maxG_snoc (xs : List Gi) (a : Gi) : maxG (xs ++ [a]) = mx (maxG xs) a := by unfold maxG; rw [List.foldl_append]; rfl
theorem maxG_nonneg (xs : List Gi) : 0 ≤ maxG xs := by
 have h : ∀ (ys : List Gi) (m : Int), 0 ≤ m → 0 ≤ ys.foldl mx m := by
  intro ys
  induction ys with
  | nil => exact fun m h => h
  | cons a ys ih => exact fun m h => ih _ (by unfold mx; omega)
 exact h xs 0 (Int.le_refl 0)
theorem maxG_le (xs : List Gi) (l : Int) (hl : 0 ≤ l) (h : ∀ a ∈ xs, absI a.re ≤ l ∧ absI a.im ≤ l) : maxG xs ≤ l := by
 have g : ∀ (ys : List Gi) (m : Int), m ≤ l → (∀ a ∈ ys, absI a.re ≤ l ∧ absI a.im ≤ l) → ys.foldl mx m ≤ l := by
  intro ys
  induction ys with
  | nil => exact fun m h _ => h
  | cons a ys ih =>
    intro m hm hy
    have ha := hy a (List.mem_cons_self ..)
    exact ih _ (by unfold mx; omega) (fun b hb => hy b (List.mem_cons_of_mem _ hb))
 exact g xs 0 hl h
theorem maxG_ge (xs : List Gi) : ∀ a ∈ xs, absI a.re ≤ maxG xs ∧ absI a.im ≤ maxG xs := by
 have g : ∀ (ys : List Gi) (m : Int), m ≤ ys.foldl mx m ∧ ∀ a ∈ ys, absI a.re ≤ ys.foldl mx m ∧ absI a.im ≤ ys.foldl mx m := by
  intro ys
  induction ys with
  | nil => exact fun m => ⟨Int.le_refl _, fun a ha => by cases ha⟩
  | cons a ys ih =>
    intro m
    obtain ⟨h1, h2⟩ := ih (mx m a)
    have h3 : m ≤ mx m a ∧ absI a.re ≤ mx m a ∧ absI a.im ≤ mx m a := by unfold mx; omega
    refine ⟨by show m ≤ ys.foldl mx (mx m a); omega, fun b hb => ?_⟩
    show absI b.re ≤ ys.foldl mx (mx m a) ∧ absI b.im ≤ ys.foldl mx (mx m a)
    rcases List.mem_cons.1 hb with rfl | hb
    ·omega
    ·exact h2 b hb
 exact (g xs 0).2
def allIn (l : Int) (xs : List Gi) : Bool := xs.all (fun a => inB l a.re && inB l a.im)
theorem allIn_iff (l : Int) (xs : List Gi) : allIn l xs = true ↔ ∀ a ∈ xs, absI a.re ≤ l ∧ absI a.im ≤ l := by
 unfold allIn
 rw [List.all_eq_true]
 constructor
 ·intro h a ha
  have := h a ha
  simp only [Bool.and_eq_true, inB_iff] at this
  exact ⟨absI_le.2 this.1, absI_le.2 this.2⟩
 ·intro h a ha
  have := h a ha
  simp only [Bool.and_eq_true, inB_iff]
  exact ⟨absI_le.1 this.1, absI_le.1 this.2⟩
theorem allIn_snoc {l : Int} {xs : List Gi} {k : Nat} {a : Gi} (hk : xs[k]? = some a) (h1 : allIn l (xs.take k) = true) (h : (inB l a.re && inB l a.im) = true) : allIn l (xs.take (k + 1)) = true := by
 rw [List.take_add_one, hk]
 unfold allIn at h1 ⊢
 rw [List.all_append, h1]
 simpa using h
theorem pow_le31 (n : Nat) (h : n ≤ 31) : (2 : Int) ^ n ≤ 2147483648 := by
 have h1 : (2 : Nat) ^ n ≤ 2 ^ 31 := Nat.pow_le_pow_right (by decide) h
 have h2 : ((2 ^ n : Nat) : Int) ≤ ((2 ^ 31 : Nat) : Int) := Int.ofNat_le.2 h1
 rw [Int.natCast_pow] at h2
 simpa using h2
def roomTo (p m : Int) : Nat → Nat
 | 0 => 0
 | k + 1 => if 0 < m ∧ m * 2 ^ (k + 1) ≤ p / 2 then k + 1 else roomTo p m k
def room (p m : Int) : Nat := roomTo p m 31
theorem roomTo_succ (p m : Int) (k : Nat) : roomTo p m (k + 1) = if 0 < m ∧ m * 2 ^ (k + 1) ≤ p / 2 then k + 1 else roomTo p m k := rfl
theorem roomTo_le (p m : Int) (k : Nat) : roomTo p m k ≤ k := by
 induction k with
 | zero => exact Nat.le_refl _
 | succ k ih => rw [roomTo]; split <;> omega
theorem roomTo_fits (p m : Int) (k : Nat) (h : 0 < roomTo p m k) : 0 < m ∧ m * 2 ^ roomTo p m k ≤ p / 2 := by
 induction k with
 | zero => exact absurd h (Nat.lt_irrefl _)
 | succ k ih =>
   rw [roomTo] at h ⊢
   split
   ·assumption
   ·rename_i hn
    rw [if_neg hn] at h
    exact ih h
theorem roomTo_great (p m : Int) (k j : Nat) (hj : roomTo p m k < j) (hk : j ≤ k) (hm : 0 < m) : p / 2 < m * 2 ^ j := by
 induction k with
 | zero => omega
 | succ k ih =>
   rw [roomTo] at hj
   split at hj
   ·omega
   ·rename_i hn
    by_cases e : j = k + 1
    ·subst e
     exact Int.not_le.1 (fun h => hn ⟨hm, h⟩)
    ·exact ih hj (by omega)
theorem room_unique (p m : Int) (s : Nat) (hp : p < 4294967296) (hs : s ≤ 31) (h1 : 0 < s → 0 < m ∧ m * 2 ^ s ≤ p / 2) (h2 : 0 < m → p / 2 < m * 2 ^ (s + 1)) : s = room p m := by
 have a1 := roomTo_le p m 31
 have a2 := roomTo_fits p m 31
 unfold room
 rcases Nat.lt_trichotomy s (roomTo p m 31) with h | h | h
 ·obtain ⟨hm, b⟩ := a2 (by omega)
  have c := h2 hm
  have d : m * 2 ^ (s + 1) ≤ m * 2 ^ roomTo p m 31 := Int.mul_le_mul_of_nonneg_left (by exact_mod_cast Nat.pow_le_pow_right (n := 2) (by omega) (show s + 1 ≤ roomTo p m 31 by omega)) (by omega)
  omega
 ·exact h
 ·obtain ⟨hm, b⟩ := h1 (by omega)
  have c := roomTo_great p m 31 s h hs hm
  omega
theorem room_fits (p m : Int) (h : 0 < room p m) : 0 < m ∧ m * 2 ^ room p m ≤ p / 2 := roomTo_fits p m 31 h
theorem room_le (p m : Int) : room p m ≤ 31 := roomTo_le p m 31
def shG (s mo : Int) (a : Gi) : Gi := if 0 ≤ s then ⟨rnd a.re s.toNat mo, rnd a.im s.toNat mo⟩ else ⟨a.re * 2 ^ (-s).toNat, a.im * 2 ^ (-s).toNat⟩
theorem shG_back (s mo : Int) (hs : 0 ≤ s) (hm : mo = 0 ∨ mo = 1 ∨ mo = 2) (a : Gi) : shG s mo (shG (-s) mo a) = a := by
 unfold shG
 by_cases h0 : s = 0
 ·subst h0
  have h1 := rnd_mul a.re 0 mo hm
  have h2 := rnd_mul a.im 0 mo hm
  simp only [Int.pow_zero, Int.mul_one] at h1 h2
  simp [h1, h2]
 ·rw [if_pos hs, if_neg (by omega), Int.neg_neg, rnd_mul _ _ _ hm, rnd_mul _ _ _ hm]
end
section
set_option linter.unusedVariables false
def gmul (b w : Gi) : Gi := ⟨b.re * w.re - b.im * w.im, b.re * w.im + b.im * w.re⟩
theorem mulG_bd (x y k l : Int) (hk : 0 ≤ k) (hx : -k ≤ x ∧ x ≤ k) (hy : -l ≤ y ∧ y ≤ l) : -(k * l) ≤ x * y ∧ x * y ≤ k * l := by
 have hl : 0 ≤ l := by omega
 have h1 : (x * y).natAbs ≤ (k * l).natAbs := by
  rw [Int.natAbs_mul, Int.natAbs_mul]
  exact Nat.mul_le_mul (by omega) (by omega)
 have h2 : 0 ≤ k * l := Int.mul_nonneg hk hl
 omega
theorem gmul_bd (b w : Gi) (k l : Int) (hk : 0 ≤ k) (hb : absI b.re ≤ k ∧ absI b.im ≤ k) (hw : absI w.re ≤ l ∧ absI w.im ≤ l) :
 absI (gmul b w).re ≤ 2 * (k * l) ∧ absI (gmul b w).im ≤ 2 * (k * l) := by
 have b1 := absI_le.1 hb.1
 have b2 := absI_le.1 hb.2
 have w1 := absI_le.1 hw.1
 have w2 := absI_le.1 hw.2
 have m1 := mulG_bd b.re w.re k l hk b1 w1
 have m2 := mulG_bd b.im w.im k l hk b2 w2
 have m3 := mulG_bd b.re w.im k l hk b1 w2
 have m4 := mulG_bd b.im w.re k l hk b2 w1
 unfold gmul
 generalize b.re * w.re = p1 at *
 generalize b.im * w.im = p2 at *
 generalize b.re * w.im = p3 at *
 generalize b.im * w.re = p4 at *
 generalize k * l = q at *
 exact ⟨absI_le.2 (by simp only; omega), absI_le.2 (by simp only; omega)⟩
def rootOf (ws : List Gi) (inv : Bool) (k : Nat) : Gi := if inv then (ws.getD k ⟨0, 0⟩).conj else ws.getD k ⟨0, 0⟩
end
end Go.Proofs.YtcgeabpibkejpaaGreat
