import Derived.Deep.Cut
import Derived.Deep.CutRange
import Derived.Test.YtdignnmpfkgkoaaGreatRealBinsS14
import Derived.Test.YtdignnmpfkgkoaaGreatRealBinsS29
namespace Go.Proofs.YtdignnmpfkgkoaaGreat
section
open Go.ChangeShapes Go.WideShapes Go.ChangeAt Go.RowKit
set_option linter.unusedVariables false
set_option maxRecDepth 100000
set_option maxHeartbeats 16000000
theorem sShifted_down (x y s mo : Int) (wx : -9223372036854775808 ≤ x ∧ x ≤ 9223372036854775807) (wy : -9223372036854775808 ≤ y ∧ y ≤ 9223372036854775807) (s0 : 0 ≤ s) (s1 : s ≤ 62) (m0 : 0 ≤ mo) (m1 : mo ≤ 2) (w : World) :
 CW 150 #[.agg #[x, y], s, mo] w (.tuple #[.agg #[(rnd x s.toNat mo), (rnd y s.toNat mo)], .int .i64 0]) :=by
 delta CW
 have HS := kh (cxshift_ok x y s mo wx wy s0 s1 m0 m1)
 generalize rnd x s.toNat mo = r0 at *
 generalize rnd y s.toNat mo = r1 at *
 clear wx wy m0 m1 s1
 go_in
 go_wp2_with fail
 have R0 := CellsAt.new (w.alloc (.cells #[x, y] 50)) 50 #[.int .i64 0, .int .i64 0]
 have gw0 := ((Gr.refl w).alloc #[x, y] 50).alloc #[.int .i64 0, .int .i64 0] 50
 rw [World.size_alloc] at R0
 refine (HS.out _).mono ?_
 rintro e w2 ⟨rfl, hg⟩
 have R1 := R0.gr hg
 have gw := gw0.trans hg
 have hsz := gw.size
 have c0 := R1.cell 0
 have c1 := R1.cell 1
 obtain ⟨f0, f1⟩ := R1.f2
 have hlt := R1.lt
 simp only [getS] at c0 c1
 clear R0 gw0 hg
 go_wp2_with fail
 refine bodyPost_ret (v := .tuple #[.agg #[r0, r1], .int .i64 0]) ?_ rfl ⟨rfl, ?_⟩
 ·simp [results, Tryz.results150, go_sem, c0, c1]
 ·exact (gw.setCell (a := ⟨w.heap.size + 1, 0, none⟩) (by simp) _).setCell (a := ⟨w.heap.size + 1, 1, none⟩) (by simp) _
theorem sShifted_up (x y s mo r0 r1 : Int) (s0 : 0 < s) (s1 : s ≤ 62) (hx : inB (2 ^ (62 - s).toNat) x = true) (hy : inB (2 ^ (62 - s).toNat) y = true) (h0 : x * 2 ^ s.toNat = r0) (h1 : y * 2 ^ s.toNat = r1) (w : World) :
 CW 150 #[.agg #[x, y], .int .i64 (-s), mo] w (.tuple #[.agg #[r0, r1], .int .i64 0]) :=by
 delta CW
 have HX := kh (up_ok x s (by omega) s1 (inB_iff.1 hx).1 (inB_iff.1 hx).2)
 have HY := kh (up_ok y s (by omega) s1 (inB_iff.1 hy).1 (inB_iff.1 hy).2)
 rw [h0] at HX
 rw [h1] at HY
 clear hx hy h0 h1
 go_in
 go_wp2_with (first | (go_at_call 176; ((with_reducible refine (HX.out _).mono ?_); rintro e w' ⟨rfl, rfl⟩)) | (go_at_call 176; ((with_reducible refine (HY.out _).mono ?_); rintro e w' ⟨rfl, rfl⟩)))
 refine bodyPost_ret (v := .tuple #[.agg #[r0, r1], .int .i64 0]) ?_ rfl ⟨rfl, ?_⟩
 ·simp [results, Tryz.results150, go_sem]
 ·exact ((Gr.refl w).alloc _ _).alloc _ _
theorem shifted_one (x : Gi) (s mo : Int) (s0 : -62 ≤ s) (s1 : s ≤ 62) (m0 : 0 ≤ mo) (m1 : mo ≤ 2) (hb : (Lit.int .i64 x.re).wf = true ∧ (Lit.int .i64 x.im).wf = true)
 (h : s < 0 → (inB (2 ^ (62 + s).toNat) x.re && inB (2 ^ (62 + s).toNat) x.im) = true) (w : World) :
 CW 150 #[.agg #[x.re, x.im], s, mo] w (.tuple #[.agg #[(shG s mo x).re, (shG s mo x).im], .int .i64 0]) :=by
 delta CW
 unfold shG
 by_cases hs : 0 ≤ s
 ·rw [if_pos hs]
  exact sShifted_down x.re x.im s mo (bounds_i64 hb.1) (bounds_i64 hb.2) hs s1 m0 m1 w
 ·rw [if_neg hs]
  have hh := h (by omega);rw [Bool.and_eq_true] at hh
  have := sShifted_up x.re x.im (-s) mo _ _ (by omega) (by omega) (by rw [show 62 - -s = 62 + s by omega]; exact hh.1) (by rw [show 62 - -s = 62 + s by omega]; exact hh.2) rfl rfl w
  rwa [Int.neg_neg] at this
set_option maxRecDepth 10000 in set_option maxHeartbeats 4000000 in
theorem scanShifted_ok (v : Value) (xs : List Gi) (s mo : Int) (s0 : -62 ≤ s) (s1 : s ≤ 62) (m0 : 0 ≤ mo) (m1 : mo ≤ 2) (hb : ∀ a ∈ xs, (Lit.int .i64 a.re).wf = true ∧ (Lit.int .i64 a.im).wf = true)
 (hu : s < 0 → allIn (2 ^ (62 + s).toNat) xs = true) (hl : xs.length ≤ 1048576) (w : World) (hv : CxsAt w v xs) :
 Calls Tryz.prog 107 #[v, s, mo] w fun e w' => ∃ v', e = .returned (.tuple #[v', .int .i64 0]) ∧ CxsAt w' v' (xs.map (shG s mo)) ∧ Gr w w' := by
 have HM := kh (sMode_yes mo m0 m1)
 have hs62 : s ≤ 62 := by omega
 have hmk := run_make_cx xs.length hl
 by_cases hx : xs = []
 ·subst hx
  obtain ⟨p, cap, rfl⟩ := hv.len;rw [show ([] : List Gi).length = 0 from rfl];clear hmk
  have hmk : ∀ W : World, (Instr.makeSlice 25 (.int .i64 0) (.int .i64 0)).run Tryz.prog W = .ok (.slice (some ⟨W.heap.size, 0, none⟩) 0 0) (W.alloc (.cells (madeCells #[.int .i64 0, .int .i64 0] (0 * 2)) 50)) := run_make_cx 0 (by omega)
  clear hv hb hu hl m0 m1;go_in
  go_wp2_with (go_at_call 149; ((with_reducible refine (HM.out _).mono ?_); rintro e wz ⟨rfl, hgz⟩))
  refine wp_loop_rounds 1 ?_;rw [rounds_succ];go_wp2_with fail
  go_ret2
  exact ⟨_, rfl, ⟨_, 0, rfl, Nat.le_refl _, Nat.zero_le _, fun h => absurd rfl h⟩, hgz.alloc _ _⟩
 ·obtain ⟨b, o, cap, rfl, hlen, hbb, hc⟩ := hv.at hx
  have HC := kh hc;have HG := kh fun (x : Gi) (hi : x ∈ xs) => shifted_one x s mo s0 s1 m0 m1 (hb x hi) (fun h => by
   have := (allIn_iff _ _).1 (hu h) x hi
   simp only [Bool.and_eq_true, inB_iff]
   exact ⟨absI_le.1 this.1, absI_le.1 this.2⟩)
  clear hu;clear hc hv hx hb m0 m1;go_in
  go_wp2_with (go_at_call 149; ((with_reducible refine (HM.out _).mono ?_); rintro e wz ⟨rfl, hgz⟩))
  have M0 := CellsAt.new wz 50 (madeCells #[.int .i64 0, .int .i64 0] (xs.length * 2));have M1 := size_madeCells #[.int .i64 0, .int .i64 0] (xs.length * 2);have hzs := hgz.size
  go_loopw [9, 10, 11, 12, 29] (fun _ _ _ _ i wr => ∃ k : Nat, ∃ c : Array Value, k ≤ xs.length ∧ i = .int .i64 k ∧ CellsAt wr wz.heap.size 50 c ∧ c.size = xs.length * 2 ∧ (∀ j x, j < k → xs[j]? = some x → c[j * 2]? = some (.int .i64 (shG s mo x).re) ∧ c[j * 2 + 1]? = some (.int .i64 (shG s mo x).im)) ∧ Gr w wr) (fun _ _ _ _ i _ => xs.length - (intOf i).toNat)
  case atStart => exact ⟨0, _, by omega, rfl, M0, M1, fun j x hj => absurd hj (Nat.not_lt_zero _), hgz.alloc _ _⟩
  case round =>
   clear M0 M1 hmk HM;obtain ⟨k, c, hk, rfl, hC, hsz, hj, hg⟩ := hrel
   by_cases hlt : k < xs.length
   ·obtain ⟨x, hx⟩ := get_of_lt hlt
    have h1 := (hg.cell (p := ⟨b, o + k * 2, none⟩) hbb).trans (HC.out k x hx).1;have h2 := (hg.cell (p := ⟨b, o + k * 2 + 1, none⟩) hbb).trans (HC.out k x hx).2
    have hbl : b < wr.heap.size := Nat.lt_of_lt_of_le hbb hg.size
    have HS := kh hsz;have HJ := kh hj;have HXK := kh hx;have HG2 := kh (HG.out x (List.mem_of_getElem? hx));clear hx hsz hj HC HG;generalize hgg : shG s mo x = g at *;have HGG := kh hgg;clear hgg;obtain ⟨re, im⟩ := x;obtain ⟨r0, r1⟩ := g
    simp only at h1 h2 HG2
    go_wp2_with fail;refine (HG2.out _).mono ?_;rintro e w2 ⟨rfl, hg2⟩;have hC2 := (hC.alloc (.cells #[re, im] 50)).gr hg2;have hg3 := (hg.alloc #[re, im] 50).trans hg2;have f2 := hC2.frozen (k * 2);have f3 := hC2.frozen (k * 2 + 1);have q2 := hC2.cell (k * 2);have q3 := hC2.cell (k * 2 + 1);rw [Array.getElem?_eq_getElem (show k * 2 < c.size by rw [HS.out]; omega)] at q2;rw [Array.getElem?_eq_getElem (show k * 2 + 1 < c.size by rw [HS.out]; omega)] at q3;have hBl := hC2.lt;clear hC hg2 hg HG2;go_wp2_with fail;have hC3 := ((hC2.set (k * 2) (.int .i64 r0)).set (k * 2 + 1) (.int .i64 r1)).alloc (.cells #[r0, r1] 50);have hg4 := ((hg3.setCell (a := ⟨wz.heap.size, k * 2, none⟩) hzs (.int .i64 r0)).setCell (a := ⟨wz.heap.size, k * 2 + 1, none⟩) hzs (.int .i64 r1)).alloc #[r0, r1] 50
    go_roundw
    case rel =>
     refine ⟨k + 1, _, by omega, by go_num, hC3, by simpa using HS.out, fun j y hj hy => ?_, hg4⟩
     by_cases e : j = k
     ·subst e
      rw [HXK.out] at hy
      obtain rfl := Option.some.inj hy
      rw [HGG.out]
      constructor
      ·rw [Array.getElem?_setIfInBounds, if_neg (by omega), Array.getElem?_setIfInBounds, if_pos rfl, if_pos (by rw [HS.out]; omega)]
      ·rw [Array.getElem?_setIfInBounds, if_pos rfl, if_pos (by simp only [Array.size_setIfInBounds]; rw [HS.out]; omega)]
     ·have := HJ.out j y (by omega) hy
      constructor
      ·rw [Array.getElem?_setIfInBounds, if_neg (by omega), Array.getElem?_setIfInBounds, if_neg (by omega)]
       exact this.1
      ·rw [Array.getElem?_setIfInBounds, if_neg (by omega), Array.getElem?_setIfInBounds, if_neg (by omega)]
       exact this.2
    case measure => simp [intOf] <;> omega
   ·have he : k = xs.length := by omega
    have HE := kh he;clear he;go_wp2_with fail
    go_ret2
    refine ⟨.slice (some ⟨wz.heap.size, 0, none⟩) xs.length xs.length, rfl, ⟨some ⟨wz.heap.size, 0, none⟩, xs.length, by rw [List.length_map], by rw [List.length_map]; omega, by unfold maxLen; omega, fun _ => ⟨wz.heap.size, 0, rfl, hC.lt, fun j x hx => ?_⟩⟩, hg⟩;rw [List.getElem?_map] at hx;obtain ⟨x', hx', rfl⟩ := Option.map_eq_some_iff.1 hx;have hjl := (List.getElem?_eq_some_iff.1 hx').1
    have := hj j x' (by rw [HE.out]; exact hjl) hx'
    rw [hC.cell, hC.cell, Nat.zero_add]
    exact this
theorem tPair_of (ax ay bx by0 wx wy b s mo P n p0 p1 q0 q1 t0 t1 d0 d1 r0 r1 z0 z1 : Int) (hP : IntKind.i64.wrap (2 ^ min b.toNat 64) = P) (hb0 : 0 ≤ b)
 (HD : CR 204 #[.agg #[b, s, mo]] (.int .i64 n))
 (HM : CR 128 #[.agg #[ax, ay], .agg #[P, .int .i64 0]] (.tuple #[.agg #[p0, p1], .int .i64 0]))
 (HT : CR 128 #[.agg #[bx, by0], .agg #[wx, wy]] (.tuple #[.agg #[q0, q1], .int .i64 0]))
 (HU : CR 126 #[.agg #[p0, p1], .agg #[q0, q1]] (.tuple #[.agg #[t0, t1], .int .i64 0]))
 (HL : CR 127 #[.agg #[p0, p1], .agg #[q0, q1]] (.tuple #[.agg #[d0, d1], .int .i64 0]))
 (HF : CR 129 #[.agg #[t0, t1], n, mo] (.tuple #[.agg #[r0, r1], .int .i64 0]))
 (HG : CR 129 #[.agg #[d0, d1], n, mo] (.tuple #[.agg #[z0, z1], .int .i64 0])) (w : World) :
 CW 184 #[.agg #[b, s, mo], .agg #[ax, ay], .agg #[bx, by0], .agg #[wx, wy]] w (.tuple #[.agg #[r0, r1], .agg #[z0, z1]]) :=by
 delta CW
 go_in
 go_wp2_with fail
 obtain ⟨u0, hU⟩ : ∃ u, u = ((((((w.alloc (.cells #[b, s, mo] 201)).alloc (.cells #[ax, ay] 50)).alloc (.cells #[bx, by0] 50)).alloc (.cells #[wx, wy] 50)).alloc (.cells #[.int .i64 0, .int .i64 0] 50)).alloc (.cells #[.int .i64 0, .int .i64 0] 50)) := ⟨_, rfl⟩
 have gu : Gr w u0 := by rw [hU]; exact ((((((Gr.refl w).alloc _ _).alloc _ _).alloc _ _).alloc _ _).alloc _ _).alloc _ _
 have zu : w.heap.size + 1 + 1 + 1 + 1 + 1 < u0.heap.size := by rw [hU]; simp
 have R0 : CellsAt u0 (w.heap.size) 201 #[b, s, mo] := by
  rw [hU]
  have := ((((((CellsAt.new w 201 #[b, s, mo]).alloc (.cells #[ax, ay] 50)).alloc (.cells #[bx, by0] 50)).alloc (.cells #[wx, wy] 50)).alloc (.cells #[.int .i64 0, .int .i64 0] 50)).alloc (.cells #[.int .i64 0, .int .i64 0] 50))
  simpa only [World.size_alloc] using this
 have R1 : CellsAt u0 (w.heap.size + 1) 50 #[ax, ay] := by
  rw [hU]
  have := (((((CellsAt.new (w.alloc (.cells #[b, s, mo] 201)) 50 #[ax, ay]).alloc (.cells #[bx, by0] 50)).alloc (.cells #[wx, wy] 50)).alloc (.cells #[.int .i64 0, .int .i64 0] 50)).alloc (.cells #[.int .i64 0, .int .i64 0] 50))
  simpa only [World.size_alloc] using this
 have R2 : CellsAt u0 (w.heap.size + 1 + 1) 50 #[bx, by0] := by
  rw [hU]
  have := ((((CellsAt.new ((w.alloc (.cells #[b, s, mo] 201)).alloc (.cells #[ax, ay] 50)) 50 #[bx, by0]).alloc (.cells #[wx, wy] 50)).alloc (.cells #[.int .i64 0, .int .i64 0] 50)).alloc (.cells #[.int .i64 0, .int .i64 0] 50))
  simpa only [World.size_alloc] using this
 have R3 : CellsAt u0 (w.heap.size + 1 + 1 + 1) 50 #[wx, wy] := by
  rw [hU]
  have := (((CellsAt.new (((w.alloc (.cells #[b, s, mo] 201)).alloc (.cells #[ax, ay] 50)).alloc (.cells #[bx, by0] 50)) 50 #[wx, wy]).alloc (.cells #[.int .i64 0, .int .i64 0] 50)).alloc (.cells #[.int .i64 0, .int .i64 0] 50))
  simpa only [World.size_alloc] using this
 have R4 : CellsAt u0 (w.heap.size + 1 + 1 + 1 + 1) 50 #[.int .i64 0, .int .i64 0] := by
  rw [hU]
  have := ((CellsAt.new ((((w.alloc (.cells #[b, s, mo] 201)).alloc (.cells #[ax, ay] 50)).alloc (.cells #[bx, by0] 50)).alloc (.cells #[wx, wy] 50)) 50 #[.int .i64 0, .int .i64 0]).alloc (.cells #[.int .i64 0, .int .i64 0] 50))
  simpa only [World.size_alloc] using this
 have R5 : CellsAt u0 (w.heap.size + 1 + 1 + 1 + 1 + 1) 50 #[.int .i64 0, .int .i64 0] := by
  rw [hU]
  have := (CellsAt.new (((((w.alloc (.cells #[b, s, mo] 201)).alloc (.cells #[ax, ay] 50)).alloc (.cells #[bx, by0] 50)).alloc (.cells #[wx, wy] 50)).alloc (.cells #[.int .i64 0, .int .i64 0] 50)) 50 #[.int .i64 0, .int .i64 0])
  simpa only [World.size_alloc] using this
 rw [← hU]
 clear hU
 have zz0 : w.heap.size < u0.heap.size := by omega
 have zz1 : w.heap.size + 1 < u0.heap.size := by omega
 have zz2 : w.heap.size + 1 + 1 < u0.heap.size := by omega
 have zz3 : w.heap.size + 1 + 1 + 1 < u0.heap.size := by omega
 have zz4 : w.heap.size + 1 + 1 + 1 + 1 < u0.heap.size := by omega
 have zz5 : w.heap.size + 1 + 1 + 1 + 1 + 1 < u0.heap.size := by omega
 obtain ⟨e0, e1, e2⟩ := R0.t3
 obtain ⟨e3, e4⟩ := R1.t2
 have KS : ∀ W, Gr u0 W → (W.cell? ⟨w.heap.size, 0, none⟩ = some (.int .i64 b) ∧ W.cell? ⟨w.heap.size + 1, 0, none⟩ = some (.int .i64 ax) ∧ W.cell? ⟨w.heap.size + 1, 1, none⟩ = some (.int .i64 ay) ∧ Gr u0 W) := fun W hG => ⟨(hG.cell (p := ⟨w.heap.size, 0, none⟩) zz0).trans e0, (hG.cell (p := ⟨w.heap.size + 1, 0, none⟩) zz1).trans e3, (hG.cell (p := ⟨w.heap.size + 1, 1, none⟩) zz1).trans e4, hG⟩
 have H0 := kh R0
 have H1 := kh R1
 have H2 := kh R2
 have H3 := kh R3
 have H4 := kh R4
 have H5 := kh R5
 clear R0 R1 R2 R3 R4 R5
 go_cut [10] from 11 to 26 (fun pv wx1 => ∃ B : Nat, pv = .pointer (some ⟨B, 0, none⟩) ∧ u0.heap.size ≤ B ∧ CellsAt wx1 B 50 #[p0, p1] ∧ Gr u0 wx1)
 case first =>
  go_region_held3 (fun W => W.cell? ⟨w.heap.size, 0, none⟩ = some (.int .i64 b) ∧ W.cell? ⟨w.heap.size + 1, 0, none⟩ = some (.int .i64 ax) ∧ W.cell? ⟨w.heap.size + 1, 1, none⟩ = some (.int .i64 ay) ∧ Gr u0 W)
   (first | ((try go_split_ands); refine KS _ ?_; (first | assumption | exact Gr.refl _ | exact Gr.drew (Gr.refl _) | exact Gr.drew (by assumption) | exact Gr.alloc (by assumption) _ _ | exact Gr.alloc (Gr.refl _) _ _ | exact Gr.alloc (Gr.drew (Gr.refl _)) _ _ | exact Gr.drew (Gr.alloc (Gr.refl _) _ _) | exact Gr.drew (Gr.alloc (by assumption) _ _) | (exact Gr.setCell (Gr.setCell (by assumption) (by exact Gr.size (by assumption)) _) (by exact Gr.size (by assumption)) _) | (exact Gr.setCell (Gr.setCell (by assumption) (by exact Nat.le_refl _) _) (by exact Nat.le_refl _) _) | (exact Gr.setCell (Gr.setCell (Gr.alloc (by assumption) _ _) (by exact Gr.size (by assumption)) _) (by exact Gr.size (by assumption)) _))))
   (first | (go_at_call 128; go_split_ands; ((with_reducible refine (HM.out _).mono ?_); rintro e w' ⟨rfl, hg⟩; have hgw : Gr u0 w' := Gr.trans (by first | assumption | exact Gr.refl _ | exact Gr.drew (Gr.refl _) | exact Gr.drew (by assumption) | exact Gr.alloc (by assumption) _ _ | exact Gr.alloc (Gr.refl _) _ _ | exact Gr.alloc (Gr.drew (Gr.refl _)) _ _ | exact Gr.drew (Gr.alloc (Gr.refl _) _ _) | exact Gr.drew (Gr.alloc (by assumption) _ _)) hg; (first | (have hbk := CxBlock.gr (CxBlock.new _ _ _) hg; obtain ⟨x, y, r2⟩ := hbk.out; have c0 := r2.cell 0; have c1 := r2.cell 1; have f0 := r2.frozen 0; have f1 := r2.frozen 1; simp only [getS] at c0 c1) | (have hbk := CxBlock.gr (CxBlock.drew (CxBlock.new _ _ _)) hg; obtain ⟨x, y, r2⟩ := hbk.out; have c0 := r2.cell 0; have c1 := r2.cell 1; have f0 := r2.frozen 0; have f1 := r2.frozen 1; simp only [getS] at c0 c1) | (have hbk := CxBlock.gr ‹CxBlock _ _› hg; obtain ⟨x, y, r2⟩ := hbk.out; have c0 := r2.cell 0; have c1 := r2.cell 1; have f0 := r2.frozen 0; have f1 := r2.frozen 1; simp only [getS] at c0 c1) | (have hbk := CxBlock.gr (CxBlock.drew ‹CxBlock _ _›) hg; obtain ⟨x, y, r2⟩ := hbk.out; have c0 := r2.cell 0; have c1 := r2.cell 1; have f0 := r2.frozen 0; have f1 := r2.frozen 1; simp only [getS] at c0 c1) | skip))))
  all_goals
   go_wp2_with fail
   go_meet
   case rel =>
    refine ⟨_, rfl, ?_, ?_, ?_⟩
    ·first | exact Nat.le_refl _ | exact Gr.size (by assumption)
    ·first | exact CellsAt.new _ _ _ | exact (CellsAt.set (CellsAt.set (by assumption) 0 _) 1 _) | exact (CellsAt.set (CellsAt.set (CellsAt.new _ _ _) 0 _) 1 _)
    ·(try go_split_ands); assumption
 case rest =>
  obtain ⟨B, rfl, hB, hC, hG⟩ := hcut;clear KS e0 e1 e2 e3 e4 HM hP;have c2 := (H2.out.gr hG).cell 0;have c3 := (H2.out.gr hG).cell 1;have c4 := (H3.out.gr hG).cell 0;have c5 := (H3.out.gr hG).cell 1;have zG := hG.size;simp only [getS] at c2 c3 c4 c5;go_wp2_with fail;refine (HT.out _).mono ?_;rintro e w2 ⟨rfl, g2⟩;have hC2 := hC.gr g2;have hG2 := hG.trans g2;have b0 := hC2.cell 0;have b1 := hC2.cell 1;have bl := hC2.lt;simp only [getS] at b0 b1;clear hC c2 c3 c4 c5 hG g2;go_wp2_with fail;have hD3 := CellsAt.new w2 50 #[q0, q1];have hC3 := hC2.alloc (.cells #[q0, q1] 50);have hG3 := hG2.alloc #[q0, q1] 50;refine (HU.out _).mono ?_;rintro e w4 ⟨rfl, g4⟩;have hD4 := hD3.gr g4;have hC4 := hC3.gr g4;have hG4 := hG3.trans g4;have b0' := hC4.cell 0;have b1' := hC4.cell 1;have bl' := hC4.lt;have a0 := hD4.cell 0;have a1 := hD4.cell 1;have al := hD4.lt;simp only [getS] at b0' b1' a0 a1;clear hC2 hG2 hD3 hC3 hG3 g4 b0 b1 bl;go_wp2_with fail;have hE5 := CellsAt.new w4 50 #[t0, t1];have hG5 := hG4.alloc #[t0, t1] 50;refine (HL.out _).mono ?_;rintro e w6 ⟨rfl, g6⟩;have hE6 := hE5.gr g6;have hG6 := hG5.trans g6
  obtain ⟨B4, hB4⟩ : ∃ B, w4.heap.size = B := ⟨_, rfl⟩
  have zq4 := hG4.size;have zq6 := hG6.size;have B4l := hE6.lt;have g7 := (gu.trans hG6).alloc #[d0, d1] 50;have hE7 := hE6.alloc (.cells #[d0, d1] 50);have hF7 := CellsAt.new w6 50 #[d0, d1];have HSa := kh ((H0.out.gr hG6).alloc (.cells #[d0, d1] 50));have H4a := kh ((H4.out.gr hG6).alloc (.cells #[d0, d1] 50));have H5a := kh ((H5.out.gr hG6).alloc (.cells #[d0, d1] 50));clear hE5 hG5 g6 hC4 hD4 hG4 b0' b1' a0 a1 al bl' hE6 hG6 HT HU HL H0 H1 H2 H3 H4 H5;go_wp2_with fail
  obtain ⟨B6, hB6⟩ : ∃ B, w6.heap.size = B := ⟨_, rfl⟩
  have hB46 : B4 < B6 := by rw [← hB4, ← hB6]; exact B4l
  have hBw : u0.heap.size ≤ B4 := by rw [← hB4]; exact zq4
  rw [hB4] at hE7;rw [hB6] at hF7;clear B4l zq4 zq6
  try rw [hB4]
  try rw [hB6]
  generalize w6.alloc (.cells #[d0, d1] 50) = ua at *;clear hB4 hB6;have f0 := hE7.cell 0;have f1 := hE7.cell 1;have fl := hE7.lt;have s0 := HSa.out.cell 0;have s1 := HSa.out.cell 1;have s2 := HSa.out.cell 2;simp only [getS] at f0 f1 s0 s1 s2;have HE := kh hE7;have HO := kh hF7
  go_cut [] from 45 to 53 (fun wx => CellsAt wx B4 50 #[r0, r1] ∧ CellsAt wx B6 50 #[d0, d1] ∧ CellsAt wx w.heap.size 201 #[b, s, mo] ∧ CellsAt wx (w.heap.size + 1 + 1 + 1 + 1) 50 #[.int .i64 0, .int .i64 0] ∧ CellsAt wx (w.heap.size + 1 + 1 + 1 + 1 + 1) 50 #[.int .i64 0, .int .i64 0] ∧ Gr w wx)
  case first =>
   go_region_with (first | (go_at_call 204; refine (HD.out _).mono ?_; rintro e w' ⟨rfl, hg⟩; have hgw : Gr ua w' := Gr.trans (Gr.drew (Gr.refl _)) hg; have q0 := (hgw.cell (p := ⟨B4, 0, none⟩) fl).trans f0; have q1 := (hgw.cell (p := ⟨B4, 1, none⟩) fl).trans f1; have q2 := (hgw.cell (p := ⟨w.heap.size, 2, none⟩) HSa.out.lt).trans s2) | (go_at_call 129; refine (HF.out _).mono ?_; rintro e w' ⟨rfl, hg⟩; have hgw2 : Gr ua w' := Gr.trans (by assumption) hg; have hbk := HE.out.gr hgw2; have c0 := hbk.cell 0; have c1 := hbk.cell 1; have m0 := hbk.frozen 0; have m1 := hbk.frozen 1; have ml := hbk.lt; simp only [getS] at c0 c1))
   all_goals
    go_wp2_with fail
    go_meet
    case rel =>
     exact ⟨CellsAt.set (CellsAt.set (HE.out.gr hgw2) 0 _) 1 _, CellsAt.other (CellsAt.other (HO.out.gr hgw2) (by omega) 0 _) (by omega) 1 _, CellsAt.other (CellsAt.other (HSa.out.gr hgw2) (by omega) 0 _) (by omega) 1 _, CellsAt.other (CellsAt.other (H4a.out.gr hgw2) (by omega) 0 _) (by omega) 1 _, CellsAt.other (CellsAt.other (H5a.out.gr hgw2) (by omega) 0 _) (by omega) 1 _, Gr.setCell (Gr.setCell (g7.trans hgw2) (by simp; omega) _) (by simp; omega) _⟩
  case rest =>
   clear HE HO HSa H4a H5a s0 s1 s2 f0 f1 fl hE7 hF7 HF g7;obtain ⟨hE8, hF8, hS8, h48, h58, g8⟩ := hcut;have HSb := kh hS8;have H4b := kh h48;have H5b := kh h58;clear hS8 h48 h58;go_wp2_with fail;have f0 := hF8.cell 0;have f1 := hF8.cell 1;have fl := hF8.lt;have s0 := HSb.out.cell 0;have s1 := HSb.out.cell 1;have s2 := HSb.out.cell 2;simp only [getS] at f0 f1 s0 s1 s2;have HE := kh hF8;have HO := kh hE8
   go_cut [] from 54 to 62 (fun wx => CellsAt wx B6 50 #[z0, z1] ∧ CellsAt wx B4 50 #[r0, r1] ∧ CellsAt wx w.heap.size 201 #[b, s, mo] ∧ CellsAt wx (w.heap.size + 1 + 1 + 1 + 1) 50 #[.int .i64 0, .int .i64 0] ∧ CellsAt wx (w.heap.size + 1 + 1 + 1 + 1 + 1) 50 #[.int .i64 0, .int .i64 0] ∧ Gr w wx)
   case first =>
    go_region_with (first | (go_at_call 204; refine (HD.out _).mono ?_; rintro e w' ⟨rfl, hg⟩; have hgw : Gr wc w' := Gr.trans (Gr.drew (Gr.refl _)) hg; have q0 := (hgw.cell (p := ⟨B6, 0, none⟩) fl).trans f0; have q1 := (hgw.cell (p := ⟨B6, 1, none⟩) fl).trans f1; have q2 := (hgw.cell (p := ⟨w.heap.size, 2, none⟩) HSb.out.lt).trans s2) | (go_at_call 129; refine (HG.out _).mono ?_; rintro e w' ⟨rfl, hg⟩; have hgw2 : Gr wc w' := Gr.trans (by assumption) hg; have hbk := HE.out.gr hgw2; have c0 := hbk.cell 0; have c1 := hbk.cell 1; have m0 := hbk.frozen 0; have m1 := hbk.frozen 1; have ml := hbk.lt; simp only [getS] at c0 c1))
    all_goals
     go_wp2_with fail
     go_meet
     case rel =>
      exact ⟨CellsAt.set (CellsAt.set (HE.out.gr hgw2) 0 _) 1 _, CellsAt.other (CellsAt.other (HO.out.gr hgw2) (by omega) 0 _) (by omega) 1 _, CellsAt.other (CellsAt.other (HSb.out.gr hgw2) (by omega) 0 _) (by omega) 1 _, CellsAt.other (CellsAt.other (H4b.out.gr hgw2) (by omega) 0 _) (by omega) 1 _, CellsAt.other (CellsAt.other (H5b.out.gr hgw2) (by omega) 0 _) (by omega) 1 _, Gr.setCell (Gr.setCell (g8.trans hgw2) (by simp; omega) _) (by simp; omega) _⟩
   case rest =>
    clear HE HO HSb H4b H5b s0 s1 s2 f0 f1 fl hE8 hF8 HG g8;obtain ⟨hF9, hE9, hS9, h49, h59, g9⟩ := hcut;have k0 := hF9.cell 0;have k1 := hF9.cell 1;have k2 := hE9.cell 0;have k3 := hE9.cell 1;have k4 := h49.cell 0;have k5 := h49.cell 1;have k6 := h59.cell 0;have k7 := h59.cell 1;obtain ⟨m4, m5⟩ := h49.f2;obtain ⟨m6, m7⟩ := h59.f2;have l4 := h49.lt;have l5 := h59.lt;simp only [getS] at k0 k1 k2 k3 k4 k5 k6 k7
    have ne1 : ¬ B6 = w.heap.size + 1 + 1 + 1 + 1 := by omega
    have ne2 : ¬ B6 = w.heap.size + 1 + 1 + 1 + 1 + 1 := by omega
    have ne3 : ¬ B4 = w.heap.size + 1 + 1 + 1 + 1 := by omega
    have ne4 : ¬ B4 = w.heap.size + 1 + 1 + 1 + 1 + 1 := by omega
    clear hF9 hE9 hS9 zu zz0 zz1 zz2 zz3 zz4 zz5 hB zG hB46 hBw;go_wp2_with fail
    go_region
    all_goals
     go_wp2_with fail;refine bodyPost_ret (v := .tuple #[.agg #[r0, r1], .agg #[z0, z1]]) ?_ rfl ⟨rfl, ?_⟩
     ·simp [results, Tryz.f184, go_sem, k4, k5, k6, k7]
     ·exact by repeat (first | exact Gr.refl _ | assumption | apply Gr.drew | apply Gr.drewN | (refine Gr.setCell ?_ (by first | (simp; done) | (simp; omega)) _))
end
end Go.Proofs.YtdignnmpfkgkoaaGreat
