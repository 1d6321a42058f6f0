import Derived.Test.YtdignnmpfkgkoaaGreatRealUntanglesS25
namespace Go.Proofs.YtdignnmpfkgkoaaGreat
section
open Go.ChangeShapes Go.WideShapes Go.ChangeAt Go.RowKit
set_option linter.unusedVariables false
set_option linter.unusedSimpArgs false
set_option maxRecDepth 100000
set_option maxHeartbeats 16000000 in
theorem rlUnt_of (px sp : Option Addr) (m cx q cl : Nat) (hm0 : 0 < m) (hm : m ≤ 64) (xs zs : List Gi) (hxn : xs.length = m) (hzn : zs.length = m + 1) (fo lo ke sc mo : Int) (iv : Bool) (ex ex2 : Int) (sa : Bool) (ls : List Int) (hls : ls.length ≤ 20) (hex : wrap64 (ex + 1) = ex2 ∧ IntKind.i64.wrap (ex + 1) = ex2)
 (U : Nat → Gi) (F S : Nat → Bool) (hS0 : S 0 = sa) (HS1 : Hid (∀ j, j ≤ m → (S j || F j) = S (j + 1)))
 (HU : Hid (∀ j x y, j ≤ m → xs[j % m]? = some x → xs[(m - j) % m]? = some y → ∀ W, Calls Tryz.prog 73 #[.agg #[.int .i64 (x).re, .int .i64 (x).im], .agg #[.int .i64 (y).re, .int .i64 (y).im], .int .i64 (j : Int), .agg #[.int .i64 fo, .int .i64 lo, .int .i64 ke, .int .i64 sc, .int .i64 mo, .bool iv]] W fun e w' => e = .returned (.agg #[.int .i64 (U j).re, .int .i64 (U j).im]) ∧ Gr W w'))
 (HF : Hid (∀ j z, zs[j]? = some z → ∀ W, Calls Tryz.prog 72 #[.agg #[.int .i64 (U j).re, .int .i64 (U j).im], .agg #[.int .i64 fo, .int .i64 lo, .int .i64 ke, .int .i64 sc, .int .i64 mo, .bool iv]] W fun e w' => e = .returned (.tuple #[.agg #[.int .i64 (z).re, .int .i64 (z).im], .bool (F j)]) ∧ Gr W w')) (w : World) (hv : CxsAt w (.slice px m cx) xs) (hl : NumsAt w (.slice sp q cl) ls) :
 Calls Tryz.prog 33 #[.agg #[.slice px m cx, .int .i64 ex, .bool sa, .slice sp q cl], .agg #[.int .i64 fo, .int .i64 lo, .int .i64 ke, .int .i64 sc, .int .i64 mo, .bool iv]] w fun e w' => ∃ vx vs, e = .returned (.agg #[vx, .int .i64 ex2, .bool (S (m + 1)), vs]) ∧ CxsAt w' vx zs ∧ NumsAt w' vs ls ∧ Gr w w' ∧ ∀ b, vs.ownBlock = some b → w.heap.size ≤ b := by
 have HCl := Lib.hid fun v W h => ftClone_c v ls hls W h
 have hmk : ∀ W : World, (Instr.makeSlice 25 (.int .i64 ((m : Int) + 1)) (.int .i64 ((m : Int) + 1))).run Tryz.prog W = .ok (.slice (some ⟨W.heap.size, 0, none⟩) (m + 1) (m + 1)) (W.alloc (.cells (madeCells #[.int .i64 0, .int .i64 0] ((m + 1) * 2)) 50)) := fun W => run_make_cx (m + 1) (by omega) W
 have hm1 : IntKind.i64.wrap ((m : Int) + 1) = ((m + 1 : Nat) : Int) := IntWalk.i64_in _ ⟨by omega, by omega⟩
 have hm2 : wrap64 ((m : Int) + 1) = ((m + 1 : Nat) : Int) := IntWalk.wrap64_in _ ⟨by omega, by omega⟩
 obtain ⟨yb, yo, yc, hsl, hlen, hyb, hyc⟩ := hv.at (by intro e; rw [e] at hxn; simp at hxn; omega)
 rw [hxn] at hsl
 cases hsl
 have HYC := Lib.hid hyc
 have HYN := Lib.hid hxn
 have HZN := Lib.hid hzn
 have HM := Lib.hid (And.intro hm0 hm)
 clear hyc hv hxn hlen hzn hm0 hm
 go_enter Tryz.func33, Tryz.ntmps33
 go_wp2_with fail
 obtain ⟨u0, hU⟩ : ∃ uu, uu = (((w.alloc (.cells #[.slice (some ⟨yb, yo, none⟩) m cx, .int .i64 ex, .bool sa, .slice sp q cl] 27)).alloc (.cells #[.int .i64 fo, .int .i64 lo, .int .i64 ke, .int .i64 sc, .int .i64 mo, .bool iv] 24)).alloc (.cells #[.slice none 0 0, .int .i64 0, .bool false, .slice none 0 0] 27)) := ⟨_, rfl⟩
 have ⟨gu, R0, R1, R2⟩ := lay3 hU
 rw [← hU]
 have hsz : u0.heap.size = w.heap.size + 1 + 1 + 1 := by rw [hU]; simp
 clear hU
 have lb := R0.lt
 have lp := R1.lt
 have lr := R2.lt
 have M0 : CellsAt (u0.alloc (.cells (madeCells #[.int .i64 0, .int .i64 0] ((m + 1) * 2)) 50)) (w.heap.size + 1 + 1 + 1) 50 (madeCells #[.int .i64 0, .int .i64 0] ((m + 1) * 2)) := by
  have := CellsAt.new u0 50 (madeCells #[.int .i64 0, .int .i64 0] ((m + 1) * 2))
  rwa [hsz] at this
 have M1 := size_madeCells #[.int .i64 0, .int .i64 0] ((m + 1) * 2)
 have Tb := R0.alloc (.cells (madeCells #[.int .i64 0, .int .i64 0] ((m + 1) * 2)) 50)
 have Tp := R1.alloc (.cells (madeCells #[.int .i64 0, .int .i64 0] ((m + 1) * 2)) 50)
 have Tr := R2.alloc (.cells (madeCells #[.int .i64 0, .int .i64 0] ((m + 1) * 2)) 50)
 have hul := gu.size
 go_loopw [7, 8, 10, 21] (fun s _ _ i wr => ∃ k : Nat, ∃ c : Array Value, k ≤ m + 1 ∧ i = .int .i64 k ∧ s = .bool (S k) ∧ CellsAt wr (w.heap.size + 1 + 1 + 1) 50 c ∧ c.size = (m + 1) * 2 ∧ (∀ j x, j < k → zs[j]? = some x → c[j * 2]? = some (.int .i64 x.re) ∧ c[j * 2 + 1]? = some (.int .i64 x.im)) ∧ CellsAt wr w.heap.size 27 #[.slice (some ⟨yb, yo, none⟩) m cx, .int .i64 ex, .bool sa, .slice sp q cl] ∧ CellsAt wr (w.heap.size + 1) 24 #[.int .i64 fo, .int .i64 lo, .int .i64 ke, .int .i64 sc, .int .i64 mo, .bool iv] ∧ CellsAt wr (w.heap.size + 1 + 1) 27 #[.slice none 0 0, .int .i64 0, .bool false, .slice none 0 0] ∧ Gr u0 wr) (fun _ _ _ i _ => m + 1 - (intOf i).toNat)
 case atStart => exact ⟨0, _, by omega, rfl, by rw [hS0], M0, M1, fun j x hj => absurd hj (Nat.not_lt_zero _), Tb, Tp, Tr, (Gr.refl _).alloc _ _⟩
 case round =>
  clear M0 M1 hmk Tb Tp Tr R0 R1 R2 lb lp hm1 hm2
  obtain ⟨k, c, hk, rfl, rfl, hC, hs, hj, BB, BP, BR, hg⟩ := hrel
  obtain ⟨hm0, hm⟩ := HM.out
  by_cases hlt : k < m + 1
  ·have hkI : (k : Int) < (m : Int) + 1 := by omega
   have hgw : Gr w wr := gu.trans hg
   have b1n : k % m < m := Nat.mod_lt _ hm0
   have b2n : (m - k) % m < m := Nat.mod_lt _ hm0
   obtain ⟨x, hx⟩ := get_of_lt (xs := xs) (k := k % m) (by rw [HYN.out]; exact b1n)
   obtain ⟨y, hy⟩ := get_of_lt (xs := xs) (k := (m - k) % m) (by rw [HYN.out]; exact b2n)
   obtain ⟨z, hz⟩ := get_of_lt (xs := zs) (k := k) (by rw [HZN.out]; exact hlt)
   have x1 := (hgw.cell (p := ⟨yb, yo + k % m * 2, none⟩) hyb).trans (HYC.out _ x hx).1
   have x2 := (hgw.cell (p := ⟨yb, yo + k % m * 2 + 1, none⟩) hyb).trans (HYC.out _ x hx).2
   have y1 := (hgw.cell (p := ⟨yb, yo + (m - k) % m * 2, none⟩) hyb).trans (HYC.out _ y hy).1
   have y2 := (hgw.cell (p := ⟨yb, yo + (m - k) % m * 2 + 1, none⟩) hyb).trans (HYC.out _ y hy).2
   have hbl : yb < wr.heap.size := Nat.lt_of_lt_of_le hyb hgw.size
   have HU1 := Lib.hid (HU.out k x y (by omega) hx hy)
   have HF1 := Lib.hid (HF.out k z hz)
   have HSN := Lib.hid (HS1.out k (by omega)).symm
   have h0 : ¬ m = 0 := by omega
   have e1 : (k : Int).tmod (m : Int) = ((k % m : Nat) : Int) := rfl
   have b1 : ((k % m : Nat) : Int) < (m : Int) := by omega
   have e2 : IntKind.i64.wrap ((m : Int) - (k : Int)) = ((m - k : Nat) : Int) := by rw [IntWalk.i64_in _ ⟨by omega, by omega⟩]; omega
   have e2b : wrap64 ((m : Int) - (k : Int)) = ((m - k : Nat) : Int) := by rw [IntWalk.wrap64_in _ ⟨by omega, by omega⟩]; omega
   have e3 : ((m - k : Nat) : Int).tmod (m : Int) = (((m - k) % m : Nat) : Int) := rfl
   have b2 : (((m - k) % m : Nat) : Int) < (m : Int) := by omega
   have HZK := Lib.hid hz
   have HS := Lib.hid hs
   have HJ := Lib.hid hj
   clear hz hx hy hs hj HU HF HS1 HYC b1n b2n hS0
   generalize k % m = i1 at *
   generalize (m - k) % m = i2 at *
   generalize m - k = d at *
   generalize U k = uk at *
   generalize F k = f0 at *
   generalize hs0 : S k = s0 at *
   clear hs0
   have lb := BB.lt
   have lp := BP.lt
   go_wp2_with fail
   have KS : ∀ W, Gr wr W → (W.cell? ⟨w.heap.size, 0, none⟩ = some (.slice (some ⟨yb, yo, none⟩) m cx) ∧ W.cell? ⟨w.heap.size, 1, none⟩ = some (.int .i64 ex) ∧ W.cell? ⟨w.heap.size, 2, none⟩ = some (.bool sa) ∧ W.cell? ⟨w.heap.size, 3, none⟩ = some (.slice sp q cl) ∧ W.cell? ⟨w.heap.size + 1, 0, none⟩ = some (.int .i64 fo) ∧ W.cell? ⟨w.heap.size + 1, 1, none⟩ = some (.int .i64 lo) ∧ W.cell? ⟨w.heap.size + 1, 2, none⟩ = some (.int .i64 ke) ∧ W.cell? ⟨w.heap.size + 1, 3, none⟩ = some (.int .i64 sc) ∧ W.cell? ⟨w.heap.size + 1, 4, none⟩ = some (.int .i64 mo) ∧ W.cell? ⟨w.heap.size + 1, 5, none⟩ = some (.bool iv) ∧ W.cell? ⟨yb, yo + i1 * 2, none⟩ = some (.int .i64 (x).re) ∧ W.cell? ⟨yb, yo + i1 * 2 + 1, none⟩ = some (.int .i64 (x).im) ∧ W.cell? ⟨yb, yo + i2 * 2, none⟩ = some (.int .i64 (y).re) ∧ W.cell? ⟨yb, yo + i2 * 2 + 1, none⟩ = some (.int .i64 (y).im)) := fun W hG => ⟨(CellsAt.gr BB hG).cell 0, (CellsAt.gr BB hG).cell 1, (CellsAt.gr BB hG).cell 2, (CellsAt.gr BB hG).cell 3, (CellsAt.gr BP hG).cell 0, (CellsAt.gr BP hG).cell 1, (CellsAt.gr BP hG).cell 2, (CellsAt.gr BP hG).cell 3, (CellsAt.gr BP hG).cell 4, (CellsAt.gr BP hG).cell 5, (hG.cell (p := ⟨yb, yo + i1 * 2, none⟩) hbl).trans x1, (hG.cell (p := ⟨yb, yo + i1 * 2 + 1, none⟩) hbl).trans x2, (hG.cell (p := ⟨yb, yo + i2 * 2, none⟩) hbl).trans y1, (hG.cell (p := ⟨yb, yo + i2 * 2 + 1, none⟩) hbl).trans y2⟩
   have hclG := gr_closed wr
   try simp only [List.append_eq, List.cons_append, List.nil_append]
   refine wp_region_grow (S := Gr wr) rfl (Gr.drew (Gr.refl _)) ?_
   refine gK 0 hclG KS ?_
   refine gK 1 hclG KS ?_
   refine gT 2 hclG ?_
   refine gT 3 hclG ?_
   refine gT 4 hclG ?_
   refine gT 5 hclG ?_
   refine gK 6 hclG KS ?_
   refine gK 7 hclG KS ?_
   refine gK 8 hclG KS ?_
   refine gT 9 hclG ?_
   refine gT 10 hclG ?_
   refine gT 11 hclG ?_
   refine gT 12 hclG ?_
   refine gT 13 hclG ?_
   refine gT 14 hclG ?_
   refine gK 15 hclG KS ?_
   refine gT 16 hclG ?_
   refine gK 17 hclG KS ?_
   refine wpG_call (i := 18) hclG rfl (by kernel_rfl) (by kernel_rfl) (by kernel_rfl) (fun _ _ _ h => h) (fun W _ => HU1.out W) (by rfl) ?_ ?_
   ·(intro w' hSw; go_simp; try with_reducible rfl)
   try simp only [Act.put, putS]
   refine gK 19 hclG KS ?_
   refine wpG_call (i := 20) hclG rfl (by kernel_rfl) (by kernel_rfl) (by kernel_rfl) (fun _ _ _ h => h) (fun W _ => HF1.out W) (by rfl) ?_ ?_
   ·(intro w' hSw; go_simp; try with_reducible rfl)
   try simp only [Act.put, putS]
   refine gT 21 hclG ?_
   refine gT 22 hclG ?_
   refine gT 23 hclG ?_
   refine gR 24 fun wa1 ga1 sa1 K hK => ?_
   replace ga1 := (Gr.drew (Gr.refl wr)).trans ga1
   have ⟨Fb_a1, lb_a1⟩ := BB.gl ga1
   have ⟨Fp_a1, lp_a1⟩ := BP.gl ga1
   have za1 := (Gr.refl wr).trans ga1
   clear BB BP ga1
   have saa1 := (za1).size
   have sba1 := sa1.size
   go_simp
   refine hK.out _ _ ?_ ?_
   ·exact Gr.alloc sa1 _ _
   clear hK K
   try simp only [Act.put, putS]
   refine gR 25 fun wa2 ga2 sa2 K hK => ?_
   have ⟨Fb_a2, lb_a2⟩ := CellsAt.gl (Fb_a1.alloc _) ga2
   have ⟨Fp_a2, lp_a2⟩ := CellsAt.gl (Fp_a1.alloc _) ga2
   have ⟨Fz_a2, lz_a2⟩ := CellsAt.gl (CellsAt.new wa1 50 #[.int .i64 0, .int .i64 0]) ga2
   have za2 := (za1.alloc _ _).trans ga2
   clear ga2
   have mz0 := CellsAt.frozen (Fz_a2) 0
   have cz0 := Fz_a2.at 0
   have mz1 := CellsAt.frozen (Fz_a2) 1
   have cz1 := Fz_a2.at 1
   go_simp
   clear mz0 cz0 mz1 cz1
   refine hK.out _ _ ?_ ?_
   ·exact (Gr.setCell (Gr.setCell sa2 (by first | omega | (simp only; omega)) _) (by first | omega | (simp only; omega)) _)
   clear hK K
   try simp only [Act.put, putS]
   refine gT 26 hclG ?_
   refine wpG_done (by kernel_rfl) (fun wa3 ga3 => ?_) _
   have ⟨Fb_a3, lb_a3⟩ := CellsAt.gl ((Fb_a2.ot).ot) ga3
   have ⟨Fp_a3, lp_a3⟩ := CellsAt.gl ((Fp_a2.ot).ot) ga3
   have ⟨Fz_a3, lz_a3⟩ := CellsAt.gl (CellsAt.set2 (Fz_a2) _ _) ga3
   have za3 := ((za2.sc _).sc _).trans ga3
   clear ga3
   clear hclG KS
   have hC2 := hC.gr za3
   have BR2 := BR.gr za3
   have hg2 := hg.trans za3
   have hCl := hC2.lt
   have hgs := hg2.size
   have hzs := (za3).size
   have hCl0 := hC.lt
   have f0 := hC2.frozen (k * 2)
   have q0 := hC2.cell (k * 2)
   rw [Array.getElem?_eq_getElem (show k * 2 < c.size by rw [HS.out]; omega)] at q0
   have f1 := hC2.frozen (k * 2 + 1)
   have q1 := hC2.cell (k * 2 + 1)
   rw [Array.getElem?_eq_getElem (show k * 2 + 1 < c.size by rw [HS.out]; omega)] at q1
   obtain ⟨cz0, cz1⟩ := Fz_a3.t2
   clear hC hg BR
   cases s0
   all_goals
    go_wp2_with fail
    have hCf := (hC2.set (k * 2) (.int .i64 (z).re)).set (k * 2 + 1) (.int .i64 (z).im)
    have Eb := (CellsAt.other Fb_a3 (B' := w.heap.size + 1 + 1 + 1) (by omega) (k * 2) (.int .i64 (z).re)).other (B' := w.heap.size + 1 + 1 + 1) (by omega) (k * 2 + 1) (.int .i64 (z).im)
    have Ep := (CellsAt.other Fp_a3 (B' := w.heap.size + 1 + 1 + 1) (by omega) (k * 2) (.int .i64 (z).re)).other (B' := w.heap.size + 1 + 1 + 1) (by omega) (k * 2 + 1) (.int .i64 (z).im)
    have Er := (CellsAt.other BR2 (B' := w.heap.size + 1 + 1 + 1) (by omega) (k * 2) (.int .i64 (z).re)).other (B' := w.heap.size + 1 + 1 + 1) (by omega) (k * 2 + 1) (.int .i64 (z).im)
    have hgf := (hg2.setCell (a := ⟨w.heap.size + 1 + 1 + 1, k * 2, none⟩) (by simp only; omega) (.int .i64 (z).re)).setCell (a := ⟨w.heap.size + 1 + 1 + 1, k * 2 + 1, none⟩) (by simp only; omega) (.int .i64 (z).im)
    go_roundw
    case rel =>
     refine ⟨k + 1, put2 c k _ _, by omega, by go_num, by rw [HSN.out]; rfl, hCf, by rw [put2_size]; exact HS.out, fun j x hj hx => ?_, Eb, Ep, Er, hgf⟩
     by_cases e : j = k
     ·subst e
      rw [HZK.out] at hx
      cases hx
      exact put2_self c j _ _ (by rw [HS.out]; omega)
     ·obtain ⟨z0, z1⟩ := HJ.out j x (by omega) hx
      exact ⟨(put2_other c k _ _ _ (by omega)).trans z0, (put2_other c k _ _ _ (by omega)).trans z1⟩
    case measure => simp [intOf]; omega
  ·obtain rfl : k = m + 1 := by omega
   have hkI2 : ¬ (m : Int) + 1 < (m : Int) + 1 := by omega
   clear HU HF HS1 HYC hS0
   have hgw : Gr w wr := gu.trans hg
   have hcx := CxsAt.of_put hC HZN.out (by omega) hj
   have hnums := hl.gr hgw
   have lb := BB.lt
   have lr := BR.lt
   obtain ⟨sN, hsN⟩ : ∃ z, S (m + 1) = z := ⟨_, rfl⟩
   rw [hsN]
   go_wp2_with fail
   clear hkI2 hk hm0 hm hs hj hC BP
   generalize hM : m + 1 = M at *
   have KS : ∀ W, GB (w.heap.size + 1 + 1) wr W → (W.cell? ⟨w.heap.size, 0, none⟩ = some (.slice (some ⟨yb, yo, none⟩) m cx) ∧ W.cell? ⟨w.heap.size, 1, none⟩ = some (.int .i64 ex) ∧ W.cell? ⟨w.heap.size, 2, none⟩ = some (.bool sa) ∧ W.cell? ⟨w.heap.size, 3, none⟩ = some (.slice sp q cl)) := fun W hG => ⟨(GB.cellsAt hG BB (by omega)).cell 0, (GB.cellsAt hG BB (by omega)).cell 1, (GB.cellsAt hG BB (by omega)).cell 2, (GB.cellsAt hG BB (by omega)).cell 3⟩
   have hclG := gb_closed (w.heap.size + 1 + 1) wr
   try simp only [List.append_eq, List.cons_append, List.nil_append]
   refine wp_region_grow (S := GB (w.heap.size + 1 + 1) wr) rfl (GB.drew (GB.refl _ _)) ?_
   refine gT 0 hclG ?_
   refine gK 1 hclG KS ?_
   refine gK 2 hclG KS ?_
   refine gT 3 hclG ?_
   refine gT 4 hclG ?_
   refine gK 5 hclG KS ?_
   refine gK 6 hclG KS ?_
   refine gR 7 fun we1 ge1 se1 K hK => ?_
   replace ge1 := (Gr.drew (Gr.refl wr)).trans ge1
   have ⟨Fb_e1, lb_e1⟩ := BB.gl ge1
   have ⟨Fr_e1, lr_e1⟩ := BR.gl ge1
   have Ky_e1 := hcx.gr ge1
   have ze1 := hgw.trans ge1
   clear BB BR hgw ge1
   go_simp
   refine (HCl.out _ _ (hl.gr ze1)).mono ?_
   rintro e we2 ⟨vs, rfl, hown, ge2⟩
   have hns := NumsAt.of_row hown
   have hnl := hown.lt
   obtain ⟨vp, vc, rfl⟩ := hns.len
   have hnns : (Value.slice vp ls.length vc).ownBlock ≠ some (w.heap.size + 1 + 1) := fun e => by have := (hnl _ e).1; omega
   have hfr : ∀ b, (Value.slice vp ls.length vc).ownBlock = some b → w.heap.size ≤ b := fun b e => by have := (hnl b e).1; omega
   have te2 := GB.gr se1 ge2
   have ⟨Fb_e2, lb_e2⟩ := Fb_e1.gl ge2
   have ⟨Fr_e2, lr_e2⟩ := Fr_e1.gl ge2
   have Ky_e2 := Ky_e1.gr ge2
   have ze2 := ze1.trans ge2
   clear Fb_e1 Fr_e1 ze1 ge2
   refine hK.out _ _ ?_ ?_
   ·exact te2
   clear hK K
   try simp only [Act.put, putS]
   refine gT 8 hclG ?_
   refine gR 9 fun we3 ge3 se3 K hK => ?_
   have ⟨Fb_e3, lb_e3⟩ := Fb_e2.gl ge3
   have ⟨Fr_e3, lr_e3⟩ := Fr_e2.gl ge3
   have Ky_e3 := Ky_e2.gr ge3
   have Ns_e3 := NumsAt.gr (hns) ge3
   have ze3 := ze2.trans ge3
   clear Fb_e2 Fr_e2 ze2 ge3
   have mr0 := CellsAt.frozen (Fr_e3) 0
   have cr0 := Fr_e3.at 0
   have mr1 := CellsAt.frozen (Fr_e3) 1
   have cr1 := Fr_e3.at 1
   have mr2 := CellsAt.frozen (Fr_e3) 2
   have cr2 := Fr_e3.at 2
   have mr3 := CellsAt.frozen (Fr_e3) 3
   have cr3 := Fr_e3.at 3
   go_simp
   clear mr0 cr0 mr1 cr1 mr2 cr2 mr3 cr3
   have Ay_e3 := CxsAt.apart Ky_e3 Fr_e3
   refine hK.out _ _ ?_ ?_
   ·exact (GB.set (GB.set (GB.set (GB.set se3 _ _) _ _) _ _) _ _)
   clear hK K
   try simp only [Act.put, putS]
   refine wpG_done (by kernel_rfl) (fun we4 ge4 => ?_) _
   have ⟨Fb_e4, lb_e4⟩ := CellsAt.gl ((((Fb_e3.ot).ot).ot).ot) ge4
   have Fr_e4 : CellsAt we4 (w.heap.size + 1 + 1) 27 #[.slice (some ⟨w.heap.size + 1 + 1 + 1, 0, none⟩) M M, .int .i64 ex2, .bool sN, .slice vp ls.length vc] := CellsAt.gr (CellsAt.set (CellsAt.set (CellsAt.set (CellsAt.set (Fr_e3) 0 (.slice (some ⟨w.heap.size + 1 + 1 + 1, 0, none⟩) M M)) 1 (.int .i64 ex2)) 2 (.bool sN)) 3 (.slice vp ls.length vc)) ge4
   have lr_e4 := Fr_e4.lt
   have Ky_e4 := CxsAt.gr ((CxsAt.set (CxsAt.set (CxsAt.set (CxsAt.set Ky_e3 Ay_e3 0 (.slice (some ⟨w.heap.size + 1 + 1 + 1, 0, none⟩) M M)) Ay_e3 1 (.int .i64 ex2)) Ay_e3 2 (.bool sN)) Ay_e3 3 (.slice vp ls.length vc))) ge4
   have Ns_e4 := NumsAt.gr ((NumsAt.set (B := w.heap.size + 1 + 1) (NumsAt.set (B := w.heap.size + 1 + 1) (NumsAt.set (B := w.heap.size + 1 + 1) (NumsAt.set (B := w.heap.size + 1 + 1) Ns_e3 hnns 0 (.slice (some ⟨w.heap.size + 1 + 1 + 1, 0, none⟩) M M)) hnns 1 (.int .i64 ex2)) hnns 2 (.bool sN)) hnns 3 (.slice vp ls.length vc))) ge4
   have ze4 := ((((ze3.sc _).sc _).sc _).sc _).trans ge4
   clear ge4
   clear hclG KS
   go_wp2_with fail
   obtain ⟨uf, hqep1⟩ : ∃ zz, zz = we4 := ⟨_, rfl⟩
   have Yb_ep1 : CellsAt uf (w.heap.size) 27 #[.slice (some ⟨yb, yo, none⟩) m cx, .int .i64 ex, .bool sa, .slice sp q cl] := by rw [hqep1]; first | exact Fb_e4 | simpa using Fb_e4
   have Yr_ep1 : CellsAt uf (w.heap.size + 1 + 1) 27 #[.slice (some ⟨w.heap.size + 1 + 1 + 1, 0, none⟩) M M, .int .i64 ex2, .bool sN, .slice vp ls.length vc] := by rw [hqep1]; first | exact Fr_e4 | simpa using Fr_e4
   have Vy_ep1 := Ky_e4
   rw [← hqep1] at Vy_ep1
   have Vs_ep1 := Ns_e4
   rw [← hqep1] at Vs_ep1
   have yep1 : Gr w uf := by rw [hqep1]; exact ze4
   rw [← hqep1]
   clear hqep1
   obtain ⟨cr0, cr1, cr2, cr3⟩ := Yr_ep1.t4
   refine bodyPost_ret (v := .agg #[.slice (some ⟨w.heap.size + 1 + 1 + 1, 0, none⟩) M M, .int .i64 ex2, .bool sN, .slice vp ls.length vc]) ?_ rfl ⟨_, _, by rw [hM, hsN], Vy_ep1, Vs_ep1, yep1, hfr⟩
   simp [results, Tryz.results33, go_sem, *]
set_option maxHeartbeats 4000000 in
theorem rlUntangle_no (px sp : Option Addr) (m cx q cl : Nat) (xs : List Gi) (fo lo ke sc mo : Int) (iv : Bool) (ex : Int) (sa : Bool) (y : Int) (hy : ¬ y = 0) (hb : (y == 0) = false) (HFE : Hid (∀ A B Q W, CellsAt W Q 96 #[.func (.func 50) #[] #[.pointer (some ⟨B, 0, none⟩)], .func (.func 51) #[] #[.pointer (some ⟨A, 0, none⟩), .pointer (some ⟨B, 0, none⟩)], .func (.func 52) #[] #[.pointer (some ⟨A, 0, none⟩), .pointer (some ⟨B, 0, none⟩)]] → CellsAt W A 27 #[.slice px m cx, .int .i64 ex, .bool sa, .slice sp q cl] → CellsAt W B 24 #[.int .i64 fo, .int .i64 lo, .int .i64 ke, .int .i64 sc, .int .i64 mo, .bool iv] → CxsAt W (.slice px m cx) xs → Calls Tryz.prog 28 #[.slice (some ⟨Q, 0, none⟩) 3 3] W fun e w' => e = .returned (.int .i64 y) ∧ Gr W w')) (w : World) (hv : CxsAt w (.slice px m cx) xs) :
 CW 19 #[.agg #[.slice px m cx, .int .i64 ex, .bool sa, .slice sp q cl], .agg #[.int .i64 fo, .int .i64 lo, .int .i64 ke, .int .i64 sc, .int .i64 mo, .bool iv]] w (.tuple #[.agg #[.slice none 0 0, .int .i64 0, .bool false, .slice none 0 0], .int .i64 y]) :=by
 delta CW
 go_enter Tryz.func19, Tryz.ntmps19
 go_wp2_with fail
 obtain ⟨u0, hU⟩ : ∃ uu, uu = ((((w.alloc (.cells #[.slice px m cx, .int .i64 ex, .bool sa, .slice sp q cl] 27)).alloc (.cells #[.int .i64 fo, .int .i64 lo, .int .i64 ke, .int .i64 sc, .int .i64 mo, .bool iv] 24)).alloc (.cells #[.slice none 0 0, .int .i64 0, .bool false, .slice none 0 0] 27)).alloc (.cells #[.func (.func 50) #[] #[.pointer (some ⟨w.heap.size + 1, 0, none⟩)], .func (.func 51) #[] #[.pointer (some ⟨w.heap.size, 0, none⟩), .pointer (some ⟨w.heap.size + 1, 0, none⟩)], .func (.func 52) #[] #[.pointer (some ⟨w.heap.size, 0, none⟩), .pointer (some ⟨w.heap.size + 1, 0, none⟩)]] 96)) := ⟨_, rfl⟩
 have ⟨gu, R0, R1, R2, R3⟩ := lay4 hU
 rw [← hU]
 clear hU
 have lb := R0.lt
 have lp := R1.lt
 have lr := R2.lt
 have lf := R3.lt
 have hvA := hv.gr gu
 refine (HFE.out _ _ _ _ (R3) (R0) (R1) hvA).mono ?_
 rintro e w1 ⟨rfl, g1⟩
 have ⟨Fb_1, lb_1⟩ := R0.gl g1
 have ⟨Fp_1, lp_1⟩ := R1.gl g1
 have ⟨Fr_1, lr_1⟩ := R2.gl g1
 have ⟨Ff_1, lf_1⟩ := R3.gl g1
 have Kv_1 := hvA.gr g1
 have z1 := gu.trans g1
 clear R0 R1 R2 R3 gu g1
 have mr0 := CellsAt.frozen (Fr_1) 0
 have cr0 := Fr_1.at 0
 have mr1 := CellsAt.frozen (Fr_1) 1
 have cr1 := Fr_1.at 1
 have mr2 := CellsAt.frozen (Fr_1) 2
 have cr2 := Fr_1.at 2
 have mr3 := CellsAt.frozen (Fr_1) 3
 have cr3 := Fr_1.at 3
 go_wp2_with fail
 clear mr0 cr0 mr1 cr1 mr2 cr2 mr3 cr3
 obtain ⟨uf, hqp1⟩ : ∃ zz, zz = ((((w1.setCell ⟨w.heap.size + 1 + 1, 0, none⟩ (.slice none 0 0)).setCell ⟨w.heap.size + 1 + 1, 1, none⟩ (.int .i64 0)).setCell ⟨w.heap.size + 1 + 1, 2, none⟩ (.bool false)).setCell ⟨w.heap.size + 1 + 1, 3, none⟩ (.slice none 0 0)) := ⟨_, rfl⟩
 have Yb_p1 : CellsAt uf (w.heap.size) 27 #[.slice px m cx, .int .i64 ex, .bool sa, .slice sp q cl] := by rw [hqp1]; first | exact (((Fb_1.ot).ot).ot).ot | simpa using (((Fb_1.ot).ot).ot).ot
 have Yp_p1 : CellsAt uf (w.heap.size + 1) 24 #[.int .i64 fo, .int .i64 lo, .int .i64 ke, .int .i64 sc, .int .i64 mo, .bool iv] := by rw [hqp1]; first | exact (((Fp_1.ot).ot).ot).ot | simpa using (((Fp_1.ot).ot).ot).ot
 have Yr_p1 : CellsAt uf (w.heap.size + 1 + 1) 27 #[.slice none 0 0, .int .i64 0, .bool false, .slice none 0 0] := by rw [hqp1]; have q_ := CellsAt.set (CellsAt.set (CellsAt.set (CellsAt.set (Fr_1) 0 (.slice none 0 0)) 1 (.int .i64 0)) 2 (.bool false)) 3 (.slice none 0 0); first | exact q_ | simpa using q_
 have Yf_p1 : CellsAt uf (w.heap.size + 1 + 1 + 1) 96 #[.func (.func 50) #[] #[.pointer (some ⟨w.heap.size + 1, 0, none⟩)], .func (.func 51) #[] #[.pointer (some ⟨w.heap.size, 0, none⟩), .pointer (some ⟨w.heap.size + 1, 0, none⟩)], .func (.func 52) #[] #[.pointer (some ⟨w.heap.size, 0, none⟩), .pointer (some ⟨w.heap.size + 1, 0, none⟩)]] := by rw [hqp1]; first | exact (((Ff_1.ot).ot).ot).ot | simpa using (((Ff_1.ot).ot).ot).ot
 have yp1 : Gr w uf := by rw [hqp1]; exact (((z1.sc _).sc _).sc _).sc _
 rw [← hqp1]
 clear hqp1
 obtain ⟨cr0, cr1, cr2, cr3⟩ := Yr_p1.t4
 refine bodyPost_ret (v := .tuple #[.agg #[.slice none 0 0, .int .i64 0, .bool false, .slice none 0 0], .int .i64 y]) ?_ rfl ⟨rfl, yp1⟩
 simp [results, Tryz.results19, go_sem, *]
set_option maxHeartbeats 4000000 in
theorem rlUntangle_yes (px sp : Option Addr) (m cx q cl : Nat) (xs : List Gi) (fo lo ke sc mo : Int) (iv : Bool) (ex : Int) (sa : Bool) (ls : List Int) (zs : List Gi) (ex2 : Int) (s2 : Bool) (ks : List Int) (HFE : Hid (∀ A B Q W, CellsAt W Q 96 #[.func (.func 50) #[] #[.pointer (some ⟨B, 0, none⟩)], .func (.func 51) #[] #[.pointer (some ⟨A, 0, none⟩), .pointer (some ⟨B, 0, none⟩)], .func (.func 52) #[] #[.pointer (some ⟨A, 0, none⟩), .pointer (some ⟨B, 0, none⟩)]] → CellsAt W A 27 #[.slice px m cx, .int .i64 ex, .bool sa, .slice sp q cl] → CellsAt W B 24 #[.int .i64 fo, .int .i64 lo, .int .i64 ke, .int .i64 sc, .int .i64 mo, .bool iv] → CxsAt W (.slice px m cx) xs → Calls Tryz.prog 28 #[.slice (some ⟨Q, 0, none⟩) 3 3] W fun e w' => e = .returned (.int .i64 0) ∧ Gr W w')) (HU : Hid (∀ W, CxsAt W (.slice px m cx) xs → NumsAt W (.slice sp q cl) ls → Calls Tryz.prog 33 #[.agg #[.slice px m cx, .int .i64 ex, .bool sa, .slice sp q cl], .agg #[.int .i64 fo, .int .i64 lo, .int .i64 ke, .int .i64 sc, .int .i64 mo, .bool iv]] W fun e w' => ∃ vx vs, e = .returned (.agg #[vx, .int .i64 ex2, .bool s2, vs]) ∧ CxsAt w' vx zs ∧ NumsAt w' vs ks ∧ Gr W w' ∧ ∀ b, vs.ownBlock = some b → W.heap.size ≤ b)) (w : World) (hv : CxsAt w (.slice px m cx) xs) (hl : NumsAt w (.slice sp q cl) ls) :
 Calls Tryz.prog 19 #[.agg #[.slice px m cx, .int .i64 ex, .bool sa, .slice sp q cl], .agg #[.int .i64 fo, .int .i64 lo, .int .i64 ke, .int .i64 sc, .int .i64 mo, .bool iv]] w fun e w' => ∃ vx vs, e = .returned (.tuple #[.agg #[vx, .int .i64 ex2, .bool s2, vs], .int .i64 0]) ∧ CxsAt w' vx zs ∧ NumsAt w' vs ks ∧ Gr w w' := by
 go_enter Tryz.func19, Tryz.ntmps19
 go_wp2_with fail
 obtain ⟨u0, hU⟩ : ∃ uu, uu = ((((w.alloc (.cells #[.slice px m cx, .int .i64 ex, .bool sa, .slice sp q cl] 27)).alloc (.cells #[.int .i64 fo, .int .i64 lo, .int .i64 ke, .int .i64 sc, .int .i64 mo, .bool iv] 24)).alloc (.cells #[.slice none 0 0, .int .i64 0, .bool false, .slice none 0 0] 27)).alloc (.cells #[.func (.func 50) #[] #[.pointer (some ⟨w.heap.size + 1, 0, none⟩)], .func (.func 51) #[] #[.pointer (some ⟨w.heap.size, 0, none⟩), .pointer (some ⟨w.heap.size + 1, 0, none⟩)], .func (.func 52) #[] #[.pointer (some ⟨w.heap.size, 0, none⟩), .pointer (some ⟨w.heap.size + 1, 0, none⟩)]] 96)) := ⟨_, rfl⟩
 have ⟨gu, R0, R1, R2, R3⟩ := lay4 hU
 rw [← hU]
 clear hU
 have lb := R0.lt
 have lp := R1.lt
 have lr := R2.lt
 have lf := R3.lt
 have hvA := hv.gr gu
 refine (HFE.out _ _ _ _ (R3) (R0) (R1) hvA).mono ?_
 rintro e w1 ⟨rfl, g1⟩
 have ⟨Fb_1, lb_1⟩ := R0.gl g1
 have ⟨Fp_1, lp_1⟩ := R1.gl g1
 have ⟨Fr_1, lr_1⟩ := R2.gl g1
 have ⟨Ff_1, lf_1⟩ := R3.gl g1
 have Kv_1 := hvA.gr g1
 have z1 := gu.trans g1
 clear R0 R1 R2 R3 gu g1
 obtain ⟨cb0, cb1, cb2, cb3⟩ := Fb_1.t4
 obtain ⟨cp0, cp1, cp2, cp3, cp4, cp5⟩ := Fp_1.t6
 go_wp2_with fail
 clear cb0 cb1 cb2 cb3 cp0 cp1 cp2 cp3 cp4 cp5
 refine (HU.out _ Kv_1 (hl.gr z1)).mono ?_
 rintro e w2 ⟨vx, vs, rfl, hx, hs, g2, hfr⟩
 obtain ⟨py, cy, rfl⟩ := hx.len
 obtain ⟨ps, cs, rfl⟩ := hs.len
 have ⟨Fb_2, lb_2⟩ := Fb_1.gl g2
 have ⟨Fp_2, lp_2⟩ := Fp_1.gl g2
 have ⟨Fr_2, lr_2⟩ := Fr_1.gl g2
 have z2 := z1.trans g2
 clear Fb_1 Fp_1 Fr_1 z1 g2
 have mr0 := CellsAt.frozen (Fr_2) 0
 have cr0 := Fr_2.at 0
 have mr1 := CellsAt.frozen (Fr_2) 1
 have cr1 := Fr_2.at 1
 have mr2 := CellsAt.frozen (Fr_2) 2
 have cr2 := Fr_2.at 2
 have mr3 := CellsAt.frozen (Fr_2) 3
 have cr3 := Fr_2.at 3
 go_wp2_with fail
 clear mr0 cr0 mr1 cr1 mr2 cr2 mr3 cr3
 have hnns : (Value.slice ps ks.length cs).ownBlock ≠ some (w.heap.size + 1 + 1) := fun e => by (have := hfr _ e); (try simp only [World.size_alloc] at this); omega
 have ap := CxsAt.apart hx Fr_2
 have cxe := (((hx.set ap 0 (.slice py zs.length cy)).set ap 1 (.int .i64 ex2)).set ap 2 (.bool s2)).set ap 3 (.slice ps ks.length cs)
 have nse := (((hs.set (B := w.heap.size + 1 + 1) hnns 0 (.slice py zs.length cy)).set (B := w.heap.size + 1 + 1) hnns 1 (.int .i64 ex2)).set (B := w.heap.size + 1 + 1) hnns 2 (.bool s2)).set (B := w.heap.size + 1 + 1) hnns 3 (.slice ps ks.length cs)
 obtain ⟨uf, hqf⟩ : ∃ zz, zz = ((((w2.setCell ⟨w.heap.size + 1 + 1, 0, none⟩ (.slice py zs.length cy)).setCell ⟨w.heap.size + 1 + 1, 1, none⟩ (.int .i64 ex2)).setCell ⟨w.heap.size + 1 + 1, 2, none⟩ (.bool s2)).setCell ⟨w.heap.size + 1 + 1, 3, none⟩ (.slice ps ks.length cs)) := ⟨_, rfl⟩
 rw [← hqf] at cxe nse
 have Yr : CellsAt uf (w.heap.size + 1 + 1) 27 #[.slice py zs.length cy, .int .i64 ex2, .bool s2, .slice ps ks.length cs] := by rw [hqf]; have q_ := CellsAt.set (CellsAt.set (CellsAt.set (CellsAt.set (Fr_2) 0 (.slice py zs.length cy)) 1 (.int .i64 ex2)) 2 (.bool s2)) 3 (.slice ps ks.length cs); first | exact q_ | simpa using q_
 have yz : Gr w uf := by rw [hqf]; exact (((z2.sc _).sc _).sc _).sc _
 rw [← hqf]
 clear hqf
 obtain ⟨cr0, cr1, cr2, cr3⟩ := Yr.t4
 refine bodyPost_ret (v := .tuple #[.agg #[.slice py zs.length cy, .int .i64 ex2, .bool s2, .slice ps ks.length cs], .int .i64 0]) ?_ rfl ⟨_, _, rfl, cxe, nse, yz⟩
 simp [results, Tryz.results19, go_sem, *]
set_option maxHeartbeats 4000000 in
theorem rlBins_yes (px : Option Addr) (m cx : Nat) (rs : List Int) (fo lo ke sc mo : Int) (iv : Bool) (ps xs zs : List Gi) (ex ex2 : Int) (sa s2 : Bool) (ls ks : List Int) (HFE : Hid (∀ A B Q W, CellsAt W Q 96 #[.func (.func 29) #[] #[.pointer (some ⟨B, 0, none⟩)], .func (.func 31) #[] #[.pointer (some ⟨A, 0, none⟩), .pointer (some ⟨B, 0, none⟩)]] → CellsAt W A 22 #[.slice px m cx] → CellsAt W B 24 #[.int .i64 fo, .int .i64 lo, .int .i64 ke, .int .i64 sc, .int .i64 mo, .bool iv] → Calls Tryz.prog 28 #[.slice (some ⟨Q, 0, none⟩) 2 2] W fun e w' => e = .returned (.int .i64 0) ∧ Gr W w')) (HK : Hid (∀ W, NumsAt W (.slice px m cx) rs → Calls Tryz.prog 8 #[.slice px m cx] W fun e w' => ∃ u, e = .returned (.tuple #[u, .int .i64 0]) ∧ CxsAt w' u ps ∧ Gr W w')) (HR : Hid (∀ u W, CxsAt W u ps → Calls Tryz.prog 25 #[u, .agg #[.int .i64 fo, .int .i64 lo, .int .i64 ke, .int .i64 sc, .int .i64 mo, .bool iv]] W fun e w' => ∃ vx vs, e = .returned (.tuple #[.agg #[vx, .int .i64 ex, .bool sa, vs], .int .i64 0]) ∧ CxsAt w' vx xs ∧ NumsAt w' vs ls ∧ Gr W w'))
 (HU : Hid (∀ px cx sp cl W, CxsAt W (.slice px xs.length cx) xs → NumsAt W (.slice sp ls.length cl) ls → Calls Tryz.prog 33 #[.agg #[.slice px xs.length cx, .int .i64 ex, .bool sa, .slice sp ls.length cl], .agg #[.int .i64 fo, .int .i64 lo, .int .i64 ke, .int .i64 sc, .int .i64 mo, .bool iv]] W fun e w' => ∃ vx vs, e = .returned (.agg #[vx, .int .i64 ex2, .bool s2, vs]) ∧ CxsAt w' vx zs ∧ NumsAt w' vs ks ∧ Gr W w' ∧ ∀ b, vs.ownBlock = some b → W.heap.size ≤ b)) (w : World) (hv : NumsAt w (.slice px m cx) rs) :
 Calls Tryz.prog 7 #[.slice px m cx, .agg #[.int .i64 fo, .int .i64 lo, .int .i64 ke, .int .i64 sc, .int .i64 mo, .bool iv]] w fun e w' => ∃ vx vs, e = .returned (.tuple #[.agg #[vx, .int .i64 ex2, .bool s2, vs], .int .i64 0]) ∧ CxsAt w' vx zs ∧ NumsAt w' vs ks ∧ Gr w w' := by
 go_enter Tryz.func7, Tryz.ntmps7
 go_wp2_with fail
 obtain ⟨u0, hU⟩ : ∃ uu, uu = ((((w.alloc (.cells #[.slice px m cx] 22)).alloc (.cells #[.int .i64 fo, .int .i64 lo, .int .i64 ke, .int .i64 sc, .int .i64 mo, .bool iv] 24)).alloc (.cells #[.slice none 0 0, .int .i64 0, .bool false, .slice none 0 0] 27)).alloc (.cells #[.func (.func 29) #[] #[.pointer (some ⟨w.heap.size + 1, 0, none⟩)], .func (.func 31) #[] #[.pointer (some ⟨w.heap.size, 0, none⟩), .pointer (some ⟨w.heap.size + 1, 0, none⟩)]] 96)) := ⟨_, rfl⟩
 have ⟨gu, R0, R1, R2, R3⟩ := lay4 hU
 rw [← hU]
 clear hU
 have lx := R0.lt
 have lp := R1.lt
 have lr := R2.lt
 have lf := R3.lt
 refine (HFE.out _ _ _ _ (R3) (R0) (R1)).mono ?_
 rintro e w1 ⟨rfl, g1⟩
 have ⟨Fx_1, lx_1⟩ := R0.gl g1
 have ⟨Fp_1, lp_1⟩ := R1.gl g1
 have ⟨Fr_1, lr_1⟩ := R2.gl g1
 have ⟨Ff_1, lf_1⟩ := R3.gl g1
 have z1 := gu.trans g1
 clear R0 R1 R2 R3 gu g1
 have cx0 := Fx_1.at 0
 go_wp2_with fail
 clear cx0
 refine (HK.out _ (hv.gr z1)).mono ?_
 rintro e w2 ⟨vu, rfl, hu, g2⟩
 have ⟨Fx_2, lx_2⟩ := Fx_1.gl g2
 have ⟨Fp_2, lp_2⟩ := Fp_1.gl g2
 have ⟨Fr_2, lr_2⟩ := Fr_1.gl g2
 have z2 := z1.trans g2
 clear Fx_1 Fp_1 Fr_1 z1 g2
 obtain ⟨cp0, cp1, cp2, cp3, cp4, cp5⟩ := Fp_2.t6
 go_wp2_with fail
 clear cp0 cp1 cp2 cp3 cp4 cp5
 refine (HR.out _ _ hu).mono ?_
 rintro e w3 ⟨ux, us, rfl, hux, hus, g3⟩
 obtain ⟨qx, cx1, rfl⟩ := hux.len
 obtain ⟨qs, cs1, rfl⟩ := hus.len
 have ⟨Fp_3, lp_3⟩ := Fp_2.gl g3
 have ⟨Fr_3, lr_3⟩ := Fr_2.gl g3
 have Ku_3 := hu.gr g3
 have z3 := z2.trans g3
 clear Fp_2 Fr_2 z2 g3
 obtain ⟨cp0, cp1, cp2, cp3, cp4, cp5⟩ := Fp_3.t6
 go_wp2_with fail
 clear cp0 cp1 cp2 cp3 cp4 cp5
 have hxA := hux.gr ((Gr.refl w3).alloc #[.slice qx xs.length cx1, .int .i64 ex, .bool sa, .slice qs ls.length cs1] 27)
 have hsA := hus.gr ((Gr.refl w3).alloc #[.slice qx xs.length cx1, .int .i64 ex, .bool sa, .slice qs ls.length cs1] 27)
 refine (HU.out _ _ _ _ _ hxA hsA).mono ?_
 rintro e w4 ⟨vx, vs, rfl, hx, hs, g4, hfr⟩
 obtain ⟨py, cy, rfl⟩ := hx.len
 obtain ⟨ps, cs, rfl⟩ := hs.len
 have ⟨Fp_4, lp_4⟩ := CellsAt.gl (Fp_3.alloc _) g4
 have ⟨Fr_4, lr_4⟩ := CellsAt.gl (Fr_3.alloc _) g4
 have ⟨Fb_4, lb_4⟩ := CellsAt.gl (CellsAt.new w3 27 #[.slice qx xs.length cx1, .int .i64 ex, .bool sa, .slice qs ls.length cs1]) g4
 have z4 := (z3.alloc _ _).trans g4
 clear g4
 have mr0 := CellsAt.frozen (Fr_4) 0
 have cr0 := Fr_4.at 0
 have mr1 := CellsAt.frozen (Fr_4) 1
 have cr1 := Fr_4.at 1
 have mr2 := CellsAt.frozen (Fr_4) 2
 have cr2 := Fr_4.at 2
 have mr3 := CellsAt.frozen (Fr_4) 3
 have cr3 := Fr_4.at 3
 go_wp2_with fail
 clear mr0 cr0 mr1 cr1 mr2 cr2 mr3 cr3
 have hnns : (Value.slice ps ks.length cs).ownBlock ≠ some (w.heap.size + 1 + 1) := fun e => by (have := hfr _ e); (try simp only [World.size_alloc] at this); omega
 have ap := CxsAt.apart hx Fr_4
 have cxe := (((hx.set ap 0 (.slice py zs.length cy)).set ap 1 (.int .i64 ex2)).set ap 2 (.bool s2)).set ap 3 (.slice ps ks.length cs)
 have nse := (((hs.set (B := w.heap.size + 1 + 1) hnns 0 (.slice py zs.length cy)).set (B := w.heap.size + 1 + 1) hnns 1 (.int .i64 ex2)).set (B := w.heap.size + 1 + 1) hnns 2 (.bool s2)).set (B := w.heap.size + 1 + 1) hnns 3 (.slice ps ks.length cs)
 obtain ⟨uf, hqf⟩ : ∃ zz, zz = ((((w4.setCell ⟨w.heap.size + 1 + 1, 0, none⟩ (.slice py zs.length cy)).setCell ⟨w.heap.size + 1 + 1, 1, none⟩ (.int .i64 ex2)).setCell ⟨w.heap.size + 1 + 1, 2, none⟩ (.bool s2)).setCell ⟨w.heap.size + 1 + 1, 3, none⟩ (.slice ps ks.length cs)) := ⟨_, rfl⟩
 rw [← hqf] at cxe nse
 have Yr : CellsAt uf (w.heap.size + 1 + 1) 27 #[.slice py zs.length cy, .int .i64 ex2, .bool s2, .slice ps ks.length cs] := by rw [hqf]; have q_ := CellsAt.set (CellsAt.set (CellsAt.set (CellsAt.set (Fr_4) 0 (.slice py zs.length cy)) 1 (.int .i64 ex2)) 2 (.bool s2)) 3 (.slice ps ks.length cs); first | exact q_ | simpa using q_
 have yz : Gr w uf := by rw [hqf]; exact (((z4.sc _).sc _).sc _).sc _
 rw [← hqf]
 clear hqf
 obtain ⟨cr0, cr1, cr2, cr3⟩ := Yr.t4
 refine bodyPost_ret (v := .tuple #[.agg #[.slice py zs.length cy, .int .i64 ex2, .bool s2, .slice ps ks.length cs], .int .i64 0]) ?_ rfl ⟨_, _, rfl, cxe, nse, yz⟩
 simp [results, Tryz.results7, go_sem, *]
end
end Go.Proofs.YtdignnmpfkgkoaaGreat
