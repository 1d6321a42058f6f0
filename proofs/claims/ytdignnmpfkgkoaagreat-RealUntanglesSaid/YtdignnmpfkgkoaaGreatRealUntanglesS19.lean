import Derived.Test.YtdignnmpfkgkoaaGreatRealUntanglesS15
import Derived.Test.YtdignnmpfkgkoaaGreatRealUntanglesS18
namespace Go.Proofs.YtdignnmpfkgkoaaGreat
section
open Go.ChangeShapes Go.WideShapes Go.ChangeAt Go.RowKit
set_option linter.unusedVariables false
set_option linter.unusedSimpArgs false
set_option maxRecDepth 100000
theorem RowAt.made (W : World) (n : Nat) : RowAt (W.alloc (.cells (madeCells #[.int .i64 0, .int .i64 0] (n * 2)) 50)) W.heap.size 50 n (fun _ => ⟨0, 0⟩) := by
 refine ⟨_, CellsAt.new W _ _, size_madeCells _ _, fun j hj => ?_⟩
 have key : ∀ k, k < n * 2 → (madeCells #[.int .i64 0, .int .i64 0] (n * 2))[k]? = some (.int .i64 0) := by
  intro k hk
  unfold madeCells
  have h2 : k % 2 = 0 ∨ k % 2 = 1 := by omega
  rcases h2 with e | e <;> simp [hk, e]
 exact ⟨key _ (by omega), key _ (by omega)⟩
theorem CxsAt.getD {w : World} {b o n cap : Nat} {xs : List Gi} (hc : ∀ j x, xs[j]? = some x → w.cell? ⟨b, o + j * 2, none⟩ = some (.int .i64 x.re) ∧ w.cell? ⟨b, o + j * 2 + 1, none⟩ = some (.int .i64 x.im)) (j : Nat) (hj : j < xs.length) :
 w.cell? ⟨b, o + j * 2, none⟩ = some (.int .i64 (xs.getD j ⟨0, 0⟩).re) ∧ w.cell? ⟨b, o + j * 2 + 1, none⟩ = some (.int .i64 (xs.getD j ⟨0, 0⟩).im) :=
 hc j _ (by rw [List.getD_eq_getElem?_getD, List.getElem?_eq_getElem hj]; rfl)
theorem join_nums (h u j d n : Nat) (hd : 4 * h = d) (hn : n = d * u) (hu : 1 ≤ u) (hj : j < h) (hd64 : d ≤ 64) (hn64 : n ≤ 64) :
 IntKind.i64.wrap ((j : Int) * (u : Int)) = ((j * u : Nat) : Int) ∧ IntKind.i64.wrap (3 * (j : Int)) = ((3 * j : Nat) : Int) ∧ IntKind.i64.wrap (((3 * j : Nat) : Int) * (u : Int)) = ((3 * j * u : Nat) : Int) ∧ IntKind.i64.wrap ((h : Int) + (j : Int)) = ((h + j : Nat) : Int) ∧
 j * u < n ∧ 3 * j * u < n ∧ (j : Int) < (h : Int) ∧ ((h + j : Nat) : Int) < ((2 * h : Nat) : Int) ∧ (j : Int) < ((2 * h : Nat) : Int) ∧ ((j * u : Nat) : Int) < (n : Int) ∧ ((3 * j * u : Nat) : Int) < (n : Int) := by
 have k1 : (j + 1) * u ≤ h * u := Nat.mul_le_mul_right _ (by omega)
 rw [Nat.succ_mul] at k1
 have k2 : n = 4 * (h * u) := by rw [hn, ← hd, Nat.mul_assoc]
 have k3 : 3 * j * u = 3 * (j * u) := Nat.mul_assoc _ _ _
 exact ⟨imul j u (by omega), imul 3 j (by omega), imul (3 * j) u (by omega), iadd h j (by omega), by omega, by omega, by omega, by omega, by omega, by omega, by omega⟩
set_option maxHeartbeats 8000000 in
theorem sJoinAll_of (b mo : Int) (inv : Bool) (pe pf pg pw : Option Addr) (ce cf cg cw : Nat) (E F G ws : List Gi) (h u n : Nat) (O : Nat → Nat → Gi) (Q1 Q3 : Nat → Gi) (h1 : 1 ≤ h) (hu1 : 1 ≤ u) (hn : n = 4 * h * u) (hn64 : n ≤ 64)
 (lE : E.length = 2 * h) (lF : F.length = h) (lG : G.length = h) (lw : ws.length = n)
 (HA : Hid (∀ j, j < h → ∀ W, Calls Tryz.prog 198 #[.agg #[.int .i64 b, .int .i64 mo, .bool inv], .agg #[.int .i64 (ws.getD (j * u) ⟨0, 0⟩).re, .int .i64 (ws.getD (j * u) ⟨0, 0⟩).im]] W fun e w' => e = .returned (.agg #[.int .i64 (Q1 j).re, .int .i64 (Q1 j).im]) ∧ Gr W w'))
 (HB : Hid (∀ j, j < h → ∀ W, Calls Tryz.prog 198 #[.agg #[.int .i64 b, .int .i64 mo, .bool inv], .agg #[.int .i64 (ws.getD (3 * j * u) ⟨0, 0⟩).re, .int .i64 (ws.getD (3 * j * u) ⟨0, 0⟩).im]] W fun e w' => e = .returned (.agg #[.int .i64 (Q3 j).re, .int .i64 (Q3 j).im]) ∧ Gr W w'))
 (HJ : Hid (∀ j, j < h → ∀ W, Calls Tryz.prog 199 #[.agg #[.int .i64 b, .int .i64 mo, .bool inv], .agg #[.int .i64 (E.getD j ⟨0, 0⟩).re, .int .i64 (E.getD j ⟨0, 0⟩).im], .agg #[.int .i64 (E.getD (h + j) ⟨0, 0⟩).re, .int .i64 (E.getD (h + j) ⟨0, 0⟩).im], .agg #[.int .i64 (F.getD j ⟨0, 0⟩).re, .int .i64 (F.getD j ⟨0, 0⟩).im], .agg #[.int .i64 (G.getD j ⟨0, 0⟩).re, .int .i64 (G.getD j ⟨0, 0⟩).im], .agg #[.int .i64 (Q1 j).re, .int .i64 (Q1 j).im], .agg #[.int .i64 (Q3 j).re, .int .i64 (Q3 j).im]] W fun e w' => e = .returned (.agg #[.int .i64 (O j 0).re, .int .i64 (O j 0).im, .int .i64 (O j 1).re, .int .i64 (O j 1).im, .int .i64 (O j 2).re, .int .i64 (O j 2).im, .int .i64 (O j 3).re, .int .i64 (O j 3).im]) ∧ Gr W w'))
 (w : World) (vE : CxsAt w (.slice pe (2 * h : Nat) ce) E) (vF : CxsAt w (.slice pf h cf) F) (vG : CxsAt w (.slice pg h cg) G) (vw : CxsAt w (.slice pw n cw) ws) :
 Calls Tryz.prog 181 #[.agg #[.int .i64 b, .int .i64 mo, .bool inv], .slice pe (2 * h : Nat) ce, .slice pf h cf, .slice pg h cg, .slice pw n cw] w fun e w' => ∃ v, e = .returned v ∧ CxsAt w' v ((List.range (4 * h)).map (fun i => O (i % h) (i / h))) ∧ Gr w w' := by
 have hn1 : 4 * h * 1 ≤ 4 * h * u := Nat.mul_le_mul_left _ hu1
 have ne : ∀ (xs : List Gi) k, xs.length = k → 1 ≤ k → xs ≠ [] := by intro xs k e hk e2; rw [e2] at e; simp at e; omega
 obtain ⟨be, oe, ce', hve, _, hbe, hce⟩ := vE.at (ne _ _ lE (by omega))
 obtain ⟨bf, of, cf', hvf, _, hbf, hcf⟩ := vF.at (ne _ _ lF h1)
 obtain ⟨bg, og, cg', hvg, _, hbg, hcg⟩ := vG.at (ne _ _ lG h1)
 obtain ⟨bw, ow, cw', hvw, _, hbw, hcw⟩ := vw.at (ne _ _ lw (by omega))
 rw [lE] at hve
 rw [lF] at hvf
 rw [lG] at hvg
 rw [lw] at hvw
 cases hve
 cases hvf
 cases hvg
 cases hvw
 have HCE := Lib.hid fun j (hj : j < 2 * h) => CxsAt.getD (n := 0) (cap := 0) hce j (by omega)
 have HCF := Lib.hid fun j (hj : j < h) => CxsAt.getD (n := 0) (cap := 0) hcf j (by omega)
 have HCG := Lib.hid fun j (hj : j < h) => CxsAt.getD (n := 0) (cap := 0) hcg j (by omega)
 have HCW := Lib.hid fun j (hj : j < n) => CxsAt.getD (n := 0) (cap := 0) hcw j (by omega)
 have hd64 : 4 * h ≤ 64 := by omega
 have HN := Lib.hid fun j (hj : j < h) => join_nums h u j (4 * h) n rfl hn hu1 hj hd64 hn64
 have HNX := Lib.hid (stp_next 0 h O (fun _ => ⟨0, 0⟩))
 have HRW := Lib.hid (stp_row 0 h O (fun _ => ⟨0, 0⟩))
 have HAT := Lib.hid (stp_at 0 h O (fun _ => ⟨0, 0⟩))
 have HEND := Lib.hid (fun i => stp_end 0 h O (fun _ => ⟨0, 0⟩) i h1)
 have HQN := Lib.hid fun q j (hq : q < 4) (hj : j < h) => quad_nums h q j (4 * h) rfl hq hj hd64
 have HPL := Lib.hid fun q j (hq : q < 4) (hj : j < h) => place_lt h q j hq hj
 have HMK := Lib.hid (run_make_cx (4 * h) (by omega))
 have HMD := Lib.hid (fun W => RowAt.made W (4 * h))
 have h64 : h ≤ 16 := by omega
 have hule : u ≤ 64 := by
  have : 1 * u ≤ 4 * h * u := Nat.mul_le_mul_right _ (by omega)
  omega
 have hd4 : 4 * (h : Int) = ((4 * h : Nat) : Int) := by omega
 have w4 : wrap64 (4 * (h : Int)) = ((4 * h : Nat) : Int) := wmul 4 h (by omega)
 have hnu : (n : Int) / ((4 * h : Nat) : Int) = (u : Int) := by
  have : (n : Int) = ((4 * h : Nat) : Int) * (u : Int) := by rw [hn]; simp
  rw [this]
  exact Int.mul_ediv_cancel_left _ (by omega)
 have hnz : ¬ ((4 * h : Nat) : Int) = 0 := by omega
 clear hce hcf hcg hcw vE vF vG vw ne lE lF lG lw hn hn1
 generalize hdd : 4 * h = d at *
 have HD := Lib.hid hdd
 clear hdd
 generalize he2 : 2 * h = h2 at *
 have HE2 := Lib.hid he2
 clear he2
 go_enter Tryz.func181, Tryz.ntmps181
 have hmk := HMK.out
 go_wp2_with fail
 clear hmk
 have R0 := CellsAt.new w 181 #[.int .i64 b, .int .i64 mo, .bool inv]
 have g0 : Gr w (w.alloc (.cells #[.int .i64 b, .int .i64 mo, .bool inv] 181)) := (Gr.refl w).alloc _ _
 have Y0 := HMD.out (w.alloc (.cells #[.int .i64 b, .int .i64 mo, .bool inv] 181))
 have R1 := R0.gr ((Gr.refl _).alloc (madeCells #[.int .i64 0, .int .i64 0] (d * 2)) 50)
 have g1 := g0.alloc (madeCells #[.int .i64 0, .int .i64 0] (d * 2)) 50
 have Y1 := Y0.eq (fun i _ => (stp_start 0 h O (fun _ => ⟨0, 0⟩) i).symm)
 simp only [World.size_alloc] at Y1
 clear R0 Y0 g0 HMK HMD hnu hnz w4 hd4
 go_loopw [30] (fun i wr => ∃ j : Nat, j ≤ h ∧ i = .int .i64 j ∧ CellsAt wr w.heap.size 181 #[.int .i64 b, .int .i64 mo, .bool inv] ∧ RowAt wr (w.heap.size + 1) 50 d (stp 0 h O (fun _ => ⟨0, 0⟩) j 0) ∧ Gr w wr) (fun i _ => h - (intOf i).toNat)
 case atStart => exact ⟨0, by omega, rfl, R1, Y1, g1⟩
 case round =>
  clear R1 Y1 g1
  obtain ⟨j, hj, rfl, R1, Y1, g1⟩ := hrel
  by_cases hlt : j < h
  ·have hlt' : (j : Int) < h := by omega
   have HA1 := Lib.hid (HA.out j hlt)
   have HB1 := Lib.hid (HB.out j hlt)
   have HJ1 := Lib.hid (HJ.out j hlt)
   obtain ⟨n1, n2, n3, n4, n5, n6, n7, n8, n9, n10, n11⟩ := HN.out j hlt
   have k0 := HCW.out _ n5
   have k1 := HCW.out _ n6
   have k2 := HCE.out j (by have := HE2.out; omega)
   have k3 := HCE.out (h + j) (by have := HE2.out; omega)
   have k4 := HCF.out j hlt
   have k5 := HCG.out j hlt
   go_wp2_with fail
   clear n5 n6
   generalize ws.getD (j * u) ⟨0, 0⟩ = A0 at *
   generalize ws.getD (3 * j * u) ⟨0, 0⟩ = A1 at *
   generalize E.getD j ⟨0, 0⟩ = A2 at *
   generalize E.getD (h + j) ⟨0, 0⟩ = A3 at *
   generalize F.getD j ⟨0, 0⟩ = A4 at *
   generalize G.getD j ⟨0, 0⟩ = A5 at *
   generalize 3 * j * u = ju3 at *
   generalize j * u = ju at *
   generalize 3 * j = j3 at *
   generalize h + j = hj' at *
   have HK := Lib.hid (And.intro k2 (And.intro k3 (And.intro k4 k5)))
   clear k2 k3 k4 k5
   have hRl := R1.lt
   have KS : ∀ W, Gr wr W → (W.cell? ⟨w.heap.size, 0, none⟩ = some (.int .i64 b) ∧ W.cell? ⟨w.heap.size, 1, none⟩ = some (.int .i64 mo) ∧ W.cell? ⟨w.heap.size, 2, none⟩ = some (.bool inv) ∧ W.cell? ⟨bw, ow + ju * 2, none⟩ = some (.int .i64 A0.re) ∧ W.cell? ⟨bw, ow + ju * 2 + 1, none⟩ = some (.int .i64 A0.im) ∧ W.cell? ⟨bw, ow + ju3 * 2, none⟩ = some (.int .i64 A1.re) ∧ W.cell? ⟨bw, ow + ju3 * 2 + 1, none⟩ = some (.int .i64 A1.im)) := fun W hG =>
    ⟨(R1.gr hG).cell 0, (R1.gr hG).cell 1, (R1.gr hG).cell 2, ((g1.trans hG).cell (p := ⟨bw, _, none⟩) hbw).trans k0.1, ((g1.trans hG).cell (p := ⟨bw, _, none⟩) hbw).trans k0.2, ((g1.trans hG).cell (p := ⟨bw, _, none⟩) hbw).trans k1.1, ((g1.trans hG).cell (p := ⟨bw, _, none⟩) hbw).trans k1.2⟩
   clear k0 k1
   go_cut [15, 16] from 33 to 49 (fun p1 p2 wx => ∃ B1 B2 : Nat, p1 = .pointer (some ⟨B1, 0, none⟩) ∧ p2 = .pointer (some ⟨B2, 0, none⟩) ∧ wr.heap.size ≤ B1 ∧ wr.heap.size ≤ B2 ∧ CellsAt wx B1 50 #[.int .i64 (Q1 j).re, .int .i64 (Q1 j).im] ∧ CellsAt wx B2 50 #[.int .i64 (Q3 j).re, .int .i64 (Q3 j).im] ∧ Gr wr wx)
   case first =>
    have hclG := gr_closed wr
    try simp only [List.append_eq, List.cons_append, List.nil_append]
    refine wp_region_grow (S := Gr wr) rfl (Gr.drew (Gr.refl _)) ?_
    refine gK 0 hclG KS ?_
    refine gT 1 hclG ?_
    refine gT 2 hclG ?_
    refine gT 3 hclG ?_
    refine gT 4 hclG ?_
    refine gT 5 hclG ?_
    refine gK 6 hclG KS ?_
    refine wpG_call (i := 7) hclG rfl (by kernel_rfl) (by kernel_rfl) (by kernel_rfl) (fun _ _ _ h => h) (fun W hS => HA1.out W) (by rfl) ?_ ?_
    ·(intro w' hSw; go_simp; try with_reducible rfl)
    try simp only [Act.put, putS]
    refine gK 8 hclG KS ?_
    refine gT 9 hclG ?_
    refine gT 10 hclG ?_
    refine gT 11 hclG ?_
    refine gT 12 hclG ?_
    refine gT 13 hclG ?_
    refine gT 14 hclG ?_
    refine gK 15 hclG KS ?_
    refine wpG_call (i := 16) hclG rfl (by kernel_rfl) (by kernel_rfl) (by kernel_rfl) (fun _ _ _ h => h) (fun W hS => HB1.out W) (by rfl) ?_ ?_
    ·(intro w' hSw; go_simp; try with_reducible rfl)
    try simp only [Act.put, putS]
    clear KS
    refine wpG_ready (rs := [17, 18]) (by kernel_rfl) (by simp) (fun wx gx sx => ?_)
    replace gx := (Gr.drew (Gr.refl wr)).trans gx
    have hsz := gx.size
    refine AllG.cons rfl (fun K hK => ?_) (AllG.cons rfl (fun K hK => ?_) AllG.nil)
    ·skip
     go_simp
     have D1 := CellsAt.new wx 50 #[.int .i64 0, .int .i64 0]
     have gy := gx.alloc #[.int .i64 0, .int .i64 0] 50
     refine hK.out _ _ ?_ ?_
     ·exact gy
     clear hK K
     try simp only [Act.put, putS]
     refine gR 18 fun wy g18 sy K hK => ?_
     go_simp
     have D2 := D1.gr g18
     have l2 := D2.lt
     have gz := (gy.trans g18).alloc #[.int .i64 0, .int .i64 0] 50
     have D3 := D2.alloc (.cells #[.int .i64 0, .int .i64 0] 50)
     have D4 := CellsAt.new wy 50 #[.int .i64 0, .int .i64 0]
     refine hK.out _ _ ?_ ?_
     ·exact gz
     clear hK K
     try simp only [Act.put, putS]
     refine gR 19 fun wz g19 sz K hK => ?_
     have D5 := D3.gr g19
     have D6 := D4.gr g19
     have m0 := D5.frozen 0
     have m1 := D5.frozen 1
     have e0 := D5.cell 0
     have e1 := D5.cell 1
     simp only [getS] at e0 e1
     have l5 := D5.lt
     go_simp
     have gq := ((gz.trans g19).setCell (a := ⟨wx.heap.size, 0, none⟩) hsz (.int .i64 (Q1 j).re)).setCell (a := ⟨wx.heap.size, 1, none⟩) hsz (.int .i64 (Q1 j).im)
     have D7 := D5.set2 (.int .i64 (Q1 j).re) (.int .i64 (Q1 j).im)
     have D8 := (D6.other (B' := wx.heap.size) (by omega) 0 (.int .i64 (Q1 j).re)).other (B' := wx.heap.size) (by omega) 1 (.int .i64 (Q1 j).im)
     clear m0 m1 e0 e1
     refine hK.out _ _ ?_ ?_
     ·exact gq
     clear hK K
     try simp only [Act.put, putS]
     refine gR 20 fun wu g20 su K hK => ?_
     have D9 := D8.gr g20
     have D10 := D7.gr g20
     have m0 := D9.frozen 0
     have m1 := D9.frozen 1
     have e0 := D9.cell 0
     have e1 := D9.cell 1
     simp only [getS] at e0 e1
     have l9 := D9.lt
     go_simp
     have hy : wr.heap.size ≤ wy.heap.size := by omega
     have gp := ((gq.trans g20).setCell (a := ⟨wy.heap.size, 0, none⟩) hy (.int .i64 (Q3 j).re)).setCell (a := ⟨wy.heap.size, 1, none⟩) hy (.int .i64 (Q3 j).im)
     have D11 := D9.set2 (.int .i64 (Q3 j).re) (.int .i64 (Q3 j).im)
     have D12 := (D10.other (B' := wy.heap.size) (by omega) 0 (.int .i64 (Q3 j).re)).other (B' := wy.heap.size) (by omega) 1 (.int .i64 (Q3 j).im)
     clear m0 m1 e0 e1
     refine hK.out _ _ ?_ ?_
     ·exact gp
     clear hK K
     try simp only [Act.put, putS]
     refine wpG_done (by kernel_rfl) (fun wv gv => ?_) _
     have D13 := D11.gr gv
     have D14 := D12.gr gv
     have gg := gp.trans gv
     clear D1 D2 D3 D4 D5 D6 D7 D8 D9 D10 D11 D12 gx gy gz gq gp g18 g19 g20 gv sx sy sz su
     go_wp2_with fail
     go_meet
     case rel => exact ⟨_, _, rfl, rfl, hsz, hy, D14, D13, gg⟩
    ·skip
     go_simp
     have D1 := CellsAt.new wx 50 #[.int .i64 0, .int .i64 0]
     have gy := gx.alloc #[.int .i64 0, .int .i64 0] 50
     refine hK.out _ _ ?_ ?_
     ·exact gy
     clear hK K
     try simp only [Act.put, putS]
     refine gR 17 fun wy g18 sy K hK => ?_
     go_simp
     have D2 := D1.gr g18
     have l2 := D2.lt
     have gz := (gy.trans g18).alloc #[.int .i64 0, .int .i64 0] 50
     have D3 := D2.alloc (.cells #[.int .i64 0, .int .i64 0] 50)
     have D4 := CellsAt.new wy 50 #[.int .i64 0, .int .i64 0]
     refine hK.out _ _ ?_ ?_
     ·exact gz
     clear hK K
     try simp only [Act.put, putS]
     refine gR 19 fun wz g19 sz K hK => ?_
     have D5 := D3.gr g19
     have D6 := D4.gr g19
     have m0 := D6.frozen 0
     have m1 := D6.frozen 1
     have e0 := D6.cell 0
     have e1 := D6.cell 1
     simp only [getS] at e0 e1
     have l5 := D6.lt
     go_simp
     have hy : wr.heap.size ≤ wy.heap.size := by omega
     have gq := ((gz.trans g19).setCell (a := ⟨wy.heap.size, 0, none⟩) hy (.int .i64 (Q1 j).re)).setCell (a := ⟨wy.heap.size, 1, none⟩) hy (.int .i64 (Q1 j).im)
     have D7 := D6.set2 (.int .i64 (Q1 j).re) (.int .i64 (Q1 j).im)
     have D8 := (D5.other (B' := wy.heap.size) (by omega) 0 (.int .i64 (Q1 j).re)).other (B' := wy.heap.size) (by omega) 1 (.int .i64 (Q1 j).im)
     clear m0 m1 e0 e1
     refine hK.out _ _ ?_ ?_
     ·exact gq
     clear hK K
     try simp only [Act.put, putS]
     refine gR 20 fun wu g20 su K hK => ?_
     have D9 := D8.gr g20
     have D10 := D7.gr g20
     have m0 := D9.frozen 0
     have m1 := D9.frozen 1
     have e0 := D9.cell 0
     have e1 := D9.cell 1
     simp only [getS] at e0 e1
     have l9 := D9.lt
     go_simp
     have gp := ((gq.trans g20).setCell (a := ⟨wx.heap.size, 0, none⟩) hsz (.int .i64 (Q3 j).re)).setCell (a := ⟨wx.heap.size, 1, none⟩) hsz (.int .i64 (Q3 j).im)
     have D11 := D9.set2 (.int .i64 (Q3 j).re) (.int .i64 (Q3 j).im)
     have D12 := (D10.other (B' := wx.heap.size) (by omega) 0 (.int .i64 (Q3 j).re)).other (B' := wx.heap.size) (by omega) 1 (.int .i64 (Q3 j).im)
     clear m0 m1 e0 e1
     refine hK.out _ _ ?_ ?_
     ·exact gp
     clear hK K
     try simp only [Act.put, putS]
     refine wpG_done (by kernel_rfl) (fun wv gv => ?_) _
     have D13 := D11.gr gv
     have D14 := D12.gr gv
     have gg := gp.trans gv
     clear D1 D2 D3 D4 D5 D6 D7 D8 D9 D10 D11 D12 gx gy gz gq gp g18 g19 g20 gv sx sy sz su
     go_wp2_with fail
     go_meet
     case rel => exact ⟨_, _, rfl, rfl, hy, hsz, D14, D13, gg⟩
   case rest =>
    obtain ⟨B1, B2, rfl, rfl, hB1, hB2, D1, D2, hG⟩ := hcut
    have zG := g1.trans hG
    have R2 := R1.gr hG
    have Y2 := Y1.gr hG
    obtain ⟨⟨k2, k2'⟩, ⟨k3, k3'⟩, ⟨k4, k4'⟩, k5, k5'⟩ := HK.out
    have n8' : hj' < h2 := by omega
    have n9' : j < h2 := by omega
    clear KS R1 Y1 g1 hG HA1 HB1 HK hRl
    go_wp2_with fail
    have KS : ∀ W, Gr wc W → (W.cell? ⟨w.heap.size, 0, none⟩ = some (.int .i64 b) ∧ W.cell? ⟨w.heap.size, 1, none⟩ = some (.int .i64 mo) ∧ W.cell? ⟨w.heap.size, 2, none⟩ = some (.bool inv) ∧ W.cell? ⟨be, oe + j * 2, none⟩ = some (.int .i64 (A2).re) ∧ W.cell? ⟨be, oe + j * 2 + 1, none⟩ = some (.int .i64 (A2).im) ∧ W.cell? ⟨be, oe + hj' * 2, none⟩ = some (.int .i64 (A3).re) ∧ W.cell? ⟨be, oe + hj' * 2 + 1, none⟩ = some (.int .i64 (A3).im) ∧ W.cell? ⟨bf, of + j * 2, none⟩ = some (.int .i64 (A4).re) ∧ W.cell? ⟨bf, of + j * 2 + 1, none⟩ = some (.int .i64 (A4).im) ∧ W.cell? ⟨bg, og + j * 2, none⟩ = some (.int .i64 (A5).re) ∧ W.cell? ⟨bg, og + j * 2 + 1, none⟩ = some (.int .i64 (A5).im) ∧ W.cell? ⟨B1, 0, none⟩ = some (.int .i64 (Q1 j).re) ∧ W.cell? ⟨B1, 1, none⟩ = some (.int .i64 (Q1 j).im) ∧ W.cell? ⟨B2, 0, none⟩ = some (.int .i64 (Q3 j).re) ∧ W.cell? ⟨B2, 1, none⟩ = some (.int .i64 (Q3 j).im)) := fun W hG => ⟨(R2.gr hG).cell 0, (R2.gr hG).cell 1, (R2.gr hG).cell 2, ((zG.trans hG).cell (p := ⟨be, _, none⟩) hbe).trans k2, ((zG.trans hG).cell (p := ⟨be, _, none⟩) hbe).trans k2', ((zG.trans hG).cell (p := ⟨be, _, none⟩) hbe).trans k3, ((zG.trans hG).cell (p := ⟨be, _, none⟩) hbe).trans k3', ((zG.trans hG).cell (p := ⟨bf, _, none⟩) hbf).trans k4, ((zG.trans hG).cell (p := ⟨bf, _, none⟩) hbf).trans k4', ((zG.trans hG).cell (p := ⟨bg, _, none⟩) hbg).trans k5, ((zG.trans hG).cell (p := ⟨bg, _, none⟩) hbg).trans k5', (D1.gr hG).cell 0, (D1.gr hG).cell 1, (D2.gr hG).cell 0, (D2.gr hG).cell 1⟩
    clear k2 k2' k3 k3' k4 k4' k5 k5'
    have hclG := gr_closed wc
    try simp only [List.append_eq, List.cons_append, List.nil_append]
    refine wp_region_grow (S := Gr wc) rfl (Gr.drew (Gr.refl _)) ?_
    refine gK 0 hclG KS ?_
    refine gT 1 hclG ?_
    refine gT 2 hclG ?_
    refine gT 3 hclG ?_
    refine gK 4 hclG KS ?_
    refine gT 5 hclG ?_
    refine gT 6 hclG ?_
    refine gT 7 hclG ?_
    refine gT 8 hclG ?_
    refine gT 9 hclG ?_
    refine gK 10 hclG KS ?_
    refine gT 11 hclG ?_
    refine gT 12 hclG ?_
    refine gT 13 hclG ?_
    refine gK 14 hclG KS ?_
    refine gT 15 hclG ?_
    refine gT 16 hclG ?_
    refine gT 17 hclG ?_
    refine gK 18 hclG KS ?_
    refine gK 19 hclG KS ?_
    refine gK 20 hclG KS ?_
    refine wpG_call (i := 21) hclG rfl (by kernel_rfl) (by kernel_rfl) (by kernel_rfl) (fun _ _ _ h => h) (fun W hS => HJ1.out W) (by rfl) ?_ ?_
    ·(intro w' hSw; go_simp; try with_reducible rfl)
    try simp only [Act.put, putS]
    refine gT 22 hclG ?_
    refine wpG_done (by kernel_rfl) (fun wd gd => ?_) _
    replace gd := (Gr.drew (Gr.refl wc)).trans gd
    have R3 := R2.gr gd
    have A0' := Y2.gr gd
    have G2 := zG.trans gd
    have hBn : w.heap.size ≠ w.heap.size + 1 := by omega
    have hsw := G2.size
    clear KS R2 Y2 zG gd HJ1 D1 D2 n1 n2 n3 n4 n7 n8 n9 n10 n11 n8' n9' hlt' hB1 hB2 hclG
    go_wp2_with fail
    go_loopw [72] (fun i wq => ∃ q : Nat, q ≤ 4 ∧ i = .int .i64 q ∧ CellsAt wq w.heap.size 181 #[.int .i64 b, .int .i64 mo, .bool inv] ∧ RowAt wq (w.heap.size + 1) 50 d (stp 0 h O (fun _ => ⟨0, 0⟩) j q) ∧ Gr w wq) (fun i _ => 4 - (intOf i).toNat)
    case atStart => exact ⟨0, by omega, rfl, R3, A0', G2⟩
    case round =>
     clear R3 A0' G2 hsw
     obtain ⟨q, hq, rfl, R3, A0', G2⟩ := hrel
     by_cases hqt : q < 4
     ·have hqt' : (q : Int) < 4 := by omega
      have hI := idx4 (O j) q hqt
      have hr := HPL.out q j hqt hlt
      have HX := Lib.hid (fun i => HNX.out j q i hlt hqt)
      obtain ⟨r1, r2, r3⟩ := HQN.out q j hqt hlt
      simp only [Nat.zero_add] at HX
      generalize q * h = qh at *
      generalize qh + j = r at *
      have hrd : r < d := by omega
      obtain ⟨d0, d1⟩ := A0'.cells r hrd
      have m0 := A0'.marks (r * 2)
      have m1 := A0'.marks (r * 2 + 1)
      have lB := A0'.lt
      clear hr
      go_wp2_with fail
      have A2 := ((A0'.set r hrd (O j q)).eq (fun i _ => HX.out i)).alloc (.cells #[.int .i64 (O j q).re, .int .i64 (O j q).im] 50)
      have G3 := ((G2.setCell (a := ⟨w.heap.size + 1, r * 2, none⟩) (by simp) (.int .i64 (O j q).re)).setCell (a := ⟨w.heap.size + 1, r * 2 + 1, none⟩) (by simp) (.int .i64 (O j q).im)).alloc #[.int .i64 (O j q).re, .int .i64 (O j q).im] 50
      have R4 := ((R3.other (B' := w.heap.size + 1) hBn (r * 2) (.int .i64 (O j q).re)).other (B' := w.heap.size + 1) hBn (r * 2 + 1) (.int .i64 (O j q).im)).alloc (.cells #[.int .i64 (O j q).re, .int .i64 (O j q).im] 50)
      go_roundw
      case rel => exact ⟨q + 1, by omega, by go_num, R4, A2, G3⟩
      case measure => simp [intOf]; omega
     ·obtain rfl : q = 4 := by omega
      have A2 := A0'.eq (fun i _ => HRW.out j i h1)
      clear HQN HPL HNX HRW HAT
      go_wp2_with fail
      go_roundw
      case rel =>
       repeat apply Exists.intro
       refine ⟨?_, ?_, R3, A2, G2⟩
       ·omega
       ·go_num
      case measure => simp [intOf]; omega
  ·obtain rfl : j = h := by omega
   have Y2 := Y1.eq (g := fun i => O (i % j) (i / j)) (fun i hi => by rw [HEND.out i, if_pos ⟨Nat.zero_le _, by have := HD.out; omega⟩, Nat.sub_zero])
   clear HCE HCF HCG HCW HN HNX HRW HAT HEND HQN HPL HA HB HJ R1 Y1
   go_wp2_with fail
   go_ret
   have := Y2.cxs 0 d d (by omega) (Nat.le_refl _) (by unfold maxLen; omega)
   simp only [Nat.zero_mul, Nat.zero_add] at this
   exact ⟨_, rfl, this, g1⟩
end
section
open Go.ChangeShapes Go.WideShapes Go.ChangeAt Go.RowKit Go.Shelf
set_option linter.unusedVariables false
set_option linter.unusedSimpArgs false
set_option maxRecDepth 100000
attribute [local go_sem] wide_fn Oper.semAt_some
theorem ofPlaces_c (px : Option Addr) (n cap : Nat) (F S : Int) (w : World) :
 Calls Tryz.prog 180 #[.slice px n cap, .int .i64 F, .int .i64 S] w fun e w' => e = .returned (.func (.func 197) #[] #[.pointer (some ⟨w.heap.size + 1, 0, none⟩), .pointer (some ⟨w.heap.size, 0, none⟩), .pointer (some ⟨w.heap.size + 1 + 1, 0, none⟩)]) ∧ w' = ((w.alloc (.cells #[.slice px n cap] 25)).alloc (.cells #[.int .i64 F] 3)).alloc (.cells #[.int .i64 S] 3) := by
 go_enter Tryz.func180, Tryz.ntmps180
 go_wp2_with fail
 go_ret
 exact ⟨by simp, rfl⟩
def pick (xs : List Gi) (F S q : Nat) : Gi := xs.getD (F + S * q) ⟨0, 0⟩
def encG (x : Gi) : Array Value := #[.agg #[.int .i64 x.re, .int .i64 x.im]]
theorem pick_snoc (xs : List Gi) (F S q : Nat) : (List.range (q + 1)).map (pick xs F S) = (List.range q).map (pick xs F S) ++ [pick xs F S q] := by rw [List.range_succ, List.map_append]; rfl
set_option maxHeartbeats 4000000 in
theorem places1_in (n : Nat) (hn : 1 ≤ n) (l Bf Bx Bs b o N cap F S cnt : Nat) (xs : List Gi) (hl : xs.length = N) (hN64 : N ≤ 64) (hS1 : 1 ≤ S) (hS : S ≤ 64) (hcnt : ∀ q, F + S * q < N ↔ q < cnt) (hc32 : cnt ≤ 32) (hFS : F + S * cnt ≤ 200) (J Jx : List Gi → World → Prop) (W0 : World) (hJ : AbidesFrom W0.heap.size J)
 (hY : ∀ pre x W, J pre W → pre.length < 32 → YieldAt Fence.wide (n - 1) Tryz.prog l (encG x) W fun e W' =>
  (e = .returned (.bool true) ∧ J (pre ++ [x]) W' ∧ (W'.heap[Bf]? = W.heap[Bf]? ∧ W'.heap[Bx]? = W.heap[Bx]? ∧ W'.heap[Bs]? = W.heap[Bs]? ∧ W'.heap[b]? = W.heap[b]?)) ∨ (e = .returned (.bool false) ∧ Jx (pre ++ [x]) W'))
 (W : World) (hBf : Boxed W Bf 3 (.int .i64 F)) (hBx : Boxed W Bx 25 (.slice (some ⟨b, o, none⟩) N cap)) (hBs : Boxed W Bs 3 (.int .i64 S))
 (hC : ∀ j, j < N → W.cell? ⟨b, o + j * 2, none⟩ = some (.int .i64 (xs.getD j ⟨0, 0⟩).re) ∧ W.cell? ⟨b, o + j * 2 + 1, none⟩ = some (.int .i64 (xs.getD j ⟨0, 0⟩).im)) (h0 : J [] W) :
 CallsIn Fence.wide n Tryz.prog 197 #[.func (.yield l) #[] #[], .pointer (some ⟨Bf, 0, none⟩), .pointer (some ⟨Bx, 0, none⟩), .pointer (some ⟨Bs, 0, none⟩)] W fun e W' => (∃ v, e = .returned v) ∧
  ((∃ ys, ys = (List.range cnt).map (pick xs F S) ∧ J ys W') ∨ (∃ pre, True ∧ Jx pre W')) := by
 have hc := hBf.cell
 have HCN := Lib.hid hcnt
 have HC := Lib.hid hC
 have HY := Lib.hid hY
 have HFS := Lib.hid hFS
 clear hcnt hC hY hJ hFS
 refine callsIn_of_wp Tryz.func197 rfl trivial ?_ rfl
 simp only [Tryz.ntmps197, List.size_toArray, List.length_cons, List.length_nil, Nat.reduceAdd, Nat.reduceSub, Array.replicate_succ, Array.replicate_zero, List.push_toArray, List.append_toArray, List.nil_append, List.cons_append]
 gi_wp2_with fail
 gi_loopw [5] (fun i wr => ∃ q : Nat, q ≤ cnt ∧ i = .int .i64 ((F + S * q : Nat) : Int) ∧ Boxed wr Bx 25 (.slice (some ⟨b, o, none⟩) N cap) ∧ Boxed wr Bs 3 (.int .i64 S) ∧ wr.heap[b]? = W.heap[b]? ∧ J ((List.range q).map (pick xs F S)) wr) (fun i _ => 1000 - (intOf i).toNat)
 case atStart => exact ⟨0, by omega, rfl, hBx, hBs, rfl, h0⟩
 case round =>
  clear hc h0 hBf hBx hBs
  obtain ⟨q, hq, rfl, hBx, hBs, hb, hJs⟩ := hrel
  have hcx := hBx.cell
  by_cases hlt : q < cnt
  ·have hp := (HCN.out q).2 hlt
   have hcc := HC.out _ hp
   have k0 : wr.cell? ⟨b, o + (F + S * q) * 2, none⟩ = some (.int .i64 (pick xs F S q).re) := by have := hcc.1; unfold World.cell? at this ⊢; rw [hb]; exact this
   have k1 : wr.cell? ⟨b, o + (F + S * q) * 2 + 1, none⟩ = some (.int .i64 (pick xs F S q).im) := by have := hcc.2; unfold World.cell? at this ⊢; rw [hb]; exact this
   obtain ⟨fn, tmps, assign, body, hy, hR⟩ := HY.out _ (pick xs F S q) wr hJs (by simp; omega)
   unfold encG at hy
   have HSN := Lib.hid (pick_snoc xs F S q)
   have hsm : S * q ≤ S * cnt := Nat.mul_le_mul_left _ hq
   have hle := HFS.out
   have hn1 : F + S * (q + 1) = F + S * q + S := by rw [Nat.mul_succ]; omega
   have hsq : S * q + S ≤ S * cnt := by have := Nat.mul_le_mul_left S (show q + 1 ≤ cnt by omega); rwa [Nat.mul_succ] at this
   have HN1 := Lib.hid hn1
   have hp2 : ((F + S * q : Nat) : Int) < N := by omega
   have hp3 : F + S * q + S ≤ 200 := by omega
   clear hcc hn1 hsm hle hsq
   generalize pick xs F S q = g at *
   generalize F + S * q = p at *
   gi_wp2_with fail
   refine hR.mono ?_
   clear hy hR k0 k1 hcx
   rintro e W3 (⟨rfl, hJ3, hk1, hk2, hk3, hk4⟩ | ⟨rfl, hJx3⟩)
   ·have hBx3 : Boxed W3 Bx 25 (.slice (some ⟨b, o, none⟩) N cap) := hk2.trans hBx
    have hBs3 : Boxed W3 Bs 3 (.int .i64 S) := hk3.trans hBs
    have hb3 := hk4.trans hb
    clear hk1 hk2 hk3 hk4 hBx hBs hb hJs
    have hc3 := hBs3.cell
    gi_wp2_with fail
    go_roundw
    case rel =>
     refine ⟨q + 1, by omega, ?_, hBx3, hBs3, hb3, ?_⟩
     ·rw [HN1.out]
      congr 1
     ·rw [HSN.out]
      exact hJ3
    case measure => simp [intOf]; omega
   ·gi_wp2
    refine bodyPost_ret (results_none rfl _ _ _) rfl ?_
    exact ⟨⟨_, rfl⟩, .inr ⟨_, trivial, hJx3⟩⟩
  ·obtain rfl : q = cnt := by omega
   have hp : ¬ F + S * q < N := fun k => Nat.lt_irrefl _ ((HCN.out q).1 k)
   have hp2 : (N : Int) ≤ ((F + S * q : Nat) : Int) := by omega
   have hle := HFS.out
   clear hp HCN HC HY
   generalize F + S * q = p at *
   gi_wp2_with fail
   go_end0
   exact ⟨⟨_, rfl⟩, .inl ⟨_, rfl, hJs⟩⟩
theorem places_stops (n : Nat) (hn : 1 ≤ n) (Bf Bx Bs b o N cap F S cnt : Nat) (xs : List Gi) (hl : xs.length = N) (hN64 : N ≤ 64) (hS1 : 1 ≤ S) (hS : S ≤ 64) (hcnt : ∀ q, F + S * q < N ↔ q < cnt) (hc32 : cnt ≤ 32) (hFS : F + S * cnt ≤ 200)
 (w : World) (hf : Boxed w Bf 3 (.int .i64 F)) (hx : Boxed w Bx 25 (.slice (some ⟨b, o, none⟩) N cap)) (hs : Boxed w Bs 3 (.int .i64 S)) (hb : b < w.heap.size)
 (hC : ∀ j, j < N → w.cell? ⟨b, o + j * 2, none⟩ = some (.int .i64 (xs.getD j ⟨0, 0⟩).re) ∧ w.cell? ⟨b, o + j * 2 + 1, none⟩ = some (.int .i64 (xs.getD j ⟨0, 0⟩).im)) :
 SeqStopsK Fence.wide n Tryz.prog 197 #[.pointer (some ⟨Bf, 0, none⟩), .pointer (some ⟨Bx, 0, none⟩), .pointer (some ⟨Bs, 0, none⟩)] encG (fun A B => B.heap[Bf]? = A.heap[Bf]? ∧ B.heap[Bx]? = A.heap[Bx]? ∧ B.heap[Bs]? = A.heap[Bs]? ∧ B.heap[b]? = A.heap[b]?)
  (fun ys => ys = (List.range cnt).map (pick xs F S)) (fun _ => True) 32 w := fun l J Jx W hW hJ _ hY h0 =>
 places1_in n hn l Bf Bx Bs b o N cap F S cnt xs hl hN64 hS1 hS hcnt hc32 hFS J Jx W hJ hY W ((hW.block Bf hf.lt).trans hf) ((hW.block Bx hx.lt).trans hx) ((hW.block Bs hs.lt).trans hs)
  (fun j hj => ⟨(hW.cell (p := ⟨b, _, none⟩) hb).trans (hC j hj).1, (hW.cell (p := ⟨b, _, none⟩) hb).trans (hC j hj).2⟩) h0
set_option maxHeartbeats 4000000 in
theorem listed_c (Bf Bx Bs b o N cap F S cnt : Nat) (xs : List Gi) (hl : xs.length = N) (hN64 : N ≤ 64) (hS1 : 1 ≤ S) (hS : S ≤ 64) (hcnt : ∀ q, F + S * q < N ↔ q < cnt) (hc32 : cnt ≤ 32) (hFS : F + S * cnt ≤ 200)
 (w : World) (hf : Boxed w Bf 3 (.int .i64 F)) (hx : Boxed w Bx 25 (.slice (some ⟨b, o, none⟩) N cap)) (hs : Boxed w Bs 3 (.int .i64 S)) (hb : b < w.heap.size)
 (hC : ∀ j, j < N → w.cell? ⟨b, o + j * 2, none⟩ = some (.int .i64 (xs.getD j ⟨0, 0⟩).re) ∧ w.cell? ⟨b, o + j * 2 + 1, none⟩ = some (.int .i64 (xs.getD j ⟨0, 0⟩).im)) :
 Calls Tryz.prog 179 #[.func (.func 197) #[] #[.pointer (some ⟨Bf, 0, none⟩), .pointer (some ⟨Bx, 0, none⟩), .pointer (some ⟨Bs, 0, none⟩)]] w fun e w' => ∃ v, e = .returned v ∧ CxsAt w' v ((List.range cnt).map (pick xs F S)) ∧ Gr w w' := by
 obtain ⟨i0, hi, hz0, hz1, hz2⟩ := info_parts info_cx
 have HST := Lib.hid (places_stops 4 (by omega) Bf Bx Bs b o N cap F S cnt xs hl hN64 hS1 hS hcnt hc32 hFS w hf hx hs hb hC)
 clear hcnt hC hFS hl hN64 hS1 hS hc32
 have lf := hf.lt
 have lx := hx.lt
 have ls := hs.lt
 refine (callsIn_wide (n := 5)).1 ?_
 refine callsIn_of_wp_marks Tryz.func179 rfl trivial ?_ rfl
 simp only [Tryz.ntmps179, List.size_toArray, List.length_cons, List.length_nil, Nat.reduceAdd, Nat.reduceSub, Array.replicate_succ, Array.replicate_zero, List.push_toArray, List.append_toArray, List.nil_append, List.cons_append]
 gi_wp2_with fail
 have bO := Boxed.new w 25 (.slice none 0 0)
 have hB0 : Below w.heap.size w (w.alloc (.cells #[.slice none 0 0] 25)) := (Below.refl _ w).alloc (Nat.le_refl _) _
 refine wpIn_rangeFunc_ownH rfl (by omega) (gf := 197) (lb := #[.pointer (some ⟨Bf, 0, none⟩), .pointer (some ⟨Bx, 0, none⟩), .pointer (some ⟨Bs, 0, none⟩)]) rfl trivial (enters_of Tryz.func197 (by kernel_rfl) rfl)
  HST.out (fun h k => ⟨k.1.trans h.1, k.2.1.trans h.2.1, k.2.2.1.trans h.2.2.1, k.2.2.2.trans h.2.2.2⟩)
  (fun W l o o' hl h _ _ => ⟨World.putObj_heap_other (fun e => by simp at hl; omega), World.putObj_heap_other (fun e => by simp at hl; omega), World.putObj_heap_other (fun e => by simp at hl; omega), World.putObj_heap_other (fun e => by simp at hl; omega)⟩) hB0 (fun _ => rfl)
  (fun pre W => (∃ v, Boxed W w.heap.size 25 v ∧ W.ownsRow (w.heap.size + 1) 50 2 v pre.length (gcells pre) ∧ True) ∧ Below w.heap.size w W)
  (fun _ _ _ => False)
  (OwnFrom.and (Own.from (holdsRow_own (w.heap.size + 1) w.heap.size 25 50 2 (fun pre : List Gi => pre.length) (fun pre => gcells pre) (fun _ _ => True)) _) (ownFrom_below (Nat.le_refl _) (by simp)))
  (fun _ _ _ _ _ hs _ _ => hs)
  ⟨⟨_, bO, World.ownsRow_nil _ _ _ _, trivial⟩, hB0⟩
  (fun x a' W => ∃ Bp, w.heap.size < Bp ∧ CellsAt W Bp 50 #[.int .i64 x.re, .int .i64 x.im] ∧ a' = { tmps := #[.func (.func 197) #[] #[.pointer (some ⟨Bf, 0, none⟩), .pointer (some ⟨Bx, 0, none⟩), .pointer (some ⟨Bs, 0, none⟩)], undef, .slice none 0 0, .pointer (some ⟨w.heap.size, 0, none⟩), .pointer (some ⟨Bp, 0, none⟩), .func (.func 197) #[] #[.pointer (some ⟨Bf, 0, none⟩), .pointer (some ⟨Bx, 0, none⟩), .pointer (some ⟨Bs, 0, none⟩)], .agg #[.int .i64 x.re, .int .i64 x.im], undef, undef, undef, undef, undef], defers := [] })
  (fun x a' _ X Y row hs hg hr => by obtain ⟨Bp, e1, e2, e3⟩ := hs; exact ⟨Bp, e1, e2.grown hg (fun e' => by obtain ⟨_, o, ho, hcc⟩ := hr Bp e'.symm; rw [show X.heap[Bp]? = _ from e2] at ho; cases ho; cases hcc), e3⟩)
  ?assign ?body ?done ?stop
 case assign =>
  rintro l pre x W K ⟨⟨v, hv, hrow, _⟩, hB⟩ hK
  simp only [encG]
  have hbl := hv.lt
  have hsz := hB.size
  gi_wp2_with fail
  exact hK _ _ ((KeepsOthers.alloc _ _).from _) ⟨Below.heap_alloc _ _ _ (by omega), Below.heap_alloc _ _ _ (by omega), Below.heap_alloc _ _ _ (by omega), Below.heap_alloc _ _ _ (by omega)⟩ ⟨⟨v, hv.alloc _, hrow.alloc _, trivial⟩, hB.alloc hB.size _⟩ ⟨W.heap.size, by omega, CellsAt.new W _ _, rfl⟩
 case body =>
  rintro l pre x a' V hl ⟨r, hr⟩ ⟨⟨v, hv, hrow, _⟩, hB⟩ ⟨Bp, hBp, hP, rfl⟩ hlt
  have hc := hv.cell
  have c0 := hP.cell 0
  have c1 := hP.cell 1
  simp only [getS] at c0 c1
  have hbase : w.heap.size + 1 ≤ V.heap.size := by have := hv.lt; omega
  gi_wp2_with (gi_at_builtin; refine wpListIn_append_own _ rfl _ _ 25 rfl (w.heap.size + 1) 50 i0 (.agg #[.int .i64 0, .int .i64 0]) 2 16 Tryz.underlying25 hi hz0 hz1 hz2 rfl (by decide) _ _ _ rfl (hrow.alloc _) ⟨V.heap.size, 0, none⟩ 1 1 [.int .i64 x.re, .int .i64 x.im] rfl rfl (news_two _ _ _ _) (by simp [Value.oneCell']) (by unfold maxLen; omega) (by omega) (by simp; omega) ?_; intro v' w2 hown' hgrow _; obtain ⟨g', cap', rfl⟩ := ownsRow_succ hown'; obtain ⟨hv1, hv2, hr2, hk2, hb2, hb3, hg2⟩ := Boxed.appended2 hv (by omega) hrow hbase hown' hgrow; have hc1 := hv1.cell; have hf1 := hv1.frozen)
  refine ⟨hk2.from _, ⟨hb2 _ (by omega) (by omega), hb2 _ (by omega) (by omega), hb2 _ (by omega) (by omega), hb2 _ (by omega) (by omega)⟩, ⟨_, hv2, ?_, trivial⟩, hB.trans (hb3 _ (Nat.le_refl _))⟩
  have e : gcells pre ++ [.int .i64 x.re, .int .i64 x.im] = gcells (pre ++ [x]) := (gcells_snoc pre x).symm
  rw [e] at hr2
  simpa using hr2
 case done =>
  rintro D ys W hD hS ⟨⟨v, hv, hrow, _⟩, hB⟩ hK
  have hc := hv.cell
  subst hS
  gi_wp2
  refine ⟨by simp, .inl ⟨_, _, rfl, run_takeDeferred hK, ?_⟩⟩
  exact ⟨_, results_tmp rfl _ _ _, v, rfl, CxsAt.of_row (ownsRow_putObj hrow _ hK rfl), ⟨hB.trans (belowK_b (w := w) (Nat.le_refl _) W D _ _ (by simp at hD; omega) hK rfl rfl)⟩⟩
 case stop =>
  rintro D c pre W _ _ h _
  exact h.elim
end
end Go.Proofs.YtdignnmpfkgkoaaGreat
