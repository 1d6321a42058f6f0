import Derived.Test.YtablflakcaimmaaGreatFftRunsS36
namespace Go.Proofs.YtablflakcaimmaaGreat
section
open Go.ChangeShapes Go.WideShapes Go.ChangeAt Go.RowKit
set_option linter.unusedVariables false
set_option linter.unusedSimpArgs false
set_option maxRecDepth 100000
theorem wmul3 (k u : Nat) (h : 3 * k * u ≤ 64) : wrap64 (3 * (k : Int) * (u : Int)) = ((3 * k * u : Nat) : Int) := by
 rw [show (3 : Int) * (k : Int) = ((3 * k : Nat) : Int) by simp]
 exact wmul (3 * k) u (by omega)
theorem CellsAt.set12 {W : World} {B : Nat} {t : TypeId} {a0 a1 a2 a3 a4 a5 a6 a7 a8 a9 a10 a11 : Value} (h : CellsAt W B t #[a0, a1, a2, a3, a4, a5, a6, a7, a8, a9, a10, a11]) (v0 v1 v2 v3 v4 v5 v6 v7 v8 v9 v10 v11 : Value) : CellsAt ((((((((((((W.setCell ⟨B, 0, none⟩ v0).setCell ⟨B, 1, none⟩ v1).setCell ⟨B, 2, none⟩ v2).setCell ⟨B, 3, none⟩ v3).setCell ⟨B, 4, none⟩ v4).setCell ⟨B, 5, none⟩ v5).setCell ⟨B, 6, none⟩ v6).setCell ⟨B, 7, none⟩ v7).setCell ⟨B, 8, none⟩ v8).setCell ⟨B, 9, none⟩ v9).setCell ⟨B, 10, none⟩ v10).setCell ⟨B, 11, none⟩ v11) B t #[v0, v1, v2, v3, v4, v5, v6, v7, v8, v9, v10, v11] := by
 have := ((((((((((((h.set 0 v0).set 1 v1).set 2 v2).set 3 v3).set 4 v4).set 5 v5).set 6 v6).set 7 v7).set 8 v8).set 9 v9).set 10 v10).set 11 v11)
 simpa using this
theorem CellsAt.set12_4 {W : World} {B : Nat} {t : TypeId} {a0 a1 a2 a3 a4 a5 a6 a7 a8 a9 a10 a11 : Value} (h : CellsAt W B t #[a0, a1, a2, a3, a4, a5, a6, a7, a8, a9, a10, a11]) (x y : Value) : CellsAt ((W.setCell ⟨B, 8, none⟩ x).setCell ⟨B, 9, none⟩ y) B t #[a0, a1, a2, a3, a4, a5, a6, a7, x, y, a10, a11] := by
 have := (h.set 8 x).set 9 y
 simpa using this
theorem CellsAt.set12_5 {W : World} {B : Nat} {t : TypeId} {a0 a1 a2 a3 a4 a5 a6 a7 a8 a9 a10 a11 : Value} (h : CellsAt W B t #[a0, a1, a2, a3, a4, a5, a6, a7, a8, a9, a10, a11]) (x y : Value) : CellsAt ((W.setCell ⟨B, 10, none⟩ x).setCell ⟨B, 11, none⟩ y) B t #[a0, a1, a2, a3, a4, a5, a6, a7, a8, a9, x, y] := by
 have := (h.set 10 x).set 11 y
 simpa using this
set_option maxHeartbeats 8000000 in
theorem rRun_2 (bits : Nat) (mo : Int) (inv : Bool) (pw : Option Addr) (b o n cw cx m h h2 u : Nat) (xs ws EL FL GL : List Gi) (T : Nat → Gi) (hl : xs.length = m) (hm : m = 4 * h) (hh2 : h2 = 2 * h) (h1 : 1 ≤ h) (hm64 : m ≤ 64) (hn : n = m * u) (hn64 : n ≤ 64) (hu : 1 ≤ u)
 (lE : EL.length = h2) (lF : FL.length = h) (lG : GL.length = h) (lw : ws.length = n)
 (HE : Hid (∀ px cx W, CxsAt W (.slice px h2 cx) ((List.range h2).map (pick xs 0 2)) → CxsAt W (.slice pw n cw) ws → Calls Tryz.prog 34 #[.slice px h2 cx, .slice pw n cw, .int .i64 bits, .int .i64 mo, .bool inv] W fun e w' => ∃ v, e = .returned v ∧ CxsAt w' v EL ∧ Gr W w'))
 (HF : Hid (∀ px cx W, CxsAt W (.slice px h cx) ((List.range h).map (pick xs 1 4)) → CxsAt W (.slice pw n cw) ws → Calls Tryz.prog 34 #[.slice px h cx, .slice pw n cw, .int .i64 bits, .int .i64 mo, .bool inv] W fun e w' => ∃ v, e = .returned v ∧ CxsAt w' v FL ∧ Gr W w'))
 (HG : Hid (∀ px cx W, CxsAt W (.slice px h cx) ((List.range h).map (pick xs 3 4)) → CxsAt W (.slice pw n cw) ws → Calls Tryz.prog 34 #[.slice px h cx, .slice pw n cw, .int .i64 bits, .int .i64 mo, .bool inv] W fun e w' => ∃ v, e = .returned v ∧ CxsAt w' v GL ∧ Gr W w'))
 (HRT : Hid (∀ j : Nat, j < n → ∀ W, CxsAt W (.slice pw n cw) ws → Calls Tryz.prog 67 #[.slice pw n cw, .int .i64 (j : Int), .bool inv] W fun e w' => e = .returned (.agg #[.int .i64 (rootOf ws inv j).re, .int .i64 (rootOf ws inv j).im]) ∧ Gr W w'))
 (HJ : Hid (∀ i, i < m → ∀ W, Calls Tryz.prog 68 #[.agg #[.int .i64 (EL.getD (i % h) ⟨0, 0⟩).re, .int .i64 (EL.getD (i % h) ⟨0, 0⟩).im, .int .i64 (EL.getD (h + i % h) ⟨0, 0⟩).re, .int .i64 (EL.getD (h + i % h) ⟨0, 0⟩).im, .int .i64 (FL.getD (i % h) ⟨0, 0⟩).re, .int .i64 (FL.getD (i % h) ⟨0, 0⟩).im, .int .i64 (GL.getD (i % h) ⟨0, 0⟩).re, .int .i64 (GL.getD (i % h) ⟨0, 0⟩).im, .int .i64 (rootOf ws inv (i % h * u)).re, .int .i64 (rootOf ws inv (i % h * u)).im, .int .i64 (rootOf ws inv (3 * (i % h) * u)).re, .int .i64 (rootOf ws inv (3 * (i % h) * u)).im], .int .i64 ((i / h : Nat) : Int), .int .i64 bits, .int .i64 mo, .bool inv] W fun e w' => e = .returned (.agg #[.int .i64 (T i).re, .int .i64 (T i).im]) ∧ Gr W w'))
 (w : World) (hbw : b < w.heap.size) (hC : ∀ j, j < m → w.cell? ⟨b, o + j * 2, none⟩ = some (.int .i64 (xs.getD j ⟨0, 0⟩).re) ∧ w.cell? ⟨b, o + j * 2 + 1, none⟩ = some (.int .i64 (xs.getD j ⟨0, 0⟩).im)) (VW : CxsAt w (.slice pw n cw) ws) :
 Calls Tryz.prog 34 #[.slice (some ⟨b, o, none⟩) m cx, .slice pw n cw, .int .i64 bits, .int .i64 mo, .bool inv] w fun e w' => ∃ v, e = .returned v ∧ CxsAt w' v ((List.range m).map T) ∧ Gr w w' := by
 obtain ⟨i0, hi, hz0, hz1, hz2⟩ := info_parts info_cx
 have HEV := Lib.hid fun (F S cnt : Nat) (hS1 : 1 ≤ S) (hS : S ≤ 4) (hN : (∀ q, F + S * q < m ↔ q < cnt) ∧ cnt ≤ 32 ∧ F + S * cnt ≤ 200) (W : World) (g : Gr w W) =>
  rEvery_c b o m cx F S cnt xs hm64 hS1 (by omega) hN.1 hN.2.1 hN.2.2 W (Nat.lt_of_lt_of_le hbw g.size) (fun j hj => ⟨(g.cell (p := ⟨b, _, none⟩) hbw).trans (hC j hj).1, (g.cell (p := ⟨b, _, none⟩) hbw).trans (hC j hj).2⟩)
 have HN0 := Lib.hid (show (∀ q, 0 + 2 * q < m ↔ q < h2) ∧ h2 ≤ 32 ∧ 0 + 2 * h2 ≤ 200 from ⟨fun q => by omega, by omega, by omega⟩)
 have HN1 := Lib.hid (show (∀ q, 1 + 4 * q < m ↔ q < h) ∧ h ≤ 32 ∧ 1 + 4 * h ≤ 200 from ⟨fun q => by omega, by omega, by omega⟩)
 have HN3 := Lib.hid (show (∀ q, 3 + 4 * q < m ↔ q < h) ∧ h ≤ 32 ∧ 3 + 4 * h ≤ 200 from ⟨fun q => by omega, by omega, by omega⟩)
 have HRN := Lib.hid fun i hi => round_nums h u m n i hm hn h1 hu hm64 hn64 hi
 have hm1 : ¬ (m : Int) = 1 := by omega
 have hm2 : ¬ (m : Int) = 2 := by omega
 have hm1' : ¬ m = 1 := by omega
 have hm2' : ¬ m = 2 := by omega
 have hnu : (n : Int) / (m : Int) = (u : Int) := by
  have : (n : Int) = (m : Int) * (u : Int) := by rw [hn]; simp
  rw [this]
  exact Int.mul_ediv_cancel_left _ (by omega)
 have hmz : ¬ (m : Int) = 0 := by omega
 have hhz : ¬ (h : Int) = 0 := by omega
 have hule : u ≤ 64 := by
  have : 1 * u ≤ m * u := Nat.mul_le_mul_right _ (by omega)
  omega
 have HQ := Lib.hid (And.intro hn (And.intro hm hh2))
 clear hC hl hm hn hh2
 go_enter Tryz.func34, Tryz.ntmps34
 go_wp2_with fail
 refine (HEV.out 0 2 h2 (by omega) (by omega) HN0.out w (Gr.refl w)).mono ?_
 rintro e w1a ⟨v1a, rfl, hv1a, g1a⟩
 obtain ⟨pea, cea, hvea⟩ := hv1a.len
 rw [List.length_map, List.length_range] at hvea
 subst hvea
 replace VW := VW.gr g1a
 have z1a := ((Gr.refl w)).trans g1a
 go_wp2_with fail
 refine (HE.out _ _ _ hv1a VW).mono ?_
 rintro e w2a ⟨v2a, rfl, WE, g2a⟩
 obtain ⟨pWE, cWE, hve2a⟩ := WE.len
 rw [lE] at hve2a
 subst hve2a
 replace VW := VW.gr g2a
 have z2a := z1a.trans g2a
 go_wp2_with fail
 refine (HEV.out 1 4 h (by omega) (by omega) HN1.out w2a z2a).mono ?_
 rintro e w1b ⟨v1b, rfl, hv1b, g1b⟩
 obtain ⟨peb, ceb, hveb⟩ := hv1b.len
 rw [List.length_map, List.length_range] at hveb
 subst hveb
 replace VW := VW.gr g1b
 have z1b := z2a.trans g1b
 go_wp2_with fail
 refine (HF.out _ _ _ hv1b VW).mono ?_
 rintro e w2b ⟨v2b, rfl, WF, g2b⟩
 obtain ⟨pWF, cWF, hve2b⟩ := WF.len
 rw [lF] at hve2b
 subst hve2b
 replace VW := VW.gr g2b
 have z2b := z1b.trans g2b
 replace WE := WE.gr (g1b.trans g2b)
 go_wp2_with fail
 refine (HEV.out 3 4 h (by omega) (by omega) HN3.out w2b z2b).mono ?_
 rintro e w1c ⟨v1c, rfl, hv1c, g1c⟩
 obtain ⟨pec, cec, hvec⟩ := hv1c.len
 rw [List.length_map, List.length_range] at hvec
 subst hvec
 replace VW := VW.gr g1c
 have z1c := z2b.trans g1c
 go_wp2_with fail
 refine (HG.out _ _ _ hv1c VW).mono ?_
 rintro e w2c ⟨v2c, rfl, WG, g2c⟩
 obtain ⟨pWG, cWG, hve2c⟩ := WG.len
 rw [lG] at hve2c
 subst hve2c
 replace VW := VW.gr g2c
 have z2c := z1c.trans g2c
 replace WE := WE.gr (g1c.trans g2c)
 replace WF := WF.gr (g1c.trans g2c)
 have zz := z2c
 clear HEV HN0 HN1 HN3 HE HF HG g1a g2a g1b g2b g1c g2c z1a z2a z1b z2b z1c z2c hv1a hv1b hv1c
 obtain ⟨bE, oE, cE', hvv, _, hbE, hcE⟩ := WE.at (by intro e; rw [e] at lE; simp at lE; have := HQ.out.2.2; omega)
 rw [lE] at hvv
 cases hvv
 obtain ⟨bF, oF, cF', hvv, _, hbF, hcF⟩ := WF.at (by intro e; rw [e] at lF; simp at lF; omega)
 rw [lF] at hvv
 cases hvv
 obtain ⟨bG, oG, cG', hvv, _, hbG, hcG⟩ := WG.at (by intro e; rw [e] at lG; simp at lG; omega)
 rw [lG] at hvv
 cases hvv
 have HCE := Lib.hid fun j (hj : j < h2) => CxsAt.getD (n := 0) (cap := 0) hcE j (by omega)
 have HCF := Lib.hid fun j (hj : j < h) => CxsAt.getD (n := 0) (cap := 0) hcF j (by omega)
 have HCG := Lib.hid fun j (hj : j < h) => CxsAt.getD (n := 0) (cap := 0) hcG j (by omega)
 have HVW := Lib.hid VW
 clear WE WF WG hcE hcF hcG VW
 go_wp2_with fail
 obtain ⟨w7, hw7⟩ : ∃ zz, zz = w2c := ⟨_, rfl⟩
 rw [← hw7] at zz HCE HCF HCG HVW hbE hbF hbG ⊢
 clear hw7
 have hs0 : ((w7.alloc (.cells #[] 55)).ownsRow w7.heap.size 55 2 (.slice (some ⟨w7.heap.size, 0, none⟩) 0 0) 0 []) := World.ownsRow_made w7 #[] 0 (Nat.le_refl _) (by unfold maxLen; omega) (by simp)
 go_loopw [18, 19] (fun out i wr => ∃ j : Nat, j ≤ m ∧ i = .int .i64 j ∧ wr.ownsRow w7.heap.size 55 2 out j (gcells ((List.range j).map T)) ∧ Gr w7 wr)
  (fun _ i _ => m - (intOf i).toNat)
 case atStart => exact ⟨0, by omega, rfl, hs0, (Gr.refl w7).alloc _ _⟩
 case round =>
  clear hs0
  obtain ⟨i, him, rfl, hrow, hg⟩ := hrel
  by_cases hlt : i < m
  ·have hilt : (i : Int) < m := by omega
   have HE5 := Lib.hid (wmul3 (i % h) u (Nat.le_trans (Nat.le_of_lt (HRN.out i hlt).1.2.2.2.1) hn64))
   obtain ⟨⟨a1, a2, a3, a4, a5⟩, ⟨d1, d2, d3, d4, d5, d6⟩, e1, e2, e3, e4⟩ := HRN.out i hlt
   have HJ1 := Lib.hid (HJ.out i hlt)
   have HR1 := Lib.hid (HRT.out _ a3)
   have HR2 := Lib.hid (HRT.out _ a4)
   have k0 := HCE.out (i % h) (by have := HQ.out.2.2; omega)
   have k1 := HCE.out (h + i % h) (by have := HQ.out.2.2; omega)
   have k2 := HCF.out (i % h) a1
   have k3 := HCG.out (i % h) a1
   have ER := Lib.hid (show (List.range (i + 1)).map T = (List.range i).map T ++ [T i] by rw [List.range_succ, List.map_append]; rfl)
   have n1 : ((i % h : Nat) : Int) < (h : Int) := by omega
   have n2 : ((i % h : Nat) : Int) < (h2 : Int) := by have := HQ.out.2.2; omega
   have n3 : ((h + i % h : Nat) : Int) < (h2 : Int) := by have := HQ.out.2.2; omega
   have n2' : i % h < h2 := by have := HQ.out.2.2; omega
   have n3' : h + i % h < h2 := by have := HQ.out.2.2; omega
   clear a3 a4 a5
   generalize rootOf ws inv (i % h * u) = Q1 at *
   generalize rootOf ws inv (3 * (i % h) * u) = Q2 at *
   generalize EL.getD (i % h) ⟨0, 0⟩ = A0 at *
   generalize EL.getD (h + i % h) ⟨0, 0⟩ = A1 at *
   generalize FL.getD (i % h) ⟨0, 0⟩ = A2 at *
   generalize GL.getD (i % h) ⟨0, 0⟩ = A3 at *
   generalize T i = Ti at *
   obtain ⟨re, im⟩ := Ti
   generalize h + i % h = hk at *
   generalize 3 * (i % h) * u = k3u at *
   generalize 3 * (i % h) = kk3 at *
   generalize i % h * u = ku at *
   generalize i % h = k at *
   generalize i / h = q at *
   have HE4 := Lib.hid (And.intro e2 (And.intro e3 e4))
   have HE1 := Lib.hid e1
   clear e1 e2 e3 e4
   go_wp2_with fail
   try simp only [d1, d3]
   have KS : ∀ W, Gr wr W → (W.cell? ⟨bE, oE + k * 2, none⟩ = some (.int .i64 A0.re) ∧ W.cell? ⟨bE, oE + k * 2 + 1, none⟩ = some (.int .i64 A0.im) ∧ W.cell? ⟨bE, oE + hk * 2, none⟩ = some (.int .i64 A1.re) ∧ W.cell? ⟨bE, oE + hk * 2 + 1, none⟩ = some (.int .i64 A1.im) ∧ W.cell? ⟨bF, oF + k * 2, none⟩ = some (.int .i64 A2.re) ∧ W.cell? ⟨bF, oF + k * 2 + 1, none⟩ = some (.int .i64 A2.im) ∧ W.cell? ⟨bG, oG + k * 2, none⟩ = some (.int .i64 A3.re) ∧ W.cell? ⟨bG, oG + k * 2 + 1, none⟩ = some (.int .i64 A3.im)) := fun W hG =>
    ⟨((hg.trans hG).cell (p := ⟨bE, _, none⟩) hbE).trans k0.1, ((hg.trans hG).cell (p := ⟨bE, _, none⟩) hbE).trans k0.2, ((hg.trans hG).cell (p := ⟨bE, _, none⟩) hbE).trans k1.1, ((hg.trans hG).cell (p := ⟨bE, _, none⟩) hbE).trans k1.2, ((hg.trans hG).cell (p := ⟨bF, _, none⟩) hbF).trans k2.1, ((hg.trans hG).cell (p := ⟨bF, _, none⟩) hbF).trans k2.2, ((hg.trans hG).cell (p := ⟨bG, _, none⟩) hbG).trans k3.1, ((hg.trans hG).cell (p := ⟨bG, _, none⟩) hbG).trans k3.2⟩
   clear k0 k1 k2 k3
   have e1 := HE1.out
   have ewh : IntKind.i64.wrap (h : Int) = (h : Int) := IntWalk.i64_in _ ⟨by omega, by omega⟩
   have hclG := gr_closed wr
   try simp only [List.append_eq, List.cons_append, List.nil_append]
   refine wp_region_grow (S := Gr wr) rfl (Gr.drew (Gr.refl _)) ?_
   refine gT 0 hclG ?_
   refine gT 1 hclG ?_
   refine gT 2 hclG ?_
   refine gK 3 hclG KS ?_
   refine gT 4 hclG ?_
   refine gT 5 hclG ?_
   refine gT 6 hclG ?_
   refine gT 7 hclG ?_
   refine gT 8 hclG ?_
   refine gT 9 hclG ?_
   refine gK 10 hclG KS ?_
   refine gT 11 hclG ?_
   refine gT 12 hclG ?_
   refine gT 13 hclG ?_
   refine gK 14 hclG KS ?_
   refine gT 15 hclG ?_
   refine gT 16 hclG ?_
   refine gT 17 hclG ?_
   refine gK 18 hclG KS ?_
   refine gT 19 hclG ?_
   refine gR 20 fun wa ga sa K hK => ?_
   replace ga := (Gr.drew (Gr.refl wr)).trans ga
   have hza := ga.size
   have hzr := hg.size
   go_simp
   have J0 := CellsAt.new wa 103 #[.int .i64 0, .int .i64 0, .int .i64 0, .int .i64 0, .int .i64 0, .int .i64 0, .int .i64 0, .int .i64 0, .int .i64 0, .int .i64 0, .int .i64 0, .int .i64 0]
   refine hK.out _ _ ?_ ?_
   ·exact ga.alloc _ _
   clear hK K
   try simp only [Act.put, putS]
   refine gR 21 fun wb gb sb K hK => ?_
   have J1 := J0.gr gb
   have lJ := J1.lt
   clear J0 ga sa gb
   have mJ0 := CellsAt.frozen (J1) 0
   have cJ0 := J1.at 0
   have mJ1 := CellsAt.frozen (J1) 1
   have cJ1 := J1.at 1
   have mJ2 := CellsAt.frozen (J1) 2
   have cJ2 := J1.at 2
   have mJ3 := CellsAt.frozen (J1) 3
   have cJ3 := J1.at 3
   have mJ4 := CellsAt.frozen (J1) 4
   have cJ4 := J1.at 4
   have mJ5 := CellsAt.frozen (J1) 5
   have cJ5 := J1.at 5
   have mJ6 := CellsAt.frozen (J1) 6
   have cJ6 := J1.at 6
   have mJ7 := CellsAt.frozen (J1) 7
   have cJ7 := J1.at 7
   have mJ8 := CellsAt.frozen (J1) 8
   have cJ8 := J1.at 8
   have mJ9 := CellsAt.frozen (J1) 9
   have cJ9 := J1.at 9
   have mJ10 := CellsAt.frozen (J1) 10
   have cJ10 := J1.at 10
   have mJ11 := CellsAt.frozen (J1) 11
   have cJ11 := J1.at 11
   go_simp
   clear mJ0 cJ0 mJ1 cJ1 mJ2 cJ2 mJ3 cJ3 mJ4 cJ4 mJ5 cJ5 mJ6 cJ6 mJ7 cJ7 mJ8 cJ8 mJ9 cJ9 mJ10 cJ10 mJ11 cJ11
   obtain ⟨wc, hqp1⟩ : ∃ zz, zz = ((((((((((((wb.setCell ⟨wa.heap.size, 0, none⟩ (.int .i64 A0.re)).setCell ⟨wa.heap.size, 1, none⟩ (.int .i64 A0.im)).setCell ⟨wa.heap.size, 2, none⟩ (.int .i64 A1.re)).setCell ⟨wa.heap.size, 3, none⟩ (.int .i64 A1.im)).setCell ⟨wa.heap.size, 4, none⟩ (.int .i64 A2.re)).setCell ⟨wa.heap.size, 5, none⟩ (.int .i64 A2.im)).setCell ⟨wa.heap.size, 6, none⟩ (.int .i64 A3.re)).setCell ⟨wa.heap.size, 7, none⟩ (.int .i64 A3.im)).setCell ⟨wa.heap.size, 8, none⟩ (.int .i64 0)).setCell ⟨wa.heap.size, 9, none⟩ (.int .i64 0)).setCell ⟨wa.heap.size, 10, none⟩ (.int .i64 0)).setCell ⟨wa.heap.size, 11, none⟩ (.int .i64 0)) := ⟨_, rfl⟩
   have YJ_p1 : CellsAt wc (wa.heap.size) 103 #[.int .i64 A0.re, .int .i64 A0.im, .int .i64 A1.re, .int .i64 A1.im, .int .i64 A2.re, .int .i64 A2.im, .int .i64 A3.re, .int .i64 A3.im, .int .i64 0, .int .i64 0, .int .i64 0, .int .i64 0] := by rw [hqp1]; exact CellsAt.set12 J1 _ _ _ _ _ _ _ _ _ _ _ _
   have yp1 : Gr wr wc := by rw [hqp1]; exact (((((((((((sb.sc _).sc _).sc _).sc _).sc _).sc _).sc _).sc _).sc _).sc _).sc _).sc _
   rw [← hqp1]
   clear hqp1
   refine hK.out _ _ ?_ ?_
   ·exact yp1
   clear hK K
   try simp only [Act.put, putS]
   refine wpG_done (by kernel_rfl) (fun w8 g8 => ?_) _
   have ⟨FJ_8, lJ_8⟩ := YJ_p1.gl g8
   have z8 := yp1.trans g8
   clear YJ_p1 yp1 g8
   clear hclG KS e1 ewh
   obtain ⟨e2, e3, e4⟩ := HE4.out
   clear HE4
   go_wp2_with fail
   refine (HR1.out _ (HVW.out.gr (hg.trans z8))).mono ?_
   rintro e w1 ⟨rfl, g1⟩
   have ⟨FJ_1, lJ_1⟩ := FJ_8.gl g1
   have z1 := z8.trans g1
   clear FJ_8 z8 g1
   have mJ0 := CellsAt.frozen (FJ_1) 0
   have cJ0 := FJ_1.at 0
   have mJ1 := CellsAt.frozen (FJ_1) 1
   have cJ1 := FJ_1.at 1
   have mJ2 := CellsAt.frozen (FJ_1) 2
   have cJ2 := FJ_1.at 2
   have mJ3 := CellsAt.frozen (FJ_1) 3
   have cJ3 := FJ_1.at 3
   have mJ4 := CellsAt.frozen (FJ_1) 4
   have cJ4 := FJ_1.at 4
   have mJ5 := CellsAt.frozen (FJ_1) 5
   have cJ5 := FJ_1.at 5
   have mJ6 := CellsAt.frozen (FJ_1) 6
   have cJ6 := FJ_1.at 6
   have mJ7 := CellsAt.frozen (FJ_1) 7
   have cJ7 := FJ_1.at 7
   have mJ8 := CellsAt.frozen (FJ_1) 8
   have cJ8 := FJ_1.at 8
   have mJ9 := CellsAt.frozen (FJ_1) 9
   have cJ9 := FJ_1.at 9
   have mJ10 := CellsAt.frozen (FJ_1) 10
   have cJ10 := FJ_1.at 10
   have mJ11 := CellsAt.frozen (FJ_1) 11
   have cJ11 := FJ_1.at 11
   go_wp2_with fail
   clear mJ0 cJ0 mJ1 cJ1 mJ2 cJ2 mJ3 cJ3 mJ4 cJ4 mJ5 cJ5 mJ6 cJ6 mJ7 cJ7 mJ8 cJ8 mJ9 cJ9 mJ10 cJ10 mJ11 cJ11
   clear e2 e3 e4
   obtain ⟨wd, hqp2⟩ : ∃ zz, zz = ((w1.setCell ⟨wa.heap.size, 8, none⟩ (.int .i64 Q1.re)).setCell ⟨wa.heap.size, 9, none⟩ (.int .i64 Q1.im)) := ⟨_, rfl⟩
   have YJ_p2 : CellsAt wd (wa.heap.size) 103 #[.int .i64 A0.re, .int .i64 A0.im, .int .i64 A1.re, .int .i64 A1.im, .int .i64 A2.re, .int .i64 A2.im, .int .i64 A3.re, .int .i64 A3.im, .int .i64 Q1.re, .int .i64 Q1.im, .int .i64 0, .int .i64 0] := by rw [hqp2]; first | exact CellsAt.set12_4 FJ_1 _ _ | simpa using CellsAt.set12_4 FJ_1 _ _
   have yp2 : Gr wr wd := by rw [hqp2]; exact (z1.sc _).sc _
   rw [← hqp2]
   clear hqp2
   rw [HE5.out]
   refine (HR2.out _ (HVW.out.gr (hg.trans yp2))).mono ?_
   rintro e w2 ⟨rfl, g2⟩
   clear HR1 HR2 HE5
   have ⟨FJ_2, lJ_2⟩ := YJ_p2.gl g2
   have z2 := yp2.trans g2
   clear YJ_p2 yp2 g2
   have mJ0 := CellsAt.frozen (FJ_2) 0
   have cJ0 := FJ_2.at 0
   have mJ1 := CellsAt.frozen (FJ_2) 1
   have cJ1 := FJ_2.at 1
   have mJ2 := CellsAt.frozen (FJ_2) 2
   have cJ2 := FJ_2.at 2
   have mJ3 := CellsAt.frozen (FJ_2) 3
   have cJ3 := FJ_2.at 3
   have mJ4 := CellsAt.frozen (FJ_2) 4
   have cJ4 := FJ_2.at 4
   have mJ5 := CellsAt.frozen (FJ_2) 5
   have cJ5 := FJ_2.at 5
   have mJ6 := CellsAt.frozen (FJ_2) 6
   have cJ6 := FJ_2.at 6
   have mJ7 := CellsAt.frozen (FJ_2) 7
   have cJ7 := FJ_2.at 7
   have mJ8 := CellsAt.frozen (FJ_2) 8
   have cJ8 := FJ_2.at 8
   have mJ9 := CellsAt.frozen (FJ_2) 9
   have cJ9 := FJ_2.at 9
   have mJ10 := CellsAt.frozen (FJ_2) 10
   have cJ10 := FJ_2.at 10
   have mJ11 := CellsAt.frozen (FJ_2) 11
   have cJ11 := FJ_2.at 11
   go_wp2_with fail
   clear mJ0 cJ0 mJ1 cJ1 mJ2 cJ2 mJ3 cJ3 mJ4 cJ4 mJ5 cJ5 mJ6 cJ6 mJ7 cJ7 mJ8 cJ8 mJ9 cJ9 mJ10 cJ10 mJ11 cJ11
   obtain ⟨we, hqp3⟩ : ∃ zz, zz = ((w2.setCell ⟨wa.heap.size, 10, none⟩ (.int .i64 Q2.re)).setCell ⟨wa.heap.size, 11, none⟩ (.int .i64 Q2.im)) := ⟨_, rfl⟩
   have YJ_p3 : CellsAt we (wa.heap.size) 103 #[.int .i64 A0.re, .int .i64 A0.im, .int .i64 A1.re, .int .i64 A1.im, .int .i64 A2.re, .int .i64 A2.im, .int .i64 A3.re, .int .i64 A3.im, .int .i64 Q1.re, .int .i64 Q1.im, .int .i64 Q2.re, .int .i64 Q2.im] := by rw [hqp3]; first | exact CellsAt.set12_5 FJ_2 _ _ | simpa using CellsAt.set12_5 FJ_2 _ _
   have yp3 : Gr wr we := by rw [hqp3]; exact (z2.sc _).sc _
   rw [← hqp3]
   clear hqp3
   have ewh : IntKind.i64.wrap (h : Int) = (h : Int) := IntWalk.i64_in _ ⟨by omega, by omega⟩
   have ewq : IntKind.i64.wrap ((q : Nat) : Int) = (q : Int) := IntWalk.i64_in _ ⟨by omega, by omega⟩
   have h0n : ¬ h = 0 := by omega
   have SZ : Gr w7 we := hg.trans yp3
   have hclG : ∀ w v, (Gr w7 w ∧ CellsAt w wa.heap.size 103 #[.int .i64 A0.re, .int .i64 A0.im, .int .i64 A1.re, .int .i64 A1.im, .int .i64 A2.re, .int .i64 A2.im, .int .i64 A3.re, .int .i64 A3.im, .int .i64 Q1.re, .int .i64 Q1.im, .int .i64 Q2.re, .int .i64 Q2.im]) → Gr w v → (Gr w7 v ∧ CellsAt v wa.heap.size 103 #[.int .i64 A0.re, .int .i64 A0.im, .int .i64 A1.re, .int .i64 A1.im, .int .i64 A2.re, .int .i64 A2.im, .int .i64 A3.re, .int .i64 A3.im, .int .i64 Q1.re, .int .i64 Q1.im, .int .i64 Q2.re, .int .i64 Q2.im]) := fun _ _ h k => ⟨h.1.trans k, h.2.gr k⟩
   have KS : ∀ W, (Gr w7 W ∧ CellsAt W wa.heap.size 103 #[.int .i64 A0.re, .int .i64 A0.im, .int .i64 A1.re, .int .i64 A1.im, .int .i64 A2.re, .int .i64 A2.im, .int .i64 A3.re, .int .i64 A3.im, .int .i64 Q1.re, .int .i64 Q1.im, .int .i64 Q2.re, .int .i64 Q2.im]) → (W.cell? ⟨wa.heap.size, 0, none⟩ = some (.int .i64 A0.re) ∧ W.cell? ⟨wa.heap.size, 1, none⟩ = some (.int .i64 A0.im) ∧ W.cell? ⟨wa.heap.size, 2, none⟩ = some (.int .i64 A1.re) ∧ W.cell? ⟨wa.heap.size, 3, none⟩ = some (.int .i64 A1.im) ∧ W.cell? ⟨wa.heap.size, 4, none⟩ = some (.int .i64 A2.re) ∧ W.cell? ⟨wa.heap.size, 5, none⟩ = some (.int .i64 A2.im) ∧ W.cell? ⟨wa.heap.size, 6, none⟩ = some (.int .i64 A3.re) ∧ W.cell? ⟨wa.heap.size, 7, none⟩ = some (.int .i64 A3.im) ∧ W.cell? ⟨wa.heap.size, 8, none⟩ = some (.int .i64 Q1.re) ∧ W.cell? ⟨wa.heap.size, 9, none⟩ = some (.int .i64 Q1.im) ∧ W.cell? ⟨wa.heap.size, 10, none⟩ = some (.int .i64 Q2.re) ∧ W.cell? ⟨wa.heap.size, 11, none⟩ = some (.int .i64 Q2.im)) := fun W hS => ⟨hS.2.cell 0, hS.2.cell 1, hS.2.cell 2, hS.2.cell 3, hS.2.cell 4, hS.2.cell 5, hS.2.cell 6, hS.2.cell 7, hS.2.cell 8, hS.2.cell 9, hS.2.cell 10, hS.2.cell 11⟩
   have HROW := Lib.hid (And.intro hrow (And.intro hg yp3))
   clear hrow
   try simp only [List.append_eq, List.cons_append, List.nil_append]
   refine wp_region_grow (S := fun W => Gr w7 W ∧ CellsAt W wa.heap.size 103 #[.int .i64 A0.re, .int .i64 A0.im, .int .i64 A1.re, .int .i64 A1.im, .int .i64 A2.re, .int .i64 A2.im, .int .i64 A3.re, .int .i64 A3.im, .int .i64 Q1.re, .int .i64 Q1.im, .int .i64 Q2.re, .int .i64 Q2.im]) rfl ⟨Gr.drew SZ, CellsAt.gr YJ_p3 (Gr.drew (Gr.refl _))⟩ ?_
   refine gT 0 hclG ?_
   refine gK 1 hclG KS ?_
   refine gT 2 hclG ?_
   refine gT 3 hclG ?_
   refine gT 4 hclG ?_
   refine gT 5 hclG ?_
   refine gT 6 hclG ?_
   refine gT 7 hclG ?_
   refine gT 8 hclG ?_
   refine wpG_call (i := 9) hclG rfl (by kernel_rfl) (by kernel_rfl) (by kernel_rfl) (fun _ _ _ h => h) (fun W hS => HJ1.out W) (by rfl) ?_ ?_
   ·(intro w' hSw; go_simp; try with_reducible rfl)
   try simp only [Act.put, putS]
   refine gR 10 fun wf gf sf K hK => ?_
   replace gf := (Gr.drew (Gr.refl we)).trans gf
   go_simp
   have L0 := CellsAt.new wf 55 #[.int .i64 re, .int .i64 im]
   refine hK.out _ _ ?_ ?_
   ·exact ⟨sf.1.alloc _ _, sf.2.alloc _⟩
   clear hK K
   try simp only [Act.put, putS]
   refine gR 11 fun wg gg sg K hK => ?_
   have L1 := L0.gr gg
   have hnews := World.news_of_block L1
   have GG := (gf.alloc #[.int .i64 re, .int .i64 im] 55).trans gg
   have hrw := ownsRow_gr HROW.out.1 (HROW.out.2.2.trans GG)
   have hsg := sg.1.size
   have hlg := sg.2.lt
   refine Go.step_append_lies _ rfl (.tmp 120) (.tmp 130) 22 rfl w7.heap.size 55 i0 (.agg #[.int .i64 0, .int .i64 0]) 2 16 Tryz.underlying22 hi hz0 hz1 hz2 rfl (by decide) u18 i _ rfl hrw ⟨wf.heap.size, 0, none⟩ 1 1 [.int .i64 re, .int .i64 im] rfl rfl hnews (by simp [Value.oneCell']) (by omega) (by unfold maxLen; omega) (by omega) (by omega) _ rfl ?_
   intro gb gcap wh hown8 hgrow8 hor8 hlt8
   refine hK.out _ _ ?_ ?_
   ·exact ⟨sg.1.grown hgrow8 (fun k e => (HROW.out.1.lt k e).1), CellsAt.grown sg.2 hgrow8 (fun e => by have h1 := (HROW.out.1.lt _ e.symm).2; omega)⟩
   clear hK K
   try simp only [Act.put, putS]
   refine gT 12 hclG ?_
   refine wpG_done (by kernel_rfl) (fun wi gi => ?_) _
   have e : gcells ((List.range i).map T) ++ [.int .i64 re, .int .i64 im] = gcells ((List.range (i + 1)).map T) := by rw [ER.out, gcells_snoc]
   rw [e] at hown8
   have hown9 := ownsRow_gr hown8 gi
   have gz := (sg.1.grown hgrow8 (fun k e => (HROW.out.1.lt k e).1)).trans gi
   clear hclG KS ewh ewq L0 L1 hnews GG hrw sf sg gf gg hgrow8 hor8
   go_wp2_with fail
   go_roundw
   case rel => exact ⟨i + 1, by omega, by go_num, hown9, gz⟩
   case measure => simp [intOf] <;> omega
  ·obtain rfl : i = m := by omega
   clear HCE HCF HCG HVW HRN HJ HRT
   go_wp2_with fail
   go_ret
   exact ⟨_, rfl, CxsAt.of_row hrow, zz.trans hg⟩
theorem rRun12_c (bits : Nat) (mo : Int) (inv : Bool) (ws : List Gi) (L n : Nat) (hL : L ≤ 6) (hn : n = 2 ^ L) (lw : ws.length = n) (hb : bits ≤ 29) (m0 : 0 ≤ mo) (m1 : mo ≤ 2)
 (hW : ∀ k, Len (2 ^ bits + 2) (rootOf ws inv k)) (hWb : ∀ k, k < n → Bd (2 ^ bits) (ws.getD k ⟨0, 0⟩)) (R : Int) (hR : 0 ≤ R) (hRB : R + 30 ≤ 3 * 2 ^ bits) (pw : Option Addr) (cw : Nat) :
 ∀ (l : Nat), l ≤ L → ∀ (xs : List Gi) (px : Option Addr) (cx : Nat) (w : World), xs.length = 2 ^ l → (∀ j, j < 2 ^ l → Len R (xs.getD j ⟨0, 0⟩)) → CxsAt w (.slice px (2 ^ l : Nat) cx) xs → CxsAt w (.slice pw n cw) ws →
  Calls Tryz.prog 34 #[.slice px (2 ^ l : Nat) cx, .slice pw n cw, .int .i64 bits, .int .i64 mo, .bool inv] w fun e w' => ∃ v, e = .returned v ∧ CxsAt w' v (sL bits mo inv ws l xs) ∧ Gr w w'
 | 0, _, xs, px, cx, w, hl, hx, vx, vw => by
   rw [sL_zero _ _ _ _ _ hl]
   exact rRun_0 bits mo inv pw px n cw cx xs w vx
 | 1, _, xs, px, cx, w, hl, hx, vx, vw => by
   rw [sL_one]
   obtain ⟨b, o, cap, hv, _, hbl, hc⟩ := vx.at (by intro e; rw [e] at hl; simp at hl)
   rw [hl] at hv
   cases hv
   have k0 := CxsAt.getD (n := 0) (cap := 0) hc 0 (by omega)
   have k1 := CxsAt.getD (n := 0) (cap := 0) hc 1 (by omega)
   have b0 := Len.bd31 hb hR (by omega) (hx 0 (by omega))
   have b1 := Len.bd31 hb hR (by omega) (hx 1 (by omega))
   have s := (b0.add b1).le
   have d := (b0.sub b1).le
   have s1 : (-9223372036854775808 ≤ (xs.getD 0 ⟨0, 0⟩).re + (xs.getD 1 ⟨0, 0⟩).re ∧ (xs.getD 0 ⟨0, 0⟩).re + (xs.getD 1 ⟨0, 0⟩).re ≤ 9223372036854775807) ∧ -9223372036854775808 ≤ (xs.getD 0 ⟨0, 0⟩).im + (xs.getD 1 ⟨0, 0⟩).im ∧ (xs.getD 0 ⟨0, 0⟩).im + (xs.getD 1 ⟨0, 0⟩).im ≤ 9223372036854775807 := by
    simp only [gadd] at s; omega
   have d1 : (-9223372036854775808 ≤ (xs.getD 0 ⟨0, 0⟩).re - (xs.getD 1 ⟨0, 0⟩).re ∧ (xs.getD 0 ⟨0, 0⟩).re - (xs.getD 1 ⟨0, 0⟩).re ≤ 9223372036854775807) ∧ -9223372036854775808 ≤ (xs.getD 0 ⟨0, 0⟩).im - (xs.getD 1 ⟨0, 0⟩).im ∧ (xs.getD 0 ⟨0, 0⟩).im - (xs.getD 1 ⟨0, 0⟩).im ≤ 9223372036854775807 := by
    simp only [gsub] at d; omega
   exact rRun_1 bits mo inv pw b o n cw cx _ _ _ _ _ _ (Lib.hid fun W => rsum_gi _ _ s1.1 s1.2 W) (Lib.hid fun W => rless_gi _ _ d1.1 d1.2 W)
    (Lib.hid fun W => rshift03_gi _ 1 mo s1 (by omega) m0 m1 W) (Lib.hid fun W => rshift03_gi _ 1 mo d1 (by omega) m0 m1 W) w hbl (by simpa using k0.1) (by simpa using k0.2) (by simpa using k1.1) (by simpa using k1.2)
 | k + 2, hk, xs, px, cx, w, hl, hx, vx, vw => by
   have ih1 := rRun12_c bits mo inv ws L n hL hn lw hb m0 m1 hW hWb R hR hRB pw cw (k + 1) (by omega)
   have ih2 := rRun12_c bits mo inv ws L n hL hn lw hb m0 m1 hW hWb R hR hRB pw cw k (by omega)
   obtain ⟨hu, hdu⟩ := len_units k L n hk hn
   have hp6 : 2 ^ (k + 2) ≤ 64 := Nat.pow_le_pow_right (n := 2) (by omega) (show k + 2 ≤ 6 by omega)
   have hn6 : n ≤ 64 := by rw [hn]; exact Nat.pow_le_pow_right (n := 2) (by omega) hL
   have hp0 := Nat.two_pow_pos k
   have hu0 := Nat.two_pow_pos (L - (k + 2))
   have e1 : 2 ^ (k + 1) = 2 * 2 ^ k := by rw [Nat.pow_succ]; omega
   have e2 : 2 ^ (k + 2) = 4 * 2 ^ k := by rw [Nat.pow_succ, Nat.pow_succ]; omega
   obtain ⟨b, o, cap, hv, _, hbl, hc⟩ := vx.at (by intro e; rw [e] at hl; simp at hl; omega)
   rw [hl] at hv
   cases hv
   have hxe : ∀ j, j < 2 ^ (k + 1) → Len R (xs.getD (0 + 2 * j) ⟨0, 0⟩) := fun j hj => hx _ (by omega)
   have hxf : ∀ j, j < 2 ^ k → Len R (xs.getD (1 + 4 * j) ⟨0, 0⟩) := fun j hj => hx _ (by omega)
   have hxg : ∀ j, j < 2 ^ k → Len R (xs.getD (3 + 4 * j) ⟨0, 0⟩) := fun j hj => hx _ (by omega)
   have hm : mo = 0 ∨ mo = 1 ∨ mo = 2 := by omega
   have bE : ∀ j, j < 2 ^ (k + 1) → Bd 2147483648 ((sL bits mo inv ws (k + 1) ((List.range (2 ^ (k + 1))).map (pick xs 0 2))).getD j ⟨0, 0⟩) := fun j hj => by
    rw [sL_pick _ _ _ _ _ _ _ _ _ hj]
    exact Len.bd31 hb (by omega) (by omega) (spl_len bits mo inv _ _ hm hW (k + 1) R _ hR (by omega) hxe j hj)
   have bF : ∀ F j, j < 2 ^ k → (∀ j, j < 2 ^ k → Len R (xs.getD (F + 4 * j) ⟨0, 0⟩)) → Bd 2147483648 ((sL bits mo inv ws k ((List.range (2 ^ k)).map (pick xs F 4))).getD j ⟨0, 0⟩) := fun F j hj hh => by
    rw [sL_pick _ _ _ _ _ _ _ _ _ hj]
    exact Len.bd31 hb (by omega) (by omega) (spl_len bits mo inv _ _ hm hW k R _ hR (by omega) hh j hj)
   have hju : ∀ j, j < 2 ^ k → j * 2 ^ (L - (k + 2)) < n ∧ 3 * j * 2 ^ (L - (k + 2)) < n := by
    intro j hj
    have k1 : (j + 1) * 2 ^ (L - (k + 2)) ≤ 2 ^ k * 2 ^ (L - (k + 2)) := Nat.mul_le_mul_right _ hj
    rw [Nat.succ_mul] at k1
    rw [Nat.mul_assoc] at hu
    rw [Nat.mul_assoc]
    omega
   have rootB : ∀ i, i < n → Bd (2 ^ bits) (rootOf ws inv i) := by
    intro i hi
    have := hWb i hi
    unfold rootOf
    cases inv
    ·exact this
    ·have h := this.le
     exact Bd.mk (by simp only [if_true]; unfold Gi.conj; simp only; omega)
   have hWi : ∀ a ∈ ws, absI a.im ≤ 4611686018427387904 := by
    intro a ha
    obtain ⟨i, hi, rfl⟩ := List.getElem_of_mem ha
    have h := (hWb i (by omega)).le
    have hp := pow29 bits hb
    rw [List.getD_eq_getElem?_getD, List.getElem?_eq_getElem hi] at h
    simp only [Option.getD_some] at h
    exact absI_le.2 (by omega)
   have hdiv : ∀ i, i < 2 ^ (k + 2) → i / 2 ^ k < 4 := fun i hi => by rw [Nat.div_lt_iff_lt_mul hp0]; omega
   have := rRun_2 bits mo inv pw b o n cw cx (2 ^ (k + 2)) (2 ^ k) (2 ^ (k + 1)) (2 ^ (L - (k + 2))) xs ws _ _ _
    (fun i => joinG bits mo inv (i / 2 ^ k)
     ((sL bits mo inv ws (k + 1) ((List.range (2 ^ (k + 1))).map (pick xs 0 2))).getD (i % 2 ^ k) ⟨0, 0⟩) ((sL bits mo inv ws (k + 1) ((List.range (2 ^ (k + 1))).map (pick xs 0 2))).getD (2 ^ k + i % 2 ^ k) ⟨0, 0⟩)
     ((sL bits mo inv ws k ((List.range (2 ^ k)).map (pick xs 1 4))).getD (i % 2 ^ k) ⟨0, 0⟩) ((sL bits mo inv ws k ((List.range (2 ^ k)).map (pick xs 3 4))).getD (i % 2 ^ k) ⟨0, 0⟩)
     (rootOf ws inv (i % 2 ^ k * 2 ^ (L - (k + 2)))) (rootOf ws inv (3 * (i % 2 ^ k) * 2 ^ (L - (k + 2))))) hl e2 e1 hp0 hp6 (by rw [e2]; exact hu) hn6 hu0
    (sL_len bits mo inv ws (k + 1) ((List.range (2 ^ (k + 1))).map (pick xs 0 2))) (sL_len bits mo inv ws k ((List.range (2 ^ k)).map (pick xs 1 4))) (sL_len bits mo inv ws k ((List.range (2 ^ k)).map (pick xs 3 4))) lw
    (Lib.hid fun px cx W h1 h2 => ih1 _ px cx W (pick_len _ _ _ _) (fun j hj => by rw [getD_map _ _ _ hj]; exact hxe j hj) h1 h2)
    (Lib.hid fun px cx W h1 h2 => ih2 _ px cx W (pick_len _ _ _ _) (fun j hj => by rw [getD_map _ _ _ hj]; exact hxf j hj) h1 h2)
    (Lib.hid fun px cx W h1 h2 => ih2 _ px cx W (pick_len _ _ _ _) (fun j hj => by rw [getD_map _ _ _ hj]; exact hxg j hj) h1 h2)
    (Lib.hid fun j hj W v => root10_c _ ws j inv (by rw [lw]; exact hj) hWi W v)
    (Lib.hid fun i hi W => by
     have hj := Nat.mod_lt i hp0
     exact rJoin12_c bits mo inv (i / 2 ^ k) (hdiv i hi) _ _ _ _ _ _ hb m0 m1 (bE _ (by omega)) (bE _ (by omega)) (bF 1 _ hj hxf) (bF 3 _ hj hxg) (rootB _ (hju _ hj).1) (rootB _ (hju _ hj).2) W)
    w hbl (fun j hj => CxsAt.getD (n := 0) (cap := 0) hc j (by omega)) vw
   rw [sL_two, lw, hdu, ← e2]
   exact this
end
end Go.Proofs.YtablflakcaimmaaGreat
