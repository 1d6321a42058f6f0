import Derived.Test.YtcgeabpibkejpaaGreatNearTellsS30
namespace Go.Proofs.YtcgeabpibkejpaaGreat
section
open Go.ChangeShapes Go.WideShapes Go.ChangeAt Go.RowKit
set_option linter.unusedVariables false
set_option linter.unusedSimpArgs false
set_option maxRecDepth 100000
set_option maxHeartbeats 8000000 in
theorem rBin16_of (n : Nat) (k : Int) (inv : Bool) (px : Option Addr) (cx : Nat) (vw : Value) (xs ws : List Gi) (hxn : xs.length = n) (Sr Si Qr Qi t0 t1 t2 t3 A : Nat → Gi) (m i : Nat → Int) (D0 D1 : Int)
 (hS : Sr 0 = ⟨0, 0⟩ ∧ Si 0 = ⟨0, 0⟩) (HJ : Hid (∀ j : Nat, j < n → wrap64 ((j : Int) * k) = m j ∧ (m j).tmod (n : Int) = i j)) (hn0 : ¬ (n : Int) = 0) (hnM : n ≤ 1000)
 (HR : Hid (∀ j, j < n → ∀ W, CxsAt W vw ws → Calls Tryz.prog 85 #[vw, .int .i64 (i j), .bool inv] W fun e w' => e = .returned (.agg #[.int .i64 (A j).re, .int .i64 (A j).im]) ∧ Gr W w'))
 (HT0 : Hid (∀ j x, xs[j]? = some x → ∀ W, Calls Tryz.prog 88 #[.int .i64 x.re, .int .i64 (A j).re] W fun e w' => e = .returned (.agg #[.int .i64 (t0 j).re, .int .i64 (t0 j).im]) ∧ Gr W w'))
 (HT1 : Hid (∀ j x, xs[j]? = some x → ∀ W, Calls Tryz.prog 88 #[.int .i64 x.im, .int .i64 (A j).im] W fun e w' => e = .returned (.agg #[.int .i64 (t1 j).re, .int .i64 (t1 j).im]) ∧ Gr W w'))
 (HT2 : Hid (∀ j x, xs[j]? = some x → ∀ W, Calls Tryz.prog 88 #[.int .i64 x.re, .int .i64 (A j).im] W fun e w' => e = .returned (.agg #[.int .i64 (t2 j).re, .int .i64 (t2 j).im]) ∧ Gr W w'))
 (HT3 : Hid (∀ j x, xs[j]? = some x → ∀ W, Calls Tryz.prog 88 #[.int .i64 x.im, .int .i64 (A j).re] W fun e w' => e = .returned (.agg #[.int .i64 (t3 j).re, .int .i64 (t3 j).im]) ∧ Gr W w'))
 (HA0 : Hid (∀ j, j < n → ∀ W, Calls Tryz.prog 87 #[.agg #[.int .i64 (Sr j).re, .int .i64 (Sr j).im], .agg #[.int .i64 (t0 j).re, .int .i64 (t0 j).im]] W fun e w' => e = .returned (.agg #[.int .i64 (Qr j).re, .int .i64 (Qr j).im]) ∧ Gr W w'))
 (HL : Hid (∀ j, j < n → ∀ W, Calls Tryz.prog 86 #[.agg #[.int .i64 (Qr j).re, .int .i64 (Qr j).im], .agg #[.int .i64 (t1 j).re, .int .i64 (t1 j).im]] W fun e w' => e = .returned (.agg #[.int .i64 (Sr (j + 1)).re, .int .i64 (Sr (j + 1)).im]) ∧ Gr W w'))
 (HA1 : Hid (∀ j, j < n → ∀ W, Calls Tryz.prog 87 #[.agg #[.int .i64 (Si j).re, .int .i64 (Si j).im], .agg #[.int .i64 (t2 j).re, .int .i64 (t2 j).im]] W fun e w' => e = .returned (.agg #[.int .i64 (Qi j).re, .int .i64 (Qi j).im]) ∧ Gr W w'))
 (HA2 : Hid (∀ j, j < n → ∀ W, Calls Tryz.prog 87 #[.agg #[.int .i64 (Qi j).re, .int .i64 (Qi j).im], .agg #[.int .i64 (t3 j).re, .int .i64 (t3 j).im]] W fun e w' => e = .returned (.agg #[.int .i64 (Si (j + 1)).re, .int .i64 (Si (j + 1)).im]) ∧ Gr W w'))
 (HD0 : CR 89 #[.agg #[.int .i64 (Sr n).re, .int .i64 (Sr n).im]] (.int .i64 D0)) (HD1 : CR 89 #[.agg #[.int .i64 (Si n).re, .int .i64 (Si n).im]] (.int .i64 D1)) (w : World) (hvx : CxsAt w (.slice px n cx) xs) (hvw : CxsAt w vw ws) :
 Calls Tryz.prog 59 #[.slice px n cx, vw, .int .i64 k, .bool inv] w fun e w' => e = .returned (.agg #[.int .i64 D0, .int .i64 D1]) ∧ Gr w w' := by
 have hne : xs ≠ [] := by intro e; rw [e] at hxn; simp at hxn; omega
 obtain ⟨b, o, cap, hsl, hlen, hb, hc⟩ := hvx.at hne
 rw [hxn] at hsl
 cases hsl
 have HC := Lib.hid hc
 have HX := Lib.hid hxn
 clear hc hvx hne hlen
 go_enter Tryz.func59, Tryz.ntmps59
 go_wp2_with fail
 obtain ⟨u0, hU⟩ : ∃ uu, uu = (((w.alloc (.cells #[.int .i64 0, .int .i64 0] 58)).alloc (.cells #[.int .i64 0, .int .i64 0] 123)).alloc (.cells #[.int .i64 0, .int .i64 0] 123)) := ⟨_, rfl⟩
 have ⟨gu, R0, R1, R2⟩ := lay3 hU
 rw [← hU]
 clear hU
 have lr := R0.lt
 have lE := R1.lt
 have lI := R2.lt
 go_loopw [12, 13, 14, 21] (fun _ _ _ i wr => ∃ j : Nat, j ≤ n ∧ i = .int .i64 j ∧ CellsAt wr w.heap.size 58 #[.int .i64 0, .int .i64 0] ∧ CellsAt wr (w.heap.size + 1) 123 #[.int .i64 (Sr j).re, .int .i64 (Sr j).im] ∧ CellsAt wr (w.heap.size + 1 + 1) 123 #[.int .i64 (Si j).re, .int .i64 (Si j).im] ∧ Gr w wr) (fun _ _ _ i _ => n - (intOf i).toNat)
 case atStart => exact ⟨0, by omega, rfl, R0, by rw [hS.1]; exact R1, by rw [hS.2]; exact R2, gu⟩
 case round =>
  clear R0 R1 R2 gu hS lr lE lI
  obtain ⟨j, hj, rfl, BR, BE, BI, hg⟩ := hrel
  by_cases hlt : j < n
  ·have hjI : (j : Int) < (n : Int) := by omega
   obtain ⟨x, hx⟩ := get_of_lt (xs := xs) (by rw [HX.out]; exact hlt)
   have h1 := (hg.cell (p := ⟨b, o + j * 2, none⟩) hb).trans (HC.out j x hx).1
   have h2 := (hg.cell (p := ⟨b, o + j * 2 + 1, none⟩) hb).trans (HC.out j x hx).2
   have hbl : b < wr.heap.size := Nat.lt_of_lt_of_le hb hg.size
   have HR1 := Lib.hid (HR.out j hlt)
   have HT01 := Lib.hid (HT0.out j x hx)
   have HT11 := Lib.hid (HT1.out j x hx)
   have HT21 := Lib.hid (HT2.out j x hx)
   have HT31 := Lib.hid (HT3.out j x hx)
   have HA01 := Lib.hid (HA0.out j hlt)
   have HL1 := Lib.hid (HL.out j hlt)
   have HA11 := Lib.hid (HA1.out j hlt)
   have HA21 := Lib.hid (HA2.out j hlt)
   obtain ⟨hm, hi⟩ := HJ.out j hlt
   obtain ⟨z0, hz0⟩ : ∃ z, Sr (j + 1) = z := ⟨_, rfl⟩
   obtain ⟨z1, hz1⟩ : ∃ z, Si (j + 1) = z := ⟨_, rfl⟩
   rw [hz0] at HL1
   rw [hz1] at HA21
   have HZ0 := Lib.hid hz0
   have HZ1 := Lib.hid hz1
   clear hz0 hz1 hx HR HT0 HT1 HT2 HT3 HA0 HL HA1 HA2 HJ HD0 HD1 HC HX hxn
   generalize Sr j = s0 at *
   generalize Si j = s1 at *
   generalize Qr j = q0 at *
   generalize Qi j = q1 at *
   generalize t0 j = u0 at *
   generalize t1 j = u1 at *
   generalize t2 j = u2 at *
   generalize t3 j = u3 at *
   generalize A j = A at *
   generalize m j = m at *
   generalize i j = i at *
   obtain ⟨re, im⟩ := x
   simp only at h1 h2 HT01 HT11 HT21 HT31
   skip
   have lr := CellsAt.lt BR
   have lE := CellsAt.lt BE
   have lI := CellsAt.lt BI
   go_wp2_with fail
   refine (HR1.out _ (hvw.gr ((hg).alloc _ _))).mono ?_
   rintro e wa1 ⟨rfl, ga1⟩
   have ⟨Fr_a1, lr_a1⟩ := CellsAt.gl ((BR).alloc _) ga1
   have ⟨FE_a1, lE_a1⟩ := CellsAt.gl ((BE).alloc _) ga1
   have ⟨FI_a1, lI_a1⟩ := CellsAt.gl ((BI).alloc _) ga1
   have ⟨Fa_a1, la_a1⟩ := CellsAt.gl (CellsAt.new wr 58 #[.int .i64 re, .int .i64 im]) ga1
   have za1 := ((hg).alloc _ _).trans ga1
   clear ga1
   go_wp2_with fail
   obtain ⟨va, hqap1⟩ : ∃ zz, zz = (wa1.alloc (.cells #[.int .i64 (A).re, .int .i64 (A).im] 58)) := ⟨_, rfl⟩
   have Yr_ap1 : CellsAt va (w.heap.size) 58 #[.int .i64 0, .int .i64 0] := by rw [hqap1]; first | exact (Fr_a1).alloc _ | simpa using (Fr_a1).alloc _
   have YE_ap1 : CellsAt va (w.heap.size + 1) 123 #[.int .i64 (s0).re, .int .i64 (s0).im] := by rw [hqap1]; first | exact (FE_a1).alloc _ | simpa using (FE_a1).alloc _
   have YI_ap1 : CellsAt va (w.heap.size + 1 + 1) 123 #[.int .i64 (s1).re, .int .i64 (s1).im] := by rw [hqap1]; first | exact (FI_a1).alloc _ | simpa using (FI_a1).alloc _
   have Ya_ap1 : CellsAt va (wr.heap.size) 58 #[.int .i64 re, .int .i64 im] := by rw [hqap1]; first | exact (Fa_a1).alloc _ | simpa using (Fa_a1).alloc _
   have Yq_ap1 : CellsAt va (wa1.heap.size) 58 #[.int .i64 (A).re, .int .i64 (A).im] := by rw [hqap1]; first | exact CellsAt.new wa1 58 #[.int .i64 (A).re, .int .i64 (A).im] | simpa using CellsAt.new wa1 58 #[.int .i64 (A).re, .int .i64 (A).im]
   have yap1 : Gr w va := by rw [hqap1]; exact (za1).alloc _ _
   rw [← hqap1]
   clear hqap1
   have KS : ∀ W, GB (w.heap.size + 1) va W → (W.cell? ⟨wr.heap.size, 0, none⟩ = some (.int .i64 re) ∧ W.cell? ⟨wr.heap.size, 1, none⟩ = some (.int .i64 im) ∧ W.cell? ⟨wa1.heap.size, 0, none⟩ = some (.int .i64 (A).re) ∧ W.cell? ⟨wa1.heap.size, 1, none⟩ = some (.int .i64 (A).im)) := fun W hG => ⟨(GB.cellsAt hG Ya_ap1 (by omega)).cell 0, (GB.cellsAt hG Ya_ap1 (by omega)).cell 1, (GB.cellsAt hG Yq_ap1 (by omega)).cell 0, (GB.cellsAt hG Yq_ap1 (by omega)).cell 1⟩
   have hclG := gb_closed (w.heap.size + 1) va
   try simp only [List.append_eq, List.cons_append, List.nil_append]
   refine wp_region_grow (S := GB (w.heap.size + 1) va) rfl (GB.drew (GB.refl _ _)) ?_
   refine gT 1 hclG ?_
   refine gK 2 hclG KS ?_
   refine gT 3 hclG ?_
   refine gK 4 hclG KS ?_
   refine wpG_call (i := 5) hclG rfl (by kernel_rfl) (by kernel_rfl) (by kernel_rfl) (fun _ _ _ h => h) (fun W _ => HT01.out W) (by rfl) ?_ ?_
   ·(intro w' hSw; go_simp; try with_reducible rfl)
   try simp only [Act.put, putS]
   refine gT 7 hclG ?_
   refine gK 8 hclG KS ?_
   refine gT 9 hclG ?_
   refine gK 10 hclG KS ?_
   refine wpG_ready (rs := [0]) (by kernel_rfl) (by simp) (fun wa2 ga2 sa2 => ?_)
   refine AllG.cons rfl (fun K hK => ?_) AllG.nil
   replace ga2 := (Gr.drew (Gr.refl va)).trans ga2
   have ⟨Fr_a2, lr_a2⟩ := CellsAt.gl (Yr_ap1) ga2
   have ⟨FE_a2, lE_a2⟩ := CellsAt.gl (YE_ap1) ga2
   have ⟨FI_a2, lI_a2⟩ := CellsAt.gl (YI_ap1) ga2
   have ⟨Fa_a2, la_a2⟩ := CellsAt.gl (Ya_ap1) ga2
   have ⟨Fq_a2, lq_a2⟩ := CellsAt.gl (Yq_ap1) ga2
   have za2 := (yap1).trans ga2
   clear Yr_ap1 YE_ap1 YI_ap1 Ya_ap1 Yq_ap1 yap1 ga2
   obtain ⟨cE0, cE1⟩ := FE_a2.t2
   go_simp
   clear cE0 cE1
   refine hK.out _ _ ?_ ?_
   ·exact sa2
   clear hK K
   try simp only [Act.put, putS]
   refine wpG_call (i := 6) hclG rfl (by kernel_rfl) (by kernel_rfl) (by kernel_rfl) (fun _ _ _ h => h) (fun W _ => HA01.out W) (by rfl) ?_ ?_
   ·(intro w' hSw; go_simp; try with_reducible rfl)
   try simp only [Act.put, putS]
   refine wpG_call (i := 11) hclG rfl (by kernel_rfl) (by kernel_rfl) (by kernel_rfl) (fun _ _ _ h => h) (fun W _ => HT11.out W) (by rfl) ?_ ?_
   ·(intro w' hSw; go_simp; try with_reducible rfl)
   try simp only [Act.put, putS]
   refine wpG_call (i := 12) hclG rfl (by kernel_rfl) (by kernel_rfl) (by kernel_rfl) (fun _ _ _ h => h) (fun W _ => HL1.out W) (by rfl) ?_ ?_
   ·(intro w' hSw; go_simp; try with_reducible rfl)
   try simp only [Act.put, putS]
   refine wpG_ready (rs := [13]) (by kernel_rfl) (by simp) (fun wa3 ga3 sa3 => ?_)
   refine AllG.cons rfl (fun K hK => ?_) AllG.nil
   have ⟨Fr_a3, lr_a3⟩ := CellsAt.gl (Fr_a2) ga3
   have ⟨FE_a3, lE_a3⟩ := CellsAt.gl (FE_a2) ga3
   have ⟨FI_a3, lI_a3⟩ := CellsAt.gl (FI_a2) ga3
   have ⟨Fa_a3, la_a3⟩ := CellsAt.gl (Fa_a2) ga3
   have ⟨Fq_a3, lq_a3⟩ := CellsAt.gl (Fq_a2) ga3
   have za3 := (za2).trans ga3
   clear Fr_a2 FE_a2 FI_a2 Fa_a2 Fq_a2 za2 ga3
   have mE0 := CellsAt.frozen (FE_a3) 0
   have cE0 := FE_a3.at 0
   have mE1 := CellsAt.frozen (FE_a3) 1
   have cE1 := FE_a3.at 1
   go_simp
   clear mE0 cE0 mE1 cE1
   refine hK.out _ _ ?_ ?_
   ·exact (GB.set (GB.set sa3 _ _) _ _)
   clear hK K
   try simp only [Act.put, putS]
   refine wpG_done (by kernel_rfl) (fun wa4 ga4 => ?_) _
   have ⟨Fr_a4, lr_a4⟩ := CellsAt.gl (((Fr_a3).other (by omega) _ _).other (by omega) _ _) ga4
   have ⟨FE_a4, lE_a4⟩ := CellsAt.gl (CellsAt.set2 (FE_a3) _ _) ga4
   have ⟨FI_a4, lI_a4⟩ := CellsAt.gl (((FI_a3).other (by omega) _ _).other (by omega) _ _) ga4
   have ⟨Fa_a4, la_a4⟩ := CellsAt.gl (((Fa_a3).other (by omega) _ _).other (by omega) _ _) ga4
   have ⟨Fq_a4, lq_a4⟩ := CellsAt.gl (((Fq_a3).other (by omega) _ _).other (by omega) _ _) ga4
   have za4 := (((za3).setCell (by first | omega | (simp only; omega)) _).setCell (by first | omega | (simp only; omega)) _).trans ga4
   clear ga4
   clear hclG KS
   go_wp2_with fail
   obtain ⟨vb, hqap2⟩ : ∃ zz, zz = wa4 := ⟨_, rfl⟩
   have Yr_ap2 : CellsAt vb (w.heap.size) 58 #[.int .i64 0, .int .i64 0] := by rw [hqap2]; first | exact Fr_a4 | simpa using Fr_a4
   have YE_ap2 : CellsAt vb (w.heap.size + 1) 123 #[.int .i64 (z0).re, .int .i64 (z0).im] := by rw [hqap2]; first | exact FE_a4 | simpa using FE_a4
   have YI_ap2 : CellsAt vb (w.heap.size + 1 + 1) 123 #[.int .i64 (s1).re, .int .i64 (s1).im] := by rw [hqap2]; first | exact FI_a4 | simpa using FI_a4
   have Ya_ap2 : CellsAt vb (wr.heap.size) 58 #[.int .i64 re, .int .i64 im] := by rw [hqap2]; first | exact Fa_a4 | simpa using Fa_a4
   have Yq_ap2 : CellsAt vb (wa1.heap.size) 58 #[.int .i64 (A).re, .int .i64 (A).im] := by rw [hqap2]; first | exact Fq_a4 | simpa using Fq_a4
   have yap2 : Gr w vb := by rw [hqap2]; exact za4
   rw [← hqap2]
   clear hqap2
   have KS : ∀ W, GB (w.heap.size + 1 + 1) vb W → (W.cell? ⟨wr.heap.size, 0, none⟩ = some (.int .i64 re) ∧ W.cell? ⟨wr.heap.size, 1, none⟩ = some (.int .i64 im) ∧ W.cell? ⟨wa1.heap.size, 0, none⟩ = some (.int .i64 (A).re) ∧ W.cell? ⟨wa1.heap.size, 1, none⟩ = some (.int .i64 (A).im)) := fun W hG => ⟨(GB.cellsAt hG Ya_ap2 (by omega)).cell 0, (GB.cellsAt hG Ya_ap2 (by omega)).cell 1, (GB.cellsAt hG Yq_ap2 (by omega)).cell 0, (GB.cellsAt hG Yq_ap2 (by omega)).cell 1⟩
   have hclG := gb_closed (w.heap.size + 1 + 1) vb
   try simp only [List.append_eq, List.cons_append, List.nil_append]
   refine wp_region_grow (S := GB (w.heap.size + 1 + 1) vb) rfl (GB.drew (GB.refl _ _)) ?_
   refine gT 1 hclG ?_
   refine gK 2 hclG KS ?_
   refine gT 3 hclG ?_
   refine gK 4 hclG KS ?_
   refine wpG_call (i := 5) hclG rfl (by kernel_rfl) (by kernel_rfl) (by kernel_rfl) (fun _ _ _ h => h) (fun W _ => HT21.out W) (by rfl) ?_ ?_
   ·(intro w' hSw; go_simp; try with_reducible rfl)
   try simp only [Act.put, putS]
   refine gT 7 hclG ?_
   refine gK 8 hclG KS ?_
   refine gT 9 hclG ?_
   refine gK 10 hclG KS ?_
   refine wpG_ready (rs := [0]) (by kernel_rfl) (by simp) (fun wa5 ga5 sa5 => ?_)
   refine AllG.cons rfl (fun K hK => ?_) AllG.nil
   replace ga5 := (Gr.drew (Gr.refl vb)).trans ga5
   have ⟨Fr_a5, lr_a5⟩ := CellsAt.gl (Yr_ap2) ga5
   have ⟨FE_a5, lE_a5⟩ := CellsAt.gl (YE_ap2) ga5
   have ⟨FI_a5, lI_a5⟩ := CellsAt.gl (YI_ap2) ga5
   have ⟨Fa_a5, la_a5⟩ := CellsAt.gl (Ya_ap2) ga5
   have ⟨Fq_a5, lq_a5⟩ := CellsAt.gl (Yq_ap2) ga5
   have za5 := (yap2).trans ga5
   clear Yr_ap2 YE_ap2 YI_ap2 Ya_ap2 Yq_ap2 yap2 ga5
   obtain ⟨cI0, cI1⟩ := FI_a5.t2
   go_simp
   clear cI0 cI1
   refine hK.out _ _ ?_ ?_
   ·exact sa5
   clear hK K
   try simp only [Act.put, putS]
   refine wpG_call (i := 6) hclG rfl (by kernel_rfl) (by kernel_rfl) (by kernel_rfl) (fun _ _ _ h => h) (fun W _ => HA11.out W) (by rfl) ?_ ?_
   ·(intro w' hSw; go_simp; try with_reducible rfl)
   try simp only [Act.put, putS]
   refine wpG_call (i := 11) hclG rfl (by kernel_rfl) (by kernel_rfl) (by kernel_rfl) (fun _ _ _ h => h) (fun W _ => HT31.out W) (by rfl) ?_ ?_
   ·(intro w' hSw; go_simp; try with_reducible rfl)
   try simp only [Act.put, putS]
   refine wpG_call (i := 12) hclG rfl (by kernel_rfl) (by kernel_rfl) (by kernel_rfl) (fun _ _ _ h => h) (fun W _ => HA21.out W) (by rfl) ?_ ?_
   ·(intro w' hSw; go_simp; try with_reducible rfl)
   try simp only [Act.put, putS]
   refine wpG_ready (rs := [13]) (by kernel_rfl) (by simp) (fun wa6 ga6 sa6 => ?_)
   refine AllG.cons rfl (fun K hK => ?_) AllG.nil
   have ⟨Fr_a6, lr_a6⟩ := CellsAt.gl (Fr_a5) ga6
   have ⟨FE_a6, lE_a6⟩ := CellsAt.gl (FE_a5) ga6
   have ⟨FI_a6, lI_a6⟩ := CellsAt.gl (FI_a5) ga6
   have ⟨Fa_a6, la_a6⟩ := CellsAt.gl (Fa_a5) ga6
   have ⟨Fq_a6, lq_a6⟩ := CellsAt.gl (Fq_a5) ga6
   have za6 := (za5).trans ga6
   clear Fr_a5 FE_a5 FI_a5 Fa_a5 Fq_a5 za5 ga6
   have mI0 := CellsAt.frozen (FI_a6) 0
   have cI0 := FI_a6.at 0
   have mI1 := CellsAt.frozen (FI_a6) 1
   have cI1 := FI_a6.at 1
   go_simp
   clear mI0 cI0 mI1 cI1
   refine hK.out _ _ ?_ ?_
   ·exact (GB.set (GB.set sa6 _ _) _ _)
   clear hK K
   try simp only [Act.put, putS]
   refine wpG_done (by kernel_rfl) (fun wa7 ga7 => ?_) _
   have ⟨Fr_a7, lr_a7⟩ := CellsAt.gl (((Fr_a6).other (by omega) _ _).other (by omega) _ _) ga7
   have ⟨FE_a7, lE_a7⟩ := CellsAt.gl (((FE_a6).other (by omega) _ _).other (by omega) _ _) ga7
   have ⟨FI_a7, lI_a7⟩ := CellsAt.gl (CellsAt.set2 (FI_a6) _ _) ga7
   have ⟨Fa_a7, la_a7⟩ := CellsAt.gl (((Fa_a6).other (by omega) _ _).other (by omega) _ _) ga7
   have ⟨Fq_a7, lq_a7⟩ := CellsAt.gl (((Fq_a6).other (by omega) _ _).other (by omega) _ _) ga7
   have za7 := (((za6).setCell (by first | omega | (simp only; omega)) _).setCell (by first | omega | (simp only; omega)) _).trans ga7
   clear ga7
   clear hclG KS
   go_wp2_with fail
   go_roundw
   case rel => exact ⟨j + 1, by omega, by go_num, Fr_a7, by rw [HZ0.out]; exact FE_a7, by rw [HZ1.out]; exact FI_a7, za7⟩
   case measure => simp [intOf]; omega
  ·obtain rfl : j = n := by omega
   have hjI : ¬ (j : Int) < (j : Int) := by omega
   have HD01 := Lib.hid HD0.out
   have HD11 := Lib.hid HD1.out
   clear HR HT0 HT1 HT2 HT3 HA0 HL HA1 HA2 HJ HD0 HD1 HC HX hxn hnM
   generalize Sr j = s0 at *
   generalize Si j = s1 at *
   have lr := CellsAt.lt BR
   have lE := CellsAt.lt BE
   have lI := CellsAt.lt BI
   go_wp2_with fail
   obtain ⟨ve, hqep1⟩ : ∃ zz, zz = wr := ⟨_, rfl⟩
   have Yr_ep1 : CellsAt ve (w.heap.size) 58 #[.int .i64 0, .int .i64 0] := by rw [hqep1]; first | exact BR | simpa using BR
   have YE_ep1 : CellsAt ve (w.heap.size + 1) 123 #[.int .i64 (s0).re, .int .i64 (s0).im] := by rw [hqep1]; first | exact BE | simpa using BE
   have YI_ep1 : CellsAt ve (w.heap.size + 1 + 1) 123 #[.int .i64 (s1).re, .int .i64 (s1).im] := by rw [hqep1]; first | exact BI | simpa using BI
   have yep1 : Gr w ve := by rw [hqep1]; exact hg
   rw [← hqep1]
   clear hqep1
   have KS : ∀ W, GB (w.heap.size) ve W → (W.cell? ⟨w.heap.size + 1, 0, none⟩ = some (.int .i64 (s0).re) ∧ W.cell? ⟨w.heap.size + 1, 1, none⟩ = some (.int .i64 (s0).im) ∧ W.cell? ⟨w.heap.size + 1 + 1, 0, none⟩ = some (.int .i64 (s1).re) ∧ W.cell? ⟨w.heap.size + 1 + 1, 1, none⟩ = some (.int .i64 (s1).im)) := fun W hG => ⟨(GB.cellsAt hG YE_ep1 (by omega)).cell 0, (GB.cellsAt hG YE_ep1 (by omega)).cell 1, (GB.cellsAt hG YI_ep1 (by omega)).cell 0, (GB.cellsAt hG YI_ep1 (by omega)).cell 1⟩
   have hclG := gb_closed (w.heap.size) ve
   try simp only [List.append_eq, List.cons_append, List.nil_append]
   refine wp_region_grow (S := GB (w.heap.size) ve) rfl (GB.drew (GB.refl _ _)) ?_
   refine gK 0 hclG KS ?_
   refine wpG_call (i := 1) hclG rfl (by kernel_rfl) (by kernel_rfl) (by kernel_rfl) (fun _ _ _ h => h) (fun W _ => HD01.out W) (by rfl) ?_ ?_
   ·(intro w' hSw; go_simp; try with_reducible rfl)
   try simp only [Act.put, putS]
   refine gK 2 hclG KS ?_
   refine wpG_call (i := 3) hclG rfl (by kernel_rfl) (by kernel_rfl) (by kernel_rfl) (fun _ _ _ h => h) (fun W _ => HD11.out W) (by rfl) ?_ ?_
   ·(intro w' hSw; go_simp; try with_reducible rfl)
   try simp only [Act.put, putS]
   refine gT 4 hclG ?_
   refine wpG_ready (rs := [5]) (by kernel_rfl) (by simp) (fun we1 ge1 se1 => ?_)
   refine AllG.cons rfl (fun K hK => ?_) AllG.nil
   replace ge1 := (Gr.drew (Gr.refl ve)).trans ge1
   have ⟨Fr_e1, lr_e1⟩ := CellsAt.gl (Yr_ep1) ge1
   have ⟨FE_e1, lE_e1⟩ := CellsAt.gl (YE_ep1) ge1
   have ⟨FI_e1, lI_e1⟩ := CellsAt.gl (YI_ep1) ge1
   have ze1 := (yep1).trans ge1
   clear Yr_ep1 YE_ep1 YI_ep1 yep1 ge1
   have mr0 := CellsAt.frozen (Fr_e1) 0
   have cr0 := Fr_e1.at 0
   have mr1 := CellsAt.frozen (Fr_e1) 1
   have cr1 := Fr_e1.at 1
   go_simp
   clear mr0 cr0 mr1 cr1
   refine hK.out _ _ ?_ ?_
   ·exact (GB.set (GB.set se1 _ _) _ _)
   clear hK K
   try simp only [Act.put, putS]
   refine wpG_done (by kernel_rfl) (fun we2 ge2 => ?_) _
   have ⟨Fr_e2, lr_e2⟩ := CellsAt.gl (CellsAt.set2 (Fr_e1) _ _) ge2
   have ⟨FE_e2, lE_e2⟩ := CellsAt.gl (((FE_e1).other (by omega) _ _).other (by omega) _ _) ge2
   have ⟨FI_e2, lI_e2⟩ := CellsAt.gl (((FI_e1).other (by omega) _ _).other (by omega) _ _) ge2
   have ze2 := (((ze1).setCell (by first | omega | (simp only; omega)) _).setCell (by first | omega | (simp only; omega)) _).trans ge2
   clear ge2
   clear hclG KS
   obtain ⟨cr0, cr1⟩ := Fr_e2.t2
   go_wp2_with fail
   clear cr0 cr1
   obtain ⟨ufe, hqep2⟩ : ∃ zz, zz = we2 := ⟨_, rfl⟩
   have Yr_ep2 : CellsAt ufe (w.heap.size) 58 #[.int .i64 D0, .int .i64 D1] := by rw [hqep2]; first | exact Fr_e2 | simpa using Fr_e2
   have YE_ep2 : CellsAt ufe (w.heap.size + 1) 123 #[.int .i64 (s0).re, .int .i64 (s0).im] := by rw [hqep2]; first | exact FE_e2 | simpa using FE_e2
   have YI_ep2 : CellsAt ufe (w.heap.size + 1 + 1) 123 #[.int .i64 (s1).re, .int .i64 (s1).im] := by rw [hqep2]; first | exact FI_e2 | simpa using FI_e2
   have yep2 : Gr w ufe := by rw [hqep2]; exact ze2
   rw [← hqep2]
   clear hqep2
   obtain ⟨cr0, cr1⟩ := Yr_ep2.t2
   refine bodyPost_ret (v := .agg #[.int .i64 D0, .int .i64 D1]) ?_ rfl ⟨rfl, yep2⟩
   simp [results, Tryz.results59, go_sem, *]
theorem rootsL_wv (n : Nat) (hn : IsLen (n : Int)) (k : Nat) (inv : Bool) : rootOf (rootsL (n : Int) 16) inv (k % n) = wv n inv k := wv_root n (by unfold IsLen at hn; omega) inv k
theorem rootsL_im (n : Nat) (hn : IsLen (n : Int)) : ∀ a ∈ rootsL (n : Int) 16, absI a.im ≤ 4611686018427387904 := by
 intro a ha
 unfold rootsL at ha
 obtain ⟨j, _, rfl⟩ := List.mem_map.1 ha
 have h := root_bd n j hn 16 (by omega) (by omega)
 simp at h
 exact absI_le.2 (by omega)
def wdG (v : Int) : Gi := ⟨wdH v, wdL v⟩
theorem rbin16_c (n : Nat) (hn : IsLen (n : Int)) (k : Nat) (hk : k < n) (inv : Bool) (px : Option Addr) (cx : Nat) (vw : Value) (xs : List Gi) (hxn : xs.length = n) (hx : allIn 2147483648 xs = true) (w : World) (hvx : CxsAt w (.slice px n cx) xs) (hvw : CxsAt w vw (rootsL (n : Int) 16)) :
 Calls Tryz.prog 59 #[.slice px n cx, vw, .int .i64 (k : Int), .bool inv] w fun e w' => e = .returned (.agg #[.int .i64 (binG n xs inv k).re, .int .i64 (binG n xs inv k).im]) ∧ Gr w w' := by
 have h64 : 4 ≤ n ∧ n ≤ 64 := by unfold IsLen at hn; omega
 have hjk : ∀ j : Nat, j < n → j * k ≤ 4096 := fun j hj => by
  have := Nat.mul_le_mul (show j ≤ 64 by omega) (show k ≤ 64 by omega)
  omega
 have hlen : (rootsL (n : Int) 16).length = n := by rw [rootsL_len]; omega
 have hb : ∀ (j : Nat) (x : Gi), xs[j]? = some x → xs.getD j ⟨0, 0⟩ = x := fun j x h => by rw [List.getD_eq_getElem?_getD, h]; rfl
 have hpx : ∀ (j : Nat) (x : Gi), xs[j]? = some x → (-2147483648 ≤ x.re ∧ x.re ≤ 2147483648) ∧ (-2147483648 ≤ x.im ∧ x.im ≤ 2147483648) := fun j x h => by
  have := part_in hx (by decide) j
  rw [hb j x h] at this
  exact this
 have pb : ∀ j, Wd ((xs.getD j ⟨0, 0⟩).re * (wv n inv (j * k)).re) ∧ Wd ((xs.getD j ⟨0, 0⟩).im * (wv n inv (j * k)).im) ∧ Wd ((xs.getD j ⟨0, 0⟩).re * (wv n inv (j * k)).im) ∧ Wd ((xs.getD j ⟨0, 0⟩).im * (wv n inv (j * k)).re) ∧
  (-2361183241434822606848 ≤ (xs.getD j ⟨0, 0⟩).re * (wv n inv (j * k)).re ∧ (xs.getD j ⟨0, 0⟩).re * (wv n inv (j * k)).re ≤ 2361183241434822606848) ∧ (-2361183241434822606848 ≤ (xs.getD j ⟨0, 0⟩).re * (wv n inv (j * k)).im ∧ (xs.getD j ⟨0, 0⟩).re * (wv n inv (j * k)).im ≤ 2361183241434822606848) := fun j => by
  have hw := wv_bd n hn inv (j * k)
  have ha := part_in hx (by decide) j
  have p1 := (wd_times_bd _ _ ha.1 hw.1).2.2.2
  have p2 := (wd_times_bd _ _ ha.2 hw.2).2.2.2
  have p3 := (wd_times_bd _ _ ha.1 hw.2).2.2.2
  have p4 := (wd_times_bd _ _ ha.2 hw.1).2.2.2
  unfold Wd
  exact ⟨by omega, by omega, by omega, by omega, p1, p3⟩
 have sb : ∀ j, j ≤ n → Wd (sumG n xs inv k j).re ∧ Wd (sumG n xs inv k j).im ∧ (-302231454903657293676544 ≤ (sumG n xs inv k j).re ∧ (sumG n xs inv k j).re ≤ 302231454903657293676544) ∧ (-302231454903657293676544 ≤ (sumG n xs inv k j).im ∧ (sumG n xs inv k j).im ≤ 302231454903657293676544) := fun j hj => by
  have h := sum_bd n hn xs inv hx k j hj
  unfold Wd
  exact ⟨by omega, by omega, h.1, h.2⟩
 have next : ∀ j, sumG n xs inv k (j + 1) = ⟨(sumG n xs inv k j).re + (xs.getD j ⟨0, 0⟩).re * (wv n inv (j * k)).re - (xs.getD j ⟨0, 0⟩).im * (wv n inv (j * k)).im, (sumG n xs inv k j).im + (xs.getD j ⟨0, 0⟩).re * (wv n inv (j * k)).im + (xs.getD j ⟨0, 0⟩).im * (wv n inv (j * k)).re⟩ := fun j => by
  rw [sumG_next]
  unfold gadd termG gmul
  simp only [Gi.mk.injEq]
  omega
 refine rBin16_of n k inv px cx vw xs (rootsL (n : Int) 16) hxn (fun j => wdG (sumG n xs inv k j).re) (fun j => wdG (sumG n xs inv k j).im)
  (fun j => wdG ((sumG n xs inv k j).re + (xs.getD j ⟨0, 0⟩).re * (wv n inv (j * k)).re)) (fun j => wdG ((sumG n xs inv k j).im + (xs.getD j ⟨0, 0⟩).re * (wv n inv (j * k)).im))
  (fun j => wdG ((xs.getD j ⟨0, 0⟩).re * (wv n inv (j * k)).re)) (fun j => wdG ((xs.getD j ⟨0, 0⟩).im * (wv n inv (j * k)).im)) (fun j => wdG ((xs.getD j ⟨0, 0⟩).re * (wv n inv (j * k)).im)) (fun j => wdG ((xs.getD j ⟨0, 0⟩).im * (wv n inv (j * k)).re))
  (fun j => wv n inv (j * k)) (fun j => ((j * k : Nat) : Int)) (fun j => ((j * k % n : Nat) : Int)) _ _ ⟨rfl, rfl⟩
  (Lib.hid fun j hj => ⟨wmul j k (by have := hjk j hj; omega), by rw [Int.tmod_eq_emod_of_nonneg (by omega)]; exact (Int.natCast_emod _ _).symm⟩) (by omega) (by omega)
  (Lib.hid fun j hj W hW => ?_) (Lib.hid fun j x h W => ?_) (Lib.hid fun j x h W => ?_) (Lib.hid fun j x h W => ?_) (Lib.hid fun j x h W => ?_)
  (Lib.hid fun j hj W => ?_) (Lib.hid fun j hj W => ?_) (Lib.hid fun j hj W => ?_) (Lib.hid fun j hj W => ?_)
  (Lib.hid (down16_c _ (sb n (Nat.le_refl _)).1)) (Lib.hid (down16_c _ (sb n (Nat.le_refl _)).2.1)) w hvx hvw
 ·have h := root10_c vw (rootsL (n : Int) 16) (j * k % n) inv (by rw [hlen]; exact Nat.mod_lt _ (by omega)) (rootsL_im n hn) W hW
  rw [rootsL_wv n hn] at h
  exact h
 ·have h1 := hpx j x h
  have h2 := wv_bd n hn inv (j * k)
  have h3 := times16_c x.re (wv n inv (j * k)).re h1.1 h2.1 W
  rw [hb j x h]
  exact h3
 ·have h1 := hpx j x h
  have h2 := wv_bd n hn inv (j * k)
  have h3 := times16_c x.im (wv n inv (j * k)).im h1.2 h2.2 W
  rw [hb j x h]
  exact h3
 ·have h1 := hpx j x h
  have h2 := wv_bd n hn inv (j * k)
  have h3 := times16_c x.re (wv n inv (j * k)).im h1.1 h2.2 W
  rw [hb j x h]
  exact h3
 ·have h1 := hpx j x h
  have h2 := wv_bd n hn inv (j * k)
  have h3 := times16_c x.im (wv n inv (j * k)).re h1.2 h2.1 W
  rw [hb j x h]
  exact h3
 ·exact add16_c _ _ (sb j (by omega)).1 (pb j).1 W
 ·have h3 := less16_c (u := (sumG n xs inv k j).re + (xs.getD j ⟨0, 0⟩).re * (wv n inv (j * k)).re) (v := (xs.getD j ⟨0, 0⟩).im * (wv n inv (j * k)).im) (by have := (sb j (by omega)).2.2.1; have := (pb j).2.2.2.2.1; unfold Wd; omega) (pb j).2.1 W
  rw [next j]
  exact h3
 ·exact add16_c _ _ (sb j (by omega)).2.1 (pb j).2.2.1 W
 ·have h3 := add16_c (u := (sumG n xs inv k j).im + (xs.getD j ⟨0, 0⟩).re * (wv n inv (j * k)).im) (v := (xs.getD j ⟨0, 0⟩).im * (wv n inv (j * k)).re) (by have := (sb j (by omega)).2.2.2; have := (pb j).2.2.2.2.2; unfold Wd; omega) (pb j).2.2.2.1 W
  rw [next j]
  exact h3
theorem rroots16_c (n L : Nat) (h : IsLog (n : Int) L) (w : World) :
 Calls Tryz.prog 58 #[.int .i64 (n : Int)] w fun e w' => ∃ v, e = .returned v ∧ CxsAt w' v (rootsL (n : Int) 16) ∧ Gr w w' := by
 have HL := Lib.hid (rlog08_yes (n : Int) L h)
 have HT := Lib.hid (table07_c (L : Int) (n : Int) 40 (by have := h.1; omega) (by have := h.2.1; omega) (by rw [h.2.2, Int.toNat_natCast]; exact Int.natCast_pow 2 L) (by decide) (by decide))
 clear h
 go_enter Tryz.func58, Tryz.ntmps58
 go_wp2_with (go_at_call 84; refine (HL.out _).mono ?_; rintro e wz ⟨rfl, rfl⟩)
 refine (HT.out _).mono ?_
 rintro e w1 ⟨v, rfl, hv, g1⟩
 go_wp2_with fail
 go_ret
 exact ⟨_, rfl, hv, g1⟩
set_option maxHeartbeats 2000000 in
theorem rall16_of (n : Nat) (hn : n ≤ 70) (inv : Bool) (px : Option Addr) (cx : Nat) (xs ws : List Gi) (B : Nat → Gi)
 (HR : Hid (∀ W, Calls Tryz.prog 58 #[.int .i64 (n : Int)] W fun e w' => ∃ v, e = .returned v ∧ CxsAt w' v ws ∧ Gr W w'))
 (HB : Hid (∀ j v W, j < n → CxsAt W (.slice px n cx) xs → CxsAt W v ws → Calls Tryz.prog 59 #[.slice px n cx, v, .int .i64 (j : Int), .bool inv] W fun e w' => e = .returned (.agg #[.int .i64 (B j).re, .int .i64 (B j).im]) ∧ Gr W w')) (w : World) (hvx : CxsAt w (.slice px n cx) xs) :
 Calls Tryz.prog 32 #[.slice px n cx, .bool inv] w fun e w' => ∃ v, e = .returned v ∧ CxsAt w' v ((List.range n).map B) ∧ Gr w w' := by
 obtain ⟨i0, hi, hz0, hz1, hz2⟩ := info_parts info_cx
 go_enter Tryz.func32, Tryz.ntmps32
 go_wp2_with fail
 refine (HR.out _).mono ?_
 rintro e w1 ⟨vw, rfl, hvw, g1⟩
 have hvx1 := hvx.gr g1
 go_wp2_with fail
 have hs0 : ((w1.alloc (.cells #[] 58)).ownsRow w1.heap.size 58 2 (.slice (some ⟨w1.heap.size, 0, none⟩) 0 0) 0 []) := World.ownsRow_made w1 #[] 0 (Nat.le_refl _) (by unfold maxLen; omega) (by simp)
 have gs0 := (Gr.refl w1).alloc #[] 58
 go_loopw [6, 7, 14] (fun v _ i wr => ∃ j : Nat, j ≤ n ∧ i = .int .i64 j ∧ wr.ownsRow w1.heap.size 58 2 v j (gcells ((List.range j).map B)) ∧ Gr w1 wr) (fun _ _ i _ => n - (intOf i).toNat)
 case atStart => exact ⟨0, by omega, rfl, hs0, gs0⟩
 case round =>
  clear hs0 gs0
  obtain ⟨j, hj, rfl, hrow, hg⟩ := hrel
  by_cases hlt : j < n
  ·have hjI : (j : Int) < (n : Int) := by omega
   have HB1 := Lib.hid fun v W => HB.out j v W hlt
   have er : (List.range (j + 1)).map B = (List.range j).map B ++ [B j] := by rw [List.range_succ, List.map_append]; rfl
   have ER := Lib.hid er
   clear er
   generalize B j = g at *
   obtain ⟨re, im⟩ := g
   simp only at HB1
   go_wp2_with fail
   refine (HB1.out _ _ (hvx1.gr hg) (hvw.gr hg)).mono ?_
   rintro e wq ⟨rfl, hgq⟩
   have hrow2 := ownsRow_gr hrow hgq
   have hsz := hg.size
   have hsq := hgq.size
   have hg2 := hg.trans hgq
   clear hrow hg hgq HB1
   go_wp2_with (at_builtin; refine wpList_append_own_at _ rfl (.tmp 17) (.tmp 23) 22 rfl w1.heap.size 58 i0 (.agg #[.int .i64 0, .int .i64 0]) 2 16 Tryz.underlying22 hi hz0 hz1 hz2 rfl (by decide) _ _ _ rfl (hrow2.alloc _) ⟨wq.heap.size, 0, none⟩ 1 1 [.int .i64 re, .int .i64 im] rfl rfl (news_two _ _ _ _) (by simp [Value.oneCell']) (by unfold maxLen; omega) (by omega) (by simp; omega) ?_; intro v' w3 hown' hgrow _ hblk)
   have e : gcells ((List.range j).map B) ++ [.int .i64 re, .int .i64 im] = gcells ((List.range (j + 1)).map B) := by
    rw [ER.out, gcells_snoc]
   rw [e] at hown'
   have hg3 := (hg2.allocO _).grown hgrow (fun k e => (hrow2.lt k e).1)
   go_roundw
   case rel => exact ⟨j + 1, by omega, by go_num, hown', hg3⟩
   case measure => simp [intOf]; omega
  ·obtain rfl : j = n := by omega
   have hjI : ¬ (j : Int) < (j : Int) := by omega
   go_wp2_with fail
   go_ret
   exact ⟨_, rfl, CxsAt.of_row hrow, g1.trans hg⟩
theorem rall16_c (n L : Nat) (h : IsLog (n : Int) L) (inv : Bool) (px : Option Addr) (cx : Nat) (xs : List Gi) (hxn : xs.length = n) (hx : allIn 2147483648 xs = true) (w : World) (hvx : CxsAt w (.slice px n cx) xs) :
 Calls Tryz.prog 32 #[.slice px n cx, .bool inv] w fun e w' => ∃ v, e = .returned v ∧ CxsAt w' v (binsG n xs inv) ∧ Gr w w' :=
 rall16_of n (by have := h.len; unfold IsLen at this; omega) inv px cx xs _ _ (Lib.hid (rroots16_c n L h)) (Lib.hid fun j v W hj h1 h2 => rbin16_c n h.len j hj inv px cx v xs hxn hx W h1 h2) w hvx
set_option maxHeartbeats 2000000 in
theorem rslack16_c (n : Nat) (hn : n ≤ 64) (px : Option Addr) (cx : Nat) (xs : List Gi) (hxn : xs.length = n) (hx : allIn 2147483648 xs = true) (w : World) (hvx : CxsAt w (.slice px n cx) xs) :
 Calls Tryz.prog 37 #[.slice px n cx] w fun e w' => e = .returned (.int .i64 (slackG n xs)) ∧ Gr w w' := by
 obtain ⟨b1, b2, b3⟩ := slackG_bd n hn xs hx
 have HM := Lib.hid fun W hW => max09_c (.slice px n cx) xs hx W hW
 have HF := Lib.hid (floor_c (2 * (n : Int) * maxG xs) 32 ⟨by omega, by omega⟩ (by decide) (by decide))
 rw [show (2 : Int) ^ (32 : Int).toNat = 4294967296 from rfl] at HF
 have hn2 : wrap64 (2 * (n : Int)) = 2 * n := IntWalk.wrap64_in _ ⟨by omega, by omega⟩
 unfold slackG at b3 ⊢
 generalize maxG xs = M at *
 have hw1 : wrap64 (2 * (n : Int) * M) = 2 * n * M := IntWalk.wrap64_in _ ⟨by omega, by omega⟩
 have hw2 : wrap64 (2 * (n : Int) * M / 4294967296 + 2) = 2 * n * M / 4294967296 + 2 := IntWalk.wrap64_in _ ⟨by omega, by omega⟩
 have HW2 := Lib.hid hw2
 clear b1 b2 b3 hw2 hxn hx hn
 go_enter Tryz.func37, Tryz.ntmps37
 go_wp2_with fail
 refine (HM.out _ hvx).mono ?_
 rintro e w1 ⟨rfl, g1⟩
 go_wp2_with fail
 with_reducible refine (HF.out _).mono ?_
 rintro e wz ⟨rfl, rfl⟩
 go_wp2_with fail
 go_ret
 refine ⟨?_, g1⟩
 show Ending.returned (Value.int .i64 (wrap64 (2 * (n : Int) * M / 4294967296 + 2))) = _
 rw [HW2.out]
end
end Go.Proofs.YtcgeabpibkejpaaGreat
