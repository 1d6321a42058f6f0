/- What reference 16's Bin, All, Slack and May answer. -/
import Derived.Test.YtpkkokcidbcopaaGreatRef16
namespace Go.Proofs.YtpkkokcidbcopaaGreat
open Go.ChangeShapes Go.WideShapes Go.ChangeAt Go.RowKit
set_option linter.unusedVariables false
set_option linter.unusedSimpArgs false
set_option maxRecDepth 100000

set_option maxHeartbeats 8000000 in
theorem rBin16_of (n : Nat) (k : Int) (inv : Bool) (px : Option Addr) (cx : Nat) (vw : Value) (xs ws : List Gi) (hxn : xs.length = n) (Sr Si Qr Qi t0 t1 t2 t3 A : Nat → Gi) (m i : Nat → Int) (D0 D1 : Int)
    (hS : Sr 0 = ⟨0, 0⟩ ∧ Si 0 = ⟨0, 0⟩) (HJ : Hid (∀ j : Nat, j < n → wrap64 ((j : Int) * k) = m j ∧ (m j).tmod (n : Int) = i j)) (hn0 : ¬ (n : Int) = 0) (hnM : n ≤ 1000)
    (HR : Hid (∀ j, j < n → ∀ W, CxsAt W vw ws → Calls Tryz.prog 24 #[vw, .int .i64 (i j), .bool inv] W fun e w' => e = .returned (.agg #[.int .i64 (A j).re, .int .i64 (A j).im]) ∧ Gr W w'))
    (HT0 : Hid (∀ j x, xs[j]? = some x → ∀ W, Calls Tryz.prog 27 #[.int .i64 x.re, .int .i64 (A j).re] W fun e w' => e = .returned (.agg #[.int .i64 (t0 j).re, .int .i64 (t0 j).im]) ∧ Gr W w'))
    (HT1 : Hid (∀ j x, xs[j]? = some x → ∀ W, Calls Tryz.prog 27 #[.int .i64 x.im, .int .i64 (A j).im] W fun e w' => e = .returned (.agg #[.int .i64 (t1 j).re, .int .i64 (t1 j).im]) ∧ Gr W w'))
    (HT2 : Hid (∀ j x, xs[j]? = some x → ∀ W, Calls Tryz.prog 27 #[.int .i64 x.re, .int .i64 (A j).im] W fun e w' => e = .returned (.agg #[.int .i64 (t2 j).re, .int .i64 (t2 j).im]) ∧ Gr W w'))
    (HT3 : Hid (∀ j x, xs[j]? = some x → ∀ W, Calls Tryz.prog 27 #[.int .i64 x.im, .int .i64 (A j).re] W fun e w' => e = .returned (.agg #[.int .i64 (t3 j).re, .int .i64 (t3 j).im]) ∧ Gr W w'))
    (HA0 : Hid (∀ j, j < n → ∀ W, Calls Tryz.prog 26 #[.agg #[.int .i64 (Sr j).re, .int .i64 (Sr j).im], .agg #[.int .i64 (t0 j).re, .int .i64 (t0 j).im]] W fun e w' => e = .returned (.agg #[.int .i64 (Qr j).re, .int .i64 (Qr j).im]) ∧ Gr W w'))
    (HL : Hid (∀ j, j < n → ∀ W, Calls Tryz.prog 25 #[.agg #[.int .i64 (Qr j).re, .int .i64 (Qr j).im], .agg #[.int .i64 (t1 j).re, .int .i64 (t1 j).im]] W fun e w' => e = .returned (.agg #[.int .i64 (Sr (j + 1)).re, .int .i64 (Sr (j + 1)).im]) ∧ Gr W w'))
    (HA1 : Hid (∀ j, j < n → ∀ W, Calls Tryz.prog 26 #[.agg #[.int .i64 (Si j).re, .int .i64 (Si j).im], .agg #[.int .i64 (t2 j).re, .int .i64 (t2 j).im]] W fun e w' => e = .returned (.agg #[.int .i64 (Qi j).re, .int .i64 (Qi j).im]) ∧ Gr W w'))
    (HA2 : Hid (∀ j, j < n → ∀ W, Calls Tryz.prog 26 #[.agg #[.int .i64 (Qi j).re, .int .i64 (Qi j).im], .agg #[.int .i64 (t3 j).re, .int .i64 (t3 j).im]] W fun e w' => e = .returned (.agg #[.int .i64 (Si (j + 1)).re, .int .i64 (Si (j + 1)).im]) ∧ Gr W w'))
    (HD0 : Hid (∀ W, Calls Tryz.prog 28 #[.agg #[.int .i64 (Sr n).re, .int .i64 (Sr n).im]] W fun e w' => e = .returned (.int .i64 D0) ∧ Gr W w')) (HD1 : Hid (∀ W, Calls Tryz.prog 28 #[.agg #[.int .i64 (Si n).re, .int .i64 (Si n).im]] W fun e w' => e = .returned (.int .i64 D1) ∧ Gr W w')) (w : World) (hvx : CxsAt w (.slice px n cx) xs) (hvw : CxsAt w vw ws) :
    Calls Tryz.prog 10 #[.slice px n cx, vw, .int .i64 k, .bool inv] w fun e w' => e = .returned (.agg #[.int .i64 D0, .int .i64 D1]) ∧ Gr w w' := by
  have hne : xs ≠ [] := by intro e; rw [e] at hxn; simp at hxn; omega
  obtain ⟨b, o, cap, hsl, hlen, hb, hc⟩ := hvx.at hne
  rw [hxn] at hsl
  cases hsl
  have HC := Lib.hid hc
  have HX := Lib.hid hxn
  clear hc hvx hne hlen
  go_enter Tryz.func10, Tryz.ntmps10
  go_wp2_with fail
  obtain ⟨u0, hU⟩ : ∃ uu, uu = (((w.alloc (.cells #[.int .i64 0, .int .i64 0] 24)).alloc (.cells #[.int .i64 0, .int .i64 0] 51)).alloc (.cells #[.int .i64 0, .int .i64 0] 51)) := ⟨_, rfl⟩
  have gu : Gr w u0 := by rw [hU]; exact (((Gr.refl w).alloc _ _).alloc _ _).alloc _ _
  have R0 : CellsAt u0 (w.heap.size) 24 #[.int .i64 0, .int .i64 0] := by
    rw [hU]
    have := (((CellsAt.new w 24 #[.int .i64 0, .int .i64 0]).alloc (.cells #[.int .i64 0, .int .i64 0] 51)).alloc (.cells #[.int .i64 0, .int .i64 0] 51))
    simpa only [World.size_alloc] using this
  have R1 : CellsAt u0 (w.heap.size + 1) 51 #[.int .i64 0, .int .i64 0] := by
    rw [hU]
    have := ((CellsAt.new (w.alloc (.cells #[.int .i64 0, .int .i64 0] 24)) 51 #[.int .i64 0, .int .i64 0]).alloc (.cells #[.int .i64 0, .int .i64 0] 51))
    simpa only [World.size_alloc] using this
  have R2 : CellsAt u0 (w.heap.size + 1 + 1) 51 #[.int .i64 0, .int .i64 0] := by
    rw [hU]
    have := (CellsAt.new ((w.alloc (.cells #[.int .i64 0, .int .i64 0] 24)).alloc (.cells #[.int .i64 0, .int .i64 0] 51)) 51 #[.int .i64 0, .int .i64 0])
    simpa only [World.size_alloc] using this
  rw [← hU]
  clear hU
  have lr := R0.lt
  have lE := R1.lt
  have lI := R2.lt
  go_loopw [12, 13, 14, 21] (fun _ _ _ i wr => ∃ j : Nat, j ≤ n ∧ i = .int .i64 j ∧ CellsAt wr w.heap.size 24 #[.int .i64 0, .int .i64 0] ∧ CellsAt wr (w.heap.size + 1) 51 #[.int .i64 (Sr j).re, .int .i64 (Sr j).im] ∧ CellsAt wr (w.heap.size + 1 + 1) 51 #[.int .i64 (Si j).re, .int .i64 (Si j).im] ∧ Gr w wr) (fun _ _ _ i _ => n - (intOf i).toNat)
  case atStart => exact ⟨0, by omega, rfl, R0, by rw [hS.1]; exact R1, by rw [hS.2]; exact R2, gu⟩
  case round =>
    clear R0 R1 R2 gu hS lr lE lI
    obtain ⟨j, hj, rfl, BR, BE, BI, hg⟩ := hrel
    by_cases hlt : j < n
    · have hjI : (j : Int) < (n : Int) := by omega
      obtain ⟨x, hx⟩ := get_of_lt (xs := xs) (by rw [HX.out]; exact hlt)
      have h1 := (hg.cell (p := ⟨b, o + j * 2, none⟩) hb).trans (HC.out j x hx).1
      have h2 := (hg.cell (p := ⟨b, o + j * 2 + 1, none⟩) hb).trans (HC.out j x hx).2
      have hbl : b < wr.heap.size := Nat.lt_of_lt_of_le hb hg.size
      have HR1 := Lib.hid (HR.out j hlt)
      have HT01 := Lib.hid (HT0.out j x hx)
      have HT11 := Lib.hid (HT1.out j x hx)
      have HT21 := Lib.hid (HT2.out j x hx)
      have HT31 := Lib.hid (HT3.out j x hx)
      have HA01 := Lib.hid (HA0.out j hlt)
      have HL1 := Lib.hid (HL.out j hlt)
      have HA11 := Lib.hid (HA1.out j hlt)
      have HA21 := Lib.hid (HA2.out j hlt)
      obtain ⟨hm, hi⟩ := HJ.out j hlt
      obtain ⟨z0, hz0⟩ : ∃ z, Sr (j + 1) = z := ⟨_, rfl⟩
      obtain ⟨z1, hz1⟩ : ∃ z, Si (j + 1) = z := ⟨_, rfl⟩
      rw [hz0] at HL1
      rw [hz1] at HA21
      have HZ0 := Lib.hid hz0
      have HZ1 := Lib.hid hz1
      clear hz0 hz1 hx HR HT0 HT1 HT2 HT3 HA0 HL HA1 HA2 HJ HD0 HD1 HC HX hxn
      generalize Sr j = s0 at *
      generalize Si j = s1 at *
      generalize Qr j = q0 at *
      generalize Qi j = q1 at *
      generalize t0 j = u0 at *
      generalize t1 j = u1 at *
      generalize t2 j = u2 at *
      generalize t3 j = u3 at *
      generalize A j = A at *
      generalize m j = m at *
      generalize i j = i at *
      obtain ⟨re, im⟩ := x
      simp only at h1 h2 HT01 HT11 HT21 HT31
      skip
      have lr := CellsAt.lt BR
      have lE := CellsAt.lt BE
      have lI := CellsAt.lt BI
      go_wp2_with fail
      refine (HR1.out _ (hvw.gr ((hg).alloc _ _))).mono ?_
      rintro e wa1 ⟨rfl, ga1⟩
      have Fr_a1 := CellsAt.gr ((BR).alloc _) ga1
      have lr_a1 := CellsAt.lt (Fr_a1)
      have FE_a1 := CellsAt.gr ((BE).alloc _) ga1
      have lE_a1 := CellsAt.lt (FE_a1)
      have FI_a1 := CellsAt.gr ((BI).alloc _) ga1
      have lI_a1 := CellsAt.lt (FI_a1)
      have Fa_a1 := CellsAt.gr (CellsAt.new wr 24 #[.int .i64 re, .int .i64 im]) ga1
      have la_a1 := CellsAt.lt (Fa_a1)
      have za1 := ((hg).alloc _ _).trans ga1
      clear ga1
      go_wp2_with fail
      obtain ⟨va, hqap1⟩ : ∃ zz, zz = (wa1.alloc (.cells #[.int .i64 (A).re, .int .i64 (A).im] 24)) := ⟨_, rfl⟩
      have Yr_ap1 : CellsAt va (w.heap.size) 24 #[.int .i64 0, .int .i64 0] := by rw [hqap1]; first | exact (Fr_a1).alloc _ | simpa using (Fr_a1).alloc _
      have YE_ap1 : CellsAt va (w.heap.size + 1) 51 #[.int .i64 (s0).re, .int .i64 (s0).im] := by rw [hqap1]; first | exact (FE_a1).alloc _ | simpa using (FE_a1).alloc _
      have YI_ap1 : CellsAt va (w.heap.size + 1 + 1) 51 #[.int .i64 (s1).re, .int .i64 (s1).im] := by rw [hqap1]; first | exact (FI_a1).alloc _ | simpa using (FI_a1).alloc _
      have Ya_ap1 : CellsAt va (wr.heap.size) 24 #[.int .i64 re, .int .i64 im] := by rw [hqap1]; first | exact (Fa_a1).alloc _ | simpa using (Fa_a1).alloc _
      have Yq_ap1 : CellsAt va (wa1.heap.size) 24 #[.int .i64 (A).re, .int .i64 (A).im] := by rw [hqap1]; first | exact CellsAt.new wa1 24 #[.int .i64 (A).re, .int .i64 (A).im] | simpa using CellsAt.new wa1 24 #[.int .i64 (A).re, .int .i64 (A).im]
      have yap1 : Gr w va := by rw [hqap1]; exact (za1).alloc _ _
      rw [← hqap1]
      clear hqap1
      have KS : ∀ W, GB (w.heap.size + 1) va W → (W.cell? ⟨wr.heap.size, 0, none⟩ = some (.int .i64 re) ∧ W.cell? ⟨wr.heap.size, 1, none⟩ = some (.int .i64 im) ∧ W.cell? ⟨wa1.heap.size, 0, none⟩ = some (.int .i64 (A).re) ∧ W.cell? ⟨wa1.heap.size, 1, none⟩ = some (.int .i64 (A).im)) := fun W hG => ⟨(GB.cellsAt hG Ya_ap1 (by omega)).cell 0, (GB.cellsAt hG Ya_ap1 (by omega)).cell 1, (GB.cellsAt hG Yq_ap1 (by omega)).cell 0, (GB.cellsAt hG Yq_ap1 (by omega)).cell 1⟩
      have hclG := gb_closed (w.heap.size + 1) va
      try simp only [List.append_eq, List.cons_append, List.nil_append]
      refine wp_region_grow (S := GB (w.heap.size + 1) va) rfl (GB.drew (GB.refl _ _)) ?_
      refine wpG_take (i := 1) (v := ?_) hclG rfl (by kernel_rfl) (by kernel_rfl) (by kernel_rfl) (fun _ _ _ h => h) (by rfl) ?_ ?_
      rotate_left
      · (intro w' hSw; go_simp; try with_reducible rfl)
      try simp only [Act.put, List.setIfInBounds_toArray, List.set_cons_zero, List.set_cons_succ, List.getElem_toArray, List.getElem_cons_zero, List.getElem_cons_succ]
      refine wpG_take (i := 2) (v := ?_) hclG rfl (by kernel_rfl) (by kernel_rfl) (by kernel_rfl) (fun _ _ _ h => h) (by rfl) ?_ ?_
      rotate_left
      · (intro w' hSw; have hk := KS w' hSw; go_split_ands; go_simp; try with_reducible rfl)
      try simp only [Act.put, List.setIfInBounds_toArray, List.set_cons_zero, List.set_cons_succ, List.getElem_toArray, List.getElem_cons_zero, List.getElem_cons_succ]
      refine wpG_take (i := 3) (v := ?_) hclG rfl (by kernel_rfl) (by kernel_rfl) (by kernel_rfl) (fun _ _ _ h => h) (by rfl) ?_ ?_
      rotate_left
      · (intro w' hSw; go_simp; try with_reducible rfl)
      try simp only [Act.put, List.setIfInBounds_toArray, List.set_cons_zero, List.set_cons_succ, List.getElem_toArray, List.getElem_cons_zero, List.getElem_cons_succ]
      refine wpG_take (i := 4) (v := ?_) hclG rfl (by kernel_rfl) (by kernel_rfl) (by kernel_rfl) (fun _ _ _ h => h) (by rfl) ?_ ?_
      rotate_left
      · (intro w' hSw; have hk := KS w' hSw; go_split_ands; go_simp; try with_reducible rfl)
      try simp only [Act.put, List.setIfInBounds_toArray, List.set_cons_zero, List.set_cons_succ, List.getElem_toArray, List.getElem_cons_zero, List.getElem_cons_succ]
      refine wpG_call (i := 5) hclG rfl (by kernel_rfl) (by kernel_rfl) (by kernel_rfl) (fun _ _ _ h => h) (fun W _ => HT01.out W) (by rfl) ?_ ?_
      · (intro w' hSw; go_simp; try with_reducible rfl)
      try simp only [Act.put, List.setIfInBounds_toArray, List.set_cons_zero, List.set_cons_succ, List.getElem_toArray, List.getElem_cons_zero, List.getElem_cons_succ]
      refine wpG_take (i := 7) (v := ?_) hclG rfl (by kernel_rfl) (by kernel_rfl) (by kernel_rfl) (fun _ _ _ h => h) (by rfl) ?_ ?_
      rotate_left
      · (intro w' hSw; go_simp; try with_reducible rfl)
      try simp only [Act.put, List.setIfInBounds_toArray, List.set_cons_zero, List.set_cons_succ, List.getElem_toArray, List.getElem_cons_zero, List.getElem_cons_succ]
      refine wpG_take (i := 8) (v := ?_) hclG rfl (by kernel_rfl) (by kernel_rfl) (by kernel_rfl) (fun _ _ _ h => h) (by rfl) ?_ ?_
      rotate_left
      · (intro w' hSw; have hk := KS w' hSw; go_split_ands; go_simp; try with_reducible rfl)
      try simp only [Act.put, List.setIfInBounds_toArray, List.set_cons_zero, List.set_cons_succ, List.getElem_toArray, List.getElem_cons_zero, List.getElem_cons_succ]
      refine wpG_take (i := 9) (v := ?_) hclG rfl (by kernel_rfl) (by kernel_rfl) (by kernel_rfl) (fun _ _ _ h => h) (by rfl) ?_ ?_
      rotate_left
      · (intro w' hSw; go_simp; try with_reducible rfl)
      try simp only [Act.put, List.setIfInBounds_toArray, List.set_cons_zero, List.set_cons_succ, List.getElem_toArray, List.getElem_cons_zero, List.getElem_cons_succ]
      refine wpG_take (i := 10) (v := ?_) hclG rfl (by kernel_rfl) (by kernel_rfl) (by kernel_rfl) (fun _ _ _ h => h) (by rfl) ?_ ?_
      rotate_left
      · (intro w' hSw; have hk := KS w' hSw; go_split_ands; go_simp; try with_reducible rfl)
      try simp only [Act.put, List.setIfInBounds_toArray, List.set_cons_zero, List.set_cons_succ, List.getElem_toArray, List.getElem_cons_zero, List.getElem_cons_succ]
      refine wpG_ready (rs := [0]) (by kernel_rfl) (by simp) (fun wa2 ga2 sa2 => ?_)
      refine AllG.cons rfl (fun K hK => ?_) AllG.nil
      replace ga2 := (Gr.drew (Gr.refl va)).trans ga2
      have Fr_a2 := CellsAt.gr (Yr_ap1) ga2
      have lr_a2 := CellsAt.lt (Fr_a2)
      have FE_a2 := CellsAt.gr (YE_ap1) ga2
      have lE_a2 := CellsAt.lt (FE_a2)
      have FI_a2 := CellsAt.gr (YI_ap1) ga2
      have lI_a2 := CellsAt.lt (FI_a2)
      have Fa_a2 := CellsAt.gr (Ya_ap1) ga2
      have la_a2 := CellsAt.lt (Fa_a2)
      have Fq_a2 := CellsAt.gr (Yq_ap1) ga2
      have lq_a2 := CellsAt.lt (Fq_a2)
      have za2 := (yap1).trans ga2
      clear Yr_ap1 YE_ap1 YI_ap1 Ya_ap1 Yq_ap1 yap1 ga2
      have cE0 := CellsAt.cell (FE_a2) 0
      have cE1 := CellsAt.cell (FE_a2) 1
      simp only [List.getElem?_toArray, List.getElem?_cons_zero, List.getElem?_cons_succ] at cE0 cE1
      go_simp
      clear cE0 cE1
      refine hK.out _ _ ?_ ?_
      · exact sa2
      clear hK K
      try simp only [Act.put, List.setIfInBounds_toArray, List.set_cons_zero, List.set_cons_succ, List.getElem_toArray, List.getElem_cons_zero, List.getElem_cons_succ]
      refine wpG_call (i := 6) hclG rfl (by kernel_rfl) (by kernel_rfl) (by kernel_rfl) (fun _ _ _ h => h) (fun W _ => HA01.out W) (by rfl) ?_ ?_
      · (intro w' hSw; go_simp; try with_reducible rfl)
      try simp only [Act.put, List.setIfInBounds_toArray, List.set_cons_zero, List.set_cons_succ, List.getElem_toArray, List.getElem_cons_zero, List.getElem_cons_succ]
      refine wpG_call (i := 11) hclG rfl (by kernel_rfl) (by kernel_rfl) (by kernel_rfl) (fun _ _ _ h => h) (fun W _ => HT11.out W) (by rfl) ?_ ?_
      · (intro w' hSw; go_simp; try with_reducible rfl)
      try simp only [Act.put, List.setIfInBounds_toArray, List.set_cons_zero, List.set_cons_succ, List.getElem_toArray, List.getElem_cons_zero, List.getElem_cons_succ]
      refine wpG_call (i := 12) hclG rfl (by kernel_rfl) (by kernel_rfl) (by kernel_rfl) (fun _ _ _ h => h) (fun W _ => HL1.out W) (by rfl) ?_ ?_
      · (intro w' hSw; go_simp; try with_reducible rfl)
      try simp only [Act.put, List.setIfInBounds_toArray, List.set_cons_zero, List.set_cons_succ, List.getElem_toArray, List.getElem_cons_zero, List.getElem_cons_succ]
      refine wpG_ready (rs := [13]) (by kernel_rfl) (by simp) (fun wa3 ga3 sa3 => ?_)
      refine AllG.cons rfl (fun K hK => ?_) AllG.nil
      have Fr_a3 := CellsAt.gr (Fr_a2) ga3
      have lr_a3 := CellsAt.lt (Fr_a3)
      have FE_a3 := CellsAt.gr (FE_a2) ga3
      have lE_a3 := CellsAt.lt (FE_a3)
      have FI_a3 := CellsAt.gr (FI_a2) ga3
      have lI_a3 := CellsAt.lt (FI_a3)
      have Fa_a3 := CellsAt.gr (Fa_a2) ga3
      have la_a3 := CellsAt.lt (Fa_a3)
      have Fq_a3 := CellsAt.gr (Fq_a2) ga3
      have lq_a3 := CellsAt.lt (Fq_a3)
      have za3 := (za2).trans ga3
      clear Fr_a2 FE_a2 FI_a2 Fa_a2 Fq_a2 za2 ga3
      have mE0 := CellsAt.frozen (FE_a3) 0
      have cE0 := CellsAt.cell (FE_a3) 0
      simp only [List.getElem?_toArray, List.getElem?_cons_zero, List.getElem?_cons_succ] at cE0
      have mE1 := CellsAt.frozen (FE_a3) 1
      have cE1 := CellsAt.cell (FE_a3) 1
      simp only [List.getElem?_toArray, List.getElem?_cons_zero, List.getElem?_cons_succ] at cE1
      go_simp
      clear mE0 cE0 mE1 cE1
      refine hK.out _ _ ?_ ?_
      · exact (GB.set (GB.set sa3 _ _) _ _)
      clear hK K
      try simp only [Act.put, List.setIfInBounds_toArray, List.set_cons_zero, List.set_cons_succ, List.getElem_toArray, List.getElem_cons_zero, List.getElem_cons_succ]
      refine wpG_done (by kernel_rfl) (fun wa4 ga4 => ?_) _
      have Fr_a4 := CellsAt.gr (((Fr_a3).other (by omega) _ _).other (by omega) _ _) ga4
      have lr_a4 := CellsAt.lt (Fr_a4)
      have FE_a4 := CellsAt.gr (CellsAt.set2 (FE_a3) _ _) ga4
      have lE_a4 := CellsAt.lt (FE_a4)
      have FI_a4 := CellsAt.gr (((FI_a3).other (by omega) _ _).other (by omega) _ _) ga4
      have lI_a4 := CellsAt.lt (FI_a4)
      have Fa_a4 := CellsAt.gr (((Fa_a3).other (by omega) _ _).other (by omega) _ _) ga4
      have la_a4 := CellsAt.lt (Fa_a4)
      have Fq_a4 := CellsAt.gr (((Fq_a3).other (by omega) _ _).other (by omega) _ _) ga4
      have lq_a4 := CellsAt.lt (Fq_a4)
      have za4 := (((za3).setCell (by first | omega | (simp only; omega)) _).setCell (by first | omega | (simp only; omega)) _).trans ga4
      clear ga4
      clear hclG KS
      go_wp2_with fail
      obtain ⟨vb, hqap2⟩ : ∃ zz, zz = wa4 := ⟨_, rfl⟩
      have Yr_ap2 : CellsAt vb (w.heap.size) 24 #[.int .i64 0, .int .i64 0] := by rw [hqap2]; first | exact Fr_a4 | simpa using Fr_a4
      have YE_ap2 : CellsAt vb (w.heap.size + 1) 51 #[.int .i64 (z0).re, .int .i64 (z0).im] := by rw [hqap2]; first | exact FE_a4 | simpa using FE_a4
      have YI_ap2 : CellsAt vb (w.heap.size + 1 + 1) 51 #[.int .i64 (s1).re, .int .i64 (s1).im] := by rw [hqap2]; first | exact FI_a4 | simpa using FI_a4
      have Ya_ap2 : CellsAt vb (wr.heap.size) 24 #[.int .i64 re, .int .i64 im] := by rw [hqap2]; first | exact Fa_a4 | simpa using Fa_a4
      have Yq_ap2 : CellsAt vb (wa1.heap.size) 24 #[.int .i64 (A).re, .int .i64 (A).im] := by rw [hqap2]; first | exact Fq_a4 | simpa using Fq_a4
      have yap2 : Gr w vb := by rw [hqap2]; exact za4
      rw [← hqap2]
      clear hqap2
      have KS : ∀ W, GB (w.heap.size + 1 + 1) vb W → (W.cell? ⟨wr.heap.size, 0, none⟩ = some (.int .i64 re) ∧ W.cell? ⟨wr.heap.size, 1, none⟩ = some (.int .i64 im) ∧ W.cell? ⟨wa1.heap.size, 0, none⟩ = some (.int .i64 (A).re) ∧ W.cell? ⟨wa1.heap.size, 1, none⟩ = some (.int .i64 (A).im)) := fun W hG => ⟨(GB.cellsAt hG Ya_ap2 (by omega)).cell 0, (GB.cellsAt hG Ya_ap2 (by omega)).cell 1, (GB.cellsAt hG Yq_ap2 (by omega)).cell 0, (GB.cellsAt hG Yq_ap2 (by omega)).cell 1⟩
      have hclG := gb_closed (w.heap.size + 1 + 1) vb
      try simp only [List.append_eq, List.cons_append, List.nil_append]
      refine wp_region_grow (S := GB (w.heap.size + 1 + 1) vb) rfl (GB.drew (GB.refl _ _)) ?_
      refine wpG_take (i := 1) (v := ?_) hclG rfl (by kernel_rfl) (by kernel_rfl) (by kernel_rfl) (fun _ _ _ h => h) (by rfl) ?_ ?_
      rotate_left
      · (intro w' hSw; go_simp; try with_reducible rfl)
      try simp only [Act.put, List.setIfInBounds_toArray, List.set_cons_zero, List.set_cons_succ, List.getElem_toArray, List.getElem_cons_zero, List.getElem_cons_succ]
      refine wpG_take (i := 2) (v := ?_) hclG rfl (by kernel_rfl) (by kernel_rfl) (by kernel_rfl) (fun _ _ _ h => h) (by rfl) ?_ ?_
      rotate_left
      · (intro w' hSw; have hk := KS w' hSw; go_split_ands; go_simp; try with_reducible rfl)
      try simp only [Act.put, List.setIfInBounds_toArray, List.set_cons_zero, List.set_cons_succ, List.getElem_toArray, List.getElem_cons_zero, List.getElem_cons_succ]
      refine wpG_take (i := 3) (v := ?_) hclG rfl (by kernel_rfl) (by kernel_rfl) (by kernel_rfl) (fun _ _ _ h => h) (by rfl) ?_ ?_
      rotate_left
      · (intro w' hSw; go_simp; try with_reducible rfl)
      try simp only [Act.put, List.setIfInBounds_toArray, List.set_cons_zero, List.set_cons_succ, List.getElem_toArray, List.getElem_cons_zero, List.getElem_cons_succ]
      refine wpG_take (i := 4) (v := ?_) hclG rfl (by kernel_rfl) (by kernel_rfl) (by kernel_rfl) (fun _ _ _ h => h) (by rfl) ?_ ?_
      rotate_left
      · (intro w' hSw; have hk := KS w' hSw; go_split_ands; go_simp; try with_reducible rfl)
      try simp only [Act.put, List.setIfInBounds_toArray, List.set_cons_zero, List.set_cons_succ, List.getElem_toArray, List.getElem_cons_zero, List.getElem_cons_succ]
      refine wpG_call (i := 5) hclG rfl (by kernel_rfl) (by kernel_rfl) (by kernel_rfl) (fun _ _ _ h => h) (fun W _ => HT21.out W) (by rfl) ?_ ?_
      · (intro w' hSw; go_simp; try with_reducible rfl)
      try simp only [Act.put, List.setIfInBounds_toArray, List.set_cons_zero, List.set_cons_succ, List.getElem_toArray, List.getElem_cons_zero, List.getElem_cons_succ]
      refine wpG_take (i := 7) (v := ?_) hclG rfl (by kernel_rfl) (by kernel_rfl) (by kernel_rfl) (fun _ _ _ h => h) (by rfl) ?_ ?_
      rotate_left
      · (intro w' hSw; go_simp; try with_reducible rfl)
      try simp only [Act.put, List.setIfInBounds_toArray, List.set_cons_zero, List.set_cons_succ, List.getElem_toArray, List.getElem_cons_zero, List.getElem_cons_succ]
      refine wpG_take (i := 8) (v := ?_) hclG rfl (by kernel_rfl) (by kernel_rfl) (by kernel_rfl) (fun _ _ _ h => h) (by rfl) ?_ ?_
      rotate_left
      · (intro w' hSw; have hk := KS w' hSw; go_split_ands; go_simp; try with_reducible rfl)
      try simp only [Act.put, List.setIfInBounds_toArray, List.set_cons_zero, List.set_cons_succ, List.getElem_toArray, List.getElem_cons_zero, List.getElem_cons_succ]
      refine wpG_take (i := 9) (v := ?_) hclG rfl (by kernel_rfl) (by kernel_rfl) (by kernel_rfl) (fun _ _ _ h => h) (by rfl) ?_ ?_
      rotate_left
      · (intro w' hSw; go_simp; try with_reducible rfl)
      try simp only [Act.put, List.setIfInBounds_toArray, List.set_cons_zero, List.set_cons_succ, List.getElem_toArray, List.getElem_cons_zero, List.getElem_cons_succ]
      refine wpG_take (i := 10) (v := ?_) hclG rfl (by kernel_rfl) (by kernel_rfl) (by kernel_rfl) (fun _ _ _ h => h) (by rfl) ?_ ?_
      rotate_left
      · (intro w' hSw; have hk := KS w' hSw; go_split_ands; go_simp; try with_reducible rfl)
      try simp only [Act.put, List.setIfInBounds_toArray, List.set_cons_zero, List.set_cons_succ, List.getElem_toArray, List.getElem_cons_zero, List.getElem_cons_succ]
      refine wpG_ready (rs := [0]) (by kernel_rfl) (by simp) (fun wa5 ga5 sa5 => ?_)
      refine AllG.cons rfl (fun K hK => ?_) AllG.nil
      replace ga5 := (Gr.drew (Gr.refl vb)).trans ga5
      have Fr_a5 := CellsAt.gr (Yr_ap2) ga5
      have lr_a5 := CellsAt.lt (Fr_a5)
      have FE_a5 := CellsAt.gr (YE_ap2) ga5
      have lE_a5 := CellsAt.lt (FE_a5)
      have FI_a5 := CellsAt.gr (YI_ap2) ga5
      have lI_a5 := CellsAt.lt (FI_a5)
      have Fa_a5 := CellsAt.gr (Ya_ap2) ga5
      have la_a5 := CellsAt.lt (Fa_a5)
      have Fq_a5 := CellsAt.gr (Yq_ap2) ga5
      have lq_a5 := CellsAt.lt (Fq_a5)
      have za5 := (yap2).trans ga5
      clear Yr_ap2 YE_ap2 YI_ap2 Ya_ap2 Yq_ap2 yap2 ga5
      have cI0 := CellsAt.cell (FI_a5) 0
      have cI1 := CellsAt.cell (FI_a5) 1
      simp only [List.getElem?_toArray, List.getElem?_cons_zero, List.getElem?_cons_succ] at cI0 cI1
      go_simp
      clear cI0 cI1
      refine hK.out _ _ ?_ ?_
      · exact sa5
      clear hK K
      try simp only [Act.put, List.setIfInBounds_toArray, List.set_cons_zero, List.set_cons_succ, List.getElem_toArray, List.getElem_cons_zero, List.getElem_cons_succ]
      refine wpG_call (i := 6) hclG rfl (by kernel_rfl) (by kernel_rfl) (by kernel_rfl) (fun _ _ _ h => h) (fun W _ => HA11.out W) (by rfl) ?_ ?_
      · (intro w' hSw; go_simp; try with_reducible rfl)
      try simp only [Act.put, List.setIfInBounds_toArray, List.set_cons_zero, List.set_cons_succ, List.getElem_toArray, List.getElem_cons_zero, List.getElem_cons_succ]
      refine wpG_call (i := 11) hclG rfl (by kernel_rfl) (by kernel_rfl) (by kernel_rfl) (fun _ _ _ h => h) (fun W _ => HT31.out W) (by rfl) ?_ ?_
      · (intro w' hSw; go_simp; try with_reducible rfl)
      try simp only [Act.put, List.setIfInBounds_toArray, List.set_cons_zero, List.set_cons_succ, List.getElem_toArray, List.getElem_cons_zero, List.getElem_cons_succ]
      refine wpG_call (i := 12) hclG rfl (by kernel_rfl) (by kernel_rfl) (by kernel_rfl) (fun _ _ _ h => h) (fun W _ => HA21.out W) (by rfl) ?_ ?_
      · (intro w' hSw; go_simp; try with_reducible rfl)
      try simp only [Act.put, List.setIfInBounds_toArray, List.set_cons_zero, List.set_cons_succ, List.getElem_toArray, List.getElem_cons_zero, List.getElem_cons_succ]
      refine wpG_ready (rs := [13]) (by kernel_rfl) (by simp) (fun wa6 ga6 sa6 => ?_)
      refine AllG.cons rfl (fun K hK => ?_) AllG.nil
      have Fr_a6 := CellsAt.gr (Fr_a5) ga6
      have lr_a6 := CellsAt.lt (Fr_a6)
      have FE_a6 := CellsAt.gr (FE_a5) ga6
      have lE_a6 := CellsAt.lt (FE_a6)
      have FI_a6 := CellsAt.gr (FI_a5) ga6
      have lI_a6 := CellsAt.lt (FI_a6)
      have Fa_a6 := CellsAt.gr (Fa_a5) ga6
      have la_a6 := CellsAt.lt (Fa_a6)
      have Fq_a6 := CellsAt.gr (Fq_a5) ga6
      have lq_a6 := CellsAt.lt (Fq_a6)
      have za6 := (za5).trans ga6
      clear Fr_a5 FE_a5 FI_a5 Fa_a5 Fq_a5 za5 ga6
      have mI0 := CellsAt.frozen (FI_a6) 0
      have cI0 := CellsAt.cell (FI_a6) 0
      simp only [List.getElem?_toArray, List.getElem?_cons_zero, List.getElem?_cons_succ] at cI0
      have mI1 := CellsAt.frozen (FI_a6) 1
      have cI1 := CellsAt.cell (FI_a6) 1
      simp only [List.getElem?_toArray, List.getElem?_cons_zero, List.getElem?_cons_succ] at cI1
      go_simp
      clear mI0 cI0 mI1 cI1
      refine hK.out _ _ ?_ ?_
      · exact (GB.set (GB.set sa6 _ _) _ _)
      clear hK K
      try simp only [Act.put, List.setIfInBounds_toArray, List.set_cons_zero, List.set_cons_succ, List.getElem_toArray, List.getElem_cons_zero, List.getElem_cons_succ]
      refine wpG_done (by kernel_rfl) (fun wa7 ga7 => ?_) _
      have Fr_a7 := CellsAt.gr (((Fr_a6).other (by omega) _ _).other (by omega) _ _) ga7
      have lr_a7 := CellsAt.lt (Fr_a7)
      have FE_a7 := CellsAt.gr (((FE_a6).other (by omega) _ _).other (by omega) _ _) ga7
      have lE_a7 := CellsAt.lt (FE_a7)
      have FI_a7 := CellsAt.gr (CellsAt.set2 (FI_a6) _ _) ga7
      have lI_a7 := CellsAt.lt (FI_a7)
      have Fa_a7 := CellsAt.gr (((Fa_a6).other (by omega) _ _).other (by omega) _ _) ga7
      have la_a7 := CellsAt.lt (Fa_a7)
      have Fq_a7 := CellsAt.gr (((Fq_a6).other (by omega) _ _).other (by omega) _ _) ga7
      have lq_a7 := CellsAt.lt (Fq_a7)
      have za7 := (((za6).setCell (by first | omega | (simp only; omega)) _).setCell (by first | omega | (simp only; omega)) _).trans ga7
      clear ga7
      clear hclG KS
      go_wp2_with fail
      go_roundw
      case rel => exact ⟨j + 1, by omega, by go_num, Fr_a7, by rw [HZ0.out]; exact FE_a7, by rw [HZ1.out]; exact FI_a7, za7⟩
      case measure => simp [intOf]; omega
    · obtain rfl : j = n := by omega
      have hjI : ¬ (j : Int) < (j : Int) := by omega
      have HD01 := Lib.hid HD0.out
      have HD11 := Lib.hid HD1.out
      clear HR HT0 HT1 HT2 HT3 HA0 HL HA1 HA2 HJ HD0 HD1 HC HX hxn hnM
      generalize Sr j = s0 at *
      generalize Si j = s1 at *
      have lr := CellsAt.lt BR
      have lE := CellsAt.lt BE
      have lI := CellsAt.lt BI
      go_wp2_with fail
      obtain ⟨ve, hqep1⟩ : ∃ zz, zz = wr := ⟨_, rfl⟩
      have Yr_ep1 : CellsAt ve (w.heap.size) 24 #[.int .i64 0, .int .i64 0] := by rw [hqep1]; first | exact BR | simpa using BR
      have YE_ep1 : CellsAt ve (w.heap.size + 1) 51 #[.int .i64 (s0).re, .int .i64 (s0).im] := by rw [hqep1]; first | exact BE | simpa using BE
      have YI_ep1 : CellsAt ve (w.heap.size + 1 + 1) 51 #[.int .i64 (s1).re, .int .i64 (s1).im] := by rw [hqep1]; first | exact BI | simpa using BI
      have yep1 : Gr w ve := by rw [hqep1]; exact hg
      rw [← hqep1]
      clear hqep1
      have KS : ∀ W, GB (w.heap.size) ve W → (W.cell? ⟨w.heap.size + 1, 0, none⟩ = some (.int .i64 (s0).re) ∧ W.cell? ⟨w.heap.size + 1, 1, none⟩ = some (.int .i64 (s0).im) ∧ W.cell? ⟨w.heap.size + 1 + 1, 0, none⟩ = some (.int .i64 (s1).re) ∧ W.cell? ⟨w.heap.size + 1 + 1, 1, none⟩ = some (.int .i64 (s1).im)) := fun W hG => ⟨(GB.cellsAt hG YE_ep1 (by omega)).cell 0, (GB.cellsAt hG YE_ep1 (by omega)).cell 1, (GB.cellsAt hG YI_ep1 (by omega)).cell 0, (GB.cellsAt hG YI_ep1 (by omega)).cell 1⟩
      have hclG := gb_closed (w.heap.size) ve
      try simp only [List.append_eq, List.cons_append, List.nil_append]
      refine wp_region_grow (S := GB (w.heap.size) ve) rfl (GB.drew (GB.refl _ _)) ?_
      refine wpG_take (i := 0) (v := ?_) hclG rfl (by kernel_rfl) (by kernel_rfl) (by kernel_rfl) (fun _ _ _ h => h) (by rfl) ?_ ?_
      rotate_left
      · (intro w' hSw; have hk := KS w' hSw; go_split_ands; go_simp; try with_reducible rfl)
      try simp only [Act.put, List.setIfInBounds_toArray, List.set_cons_zero, List.set_cons_succ, List.getElem_toArray, List.getElem_cons_zero, List.getElem_cons_succ]
      refine wpG_call (i := 1) hclG rfl (by kernel_rfl) (by kernel_rfl) (by kernel_rfl) (fun _ _ _ h => h) (fun W _ => HD01.out W) (by rfl) ?_ ?_
      · (intro w' hSw; go_simp; try with_reducible rfl)
      try simp only [Act.put, List.setIfInBounds_toArray, List.set_cons_zero, List.set_cons_succ, List.getElem_toArray, List.getElem_cons_zero, List.getElem_cons_succ]
      refine wpG_take (i := 2) (v := ?_) hclG rfl (by kernel_rfl) (by kernel_rfl) (by kernel_rfl) (fun _ _ _ h => h) (by rfl) ?_ ?_
      rotate_left
      · (intro w' hSw; have hk := KS w' hSw; go_split_ands; go_simp; try with_reducible rfl)
      try simp only [Act.put, List.setIfInBounds_toArray, List.set_cons_zero, List.set_cons_succ, List.getElem_toArray, List.getElem_cons_zero, List.getElem_cons_succ]
      refine wpG_call (i := 3) hclG rfl (by kernel_rfl) (by kernel_rfl) (by kernel_rfl) (fun _ _ _ h => h) (fun W _ => HD11.out W) (by rfl) ?_ ?_
      · (intro w' hSw; go_simp; try with_reducible rfl)
      try simp only [Act.put, List.setIfInBounds_toArray, List.set_cons_zero, List.set_cons_succ, List.getElem_toArray, List.getElem_cons_zero, List.getElem_cons_succ]
      refine wpG_take (i := 4) (v := ?_) hclG rfl (by kernel_rfl) (by kernel_rfl) (by kernel_rfl) (fun _ _ _ h => h) (by rfl) ?_ ?_
      rotate_left
      · (intro w' hSw; go_simp; try with_reducible rfl)
      try simp only [Act.put, List.setIfInBounds_toArray, List.set_cons_zero, List.set_cons_succ, List.getElem_toArray, List.getElem_cons_zero, List.getElem_cons_succ]
      refine wpG_ready (rs := [5]) (by kernel_rfl) (by simp) (fun we1 ge1 se1 => ?_)
      refine AllG.cons rfl (fun K hK => ?_) AllG.nil
      replace ge1 := (Gr.drew (Gr.refl ve)).trans ge1
      have Fr_e1 := CellsAt.gr (Yr_ep1) ge1
      have lr_e1 := CellsAt.lt (Fr_e1)
      have FE_e1 := CellsAt.gr (YE_ep1) ge1
      have lE_e1 := CellsAt.lt (FE_e1)
      have FI_e1 := CellsAt.gr (YI_ep1) ge1
      have lI_e1 := CellsAt.lt (FI_e1)
      have ze1 := (yep1).trans ge1
      clear Yr_ep1 YE_ep1 YI_ep1 yep1 ge1
      have mr0 := CellsAt.frozen (Fr_e1) 0
      have cr0 := CellsAt.cell (Fr_e1) 0
      simp only [List.getElem?_toArray, List.getElem?_cons_zero, List.getElem?_cons_succ] at cr0
      have mr1 := CellsAt.frozen (Fr_e1) 1
      have cr1 := CellsAt.cell (Fr_e1) 1
      simp only [List.getElem?_toArray, List.getElem?_cons_zero, List.getElem?_cons_succ] at cr1
      go_simp
      clear mr0 cr0 mr1 cr1
      refine hK.out _ _ ?_ ?_
      · exact (GB.set (GB.set se1 _ _) _ _)
      clear hK K
      try simp only [Act.put, List.setIfInBounds_toArray, List.set_cons_zero, List.set_cons_succ, List.getElem_toArray, List.getElem_cons_zero, List.getElem_cons_succ]
      refine wpG_done (by kernel_rfl) (fun we2 ge2 => ?_) _
      have Fr_e2 := CellsAt.gr (CellsAt.set2 (Fr_e1) _ _) ge2
      have lr_e2 := CellsAt.lt (Fr_e2)
      have FE_e2 := CellsAt.gr (((FE_e1).other (by omega) _ _).other (by omega) _ _) ge2
      have lE_e2 := CellsAt.lt (FE_e2)
      have FI_e2 := CellsAt.gr (((FI_e1).other (by omega) _ _).other (by omega) _ _) ge2
      have lI_e2 := CellsAt.lt (FI_e2)
      have ze2 := (((ze1).setCell (by first | omega | (simp only; omega)) _).setCell (by first | omega | (simp only; omega)) _).trans ge2
      clear ge2
      clear hclG KS
      have cr0 := CellsAt.cell (Fr_e2) 0
      have cr1 := CellsAt.cell (Fr_e2) 1
      simp only [List.getElem?_toArray, List.getElem?_cons_zero, List.getElem?_cons_succ] at cr0 cr1
      go_wp2_with fail
      clear cr0 cr1
      obtain ⟨ufe, hqep2⟩ : ∃ zz, zz = we2 := ⟨_, rfl⟩
      have Yr_ep2 : CellsAt ufe (w.heap.size) 24 #[.int .i64 D0, .int .i64 D1] := by rw [hqep2]; first | exact Fr_e2 | simpa using Fr_e2
      have YE_ep2 : CellsAt ufe (w.heap.size + 1) 51 #[.int .i64 (s0).re, .int .i64 (s0).im] := by rw [hqep2]; first | exact FE_e2 | simpa using FE_e2
      have YI_ep2 : CellsAt ufe (w.heap.size + 1 + 1) 51 #[.int .i64 (s1).re, .int .i64 (s1).im] := by rw [hqep2]; first | exact FI_e2 | simpa using FI_e2
      have yep2 : Gr w ufe := by rw [hqep2]; exact ze2
      rw [← hqep2]
      clear hqep2
      have cr0 := CellsAt.cell (Yr_ep2) 0
      have cr1 := CellsAt.cell (Yr_ep2) 1
      simp only [List.getElem?_toArray, List.getElem?_cons_zero, List.getElem?_cons_succ] at cr0 cr1
      refine bodyPost_ret (v := .agg #[.int .i64 D0, .int .i64 D1]) ?_ rfl ⟨rfl, yep2⟩
      simp [results, Tryz.results10, go_sem, *]

end Go.Proofs.YtpkkokcidbcopaaGreat
