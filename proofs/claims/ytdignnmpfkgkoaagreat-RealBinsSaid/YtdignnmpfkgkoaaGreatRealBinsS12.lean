import Derived.Deep.AppendLies
import Derived.Test.YtdignnmpfkgkoaaGreatRealBinsS6
namespace Go.Proofs.YtdignnmpfkgkoaaGreat
section
open Go.ChangeShapes Go.WideShapes Go.ChangeAt Go.RowKit
set_option linter.unusedVariables false
set_option linter.unusedSimpArgs false
set_option maxRecDepth 100000
set_option maxHeartbeats 16000000
def clampG (p : Int) (a : Gi) : Gi := ⟨clampI p a.re, clampI p a.im⟩
theorem field_X (x z : Int) (y : Bool) (W : World) : (Instr.field 111 (.agg #[x, y, z]) 0).run Tryz.prog W = .ok (.int .i64 x) W := by kernel_rfl
theorem clamped15_of (v : Value) (xs : List Gi) (fo p : Int) (hl : xs.length ≤ 100) (HC : Hid (∀ x W, Calls Tryz.prog 86 #[.int .i64 x, fo] W fun e w' => e = .returned (.agg #[.int .i64 (clampI p x), .bool (clampI p x != x), .int .i64 0]) ∧ Gr W w')) (w : World) (hv : CxsAt w v xs) :
 Calls Tryz.prog 44 #[v, fo] w fun e w' => ∃ u, e = .returned u ∧ CxsAt w' u (xs.map (clampG p)) ∧ Gr w w' := by
 obtain ⟨i0, hi, hz0, hz1, hz2⟩ := info_parts info_cx
 obtain ⟨sp, scap, rfl⟩ := hv.len
 have hfd := field_X
 go_in
 go_wp2_with fail
 have hs0 : (w.alloc (.cells #[] 50)).ownsRow w.heap.size 50 2 (.slice (some ⟨w.heap.size, 0, none⟩) 0 0) 0 [] := World.ownsRow_made w #[] 0 (Nat.le_refl _) (by unfold maxLen; omega) (by simp)
 have g0 : Gr w (w.alloc (.cells #[] 50)) := (Gr.refl w).alloc _ _
 go_loopw [5, 11] (fun u i wr => ∃ k : Nat, k ≤ xs.length ∧ i = .int .i64 k ∧ wr.ownsRow w.heap.size 50 2 u k (gcells ((xs.take k).map (clampG p))) ∧ Gr w wr) (fun _ i _ => xs.length - (intOf i).toNat)
 case atStart => exact ⟨0, by omega, rfl, hs0, g0⟩
 case round =>
  clear hs0 g0;obtain ⟨k, hk, rfl, hrow, hg⟩ := hrel
  by_cases hlt : k < xs.length
  ·obtain ⟨x, hx⟩ := get_of_lt hlt
   obtain ⟨b, o, cap', hsl, hln, hb, hc⟩ := hv.at (by intro e; rw [e] at hlt; simp at hlt)
   cases hsl
   have h1 := (hg.cell (p := ⟨b, o + k * 2, none⟩) hb).trans (hc k x hx).1;have h2 := (hg.cell (p := ⟨b, o + k * 2 + 1, none⟩) hb).trans (hc k x hx).2;have HTK := kh (show (xs.take (k + 1)).map (clampG p) = (xs.take k).map (clampG p) ++ [clampG p x] by rw [take_snoc hx, List.map_append]; rfl)
   have hlI : (k : Int) < (xs.length : Int) := by omega
   have hl100 : (xs.length : Int) ≤ 100 := by omega
   obtain ⟨re, im⟩ := x;simp only [clampG] at h1 h2 HTK;have HC1 := kh (HC.out re);have HC2 := kh (HC.out im);generalize clampI p re = cre at *;generalize clampI p im = cim at *;clear hx;go_wp2_with fail;clear h1 h2
   obtain ⟨u3, hu⟩ : ∃ uu, uu = wr.alloc (.cells #[re, im] 50) := ⟨_, rfl⟩
   have X3 : CellsAt u3 wr.heap.size 50 #[re, im] := by rw [hu]; exact CellsAt.new wr 50 _
   have y3 : Gr w u3 := by rw [hu]; exact hg.alloc _ _
   have row3 : u3.ownsRow w.heap.size 50 2 u5 k (gcells ((xs.take k).map (clampG p))) := by rw [hu]; exact hrow.alloc _
   have hrl := fun q e => (hrow.lt q e).2
   have hrb := fun q e => (hrow.lt q e).1
   try rw [← hu]
   clear hu
   have hclG : ∀ x y, (Gr w x ∧ CellsAt x wr.heap.size 50 #[re, im]) → Gr x y → (Gr w y ∧ CellsAt y wr.heap.size 50 #[re, im]) := fun _ _ h g => ⟨h.1.trans g, h.2.gr g⟩
   have KS : ∀ W, (Gr w W ∧ CellsAt W wr.heap.size 50 #[re, im]) → (W.cell? ⟨wr.heap.size, 0, none⟩ = some (.int .i64 re) ∧ W.cell? ⟨wr.heap.size, 1, none⟩ = some (.int .i64 im)) := fun W h => ⟨h.2.cell 0, h.2.cell 1⟩
   try simp only [List.append_eq, List.cons_append, List.nil_append]
   refine wp_region_grow (S := fun W => Gr w W ∧ CellsAt W wr.heap.size 50 #[re, im]) rfl ⟨Gr.drew y3, CellsAt.gr X3 (Gr.drew (Gr.refl _))⟩ ?_;refine gT 0 hclG ?_;refine gT 1 hclG ?_;refine gK 2 hclG KS ?_;refine gT 3 hclG ?_;refine gC 4 hclG (fun W hS => HC1.out W) ?_
   try simp only [Act.put, putS]
   refine gT 5 hclG ?_;refine gT 6 hclG ?_;refine gK 7 hclG KS ?_;refine gT 8 hclG ?_;refine gC 9 hclG (fun W hS => HC2.out W) ?_
   try simp only [Act.put, putS]
   refine gT 10 hclG ?_;refine gT 11 hclG ?_;refine gR 12 fun wf gf sf K hK => ?_
   replace gf := (Gr.drew (Gr.refl u3)).trans gf
   go_simp
   have L0 := CellsAt.new wf 50 #[cre, cim];refine hK.out _ _ ?_ ?_
   ·exact ⟨sf.1.alloc _ _, sf.2.alloc _⟩
   clear hK K
   try simp only [Act.put, putS]
   refine gR 13 fun wg gg sg K hK => ?_
   have L1 := L0.gr gg;have hnews := World.news_of_block L1;have GG := (gf.alloc #[cre, cim] 50).trans gg;have hrw := ownsRow_gr row3 GG;have hsg := sg.1.size;refine Go.step_append_lies _ rfl (.tmp 15) (.tmp 27) 25 rfl w.heap.size 50 i0 (.agg #[.int .i64 0, .int .i64 0]) 2 16 Tryz.underlying25 hi hz0 hz1 hz2 rfl (by decide) u5 k _ rfl hrw ⟨wf.heap.size, 0, none⟩ 1 1 [.int .i64 cre, .int .i64 cim] rfl rfl hnews (by simp [Value.oneCell']) (by omega) (by unfold maxLen; omega) (by omega) (by omega) _ rfl ?_
   intro gb gcap wh hown8 hgrow8 hor8 hlt8
   refine hK.out _ _ ?_ ?_
   ·exact ⟨sg.1.grown hgrow8 hrb, CellsAt.grown sg.2 hgrow8 (fun e => by have h1 := hrl _ e.symm; omega)⟩
   clear hK K
   try simp only [Act.put, putS]
   refine gT 14 hclG ?_;refine wpG_done (by kernel_rfl) (fun wi gi => ?_) _;have hown9 := ownsRow_gr hown8 gi;have gz := (sg.1.grown hgrow8 hrb).trans gi;clear hclG KS L0 L1 hnews GG hrw sf sg gf gg hgrow8 hor8;go_wp2_with fail
   go_roundw
   case rel =>
    refine ⟨k + 1, by omega, by go_num, ?_, gz⟩;rw [HTK.out, gcells_snoc]
    exact hown9
   case measure => simp [intOf]; omega
  ·obtain rfl : k = xs.length := by omega
   have hlI : ¬ (xs.length : Int) < (xs.length : Int) := by omega
   go_wp2_with fail
   go_ret
   rw [List.take_length] at hrow
   exact ⟨_, rfl, CxsAt.of_row hrow, hg⟩
theorem shift15_0 (v : Value) (fo lo ke mo k : Int) (iv : Bool) (hk : k = 2 ∨ k = 4) (w : World) :
 CW 94 #[v, .agg #[fo, lo, ke, .int .i64 0, mo, iv], k] w (.int .i64 (if k = 4 then 2 else 1)) :=by
 delta CW
 rcases hk with rfl | rfl
 all_goals
  go_in;go_wp2_with fail
  go_ret
  exact ⟨by first | rfl | simp, (Gr.refl w).alloc _ _⟩
theorem shift15_2 (v : Value) (fo lo ke mo k : Int) (iv : Bool) (hk : k = 2 ∨ k = 4) (w : World) :
 CW 94 #[v, .agg #[fo, lo, ke, .int .i64 2, mo, iv], k] w (.int .i64 0) :=by
 delta CW
 rcases hk with rfl | rfl
 all_goals
  go_in;go_wp2_with fail
  go_ret
  exact ⟨by first | rfl | simp, (Gr.refl w).alloc _ _⟩
theorem shift15_1 (v : Value) (xs : List Gi) (fo lo ke mo k m s : Int) (iv : Bool) (HM : Hid (∀ W, CxsAt W v xs → Calls Tryz.prog 89 #[v] W fun e w' => e = .returned (.int .i64 m) ∧ Gr W w')) (HP : CR 138 #[k, m, fo] (.int .i64 s)) (w : World) (hv : CxsAt w v xs) :
 CW 94 #[v, .agg #[fo, lo, ke, .int .i64 1, mo, iv], k] w (.int .i64 s) :=by
 delta CW
 go_in
 go_wp2_with fail
 obtain ⟨u0, hu⟩ : ∃ uu, uu = w.alloc (.cells #[fo, lo, ke, .int .i64 1, mo, iv] 24) := ⟨_, rfl⟩
 have R0 : CellsAt u0 w.heap.size 24 #[fo, lo, ke, .int .i64 1, mo, iv] := by rw [hu]; exact CellsAt.new w 24 _
 have y0 : Gr w u0 := by rw [hu]; exact (Gr.refl w).alloc _ _
 rw [← hu]
 clear hu
 have hv0 := hv.gr y0
 have l0 := R0.lt
 obtain ⟨c0, c1, c2, c3, c4, c5⟩ := R0.t6
 go_wp2_with fail
 clear c0 c1 c2 c3 c4 c5
 have KS : ∀ W, Gr u0 W → W.cell? ⟨w.heap.size, 0, none⟩ = some (.int .i64 fo) := fun W h => (R0.gr h).cell 0
 have hclG := gr_closed u0
 try simp only [List.append_eq, List.cons_append, List.nil_append]
 refine wp_region_grow (S := Gr u0) rfl (Gr.drew (Gr.refl _)) ?_
 refine gT 0 hclG ?_
 refine gT 1 hclG ?_
 refine gC 2 hclG (fun W hS => HM.out W (hv0.gr hS)) ?_
 try simp only [Act.put, putS]
 refine gT 3 hclG ?_
 refine gK 4 hclG KS ?_
 refine gC 5 hclG (fun W hS => HP.out W) ?_
 try simp only [Act.put, putS]
 refine gT 6 hclG ?_
 refine wpG_done (by kernel_rfl) (fun w8 g8 => ?_) _
 replace g8 := (Gr.drew (Gr.refl u0)).trans g8
 go_wp2_with fail
 go_ret
 exact ⟨rfl, y0.trans g8⟩
def Apart (v : Value) (xs : List Gi) (B : Nat) : Prop := ∀ b o cap, v = .slice (some ⟨b, o, none⟩) xs.length cap → xs ≠ [] → b ≠ B
theorem CxsAt.set {W : World} {v : Value} {xs : List Gi} {B : Nat} (h : CxsAt W v xs) (ha : Apart v xs B) (j : Nat) (u : Value) : CxsAt (W.setCell ⟨B, j, none⟩ u) v xs := by
 obtain ⟨p, cap, hv, hl, hm, hc⟩ := h
 refine ⟨p, cap, hv, hl, hm, fun hx => ?_⟩
 obtain ⟨b, o, hp, hb, hcc⟩ := hc hx
 subst hp
 have hne := ha b o cap hv hx
 have hh : (W.setCell ⟨B, j, none⟩ u).heap[b]? = W.heap[b]? := Below.heap_setCell _ _ _ _ hne
 refine ⟨b, o, rfl, Nat.lt_of_lt_of_le hb (KeepsWalks.setCell W _ u).size, fun k x hk => ?_⟩
 have := hcc k x hk
 unfold World.cell? at this ⊢
 rw [hh]
 exact this
theorem CxsAt.apart {W : World} {v : Value} {xs : List Gi} {B : Nat} {t : TypeId} {pa pb : Option Addr} {na nb ca cb : Nat} {e : Int} {s : Bool} (h : CxsAt W v xs) (hc : CellsAt W B t #[.slice pa na ca, e, s, .slice pb nb cb]) : Apart v xs B := by
 intro b o cap hv hx hb
 subst hb
 obtain ⟨p, cap', hv', _, _, hcc⟩ := h
 obtain ⟨b', o', hp, _, hk⟩ := hcc hx
 subst hp
 rw [hv] at hv'
 cases hv'
 cases xs with
 | nil => exact hx rfl
 | cons x xs =>
   have h2 := hk 0 x rfl;rw [hc.cell, hc.cell, Nat.zero_mul, Nat.add_zero] at h2;obtain ⟨h1, h2⟩ := h2;clear hk hx
   match o, h1, h2 with
   | 0, h1, _ => simp at h1
   | 1, _, h2 => simp at h2
   | 2, h1, _ => simp at h1
   | 3, h1, _ => simp at h1
   | n + 4, h1, _ => simp at h1
theorem ready15_split (v : Value) (xs ys : List Gi) (fo lo sc mo : Int) (iv : Bool) (HSH : Hid (∀ v W, CxsAt W v xs → Calls Tryz.prog 87 #[v, .int .i64 1, mo] W fun e w' => ∃ u, e = .returned u ∧ CxsAt w' u ys ∧ Gr W w')) (w : World) (hv : CxsAt w v xs) :
 Calls Tryz.prog 45 #[v, .agg #[fo, lo, .int .i64 2, sc, mo, iv]] w fun e w' => ∃ u, e = .returned (.agg #[u, .int .i64 1, false, .slice none 0 0]) ∧ CxsAt w' u ys ∧ Gr w w' := by
 go_in
 go_wp2_with fail
 refine lc2 fun u0 gu R0 R1 => ?_
 have lp := R0.lt
 have lr := R1.lt
 have hv0 := hv.gr gu
 obtain ⟨cp0, cp1, cp2, cp3, cp4, cp5⟩ := R0.t6
 go_wp2_with fail
 clear cp0 cp1 cp2 cp3 cp4 cp5
 refine (HSH.out _ _ hv0).mono ?_
 rintro e w1 ⟨u, rfl, hu1, g1⟩
 obtain ⟨up, uc, rfl⟩ := hu1.len
 have ⟨Fp_1, lp_1⟩ := R0.gl g1
 have ⟨Fr_1, lr_1⟩ := R1.gl g1
 have z1 := gu.trans g1
 clear R0 R1 gu g1
 obtain ⟨mr0, mr1, mr2, mr3⟩ := Fr_1.f4
 obtain ⟨cr0, cr1, cr2, cr3⟩ := Fr_1.t4
 go_wp2_with fail
 clear mr0 cr0 mr1 cr1 mr2 cr2 mr3 cr3
 have hap := CxsAt.apart hu1 Fr_1
 have cxe := ((((hu1.set hap 0 (.slice up ys.length uc)).set hap 1 (.int .i64 1)).set hap 2 (.bool false)).set hap 3 (.slice none 0 0))
 obtain ⟨uf, hq1⟩ : ∃ zz, zz = ((((w1.setCell ⟨w.heap.size + 1, 0, none⟩ (.slice up ys.length uc)).setCell ⟨w.heap.size + 1, 1, none⟩ (.int .i64 1)).setCell ⟨w.heap.size + 1, 2, none⟩ (.bool false)).setCell ⟨w.heap.size + 1, 3, none⟩ (.slice none 0 0)) := ⟨_, rfl⟩
 rw [← hq1] at cxe
 have Yr : CellsAt uf (w.heap.size + 1) 27 #[.slice up ys.length uc, .int .i64 1, false, .slice none 0 0] := by rw [hq1]; have q_ := CellsAt.set (CellsAt.set (CellsAt.set (CellsAt.set (Fr_1) 0 (.slice up ys.length uc)) 1 (.int .i64 1)) 2 (.bool false)) 3 (.slice none 0 0); first | exact q_ | simpa using q_
 have yz : Gr w uf := by rw [hq1]; exact (((z1.sc _).sc _).sc _).sc _
 rw [← hq1]
 clear hq1
 obtain ⟨cr0, cr1, cr2, cr3⟩ := Yr.t4
 refine bodyPost_ret (v := .agg #[.slice up ys.length uc, .int .i64 1, false, .slice none 0 0]) ?_ rfl ⟨_, rfl, cxe, yz⟩
 simp [results, Tryz.results45, go_sem, *]
theorem ready15_0 (v : Value) (xs fs ys : List Gi) (fo lo ke mo : Int) (iv : Bool) (hke : (ke == 2) = false) (HFL : Hid (∀ W, CxsAt W v xs → Calls Tryz.prog 90 #[v] W fun e w' => ∃ u, e = .returned u ∧ CxsAt w' u fs ∧ Gr W w')) (HSH : Hid (∀ v W, CxsAt W v fs → Calls Tryz.prog 87 #[v, .int .i64 1, mo] W fun e w' => ∃ u, e = .returned u ∧ CxsAt w' u ys ∧ Gr W w')) (w : World) (hv : CxsAt w v xs) :
 Calls Tryz.prog 45 #[v, .agg #[fo, lo, ke, .int .i64 0, mo, iv]] w fun e w' => ∃ u, e = .returned (.agg #[u, .int .i64 1, false, .slice none 0 0]) ∧ CxsAt w' u ys ∧ Gr w w' := by
 go_in
 go_wp2_with fail
 obtain ⟨u0, hU⟩ : ∃ uu, uu = ((w.alloc (.cells #[fo, lo, ke, .int .i64 0, mo, iv] 24)).alloc (.cells #[.slice none 0 0, .int .i64 0, false, .slice none 0 0] 27)) := ⟨_, rfl⟩
 have ⟨gu, R0, R1⟩ := lay2 hU
 rw [← hU]
 clear hU
 have lp := R0.lt
 have lr := R1.lt
 obtain ⟨cp0, cp1, cp2, cp3, cp4, cp5⟩ := R0.t6
 go_wp2_with fail
 clear cp0 cp1 cp2 cp3 cp4 cp5
 obtain ⟨u8, hqp1⟩ : ∃ zz, zz = u0 := ⟨_, rfl⟩
 subst hqp1
 have Yp_p1 := R0
 have Yr_p1 := R1
 have yp1 := gu
 have KS := fun W (hG : GB (w.heap.size + 1) u8 W) => (GB.cellsAt hG Yp_p1 (by omega)).t6
 have hclG := gb_closed (w.heap.size + 1) u8
 try simp only [List.append_eq, List.cons_append, List.nil_append]
 refine wp_region_grow (S := GB (w.heap.size + 1) u8) rfl (GB.drew (GB.refl _ _)) ?_
 refine gT 0 hclG ?_
 refine gT 2 hclG ?_
 refine gT 3 hclG ?_
 refine gK 4 hclG KS ?_
 refine gT 6 hclG ?_
 refine gR 1 fun w1 g1 s1 K hK => ?_
 replace g1 := (Gr.drew (Gr.refl u8)).trans g1
 have ⟨Fp_1, lp_1⟩ := Yp_p1.gl g1
 have ⟨Fr_1, lr_1⟩ := Yr_p1.gl g1
 have z1 := yp1.trans g1
 clear Yp_p1 Yr_p1 yp1 g1
 go_simp
 refine (HFL.out _ (hv.gr z1)).mono ?_
 rintro e w2 ⟨uf, rfl, hf, g2⟩
 have t2 := GB.gr s1 g2
 have ⟨Fp_2, lp_2⟩ := Fp_1.gl g2
 have ⟨Fr_2, lr_2⟩ := Fr_1.gl g2
 have z2 := z1.trans g2
 clear Fp_1 Fr_1 z1 g2
 refine hK.out _ _ ?_ ?_
 ·exact t2
 clear hK K
 try simp only [Act.put, putS]
 refine gR 5 fun w3 g3 s3 K hK => ?_
 have ⟨Fp_3, lp_3⟩ := Fp_2.gl g3
 have ⟨Fr_3, lr_3⟩ := Fr_2.gl g3
 have Kf_3 := hf.gr g3
 have z3 := z2.trans g3
 clear Fp_2 Fr_2 z2 g3
 go_simp
 refine (HSH.out uf _ Kf_3).mono ?_
 rintro e w4 ⟨us, rfl, hs, g4⟩
 obtain ⟨up, uc, rfl⟩ := hs.len
 have t4 := GB.gr s3 g4
 have ⟨Fp_4, lp_4⟩ := Fp_3.gl g4
 have ⟨Fr_4, lr_4⟩ := Fr_3.gl g4
 have Kf_4 := Kf_3.gr g4
 have z4 := z3.trans g4
 clear Fp_3 Fr_3 z3 g4
 refine hK.out _ _ ?_ ?_
 ·exact t4
 clear hK K
 try simp only [Act.put, putS]
 refine gT 7 hclG ?_
 refine gR 8 fun w5 g5 s5 K hK => ?_
 have ⟨Fp_5, lp_5⟩ := Fp_4.gl g5
 have ⟨Fr_5, lr_5⟩ := Fr_4.gl g5
 have Kf_5 := Kf_4.gr g5
 have Ks_5 := hs.gr g5
 have z5 := z4.trans g5
 clear Fp_4 Fr_4 z4 g5
 obtain ⟨mr0, mr1, mr2, mr3⟩ := Fr_5.f4
 obtain ⟨cr0, cr1, cr2, cr3⟩ := Fr_5.t4
 go_simp
 clear mr0 cr0 mr1 cr1 mr2 cr2 mr3 cr3
 have Af_5 := CxsAt.apart Kf_5 Fr_5
 have As_5 := CxsAt.apart Ks_5 Fr_5
 refine hK.out _ _ ?_ ?_
 ·exact (GB.set (GB.set (GB.set (GB.set s5 _ _) _ _) _ _) _ _)
 clear hK K
 try simp only [Act.put, putS]
 refine wpG_done (by kernel_rfl) (fun w6 g6 => ?_) _
 have ⟨Fp_6, lp_6⟩ := CellsAt.gl ((((Fp_5.ot).ot).ot).ot) g6
 have Fr_6 : CellsAt w6 (w.heap.size + 1) 27 #[.slice up ys.length uc, .int .i64 1, false, .slice none 0 0] := CellsAt.gr (CellsAt.set (CellsAt.set (CellsAt.set (CellsAt.set (Fr_5) 0 (.slice up ys.length uc)) 1 (.int .i64 1)) 2 (.bool false)) 3 (.slice none 0 0)) g6
 have lr_6 := Fr_6.lt
 have Kf_6 := CxsAt.gr ((CxsAt.set (CxsAt.set (CxsAt.set (CxsAt.set Kf_5 Af_5 0 (.slice up ys.length uc)) Af_5 1 (.int .i64 1)) Af_5 2 (.bool false)) Af_5 3 (.slice none 0 0))) g6
 have Ks_6 := CxsAt.gr ((CxsAt.set (CxsAt.set (CxsAt.set (CxsAt.set Ks_5 As_5 0 (.slice up ys.length uc)) As_5 1 (.int .i64 1)) As_5 2 (.bool false)) As_5 3 (.slice none 0 0))) g6
 have z6 := ((((z5.sc _).sc _).sc _).sc _).trans g6
 clear g6
 clear hclG KS
 obtain ⟨cr0, cr1, cr2, cr3⟩ := Fr_6.t4
 go_wp2_with fail
 refine bodyPost_ret (v := .agg #[.slice up ys.length uc, .int .i64 1, false, .slice none 0 0]) ?_ rfl ⟨_, rfl, Ks_6, z6⟩
 simp [results, Tryz.results45, go_sem, *]
theorem ready15_2 (v : Value) (xs fs ys : List Gi) (fo lo ke mo : Int) (iv : Bool) (hke : (ke == 2) = false) (HFL : Hid (∀ W, CxsAt W v xs → Calls Tryz.prog 90 #[v] W fun e w' => ∃ u, e = .returned u ∧ CxsAt w' u fs ∧ Gr W w')) (HSH : Hid (∀ v W, CxsAt W v fs → Calls Tryz.prog 87 #[v, .int .i64 0, mo] W fun e w' => ∃ u, e = .returned u ∧ CxsAt w' u ys ∧ Gr W w')) (w : World) (hv : CxsAt w v xs) :
 Calls Tryz.prog 45 #[v, .agg #[fo, lo, ke, .int .i64 2, mo, iv]] w fun e w' => ∃ u, e = .returned (.agg #[u, .int .i64 0, false, .slice none 0 0]) ∧ CxsAt w' u ys ∧ Gr w w' := by
 go_in
 go_wp2_with fail
 obtain ⟨u0, hU⟩ : ∃ uu, uu = ((w.alloc (.cells #[fo, lo, ke, .int .i64 2, mo, iv] 24)).alloc (.cells #[.slice none 0 0, .int .i64 0, false, .slice none 0 0] 27)) := ⟨_, rfl⟩
 have ⟨gu, R0, R1⟩ := lay2 hU
 rw [← hU]
 clear hU
 have lp := R0.lt
 have lr := R1.lt
 obtain ⟨cp0, cp1, cp2, cp3, cp4, cp5⟩ := R0.t6
 go_wp2_with fail
 clear cp0 cp1 cp2 cp3 cp4 cp5
 obtain ⟨u8, hqp1⟩ : ∃ zz, zz = u0 := ⟨_, rfl⟩
 subst hqp1
 have Yp_p1 := R0
 have Yr_p1 := R1
 have yp1 := gu
 have KS := fun W (hG : GB (w.heap.size + 1) u8 W) => (GB.cellsAt hG Yp_p1 (by omega)).t6
 have hclG := gb_closed (w.heap.size + 1) u8
 try simp only [List.append_eq, List.cons_append, List.nil_append]
 refine wp_region_grow (S := GB (w.heap.size + 1) u8) rfl (GB.drew (GB.refl _ _)) ?_
 refine gT 0 hclG ?_
 refine gT 2 hclG ?_
 refine gT 3 hclG ?_
 refine gK 4 hclG KS ?_
 refine gT 6 hclG ?_
 refine gR 1 fun w1 g1 s1 K hK => ?_
 replace g1 := (Gr.drew (Gr.refl u8)).trans g1
 have ⟨Fp_1, lp_1⟩ := Yp_p1.gl g1
 have ⟨Fr_1, lr_1⟩ := Yr_p1.gl g1
 have z1 := yp1.trans g1
 clear Yp_p1 Yr_p1 yp1 g1
 go_simp
 refine (HFL.out _ (hv.gr z1)).mono ?_
 rintro e w2 ⟨uf, rfl, hf, g2⟩
 have t2 := GB.gr s1 g2
 have ⟨Fp_2, lp_2⟩ := Fp_1.gl g2
 have ⟨Fr_2, lr_2⟩ := Fr_1.gl g2
 have z2 := z1.trans g2
 clear Fp_1 Fr_1 z1 g2
 refine hK.out _ _ ?_ ?_
 ·exact t2
 clear hK K
 try simp only [Act.put, putS]
 refine gR 5 fun w3 g3 s3 K hK => ?_
 have ⟨Fp_3, lp_3⟩ := Fp_2.gl g3
 have ⟨Fr_3, lr_3⟩ := Fr_2.gl g3
 have Kf_3 := hf.gr g3
 have z3 := z2.trans g3
 clear Fp_2 Fr_2 z2 g3
 go_simp
 refine (HSH.out uf _ Kf_3).mono ?_
 rintro e w4 ⟨us, rfl, hs, g4⟩
 obtain ⟨up, uc, rfl⟩ := hs.len
 have t4 := GB.gr s3 g4
 have ⟨Fp_4, lp_4⟩ := Fp_3.gl g4
 have ⟨Fr_4, lr_4⟩ := Fr_3.gl g4
 have Kf_4 := Kf_3.gr g4
 have z4 := z3.trans g4
 clear Fp_3 Fr_3 z3 g4
 refine hK.out _ _ ?_ ?_
 ·exact t4
 clear hK K
 try simp only [Act.put, putS]
 refine gT 7 hclG ?_
 refine gR 8 fun w5 g5 s5 K hK => ?_
 have ⟨Fp_5, lp_5⟩ := Fp_4.gl g5
 have ⟨Fr_5, lr_5⟩ := Fr_4.gl g5
 have Kf_5 := Kf_4.gr g5
 have Ks_5 := hs.gr g5
 have z5 := z4.trans g5
 clear Fp_4 Fr_4 z4 g5
 obtain ⟨mr0, mr1, mr2, mr3⟩ := Fr_5.f4
 obtain ⟨cr0, cr1, cr2, cr3⟩ := Fr_5.t4
 go_simp
 clear mr0 cr0 mr1 cr1 mr2 cr2 mr3 cr3
 have Af_5 := CxsAt.apart Kf_5 Fr_5
 have As_5 := CxsAt.apart Ks_5 Fr_5
 refine hK.out _ _ ?_ ?_
 ·exact (GB.set (GB.set (GB.set (GB.set s5 _ _) _ _) _ _) _ _)
 clear hK K
 try simp only [Act.put, putS]
 refine wpG_done (by kernel_rfl) (fun w6 g6 => ?_) _
 have ⟨Fp_6, lp_6⟩ := CellsAt.gl ((((Fp_5.ot).ot).ot).ot) g6
 have Fr_6 : CellsAt w6 (w.heap.size + 1) 27 #[.slice up ys.length uc, .int .i64 0, false, .slice none 0 0] := CellsAt.gr (CellsAt.set (CellsAt.set (CellsAt.set (CellsAt.set (Fr_5) 0 (.slice up ys.length uc)) 1 (.int .i64 0)) 2 (.bool false)) 3 (.slice none 0 0)) g6
 have lr_6 := Fr_6.lt
 have Kf_6 := CxsAt.gr ((CxsAt.set (CxsAt.set (CxsAt.set (CxsAt.set Kf_5 Af_5 0 (.slice up ys.length uc)) Af_5 1 (.int .i64 0)) Af_5 2 (.bool false)) Af_5 3 (.slice none 0 0))) g6
 have Ks_6 := CxsAt.gr ((CxsAt.set (CxsAt.set (CxsAt.set (CxsAt.set Ks_5 As_5 0 (.slice up ys.length uc)) As_5 1 (.int .i64 0)) As_5 2 (.bool false)) As_5 3 (.slice none 0 0))) g6
 have z6 := ((((z5.sc _).sc _).sc _).sc _).trans g6
 clear g6
 clear hclG KS
 obtain ⟨cr0, cr1, cr2, cr3⟩ := Fr_6.t4
 go_wp2_with fail
 refine bodyPost_ret (v := .agg #[.slice up ys.length uc, .int .i64 0, false, .slice none 0 0]) ?_ rfl ⟨_, rfl, Ks_6, z6⟩
 simp [results, Tryz.results45, go_sem, *]
theorem ready15_1 (v : Value) (xs fs ys : List Gi) (fo lo ke mo m r q : Int) (iv : Bool) (hke : (ke == 2) = false) (hwr : IntKind.i64.wrap (-r) = q) (HM : Hid (∀ W, CxsAt W v xs → Calls Tryz.prog 89 #[v] W fun e w' => e = .returned (.int .i64 m) ∧ Gr W w')) (HR : CR 88 #[m, fo] (.int .i64 r))
 (HFL : Hid (∀ W, CxsAt W v xs → Calls Tryz.prog 90 #[v] W fun e w' => ∃ u, e = .returned u ∧ CxsAt w' u fs ∧ Gr W w')) (HSH : Hid (∀ v W, CxsAt W v fs → Calls Tryz.prog 87 #[v, q, mo] W fun e w' => ∃ u, e = .returned u ∧ CxsAt w' u ys ∧ Gr W w')) (w : World) (hv : CxsAt w v xs) :
 Calls Tryz.prog 45 #[v, .agg #[fo, lo, ke, .int .i64 1, mo, iv]] w fun e w' => ∃ u, e = .returned (.agg #[u, q, false, .slice none 0 0]) ∧ CxsAt w' u ys ∧ Gr w w' := by
 go_in
 go_wp2_with fail
 obtain ⟨u0, hU⟩ : ∃ uu, uu = ((w.alloc (.cells #[fo, lo, ke, .int .i64 1, mo, iv] 24)).alloc (.cells #[.slice none 0 0, .int .i64 0, false, .slice none 0 0] 27)) := ⟨_, rfl⟩
 have ⟨gu, R0, R1⟩ := lay2 hU
 rw [← hU]
 clear hU
 have lp := R0.lt
 have lr := R1.lt
 obtain ⟨cp0, cp1, cp2, cp3, cp4, cp5⟩ := R0.t6
 go_wp2_with fail
 clear cp0 cp1 cp2 cp3 cp4 cp5
 obtain ⟨u7, hqp1⟩ : ∃ zz, zz = u0 := ⟨_, rfl⟩
 subst hqp1
 have Yp_p1 := R0
 have Yr_p1 := R1
 have yp1 := gu
 have KS := fun W (hG : Gr u7 W) => (CellsAt.gr Yp_p1 hG).t6
 have hclG := gr_closed u7
 try simp only [List.append_eq, List.cons_append, List.nil_append]
 refine wp_region_grow (S := Gr u7) rfl (Gr.drew (Gr.refl _)) ?_
 refine gT 0 hclG ?_
 refine gC 1 hclG (fun W hS => HM.out W (hv.gr (yp1.trans hS))) ?_
 try simp only [Act.put, putS]
 refine gT 2 hclG ?_
 refine gK 3 hclG KS ?_
 refine gC 4 hclG (fun W hS => HR.out W) ?_
 try simp only [Act.put, putS]
 refine gT 5 hclG ?_
 refine gT 6 hclG ?_
 refine wpG_done (by kernel_rfl) (fun w1 g1 => ?_) _
 replace g1 := (Gr.drew (Gr.refl u7)).trans g1
 have ⟨Fp_1, lp_1⟩ := Yp_p1.gl g1
 have ⟨Fr_1, lr_1⟩ := Yr_p1.gl g1
 have z1 := yp1.trans g1
 clear Yp_p1 Yr_p1 yp1 g1
 clear hclG KS
 obtain ⟨cp0, cp1, cp2, cp3, cp4, cp5⟩ := Fp_1.t6
 go_wp2_with fail
 clear cp0 cp1 cp2 cp3 cp4 cp5
 obtain ⟨u8, hqp2⟩ : ∃ zz, zz = w1 := ⟨_, rfl⟩
 subst hqp2
 have Yp_p2 := Fp_1
 have Yr_p2 := Fr_1
 have yp2 := z1
 have KS := fun W (hG : GB (w.heap.size + 1) u8 W) => (GB.cellsAt hG Yp_p2 (by omega)).t6
 have hclG := gb_closed (w.heap.size + 1) u8
 try simp only [List.append_eq, List.cons_append, List.nil_append]
 refine wp_region_grow (S := GB (w.heap.size + 1) u8) rfl (GB.drew (GB.refl _ _)) ?_
 refine gT 0 hclG ?_
 refine gT 2 hclG ?_
 refine gT 3 hclG ?_
 refine gK 4 hclG KS ?_
 refine gT 6 hclG ?_
 refine gR 1 fun w2 g2 s2 K hK => ?_
 replace g2 := (Gr.drew (Gr.refl u8)).trans g2
 have ⟨Fp_2, lp_2⟩ := Yp_p2.gl g2
 have ⟨Fr_2, lr_2⟩ := Yr_p2.gl g2
 have z2 := yp2.trans g2
 clear Yp_p2 Yr_p2 yp2 g2
 go_simp
 refine (HFL.out _ (hv.gr z2)).mono ?_
 rintro e w3 ⟨uf, rfl, hf, g3⟩
 have t3 := GB.gr s2 g3
 have ⟨Fp_3, lp_3⟩ := Fp_2.gl g3
 have ⟨Fr_3, lr_3⟩ := Fr_2.gl g3
 have z3 := z2.trans g3
 clear Fp_2 Fr_2 z2 g3
 refine hK.out _ _ ?_ ?_
 ·exact t3
 clear hK K
 try simp only [Act.put, putS]
 refine gR 5 fun w4 g4 s4 K hK => ?_
 have ⟨Fp_4, lp_4⟩ := Fp_3.gl g4
 have ⟨Fr_4, lr_4⟩ := Fr_3.gl g4
 have Kf_4 := hf.gr g4
 have z4 := z3.trans g4
 clear Fp_3 Fr_3 z3 g4
 go_simp
 refine (HSH.out uf _ Kf_4).mono ?_
 rintro e w5 ⟨us, rfl, hs, g5⟩
 obtain ⟨up, uc, rfl⟩ := hs.len
 have t5 := GB.gr s4 g5
 have ⟨Fp_5, lp_5⟩ := Fp_4.gl g5
 have ⟨Fr_5, lr_5⟩ := Fr_4.gl g5
 have Kf_5 := Kf_4.gr g5
 have z5 := z4.trans g5
 clear Fp_4 Fr_4 z4 g5
 refine hK.out _ _ ?_ ?_
 ·exact t5
 clear hK K
 try simp only [Act.put, putS]
 refine gT 7 hclG ?_
 refine gR 8 fun w6 g6 s6 K hK => ?_
 have ⟨Fp_6, lp_6⟩ := Fp_5.gl g6
 have ⟨Fr_6, lr_6⟩ := Fr_5.gl g6
 have Kf_6 := Kf_5.gr g6
 have Ks_6 := hs.gr g6
 have z6 := z5.trans g6
 clear Fp_5 Fr_5 z5 g6
 obtain ⟨mr0, mr1, mr2, mr3⟩ := Fr_6.f4
 obtain ⟨cr0, cr1, cr2, cr3⟩ := Fr_6.t4
 go_simp
 clear mr0 cr0 mr1 cr1 mr2 cr2 mr3 cr3
 have Af_6 := CxsAt.apart Kf_6 Fr_6
 have As_6 := CxsAt.apart Ks_6 Fr_6
 refine hK.out _ _ ?_ ?_
 ·exact (GB.set (GB.set (GB.set (GB.set s6 _ _) _ _) _ _) _ _)
 clear hK K
 try simp only [Act.put, putS]
 refine wpG_done (by kernel_rfl) (fun w7 g7 => ?_) _
 have ⟨Fp_7, lp_7⟩ := CellsAt.gl ((((Fp_6.ot).ot).ot).ot) g7
 have Fr_7 : CellsAt w7 (w.heap.size + 1) 27 #[.slice up ys.length uc, q, false, .slice none 0 0] := CellsAt.gr (CellsAt.set (CellsAt.set (CellsAt.set (CellsAt.set (Fr_6) 0 (.slice up ys.length uc)) 1 (.int .i64 q)) 2 (.bool false)) 3 (.slice none 0 0)) g7
 have lr_7 := Fr_7.lt
 have Kf_7 := CxsAt.gr ((CxsAt.set (CxsAt.set (CxsAt.set (CxsAt.set Kf_6 Af_6 0 (.slice up ys.length uc)) Af_6 1 (.int .i64 q)) Af_6 2 (.bool false)) Af_6 3 (.slice none 0 0))) g7
 have Ks_7 := CxsAt.gr ((CxsAt.set (CxsAt.set (CxsAt.set (CxsAt.set Ks_6 As_6 0 (.slice up ys.length uc)) As_6 1 (.int .i64 q)) As_6 2 (.bool false)) As_6 3 (.slice none 0 0))) g7
 have z7 := ((((z6.sc _).sc _).sc _).sc _).trans g7
 clear g7
 clear hclG KS
 obtain ⟨cr0, cr1, cr2, cr3⟩ := Fr_7.t4
 go_wp2_with fail
 refine bodyPost_ret (v := .agg #[.slice up ys.length uc, q, false, .slice none 0 0]) ?_ rfl ⟨_, rfl, Ks_7, z7⟩
 simp [results, Tryz.results45, go_sem, *]
theorem NumsAt.set {W : World} {v : Value} {ls : List Int} {B : Nat} (h : NumsAt W v ls) (ha : v.ownBlock ≠ some B) (j : Nat) (u : Value) : NumsAt (W.setCell ⟨B, j, none⟩ u) v ls := by
 obtain ⟨p, cap, hv, hl, hm, hc⟩ := h
 refine ⟨p, cap, hv, hl, hm, fun hx => ?_⟩
 obtain ⟨b, o, hp, hb, hcc⟩ := hc hx
 subst hp
 subst hv
 have hne : b ≠ B := fun e => ha (by rw [e]; rfl)
 have hh : (W.setCell ⟨B, j, none⟩ u).heap[b]? = W.heap[b]? := Below.heap_setCell _ _ _ _ hne
 refine ⟨b, o, rfl, Nat.lt_of_lt_of_le hb (KeepsWalks.setCell W _ u).size, fun k x hk => ?_⟩
 have := hcc k x hk
 unfold World.cell? at this ⊢
 rw [hh]
 exact this
structure BV where
 X : List Gi
 ex : Int
 sat : Bool
 sh : List Int
def BlkAt (w : World) (v : Value) (b : BV) : Prop := ∃ vx vs, v = .agg #[vx, .int .i64 b.ex, .bool b.sat, vs] ∧ CxsAt w vx b.X ∧ NumsAt w vs b.sh
theorem BlkAt.gr {w w' : World} {v : Value} {b : BV} (h : BlkAt w v b) (g : Gr w w') : BlkAt w' v b := by
 obtain ⟨vx, vs, rfl, hx, hs⟩ := h
 exact ⟨vx, vs, rfl, hx.gr g, hs.gr g⟩
section
variable {Q : Exit → Act → World → Prop}
theorem run_append_nums (w : World) (base n : Nat) (ty : TypeId) (v : Value) (zs ls : List Int) (hown : w.ownsRow base 3 1 v n (zs.map (Value.int .i64))) (sp : Option Addr) (c : Nat) (hN : NumsAt w (.slice sp ls.length c) ls) (hl : n + ls.length ≤ 1000) (hbase : base ≤ w.heap.size) :
 ∃ v' w', (Builtin.append_ #[22, 22] ty #[v, .slice sp ls.length c]).run Tryz.prog w = .ok v' w' ∧ w'.ownsRow base 3 1 v' (n + ls.length) ((zs ++ ls).map (Value.int .i64)) ∧ w.grownBy w' v.ownBlock ∧ (v'.ownBlock = v.ownBlock ∨ v'.ownBlock = some w.heap.size) := by
 obtain ⟨i0, hi, hz0, hz1, hz2⟩ := info_parts info_int
 by_cases hx : ls = []
 ·subst hx
  refine ⟨v, w, ?_, by simpa using hown, ⟨rfl, rfl, rfl, Nat.le_refl _, fun _ _ _ => rfl⟩, .inl rfl⟩
  rcases hown.2 with ⟨rfl, rfl⟩ | ⟨g, cap, cur, rfl, hbg, hg, hnc, hcm, hcs, htake⟩
  ·cases sp <;> simp [Builtin.append_, run_underlying Tryz.underlying22, sizeOf, typeInfo, hi, Builtin.lenOf, Builtin.firstCells, loadCells, loadCellsFrom]
  ·cases sp <;> simp [Builtin.append_, run_underlying Tryz.underlying22, sizeOf, typeInfo, hi, Builtin.lenOf, Builtin.firstCells, loadCells, loadCellsFrom, hnc, storeCells]
 ·obtain ⟨b, o, cap, hsl, _, hb, hc⟩ := hN.at hx
  cases hsl
  obtain ⟨v', w', h1, h2, h3, h4, h5⟩ := run_append_own_at (P := Tryz.prog) w base 22 ty 3 i0 (.int .i64 0) 1 8 Tryz.underlying22 hi hz0 hz1 hz2 rfl (by decide) v n _ hown ⟨b, o, none⟩ ls.length c (ls.map (Value.int .i64)) (by simp) (fun j u hj => by
   rw [List.getElem?_map] at hj
   obtain ⟨x, hx, rfl⟩ := Option.map_eq_some_iff.1 hj
   rw [show (⟨b, o, none⟩ : Addr).add j = ⟨b, o + j, none⟩ by unfold Addr.add; split <;> simp_all]
   exact hc j x hx) (fun u hu => by obtain ⟨x, _, rfl⟩ := List.mem_map.1 hu; rfl) (by unfold maxLen; omega) (by omega) hbase
  exact ⟨v', w', h1, by rw [List.map_append]; exact h2, h3, h5⟩
theorem wpList_append_nums {ops : Array Oper} {rest : List Oper} {o : Oper} {a : Act} {w : World} (hgd : o.guard = none) (s x : Operand)
 (ho : o.op = .call { callee := .builtin .append, args := #[s, x], argTypes := #[22, 22] }) (base : Nat) (v : Value) (n : Nat) (zs ls : List Int) (hs : a.eval s = v) (hown : w.ownsRow base 3 1 v n (zs.map (Value.int .i64)))
 (sp : Option Addr) (c : Nat) (hx : a.eval x = .slice sp ls.length c) (hN : NumsAt w (.slice sp ls.length c) ls) (hl : n + ls.length ≤ 1000) (hbase : base ≤ w.heap.size)
 (h : ∀ v' w', w'.ownsRow base 3 1 v' (n + ls.length) ((zs ++ ls).map (Value.int .i64)) → w.grownBy w' v.ownBlock → (v'.ownBlock = v.ownBlock ∨ v'.ownBlock = some w.heap.size) → wpList Tryz.prog ops Q rest (a.put o.dst v') w') :
 wpList Tryz.prog ops Q (o :: rest) a w := by
 refine wpList_plain hgd fun K hK => ?_
 obtain ⟨v', w', hr, h2, h3, h5⟩ := run_append_nums w base n o.type v zs ls hown sp c hN hl hbase
 unfold Oper.wp execOp
 simp only [ho, resolve, invoke, builtin, Sem.run_bind, Sem.run_pure, Result.andThen_ok, List.map_toArray, List.map_cons, List.map_nil, hs, hx, hr]
 exact hK _ _ (h v' w' h2 h3 h5)
end
end
section
set_option maxHeartbeats 16000000
theorem NumsAt.st {W : World} {v : Value} {ls : List Int} (h : NumsAt W v ls) (B j : Nat) (u : Value) (ha : v.ownBlock ≠ some B := by exact fun e => by have := Option.some.inj e; simp only at this; omega) : NumsAt (W.setCell ⟨B, j, none⟩ u) v ls := h.set ha j u
end
section
open Go.ChangeShapes Go.WideShapes Go.ChangeAt Go.RowKit
set_option linter.unusedVariables false
set_option maxRecDepth 100000
set_option maxHeartbeats 16000000
theorem fl_step (k i : Nat) (hk : k < 6) : bits .or .i64 (wrap64 ((fl k i : Int) * 2)) (bits .and .i64 ((i : Int) / 2 ^ k) 1) = ((fl (k + 1) i : Nat) : Int) := by
 have h1 := and1 ((i / 2 ^ k : Nat) : Int)
 have h2 := fl_lt k i
 have h3 : 2 ^ k ≤ 64 := pow_le k (by omega)
 have h4 : wrap64 ((fl k i : Int) * 2) = ((2 * fl k i : Nat) : Int) := by rw [IntWalk.wrap64_in _ (by omega)]; omega
 have h5 : ((i / 2 ^ k : Nat) : Int) % 2 = ((i / 2 ^ k % 2 : Nat) : Int) := by omega
 rw [show (i : Int) / 2 ^ k = ((i / 2 ^ k : Nat) : Int) by simp, h1, h4, h5, or1 (fl k i) _ (by omega) (by omega), fl]
theorem flipped_c (i L : Nat) (hL : L ≤ 6) (hi : i < 64) (w : World) :
 Calls Tryz.prog 148 #[i, L] w fun e w' => e = .returned (.int .i64 (fl L i)) ∧ w' = w := by
 go_in
 go_wp2
 go_loop [0, 5, 7] (fun i' f r => ∃ k : Nat, k ≤ L ∧ r = .int .i64 k ∧ f = .int .i64 (fl k i) ∧ i' = .int .i64 (i / 2 ^ k : Nat)) (fun _ _ r => L - (intOf r).toNat)
 case atStart => exact ⟨0, Nat.zero_le _, rfl, rfl, by simp⟩
 case round =>
  obtain ⟨k, hk, rfl, rfl, rfl⟩ := hrel
  by_cases hlt : k < L
  ·have hs : (k : Int) < L := by omega
   have HS := kh (fl_step k i (by omega))
   go_wp2
   go_round
   case rel => exact ⟨k + 1, by omega, by go_num, by rw [HS.out], by rw [Nat.pow_succ, ← Nat.div_div_eq_div_mul]; simp⟩
   case measure => simp [intOf]; omega
  ·have hs : (L : Int) ≤ k := by omega
   obtain rfl : k = L := by omega
   go_wp2
   go_ret
   exact ⟨rfl, rfl⟩
def IsLog (n : Int) (L : Nat) : Prop := 2 ≤ L ∧ L ≤ 6 ∧ n = ((2 ^ L : Nat) : Int)
theorem isLog_cases {n : Int} {L : Nat} (h : IsLog n L) : (L = 2 ∧ n = 4) ∨ (L = 3 ∧ n = 8) ∨ (L = 4 ∧ n = 16) ∨ (L = 5 ∧ n = 32) ∨ (L = 6 ∧ n = 64) := by
 obtain ⟨h0, h1, rfl⟩ := h
 have : L = 2 ∨ L = 3 ∨ L = 4 ∨ L = 5 ∨ L = 6 := by omega
 rcases this with rfl | rfl | rfl | rfl | rfl <;> simp
theorem log08_yes (n : Int) (L : Nat) (h : IsLog n L) (w : World) :
 Calls Tryz.prog 34 #[n] w fun e w' => e = .returned (.tuple #[L, .int .i64 0]) ∧ w' = w := by
 rcases isLog_cases h with ⟨rfl, rfl⟩ | ⟨rfl, rfl⟩ | ⟨rfl, rfl⟩ | ⟨rfl, rfl⟩ | ⟨rfl, rfl⟩
 all_goals
  clear h;go_in;go_wp2_with fail;refine wp_loop_rounds 6 ?_
  repeat (rw [rounds_succ]; go_wp2_with fail)
  go_ret2
  exact ⟨rfl, rfl⟩
theorem log08_no (n : Int) (h4 : n ≠ 4) (h8 : n ≠ 8) (h16 : n ≠ 16) (h32 : n ≠ 32) (h64 : n ≠ 64) (w : World) :
 Calls Tryz.prog 34 #[n] w fun e w' => e = .returned (.tuple #[.int .i64 0, .int .i64 3]) ∧ w' = w := by
 have e4 : (n == 4) = false := by simpa using h4
 have e8 : (n == 8) = false := by simpa using h8
 have e16 : (n == 16) = false := by simpa using h16
 have e32 : (n == 32) = false := by simpa using h32
 have e64 : (n == 64) = false := by simpa using h64
 clear h4 h8 h16 h32 h64
 go_in
 go_wp2_with fail
 refine wp_loop_rounds 6 ?_
 repeat (rw [rounds_succ]; go_wp2_with fail)
 go_ret2
 exact ⟨rfl, rfl⟩
end
section
open Go.ChangeShapes Go.WideShapes Go.ChangeAt Go.RowKit
set_option linter.unusedVariables false
theorem pow08_c (k p : Int) (h : (2 : Int) ^ k.toNat = p) (h0 : 0 ≤ k) (h1 : k ≤ 62) (w : World) :
 Calls Tryz.prog 38 #[k] w fun e w' => e = .returned (.int .i64 p) ∧ w' = w := by
 rw [← h]
 exact pow_c k h0 h1 w
theorem bit08_c (i j : Nat) (hi : i < 64) (hj : j ≤ 6) (w : World) :
 Calls Tryz.prog 174 #[i, j] w fun e w' => e = .returned (.int .i64 (i / 2 ^ j % 2 : Nat)) ∧ w' = w := by
 have HF := kh (floor_c i j (by omega) (by omega) (by omega))
 have e : ((i : Int) / 2 ^ (j : Int).toNat).tmod 2 = ((i / 2 ^ j % 2 : Nat) : Int) := by
  rw [Int.toNat_natCast, Int.tmod_eq_emod_of_nonneg (Int.ediv_nonneg (by omega) (by exact Int.le_of_lt (pow_pos2 j)))]
  simp
 generalize i / 2 ^ j % 2 = r at *
 generalize (i : Int) / 2 ^ (j : Int).toNat = q at *
 go_in
 go_wp2_with (first | (go_at_call 145; refine (HF.out _).mono ?_; rintro e wz ⟨rfl, rfl⟩))
 go_ret
 exact ⟨rfl, rfl⟩
theorem rbits08_c (i L : Nat) (hL : L ≤ 6) (hi : i < 64) (w : World) :
 Calls Tryz.prog 137 #[i, L] w fun e w' => e = .returned (.int .i64 (fl L i)) ∧ w' = w := by
 have HB := kh fun j (hj : j ≤ 6) => bit08_c i j hi hj
 have HE := kh (rb_fl L i hL hi)
 have HR := kh fun k => rb_lt L k i
 have HT := kh fun k => rb_succ L k i
 go_in
 go_wp2
 go_loop [5, 6] (fun o r => ∃ k : Nat, k ≤ L ∧ r = .int .i64 k ∧ o = .int .i64 (rb L k i : Nat)) (fun _ r => L - (intOf r).toNat)
 case atStart => exact ⟨0, Nat.zero_le _, rfl, rfl⟩
 case round =>
  obtain ⟨k, hk, rfl, rfl⟩ := hrel
  by_cases hlt : k < L
  ·have hs : (k : Int) < L := by omega
   have HP := kh (pow_c k (by omega) (by omega))
   obtain ⟨m, hm⟩ : ∃ m, m = L - 1 - k := ⟨_, rfl⟩
   have hm' : (L : Int) - 1 - k = m := by omega
   have HB1 := kh (HB.out m (by omega));have h1 := HR.out k;have h2 := HR.out (k + 1);have h3 := HT.out k
   have h4 : 2 ^ (k + 1) ≤ 64 := pow_le (k + 1) (by omega)
   have hb : i / 2 ^ m % 2 < 2 := Nat.mod_lt _ (by omega)
   rw [← hm] at h3;rw [Int.toNat_natCast] at HP
   have hpk : (2 : Int) ^ k = ((2 ^ k : Nat) : Int) := by simp
   rw [hpk] at HP
   have h5 : 2 ^ k ≤ 64 := pow_le k (by omega)
   obtain ⟨s, hS⟩ : ∃ s, rb L (k + 1) i = s := ⟨_, rfl⟩
   have HS1 := kh hS;rw [hS] at h2 h3;clear hS;generalize rb L k i = r at *;generalize i / 2 ^ m % 2 = b at *;clear hpk;generalize 2 ^ (k + 1) = q at *;generalize 2 ^ k = p at *
   have h6 : b * p ≤ 64 := by
    rcases (show b = 0 ∨ b = 1 by omega) with rfl | rfl <;> omega
   have h7 : (b : Int) * p = ((b * p : Nat) : Int) := by simp
   generalize b * p = bp at *
   have h8 : (r : Int) + bp = s := by omega
   have hr : s ≤ 64 := by omega
   clear h1 h2 h3 h4 hm
   go_wp2_with (first | (go_at_call 174; refine (HB1.out _).mono ?_; rintro e wz ⟨rfl, rfl⟩) | (go_at_call 38; refine (HP.out _).mono ?_; rintro e wz ⟨rfl, rfl⟩))
   go_round
   case rel => exact ⟨k + 1, by omega, by go_num, by rw [HS1.out]⟩
   case measure => simp [intOf]; omega
  ·have hs : (L : Int) ≤ k := by omega
   obtain rfl : k = L := by omega
   go_wp2
   go_ret
   exact ⟨by rw [HE.out]; rfl, rfl⟩
theorem rlog08_yes (n : Int) (L : Nat) (h : IsLog n L) (w : World) :
 Calls Tryz.prog 35 #[n] w fun e w' => e = .returned (.int .i64 L) ∧ w' = w := by
 have P2 := kh (pow08_c 2 4 (by decide) (by omega) (by omega))
 have P3 := kh (pow08_c 3 8 (by decide) (by omega) (by omega))
 have P4 := kh (pow08_c 4 16 (by decide) (by omega) (by omega))
 have P5 := kh (pow08_c 5 32 (by decide) (by omega) (by omega))
 have P6 := kh (pow08_c 6 64 (by decide) (by omega) (by omega))
 rcases isLog_cases h with ⟨rfl, rfl⟩ | ⟨rfl, rfl⟩ | ⟨rfl, rfl⟩ | ⟨rfl, rfl⟩ | ⟨rfl, rfl⟩
 all_goals
  clear h;go_in;go_wp2_with fail;refine wp_loop_rounds 6 ?_
  repeat (rw [rounds_succ]; go_wp2_with (go_at_call 38; first | (with_reducible refine (P2.out _).mono ?_; rintro e wz ⟨rfl, rfl⟩) | (with_reducible refine (P3.out _).mono ?_; rintro e wz ⟨rfl, rfl⟩) | (with_reducible refine (P4.out _).mono ?_; rintro e wz ⟨rfl, rfl⟩) | (with_reducible refine (P5.out _).mono ?_; rintro e wz ⟨rfl, rfl⟩) | (with_reducible refine (P6.out _).mono ?_; rintro e wz ⟨rfl, rfl⟩)))
  go_ret
  exact ⟨rfl, rfl⟩
theorem rlog08_no (n : Int) (h4 : n ≠ 4) (h8 : n ≠ 8) (h16 : n ≠ 16) (h32 : n ≠ 32) (h64 : n ≠ 64) (w : World) :
 Calls Tryz.prog 35 #[n] w fun e w' => e = .returned (.int .i64 (-1)) ∧ w' = w := by
 have P2 := kh (pow08_c 2 4 (by decide) (by omega) (by omega))
 have P3 := kh (pow08_c 3 8 (by decide) (by omega) (by omega))
 have P4 := kh (pow08_c 4 16 (by decide) (by omega) (by omega))
 have P5 := kh (pow08_c 5 32 (by decide) (by omega) (by omega))
 have P6 := kh (pow08_c 6 64 (by decide) (by omega) (by omega))
 have e4 : ((4 : Int) == n) = false := by simp; omega
 have e8 : ((8 : Int) == n) = false := by simp; omega
 have e16 : ((16 : Int) == n) = false := by simp; omega
 have e32 : ((32 : Int) == n) = false := by simp; omega
 have e64 : ((64 : Int) == n) = false := by simp; omega
 clear h4 h8 h16 h32 h64
 go_in
 go_wp2_with fail
 refine wp_loop_rounds 6 ?_
 repeat (rw [rounds_succ]; go_wp2_with (go_at_call 38; first | (with_reducible refine (P2.out _).mono ?_; rintro e wz ⟨rfl, rfl⟩) | (with_reducible refine (P3.out _).mono ?_; rintro e wz ⟨rfl, rfl⟩) | (with_reducible refine (P4.out _).mono ?_; rintro e wz ⟨rfl, rfl⟩) | (with_reducible refine (P5.out _).mono ?_; rintro e wz ⟨rfl, rfl⟩) | (with_reducible refine (P6.out _).mono ?_; rintro e wz ⟨rfl, rfl⟩)))
 go_ret
 exact ⟨rfl, rfl⟩
end
end Go.Proofs.YtdignnmpfkgkoaaGreat
