import Derived.Test.YtablflakcaimmaaGreatFftRunsS30
namespace Go.Proofs.YtablflakcaimmaaGreat
section
open Go.ChangeShapes Go.WideShapes Go.ChangeAt Go.RowKit
set_option linter.unusedVariables false
set_option linter.unusedSimpArgs false
set_option maxRecDepth 100000
set_option maxHeartbeats 4000000 in
theorem run15_passes (v : Value) (xs L : List Gi) (S : Nat → BV) (fo lo ke sc mo : Int) (iv : Bool) (hke : (ke == 2) = false) (hL : L.length ≤ 7) (hS0 : (S 0).sh = [])
 (HR : Hid (∀ W, CxsAt W v xs → Calls Tryz.prog 15 #[v, .agg #[.int .i64 fo, .int .i64 lo, .int .i64 ke, .int .i64 sc, .int .i64 mo, .bool iv]] W fun e w' => ∃ vx, e = .returned (.agg #[vx, .int .i64 (S 0).ex, .bool (S 0).sat, .slice none 0 0]) ∧ CxsAt w' vx (S 0).X ∧ Gr W w'))
 (HPS : Hid (∀ W, Calls Tryz.prog 18 #[.agg #[.int .i64 fo, .int .i64 lo, .int .i64 ke, .int .i64 sc, .int .i64 mo, .bool iv]] W fun e w' => ∃ v, e = .returned v ∧ CxsAt w' v L ∧ Gr W w'))
 (HN : Hid (∀ (j : Nat) q, L[j]? = some q → ∀ vx vs W, CxsAt W vx (S j).X → NumsAt W vs (S j).sh → Calls Tryz.prog 19 #[.agg #[vx, .int .i64 (S j).ex, .bool (S j).sat, vs], .agg #[.int .i64 fo, .int .i64 lo, .int .i64 ke, .int .i64 sc, .int .i64 mo, .bool iv], .agg #[.int .i64 q.re, .int .i64 q.im]] W fun e w' => ∃ vx vs, e = .returned (.agg #[vx, .int .i64 (S (j + 1)).ex, .bool (S (j + 1)).sat, vs]) ∧ CxsAt w' vx (S (j + 1)).X ∧ NumsAt w' vs (S (j + 1)).sh ∧ Gr W w' ∧ ∀ b, vs.ownBlock = some b → W.heap.size ≤ b))
 (w : World) (hv : CxsAt w v xs) :
 Calls Tryz.prog 13 #[v, .agg #[.int .i64 fo, .int .i64 lo, .int .i64 ke, .int .i64 sc, .int .i64 mo, .bool iv]] w fun e w' => ∃ vx vs, e = .returned (.agg #[vx, .int .i64 (S L.length).ex, .bool (S L.length).sat, vs]) ∧ CxsAt w' vx (S L.length).X ∧ NumsAt w' vs (S L.length).sh ∧ Gr w w' := by
 go_enter Tryz.func13, Tryz.ntmps13
 go_wp2_with fail
 obtain ⟨u0, hU⟩ : ∃ uu, uu = ((w.alloc (.cells #[.int .i64 fo, .int .i64 lo, .int .i64 ke, .int .i64 sc, .int .i64 mo, .bool iv] 24)).alloc (.cells #[.slice none 0 0, .int .i64 0, .bool false, .slice none 0 0] 27)) := ⟨_, rfl⟩
 have ⟨gu, R0, R1⟩ := lay2 hU
 rw [← hU]
 clear hU
 have lp := R0.lt
 have lr := R1.lt
 obtain ⟨cp0, cp1, cp2, cp3, cp4, cp5⟩ := R0.t6
 go_wp2_with fail
 clear cp0 cp1 cp2 cp3 cp4 cp5
 refine (HR.out _ (hv.gr gu)).mono ?_
 rintro e w1 ⟨vx, rfl, hx1, g1⟩
 obtain ⟨px, cx, rfl⟩ := hx1.len
 have ⟨Fp_1, lp_1⟩ := R0.gl g1
 have ⟨Fr_1, lr_1⟩ := R1.gl g1
 have z1 := gu.trans g1
 clear R0 R1 gu g1
 obtain ⟨cp0, cp1, cp2, cp3, cp4, cp5⟩ := Fp_1.t6
 go_wp2_with fail
 clear cp0 cp1 cp2 cp3 cp4 cp5
 obtain ⟨u1, hq1⟩ : ∃ zz, zz = w1.alloc (.cells #[.slice px (S 0).X.length cx, .int .i64 (S 0).ex, .bool (S 0).sat, .slice none 0 0] 27) := ⟨_, rfl⟩
 have Ro : CellsAt u1 w1.heap.size 27 #[.slice px (S 0).X.length cx, .int .i64 (S 0).ex, .bool (S 0).sat, .slice none 0 0] := by rw [hq1]; exact CellsAt.new w1 27 _
 have go1 : Gr w1 u1 := by rw [hq1]; exact (Gr.refl w1).alloc _ _
 have Rp := Fp_1.gr go1
 have Rr := Fr_1.gr go1
 have hx2 := hx1.gr go1
 have yo := z1.trans go1
 rw [← hq1]
 clear hq1
 have hrlt := Fr_1.lt
 refine (HPS.out _).mono ?_
 rintro e w2 ⟨vp, rfl, hp2, g2⟩
 obtain ⟨pp, pcap, rfl⟩ := hp2.len
 have Ro2 := CellsAt.gr Ro g2
 have Rp2 := CellsAt.gr Rp g2
 have Rr2 := CellsAt.gr Rr g2
 have hx3 := hx2.gr g2
 have y3 := yo.trans g2
 have ho2 := Ro2.lt
 go_wp2_with fail
 go_loopw [39] (fun i wr => ∃ (j : Nat) (px ps : Option Addr) (cx cs : Nat), j ≤ L.length ∧ i = .int .i64 j ∧ CellsAt wr w1.heap.size 27 #[.slice px (S j).X.length cx, .int .i64 (S j).ex, .bool (S j).sat, .slice ps (S j).sh.length cs] ∧ CxsAt wr (.slice px (S j).X.length cx) (S j).X ∧ NumsAt wr (.slice ps (S j).sh.length cs) (S j).sh ∧ (∀ b, (Value.slice ps (S j).sh.length cs).ownBlock = some b → b ≠ w1.heap.size ∧ b ≠ w.heap.size + 1) ∧ CellsAt wr w.heap.size 24 #[.int .i64 fo, .int .i64 lo, .int .i64 ke, .int .i64 sc, .int .i64 mo, .bool iv] ∧ CellsAt wr (w.heap.size + 1) 27 #[.slice none 0 0, .int .i64 0, .bool false, .slice none 0 0] ∧ CxsAt wr (.slice pp L.length pcap) L ∧ w2.heap.size ≤ wr.heap.size ∧ Gr w wr)
  (fun i _ => L.length - (intOf i).toNat)
 case atStart => exact ⟨0, px, none, cx, 0, by omega, rfl, by rw [hS0]; exact Ro2, hx3, by rw [hS0]; exact NumsAt.nil _, (fun b e => by cases e), Rp2, Rr2, hp2, Nat.le_refl _, y3⟩
 case round =>
  clear Ro2 hx3 Rp2 Rr2 hp2 y3 hx1
  obtain ⟨j, px, ps, cx, cs, hj, rfl, hO, hX, hS, hfr, hP, hRr, hL, hsz, hg⟩ := hrel
  by_cases hlt : j < L.length
  ·obtain ⟨q, hq⟩ := get_of_lt hlt
   have hlI : (j : Int) < (L.length : Int) := by omega
   have hl7 : (L.length : Int) ≤ 7 := by omega
   obtain ⟨b, oo, cap', hsl, hln, hb, hc⟩ := hL.at (by intro e; rw [e] at hlt; simp at hlt)
   cases hsl
   obtain ⟨k1, k2⟩ := hc j q hq
   have HNX := Lib.hid fun vx vs W => HN.out j q hq vx vs W
   obtain ⟨re, im⟩ := q
   simp only at k1 k2 HNX
   clear hq hc
   have lO := hO.lt
   have lP := hP.lt
   have lR := hRr.lt
   generalize hS1 : S (j + 1) = T at HNX
   have HS1 := Lib.hid hS1
   clear hS1
   obtain ⟨X', ex', sat', sh'⟩ := T
   generalize hS0 : S j = T at *
   have HS0 := Lib.hid hS0
   clear hS0
   obtain ⟨X, ex, sat, sh⟩ := T
   simp only at hO hX hS hfr HNX
   obtain ⟨co0, co1, co2, co3⟩ := hO.t4
   obtain ⟨cp0, cp1, cp2, cp3, cp4, cp5⟩ := hP.t6
   go_wp2_with fail
   clear co0 co1 co2 co3 cp0 cp1 cp2 cp3 cp4 cp5
   have ga : Gr wr (wr.alloc (.cells #[.int .i64 re, .int .i64 im] 42)) := (Gr.refl wr).alloc _ _
   refine (HNX.out _ _ _ (hX.gr ga) (hS.gr ga)).mono ?_
   rintro e w5 ⟨vx5, vs5, rfl, hx5, hs5, g5, hf5⟩
   obtain ⟨px5, cx5, rfl⟩ := hx5.len
   obtain ⟨ps5, cs5, rfl⟩ := hs5.len
   try simp only at hx5 hs5 hf5
   have g6 := ga.trans g5
   have O6 := CellsAt.gr hO g6
   have P6 := CellsAt.gr hP g6
   have R6 := CellsAt.gr hRr g6
   have L6 := hL.gr g6
   have y6 := hg.trans g6
   have s6 := g6.size
   have s7 := ga.size
   have hsa : (wr.alloc (.cells #[.int .i64 re, .int .i64 im] 42)).heap.size = wr.heap.size + 1 := by simp
   obtain ⟨mo0, mo1, mo2, mo3⟩ := O6.f4
   obtain ⟨co0, co1, co2, co3⟩ := O6.t4
   have lO6 := O6.lt
   clear hO hP hRr hL hX hS hg g5 ga k1 k2
   go_wp2_with fail
   have apx := CxsAt.apart hx5 O6
   have apl := CxsAt.apart L6 O6
   have X7 := ((((hx5.set apx 0 (.slice px5 X'.length cx5)).set apx 1 (.int .i64 ex')).set apx 2 (.bool sat')).set apx 3 (.slice ps5 sh'.length cs5))
   have L7 := ((((L6.set apl 0 (.slice px5 X'.length cx5)).set apl 1 (.int .i64 ex')).set apl 2 (.bool sat')).set apl 3 (.slice ps5 sh'.length cs5))
   have S7 := ((((hs5.set (B := w1.heap.size) (fun e => by have := hf5 _ e; omega) 0 (.slice px5 X'.length cx5)).set (B := w1.heap.size) (fun e => by have := hf5 _ e; omega) 1 (.int .i64 ex')).set (B := w1.heap.size) (fun e => by have := hf5 _ e; omega) 2 (.bool sat')).set (B := w1.heap.size) (fun e => by have := hf5 _ e; omega) 3 (.slice ps5 sh'.length cs5))
   have O7 : CellsAt _ w1.heap.size 27 #[.slice px5 X'.length cx5, .int .i64 ex', .bool sat', .slice ps5 sh'.length cs5] := ((((O6.set 0 (.slice px5 X'.length cx5)).set 1 (.int .i64 ex')).set 2 (.bool sat')).set 3 (.slice ps5 sh'.length cs5))
   skip
   go_roundw
   case rel =>
    refine ⟨j + 1, px5, ps5, cx5, cs5, by omega, by go_num, ?_, ?_, ?_, ?_, ?_, ?_, ?_, ?_, ?_⟩
    all_goals (try rw [HS1.out])
    ·exact O7
    ·exact X7
    ·exact S7
    ·exact fun b e => by have := hf5 _ e; exact ⟨by omega, by omega⟩
    ·exact ((((P6.ot).ot).ot).ot)
    ·exact ((((R6.ot).ot).ot).ot)
    ·exact L7
    ·simp; omega
    ·exact (((y6.sc _).sc _).sc _).sc _
   case measure => simp [intOf]; omega
  ·obtain rfl : j = L.length := by omega
   have hlI : ¬ (L.length : Int) < (L.length : Int) := by omega
   have lO := hO.lt
   have lR := hRr.lt
   obtain ⟨mr0, mr1, mr2, mr3⟩ := hRr.f4
   have co0 := hO.at 0
   have cr0 := hRr.at 0
   have co1 := hO.at 1
   have cr1 := hRr.at 1
   have co2 := hO.at 2
   have cr2 := hRr.at 2
   have co3 := hO.at 3
   have cr3 := hRr.at 3
   have apx := CxsAt.apart hX hRr
   go_wp2_with fail
   have X7 := (((hX.set apx 0 (.slice px (S L.length).X.length cx)).set apx 1 (.int .i64 (S L.length).ex)).set apx 2 (.bool (S L.length).sat)).set apx 3 (.slice ps (S L.length).sh.length cs)
   have S7 := (((hS.set (B := w.heap.size + 1) (fun e => (hfr _ e).2 rfl) 0 (.slice px (S L.length).X.length cx)).set (B := w.heap.size + 1) (fun e => (hfr _ e).2 rfl) 1 (.int .i64 (S L.length).ex)).set (B := w.heap.size + 1) (fun e => (hfr _ e).2 rfl) 2 (.bool (S L.length).sat)).set (B := w.heap.size + 1) (fun e => (hfr _ e).2 rfl) 3 (.slice ps (S L.length).sh.length cs)
   obtain ⟨uf, hqf⟩ : ∃ zz, zz = ((((wr.setCell ⟨w.heap.size + 1, 0, none⟩ (.slice px (S L.length).X.length cx)).setCell ⟨w.heap.size + 1, 1, none⟩ (.int .i64 (S L.length).ex)).setCell ⟨w.heap.size + 1, 2, none⟩ (.bool (S L.length).sat)).setCell ⟨w.heap.size + 1, 3, none⟩ (.slice ps (S L.length).sh.length cs)) := ⟨_, rfl⟩
   rw [← hqf] at X7 S7
   have Yr : CellsAt uf (w.heap.size + 1) 27 #[.slice px (S L.length).X.length cx, .int .i64 (S L.length).ex, .bool (S L.length).sat, .slice ps (S L.length).sh.length cs] := by rw [hqf]; exact ((((hRr.set 0 (.slice px (S L.length).X.length cx)).set 1 (.int .i64 (S L.length).ex)).set 2 (.bool (S L.length).sat)).set 3 (.slice ps (S L.length).sh.length cs))
   have yz : Gr w uf := by rw [hqf]; exact (((hg.sc _).sc _).sc _).sc _
   rw [← hqf]
   clear hqf
   obtain ⟨cs0, cs1, cs2, cs3⟩ := Yr.t4
   refine bodyPost_ret (v := .agg #[.slice px (S L.length).X.length cx, .int .i64 (S L.length).ex, .bool (S L.length).sat, .slice ps (S L.length).sh.length cs]) ?_ rfl ⟨_, _, rfl, X7, S7, yz⟩
   simp [results, Tryz.results13, go_sem, *]
set_option maxHeartbeats 4000000 in
theorem run15_split (v : Value) (xs rs ws ys : List Gi) (fo lo sc mo bits e0 e2 : Int) (iv : Bool) (he : wrap64 (e0 + lo) = e2)
 (HR : Hid (∀ W, CxsAt W v xs → Calls Tryz.prog 15 #[v, .agg #[.int .i64 fo, .int .i64 lo, .int .i64 2, .int .i64 sc, .int .i64 mo, .bool iv]] W fun e w' => ∃ vx, e = .returned (.agg #[vx, .int .i64 e0, .bool false, .slice none 0 0]) ∧ CxsAt w' vx rs ∧ Gr W w'))
 (HT : Hid (∀ W, Calls Tryz.prog 35 #[.int .i64 lo, .int .i64 fo] W fun e w' => ∃ u, e = .returned u ∧ CxsAt w' u ws ∧ Gr W w'))
 (HB : CR 36 #[.int .i64 fo] (.int .i64 bits))
 (HRN : Hid (∀ vx vw W, CxsAt W vx rs → CxsAt W vw ws → Calls Tryz.prog 34 #[vx, vw, .int .i64 bits, .int .i64 mo, .bool iv] W fun e w' => ∃ u, e = .returned u ∧ CxsAt w' u ys ∧ Gr W w'))
 (HPS : Hid (∀ W, Calls Tryz.prog 18 #[.agg #[.int .i64 fo, .int .i64 lo, .int .i64 2, .int .i64 sc, .int .i64 mo, .bool iv]] W fun e w' => ∃ v, e = .returned v ∧ CxsAt w' v [] ∧ Gr W w'))
 (w : World) (hv : CxsAt w v xs) :
 Calls Tryz.prog 13 #[v, .agg #[.int .i64 fo, .int .i64 lo, .int .i64 2, .int .i64 sc, .int .i64 mo, .bool iv]] w fun e w' => ∃ vx, e = .returned (.agg #[vx, .int .i64 e2, .bool false, .slice none 0 0]) ∧ CxsAt w' vx ys ∧ Gr w w' := by
 go_enter Tryz.func13, Tryz.ntmps13
 go_wp2_with fail
 obtain ⟨u0, hU⟩ : ∃ uu, uu = ((w.alloc (.cells #[.int .i64 fo, .int .i64 lo, .int .i64 2, .int .i64 sc, .int .i64 mo, .bool iv] 24)).alloc (.cells #[.slice none 0 0, .int .i64 0, .bool false, .slice none 0 0] 27)) := ⟨_, rfl⟩
 have ⟨gu, R0, R1⟩ := lay2 hU
 rw [← hU]
 clear hU
 have lp := R0.lt
 have lr := R1.lt
 obtain ⟨cp0, cp1, cp2, cp3, cp4, cp5⟩ := R0.t6
 go_wp2_with fail
 clear cp0 cp1 cp2 cp3 cp4 cp5
 refine (HR.out _ (hv.gr gu)).mono ?_
 rintro e w1 ⟨vx, rfl, hx1, g1⟩
 obtain ⟨px, cx, rfl⟩ := hx1.len
 have ⟨Fp_1, lp_1⟩ := R0.gl g1
 have ⟨Fr_1, lr_1⟩ := R1.gl g1
 have z1 := gu.trans g1
 clear R0 R1 gu g1
 obtain ⟨cp0, cp1, cp2, cp3, cp4, cp5⟩ := Fp_1.t6
 go_wp2_with fail
 clear cp0 cp1 cp2 cp3 cp4 cp5
 obtain ⟨u1, hq1⟩ : ∃ zz, zz = w1.alloc (.cells #[.slice px rs.length cx, .int .i64 e0, .bool false, .slice none 0 0] 27) := ⟨_, rfl⟩
 have Ro : CellsAt u1 w1.heap.size 27 #[.slice px rs.length cx, .int .i64 e0, .bool false, .slice none 0 0] := by rw [hq1]; exact CellsAt.new w1 27 _
 have go1 : Gr w1 u1 := by rw [hq1]; exact (Gr.refl w1).alloc _ _
 have Rp := Fp_1.gr go1
 have Rr := Fr_1.gr go1
 have hx2 := hx1.gr go1
 have yo := z1.trans go1
 rw [← hq1]
 clear hq1
 have hrlt := Fr_1.lt
 have hplt := Fp_1.lt
 have holt := Ro.lt
 have KS : ∀ W, GB (w1.heap.size) u1 W → (W.cell? ⟨w.heap.size, 0, none⟩ = some (.int .i64 fo) ∧ W.cell? ⟨w.heap.size, 1, none⟩ = some (.int .i64 lo) ∧ W.cell? ⟨w.heap.size, 2, none⟩ = some (.int .i64 2) ∧ W.cell? ⟨w.heap.size, 3, none⟩ = some (.int .i64 sc) ∧ W.cell? ⟨w.heap.size, 4, none⟩ = some (.int .i64 mo) ∧ W.cell? ⟨w.heap.size, 5, none⟩ = some (.bool iv)) := fun W hG => ⟨(GB.cellsAt hG Rp (by omega)).cell 0, (GB.cellsAt hG Rp (by omega)).cell 1, (GB.cellsAt hG Rp (by omega)).cell 2, (GB.cellsAt hG Rp (by omega)).cell 3, (GB.cellsAt hG Rp (by omega)).cell 4, (GB.cellsAt hG Rp (by omega)).cell 5⟩
 have hclG := gb_closed (w1.heap.size) u1
 try simp only [List.append_eq, List.cons_append, List.nil_append]
 refine wp_region_grow (S := GB (w1.heap.size) u1) rfl (GB.drew (GB.refl _ _)) ?_
 refine gT 0 hclG ?_
 refine gK 2 hclG KS ?_
 refine gK 3 hclG KS ?_
 refine gK 4 hclG KS ?_
 refine gK 5 hclG KS ?_
 refine gK 7 hclG KS ?_
 refine gK 8 hclG KS ?_
 refine gK 10 hclG KS ?_
 refine gK 11 hclG KS ?_
 refine gK 12 hclG KS ?_
 refine gK 13 hclG KS ?_
 refine wpG_ready (rs := [1, 6]) (by kernel_rfl) (by simp) (fun w3 g3 s3 => ?_)
 replace g3 := (Gr.drew (Gr.refl u1)).trans g3
 have O3 := Ro.gr g3
 have P3 := Rp.gr g3
 have R3 := Rr.gr g3
 have X3 := hx2.gr g3
 have y3 := yo.trans g3
 have lo3 := O3.lt
 obtain ⟨co0, co1, co2, co3⟩ := O3.t4
 refine AllG.cons rfl (fun K hK => ?_) (AllG.cons rfl (fun K hK => ?_) AllG.nil)
 ·skip
  go_simp
  clear co0 co1 co2 co3
  refine hK.out _ _ ?_ ?_
  ·exact s3
  clear hK K
  try simp only [Act.put, putS]
  refine gR 6 fun w4 g4 s4 K hK => ?_
  go_simp
  refine (HT.out _).mono ?_
  rintro e w5 ⟨vw, rfl, hw5, g5⟩
  obtain ⟨tp, tc, rfl⟩ := hw5.len
  have s5 := GB.gr s4 g5
  have g45 := g4.trans g5
  have O5 := O3.gr g45
  have P5 := P3.gr g45
  have R5 := R3.gr g45
  have X5 := X3.gr g45
  have y5 := y3.trans g45
  refine hK.out _ _ ?_ ?_
  ·exact s5
  clear hK K
  try simp only [Act.put, putS]
  refine wpG_call (i := 9) hclG rfl (by kernel_rfl) (by kernel_rfl) (by kernel_rfl) (fun _ _ _ h => h) (fun W hS => HB.out W) (by rfl) ?_ ?_
  ·(intro w' hSw; go_simp; try with_reducible rfl)
  try simp only [Act.put, putS]
  refine gR 14 fun w6 g6 s6 K hK => ?_
  have O6 := O5.gr g6
  have P6 := P5.gr g6
  have R6 := R5.gr g6
  have X6 := X5.gr g6
  have y6 := y5.trans g6
  have W6 := hw5.gr g6
  have lo6 := O6.lt
  go_simp
  refine (HRN.out _ _ _ X6 W6).mono ?_
  rintro e w7 ⟨vy, rfl, hy7, g7⟩
  obtain ⟨py, cy, rfl⟩ := hy7.len
  have s7 := GB.gr s6 g7
  have O7 := O6.gr g7
  have P7 := P6.gr g7
  have R7 := R6.gr g7
  have y7 := y6.trans g7
  refine hK.out _ _ ?_ ?_
  ·exact s7
  clear hK K
  try simp only [Act.put, putS]
  refine gT 15 hclG ?_
  refine gR 16 fun w8 g8 s8 K hK => ?_
  have O8 := O7.gr g8
  have P8 := P7.gr g8
  have R8 := R7.gr g8
  have y8 := y7.trans g8
  have hy8 := hy7.gr g8
  have lo8 := O8.lt
  obtain ⟨mo0, mo1, mo2, mo3⟩ := O8.f4
  obtain ⟨co0, co1, co2, co3⟩ := O8.t4
  go_simp
  have apy := CxsAt.apart hy8 O8
  have O9 := O8.set 0 (.slice py ys.length cy)
  skip
  clear mo0 mo1 mo2 mo3 co0 co1 co2 co3
  refine hK.out _ _ ?_ ?_
  ·exact GB.set s8 _ _
  clear hK K
  try simp only [Act.put, putS]
  refine wpG_done (by kernel_rfl) (fun wa ga => ?_) _
  have Oa : CellsAt wa w1.heap.size 27 #[.slice py ys.length cy, .int .i64 e0, .bool false, .slice none 0 0] := O9.gr ga
  have Pa := (P8.ot).gr ga
  have Ra := (R8.ot).gr ga
  have Ya := (hy8.set apy 0 (.slice py ys.length cy)).gr ga
  have ya := ((y8.setCell (a := ⟨w1.heap.size, 0, none⟩) (by simp only; omega) (.slice py ys.length cy))).trans ga
  clear hclG KS
  have la := Oa.lt
  obtain ⟨mo0, mo1, mo2, mo3⟩ := Oa.f4
  obtain ⟨co0, co1, co2, co3⟩ := Oa.t4
  obtain ⟨cp0, cp1, cp2, cp3, cp4, cp5⟩ := Pa.t6
  go_wp2_with fail
  obtain ⟨wb, hqb⟩ : ∃ zz, zz = wa.setCell ⟨w1.heap.size, 1, none⟩ (.int .i64 e2) := ⟨_, rfl⟩
  have Ob : CellsAt wb w1.heap.size 27 #[.slice py ys.length cy, .int .i64 e2, .bool false, .slice none 0 0] := by rw [hqb]; exact Oa.set 1 (.int .i64 e2)
  skip
  have Rb : CellsAt wb (w.heap.size + 1) 27 #[.slice none 0 0, .int .i64 0, .bool false, .slice none 0 0] := by rw [hqb]; exact Ra.ot
  have apb := CxsAt.apart Ya Oa
  have Yb : CxsAt wb (.slice py ys.length cy) ys := by rw [hqb]; exact Ya.set apb 1 (.int .i64 e2)
  have yb : Gr w wb := by rw [hqb]; exact ya.sc _
  try rw [← hqb]
  clear hqb mo0 mo1 mo2 mo3 co0 co1 co2 co3 cp0 cp1 cp2 cp3 cp4 cp5
  refine (HPS.out _).mono ?_
  rintro e wc ⟨vp, rfl, hvp, gc⟩
  obtain ⟨pp, pcap, rfl⟩ := hvp.len
  rw [show ([] : List Gi).length = 0 from rfl]
  have Oc := Ob.gr gc
  have Rc := Rb.gr gc
  have Yc := Yb.gr gc
  have yc := yb.trans gc
  have lc := Oc.lt
  have lrc := Rc.lt
  obtain ⟨mo0, mo1, mo2, mo3⟩ := Oc.f4
  obtain ⟨mr0, mr1, mr2, mr3⟩ := Rc.f4
  obtain ⟨co0, co1, co2, co3⟩ := Oc.t4
  obtain ⟨cr0, cr1, cr2, cr3⟩ := Rc.t4
  go_wp2_with fail
  go_loopw [39] (fun i wr => i = .int .i64 0 ∧ wr = wc) (fun i _ => 0)
  case atStart => exact ⟨rfl, rfl⟩
  case round =>
   obtain ⟨rfl, rfl⟩ := hrel
   have apc := CxsAt.apart Yc Rc
   go_wp2_with fail
   have X7 := (((Yc.set apc 0 (.slice py ys.length cy)).set apc 1 (.int .i64 e2)).set apc 2 (.bool false)).set apc 3 (.slice none 0 0)
   obtain ⟨uf, hqf⟩ : ∃ zz, zz = ((((wr.setCell ⟨w.heap.size + 1, 0, none⟩ (.slice py ys.length cy)).setCell ⟨w.heap.size + 1, 1, none⟩ (.int .i64 e2)).setCell ⟨w.heap.size + 1, 2, none⟩ (.bool false)).setCell ⟨w.heap.size + 1, 3, none⟩ (.slice none 0 0)) := ⟨_, rfl⟩
   rw [← hqf] at X7
   have Yr : CellsAt uf (w.heap.size + 1) 27 #[.slice py ys.length cy, .int .i64 e2, .bool false, .slice none 0 0] := by rw [hqf]; exact ((((Rc.set 0 (.slice py ys.length cy)).set 1 (.int .i64 e2)).set 2 (.bool false)).set 3 (.slice none 0 0))
   have yz : Gr w uf := by rw [hqf]; exact (((yc.sc _).sc _).sc _).sc _
   rw [← hqf]
   clear hqf
   obtain ⟨cs0, cs1, cs2, cs3⟩ := Yr.t4
   refine bodyPost_ret (v := .agg #[.slice py ys.length cy, .int .i64 e2, .bool false, .slice none 0 0]) ?_ rfl ⟨_, rfl, X7, yz⟩
   simp [results, Tryz.results13, go_sem, *]
 ·skip
  clear co0 co1 co2 co3
  go_simp
  refine (HT.out _).mono ?_
  rintro e w4 ⟨vw, rfl, hw4, g4⟩
  obtain ⟨tp, tc, rfl⟩ := hw4.len
  have s4 := GB.gr s3 g4
  have O4 := O3.gr g4
  have P4 := P3.gr g4
  have R4 := R3.gr g4
  have X4 := X3.gr g4
  have y4 := y3.trans g4
  refine hK.out _ _ ?_ ?_
  ·exact s4
  clear hK K
  try simp only [Act.put, putS]
  refine wpG_call (i := 9) hclG rfl (by kernel_rfl) (by kernel_rfl) (by kernel_rfl) (fun _ _ _ h => h) (fun W hS => HB.out W) (by rfl) ?_ ?_
  ·(intro w' hSw; go_simp; try with_reducible rfl)
  try simp only [Act.put, putS]
  refine gR 1 fun w5 g5 s5 K hK => ?_
  have O5 := O4.gr g5
  have P5 := P4.gr g5
  have R5 := R4.gr g5
  have X5 := X4.gr g5
  have y5 := y4.trans g5
  have hw5 := hw4.gr g5
  have lo5 := O5.lt
  obtain ⟨co0, co1, co2, co3⟩ := O5.t4
  go_simp
  clear co0 co1 co2 co3
  refine hK.out _ _ ?_ ?_
  ·exact s5
  clear hK K
  try simp only [Act.put, putS]
  refine gR 14 fun w6 g6 s6 K hK => ?_
  have O6 := O5.gr g6
  have P6 := P5.gr g6
  have R6 := R5.gr g6
  have X6 := X5.gr g6
  have y6 := y5.trans g6
  have W6 := hw5.gr g6
  have lo6 := O6.lt
  go_simp
  refine (HRN.out _ _ _ X6 W6).mono ?_
  rintro e w7 ⟨vy, rfl, hy7, g7⟩
  obtain ⟨py, cy, rfl⟩ := hy7.len
  have s7 := GB.gr s6 g7
  have O7 := O6.gr g7
  have P7 := P6.gr g7
  have R7 := R6.gr g7
  have y7 := y6.trans g7
  refine hK.out _ _ ?_ ?_
  ·exact s7
  clear hK K
  try simp only [Act.put, putS]
  refine gT 15 hclG ?_
  refine gR 16 fun w8 g8 s8 K hK => ?_
  have O8 := O7.gr g8
  have P8 := P7.gr g8
  have R8 := R7.gr g8
  have y8 := y7.trans g8
  have hy8 := hy7.gr g8
  have lo8 := O8.lt
  obtain ⟨mo0, mo1, mo2, mo3⟩ := O8.f4
  obtain ⟨co0, co1, co2, co3⟩ := O8.t4
  go_simp
  have apy := CxsAt.apart hy8 O8
  have O9 := O8.set 0 (.slice py ys.length cy)
  skip
  clear mo0 mo1 mo2 mo3 co0 co1 co2 co3
  refine hK.out _ _ ?_ ?_
  ·exact GB.set s8 _ _
  clear hK K
  try simp only [Act.put, putS]
  refine wpG_done (by kernel_rfl) (fun wa ga => ?_) _
  have Oa : CellsAt wa w1.heap.size 27 #[.slice py ys.length cy, .int .i64 e0, .bool false, .slice none 0 0] := O9.gr ga
  have Pa := (P8.ot).gr ga
  have Ra := (R8.ot).gr ga
  have Ya := (hy8.set apy 0 (.slice py ys.length cy)).gr ga
  have ya := ((y8.setCell (a := ⟨w1.heap.size, 0, none⟩) (by simp only; omega) (.slice py ys.length cy))).trans ga
  clear hclG KS
  have la := Oa.lt
  obtain ⟨mo0, mo1, mo2, mo3⟩ := Oa.f4
  obtain ⟨co0, co1, co2, co3⟩ := Oa.t4
  obtain ⟨cp0, cp1, cp2, cp3, cp4, cp5⟩ := Pa.t6
  go_wp2_with fail
  obtain ⟨wb, hqb⟩ : ∃ zz, zz = wa.setCell ⟨w1.heap.size, 1, none⟩ (.int .i64 e2) := ⟨_, rfl⟩
  have Ob : CellsAt wb w1.heap.size 27 #[.slice py ys.length cy, .int .i64 e2, .bool false, .slice none 0 0] := by rw [hqb]; exact Oa.set 1 (.int .i64 e2)
  skip
  have Rb : CellsAt wb (w.heap.size + 1) 27 #[.slice none 0 0, .int .i64 0, .bool false, .slice none 0 0] := by rw [hqb]; exact Ra.ot
  have apb := CxsAt.apart Ya Oa
  have Yb : CxsAt wb (.slice py ys.length cy) ys := by rw [hqb]; exact Ya.set apb 1 (.int .i64 e2)
  have yb : Gr w wb := by rw [hqb]; exact ya.sc _
  try rw [← hqb]
  clear hqb mo0 mo1 mo2 mo3 co0 co1 co2 co3 cp0 cp1 cp2 cp3 cp4 cp5
  refine (HPS.out _).mono ?_
  rintro e wc ⟨vp, rfl, hvp, gc⟩
  obtain ⟨pp, pcap, rfl⟩ := hvp.len
  rw [show ([] : List Gi).length = 0 from rfl]
  have Oc := Ob.gr gc
  have Rc := Rb.gr gc
  have Yc := Yb.gr gc
  have yc := yb.trans gc
  have lc := Oc.lt
  have lrc := Rc.lt
  obtain ⟨mo0, mo1, mo2, mo3⟩ := Oc.f4
  obtain ⟨mr0, mr1, mr2, mr3⟩ := Rc.f4
  obtain ⟨co0, co1, co2, co3⟩ := Oc.t4
  obtain ⟨cr0, cr1, cr2, cr3⟩ := Rc.t4
  go_wp2_with fail
  go_loopw [39] (fun i wr => i = .int .i64 0 ∧ wr = wc) (fun i _ => 0)
  case atStart => exact ⟨rfl, rfl⟩
  case round =>
   obtain ⟨rfl, rfl⟩ := hrel
   have apc := CxsAt.apart Yc Rc
   go_wp2_with fail
   have X7 := (((Yc.set apc 0 (.slice py ys.length cy)).set apc 1 (.int .i64 e2)).set apc 2 (.bool false)).set apc 3 (.slice none 0 0)
   obtain ⟨uf, hqf⟩ : ∃ zz, zz = ((((wr.setCell ⟨w.heap.size + 1, 0, none⟩ (.slice py ys.length cy)).setCell ⟨w.heap.size + 1, 1, none⟩ (.int .i64 e2)).setCell ⟨w.heap.size + 1, 2, none⟩ (.bool false)).setCell ⟨w.heap.size + 1, 3, none⟩ (.slice none 0 0)) := ⟨_, rfl⟩
   rw [← hqf] at X7
   have Yr : CellsAt uf (w.heap.size + 1) 27 #[.slice py ys.length cy, .int .i64 e2, .bool false, .slice none 0 0] := by rw [hqf]; exact ((((Rc.set 0 (.slice py ys.length cy)).set 1 (.int .i64 e2)).set 2 (.bool false)).set 3 (.slice none 0 0))
   have yz : Gr w uf := by rw [hqf]; exact (((yc.sc _).sc _).sc _).sc _
   rw [← hqf]
   clear hqf
   obtain ⟨cs0, cs1, cs2, cs3⟩ := Yr.t4
   refine bodyPost_ret (v := .agg #[.slice py ys.length cy, .int .i64 e2, .bool false, .slice none 0 0]) ?_ rfl ⟨_, rfl, X7, yz⟩
   simp [results, Tryz.results13, go_sem, *]
end
end Go.Proofs.YtablflakcaimmaaGreat
