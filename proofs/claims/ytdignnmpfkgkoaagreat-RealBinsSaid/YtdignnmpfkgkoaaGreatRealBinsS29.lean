import Derived.Test.YtdignnmpfkgkoaaGreatRealBinsS7
import Derived.Test.YtdignnmpfkgkoaaGreatRealBinsS28
namespace Go.Proofs.YtdignnmpfkgkoaaGreat
section
open Go.ChangeShapes Go.WideShapes Go.ChangeAt Go.RowKit
set_option linter.unusedVariables false
set_option linter.unusedSimpArgs false
set_option maxRecDepth 100000
set_option maxHeartbeats 16000000
theorem run15_passes (v : Value) (xs L : List Gi) (S : Nat → BV) (fo lo ke sc mo : Int) (iv : Bool) (hke : (ke == 2) = false) (hL : L.length ≤ 7) (hS0 : (S 0).sh = [])
 (HR : Hid (∀ W, CxsAt W v xs → Calls Tryz.prog 45 #[v, .agg #[fo, lo, ke, sc, mo, iv]] W fun e w' => ∃ vx, e = .returned (.agg #[vx, (S 0).ex, (S 0).sat, .slice none 0 0]) ∧ CxsAt w' vx (S 0).X ∧ Gr W w'))
 (HPS : Hid (∀ W, Calls Tryz.prog 48 #[.agg #[fo, lo, ke, sc, mo, iv]] W fun e w' => ∃ v, e = .returned v ∧ CxsAt w' v L ∧ Gr W w'))
 (HN : Hid (∀ (j : Nat) q, L[j]? = some q → ∀ vx vs W, CxsAt W vx (S j).X → NumsAt W vs (S j).sh → Calls Tryz.prog 49 #[.agg #[vx, (S j).ex, (S j).sat, vs], .agg #[fo, lo, ke, sc, mo, iv], .agg #[q.re, q.im]] W fun e w' => ∃ vx vs, e = .returned (.agg #[vx, (S (j + 1)).ex, (S (j + 1)).sat, vs]) ∧ CxsAt w' vx (S (j + 1)).X ∧ NumsAt w' vs (S (j + 1)).sh ∧ Gr W w' ∧ ∀ b, vs.ownBlock = some b → W.heap.size ≤ b))
 (w : World) (hv : CxsAt w v xs) :
 Calls Tryz.prog 18 #[v, .agg #[fo, lo, ke, sc, mo, iv]] w fun e w' => ∃ vx vs, e = .returned (.agg #[vx, (S L.length).ex, (S L.length).sat, vs]) ∧ CxsAt w' vx (S L.length).X ∧ NumsAt w' vs (S L.length).sh ∧ Gr w w' := by
 go_in
 go_wp2_with fail
 refine lc2 fun u0 gu R0 R1 => ?_
 have lp := R0.lt
 have lr := R1.lt
 obtain ⟨cp0, cp1, cp2, cp3, cp4, cp5⟩ := R0.t6
 go_wp2_with fail
 clear cp0 cp1 cp2 cp3 cp4 cp5
 refine (HR.out _ (hv.gr gu)).mono ?_
 rintro e w1 ⟨vx, rfl, hx1, g1⟩
 obtain ⟨px, cx, rfl⟩ := hx1.len
 have ⟨Fp_1, lp_1⟩ := R0.gl g1
 have ⟨Fr_1, lr_1⟩ := R1.gl g1
 have z1 := gu.trans g1
 clear R0 R1 gu g1
 obtain ⟨cp0, cp1, cp2, cp3, cp4, cp5⟩ := Fp_1.t6
 go_wp2_with fail
 clear cp0 cp1 cp2 cp3 cp4 cp5
 obtain ⟨u1, hq1⟩ : ∃ zz, zz = w1.alloc (.cells #[.slice px (S 0).X.length cx, (S 0).ex, (S 0).sat, .slice none 0 0] 27) := ⟨_, rfl⟩
 have Ro : CellsAt u1 w1.heap.size 27 #[.slice px (S 0).X.length cx, (S 0).ex, (S 0).sat, .slice none 0 0] := by rw [hq1]; exact CellsAt.new w1 27 _
 have go1 : Gr w1 u1 := by rw [hq1]; exact (Gr.refl w1).alloc _ _
 have Rp := Fp_1.gr go1
 have Rr := Fr_1.gr go1
 have hx2 := hx1.gr go1
 have yo := z1.trans go1
 rw [← hq1]
 clear hq1
 have hrlt := Fr_1.lt
 refine (HPS.out _).mono ?_
 rintro e w2 ⟨vp, rfl, hp2, g2⟩
 obtain ⟨pp, pcap, rfl⟩ := hp2.len
 have Ro2 := CellsAt.gr Ro g2
 have Rp2 := CellsAt.gr Rp g2
 have Rr2 := CellsAt.gr Rr g2
 have hx3 := hx2.gr g2
 have y3 := yo.trans g2
 have ho2 := Ro2.lt
 go_wp2_with fail
 go_loopw [39] (fun i wr => ∃ (j : Nat) (px ps : Option Addr) (cx cs : Nat), j ≤ L.length ∧ i = .int .i64 j ∧ CellsAt wr w1.heap.size 27 #[.slice px (S j).X.length cx, (S j).ex, (S j).sat, .slice ps (S j).sh.length cs] ∧ CxsAt wr (.slice px (S j).X.length cx) (S j).X ∧ NumsAt wr (.slice ps (S j).sh.length cs) (S j).sh ∧ (∀ b, (Value.slice ps (S j).sh.length cs).ownBlock = some b → b ≠ w1.heap.size ∧ b ≠ w.heap.size + 1) ∧ CellsAt wr w.heap.size 24 #[fo, lo, ke, sc, mo, iv] ∧ CellsAt wr (w.heap.size + 1) 27 #[.slice none 0 0, .int .i64 0, false, .slice none 0 0] ∧ CxsAt wr (.slice pp L.length pcap) L ∧ w2.heap.size ≤ wr.heap.size ∧ Gr w wr)
  (fun i _ => L.length - (intOf i).toNat)
 case atStart => exact ⟨0, px, none, cx, 0, by omega, rfl, by rw [hS0]; exact Ro2, hx3, by rw [hS0]; exact NumsAt.nil _, (fun b e => by cases e), Rp2, Rr2, hp2, Nat.le_refl _, y3⟩
 case round =>
  clear Ro2 hx3 Rp2 Rr2 hp2 y3 hx1;obtain ⟨j, px, ps, cx, cs, hj, rfl, hO, hX, hS, hfr, hP, hRr, hL, hsz, hg⟩ := hrel
  by_cases hlt : j < L.length
  ·obtain ⟨q, hq⟩ := get_of_lt hlt
   have hlI : (j : Int) < (L.length : Int) := by omega
   have hl7 : (L.length : Int) ≤ 7 := by omega
   obtain ⟨b, oo, cap', hsl, hln, hb, hc⟩ := hL.at (by intro e; rw [e] at hlt; simp at hlt)
   cases hsl
   obtain ⟨k1, k2⟩ := hc j q hq;have HNX := kh fun vx vs W => HN.out j q hq vx vs W
   obtain ⟨re, im⟩ := q
   simp only at k1 k2 HNX
   clear hq hc;have lO := hO.lt;have lP := hP.lt;have lR := hRr.lt;generalize hS1 : S (j + 1) = T at HNX;have HS1 := kh hS1;clear hS1;obtain ⟨X', ex', sat', sh'⟩ := T;generalize hS0 : S j = T at *;have HS0 := kh hS0;clear hS0;obtain ⟨X, ex, sat, sh⟩ := T
   simp only at hO hX hS hfr HNX
   obtain ⟨co0, co1, co2, co3⟩ := hO.t4;obtain ⟨cp0, cp1, cp2, cp3, cp4, cp5⟩ := hP.t6;go_wp2_with fail;clear co0 co1 co2 co3 cp0 cp1 cp2 cp3 cp4 cp5
   have ga : Gr wr (wr.alloc (.cells #[re, im] 72)) := (Gr.refl wr).alloc _ _
   refine (HNX.out _ _ _ (hX.gr ga) (hS.gr ga)).mono ?_;rintro e w5 ⟨vx5, vs5, rfl, hx5, hs5, g5, hf5⟩;obtain ⟨px5, cx5, rfl⟩ := hx5.len;obtain ⟨ps5, cs5, rfl⟩ := hs5.len
   try simp only at hx5 hs5 hf5
   have g6 := ga.trans g5;have O6 := CellsAt.gr hO g6;have P6 := CellsAt.gr hP g6;have R6 := CellsAt.gr hRr g6;have L6 := hL.gr g6;have y6 := hg.trans g6;have s6 := g6.size;have s7 := ga.size
   have hsa : (wr.alloc (.cells #[re, im] 72)).heap.size = wr.heap.size + 1 := by simp
   obtain ⟨mo0, mo1, mo2, mo3⟩ := O6.f4;obtain ⟨co0, co1, co2, co3⟩ := O6.t4;have lO6 := O6.lt;clear hO hP hRr hL hX hS hg g5 ga k1 k2;go_wp2_with fail;have apx := CxsAt.apart hx5 O6;have apl := CxsAt.apart L6 O6;have X7 := ((((hx5.set apx 0 (.slice px5 X'.length cx5)).set apx 1 (.int .i64 ex')).set apx 2 (.bool sat')).set apx 3 (.slice ps5 sh'.length cs5));have L7 := ((((L6.set apl 0 (.slice px5 X'.length cx5)).set apl 1 (.int .i64 ex')).set apl 2 (.bool sat')).set apl 3 (.slice ps5 sh'.length cs5));have S7 := ((((hs5.set (B := w1.heap.size) (fun e => by have := hf5 _ e; omega) 0 (.slice px5 X'.length cx5)).set (B := w1.heap.size) (fun e => by have := hf5 _ e; omega) 1 (.int .i64 ex')).set (B := w1.heap.size) (fun e => by have := hf5 _ e; omega) 2 (.bool sat')).set (B := w1.heap.size) (fun e => by have := hf5 _ e; omega) 3 (.slice ps5 sh'.length cs5))
   have O7 : CellsAt _ w1.heap.size 27 #[.slice px5 X'.length cx5, ex', sat', .slice ps5 sh'.length cs5] := ((((O6.set 0 (.slice px5 X'.length cx5)).set 1 (.int .i64 ex')).set 2 (.bool sat')).set 3 (.slice ps5 sh'.length cs5))
   skip
   go_roundw
   case rel =>
    refine ⟨j + 1, px5, ps5, cx5, cs5, by omega, by go_num, ?_, ?_, ?_, ?_, ?_, ?_, ?_, ?_, ?_⟩
    all_goals (try rw [HS1.out])
    ·exact O7
    ·exact X7
    ·exact S7
    ·exact fun b e => by have := hf5 _ e; exact ⟨by omega, by omega⟩
    ·exact ((((P6.ot).ot).ot).ot)
    ·exact ((((R6.ot).ot).ot).ot)
    ·exact L7
    ·simp; omega
    ·exact (((y6.sc _).sc _).sc _).sc _
   case measure => simp [intOf]; omega
  ·obtain rfl : j = L.length := by omega
   have hlI : ¬ (L.length : Int) < (L.length : Int) := by omega
   have lO := hO.lt;have lR := hRr.lt;obtain ⟨mr0, mr1, mr2, mr3⟩ := hRr.f4;obtain ⟨co0, co1, co2, co3⟩ := hO.t4;obtain ⟨cr0, cr1, cr2, cr3⟩ := hRr.t4;have apx := CxsAt.apart hX hRr;go_wp2_with fail;have X7 := (((hX.set apx 0 (.slice px (S L.length).X.length cx)).set apx 1 (.int .i64 (S L.length).ex)).set apx 2 (.bool (S L.length).sat)).set apx 3 (.slice ps (S L.length).sh.length cs);have S7 := (((hS.set (B := w.heap.size + 1) (fun e => (hfr _ e).2 rfl) 0 (.slice px (S L.length).X.length cx)).set (B := w.heap.size + 1) (fun e => (hfr _ e).2 rfl) 1 (.int .i64 (S L.length).ex)).set (B := w.heap.size + 1) (fun e => (hfr _ e).2 rfl) 2 (.bool (S L.length).sat)).set (B := w.heap.size + 1) (fun e => (hfr _ e).2 rfl) 3 (.slice ps (S L.length).sh.length cs)
   obtain ⟨uf, hqf⟩ : ∃ zz, zz = ((((wr.setCell ⟨w.heap.size + 1, 0, none⟩ (.slice px (S L.length).X.length cx)).setCell ⟨w.heap.size + 1, 1, none⟩ (.int .i64 (S L.length).ex)).setCell ⟨w.heap.size + 1, 2, none⟩ (.bool (S L.length).sat)).setCell ⟨w.heap.size + 1, 3, none⟩ (.slice ps (S L.length).sh.length cs)) := ⟨_, rfl⟩
   rw [← hqf] at X7 S7
   have Yr : CellsAt uf (w.heap.size + 1) 27 #[.slice px (S L.length).X.length cx, (S L.length).ex, (S L.length).sat, .slice ps (S L.length).sh.length cs] := by rw [hqf]; exact ((((hRr.set 0 (.slice px (S L.length).X.length cx)).set 1 (.int .i64 (S L.length).ex)).set 2 (.bool (S L.length).sat)).set 3 (.slice ps (S L.length).sh.length cs))
   have yz : Gr w uf := by rw [hqf]; exact (((hg.sc _).sc _).sc _).sc _
   rw [← hqf];clear hqf;obtain ⟨cs0, cs1, cs2, cs3⟩ := Yr.t4;refine bodyPost_ret (v := .agg #[.slice px (S L.length).X.length cx, (S L.length).ex, (S L.length).sat, .slice ps (S L.length).sh.length cs]) ?_ rfl ⟨_, _, rfl, X7, S7, yz⟩
   simp [results, Tryz.results18, go_sem, *]
theorem run15_split (v : Value) (xs rs ws ys : List Gi) (fo lo sc mo bits e0 e2 : Int) (iv : Bool) (he : wrap64 (e0 + lo) = e2)
 (HR : Hid (∀ W, CxsAt W v xs → Calls Tryz.prog 45 #[v, .agg #[fo, lo, .int .i64 2, sc, mo, iv]] W fun e w' => ∃ vx, e = .returned (.agg #[vx, e0, false, .slice none 0 0]) ∧ CxsAt w' vx rs ∧ Gr W w'))
 (HT : Hid (∀ W, Calls Tryz.prog 47 #[lo, fo] W fun e w' => ∃ u, e = .returned u ∧ CxsAt w' u ws ∧ Gr W w'))
 (HB : CR 42 #[fo] (.int .i64 bits))
 (HRN : Hid (∀ vx vw W, CxsAt W vx rs → CxsAt W vw ws → Calls Tryz.prog 46 #[vx, vw, bits, mo, iv] W fun e w' => ∃ u, e = .returned u ∧ CxsAt w' u ys ∧ Gr W w'))
 (HPS : Hid (∀ W, Calls Tryz.prog 48 #[.agg #[fo, lo, .int .i64 2, sc, mo, iv]] W fun e w' => ∃ v, e = .returned v ∧ CxsAt w' v [] ∧ Gr W w'))
 (w : World) (hv : CxsAt w v xs) :
 Calls Tryz.prog 18 #[v, .agg #[fo, lo, .int .i64 2, sc, mo, iv]] w fun e w' => ∃ vx, e = .returned (.agg #[vx, e2, false, .slice none 0 0]) ∧ CxsAt w' vx ys ∧ Gr w w' := by
 go_in
 go_wp2_with fail
 refine lc2 fun u0 gu R0 R1 => ?_
 have lp := R0.lt
 have lr := R1.lt
 obtain ⟨cp0, cp1, cp2, cp3, cp4, cp5⟩ := R0.t6
 go_wp2_with fail
 clear cp0 cp1 cp2 cp3 cp4 cp5
 refine (HR.out _ (hv.gr gu)).mono ?_
 rintro e w1 ⟨vx, rfl, hx1, g1⟩
 obtain ⟨px, cx, rfl⟩ := hx1.len
 have ⟨Fp_1, lp_1⟩ := R0.gl g1
 have ⟨Fr_1, lr_1⟩ := R1.gl g1
 have z1 := gu.trans g1
 clear R0 R1 gu g1
 obtain ⟨cp0, cp1, cp2, cp3, cp4, cp5⟩ := Fp_1.t6
 go_wp2_with fail
 clear cp0 cp1 cp2 cp3 cp4 cp5
 obtain ⟨u1, hq1⟩ : ∃ zz, zz = w1.alloc (.cells #[.slice px rs.length cx, e0, false, .slice none 0 0] 27) := ⟨_, rfl⟩
 have Ro : CellsAt u1 w1.heap.size 27 #[.slice px rs.length cx, e0, false, .slice none 0 0] := by rw [hq1]; exact CellsAt.new w1 27 _
 have go1 : Gr w1 u1 := by rw [hq1]; exact (Gr.refl w1).alloc _ _
 have Rp := Fp_1.gr go1
 have Rr := Fr_1.gr go1
 have hx2 := hx1.gr go1
 have yo := z1.trans go1
 rw [← hq1]
 clear hq1
 have hrlt := Fr_1.lt
 have hplt := Fp_1.lt
 have holt := Ro.lt
 have KS := fun W (hG : GB (w1.heap.size) u1 W) => (GB.cellsAt hG Rp (by omega)).t6
 have hclG := gb_closed (w1.heap.size) u1
 try simp only [List.append_eq, List.cons_append, List.nil_append]
 refine wp_region_grow (S := GB (w1.heap.size) u1) rfl (GB.drew (GB.refl _ _)) ?_
 refine gT 0 hclG ?_
 refine gK 2 hclG KS ?_
 refine gK 3 hclG KS ?_
 refine gK 4 hclG KS ?_
 refine gK 5 hclG KS ?_
 refine gK 7 hclG KS ?_
 refine gK 8 hclG KS ?_
 refine gK 10 hclG KS ?_
 refine gK 11 hclG KS ?_
 refine gK 12 hclG KS ?_
 refine gK 13 hclG KS ?_
 refine wpG_ready (rs := [1, 6]) (by kernel_rfl) (by simp) (fun w3 g3 s3 => ?_)
 replace g3 := (Gr.drew (Gr.refl u1)).trans g3
 have O3 := Ro.gr g3
 have P3 := Rp.gr g3
 have R3 := Rr.gr g3
 have X3 := hx2.gr g3
 have y3 := yo.trans g3
 have lo3 := O3.lt
 obtain ⟨co0, co1, co2, co3⟩ := O3.t4
 refine AllG.cons rfl (fun K hK => ?_) (AllG.cons rfl (fun K hK => ?_) AllG.nil)
 ·skip
  go_simp
  clear co0 co1 co2 co3;refine hK.out _ _ ?_ ?_
  ·exact s3
  clear hK K
  try simp only [Act.put, putS]
  refine gR 6 fun w4 g4 s4 K hK => ?_
  go_simp
  refine (HT.out _).mono ?_;rintro e w5 ⟨vw, rfl, hw5, g5⟩;obtain ⟨tp, tc, rfl⟩ := hw5.len;have s5 := GB.gr s4 g5;have g45 := g4.trans g5;have O5 := O3.gr g45;have P5 := P3.gr g45;have R5 := R3.gr g45;have X5 := X3.gr g45;have y5 := y3.trans g45;refine hK.out _ _ ?_ ?_
  ·exact s5
  clear hK K
  try simp only [Act.put, putS]
  refine gC 9 hclG (fun W hS => HB.out W) ?_
  try simp only [Act.put, putS]
  refine gR 14 fun w6 g6 s6 K hK => ?_
  have O6 := O5.gr g6;have P6 := P5.gr g6;have R6 := R5.gr g6;have X6 := X5.gr g6;have y6 := y5.trans g6;have W6 := hw5.gr g6;have lo6 := O6.lt
  go_simp
  refine (HRN.out _ _ _ X6 W6).mono ?_;rintro e w7 ⟨vy, rfl, hy7, g7⟩;obtain ⟨py, cy, rfl⟩ := hy7.len;have s7 := GB.gr s6 g7;have O7 := O6.gr g7;have P7 := P6.gr g7;have R7 := R6.gr g7;have y7 := y6.trans g7;refine hK.out _ _ ?_ ?_
  ·exact s7
  clear hK K
  try simp only [Act.put, putS]
  refine gT 15 hclG ?_;refine gR 16 fun w8 g8 s8 K hK => ?_
  have O8 := O7.gr g8;have P8 := P7.gr g8;have R8 := R7.gr g8;have y8 := y7.trans g8;have hy8 := hy7.gr g8;have lo8 := O8.lt;obtain ⟨mo0, mo1, mo2, mo3⟩ := O8.f4;obtain ⟨co0, co1, co2, co3⟩ := O8.t4
  go_simp
  have apy := CxsAt.apart hy8 O8;have O9 := O8.set 0 (.slice py ys.length cy)
  skip
  clear mo0 mo1 mo2 mo3 co0 co1 co2 co3;refine hK.out _ _ ?_ ?_
  ·exact GB.set s8 _ _
  clear hK K
  try simp only [Act.put, putS]
  refine wpG_done (by kernel_rfl) (fun wa ga => ?_) _
  have Oa : CellsAt wa w1.heap.size 27 #[.slice py ys.length cy, e0, false, .slice none 0 0] := O9.gr ga
  have Pa := (P8.ot).gr ga;have Ra := (R8.ot).gr ga;have Ya := (hy8.set apy 0 (.slice py ys.length cy)).gr ga;have ya := ((y8.setCell (a := ⟨w1.heap.size, 0, none⟩) (by simp only; omega) (.slice py ys.length cy))).trans ga;clear hclG KS;have la := Oa.lt;obtain ⟨mo0, mo1, mo2, mo3⟩ := Oa.f4;obtain ⟨co0, co1, co2, co3⟩ := Oa.t4;obtain ⟨cp0, cp1, cp2, cp3, cp4, cp5⟩ := Pa.t6;go_wp2_with fail
  obtain ⟨wb, hqb⟩ : ∃ zz, zz = wa.setCell ⟨w1.heap.size, 1, none⟩ (.int .i64 e2) := ⟨_, rfl⟩
  have Ob : CellsAt wb w1.heap.size 27 #[.slice py ys.length cy, e2, false, .slice none 0 0] := by rw [hqb]; exact Oa.set 1 (.int .i64 e2)
  skip
  have Rb : CellsAt wb (w.heap.size + 1) 27 #[.slice none 0 0, .int .i64 0, false, .slice none 0 0] := by rw [hqb]; exact Ra.ot
  have apb := CxsAt.apart Ya Oa
  have Yb : CxsAt wb (.slice py ys.length cy) ys := by rw [hqb]; exact Ya.set apb 1 (.int .i64 e2)
  have yb : Gr w wb := by rw [hqb]; exact ya.sc _
  try rw [← hqb]
  clear hqb mo0 mo1 mo2 mo3 co0 co1 co2 co3 cp0 cp1 cp2 cp3 cp4 cp5;refine (HPS.out _).mono ?_;rintro e wc ⟨vp, rfl, hvp, gc⟩;obtain ⟨pp, pcap, rfl⟩ := hvp.len;rw [show ([] : List Gi).length = 0 from rfl];have Oc := Ob.gr gc;have Rc := Rb.gr gc;have Yc := Yb.gr gc;have yc := yb.trans gc;have lc := Oc.lt;have lrc := Rc.lt;obtain ⟨mo0, mo1, mo2, mo3⟩ := Oc.f4;obtain ⟨mr0, mr1, mr2, mr3⟩ := Rc.f4;obtain ⟨co0, co1, co2, co3⟩ := Oc.t4;obtain ⟨cr0, cr1, cr2, cr3⟩ := Rc.t4;go_wp2_with fail
  go_loopw [39] (fun i wr => i = .int .i64 0 ∧ wr = wc) (fun i _ => 0)
  case atStart => exact ⟨rfl, rfl⟩
  case round =>
   obtain ⟨rfl, rfl⟩ := hrel;have apc := CxsAt.apart Yc Rc;go_wp2_with fail;have X7 := (((Yc.set apc 0 (.slice py ys.length cy)).set apc 1 (.int .i64 e2)).set apc 2 (.bool false)).set apc 3 (.slice none 0 0)
   obtain ⟨uf, hqf⟩ : ∃ zz, zz = ((((wr.setCell ⟨w.heap.size + 1, 0, none⟩ (.slice py ys.length cy)).setCell ⟨w.heap.size + 1, 1, none⟩ (.int .i64 e2)).setCell ⟨w.heap.size + 1, 2, none⟩ (.bool false)).setCell ⟨w.heap.size + 1, 3, none⟩ (.slice none 0 0)) := ⟨_, rfl⟩
   rw [← hqf] at X7
   have Yr : CellsAt uf (w.heap.size + 1) 27 #[.slice py ys.length cy, e2, false, .slice none 0 0] := by rw [hqf]; exact ((((Rc.set 0 (.slice py ys.length cy)).set 1 (.int .i64 e2)).set 2 (.bool false)).set 3 (.slice none 0 0))
   have yz : Gr w uf := by rw [hqf]; exact (((yc.sc _).sc _).sc _).sc _
   rw [← hqf];clear hqf;obtain ⟨cs0, cs1, cs2, cs3⟩ := Yr.t4;refine bodyPost_ret (v := .agg #[.slice py ys.length cy, e2, false, .slice none 0 0]) ?_ rfl ⟨_, rfl, X7, yz⟩
   simp [results, Tryz.results18, go_sem, *]
 ·skip
  clear co0 co1 co2 co3
  go_simp
  refine (HT.out _).mono ?_;rintro e w4 ⟨vw, rfl, hw4, g4⟩;obtain ⟨tp, tc, rfl⟩ := hw4.len;have s4 := GB.gr s3 g4;have O4 := O3.gr g4;have P4 := P3.gr g4;have R4 := R3.gr g4;have X4 := X3.gr g4;have y4 := y3.trans g4;refine hK.out _ _ ?_ ?_
  ·exact s4
  clear hK K
  try simp only [Act.put, putS]
  refine gC 9 hclG (fun W hS => HB.out W) ?_
  try simp only [Act.put, putS]
  refine gR 1 fun w5 g5 s5 K hK => ?_
  have O5 := O4.gr g5;have P5 := P4.gr g5;have R5 := R4.gr g5;have X5 := X4.gr g5;have y5 := y4.trans g5;have hw5 := hw4.gr g5;have lo5 := O5.lt;obtain ⟨co0, co1, co2, co3⟩ := O5.t4
  go_simp
  clear co0 co1 co2 co3;refine hK.out _ _ ?_ ?_
  ·exact s5
  clear hK K
  try simp only [Act.put, putS]
  refine gR 14 fun w6 g6 s6 K hK => ?_
  have O6 := O5.gr g6;have P6 := P5.gr g6;have R6 := R5.gr g6;have X6 := X5.gr g6;have y6 := y5.trans g6;have W6 := hw5.gr g6;have lo6 := O6.lt
  go_simp
  refine (HRN.out _ _ _ X6 W6).mono ?_;rintro e w7 ⟨vy, rfl, hy7, g7⟩;obtain ⟨py, cy, rfl⟩ := hy7.len;have s7 := GB.gr s6 g7;have O7 := O6.gr g7;have P7 := P6.gr g7;have R7 := R6.gr g7;have y7 := y6.trans g7;refine hK.out _ _ ?_ ?_
  ·exact s7
  clear hK K
  try simp only [Act.put, putS]
  refine gT 15 hclG ?_;refine gR 16 fun w8 g8 s8 K hK => ?_
  have O8 := O7.gr g8;have P8 := P7.gr g8;have R8 := R7.gr g8;have y8 := y7.trans g8;have hy8 := hy7.gr g8;have lo8 := O8.lt;obtain ⟨mo0, mo1, mo2, mo3⟩ := O8.f4;obtain ⟨co0, co1, co2, co3⟩ := O8.t4
  go_simp
  have apy := CxsAt.apart hy8 O8;have O9 := O8.set 0 (.slice py ys.length cy)
  skip
  clear mo0 mo1 mo2 mo3 co0 co1 co2 co3;refine hK.out _ _ ?_ ?_
  ·exact GB.set s8 _ _
  clear hK K
  try simp only [Act.put, putS]
  refine wpG_done (by kernel_rfl) (fun wa ga => ?_) _
  have Oa : CellsAt wa w1.heap.size 27 #[.slice py ys.length cy, e0, false, .slice none 0 0] := O9.gr ga
  have Pa := (P8.ot).gr ga;have Ra := (R8.ot).gr ga;have Ya := (hy8.set apy 0 (.slice py ys.length cy)).gr ga;have ya := ((y8.setCell (a := ⟨w1.heap.size, 0, none⟩) (by simp only; omega) (.slice py ys.length cy))).trans ga;clear hclG KS;have la := Oa.lt;obtain ⟨mo0, mo1, mo2, mo3⟩ := Oa.f4;obtain ⟨co0, co1, co2, co3⟩ := Oa.t4;obtain ⟨cp0, cp1, cp2, cp3, cp4, cp5⟩ := Pa.t6;go_wp2_with fail
  obtain ⟨wb, hqb⟩ : ∃ zz, zz = wa.setCell ⟨w1.heap.size, 1, none⟩ (.int .i64 e2) := ⟨_, rfl⟩
  have Ob : CellsAt wb w1.heap.size 27 #[.slice py ys.length cy, e2, false, .slice none 0 0] := by rw [hqb]; exact Oa.set 1 (.int .i64 e2)
  skip
  have Rb : CellsAt wb (w.heap.size + 1) 27 #[.slice none 0 0, .int .i64 0, false, .slice none 0 0] := by rw [hqb]; exact Ra.ot
  have apb := CxsAt.apart Ya Oa
  have Yb : CxsAt wb (.slice py ys.length cy) ys := by rw [hqb]; exact Ya.set apb 1 (.int .i64 e2)
  have yb : Gr w wb := by rw [hqb]; exact ya.sc _
  try rw [← hqb]
  clear hqb mo0 mo1 mo2 mo3 co0 co1 co2 co3 cp0 cp1 cp2 cp3 cp4 cp5;refine (HPS.out _).mono ?_;rintro e wc ⟨vp, rfl, hvp, gc⟩;obtain ⟨pp, pcap, rfl⟩ := hvp.len;rw [show ([] : List Gi).length = 0 from rfl];have Oc := Ob.gr gc;have Rc := Rb.gr gc;have Yc := Yb.gr gc;have yc := yb.trans gc;have lc := Oc.lt;have lrc := Rc.lt;obtain ⟨mo0, mo1, mo2, mo3⟩ := Oc.f4;obtain ⟨mr0, mr1, mr2, mr3⟩ := Rc.f4;obtain ⟨co0, co1, co2, co3⟩ := Oc.t4;obtain ⟨cr0, cr1, cr2, cr3⟩ := Rc.t4;go_wp2_with fail
  go_loopw [39] (fun i wr => i = .int .i64 0 ∧ wr = wc) (fun i _ => 0)
  case atStart => exact ⟨rfl, rfl⟩
  case round =>
   obtain ⟨rfl, rfl⟩ := hrel;have apc := CxsAt.apart Yc Rc;go_wp2_with fail;have X7 := (((Yc.set apc 0 (.slice py ys.length cy)).set apc 1 (.int .i64 e2)).set apc 2 (.bool false)).set apc 3 (.slice none 0 0)
   obtain ⟨uf, hqf⟩ : ∃ zz, zz = ((((wr.setCell ⟨w.heap.size + 1, 0, none⟩ (.slice py ys.length cy)).setCell ⟨w.heap.size + 1, 1, none⟩ (.int .i64 e2)).setCell ⟨w.heap.size + 1, 2, none⟩ (.bool false)).setCell ⟨w.heap.size + 1, 3, none⟩ (.slice none 0 0)) := ⟨_, rfl⟩
   rw [← hqf] at X7
   have Yr : CellsAt uf (w.heap.size + 1) 27 #[.slice py ys.length cy, e2, false, .slice none 0 0] := by rw [hqf]; exact ((((Rc.set 0 (.slice py ys.length cy)).set 1 (.int .i64 e2)).set 2 (.bool false)).set 3 (.slice none 0 0))
   have yz : Gr w uf := by rw [hqf]; exact (((yc.sc _).sc _).sc _).sc _
   rw [← hqf];clear hqf;obtain ⟨cs0, cs1, cs2, cs3⟩ := Yr.t4;refine bodyPost_ret (v := .agg #[.slice py ys.length cy, e2, false, .slice none 0 0]) ?_ rfl ⟨_, rfl, X7, yz⟩
   simp [results, Tryz.results18, go_sem, *]
end
section
open Go.ChangeShapes Go.WideShapes Go.ChangeAt Go.RowKit
set_option linter.unusedVariables false
set_option maxRecDepth 100000
set_option maxHeartbeats 16000000
theorem plain09_c (n : Int) (h0 : -9223372036854775807 ≤ n) (h1 : n ≤ 9223372036854775807) (w : World) :
 Calls Tryz.prog 136 #[n] w fun e w' => e = .returned (.int .i64 (absI n)) ∧ w' = w := by
 unfold absI
 by_cases h : n < 0
 ·rw [if_pos h]
  go_in
  go_wp2
  go_ret
  exact ⟨by simp, rfl⟩
 ·rw [if_neg h]
  go_in
  go_wp2
  go_ret
  exact ⟨rfl, rfl⟩
theorem rshift03_c (x y s mo : Int) (wx : -9223372036854775808 ≤ x ∧ x ≤ 9223372036854775807) (wy : -9223372036854775808 ≤ y ∧ y ≤ 9223372036854775807) (s0 : 0 ≤ s) (s1 : s ≤ 62) (m0 : 0 ≤ mo) (m1 : mo ≤ 2) (w : World) :
 CW 85 #[.agg #[x, y], s, mo] w (.agg #[(rnd x s.toNat mo), (rnd y s.toNat mo)]) :=by
 delta CW
 have HX := kh (refShift_c x s mo wx s0 s1 m0 m1)
 have HY := kh (refShift_c y s mo wy s0 s1 m0 m1)
 generalize rnd x s.toNat mo = r0 at HX ⊢
 generalize rnd y s.toNat mo = r1 at HY ⊢
 clear wx wy s0 s1 m0 m1
 go_in
 go_wp2_with fail
 go_region_held3 (fun W => W.cell? ⟨w.heap.size, 0, none⟩ = some (.int .i64 x) ∧ W.cell? ⟨w.heap.size, 1, none⟩ = some (.int .i64 y))
  (go_keep)
  (first | (go_at_call 135; ((with_reducible refine (HX.out _).mono ?_); rintro e w' ⟨rfl, rfl⟩)) | (go_at_call 135; ((with_reducible refine (HY.out _).mono ?_); rintro e w' ⟨rfl, rfl⟩)))
 go_wp2
 refine bodyPost_ret (v := .agg #[r0, r1]) ?_ rfl ⟨rfl, ?_⟩
 ·simp [results, Tryz.results85, go_sem]
 ·exact by repeat (first | exact Gr.refl _ | assumption | apply Gr.drew | apply Gr.alloc | (refine Gr.setCell ?_ (by first | (simp; done) | (simp; omega)) _))
end
section
open Go.ChangeShapes Go.WideShapes Go.ChangeAt Go.RowKit
set_option linter.unusedVariables false
theorem max09_c (v : Value) (xs : List Gi) (hn : allIn 2147483648 xs = true) (w : World) (hv : CxsAt w v xs) :
 CW 89 #[v] w (.int .i64 (maxG xs)) :=by
 delta CW
 by_cases hx : xs = []
 ·subst hx
  obtain ⟨p, cap, rfl⟩ := hv.len;rw [show ([] : List Gi).length = 0 from rfl];clear hv;go_in;go_wp2_with fail;refine wp_loop_rounds 1 ?_;rw [rounds_succ];go_wp2_with fail
  go_ret
  exact ⟨rfl, Gr.refl _⟩
 ·obtain ⟨b, o, cap, rfl, hlen, hb, hc⟩ := hv.at hx
  have HC := kh hc;have HB := kh ((allIn_iff _ _).1 hn)
  have HA : maxG (xs.take xs.length) = maxG xs := by rw [List.take_length]
  have HS := kh fun (k : Nat) (a : Gi) (h : xs[k]? = some a) => (by rw [take_snoc h, maxG_snoc] : maxG (xs.take (k + 1)) = mx (maxG (xs.take k)) a)
  have HT := kh fun (k : Nat) => (maxG_le (xs.take k) 2147483648 (by omega) (fun a ha => HB.out a (List.mem_of_mem_take ha)))
  have HZ := kh fun (k : Nat) => maxG_nonneg (xs.take k)
  clear hc hv hx hn;go_in;go_wp2_with fail
  go_loopw [3, 5, 8] (fun m _ i wr => ∃ k : Nat, k ≤ xs.length ∧ i = .int .i64 k ∧ m = .int .i64 (maxG (xs.take k)) ∧ Gr w wr) (fun _ _ i _ => xs.length - (intOf i).toNat)
  case atStart => exact ⟨0, Nat.zero_le _, rfl, rfl, Gr.refl _⟩
  case round =>
   obtain ⟨k, hk, rfl, rfl, hl⟩ := hrel
   by_cases hlt : k < xs.length
   ·obtain ⟨x, hx⟩ := get_of_lt hlt
    have h1 := (hl.cell (p := ⟨b, o + k * 2, none⟩) hb).trans (HC.out k x hx).1;have h2 := (hl.cell (p := ⟨b, o + k * 2 + 1, none⟩) hb).trans (HC.out k x hx).2
    have hbl : b < wr.heap.size := Nat.lt_of_lt_of_le hb hl.size
    have hbd := HB.out x (List.mem_of_getElem? hx);have hr := absI_bd x.re;have hi := absI_bd x.im;have HR := kh (plain09_c x.re (by omega) (by omega));have HI := kh (plain09_c x.im (by omega) (by omega));have hs := HS.out k x hx;have ht := HT.out k;have hz := HZ.out k;unfold mx at hs;have HQ := kh hs;clear hs hx HC HB HS HT HZ HA hr hi;obtain ⟨re, im⟩ := x
    simp only at h1 h2 HR HI HQ hbd
    generalize absI re = p at *;generalize absI im = q at *;generalize maxG (xs.take k) = m at *
    by_cases c1 : m < p
    ·by_cases c2 : p < q
     ·go_wp2_with (first | (go_at_call 136; with_reducible refine (HR.out _).mono ?_; rintro e wz ⟨rfl, rfl⟩) | (go_at_call 136; with_reducible refine (HI.out _).mono ?_; rintro e wz ⟨rfl, rfl⟩))
      go_roundw
      case rel => exact ⟨k + 1, by omega, by go_num, by rw [HQ.out]; congr 1; omega, hl.alloc _ _⟩
      case measure => simp [intOf]; omega
     ·go_wp2_with (first | (go_at_call 136; with_reducible refine (HR.out _).mono ?_; rintro e wz ⟨rfl, rfl⟩) | (go_at_call 136; with_reducible refine (HI.out _).mono ?_; rintro e wz ⟨rfl, rfl⟩))
      go_roundw
      case rel => exact ⟨k + 1, by omega, by go_num, by rw [HQ.out]; congr 1; omega, hl.alloc _ _⟩
      case measure => simp [intOf]; omega
    ·by_cases c2 : m < q
     ·go_wp2_with (first | (go_at_call 136; with_reducible refine (HR.out _).mono ?_; rintro e wz ⟨rfl, rfl⟩) | (go_at_call 136; with_reducible refine (HI.out _).mono ?_; rintro e wz ⟨rfl, rfl⟩))
      go_roundw
      case rel => exact ⟨k + 1, by omega, by go_num, by rw [HQ.out]; congr 1; omega, hl.alloc _ _⟩
      case measure => simp [intOf]; omega
     ·go_wp2_with (first | (go_at_call 136; with_reducible refine (HR.out _).mono ?_; rintro e wz ⟨rfl, rfl⟩) | (go_at_call 136; with_reducible refine (HI.out _).mono ?_; rintro e wz ⟨rfl, rfl⟩))
      go_roundw
      case rel => exact ⟨k + 1, by omega, by go_num, by rw [HQ.out]; congr 1; omega, hl.alloc _ _⟩
      case measure => simp [intOf]; omega
   ·obtain rfl : k = xs.length := by omega
    have HL := kh HA;clear HA HC HB HS HT HZ;go_wp2_with fail
    go_ret
    exact ⟨by rw [← HL.out]; rfl, hl⟩
theorem room09_c (m f b p : Int) (H : FB f b p) (h0 : 0 ≤ m) (h1 : m ≤ p) (w : World) :
 Calls Tryz.prog 88 #[m, f] w fun e w' => e = .returned (.int .i64 (room p m : Nat)) ∧ w' = w := by
 have HO := kh (rone_c f b p H)
 have hp := H.pos
 have ht : p.tdiv 2 = p / 2 := Int.tdiv_eq_ediv_of_nonneg (by omega)
 have HS := kh (roomTo_succ p m)
 have HZ : roomTo p m 0 = 0 := rfl
 have hr : room p m = roomTo p m 31 := rfl
 rw [hr]
 have HB := kh hp
 clear H hr
 obtain ⟨q, hq⟩ : ∃ q, p / 2 = q := ⟨_, rfl⟩
 rw [hq] at ht
 have hqb : q ≤ 1073741824 := by omega
 have hq0 : 0 ≤ q := by omega
 have HQ := kh hq
 go_in
 go_wp2_with fail
 go_loop [5] (fun i => ∃ k : Nat, k ≤ 31 ∧ i = .int .i64 k ∧ roomTo p m 31 = roomTo p m k) (fun i => (intOf i).toNat)
 case atStart => exact ⟨31, by omega, rfl, rfl⟩
 case round =>
  obtain ⟨k, hk, rfl, he⟩ := hrel;have HE := kh he;clear he
  cases k with
  | zero =>
    rw [HZ] at HE;clear HS HO;go_wp2_with fail
    go_ret
    exact ⟨by rw [HE.out]; rfl, rfl⟩
  | succ j =>
    have HP := kh (pow_c ((j + 1 : Nat) : Int) (by omega) (by omega));have hs := HS.out j
    have hpow : (2 : Int) ^ (j + 1) ≤ 2147483648 := pow_le31 (j + 1) (by omega)
    have hpos : (0 : Int) < 2 ^ (j + 1) := pow_pos2 _
    rw [Int.toNat_natCast] at HP;rw [hq] at hs;have HE2 := kh (HE.out.trans hs);generalize (2 : Int) ^ (j + 1) = P at *;clear HS HE hs hq HZ
    by_cases hm : 0 < m
    ·have hmul : m * P ≤ 4611686018427387904 := by
      have := Int.mul_le_mul (show m ≤ 2147483648 by omega) hpow (by omega) (by omega)
      omega
     have hmul0 : 0 ≤ m * P := Int.mul_nonneg (by omega) (by omega)
     obtain ⟨t, ht2⟩ : ∃ t, m * P = t := ⟨_, rfl⟩
     rw [ht2] at hmul hmul0
     have hw : wrap64 (m * P) = t := by rw [ht2]; exact IntWalk.wrap64_in _ (by omega)
     have HT2 := kh ht2;clear ht2
     by_cases hle : t ≤ q
     ·have HF := kh (HE2.out.trans (if_pos ⟨hm, by rw [HT2.out]; exact hle⟩))
      clear HE2
      go_wp2_with (first | (go_at_call 38; refine (HP.out _).mono ?_; rintro e wz ⟨rfl, rfl⟩) | (go_at_call 39; refine (HO.out _).mono ?_; rintro e wz ⟨rfl, rfl⟩))
      go_ret
      exact ⟨by rw [HF.out]; rfl, rfl⟩
     ·have HF := kh (HE2.out.trans (if_neg (by rw [HT2.out]; exact fun h => hle h.2)))
      clear HE2
      go_wp2_with (first | (go_at_call 38; refine (HP.out _).mono ?_; rintro e wz ⟨rfl, rfl⟩) | (go_at_call 39; refine (HO.out _).mono ?_; rintro e wz ⟨rfl, rfl⟩))
      go_round
      case rel => exact ⟨j, by omega, by go_num, HF.out⟩
      case measure => simp [intOf] <;> omega
    ·have HF := kh (HE2.out.trans (if_neg (fun h => hm h.1)))
     clear HE2;go_wp2_with fail
     go_round
     case rel => exact ⟨j, by omega, by go_num, HF.out⟩
     case measure => simp [intOf] <;> omega
theorem pre09_c (kernel m f b p : Int) (H : FB f b p) (hk : kernel = 2 ∨ kernel = 4) (h0 : 0 ≤ m) (h1 : m ≤ p) (w : World) :
 Calls Tryz.prog 138 #[kernel, m, f] w fun e w' => e = .returned (.int .i64 (preOf kernel p m)) ∧ w' = w := by
 have hp := H.pos
 have HO := kh (rone_c f b p H)
 have e8 : p.tdiv 8 = p / 8 := Int.tdiv_eq_ediv_of_nonneg (by omega)
 have e4 : p.tdiv 4 = p / 4 := Int.tdiv_eq_ediv_of_nonneg (by omega)
 have e2 : p.tdiv 2 = p / 2 := Int.tdiv_eq_ediv_of_nonneg (by omega)
 have d84 : p / 8 ≤ p / 4 ∧ p / 4 ≤ p / 2 ∧ 0 ≤ p / 8 ∧ p / 2 ≤ 1073741824 := by omega
 clear H hp
 have two : ∀ W, Calls Tryz.prog 138 #[.int .i64 2, m, f] W fun e w' => e = .returned (.int .i64 (preOf 2 p m)) ∧ w' = W := by
  intro w
  unfold preOf;rw [if_neg (by omega)];generalize p / 8 = p8 at *;generalize p / 4 = p4 at *;generalize p / 2 = p2 at *
  by_cases c1 : m ≤ p4
  ·rw [if_pos c1]
   go_in
   go_wp2_with (go_at_call 39; refine (HO.out _).mono ?_; rintro e wz ⟨rfl, rfl⟩)
   go_ret
   exact ⟨rfl, rfl⟩
  ·by_cases c2 : m ≤ p2
   ·rw [if_neg c1, if_pos c2]
    go_in
    go_wp2_with (go_at_call 39; refine (HO.out _).mono ?_; rintro e wz ⟨rfl, rfl⟩)
    go_ret
    exact ⟨rfl, rfl⟩
   ·rw [if_neg c1, if_neg c2]
    go_in
    go_wp2_with (go_at_call 39; refine (HO.out _).mono ?_; rintro e wz ⟨rfl, rfl⟩)
    go_ret
    exact ⟨rfl, rfl⟩
 rcases hk with rfl | rfl
 ·exact two w
 ·have HT := kh two
  have hb : 0 ≤ preOf 2 p m ∧ preOf 2 p m ≤ 2 := by unfold preOf; rw [if_neg (by omega)]; split <;> (try split) <;> omega
  have hv : preOf 4 p m = if m ≤ p / 8 then 0 else 1 + preOf 2 p m := by unfold preOf; rw [if_pos rfl, if_neg (show ¬ (2 : Int) = 4 by omega)]
  rw [hv];clear two hv;generalize preOf 2 p m = t at *;generalize p / 8 = p8 at *
  by_cases c : m ≤ p8
  ·rw [if_pos c]
   go_in
   go_wp2_with (go_at_call 39; refine (HO.out _).mono ?_; rintro e wz ⟨rfl, rfl⟩)
   go_ret
   exact ⟨rfl, rfl⟩
  ·rw [if_neg c]
   go_in
   go_wp2_with (first | (go_at_call 39; refine (HO.out _).mono ?_; rintro e wz ⟨rfl, rfl⟩) | (go_at_call 138; refine (HT.out _).mono ?_; rintro e wz ⟨rfl, rfl⟩))
   go_ret
   exact ⟨rfl, rfl⟩
end
section
open Go.ChangeShapes Go.WideShapes Go.ChangeAt Go.RowKit
set_option linter.unusedVariables false
theorem map_take_snoc {α β : Type} (f : α → β) {xs : List α} {k : Nat} {x : α} (h : xs[k]? = some x) : (xs.take (k + 1)).map f = (xs.take k).map f ++ [f x] := by
 rw [take_snoc h, List.map_append]; rfl
set_option maxRecDepth 10000 in set_option maxHeartbeats 4000000 in
theorem shifted09_c (v : Value) (xs : List Gi) (s mo : Int) (s0 : -62 ≤ s) (s1 : s ≤ 62) (m0 : 0 ≤ mo) (m1 : mo ≤ 2) (hb : ∀ a ∈ xs, (Lit.int .i64 a.re).wf = true ∧ (Lit.int .i64 a.im).wf = true)
 (hu : s < 0 → allIn (2 ^ (62 + s).toNat) xs = true) (hlm : xs.length ≤ 1048576) (w : World) (hv : CxsAt w v xs) :
 Calls Tryz.prog 87 #[v, s, mo] w fun e w' => ∃ v', e = .returned v' ∧ CxsAt w' v' (xs.map (shG s mo)) ∧ Gr w w' := by
 obtain ⟨i0, hi, hz0, hz1, hz2⟩ := info_parts info_cx
 by_cases hx : xs = []
 ·subst hx
  obtain ⟨p, cap, rfl⟩ := hv.len;rw [show ([] : List Gi).length = 0 from rfl];clear hv hb hu;go_in;go_wp2_with fail;refine wp_loop_rounds 1 ?_;rw [rounds_succ];go_wp2_with fail
  go_ret
  exact ⟨.slice (some ⟨w.heap.size, 0, none⟩) 0 0, rfl, ⟨_, 0, rfl, Nat.le_refl _, Nat.zero_le _, fun h => absurd rfl h⟩, (Gr.refl _).alloc _ _⟩
 ·obtain ⟨b, o, cap, rfl, hlen, hbb, hc⟩ := hv.at hx
  have HC := kh hc;have HM := kh fun (k : Nat) (a : Gi) (h : xs[k]? = some a) => map_take_snoc (shG s mo) h
  have HT : (xs.take xs.length).map (shG s mo) = xs.map (shG s mo) := by rw [List.take_length]
  have HB := kh hb;have HU := kh hu;have HSH := kh fun (a : Gi) (ha : a ∈ xs) (h : 0 ≤ s) => rshift03_c a.re a.im s mo (bounds_i64 (hb a ha).1) (bounds_i64 (hb a ha).2) h s1 m0 m1
  clear hc hv hx hb hu;go_in;go_wp2_with fail
  have hs0 : ((w.alloc (.cells #[] 50)).ownsRow w.heap.size 50 2 (.slice (some ⟨w.heap.size, 0, none⟩) 0 0) 0 []) := World.ownsRow_made w #[] 0 (Nat.le_refl _) (by unfold maxLen; omega) (by simp)
  go_loopw [7, 9, 10, 14] (fun out _ _ i wr => ∃ j : Nat, j ≤ xs.length ∧ i = .int .i64 j ∧ wr.ownsRow w.heap.size 50 2 out j (gcells ((xs.take j).map (shG s mo))) ∧ Gr w wr)
   (fun _ _ _ i _ => xs.length - (intOf i).toNat)
  case atStart => exact ⟨0, by omega, rfl, hs0, (Gr.refl _).alloc _ _⟩
  case round =>
   clear hs0;obtain ⟨j, hj, rfl, hrow, hg⟩ := hrel
   by_cases hlt : j < xs.length
   ·obtain ⟨x, hx⟩ := get_of_lt hlt
    have h1 := (hg.cell (p := ⟨b, o + j * 2, none⟩) hbb).trans (HC.out j x hx).1;have h2 := (hg.cell (p := ⟨b, o + j * 2 + 1, none⟩) hbb).trans (HC.out j x hx).2
    have hbl : b < wr.heap.size := Nat.lt_of_lt_of_le hbb hg.size
    have hmem := List.mem_of_getElem? hx;have HM1 := kh (HM.out j x hx);have hgs := hg.size
    by_cases hs : 0 ≤ s
    ·have HSH1 := kh (HSH.out x hmem hs)
     have hv : shG s mo x = ⟨rnd x.re s.toNat mo, rnd x.im s.toNat mo⟩ := by unfold shG; rw [if_pos hs]
     rw [hv] at HM1;generalize rnd x.re s.toNat mo = r0 at *;generalize rnd x.im s.toNat mo = r1 at *;obtain ⟨re, im⟩ := x
     simp only at h1 h2 HSH1
     clear hx hmem HC HM HT HB HU HSH hv;go_wp2_with fail;refine (HSH1.out _).mono ?_;rintro e w2 ⟨rfl, hg2⟩;have hrow2 := ownsRow_gr (hrow.alloc (.cells #[re, im] 50)) hg2;have hg3 := (hg.alloc #[re, im] 50).trans hg2;have hsz := hg3.size;clear hrow hg hg2 HSH1
     go_wp2_with (at_builtin; refine wpList_append_own_at _ rfl (.tmp 20) (.tmp 25) 25 rfl w.heap.size 50 i0 (.agg #[.int .i64 0, .int .i64 0]) 2 16 Tryz.underlying25 hi hz0 hz1 hz2 rfl (by decide) _ _ _ rfl (hrow2.alloc _) ⟨w2.heap.size, 0, none⟩ 1 1 [.int .i64 r0, .int .i64 r1] rfl rfl (news_two _ _ _ _) (by simp [Value.oneCell']) (by unfold maxLen; omega) (by omega) (by simp; omega) ?_; intro v' w3 hown' hgrow _ hblk)
     have e : gcells ((xs.take j).map (shG s mo)) ++ [.int .i64 r0, .int .i64 r1] = gcells ((xs.take (j + 1)).map (shG s mo)) := by
      rw [HM1.out, gcells_snoc]
     rw [e] at hown';have hg4 := (hg3.allocO _).grown hgrow (fun k e => (hrow2.lt k e).1)
     go_roundw
     case rel => exact ⟨j + 1, by omega, by go_num, hown', hg4⟩
     case measure => simp [intOf] <;> omega
    ·have HP := kh (pow_c (-s) (by omega) (by omega))
     have hin := (allIn_iff _ _).1 (HU.out (by omega)) x hmem
     have hv : shG s mo x = ⟨x.re * 2 ^ (-s).toNat, x.im * 2 ^ (-s).toNat⟩ := by unfold shG; rw [if_neg hs]
     rw [hv] at HM1
     have hpp : (2 : Int) ^ (62 + s).toNat * 2 ^ (-s).toNat = 4611686018427387904 := by
      rw [← Int.pow_add, show (62 + s).toNat + (-s).toNat = 62 by omega]; rfl
     have hl0 := pow_pos2 (62 + s).toNat;have hp0 := pow_pos2 (-s).toNat;generalize (2 : Int) ^ (62 + s).toNat = l at *;generalize (2 : Int) ^ (-s).toNat = P at *;obtain ⟨re, im⟩ := x
     simp only at h1 h2 hin HM1
     have hre := absI_le.1 hin.1;have him := absI_le.1 hin.2
     have b1 : re * P ≤ l * P := Int.mul_le_mul_of_nonneg_right hre.2 (by omega)
     have b2 : -l * P ≤ re * P := Int.mul_le_mul_of_nonneg_right hre.1 (by omega)
     have b3 : im * P ≤ l * P := Int.mul_le_mul_of_nonneg_right him.2 (by omega)
     have b4 : -l * P ≤ im * P := Int.mul_le_mul_of_nonneg_right him.1 (by omega)
     rw [Int.neg_mul] at b2 b4;rw [hpp] at b1 b2 b3 b4
     obtain ⟨r0, hr0⟩ : ∃ r0, re * P = r0 := ⟨_, rfl⟩
     obtain ⟨r1, hr1⟩ : ∃ r1, im * P = r1 := ⟨_, rfl⟩
     rw [hr0, hr1] at HM1;rw [hr0] at b1 b2;rw [hr1] at b3 b4
     have hw0 : wrap64 (re * P) = r0 := by rw [hr0]; exact IntWalk.wrap64_in _ (by omega)
     have hw1 : wrap64 (im * P) = r1 := by rw [hr1]; exact IntWalk.wrap64_in _ (by omega)
     clear hx hmem HC HM HT HB HU HSH hv hpp hl0 hp0 hr0 hr1 b1 b2 b3 b4 hin hre him;have hrow2 := hrow.alloc (.cells #[re, im] 50);have hg3 := (hg.alloc #[re, im] 50);have hsz := hg3.size;clear hrow hg
     go_wp2_with (first
      | (go_at_call 38; refine (HP.out _).mono ?_; rintro e wz ⟨rfl, rfl⟩)
      | (at_builtin; refine wpList_append_own_at _ rfl (.tmp 30) (.tmp 40) 25 rfl w.heap.size 50 i0 (.agg #[.int .i64 0, .int .i64 0]) 2 16 Tryz.underlying25 hi hz0 hz1 hz2 rfl (by decide) _ _ _ rfl (hrow2.alloc _) ⟨wr.heap.size + 1, 0, none⟩ 1 1 [.int .i64 r0, .int .i64 r1] rfl rfl (by have := news_two (wr.alloc (.cells #[re, im] 50)) (.int .i64 r0) (.int .i64 r1) 50; rwa [World.size_alloc] at this) (by simp [Value.oneCell']) (by unfold maxLen; omega) (by omega) (by simp; omega) ?_; intro v' w3 hown' hgrow _ hblk))
     have e : gcells ((xs.take j).map (shG s mo)) ++ [.int .i64 r0, .int .i64 r1] = gcells ((xs.take (j + 1)).map (shG s mo)) := by
      rw [HM1.out, gcells_snoc]
     rw [e] at hown';have hg4 := (hg3.allocO _).grown hgrow (fun k e => (hrow2.lt k e).1)
     go_roundw
     case rel => exact ⟨j + 1, by omega, by go_num, hown', hg4⟩
     case measure => simp [intOf] <;> omega
   ·obtain rfl : j = xs.length := by omega
    have HL := kh HT;clear HT HC HM HB HU HSH;go_wp2_with fail
    go_ret
    refine ⟨_, rfl, ?_, hg⟩
    have := CxsAt.of_row hrow
    rw [HL.out] at this
    exact this
end
end Go.Proofs.YtdignnmpfkgkoaaGreat
