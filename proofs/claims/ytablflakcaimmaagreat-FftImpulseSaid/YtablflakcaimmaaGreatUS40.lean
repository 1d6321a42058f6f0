import Derived.Test.YtablflakcaimmaaGreatUS32
namespace Go.Proofs.YtablflakcaimmaaGreat
section
open Go.ChangeShapes Go.WideShapes Go.ChangeAt Go.RowKit
set_option linter.unusedVariables false
set_option linter.unusedSimpArgs false
set_option maxRecDepth 100000
set_option maxHeartbeats 2000000 in
theorem within15_c (v : Value) (xs : List Gi) (fo : Int) (HC : Hid (∀ a ∈ xs, (∀ W, Calls Tryz.prog 52 #[.int .i64 a.re, .int .i64 fo] W fun e w' => e = .returned (.tuple #[.int .i64 a.re, .bool false, .int .i64 0]) ∧ Gr W w') ∧ (∀ W, Calls Tryz.prog 52 #[.int .i64 a.im, .int .i64 fo] W fun e w' => e = .returned (.tuple #[.int .i64 a.im, .bool false, .int .i64 0]) ∧ Gr W w'))) (w : World) (hv : CxsAt w v xs) : Calls Tryz.prog 21 #[v, .int .i64 fo] w fun e w' => e = .returned (.bool true) ∧ Gr w w' := by
 obtain ⟨sp, scap, rfl⟩ := hv.len
 go_enter Tryz.func21, Tryz.ntmps21
 go_wp2_with fail
 go_loopw [15] (fun i wr => ∃ k : Nat, k ≤ xs.length ∧ i = .int .i64 k ∧ Gr w wr) (fun i _ => xs.length - (intOf i).toNat)
 case atStart => exact ⟨0, Nat.zero_le _, rfl, Gr.refl _⟩
 case round =>
  obtain ⟨k, hk, rfl, hg⟩ := hrel
  by_cases hlt : k < xs.length
  ·obtain ⟨x, hx⟩ := get_of_lt hlt
   obtain ⟨b, oo, cap', hsl, hln, hb, hc⟩ := hv.at (by intro e; rw [e] at hlt; simp at hlt)
   cases hsl
   have h1 := (hg.cell (p := ⟨b, oo + k * 2, none⟩) hb).trans (hc k x hx).1
   have h2 := (hg.cell (p := ⟨b, oo + k * 2 + 1, none⟩) hb).trans (hc k x hx).2
   have hlI : (k : Int) < (xs.length : Int) := by omega
   have hln2 : (xs.length : Int) ≤ 9223372036854775807 := by omega
   obtain ⟨HA, HB⟩ := HC.out x (List.mem_of_getElem? hx)
   have HA := Lib.hid HA
   have HB := Lib.hid HB
   obtain ⟨re, im⟩ := x
   simp only at h1 h2 HA HB
   clear hc hx
   go_wp2_with fail
   refine (HA.out _).mono ?_
   rintro e w2 ⟨rfl, g2⟩
   have X2 := (CellsAt.new wr 55 #[.int .i64 re, .int .i64 im]).gr g2
   have c1 := X2.cell 1
   simp only [getS] at c1
   have lx := X2.lt
   have z2 := (hg.alloc #[.int .i64 re, .int .i64 im] 55).trans g2
   clear h1 h2 X2 g2
   go_wp2_with fail
   refine (HB.out _).mono ?_
   rintro e w3 ⟨rfl, g3⟩
   have z3 := z2.trans g3
   clear c1 lx z2 g3
   go_wp2_with fail
   go_roundw
   case rel => exact ⟨k + 1, by omega, by go_num, z3⟩
   case measure => simp [intOf]; omega
  ·obtain rfl : k = xs.length := by omega
   have hlI : ¬ (xs.length : Int) < (xs.length : Int) := by omega
   go_wp2_with fail
   go_ret
   exact ⟨rfl, hg⟩
set_option maxHeartbeats 2000000 in
theorem holds15_no (p : Option Addr) (l1 cap1 m1 : Nat) (fo lo ke sc mo : Int) (iv : Bool) (xs : List Gi) (hm1 : m1 ≤ cap1) (hmin1 : (if (70 : Int) < (l1 : Int) then 70 else (l1 : Int)) = (m1 : Int)) (y : Int) (hy : (y == 0) = false) (HP : Hid (∀ W, CxsAt W (.slice p m1 cap1) xs → Calls Tryz.prog 9 #[.slice p m1 cap1, .agg #[.int .i64 fo, .int .i64 lo, .int .i64 ke, .int .i64 sc, .int .i64 mo, .bool iv]] W fun e w' => e = .returned (.tuple #[.agg #[.slice none 0 0, .int .i64 0, .bool false, .slice none 0 0], .int .i64 y]) ∧ Gr W w')) (AL : CR 11 #[] (.bool true)) (w : World) (hx : CxsAt w (.slice p m1 cap1) xs) :
 Calls Tryz.prog 6 #[.slice p l1 cap1, .agg #[.int .i64 fo, .int .i64 lo, .int .i64 ke, .int .i64 sc, .int .i64 mo, .bool iv]] w fun e w' => e = .returned (.bool true) ∧ Gr w w' := by
 have hcut1 := run_cut_cx p l1 cap1 m1 hm1
 have VX := Lib.hid hx
 clear hx
 go_enter Tryz.func6, Tryz.ntmps6
 go_wp2_with fail
 obtain ⟨u0, hU⟩ : ∃ uu, uu = (w.alloc (.cells #[.int .i64 fo, .int .i64 lo, .int .i64 ke, .int .i64 sc, .int .i64 mo, .bool iv] 24)) := ⟨_, rfl⟩
 have ⟨gu, R0⟩ := lay1 hU
 rw [← hU]
 clear hU
 have lp := R0.lt
 obtain ⟨cp0, cp1, cp2, cp3, cp4, cp5⟩ := R0.t6
 go_wp2_with fail
 clear cp0 cp1 cp2 cp3 cp4 cp5
 refine (HP.out _ (VX.out.gr gu)).mono ?_
 rintro e w1 ⟨rfl, g1⟩
 have ⟨Fp_1, lp_1⟩ := CellsAt.gl (R0) g1
 have z1 := (gu).trans g1
 clear R0 gu g1
 go_wp2_with fail
 refine (AL.out _).mono ?_
 rintro e w3 ⟨rfl, g3⟩
 have Bc := (CellsAt.new w1 27 #[.slice none 0 0, .int .i64 0, .bool false, .slice none 0 0]).gr g3
 have cb0 := Bc.cell 0
 simp only [getS] at cb0
 have lb := Bc.lt
 go_wp2_with fail
 go_ret
 exact ⟨by first | rfl | (simp; done), ((z1).alloc _ _).trans g3⟩
set_option maxHeartbeats 8000000 in
theorem holds15_yes (p : Option Addr) (l1 cap1 m1 : Nat) (fo lo ke sc mo : Int) (iv : Bool) (xs : List Gi) (hm1 : m1 ≤ cap1) (hmin1 : (if (70 : Int) < (l1 : Int) then 70 else (l1 : Int)) = (m1 : Int)) (b : BV) (S : Nat → BV) (Ls : List Gi) (m n bits q5 : Int) (hLs : Ls.length ≤ 7) (HS0 : Hid ((S 0).sh = [])) (hsc2 : (sc == 2) = false) (hsat : ∀ j, (S j).sat = false) (hke : ke ≠ 2 → S Ls.length = b) (HQ5 : Hid ((bits = 15 ∧ q5 = 1024) ∨ (bits = 31 ∧ q5 = 67108864))) (hfin : sc = 1 → (n = 0 ∧ b.ex = 0) ∨ (0 < n ∧ q5 ≤ m)) (HZ : Hid ((n = 0 ∧ m = 0) ∨ n ≠ 0))
 (HP : Hid (∀ W, CxsAt W (.slice p m1 cap1) xs → Calls Tryz.prog 9 #[.slice p m1 cap1, .agg #[.int .i64 fo, .int .i64 lo, .int .i64 ke, .int .i64 sc, .int .i64 mo, .bool iv]] W fun e w' => ∃ vx vs, e = .returned (.tuple #[.agg #[vx, .int .i64 b.ex, .bool b.sat, vs], .int .i64 0]) ∧ CxsAt w' vx b.X ∧ NumsAt w' vs b.sh ∧ Gr W w'))
 (HRD : Hid (∀ W, CxsAt W (.slice p m1 cap1) xs → Calls Tryz.prog 14 #[.slice p m1 cap1, .agg #[.int .i64 fo, .int .i64 lo, .int .i64 ke, .int .i64 sc, .int .i64 mo, .bool iv]] W fun e w' => ∃ vx vs, e = .returned (.tuple #[.agg #[vx, .int .i64 (S 0).ex, .bool (S 0).sat, vs], .int .i64 0]) ∧ CxsAt w' vx (S 0).X ∧ NumsAt w' vs (S 0).sh ∧ Gr W w'))
 (HPS : Hid (∀ W, Calls Tryz.prog 20 #[.agg #[.int .i64 fo, .int .i64 lo, .int .i64 ke, .int .i64 sc, .int .i64 mo, .bool iv]] W fun e w' => ∃ v, e = .returned (.tuple #[v, .int .i64 0]) ∧ CxsAt w' v Ls ∧ Gr W w'))
 (HWI : Hid (∀ j, j ≤ Ls.length → ∀ v W, CxsAt W v (S j).X → Calls Tryz.prog 21 #[v, .int .i64 fo] W fun e w' => e = .returned (.bool true) ∧ Gr W w'))
 (HN : Hid (∀ (j : Nat) q, Ls[j]? = some q → ∀ vx vs W, CxsAt W vx (S j).X → NumsAt W vs (S j).sh → Calls Tryz.prog 16 #[.agg #[vx, .int .i64 (S j).ex, .bool (S j).sat, vs], .agg #[.int .i64 fo, .int .i64 lo, .int .i64 ke, .int .i64 sc, .int .i64 mo, .bool iv], .int .i64 (j : Nat)] W fun e w' => ∃ vx vs, e = .returned (.tuple #[.agg #[vx, .int .i64 (S (j + 1)).ex, .bool (S (j + 1)).sat, vs], .int .i64 0]) ∧ CxsAt w' vx (S (j + 1)).X ∧ NumsAt w' vs (S (j + 1)).sh ∧ Gr W w' ∧ ∀ B, vs.ownBlock = some B → W.heap.size ≤ B))
 (HMX : Hid (∀ v W, CxsAt W v b.X → Calls Tryz.prog 22 #[v] W fun e w' => e = .returned (.tuple #[.int .i64 m, .int .i64 0]) ∧ Gr W w'))
 (HBT : CR 23 #[.int .i64 fo] (.tuple #[.int .i64 bits, .int .i64 0]))
 (HMN : Hid (∀ W, CxsAt W (.slice p m1 cap1) xs → Calls Tryz.prog 22 #[.slice p m1 cap1] W fun e w' => e = .returned (.tuple #[.int .i64 n, .int .i64 0]) ∧ Gr W w'))
 (HWW : Hid (∀ v W, CxsAt W v b.X → Calls Tryz.prog 21 #[v, .int .i64 fo] W fun e w' => e = .returned (.bool true) ∧ Gr W w')) (AL : CR 11 #[] (.bool true)) (w : World) (hx : CxsAt w (.slice p m1 cap1) xs) :
 Calls Tryz.prog 6 #[.slice p l1 cap1, .agg #[.int .i64 fo, .int .i64 lo, .int .i64 ke, .int .i64 sc, .int .i64 mo, .bool iv]] w fun e w' => e = .returned (.bool true) ∧ Gr w w' := by
 have hcut1 := run_cut_cx p l1 cap1 m1 hm1
 have VX := Lib.hid hx
 clear hx
 go_enter Tryz.func6, Tryz.ntmps6
 go_wp2_with fail
 obtain ⟨u0, hU⟩ : ∃ uu, uu = (w.alloc (.cells #[.int .i64 fo, .int .i64 lo, .int .i64 ke, .int .i64 sc, .int .i64 mo, .bool iv] 24)) := ⟨_, rfl⟩
 have ⟨gu, R0⟩ := lay1 hU
 rw [← hU]
 clear hU
 have lp := R0.lt
 obtain ⟨cp0, cp1, cp2, cp3, cp4, cp5⟩ := R0.t6
 go_wp2_with fail
 clear cp0 cp1 cp2 cp3 cp4 cp5
 obtain ⟨X, ex, sat, sh⟩ := b
 simp only at HP HMX HWW hke hfin
 have HKE := Lib.hid hke
 clear hke
 have hsc3 : ¬ sc = 2 := by simpa using hsc2
 have HFIN := Lib.hid hfin
 have HSAT := Lib.hid hsat
 clear hfin hsat
 refine (HP.out _ (VX.out.gr gu)).mono ?_
 rintro e w1 ⟨vx, vs, rfl, hx1, hs1, g1⟩
 obtain ⟨xp, xc, rfl⟩ := hx1.len
 obtain ⟨tp, tl, rfl⟩ := hs1.len
 have ⟨Fp_1, lp_1⟩ := CellsAt.gl (R0) g1
 have z1 := (gu).trans g1
 clear R0 gu g1
 obtain ⟨cp0, cp1, cp2, cp3, cp4, cp5⟩ := Fp_1.t6
 go_wp2_with fail
 clear cp0 cp1 cp2 cp3 cp4 cp5
 replace hx1 := hx1.gr ((Gr.refl w1).alloc #[.slice xp X.length xc, .int .i64 ex, .bool sat, .slice tp sh.length tl] 27)
 replace hs1 := hs1.gr ((Gr.refl w1).alloc #[.slice xp X.length xc, .int .i64 ex, .bool sat, .slice tp sh.length tl] 27)
 obtain ⟨u2, hqu2⟩ : ∃ zz, zz = (w1.alloc (.cells #[.slice xp X.length xc, .int .i64 ex, .bool sat, .slice tp sh.length tl] 27)) := ⟨_, rfl⟩
 rw [← hqu2] at hx1 hs1
 have Ypu2 : CellsAt u2 (w.heap.size) 24 #[.int .i64 fo, .int .i64 lo, .int .i64 ke, .int .i64 sc, .int .i64 mo, .bool iv] := by rw [hqu2]; first | exact (Fp_1).alloc _ | simpa using (Fp_1).alloc _
 have Ycu2 : CellsAt u2 (w1.heap.size) 27 #[.slice xp X.length xc, .int .i64 ex, .bool sat, .slice tp sh.length tl] := by rw [hqu2]; first | exact CellsAt.new w1 27 #[.slice xp X.length xc, .int .i64 ex, .bool sat, .slice tp sh.length tl] | simpa using CellsAt.new w1 27 #[.slice xp X.length xc, .int .i64 ex, .bool sat, .slice tp sh.length tl]
 have yu2 : Gr w u2 := by rw [hqu2]; exact (z1).alloc _ _
 rw [← hqu2]
 clear hqu2
 refine (HRD.out _ (VX.out.gr yu2)).mono ?_
 rintro e w2 ⟨vb, vt, rfl, hb2, ht2, g2⟩
 obtain ⟨bp, bc, rfl⟩ := hb2.len
 obtain ⟨up, ul, rfl⟩ := ht2.len
 replace hx1 := hx1.gr g2
 replace hs1 := hs1.gr g2
 have ⟨Fp_2, lp_2⟩ := CellsAt.gl (Ypu2) g2
 have ⟨Fc_2, lc_2⟩ := CellsAt.gl (Ycu2) g2
 have z2 := (yu2).trans g2
 clear Ypu2 Ycu2 yu2 g2
 obtain ⟨cp0, cp1, cp2, cp3, cp4, cp5⟩ := Fp_2.t6
 go_wp2_with fail
 clear cp0 cp1 cp2 cp3 cp4 cp5
 have HFW0 : sh ≠ [] → (Value.slice tp sh.length tl).ownBlock ≠ some w2.heap.size := by
  intro h e
  obtain ⟨b, oo, cap, hv, _, hb, _⟩ := hs1.at h
  rw [hv] at e
  have := Option.some.inj e
  simp only at this
  omega
 replace hx1 := hx1.gr ((Gr.refl w2).alloc #[.slice bp (S 0).X.length bc, .int .i64 (S 0).ex, .bool (S 0).sat, .slice up (S 0).sh.length ul] 27)
 replace hs1 := hs1.gr ((Gr.refl w2).alloc #[.slice bp (S 0).X.length bc, .int .i64 (S 0).ex, .bool (S 0).sat, .slice up (S 0).sh.length ul] 27)
 replace hb2 := hb2.gr ((Gr.refl w2).alloc #[.slice bp (S 0).X.length bc, .int .i64 (S 0).ex, .bool (S 0).sat, .slice up (S 0).sh.length ul] 27)
 replace ht2 := ht2.gr ((Gr.refl w2).alloc #[.slice bp (S 0).X.length bc, .int .i64 (S 0).ex, .bool (S 0).sat, .slice up (S 0).sh.length ul] 27)
 have HFW : Hid (sh ≠ [] → (Value.slice tp sh.length tl).ownBlock ≠ some w2.heap.size) := Lib.hid HFW0
 obtain ⟨u3, hqu3⟩ : ∃ zz, zz = (w2.alloc (.cells #[.slice bp (S 0).X.length bc, .int .i64 (S 0).ex, .bool (S 0).sat, .slice up (S 0).sh.length ul] 27)) := ⟨_, rfl⟩
 rw [← hqu3] at hx1 hs1 hb2 ht2
 have Ypu3 : CellsAt u3 (w.heap.size) 24 #[.int .i64 fo, .int .i64 lo, .int .i64 ke, .int .i64 sc, .int .i64 mo, .bool iv] := by rw [hqu3]; first | exact (Fp_2).alloc _ | simpa using (Fp_2).alloc _
 have Ycu3 : CellsAt u3 (w1.heap.size) 27 #[.slice xp X.length xc, .int .i64 ex, .bool sat, .slice tp sh.length tl] := by rw [hqu3]; first | exact (Fc_2).alloc _ | simpa using (Fc_2).alloc _
 have Ydu3 : CellsAt u3 (w2.heap.size) 27 #[.slice bp (S 0).X.length bc, .int .i64 (S 0).ex, .bool (S 0).sat, .slice up (S 0).sh.length ul] := by rw [hqu3]; first | exact CellsAt.new w2 27 #[.slice bp (S 0).X.length bc, .int .i64 (S 0).ex, .bool (S 0).sat, .slice up (S 0).sh.length ul] | simpa using CellsAt.new w2 27 #[.slice bp (S 0).X.length bc, .int .i64 (S 0).ex, .bool (S 0).sat, .slice up (S 0).sh.length ul]
 have yu3 : Gr w u3 := by rw [hqu3]; exact (z2).alloc _ _
 rw [← hqu3]
 clear hqu3
 refine (HPS.out _).mono ?_
 rintro e w3 ⟨vp, rfl, hp3, g3⟩
 obtain ⟨pp, pcap, rfl⟩ := hp3.len
 replace hx1 := hx1.gr g3
 replace hs1 := hs1.gr g3
 replace hb2 := hb2.gr g3
 replace ht2 := ht2.gr g3
 have ⟨Fp_3, lp_3⟩ := CellsAt.gl (Ypu3) g3
 have ⟨Fc_3, lc_3⟩ := CellsAt.gl (Ycu3) g3
 have ⟨Fd_3, ld_3⟩ := CellsAt.gl (Ydu3) g3
 have z3 := (yu3).trans g3
 clear Ypu3 Ycu3 Ydu3 yu3 g3
 obtain ⟨cp0, cp1, cp2, cp3, cp4, cp5⟩ := Fp_3.t6
 obtain ⟨cd0, cd1, cd2, cd3⟩ := Fd_3.t4
 go_wp2_with fail
 clear cp0 cp1 cp2 cp3 cp4 cp5 cd0 cd1 cd2 cd3
 refine (HWI.out 0 (Nat.zero_le _) _ _ hb2).mono ?_
 rintro e w4 ⟨rfl, g4⟩
 replace hx1 := hx1.gr g4
 replace hs1 := hs1.gr g4
 replace hb2 := hb2.gr g4
 replace ht2 := ht2.gr g4
 replace hp3 := hp3.gr g4
 have ⟨Fp_4, lp_4⟩ := CellsAt.gl (Fp_3) g4
 have ⟨Fc_4, lc_4⟩ := CellsAt.gl (Fc_3) g4
 have ⟨Fd_4, ld_4⟩ := CellsAt.gl (Fd_3) g4
 have z4 := (z3).trans g4
 clear Fp_3 Fc_3 Fd_3 z3 g4
 go_wp2_with fail
 refine (AL.out _).mono ?_
 rintro e w5 ⟨rfl, g5⟩
 replace hx1 := hx1.gr g5
 replace hs1 := hs1.gr g5
 replace hb2 := hb2.gr g5
 replace ht2 := ht2.gr g5
 replace hp3 := hp3.gr g5
 have ⟨Fp_5, lp_5⟩ := CellsAt.gl (Fp_4) g5
 have ⟨Fc_5, lc_5⟩ := CellsAt.gl (Fc_4) g5
 have ⟨Fd_5, ld_5⟩ := CellsAt.gl (Fd_4) g5
 have z5 := (z4).trans g5
 clear Fp_4 Fc_4 Fd_4 z4 g5
 go_wp2_with fail
 go_loopw [71] (fun i wr => ∃ (j : Nat) (bp up : Option Addr) (bc ul : Nat), j ≤ Ls.length ∧ i = .int .i64 j ∧ CellsAt wr (w2.heap.size) 27 #[.slice bp (S j).X.length bc, .int .i64 (S j).ex, .bool (S j).sat, .slice up (S j).sh.length ul] ∧ CxsAt wr (.slice bp (S j).X.length bc) (S j).X ∧ NumsAt wr (.slice up (S j).sh.length ul) (S j).sh ∧ ((S j).sh ≠ [] → (Value.slice up (S j).sh.length ul).ownBlock ≠ some (w2.heap.size)) ∧ CellsAt wr (w.heap.size) 24 #[.int .i64 fo, .int .i64 lo, .int .i64 ke, .int .i64 sc, .int .i64 mo, .bool iv] ∧ CellsAt wr (w1.heap.size) 27 #[.slice xp X.length xc, .int .i64 ex, .bool sat, .slice tp sh.length tl] ∧ CxsAt wr (.slice xp X.length xc) X ∧ NumsAt wr (.slice tp sh.length tl) sh ∧ CxsAt wr (.slice pp Ls.length pcap) Ls ∧ Gr w wr ∧ w5.heap.size ≤ wr.heap.size)
  (fun i _ => Ls.length - (intOf i).toNat)
 case atStart => exact ⟨0, bp, up, bc, ul, Nat.zero_le _, rfl, Fd_5, hb2, ht2, fun h => absurd HS0.out h, Fp_5, Fc_5, hx1, hs1, hp3, z5, Nat.le_refl _⟩
 case round =>
  have hsw := CellsAt.lt (Fd_5)
  have hswc := CellsAt.lt (Fc_5)
  clear hx1 hs1 hb2 ht2 hp3 Fd_5 Fp_5 Fc_5 z5
  obtain ⟨j, bp, up, bc, ul, hj, rfl, hD, hX, hS, hfr, hP, hC, hx1, hs1, hL, hg, hsz⟩ := hrel
  by_cases hlt : j < Ls.length
  ·skip
   obtain ⟨q, hq⟩ := get_of_lt hlt
   have hlI : (j : Int) < (Ls.length : Int) := by omega
   have hl7 : (Ls.length : Int) ≤ 7 := by omega
   have HNX := Lib.hid fun vx vs W => HN.out j q hq vx vs W
   have HWX := Lib.hid fun v W => HWI.out (j + 1) (by omega) v W
   have hst := HSAT.out (j + 1)
   clear hq
   generalize hS1 : S (j + 1) = T at HNX HWX hst
   have HS1 := Lib.hid hS1
   clear hS1
   obtain ⟨X', ex', sat', sh'⟩ := T
   generalize hS2 : S j = T at hD hX hS hfr HNX
   have HS2 := Lib.hid hS2
   clear hS2
   obtain ⟨X2, ex2, sat2, sh2⟩ := T
   simp only at hD hX hS hfr HNX HWX hst
   subst hst
   have lD := hD.lt
   have lP := hP.lt
   have lC := hC.lt
   have cd0 := CellsAt.cell hD 0
   have cd1 := CellsAt.cell hD 1
   have cd2 := CellsAt.cell hD 2
   have cd3 := CellsAt.cell hD 3
   have cp0 := CellsAt.cell hP 0
   have cp1 := CellsAt.cell hP 1
   have cp2 := CellsAt.cell hP 2
   have cp3 := CellsAt.cell hP 3
   have cp4 := CellsAt.cell hP 4
   have cp5 := CellsAt.cell hP 5
   simp only [getS] at cd0 cd1 cd2 cd3 cp0 cp1 cp2 cp3 cp4 cp5
   go_wp2_with fail
   clear cd0 cd1 cd2 cd3 cp0 cp1 cp2 cp3 cp4 cp5
   refine (HNX.out _ _ _ hX hS).mono ?_
   rintro e w6 ⟨vx, vs, rfl, hx6, hs6, g6, hf6⟩
   obtain ⟨np, nc, rfl⟩ := hx6.len
   obtain ⟨mp, mc, rfl⟩ := hs6.len
   try simp only at hx6 hs6 hf6
   replace hD := hD.gr g6
   replace hP := hP.gr g6
   replace hC := hC.gr g6
   replace hx1 := hx1.gr g6
   replace hs1 := hs1.gr g6
   replace hL := hL.gr g6
   replace hg := hg.trans g6
   have hsz6 := g6.size
   clear g6 hX hS hfr lD lP lC
   have qp0 := CellsAt.cell hP 0
   have qp1 := CellsAt.cell hP 1
   have qp2 := CellsAt.cell hP 2
   have qp3 := CellsAt.cell hP 3
   have qp4 := CellsAt.cell hP 4
   have qp5 := CellsAt.cell hP 5
   simp only [getS] at qp0 qp1 qp2 qp3 qp4 qp5
   have lP := hP.lt
   have lD := hD.lt
   have lC := hC.lt
   go_wp2_with fail
   have ga : Gr w6 (w6.alloc (.cells #[.slice np X'.length nc, .int .i64 ex', .bool false, .slice mp sh'.length mc] 27)) := (Gr.refl w6).alloc _ _
   refine (HWX.out _ _ (hx6.gr ga)).mono ?_
   rintro e w8 ⟨rfl, g8⟩
   have gb := ga.trans g8
   have E8 := (CellsAt.new w6 27 #[.slice np X'.length nc, .int .i64 ex', .bool false, .slice mp sh'.length mc]).gr g8
   have hs7 : (w6.alloc (.cells #[.slice np X'.length nc, .int .i64 ex', .bool false, .slice mp sh'.length mc] 27)).heap.size = w6.heap.size + 1 := by simp
   have hs8 := g8.size
   replace hD := hD.gr gb
   replace hP := hP.gr gb
   replace hC := hC.gr gb
   replace hx1 := hx1.gr gb
   replace hs1 := hs1.gr gb
   replace hL := hL.gr gb
   replace hx6 := hx6.gr gb
   replace hs6 := hs6.gr gb
   replace hg := hg.trans gb
   clear g8 ga gb qp0 qp1 qp2 qp3 qp4 qp5 lP lD lC
   have lE := E8.lt
   have lP := hP.lt
   have lD := hD.lt
   have lC := hC.lt
   have ce0 := CellsAt.cell E8 0
   have ce1 := CellsAt.cell E8 1
   have ce2 := CellsAt.cell E8 2
   have ce3 := CellsAt.cell E8 3
   have cp0 := CellsAt.cell hP 0
   have cp1 := CellsAt.cell hP 1
   have cp2 := CellsAt.cell hP 2
   have cp3 := CellsAt.cell hP 3
   have cp4 := CellsAt.cell hP 4
   have cp5 := CellsAt.cell hP 5
   have cd0 := CellsAt.cell hD 0
   have md0 := CellsAt.frozen hD 0
   have cd1 := CellsAt.cell hD 1
   have md1 := CellsAt.frozen hD 1
   have cd2 := CellsAt.cell hD 2
   have md2 := CellsAt.frozen hD 2
   have cd3 := CellsAt.cell hD 3
   have md3 := CellsAt.frozen hD 3
   simp only [getS] at ce0 ce1 ce2 ce3 cp0 cp1 cp2 cp3 cp4 cp5 cd0 cd1 cd2 cd3
   go_wp2_with fail
   have apx := CxsAt.apart hx6 hD
   have apw := CxsAt.apart hx1 hD
   have apl := CxsAt.apart hL hD
   have X9 := ((((hx6.set apx 0 (.slice np X'.length nc)).set apx 1 (.int .i64 ex')).set apx 2 (.bool false)).set apx 3 (.slice mp sh'.length mc))
   have W9 := ((((hx1.set apw 0 (.slice np X'.length nc)).set apw 1 (.int .i64 ex')).set apw 2 (.bool false)).set apw 3 (.slice mp sh'.length mc))
   have L9 := ((((hL.set apl 0 (.slice np X'.length nc)).set apl 1 (.int .i64 ex')).set apl 2 (.bool false)).set apl 3 (.slice mp sh'.length mc))
   have S9 := ((((hs6.setN (B := w2.heap.size) (fun h e => by have := hf6 _ e; omega) 0 (.slice np X'.length nc)).setN (B := w2.heap.size) (fun h e => by have := hf6 _ e; omega) 1 (.int .i64 ex')).setN (B := w2.heap.size) (fun h e => by have := hf6 _ e; omega) 2 (.bool false)).setN (B := w2.heap.size) (fun h e => by have := hf6 _ e; omega) 3 (.slice mp sh'.length mc))
   have T9 := ((((hs1.setN (B := w2.heap.size) (HFW.out) 0 (.slice np X'.length nc)).setN (B := w2.heap.size) (HFW.out) 1 (.int .i64 ex')).setN (B := w2.heap.size) (HFW.out) 2 (.bool false)).setN (B := w2.heap.size) (HFW.out) 3 (.slice mp sh'.length mc))
   have D9 : CellsAt _ (w2.heap.size) 27 #[.slice np X'.length nc, .int .i64 ex', .bool false, .slice mp sh'.length mc] := ((((hD.set 0 (.slice np X'.length nc)).set 1 (.int .i64 ex')).set 2 (.bool false)).set 3 (.slice mp sh'.length mc))
   go_roundw
   case rel =>
    refine ⟨j + 1, np, mp, nc, mc, by omega, by go_num, ?_, ?_, ?_, ?_, ?_, ?_, ?_, ?_, ?_, ?_, ?_⟩
    all_goals (try rw [HS1.out])
    ·exact D9
    ·exact X9
    ·exact S9
    ·exact fun h e => by have := hf6 _ e; omega
    ·exact ((((hP.other (by omega) _ _).other (by omega) _ _).other (by omega) _ _).other (by omega) _ _)
    ·exact ((((hC.other (by omega) _ _).other (by omega) _ _).other (by omega) _ _).other (by omega) _ _)
    ·exact W9
    ·exact T9
    ·exact L9
    ·exact (((hg.setCell (by simp only; omega) _).setCell (by simp only; omega) _).setCell (by simp only; omega) _).setCell (by simp only; omega) _
    ·simp; omega
   case measure => simp [intOf]; omega
  ·skip
   obtain rfl : j = Ls.length := by omega
   have hlI : ¬ (Ls.length : Int) < (Ls.length : Int) := by omega
   generalize hS5 : S Ls.length = T at hD hX hS
   have HS5 := Lib.hid hS5
   clear hS5 hfr
   obtain ⟨X5, ex5, sat5, sh5⟩ := T
   simp only at hD hX hS
   have lP := hP.lt
   have lD := hD.lt
   have lC := hC.lt
   have cc0 := CellsAt.cell hC 0
   have cc1 := CellsAt.cell hC 1
   have cc2 := CellsAt.cell hC 2
   have cc3 := CellsAt.cell hC 3
   have cp0 := CellsAt.cell hP 0
   have cp1 := CellsAt.cell hP 1
   have cp2 := CellsAt.cell hP 2
   have cp3 := CellsAt.cell hP 3
   have cp4 := CellsAt.cell hP 4
   have cp5 := CellsAt.cell hP 5
   simp only [getS] at cc0 cc1 cc2 cc3 cp0 cp1 cp2 cp3 cp4 cp5
   go_wp2_with fail
   refine (HMX.out _ _ hx1).mono ?_
   rintro e wa ⟨rfl, ga⟩
   replace hD := hD.gr ga
   replace hP := hP.gr ga
   replace hC := hC.gr ga
   replace hX := hX.gr ga
   replace hS := hS.gr ga
   replace hx1 := hx1.gr ga
   replace hs1 := hs1.gr ga
   replace hg := hg.trans ga
   clear cc0 cc1 cc2 cc3 cp0 cp1 cp2 cp3 cp4 cp5
   replace lP := hP.lt
   replace lD := hD.lt
   replace lC := hC.lt
   have cc0 := CellsAt.cell hC 0
   have cc1 := CellsAt.cell hC 1
   have cc2 := CellsAt.cell hC 2
   have cc3 := CellsAt.cell hC 3
   have cp0 := CellsAt.cell hP 0
   have cp1 := CellsAt.cell hP 1
   have cp2 := CellsAt.cell hP 2
   have cp3 := CellsAt.cell hP 3
   have cp4 := CellsAt.cell hP 4
   have cp5 := CellsAt.cell hP 5
   simp only [getS] at cc0 cc1 cc2 cc3 cp0 cp1 cp2 cp3 cp4 cp5
   go_wp2_with fail
   refine (HBT.out _).mono ?_
   rintro e wb ⟨rfl, gb⟩
   replace hD := hD.gr gb
   replace hP := hP.gr gb
   replace hC := hC.gr gb
   replace hX := hX.gr gb
   replace hS := hS.gr gb
   replace hx1 := hx1.gr gb
   replace hs1 := hs1.gr gb
   replace hg := hg.trans gb
   clear cc0 cc1 cc2 cc3 cp0 cp1 cp2 cp3 cp4 cp5
   replace lP := hP.lt
   replace lD := hD.lt
   replace lC := hC.lt
   have cc0 := CellsAt.cell hC 0
   have cc1 := CellsAt.cell hC 1
   have cc2 := CellsAt.cell hC 2
   have cc3 := CellsAt.cell hC 3
   have cp0 := CellsAt.cell hP 0
   have cp1 := CellsAt.cell hP 1
   have cp2 := CellsAt.cell hP 2
   have cp3 := CellsAt.cell hP 3
   have cp4 := CellsAt.cell hP 4
   have cp5 := CellsAt.cell hP 5
   simp only [getS] at cc0 cc1 cc2 cc3 cp0 cp1 cp2 cp3 cp4 cp5
   go_wp2_with fail
   refine (HMN.out _ (VX.out.gr hg)).mono ?_
   rintro e wc ⟨rfl, gc⟩
   replace hD := hD.gr gc
   replace hP := hP.gr gc
   replace hC := hC.gr gc
   replace hX := hX.gr gc
   replace hS := hS.gr gc
   replace hx1 := hx1.gr gc
   replace hs1 := hs1.gr gc
   replace hg := hg.trans gc
   clear cc0 cc1 cc2 cc3 cp0 cp1 cp2 cp3 cp4 cp5
   replace lP := hP.lt
   replace lD := hD.lt
   replace lC := hC.lt
   have cc0 := CellsAt.cell hC 0
   have cc1 := CellsAt.cell hC 1
   have cc2 := CellsAt.cell hC 2
   have cc3 := CellsAt.cell hC 3
   have cp0 := CellsAt.cell hP 0
   have cp1 := CellsAt.cell hP 1
   have cp2 := CellsAt.cell hP 2
   have cp3 := CellsAt.cell hP 3
   have cp4 := CellsAt.cell hP 4
   have cp5 := CellsAt.cell hP 5
   simp only [getS] at cc0 cc1 cc2 cc3 cp0 cp1 cp2 cp3 cp4 cp5
   go_wp2_with fail
   refine (HWW.out _ _ hx1).mono ?_
   rintro e wd ⟨rfl, gd⟩
   replace hD := hD.gr gd
   replace hP := hP.gr gd
   replace hC := hC.gr gd
   replace hX := hX.gr gd
   replace hS := hS.gr gd
   replace hx1 := hx1.gr gd
   replace hs1 := hs1.gr gd
   replace hg := hg.trans gd
   clear cc0 cc1 cc2 cc3 cp0 cp1 cp2 cp3 cp4 cp5
   replace lP := hP.lt
   replace lD := hD.lt
   replace lC := hC.lt
   have cc0 := CellsAt.cell hC 0
   have cc1 := CellsAt.cell hC 1
   have cc2 := CellsAt.cell hC 2
   have cc3 := CellsAt.cell hC 3
   have cp0 := CellsAt.cell hP 0
   have cp1 := CellsAt.cell hP 1
   have cp2 := CellsAt.cell hP 2
   have cp3 := CellsAt.cell hP 3
   have cp4 := CellsAt.cell hP 4
   have cp5 := CellsAt.cell hP 5
   simp only [getS] at cc0 cc1 cc2 cc3 cp0 cp1 cp2 cp3 cp4 cp5
   have cd0 := CellsAt.cell hD 0
   have cd1 := CellsAt.cell hD 1
   have cd2 := CellsAt.cell hD 2
   have cd3 := CellsAt.cell hD 3
   simp only [getS] at cd0 cd1 cd2 cd3
   rcases HZ.out with ⟨rfl, rfl⟩ | hn0
   ·skip
    by_cases hke2 : ke = 2
    ·subst hke2
     by_cases hs1c : sc = 1
     ·have HF2 := HFIN.out hs1c
      subst hs1c
      clear HFIN
      rcases HF2 with ⟨_, rfl⟩ | ⟨h0, _⟩
      ·go_wp2_with fail
       go_ret
       exact ⟨by first | rfl | (simp; done), hg⟩
      ·exact absurd h0 (by decide)
     ·have hs1d : (sc == 1) = false := by simp [hs1c]
      go_wp2_with fail
      go_ret
      exact ⟨by first | rfl | (simp; done), hg⟩
    ·have hke3 : (ke == 2) = false := by simp [hke2]
     have hS6 := (HKE.out hke2).symm
     rw [HS5.out] at hS6
     obtain ⟨rfl, rfl, rfl, rfl⟩ := BV.mk.inj hS6
     clear hS6
     go_wp2_with fail
     refine (same15_c _ _ _ _ ex sat X sh _ hX hS hx1 hs1).mono ?_
     rintro e we ⟨rfl, ge⟩
     replace hP := hP.gr ge
     replace hC := hC.gr ge
     replace hg := hg.trans ge
     clear cc0 cc1 cc2 cc3 cp0 cp1 cp2 cp3 cp4 cp5 cd0 cd1 cd2 cd3
     replace lP := hP.lt
     replace lC := hC.lt
     have cc0 := CellsAt.cell hC 0
     have cc1 := CellsAt.cell hC 1
     have cc2 := CellsAt.cell hC 2
     have cc3 := CellsAt.cell hC 3
     have cp0 := CellsAt.cell hP 0
     have cp1 := CellsAt.cell hP 1
     have cp2 := CellsAt.cell hP 2
     have cp3 := CellsAt.cell hP 3
     have cp4 := CellsAt.cell hP 4
     have cp5 := CellsAt.cell hP 5
     simp only [getS] at cc0 cc1 cc2 cc3 cp0 cp1 cp2 cp3 cp4 cp5
     by_cases hs1c : sc = 1
     ·have HF2 := HFIN.out hs1c
      subst hs1c
      clear HFIN
      rcases HF2 with ⟨_, rfl⟩ | ⟨h0, _⟩
      ·go_wp2_with fail
       go_ret
       exact ⟨by first | rfl | (simp; done), hg⟩
      ·exact absurd h0 (by decide)
     ·have hs1d : (sc == 1) = false := by simp [hs1c]
      go_wp2_with fail
      go_ret
      exact ⟨by first | rfl | (simp; done), hg⟩
   ·have hz1 : (n == 0) = false := by simp [hn0]
    by_cases hke2 : ke = 2
    ·subst hke2
     by_cases hs1c : sc = 1
     ·have HF2 := HFIN.out hs1c
      subst hs1c
      clear HFIN
      rcases HF2 with ⟨h0, _⟩ | ⟨h0, h1⟩
      ·exact absurd h0 hn0
      ·have h0m : decide (0 < n) = true := by simp; omega
       rcases HQ5.out with ⟨rfl, rfl⟩ | ⟨rfl, rfl⟩
       all_goals
        have h8 := h1
        go_wp2_with fail
        go_ret
        exact ⟨by first | rfl | (simp; done) | (simp; omega), hg⟩
     ·have hs1d : (sc == 1) = false := by simp [hs1c]
      go_wp2_with fail
      go_ret
      exact ⟨by first | rfl | (simp; done), hg⟩
    ·have hke3 : (ke == 2) = false := by simp [hke2]
     have hS6 := (HKE.out hke2).symm
     rw [HS5.out] at hS6
     obtain ⟨rfl, rfl, rfl, rfl⟩ := BV.mk.inj hS6
     clear hS6
     go_wp2_with fail
     refine (same15_c _ _ _ _ ex sat X sh _ hX hS hx1 hs1).mono ?_
     rintro e we ⟨rfl, ge⟩
     replace hP := hP.gr ge
     replace hC := hC.gr ge
     replace hg := hg.trans ge
     clear cc0 cc1 cc2 cc3 cp0 cp1 cp2 cp3 cp4 cp5 cd0 cd1 cd2 cd3
     replace lP := hP.lt
     replace lC := hC.lt
     have cc0 := CellsAt.cell hC 0
     have cc1 := CellsAt.cell hC 1
     have cc2 := CellsAt.cell hC 2
     have cc3 := CellsAt.cell hC 3
     have cp0 := CellsAt.cell hP 0
     have cp1 := CellsAt.cell hP 1
     have cp2 := CellsAt.cell hP 2
     have cp3 := CellsAt.cell hP 3
     have cp4 := CellsAt.cell hP 4
     have cp5 := CellsAt.cell hP 5
     simp only [getS] at cc0 cc1 cc2 cc3 cp0 cp1 cp2 cp3 cp4 cp5
     by_cases hs1c : sc = 1
     ·have HF2 := HFIN.out hs1c
      subst hs1c
      clear HFIN
      rcases HF2 with ⟨h0, _⟩ | ⟨h0, h1⟩
      ·exact absurd h0 hn0
      ·have h0m : decide (0 < n) = true := by simp; omega
       rcases HQ5.out with ⟨rfl, rfl⟩ | ⟨rfl, rfl⟩
       all_goals
        have h8 := h1
        go_wp2_with fail
        go_ret
        exact ⟨by first | rfl | (simp; done) | (simp; omega), hg⟩
     ·have hs1d : (sc == 1) = false := by simp [hs1c]
      go_wp2_with fail
      go_ret
      exact ⟨by first | rfl | (simp; done), hg⟩
set_option maxHeartbeats 8000000 in
theorem holds15_none (p : Option Addr) (l1 cap1 m1 : Nat) (fo lo ke mo : Int) (iv : Bool) (xs : List Gi) (hm1 : m1 ≤ cap1) (hmin1 : (if (70 : Int) < (l1 : Int) then 70 else (l1 : Int)) = (m1 : Int)) (b : BV) (S : Nat → BV) (Ls : List Gi) (m n bits q5 : Int) (hLs : Ls.length ≤ 7) (HS0 : Hid ((S 0).sh = []))  (hke : ke ≠ 2 → S Ls.length = b) (HQ5 : Hid ((bits = 15 ∧ q5 = 1024) ∨ (bits = 31 ∧ q5 = 67108864)))  (HZ : Hid ((n = 0 ∧ m = 0) ∨ n ≠ 0))
 (HP : Hid (∀ W, CxsAt W (.slice p m1 cap1) xs → Calls Tryz.prog 9 #[.slice p m1 cap1, .agg #[.int .i64 fo, .int .i64 lo, .int .i64 ke, .int .i64 2, .int .i64 mo, .bool iv]] W fun e w' => ∃ vx vs, e = .returned (.tuple #[.agg #[vx, .int .i64 b.ex, .bool b.sat, vs], .int .i64 0]) ∧ CxsAt w' vx b.X ∧ NumsAt w' vs b.sh ∧ Gr W w'))
 (HRD : Hid (∀ W, CxsAt W (.slice p m1 cap1) xs → Calls Tryz.prog 14 #[.slice p m1 cap1, .agg #[.int .i64 fo, .int .i64 lo, .int .i64 ke, .int .i64 2, .int .i64 mo, .bool iv]] W fun e w' => ∃ vx vs, e = .returned (.tuple #[.agg #[vx, .int .i64 (S 0).ex, .bool (S 0).sat, vs], .int .i64 0]) ∧ CxsAt w' vx (S 0).X ∧ NumsAt w' vs (S 0).sh ∧ Gr W w'))
 (HPS : Hid (∀ W, Calls Tryz.prog 20 #[.agg #[.int .i64 fo, .int .i64 lo, .int .i64 ke, .int .i64 2, .int .i64 mo, .bool iv]] W fun e w' => ∃ v, e = .returned (.tuple #[v, .int .i64 0]) ∧ CxsAt w' v Ls ∧ Gr W w'))
 (HWI : Hid (∀ j, j ≤ Ls.length → ∀ v W, CxsAt W v (S j).X → Calls Tryz.prog 21 #[v, .int .i64 fo] W fun e w' => e = .returned (.bool true) ∧ Gr W w'))
 (HN : Hid (∀ (j : Nat) q, Ls[j]? = some q → ∀ vx vs W, CxsAt W vx (S j).X → NumsAt W vs (S j).sh → Calls Tryz.prog 16 #[.agg #[vx, .int .i64 (S j).ex, .bool (S j).sat, vs], .agg #[.int .i64 fo, .int .i64 lo, .int .i64 ke, .int .i64 2, .int .i64 mo, .bool iv], .int .i64 (j : Nat)] W fun e w' => ∃ vx vs, e = .returned (.tuple #[.agg #[vx, .int .i64 (S (j + 1)).ex, .bool (S (j + 1)).sat, vs], .int .i64 0]) ∧ CxsAt w' vx (S (j + 1)).X ∧ NumsAt w' vs (S (j + 1)).sh ∧ Gr W w' ∧ ∀ B, vs.ownBlock = some B → W.heap.size ≤ B))
 (HMX : Hid (∀ v W, CxsAt W v b.X → Calls Tryz.prog 22 #[v] W fun e w' => e = .returned (.tuple #[.int .i64 m, .int .i64 0]) ∧ Gr W w'))
 (HBT : CR 23 #[.int .i64 fo] (.tuple #[.int .i64 bits, .int .i64 0]))
 (HMN : Hid (∀ W, CxsAt W (.slice p m1 cap1) xs → Calls Tryz.prog 22 #[.slice p m1 cap1] W fun e w' => e = .returned (.tuple #[.int .i64 n, .int .i64 0]) ∧ Gr W w'))
 (HWW : Hid (∀ v W, CxsAt W v b.X → Calls Tryz.prog 21 #[v, .int .i64 fo] W fun e w' => e = .returned (.bool true) ∧ Gr W w')) (AL : CR 11 #[] (.bool true)) (w : World) (hx : CxsAt w (.slice p m1 cap1) xs) :
 Calls Tryz.prog 6 #[.slice p l1 cap1, .agg #[.int .i64 fo, .int .i64 lo, .int .i64 ke, .int .i64 2, .int .i64 mo, .bool iv]] w fun e w' => e = .returned (.bool true) ∧ Gr w w' := by
 have hcut1 := run_cut_cx p l1 cap1 m1 hm1
 have VX := Lib.hid hx
 clear hx
 go_enter Tryz.func6, Tryz.ntmps6
 go_wp2_with fail
 obtain ⟨u0, hU⟩ : ∃ uu, uu = (w.alloc (.cells #[.int .i64 fo, .int .i64 lo, .int .i64 ke, .int .i64 2, .int .i64 mo, .bool iv] 24)) := ⟨_, rfl⟩
 have ⟨gu, R0⟩ := lay1 hU
 rw [← hU]
 clear hU
 have lp := R0.lt
 obtain ⟨cp0, cp1, cp2, cp3, cp4, cp5⟩ := R0.t6
 go_wp2_with fail
 clear cp0 cp1 cp2 cp3 cp4 cp5
 obtain ⟨X, ex, sat, sh⟩ := b
 simp only at HP HMX HWW hke
 have HKE := Lib.hid hke
 clear hke
 refine (HP.out _ (VX.out.gr gu)).mono ?_
 rintro e w1 ⟨vx, vs, rfl, hx1, hs1, g1⟩
 obtain ⟨xp, xc, rfl⟩ := hx1.len
 obtain ⟨tp, tl, rfl⟩ := hs1.len
 have ⟨Fp_1, lp_1⟩ := CellsAt.gl (R0) g1
 have z1 := (gu).trans g1
 clear R0 gu g1
 obtain ⟨cp0, cp1, cp2, cp3, cp4, cp5⟩ := Fp_1.t6
 go_wp2_with fail
 clear cp0 cp1 cp2 cp3 cp4 cp5
 replace hx1 := hx1.gr ((Gr.refl w1).alloc #[.slice xp X.length xc, .int .i64 ex, .bool sat, .slice tp sh.length tl] 27)
 replace hs1 := hs1.gr ((Gr.refl w1).alloc #[.slice xp X.length xc, .int .i64 ex, .bool sat, .slice tp sh.length tl] 27)
 obtain ⟨u2, hqu2⟩ : ∃ zz, zz = (w1.alloc (.cells #[.slice xp X.length xc, .int .i64 ex, .bool sat, .slice tp sh.length tl] 27)) := ⟨_, rfl⟩
 rw [← hqu2] at hx1 hs1
 have Ypu2 : CellsAt u2 (w.heap.size) 24 #[.int .i64 fo, .int .i64 lo, .int .i64 ke, .int .i64 2, .int .i64 mo, .bool iv] := by rw [hqu2]; first | exact (Fp_1).alloc _ | simpa using (Fp_1).alloc _
 have Ycu2 : CellsAt u2 (w1.heap.size) 27 #[.slice xp X.length xc, .int .i64 ex, .bool sat, .slice tp sh.length tl] := by rw [hqu2]; first | exact CellsAt.new w1 27 #[.slice xp X.length xc, .int .i64 ex, .bool sat, .slice tp sh.length tl] | simpa using CellsAt.new w1 27 #[.slice xp X.length xc, .int .i64 ex, .bool sat, .slice tp sh.length tl]
 have yu2 : Gr w u2 := by rw [hqu2]; exact (z1).alloc _ _
 rw [← hqu2]
 clear hqu2
 refine (HRD.out _ (VX.out.gr yu2)).mono ?_
 rintro e w2 ⟨vb, vt, rfl, hb2, ht2, g2⟩
 obtain ⟨bp, bc, rfl⟩ := hb2.len
 obtain ⟨up, ul, rfl⟩ := ht2.len
 replace hx1 := hx1.gr g2
 replace hs1 := hs1.gr g2
 have ⟨Fp_2, lp_2⟩ := CellsAt.gl (Ypu2) g2
 have ⟨Fc_2, lc_2⟩ := CellsAt.gl (Ycu2) g2
 have z2 := (yu2).trans g2
 clear Ypu2 Ycu2 yu2 g2
 obtain ⟨cp0, cp1, cp2, cp3, cp4, cp5⟩ := Fp_2.t6
 go_wp2_with fail
 clear cp0 cp1 cp2 cp3 cp4 cp5
 have HFW0 : sh ≠ [] → (Value.slice tp sh.length tl).ownBlock ≠ some w2.heap.size := by
  intro h e
  obtain ⟨b, oo, cap, hv, _, hb, _⟩ := hs1.at h
  rw [hv] at e
  have := Option.some.inj e
  simp only at this
  omega
 replace hx1 := hx1.gr ((Gr.refl w2).alloc #[.slice bp (S 0).X.length bc, .int .i64 (S 0).ex, .bool (S 0).sat, .slice up (S 0).sh.length ul] 27)
 replace hs1 := hs1.gr ((Gr.refl w2).alloc #[.slice bp (S 0).X.length bc, .int .i64 (S 0).ex, .bool (S 0).sat, .slice up (S 0).sh.length ul] 27)
 replace hb2 := hb2.gr ((Gr.refl w2).alloc #[.slice bp (S 0).X.length bc, .int .i64 (S 0).ex, .bool (S 0).sat, .slice up (S 0).sh.length ul] 27)
 replace ht2 := ht2.gr ((Gr.refl w2).alloc #[.slice bp (S 0).X.length bc, .int .i64 (S 0).ex, .bool (S 0).sat, .slice up (S 0).sh.length ul] 27)
 have HFW : Hid (sh ≠ [] → (Value.slice tp sh.length tl).ownBlock ≠ some w2.heap.size) := Lib.hid HFW0
 obtain ⟨u3, hqu3⟩ : ∃ zz, zz = (w2.alloc (.cells #[.slice bp (S 0).X.length bc, .int .i64 (S 0).ex, .bool (S 0).sat, .slice up (S 0).sh.length ul] 27)) := ⟨_, rfl⟩
 rw [← hqu3] at hx1 hs1 hb2 ht2
 have Ypu3 : CellsAt u3 (w.heap.size) 24 #[.int .i64 fo, .int .i64 lo, .int .i64 ke, .int .i64 2, .int .i64 mo, .bool iv] := by rw [hqu3]; first | exact (Fp_2).alloc _ | simpa using (Fp_2).alloc _
 have Ycu3 : CellsAt u3 (w1.heap.size) 27 #[.slice xp X.length xc, .int .i64 ex, .bool sat, .slice tp sh.length tl] := by rw [hqu3]; first | exact (Fc_2).alloc _ | simpa using (Fc_2).alloc _
 have Ydu3 : CellsAt u3 (w2.heap.size) 27 #[.slice bp (S 0).X.length bc, .int .i64 (S 0).ex, .bool (S 0).sat, .slice up (S 0).sh.length ul] := by rw [hqu3]; first | exact CellsAt.new w2 27 #[.slice bp (S 0).X.length bc, .int .i64 (S 0).ex, .bool (S 0).sat, .slice up (S 0).sh.length ul] | simpa using CellsAt.new w2 27 #[.slice bp (S 0).X.length bc, .int .i64 (S 0).ex, .bool (S 0).sat, .slice up (S 0).sh.length ul]
 have yu3 : Gr w u3 := by rw [hqu3]; exact (z2).alloc _ _
 rw [← hqu3]
 clear hqu3
 refine (HPS.out _).mono ?_
 rintro e w3 ⟨vp, rfl, hp3, g3⟩
 obtain ⟨pp, pcap, rfl⟩ := hp3.len
 replace hx1 := hx1.gr g3
 replace hs1 := hs1.gr g3
 replace hb2 := hb2.gr g3
 replace ht2 := ht2.gr g3
 have ⟨Fp_3, lp_3⟩ := CellsAt.gl (Ypu3) g3
 have ⟨Fc_3, lc_3⟩ := CellsAt.gl (Ycu3) g3
 have ⟨Fd_3, ld_3⟩ := CellsAt.gl (Ydu3) g3
 have z3 := (yu3).trans g3
 clear Ypu3 Ycu3 Ydu3 yu3 g3
 obtain ⟨cp0, cp1, cp2, cp3, cp4, cp5⟩ := Fp_3.t6
 obtain ⟨cd0, cd1, cd2, cd3⟩ := Fd_3.t4
 go_wp2_with fail
 clear cp0 cp1 cp2 cp3 cp4 cp5 cd0 cd1 cd2 cd3
 refine (HWI.out 0 (Nat.zero_le _) _ _ hb2).mono ?_
 rintro e w4 ⟨rfl, g4⟩
 replace hx1 := hx1.gr g4
 replace hs1 := hs1.gr g4
 replace hb2 := hb2.gr g4
 replace ht2 := ht2.gr g4
 replace hp3 := hp3.gr g4
 have ⟨Fp_4, lp_4⟩ := CellsAt.gl (Fp_3) g4
 have ⟨Fc_4, lc_4⟩ := CellsAt.gl (Fc_3) g4
 have ⟨Fd_4, ld_4⟩ := CellsAt.gl (Fd_3) g4
 have z4 := (z3).trans g4
 clear Fp_3 Fc_3 Fd_3 z3 g4
 go_wp2_with fail
 refine (AL.out _).mono ?_
 rintro e w5 ⟨rfl, g5⟩
 replace hx1 := hx1.gr g5
 replace hs1 := hs1.gr g5
 replace hb2 := hb2.gr g5
 replace ht2 := ht2.gr g5
 replace hp3 := hp3.gr g5
 have ⟨Fp_5, lp_5⟩ := CellsAt.gl (Fp_4) g5
 have ⟨Fc_5, lc_5⟩ := CellsAt.gl (Fc_4) g5
 have ⟨Fd_5, ld_5⟩ := CellsAt.gl (Fd_4) g5
 have z5 := (z4).trans g5
 clear Fp_4 Fc_4 Fd_4 z4 g5
 go_wp2_with fail
 go_loopw [71] (fun i wr => ∃ (j : Nat) (bp up : Option Addr) (bc ul : Nat), j ≤ Ls.length ∧ i = .int .i64 j ∧ CellsAt wr (w2.heap.size) 27 #[.slice bp (S j).X.length bc, .int .i64 (S j).ex, .bool (S j).sat, .slice up (S j).sh.length ul] ∧ CxsAt wr (.slice bp (S j).X.length bc) (S j).X ∧ NumsAt wr (.slice up (S j).sh.length ul) (S j).sh ∧ ((S j).sh ≠ [] → (Value.slice up (S j).sh.length ul).ownBlock ≠ some (w2.heap.size)) ∧ CellsAt wr (w.heap.size) 24 #[.int .i64 fo, .int .i64 lo, .int .i64 ke, .int .i64 2, .int .i64 mo, .bool iv] ∧ CellsAt wr (w1.heap.size) 27 #[.slice xp X.length xc, .int .i64 ex, .bool sat, .slice tp sh.length tl] ∧ CxsAt wr (.slice xp X.length xc) X ∧ NumsAt wr (.slice tp sh.length tl) sh ∧ CxsAt wr (.slice pp Ls.length pcap) Ls ∧ Gr w wr ∧ w5.heap.size ≤ wr.heap.size)
  (fun i _ => Ls.length - (intOf i).toNat)
 case atStart => exact ⟨0, bp, up, bc, ul, Nat.zero_le _, rfl, Fd_5, hb2, ht2, fun h => absurd HS0.out h, Fp_5, Fc_5, hx1, hs1, hp3, z5, Nat.le_refl _⟩
 case round =>
  have hsw := CellsAt.lt (Fd_5)
  have hswc := CellsAt.lt (Fc_5)
  clear hx1 hs1 hb2 ht2 hp3 Fd_5 Fp_5 Fc_5 z5
  obtain ⟨j, bp, up, bc, ul, hj, rfl, hD, hX, hS, hfr, hP, hC, hx1, hs1, hL, hg, hsz⟩ := hrel
  by_cases hlt : j < Ls.length
  ·skip
   obtain ⟨q, hq⟩ := get_of_lt hlt
   have hlI : (j : Int) < (Ls.length : Int) := by omega
   have hl7 : (Ls.length : Int) ≤ 7 := by omega
   have HNX := Lib.hid fun vx vs W => HN.out j q hq vx vs W
   have HWX := Lib.hid fun v W => HWI.out (j + 1) (by omega) v W
   clear hq
   generalize hS1 : S (j + 1) = T at HNX HWX
   have HS1 := Lib.hid hS1
   clear hS1
   obtain ⟨X', ex', sat', sh'⟩ := T
   generalize hS2 : S j = T at hD hX hS hfr HNX
   have HS2 := Lib.hid hS2
   clear hS2
   obtain ⟨X2, ex2, sat2, sh2⟩ := T
   simp only at hD hX hS hfr HNX HWX
   have lD := hD.lt
   have lP := hP.lt
   have lC := hC.lt
   have cd0 := CellsAt.cell hD 0
   have cd1 := CellsAt.cell hD 1
   have cd2 := CellsAt.cell hD 2
   have cd3 := CellsAt.cell hD 3
   have cp0 := CellsAt.cell hP 0
   have cp1 := CellsAt.cell hP 1
   have cp2 := CellsAt.cell hP 2
   have cp3 := CellsAt.cell hP 3
   have cp4 := CellsAt.cell hP 4
   have cp5 := CellsAt.cell hP 5
   simp only [getS] at cd0 cd1 cd2 cd3 cp0 cp1 cp2 cp3 cp4 cp5
   go_wp2_with fail
   clear cd0 cd1 cd2 cd3 cp0 cp1 cp2 cp3 cp4 cp5
   refine (HNX.out _ _ _ hX hS).mono ?_
   rintro e w6 ⟨vx, vs, rfl, hx6, hs6, g6, hf6⟩
   obtain ⟨np, nc, rfl⟩ := hx6.len
   obtain ⟨mp, mc, rfl⟩ := hs6.len
   try simp only at hx6 hs6 hf6
   replace hD := hD.gr g6
   replace hP := hP.gr g6
   replace hC := hC.gr g6
   replace hx1 := hx1.gr g6
   replace hs1 := hs1.gr g6
   replace hL := hL.gr g6
   replace hg := hg.trans g6
   have hsz6 := g6.size
   clear g6 hX hS hfr lD lP lC
   have qp0 := CellsAt.cell hP 0
   have qp1 := CellsAt.cell hP 1
   have qp2 := CellsAt.cell hP 2
   have qp3 := CellsAt.cell hP 3
   have qp4 := CellsAt.cell hP 4
   have qp5 := CellsAt.cell hP 5
   simp only [getS] at qp0 qp1 qp2 qp3 qp4 qp5
   have lP := hP.lt
   have lD := hD.lt
   have lC := hC.lt
   go_wp2_with fail
   have ga : Gr w6 (w6.alloc (.cells #[.slice np X'.length nc, .int .i64 ex', .bool sat', .slice mp sh'.length mc] 27)) := (Gr.refl w6).alloc _ _
   refine (HWX.out _ _ (hx6.gr ga)).mono ?_
   rintro e w8 ⟨rfl, g8⟩
   have gb := ga.trans g8
   have E8 := (CellsAt.new w6 27 #[.slice np X'.length nc, .int .i64 ex', .bool sat', .slice mp sh'.length mc]).gr g8
   have hs7 : (w6.alloc (.cells #[.slice np X'.length nc, .int .i64 ex', .bool sat', .slice mp sh'.length mc] 27)).heap.size = w6.heap.size + 1 := by simp
   have hs8 := g8.size
   replace hD := hD.gr gb
   replace hP := hP.gr gb
   replace hC := hC.gr gb
   replace hx1 := hx1.gr gb
   replace hs1 := hs1.gr gb
   replace hL := hL.gr gb
   replace hx6 := hx6.gr gb
   replace hs6 := hs6.gr gb
   replace hg := hg.trans gb
   clear g8 ga gb qp0 qp1 qp2 qp3 qp4 qp5 lP lD lC
   have lE := E8.lt
   have lP := hP.lt
   have lD := hD.lt
   have lC := hC.lt
   have ce0 := CellsAt.cell E8 0
   have ce1 := CellsAt.cell E8 1
   have ce2 := CellsAt.cell E8 2
   have ce3 := CellsAt.cell E8 3
   have cp0 := CellsAt.cell hP 0
   have cp1 := CellsAt.cell hP 1
   have cp2 := CellsAt.cell hP 2
   have cp3 := CellsAt.cell hP 3
   have cp4 := CellsAt.cell hP 4
   have cp5 := CellsAt.cell hP 5
   have cd0 := CellsAt.cell hD 0
   have md0 := CellsAt.frozen hD 0
   have cd1 := CellsAt.cell hD 1
   have md1 := CellsAt.frozen hD 1
   have cd2 := CellsAt.cell hD 2
   have md2 := CellsAt.frozen hD 2
   have cd3 := CellsAt.cell hD 3
   have md3 := CellsAt.frozen hD 3
   simp only [getS] at ce0 ce1 ce2 ce3 cp0 cp1 cp2 cp3 cp4 cp5 cd0 cd1 cd2 cd3
   go_wp2_with fail
   have apx := CxsAt.apart hx6 hD
   have apw := CxsAt.apart hx1 hD
   have apl := CxsAt.apart hL hD
   have X9 := ((((hx6.set apx 0 (.slice np X'.length nc)).set apx 1 (.int .i64 ex')).set apx 2 (.bool sat')).set apx 3 (.slice mp sh'.length mc))
   have W9 := ((((hx1.set apw 0 (.slice np X'.length nc)).set apw 1 (.int .i64 ex')).set apw 2 (.bool sat')).set apw 3 (.slice mp sh'.length mc))
   have L9 := ((((hL.set apl 0 (.slice np X'.length nc)).set apl 1 (.int .i64 ex')).set apl 2 (.bool sat')).set apl 3 (.slice mp sh'.length mc))
   have S9 := ((((hs6.setN (B := w2.heap.size) (fun h e => by have := hf6 _ e; omega) 0 (.slice np X'.length nc)).setN (B := w2.heap.size) (fun h e => by have := hf6 _ e; omega) 1 (.int .i64 ex')).setN (B := w2.heap.size) (fun h e => by have := hf6 _ e; omega) 2 (.bool sat')).setN (B := w2.heap.size) (fun h e => by have := hf6 _ e; omega) 3 (.slice mp sh'.length mc))
   have T9 := ((((hs1.setN (B := w2.heap.size) (HFW.out) 0 (.slice np X'.length nc)).setN (B := w2.heap.size) (HFW.out) 1 (.int .i64 ex')).setN (B := w2.heap.size) (HFW.out) 2 (.bool sat')).setN (B := w2.heap.size) (HFW.out) 3 (.slice mp sh'.length mc))
   have D9 : CellsAt _ (w2.heap.size) 27 #[.slice np X'.length nc, .int .i64 ex', .bool sat', .slice mp sh'.length mc] := ((((hD.set 0 (.slice np X'.length nc)).set 1 (.int .i64 ex')).set 2 (.bool sat')).set 3 (.slice mp sh'.length mc))
   go_roundw
   case rel =>
    refine ⟨j + 1, np, mp, nc, mc, by omega, by go_num, ?_, ?_, ?_, ?_, ?_, ?_, ?_, ?_, ?_, ?_, ?_⟩
    all_goals (try rw [HS1.out])
    ·exact D9
    ·exact X9
    ·exact S9
    ·exact fun h e => by have := hf6 _ e; omega
    ·exact ((((hP.other (by omega) _ _).other (by omega) _ _).other (by omega) _ _).other (by omega) _ _)
    ·exact ((((hC.other (by omega) _ _).other (by omega) _ _).other (by omega) _ _).other (by omega) _ _)
    ·exact W9
    ·exact T9
    ·exact L9
    ·exact (((hg.setCell (by simp only; omega) _).setCell (by simp only; omega) _).setCell (by simp only; omega) _).setCell (by simp only; omega) _
    ·simp; omega
   case measure => simp [intOf]; omega
  ·skip
   obtain rfl : j = Ls.length := by omega
   have hlI : ¬ (Ls.length : Int) < (Ls.length : Int) := by omega
   generalize hS5 : S Ls.length = T at hD hX hS
   have HS5 := Lib.hid hS5
   clear hS5 hfr
   obtain ⟨X5, ex5, sat5, sh5⟩ := T
   simp only at hD hX hS
   have lP := hP.lt
   have lD := hD.lt
   have lC := hC.lt
   have cc0 := CellsAt.cell hC 0
   have cc1 := CellsAt.cell hC 1
   have cc2 := CellsAt.cell hC 2
   have cc3 := CellsAt.cell hC 3
   have cp0 := CellsAt.cell hP 0
   have cp1 := CellsAt.cell hP 1
   have cp2 := CellsAt.cell hP 2
   have cp3 := CellsAt.cell hP 3
   have cp4 := CellsAt.cell hP 4
   have cp5 := CellsAt.cell hP 5
   simp only [getS] at cc0 cc1 cc2 cc3 cp0 cp1 cp2 cp3 cp4 cp5
   go_wp2_with fail
   refine (HMX.out _ _ hx1).mono ?_
   rintro e wa ⟨rfl, ga⟩
   replace hD := hD.gr ga
   replace hP := hP.gr ga
   replace hC := hC.gr ga
   replace hX := hX.gr ga
   replace hS := hS.gr ga
   replace hx1 := hx1.gr ga
   replace hs1 := hs1.gr ga
   replace hg := hg.trans ga
   clear cc0 cc1 cc2 cc3 cp0 cp1 cp2 cp3 cp4 cp5
   replace lP := hP.lt
   replace lD := hD.lt
   replace lC := hC.lt
   have cc0 := CellsAt.cell hC 0
   have cc1 := CellsAt.cell hC 1
   have cc2 := CellsAt.cell hC 2
   have cc3 := CellsAt.cell hC 3
   have cp0 := CellsAt.cell hP 0
   have cp1 := CellsAt.cell hP 1
   have cp2 := CellsAt.cell hP 2
   have cp3 := CellsAt.cell hP 3
   have cp4 := CellsAt.cell hP 4
   have cp5 := CellsAt.cell hP 5
   simp only [getS] at cc0 cc1 cc2 cc3 cp0 cp1 cp2 cp3 cp4 cp5
   go_wp2_with fail
   refine (HBT.out _).mono ?_
   rintro e wb ⟨rfl, gb⟩
   replace hD := hD.gr gb
   replace hP := hP.gr gb
   replace hC := hC.gr gb
   replace hX := hX.gr gb
   replace hS := hS.gr gb
   replace hx1 := hx1.gr gb
   replace hs1 := hs1.gr gb
   replace hg := hg.trans gb
   clear cc0 cc1 cc2 cc3 cp0 cp1 cp2 cp3 cp4 cp5
   replace lP := hP.lt
   replace lD := hD.lt
   replace lC := hC.lt
   have cc0 := CellsAt.cell hC 0
   have cc1 := CellsAt.cell hC 1
   have cc2 := CellsAt.cell hC 2
   have cc3 := CellsAt.cell hC 3
   have cp0 := CellsAt.cell hP 0
   have cp1 := CellsAt.cell hP 1
   have cp2 := CellsAt.cell hP 2
   have cp3 := CellsAt.cell hP 3
   have cp4 := CellsAt.cell hP 4
   have cp5 := CellsAt.cell hP 5
   simp only [getS] at cc0 cc1 cc2 cc3 cp0 cp1 cp2 cp3 cp4 cp5
   go_wp2_with fail
   refine (HMN.out _ (VX.out.gr hg)).mono ?_
   rintro e wc ⟨rfl, gc⟩
   replace hD := hD.gr gc
   replace hP := hP.gr gc
   replace hC := hC.gr gc
   replace hX := hX.gr gc
   replace hS := hS.gr gc
   replace hx1 := hx1.gr gc
   replace hs1 := hs1.gr gc
   replace hg := hg.trans gc
   clear cc0 cc1 cc2 cc3 cp0 cp1 cp2 cp3 cp4 cp5
   replace lP := hP.lt
   replace lD := hD.lt
   replace lC := hC.lt
   have cc0 := CellsAt.cell hC 0
   have cc1 := CellsAt.cell hC 1
   have cc2 := CellsAt.cell hC 2
   have cc3 := CellsAt.cell hC 3
   have cp0 := CellsAt.cell hP 0
   have cp1 := CellsAt.cell hP 1
   have cp2 := CellsAt.cell hP 2
   have cp3 := CellsAt.cell hP 3
   have cp4 := CellsAt.cell hP 4
   have cp5 := CellsAt.cell hP 5
   simp only [getS] at cc0 cc1 cc2 cc3 cp0 cp1 cp2 cp3 cp4 cp5
   go_wp2_with fail
   refine (HWW.out _ _ hx1).mono ?_
   rintro e wd ⟨rfl, gd⟩
   replace hD := hD.gr gd
   replace hP := hP.gr gd
   replace hC := hC.gr gd
   replace hX := hX.gr gd
   replace hS := hS.gr gd
   replace hx1 := hx1.gr gd
   replace hs1 := hs1.gr gd
   replace hg := hg.trans gd
   clear cc0 cc1 cc2 cc3 cp0 cp1 cp2 cp3 cp4 cp5
   replace lP := hP.lt
   replace lD := hD.lt
   replace lC := hC.lt
   have cc0 := CellsAt.cell hC 0
   have cc1 := CellsAt.cell hC 1
   have cc2 := CellsAt.cell hC 2
   have cc3 := CellsAt.cell hC 3
   have cp0 := CellsAt.cell hP 0
   have cp1 := CellsAt.cell hP 1
   have cp2 := CellsAt.cell hP 2
   have cp3 := CellsAt.cell hP 3
   have cp4 := CellsAt.cell hP 4
   have cp5 := CellsAt.cell hP 5
   simp only [getS] at cc0 cc1 cc2 cc3 cp0 cp1 cp2 cp3 cp4 cp5
   have cd0 := CellsAt.cell hD 0
   have cd1 := CellsAt.cell hD 1
   have cd2 := CellsAt.cell hD 2
   have cd3 := CellsAt.cell hD 3
   simp only [getS] at cd0 cd1 cd2 cd3
   rcases HZ.out with ⟨rfl, rfl⟩ | hn0
   ·skip
    by_cases hke2 : ke = 2
    ·subst hke2
     go_wp2_with fail
     go_ret
     exact ⟨by first | rfl | (simp; done), hg⟩
    ·have hke3 : (ke == 2) = false := by simp [hke2]
     have hS6 := (HKE.out hke2).symm
     rw [HS5.out] at hS6
     obtain ⟨rfl, rfl, rfl, rfl⟩ := BV.mk.inj hS6
     clear hS6
     go_wp2_with fail
     refine (same15_c _ _ _ _ ex sat X sh _ hX hS hx1 hs1).mono ?_
     rintro e we ⟨rfl, ge⟩
     replace hP := hP.gr ge
     replace hC := hC.gr ge
     replace hg := hg.trans ge
     clear cc0 cc1 cc2 cc3 cp0 cp1 cp2 cp3 cp4 cp5 cd0 cd1 cd2 cd3
     replace lP := hP.lt
     replace lC := hC.lt
     have cc0 := CellsAt.cell hC 0
     have cc1 := CellsAt.cell hC 1
     have cc2 := CellsAt.cell hC 2
     have cc3 := CellsAt.cell hC 3
     have cp0 := CellsAt.cell hP 0
     have cp1 := CellsAt.cell hP 1
     have cp2 := CellsAt.cell hP 2
     have cp3 := CellsAt.cell hP 3
     have cp4 := CellsAt.cell hP 4
     have cp5 := CellsAt.cell hP 5
     simp only [getS] at cc0 cc1 cc2 cc3 cp0 cp1 cp2 cp3 cp4 cp5
     go_wp2_with fail
     go_ret
     exact ⟨by first | rfl | (simp; done), hg⟩
   ·have hz1 : (n == 0) = false := by simp [hn0]
    by_cases hke2 : ke = 2
    ·subst hke2
     go_wp2_with fail
     go_ret
     exact ⟨by first | rfl | (simp; done), hg⟩
    ·have hke3 : (ke == 2) = false := by simp [hke2]
     have hS6 := (HKE.out hke2).symm
     rw [HS5.out] at hS6
     obtain ⟨rfl, rfl, rfl, rfl⟩ := BV.mk.inj hS6
     clear hS6
     go_wp2_with fail
     refine (same15_c _ _ _ _ ex sat X sh _ hX hS hx1 hs1).mono ?_
     rintro e we ⟨rfl, ge⟩
     replace hP := hP.gr ge
     replace hC := hC.gr ge
     replace hg := hg.trans ge
     clear cc0 cc1 cc2 cc3 cp0 cp1 cp2 cp3 cp4 cp5 cd0 cd1 cd2 cd3
     replace lP := hP.lt
     replace lC := hC.lt
     have cc0 := CellsAt.cell hC 0
     have cc1 := CellsAt.cell hC 1
     have cc2 := CellsAt.cell hC 2
     have cc3 := CellsAt.cell hC 3
     have cp0 := CellsAt.cell hP 0
     have cp1 := CellsAt.cell hP 1
     have cp2 := CellsAt.cell hP 2
     have cp3 := CellsAt.cell hP 3
     have cp4 := CellsAt.cell hP 4
     have cp5 := CellsAt.cell hP 5
     simp only [getS] at cc0 cc1 cc2 cc3 cp0 cp1 cp2 cp3 cp4 cp5
     go_wp2_with fail
     go_ret
     exact ⟨by first | rfl | (simp; done), hg⟩
end
end Go.Proofs.YtablflakcaimmaaGreat
