import Derived.Shelf.Bits.Mul64
import Derived.Shelf.Spec.BitsCarry
import Derived.Test.YtdignnmpfkgkoaaGreatRealUntanglesS10
import Derived.Test.YtdignnmpfkgkoaaGreatRealUntanglesS28
namespace Go.Proofs.YtdignnmpfkgkoaaGreat
section
open Go.ChangeShapes Go.WideShapes Go.ChangeAt Go.RowKit
set_option linter.unusedVariables false
set_option maxRecDepth 100000
def angL : List Int := (List.range 45).map (fun j => (ang j : Int))
theorem angL_len : angL.length = 45 := by decide +kernel
theorem angL_at (j : Nat) (h : j < 45) : angL[j]? = some (ang j : Int) := by
 unfold angL
 rw [List.getElem?_map, List.getElem?_range h]; rfl
theorem pow2_c (j : Nat) (h : j ≤ 62) (w : World) : Calls Tryz.prog 38 #[.int .i64 j] w fun e w' => e = .returned (.int .i64 ((2 ^ j : Nat) : Int)) ∧ w' = w := by
 have := pow_c j (by omega) (by omega) w
 rw [Int.toNat_natCast] at this
 refine this.mono ?_
 rintro e w' ⟨he, hw⟩
 exact ⟨by rw [he]; congr 2, hw⟩
theorem angle05_c (j : Nat) (h : j < 45) (w : World) :
 CW 170 #[.int .i64 j] w (.int .i64 (ang j)) :=by
 delta CW
 by_cases h0 : j = 0
 ·subst h0
  have HQ := Lib.hid refQuarter_c
  have e : ((ang 0 : Nat) : Int) = 56593902016227522 := by decide +kernel
  rw [e, show ((0 : Nat) : Int) = 0 from rfl]
  clear e h
  go_enter Tryz.func170, Tryz.ntmps170
  go_wp2_with (go_at_call 193; refine (HQ.out _).mono ?_; rintro e w1 ⟨rfl, hg1⟩)
  go_ret
  exact ⟨rfl, hg1⟩
 ·have e : ang j = arcOf (2 ^ j) := by unfold ang; rw [if_neg h0]
  have p0 : 2 ≤ 2 ^ j := by
   have := Nat.pow_le_pow_right (show 0 < 2 by decide) (show 1 ≤ j by omega)
   omega
  have p1 : 2 ^ j ≤ 17592186044416 := by
   have := Nat.pow_le_pow_right (show 0 < 2 by decide) (show j ≤ 44 by omega)
   omega
  have HP := Lib.hid (pow2_c j (by omega))
  have HA := Lib.hid (refArc_c (2 ^ j) p0 p1)
  rw [← e] at HA
  have hz : ((j : Int) == 0) = false := by simp; omega
  generalize 2 ^ j = p at *
  clear e p0 p1 h0 h
  go_enter Tryz.func170, Tryz.ntmps170
  go_wp2_with (first
   | (go_at_call 38; refine (HP.out _).mono ?_; rintro e w1 ⟨rfl, rfl⟩)
   | (go_at_call 194; refine (HA.out _).mono ?_; rintro e w2 ⟨rfl, hg2⟩))
  go_ret
  exact ⟨rfl, hg2⟩
set_option maxRecDepth 10000 in set_option maxHeartbeats 1000000 in
theorem angles05_row (w : World) :
 Calls Tryz.prog 130 #[] w fun e w' => ∃ v, e = .returned v ∧ w'.ownsRow w.heap.size 3 1 v 45 (angL.map (Value.int .i64)) ∧ Gr w w' := by
 obtain ⟨i0, hi, hz0, hz1, hz2⟩ := info_parts info_int
 go_enter Tryz.func130, Tryz.ntmps130
 go_wp2_with fail
 have hs0 : ((w.alloc (.cells #[] 3)).ownsRow w.heap.size 3 1 (.slice (some ⟨w.heap.size, 0, none⟩) 0 0) 0 []) := World.ownsRow_made w #[] 0 (Nat.le_refl _) (by unfold maxLen; omega) (by simp)
 go_loopw [1, 2] (fun v i wr => ∃ j : Nat, j ≤ 45 ∧ i = .int .i64 j ∧ wr.ownsRow w.heap.size 3 1 v j (((List.range j).map (fun j => (ang j : Int))).map (Value.int .i64)) ∧ Gr w wr)
  (fun _ i _ => 45 - (intOf i).toNat)
 case atStart => exact ⟨0, by omega, rfl, hs0, (Gr.refl _).alloc _ _⟩
 case round =>
  clear hs0
  obtain ⟨j, hj, rfl, hrow, hg⟩ := hrel
  by_cases hlt : j < 45
  ·have HA := Lib.hid (angle05_c j hlt)
   go_wp2_with fail
   refine (HA.out _).mono ?_
   rintro e wq ⟨rfl, hgq⟩
   have hrow2 := ownsRow_gr hrow hgq
   have hsz := hg.size
   have hsq := hgq.size
   have hg2 := hg.trans hgq
   clear hrow hg hgq HA
   go_wp2_with (at_builtin; refine wpList_append_own _ rfl (.tmp 8) (.tmp 11) 22 rfl w.heap.size 3 i0 (.int .i64 0) 1 8 Tryz.underlying22 hi hz0 hz1 hz2 rfl (by decide) _ _ _ rfl (hrow2.alloc _) ⟨wq.heap.size, 0, none⟩ 1 1 [.int .i64 (ang j)] rfl rfl (cell_one_new _ _ _) (by simp [Value.oneCell']) (by unfold maxLen; omega) (by omega) (by simp; omega) ?_; intro v' w3 hown' hgrow _)
   have e : ((List.range j).map (fun j => (ang j : Int))).map (Value.int .i64) ++ [.int .i64 (ang j)] = ((List.range (j + 1)).map (fun j => (ang j : Int))).map (Value.int .i64) := by
    rw [List.range_succ, List.map_append, List.map_append]; rfl
   rw [e] at hown'
   have hg3 := (hg2.allocO _).grown hgrow (fun k e => (hrow2.lt k e).1)
   go_roundw
   case rel => exact ⟨j + 1, by omega, by go_num, hown', hg3⟩
   case measure => simp [intOf]; omega
  ·have he : j = 45 := by omega
   subst he
   go_wp2_with fail
   go_ret
   exact ⟨_, rfl, hrow, hg⟩
theorem angles05_c (w : World) :
 Calls Tryz.prog 130 #[] w fun e w' => ∃ v, e = .returned v ∧ IntsAt w' v angL ∧ Gr w w' :=
 (angles05_row w).mono fun _ _ ⟨v, he, hr, hg⟩ => ⟨v, he, IntsAt.of_row hr, hg⟩
theorem floor05 (x : Int) (j : Nat) (h : j ≤ 62) (wx : -9223372036854775808 ≤ x ∧ x ≤ 9223372036854775807) (w : World) :
 Calls Tryz.prog 145 #[.int .i64 x, .int .i64 j] w fun e w' => e = .returned (.int .i64 (x / 2 ^ j)) ∧ w' = w := by
 have := floor_c x j wx (by omega) (by omega) w
 rwa [Int.toNat_natCast] at this
def TV (s : Tn) : Value := .agg #[.int .i64 s.re, .int .i64 s.im, .int .i64 s.left]
theorem step05_c (j : Nat) (re im left : Int) (hj : j ≤ 62) (h1 : re.natAbs ≤ 1152921504606846976) (h2 : im.natAbs ≤ 1152921504606846976) (h3 : left.natAbs ≤ 288230376151711744) (h4 : ang j ≤ 144115188075855872) (w : World) :
 CW 214 #[.agg #[.int .i64 re, .int .i64 im, .int .i64 left], .int .i64 j, .int .i64 (ang j)] w (TV (tstep j ⟨re, im, left⟩)) :=by
 delta CW
 have HA := Lib.hid (floor05 re j hj (by omega))
 have HB := Lib.hid (floor05 im j hj (by omega))
 have fa := fl_abs re j
 have fb := fl_abs im j
 have ga : re.natAbs / 2 ^ j ≤ re.natAbs := Nat.div_le_self _ _
 have gb : im.natAbs / 2 ^ j ≤ im.natAbs := Nat.div_le_self _ _
 have ba : -1152921504606846977 ≤ re / 2 ^ j ∧ re / 2 ^ j ≤ 1152921504606846977 := by omega
 have bb : -1152921504606846977 ≤ im / 2 ^ j ∧ im / 2 ^ j ≤ 1152921504606846977 := by omega
 have bc : -1152921504606846977 ≤ re ∧ re ≤ 1152921504606846977 := by omega
 have bd : -1152921504606846977 ≤ im ∧ im ≤ 1152921504606846977 := by omega
 have be : -288230376151711744 ≤ left ∧ left ≤ 288230376151711744 := by omega
 have bf : ((ang j : Nat) : Int) ≤ 144115188075855872 := by omega
 by_cases hl : 0 ≤ left
 ·have ET : TV (tstep j ⟨re, im, left⟩) = .agg #[.int .i64 (re - im / 2 ^ j), .int .i64 (im + re / 2 ^ j), .int .i64 (left - ang j)] := by rw [tstep, if_pos (show 0 ≤ left from hl)]; rfl
  rw [ET]
  generalize re / 2 ^ j = a at *
  generalize im / 2 ^ j = b at *
  clear fa fb ga gb h1 h2 h3 h4 hj ET
  go_enter Tryz.func214, Tryz.ntmps214
  go_wp2_with (first
   | (go_at_call 145; with_reducible refine (HA.out _).mono ?_; rintro e w1 ⟨rfl, rfl⟩)
   | (go_at_call 145; with_reducible refine (HB.out _).mono ?_; rintro e w2 ⟨rfl, rfl⟩))
  refine bodyPost_ret (v := .agg #[.int .i64 (re - b), .int .i64 (im + a), .int .i64 (left - ang j)]) ?_ rfl ⟨rfl, ?_⟩
  ·simp [results, Tryz.f214, go_sem]
  ·exact ((Gr.refl w).alloc _ _).alloc _ _
 ·have hl2 : left < 0 := by omega
  have ET : TV (tstep j ⟨re, im, left⟩) = .agg #[.int .i64 (re + im / 2 ^ j), .int .i64 (im - re / 2 ^ j), .int .i64 (left + ang j)] := by rw [tstep, if_neg (show ¬ 0 ≤ left from hl)]; rfl
  rw [ET]
  generalize re / 2 ^ j = a at *
  generalize im / 2 ^ j = b at *
  clear fa fb ga gb h1 h2 h3 h4 hj ET
  go_enter Tryz.func214, Tryz.ntmps214
  go_wp2_with (first
   | (go_at_call 145; with_reducible refine (HA.out _).mono ?_; rintro e w1 ⟨rfl, rfl⟩)
   | (go_at_call 145; with_reducible refine (HB.out _).mono ?_; rintro e w2 ⟨rfl, rfl⟩))
  refine bodyPost_ret (v := .agg #[.int .i64 (re + b), .int .i64 (im - a), .int .i64 (left + ang j)]) ?_ rfl ⟨rfl, ?_⟩
  ·simp [results, Tryz.f214, go_sem]
  ·exact ((Gr.refl w).alloc _ _).alloc _ _
end
section
open Go.ChangeShapes Go.WideShapes Go.ChangeAt Go.RowKit
set_option linter.unusedVariables false
theorem trun_succ (k : Nat) (s : Tn) : trun (k + 1) s = tstep k (trun k s) := rfl
set_option maxHeartbeats 2000000 in
theorem runOf05_c (x z : Int) (h0 : 0 ≤ x) (h1 : x ≤ 144115188075855872) (hz : z.natAbs ≤ 72057594037927936) (v : Value) (w : World) (hv : IntsAt w v angL) :
 CW 196 #[v, .int .i64 x, .int .i64 z] w (TV (trun 45 ⟨x, 0, z⟩)) :=by
 delta CW
 obtain ⟨b, o, cap, rfl, hlen, hb, hc⟩ := same_len hv (by intro e; have := angL_len; rw [e] at this; exact absurd this (by decide))
 rw [angL_len]
 have HC := Lib.hid fun j (hj : j < 45) => hc j _ (angL_at j hj)
 have HB := Lib.hid fun k (hk : k ≤ 45) => trun_bd x z h0 h1 hz k hk
 clear hc hv hlen h0 h1 hz
 go_enter Tryz.func196, Tryz.ntmps196
 go_wp2_with fail
 have HR0 := CellsAt.new w 221 #[.int .i64 0, .int .i64 0, .int .i64 0]
 have HR1 := CellsAt.new (w.alloc (.cells #[.int .i64 0, .int .i64 0, .int .i64 0] 221)) 221 #[.int .i64 x, .int .i64 0, .int .i64 z]
 rw [World.size_alloc] at HR1
 have HR0' := HR0.alloc (.cells #[.int .i64 x, .int .i64 0, .int .i64 z] 221)
 have G0 : Gr w ((w.alloc (.cells #[.int .i64 0, .int .i64 0, .int .i64 0] 221)).alloc (.cells #[.int .i64 x, .int .i64 0, .int .i64 z] 221)) := ((Gr.refl w).alloc _ _).alloc _ _
 go_loopw [16] (fun i wr => ∃ k : Nat, k ≤ 45 ∧ i = .int .i64 k ∧ CellsAt wr w.heap.size 221 #[.int .i64 0, .int .i64 0, .int .i64 0] ∧ CellsAt wr (w.heap.size + 1) 221 #[.int .i64 (trun k ⟨x, 0, z⟩).re, .int .i64 (trun k ⟨x, 0, z⟩).im, .int .i64 (trun k ⟨x, 0, z⟩).left] ∧ Gr w wr)
  (fun i _ => 45 - (intOf i).toNat)
 case atStart => exact ⟨0, by omega, rfl, HR0', HR1, G0⟩
 case round =>
  clear HR0 HR1 HR0' G0
  obtain ⟨k, hk, rfl, hr0, hr1, hg⟩ := hrel
  have q0 := hr1.cell 0
  have q1 := hr1.cell 1
  have q2 := hr1.cell 2
  have bd := HB.out k hk
  have et := trun_succ k ⟨x, 0, z⟩
  generalize hs : trun k ⟨x, 0, z⟩ = s at *
  have HQ := Lib.hid hs
  clear hs
  obtain ⟨re, im, left⟩ := s
  simp only [getS] at q0 q1 q2 bd
  by_cases hlt : k < 45
  ·have hcx := (hg.cell (p := ⟨b, o + k, none⟩) hb).trans (HC.out k hlt)
   have HS := Lib.hid (step05_c k re im left (by omega) bd.1 bd.2.1 bd.2.2 (ang_bd k hlt))
   rw [← et] at HS
   have hlen := Lib.hid hr1.lt
   clear et bd
   go_wp2_with fail
   refine (HS.out _).mono ?_
   rintro e w2 ⟨rfl, hg2⟩
   have p0 := hr0.gr hg2
   have p1 := hr1.gr hg2
   have c0 := p1.cell 0
   have c1 := p1.cell 1
   have c2 := p1.cell 2
   have f0 := p1.frozen 0
   have f1 := p1.frozen 1
   have f2 := p1.frozen 2
   have hg' := hg.trans hg2
   have hsz := hg.size
   clear q0 q1 q2 hr0 hr1 hcx HS hlen hg hg2
   simp only [getS] at c0 c1 c2
   obtain ⟨s', hs'⟩ : ∃ s', trun (k + 1) ⟨x, 0, z⟩ = s' := ⟨_, rfl⟩
   have HS' := Lib.hid hs'
   rw [hs']
   clear hs'
   obtain ⟨re', im', left'⟩ := s'
   unfold TV
   have b0 : w.heap.size + 1 ≠ w.heap.size := by omega
   go_wp2_with fail
   have n1 := ((p1.set 0 (.int .i64 re')).set 1 (.int .i64 im')).set 2 (.int .i64 left')
   have n0 := ((p0.other (B' := w.heap.size + 1) (by omega) 0 (.int .i64 re')).other (B' := w.heap.size + 1) (by omega) 1 (.int .i64 im')).other (B' := w.heap.size + 1) (by omega) 2 (.int .i64 left')
   have G3 := ((hg'.setCell (a := ⟨w.heap.size + 1, 0, none⟩) (by simp) (.int .i64 re')).setCell (a := ⟨w.heap.size + 1, 1, none⟩) (by simp) (.int .i64 im')).setCell (a := ⟨w.heap.size + 1, 2, none⟩) (by simp) (.int .i64 left')
   go_roundw
   case rel => exact ⟨k + 1, by omega, by go_num, n0, by rw [HS'.out]; exact n1, G3⟩
   case measure => simp [intOf]; omega
  ·have he : k = 45 := by omega
   have r0 := hr0.cell 0
   have r1 := hr0.cell 1
   have r2 := hr0.cell 2
   have f0 := hr0.frozen 0
   have f1 := hr0.frozen 1
   have f2 := hr0.frozen 2
   simp only [getS] at r0 r1 r2
   subst he
   go_wp2_with fail
   refine bodyPost_ret (v := .agg #[.int .i64 re, .int .i64 im, .int .i64 left]) ?_ rfl ⟨by rw [HQ.out]; rfl, ?_⟩
   ·simp [results, Tryz.f196, go_sem, r0, r1, r2]
   ·exact ((hg.setCell (a := ⟨w.heap.size, 0, none⟩) (by simp) _).setCell (a := ⟨w.heap.size, 1, none⟩) (by simp) _).setCell (a := ⟨w.heap.size, 2, none⟩) (by simp) _
theorem run05_c (x z : Int) (h0 : 0 ≤ x) (h1 : x ≤ 144115188075855872) (hz : z.natAbs ≤ 72057594037927936) (w : World) :
 CW 195 #[.int .i64 x, .int .i64 z] w (TV (trun 45 ⟨x, 0, z⟩)) :=by
 delta CW
 have HA := Lib.hid angles05_c
 have HR := Lib.hid fun v => runOf05_c x z h0 h1 hz v
 clear h0 h1 hz
 go_enter Tryz.func195, Tryz.ntmps195
 go_wp2_with fail
 have R0 := CellsAt.new w 221 #[.int .i64 0, .int .i64 0, .int .i64 0]
 refine (HA.out _).mono ?_
 rintro e w1 ⟨v, rfl, hI, hg1⟩
 have R1 := R0.gr hg1
 have hg2 := Gr.trans ((Gr.refl w).alloc _ _) hg1
 clear R0 hg1
 have HI := Lib.hid hI
 clear hI
 go_wp2_with fail
 refine (HR.out v w1 HI.out).mono ?_
 rintro e w2 ⟨rfl, hg3⟩
 have R2 := R1.gr hg3
 have hg4 := hg2.trans hg3
 have hsz := hg4.size
 have r0 := R2.cell 0
 have r1 := R2.cell 1
 have r2 := R2.cell 2
 have f0 := R2.frozen 0
 have f1 := R2.frozen 1
 have f2 := R2.frozen 2
 simp only [getS] at r0 r1 r2
 clear hg2 hg3 R1 R2
 obtain ⟨s, hs⟩ : ∃ s, trun 45 ⟨x, 0, z⟩ = s := ⟨_, rfl⟩
 have HQ := Lib.hid hs
 rw [hs]
 clear hs
 obtain ⟨re, im, left⟩ := s
 unfold TV
 go_wp2_with fail
 refine bodyPost_ret (v := .agg #[.int .i64 re, .int .i64 im, .int .i64 left]) ?_ rfl ⟨by rw [HQ.out]; rfl, ?_⟩
 ·simp [results, Tryz.f195, go_sem, r0, r1, r2]
 ·exact ((hg4.setCell (a := ⟨w.heap.size, 0, none⟩) (by simp) _).setCell (a := ⟨w.heap.size, 1, none⟩) (by simp) _).setCell (a := ⟨w.heap.size, 2, none⟩) (by simp) _
theorem field_P (re im left : Int) (w : World) : (Instr.field 221 (.agg #[.int .i64 re, .int .i64 im, .int .i64 left]) 0).run Tryz.prog w = .ok (.agg #[.int .i64 re, .int .i64 im]) w := by kernel_rfl
theorem field_Re (re im : Int) (w : World) : (Instr.field 50 (.agg #[.int .i64 re, .int .i64 im]) 0).run Tryz.prog w = .ok (.int .i64 re) w := by kernel_rfl
theorem gain05_c (w : World) : CW 171 #[] w (.int .i64 118661582157481174) :=by
 delta CW
 have HP := Lib.hid pow56
 have HR := Lib.hid (run05_c 72057594037927936 0 (by omega) (by omega) (by decide))
 have HG := Lib.hid gain_run
 go_enter Tryz.func171, Tryz.ntmps171
 go_wp2_with (go_at_call 38; refine (HP.out _).mono ?_; rintro e w1 ⟨rfl, rfl⟩)
 refine (HR.out _).mono ?_
 rintro e w2 ⟨rfl, hg⟩
 have HQ : (trun 45 ⟨72057594037927936, 0, 0⟩).re = 118661582157481174 := HG.out
 generalize trun 45 ⟨72057594037927936, 0, 0⟩ = s at *
 obtain ⟨re, im, left⟩ := s
 simp only at HQ
 subst HQ
 unfold TV
 have hf := field_P
 have hf2 := field_Re
 go_wp2_with fail
 go_ret
 exact ⟨rfl, hg⟩
def dv : Nat → Nat × Nat
 | 0 => (72057594037927936, 0)
 | k + 1 => if 118661582157481174 ≤ 2 * (dv k).1 then (2 * (dv k).1 - 118661582157481174, 2 * (dv k).2 + 1) else (2 * (dv k).1, 2 * (dv k).2)
set_option maxRecDepth 100000 in
theorem dv_all : (List.range 57).all (fun k => Nat.ble (dv k).1 118661582157481174 && Nat.ble (dv k).2 72057594037927936) = true := by decide +kernel
set_option maxRecDepth 100000 in
theorem dv_56 : (dv 56).2 = 43757185469210200 := by decide +kernel
set_option maxRecDepth 10000 in
theorem inverse05_c (w : World) : CW 131 #[] w (.int .i64 43757185469210200) :=by
 delta CW
 have HP := Lib.hid pow56
 have HG := Lib.hid gain05_c
 go_enter Tryz.func131, Tryz.ntmps131
 go_wp2_with (first
  | (go_at_call 171; refine (HG.out _).mono ?_; rintro e w1 ⟨rfl, hg1⟩)
  | (go_at_call 38; refine (HP.out _).mono ?_; rintro e w2 ⟨rfl, rfl⟩))
 go_loop [2, 3, 4] (fun l q i => ∃ k : Nat, k ≤ 56 ∧ i = .int .i64 k ∧ l = .int .i64 (dv k).1 ∧ q = .int .i64 (dv k).2) (fun _ _ i => 56 - (intOf i).toNat)
 case atStart => exact ⟨0, by omega, rfl, rfl, rfl⟩
 case round =>
  obtain ⟨k, hk, rfl, rfl, rfl⟩ := hrel
  by_cases hlt : k < 56
  ·have hd := List.all_eq_true.1 dv_all k (List.mem_range.2 (by omega))
   simp only [Bool.and_eq_true, Nat.ble_eq] at hd
   obtain ⟨d1, d2⟩ := hd
   have k1 : (k : Int) < 56 := by omega
   by_cases hc : 118661582157481174 ≤ 2 * (dv k).1
   ·have E : dv (k + 1) = (2 * (dv k).1 - 118661582157481174, 2 * (dv k).2 + 1) := by rw [dv, if_pos hc]
    have HE := Lib.hid E
    have hc' : (118661582157481174 : Int) ≤ 2 * ((dv k).1 : Int) := by omega
    clear E hc
    generalize dv k = p at *
    obtain ⟨l, q⟩ := p
    simp only at *
    have e1 : (l : Int) ≤ 118661582157481174 := by omega
    have e2 : (q : Int) ≤ 72057594037927936 := by omega
    clear d1 d2 hlt hk
    go_wp2_with fail
    go_round
    case rel => exact ⟨k + 1, by omega, by go_num, congrArg (Value.int .i64) (by rw [HE.out]; simp only; omega), congrArg (Value.int .i64) (by rw [HE.out]; simp only; omega)⟩
    case measure => simp [intOf]; omega
   ·have E : dv (k + 1) = (2 * (dv k).1, 2 * (dv k).2) := by rw [dv, if_neg hc]
    have HE := Lib.hid E
    have hc' : decide ((118661582157481174 : Int) ≤ 2 * ((dv k).1 : Int)) = false := by simp only [decide_eq_false_iff_not]; omega
    clear E hc
    generalize dv k = p at *
    obtain ⟨l, q⟩ := p
    simp only at *
    have e1 : (l : Int) ≤ 118661582157481174 := by omega
    have e2 : (q : Int) ≤ 72057594037927936 := by omega
    clear d1 d2 hlt hk
    go_wp2_with fail
    go_round
    case rel => exact ⟨k + 1, by omega, by go_num, congrArg (Value.int .i64) (by rw [HE.out]; simp only; omega), congrArg (Value.int .i64) (by rw [HE.out]; simp only; omega)⟩
    case measure => simp [intOf]; omega
  ·have he : k = 56 := by omega
   have e2 : ((dv k).2 : Int) = 43757185469210200 := by rw [he, dv_56]; rfl
   have e3 : (56 : Int) ≤ (k : Int) := by omega
   rw [e2]
   generalize dv k = p at *
   obtain ⟨l, q⟩ := p
   clear he hlt e2
   go_wp2_with fail
   go_ret
   exact ⟨rfl, hg1⟩
end
section
open Go.ChangeShapes Go.WideShapes Go.ChangeAt Go.RowKit Go.Shelf
set_option linter.unusedVariables false
set_option maxRecDepth 100000
end
section
open Go.ChangeShapes Go.WideShapes Go.ChangeAt Go.RowKit
set_option linter.unusedVariables false
def GainIs (W : World) : Prop := Calls Tryz.prog 234 #[] W fun e w' => e = .returned (.int .i64 118661582157481174) ∧ Gr W w'
def InvIs (W : World) : Prop := Calls Tryz.prog 229 #[] W fun e w' => e = .returned (.int .i64 43757185469210200) ∧ Gr W w'
end
section
open Go.ChangeShapes Go.WideShapes Go.ChangeAt Go.RowKit
set_option linter.unusedVariables false
def RunIs (x z : Int) (W : World) : Prop := Calls Tryz.prog 228 #[.int .i64 x, .int .i64 z] W fun e w' => e = .returned (.tuple #[.agg #[.int .i64 (trun 45 ⟨x, 0, z⟩).re, .int .i64 (trun 45 ⟨x, 0, z⟩).im], .int .i64 (trun 45 ⟨x, 0, z⟩).left, .int .i64 0]) ∧ Gr W w'
end
section
open Go.ChangeShapes Go.WideShapes Go.ChangeAt Go.RowKit
set_option linter.unusedVariables false
theorem gainAngle_c (j : Nat) (h : j < 45) (w : World) :
 CW 238 #[.int .i64 j] w (.int .i64 (ang j)) :=by
 delta CW
 by_cases h0 : j = 0
 ·subst h0
  have HQ := Lib.hid quarter_c
  have e : ((ang 0 : Nat) : Int) = 56593902016227522 := by decide +kernel
  rw [e, show ((0 : Nat) : Int) = 0 from rfl]
  clear e h
  go_enter Tryz.func238, Tryz.ntmps238
  go_wp2_with (go_at_call 223; refine (HQ.out _).mono ?_; rintro e w1 ⟨rfl, hg1⟩)
  go_ret
  exact ⟨rfl, hg1⟩
 ·have e : ang j = arcOf (2 ^ j) := by unfold ang; rw [if_neg h0]
  have p0 : 2 ≤ 2 ^ j := by
   have := Nat.pow_le_pow_right (show 0 < 2 by decide) (show 1 ≤ j by omega)
   omega
  have p1 : 2 ^ j ≤ 17592186044416 := by
   have := Nat.pow_le_pow_right (show 0 < 2 by decide) (show j ≤ 44 by omega)
   omega
  have HA := Lib.hid (arc_ok (2 ^ j) p0 p1)
  rw [← e] at HA
  have hz : ((j : Int) == 0) = false := by simp; omega
  have hn : (0 : Int) ≤ (j : Int) := by omega
  have ep : wrap64 ((2 : Int) ^ j) = ((2 ^ j : Nat) : Int) := by
   rw [IntWalk.wrap64_in _ (by rw [show (2 : Int) ^ j = ((2 ^ j : Nat) : Int) by simp]; omega)]; simp
  rw [← ep] at HA
  clear e p0 h0 p1 ep
  go_enter Tryz.func238, Tryz.ntmps238
  go_wp2_with (go_at_call 239; refine (HA.out _).mono ?_; rintro e w2 ⟨rfl, hg2⟩)
  go_ret
  exact ⟨rfl, hg2⟩
set_option maxHeartbeats 1000000 in
theorem gainAngs_c (w : World) : Calls Tryz.prog 236 #[] w fun e w' => ∃ B c, e = .returned (.slice (some ⟨B, 0, none⟩) 45 45) ∧ w.heap.size ≤ B ∧ CellsAt w' B 3 c ∧ (∀ j, j < 45 → c[j]? = some (.int .i64 (ang j))) ∧ Gr w w' := by
 have infoI : (Tryz.prog.info? 3).map (fun i => (i.zero, i.size, i.bytes)) = some (some (.int .i64 0), 1, 8) := by kernel_rfl
 have hmk := run_make_row' (P := Tryz.prog) 22 3 (.int .i64 0) 8 Tryz.underlying22 infoI rfl .i64 .i64 45 (by decide) (by decide)
 rw [show ((45 : Nat) : Int) = 45 from rfl] at hmk
 clear infoI
 go_enter Tryz.func236, Tryz.ntmps236
 go_wp2_with fail
 have M0 := MadeAt.start w (.int .i64 0) 45 3
 go_loopw [2, 6] (fun _ i wr => ∃ k : Nat, ∃ c : Array Value, k ≤ 45 ∧ i = .int .i64 k ∧ CellsAt wr w.heap.size 3 c ∧ c.size = 45 ∧ (∀ j, j < k → c[j]? = some (.int .i64 (ang j))) ∧ Gr w wr)
  (fun _ i _ => 45 - (intOf i).toNat)
 case atStart => exact ⟨0, _, by omega, rfl, M0.1, M0.2, fun j hj => absurd hj (Nat.not_lt_zero _), (Gr.refl _).alloc _ _⟩
 case round =>
  clear M0 hmk
  obtain ⟨k, c, hk, rfl, hC, hs, hj, hg⟩ := hrel
  by_cases hlt : k < 45
  ·have HA := Lib.hid (gainAngle_c k hlt)
   have HS := Lib.hid hs
   have HJ := Lib.hid hj
   clear hs hj
   go_wp2_with fail
   refine (HA.out _).mono ?_
   rintro e w2 ⟨rfl, hg2⟩
   have hC2 := hC.gr hg2
   have f2 := hC2.frozen k
   have q2 := hC2.cell k
   have hg3 := hg.trans hg2
   rw [Array.getElem?_eq_getElem (show k < c.size by rw [HS.out]; exact hlt)] at q2
   clear hC hg2 hg HA
   go_wp2_with fail
   have hC3 := hC2.set k (.int .i64 (ang k))
   have hg4 := hg3.setCell (a := ⟨w.heap.size, k, none⟩) (by simp) (.int .i64 (ang k))
   go_roundw
   case rel =>
    refine ⟨k + 1, _, by omega, by go_num, hC3, by simpa using HS.out, fun j hj => ?_, hg4⟩
    rw [Array.getElem?_setIfInBounds]
    split
    ·next e => subst e; rw [if_pos (by rw [HS.out]; exact hlt)]
    ·exact HJ.out j (by omega)
   case measure => simp [intOf]; omega
  ·have he : k = 45 := by omega
   subst he
   go_wp2_with fail
   go_ret
   exact ⟨w.heap.size, c, rfl, Nat.le_refl _, hC, hj, hg⟩
set_option maxHeartbeats 2000000 in
theorem gainTurned_c (x z : Int) (h0 : 0 ≤ x) (h1 : x ≤ 144115188075855872) (hz : z.natAbs ≤ 72057594037927936) (w : World) :
 CW 232 #[.int .i64 x, .int .i64 z] w (.tuple #[.agg #[.int .i64 (trun 45 ⟨x, 0, z⟩).re, .int .i64 (trun 45 ⟨x, 0, z⟩).im], .int .i64 (trun 45 ⟨x, 0, z⟩).left]) :=by
 delta CW
 have HA := Lib.hid gainAngs_c
 have HB := Lib.hid fun k (hk : k ≤ 45) => trun_bd x z h0 h1 hz k hk
 clear h0 h1 hz
 go_enter Tryz.func232, Tryz.ntmps232
 go_wp2_with fail
 have R0 := (CellsAt.new w 50 #[.int .i64 0, .int .i64 0]).alloc (.cells #[.int .i64 x, .int .i64 0] 50)
 have R1 := CellsAt.new (w.alloc (.cells #[.int .i64 0, .int .i64 0] 50)) 50 #[.int .i64 x, .int .i64 0]
 rw [World.size_alloc] at R1
 have G0 := ((Gr.refl w).alloc #[.int .i64 0, .int .i64 0] 50).alloc #[.int .i64 x, .int .i64 0] 50
 refine (HA.out _).mono ?_
 rintro e w1 ⟨B, cs, rfl, hBB, hcs, hj, hg1⟩
 simp only [World.size_alloc] at hBB
 have R0' := R0.gr hg1
 have R1' := R1.gr hg1
 have G1 := G0.trans hg1
 have HC := Lib.hid hj
 clear hj R0 R1 G0 hg1 HA
 go_wp2_with fail
 go_loopw [7, 8, 9, 10, 11, 17] (fun l _ _ _ _ i wr => ∃ k : Nat, k ≤ 45 ∧ i = .int .i64 k ∧ l = .int .i64 (trun k ⟨x, 0, z⟩).left ∧ CellsAt wr w.heap.size 50 #[.int .i64 0, .int .i64 0] ∧ CellsAt wr (w.heap.size + 1) 50 #[.int .i64 (trun k ⟨x, 0, z⟩).re, .int .i64 (trun k ⟨x, 0, z⟩).im] ∧ CellsAt wr B 3 cs ∧ Gr w wr)
  (fun _ _ _ _ _ i _ => 45 - (intOf i).toNat)
 case atStart => exact ⟨0, by omega, rfl, rfl, R0', R1', hcs, G1⟩
 case round =>
  clear R0' R1' hcs
  obtain ⟨k, hk, rfl, rfl, hr0, hr1, hcs, hg'⟩ := hrel
  have q0 := hr1.cell 0
  have q1 := hr1.cell 1
  have f0 := hr1.frozen 0
  have f1 := hr1.frozen 1
  have bd := HB.out k hk
  have et := trun_succ k ⟨x, 0, z⟩
  generalize hs : trun k ⟨x, 0, z⟩ = s at *
  have HQ := Lib.hid hs
  clear hs
  obtain ⟨re, im, left⟩ := s
  simp only [getS] at q0 q1 bd
  have hsz := hg'.size
  by_cases hlt : k < 45
  ·have hcx := (hcs.cell k).trans (HC.out k hlt)
   have hBlt := hcs.lt
   have hk62 : k ≤ 62 := by omega
   have fa := fl_abs re k
   have fb := fl_abs im k
   have ga : re.natAbs / 2 ^ k ≤ re.natAbs := Nat.div_le_self _ _
   have gb : im.natAbs / 2 ^ k ≤ im.natAbs := Nat.div_le_self _ _
   have ba : -1152921504606846977 ≤ re / 2 ^ k ∧ re / 2 ^ k ≤ 1152921504606846977 := by omega
   have bb : -1152921504606846977 ≤ im / 2 ^ k ∧ im / 2 ^ k ≤ 1152921504606846977 := by omega
   have bc : -1152921504606846977 ≤ re ∧ re ≤ 1152921504606846977 := by omega
   have bd' : -1152921504606846977 ≤ im ∧ im ≤ 1152921504606846977 := by omega
   have be : -288230376151711744 ≤ left ∧ left ≤ 288230376151711744 := by omega
   have bf : ((ang k : Nat) : Int) ≤ 144115188075855872 := by have := ang_bd k hlt; omega
   have s1 : Op.shift .shr .i64 re .i64 (k : Int) = pure (.int .i64 (re / 2 ^ k)) := by
    rw [shift_shr .i64 .i64 re k (by omega) (by show (k : Int) ≤ 64; omega), Int.toNat_natCast]
   have s2 : Op.shift .shr .i64 im .i64 (k : Int) = pure (.int .i64 (im / 2 ^ k)) := by
    rw [shift_shr .i64 .i64 im k (by omega) (by show (k : Int) ≤ 64; omega), Int.toNat_natCast]
   clear fa fb ga gb bd
   by_cases hl : 0 ≤ left
   ·have ET : tstep k ⟨re, im, left⟩ = ⟨re - im / 2 ^ k, im + re / 2 ^ k, left - ang k⟩ := by rw [tstep, if_pos (show 0 ≤ left from hl)]
    rw [ET] at et
    clear ET
    have HE := Lib.hid et
    clear et s1 s2
    go_wp2_with fail
    go_quiet (fail)
    go_wp2_with fail
    generalize re / 2 ^ k = a at *
    generalize im / 2 ^ k = c at *
    have n1 := (((hr1.drewN nq).set 0 (.int .i64 (re - c))).set 1 (.int .i64 (im + a)))
    have n0 := ((hr0.drewN nq).other (B' := w.heap.size + 1) (by omega) 0 (.int .i64 (re - c))).other (B' := w.heap.size + 1) (by omega) 1 (.int .i64 (im + a))
    have n2 := ((hcs.drewN nq).other (B' := w.heap.size + 1) (by omega) 0 (.int .i64 (re - c))).other (B' := w.heap.size + 1) (by omega) 1 (.int .i64 (im + a))
    have G3 := ((hg'.drewN nq).setCell (a := ⟨w.heap.size + 1, 0, none⟩) (by simp) (.int .i64 (re - c))).setCell (a := ⟨w.heap.size + 1, 1, none⟩) (by simp) (.int .i64 (im + a))
    refine ⟨⟨k + 1, by omega, by go_num, by rw [HE.out], n0, by rw [HE.out]; exact n1, n2, G3⟩, by simp [intOf]; omega⟩
   ·have ET : tstep k ⟨re, im, left⟩ = ⟨re + im / 2 ^ k, im - re / 2 ^ k, left + ang k⟩ := by rw [tstep, if_neg (show ¬ 0 ≤ left from hl)]
    rw [ET] at et
    clear ET
    have HE := Lib.hid et
    clear et s1 s2
    go_wp2_with fail
    go_quiet (fail)
    go_wp2_with fail
    generalize re / 2 ^ k = a at *
    generalize im / 2 ^ k = c at *
    have n1 := (((hr1.drewN nq).set 0 (.int .i64 (re + c))).set 1 (.int .i64 (im - a)))
    have n0 := ((hr0.drewN nq).other (B' := w.heap.size + 1) (by omega) 0 (.int .i64 (re + c))).other (B' := w.heap.size + 1) (by omega) 1 (.int .i64 (im - a))
    have n2 := ((hcs.drewN nq).other (B' := w.heap.size + 1) (by omega) 0 (.int .i64 (re + c))).other (B' := w.heap.size + 1) (by omega) 1 (.int .i64 (im - a))
    have G3 := ((hg'.drewN nq).setCell (a := ⟨w.heap.size + 1, 0, none⟩) (by simp) (.int .i64 (re + c))).setCell (a := ⟨w.heap.size + 1, 1, none⟩) (by simp) (.int .i64 (im - a))
    refine ⟨⟨k + 1, by omega, by go_num, by rw [HE.out], n0, by rw [HE.out]; exact n1, n2, G3⟩, by simp [intOf]; omega⟩
  ·have he : k = 45 := by omega
   have r0 := hr0.cell 0
   have r1 := hr0.cell 1
   have g0 := hr0.frozen 0
   have g1 := hr0.frozen 1
   simp only [getS] at r0 r1
   subst he
   go_wp2_with fail
   rw [HQ.out]
   refine bodyPost_ret (v := .tuple #[.agg #[.int .i64 re, .int .i64 im], .int .i64 left]) ?_ rfl ⟨rfl, ?_⟩
   ·simp [results, Tryz.f232, go_sem, r0, r1]
   ·exact (hg'.setCell (a := ⟨w.heap.size, 0, none⟩) (by simp) _).setCell (a := ⟨w.heap.size, 1, none⟩) (by simp) _
theorem gainGain_c (w : World) : GainIs w := by
 unfold GainIs
 have HR := Lib.hid (gainTurned_c 72057594037927936 0 (by omega) (by omega) (by decide))
 have HG := Lib.hid gain_run
 go_enter Tryz.func234, Tryz.ntmps234
 go_wp2_with fail
 refine (HR.out _).mono ?_
 rintro e w2 ⟨rfl, hg⟩
 have HQ : (trun 45 ⟨72057594037927936, 0, 0⟩).re = 118661582157481174 := HG.out
 generalize trun 45 ⟨72057594037927936, 0, 0⟩ = s at *
 obtain ⟨re, im, left⟩ := s
 simp only at HQ
 rw [HQ]
 clear HQ
 go_wp2_with fail
 go_ret
 exact ⟨rfl, hg.alloc _ _⟩
theorem gainRun_ok (x z : Int) (h0 : 0 ≤ x) (h1 : x ≤ 144115188075855872) (hz : z.natAbs ≤ 72057594037927936) (W : World) : RunIs x z W := by
 unfold RunIs
 have HR := Lib.hid (gainTurned_c x z h0 h1 hz)
 have z0 : -72057594037927936 ≤ z := by omega
 have z1 : z ≤ 72057594037927936 := by omega
 clear hz
 generalize trun 45 ⟨x, 0, z⟩ = s at *
 obtain ⟨re, im, left⟩ := s
 simp only at HR ⊢
 go_enter Tryz.func228, Tryz.ntmps228
 go_wp2_with fail
 have R0 := CellsAt.new W 50 #[.int .i64 0, .int .i64 0]
 refine (HR.out _).mono ?_
 rintro e w1 ⟨rfl, hg1⟩
 have R1 := R0.gr hg1
 have R2 := R1.alloc (.cells #[.int .i64 re, .int .i64 im] 50)
 have hg2 := (((Gr.refl W).alloc _ _).trans hg1).alloc #[.int .i64 re, .int .i64 im] 50
 have hsz := hg1.size
 simp only [World.size_alloc] at hsz
 have r0 := R2.cell 0
 have r1 := R2.cell 1
 have g0 := R2.frozen 0
 have g1 := R2.frozen 1
 simp only [getS] at r0 r1
 go_wp2_with fail
 refine bodyPost_ret (v := .tuple #[.agg #[.int .i64 re, .int .i64 im], .int .i64 left, .int .i64 0]) ?_ rfl ⟨rfl, ?_⟩
 ·simp [results, Tryz.f228, go_sem, r0, r1]
 ·exact (hg2.setCell (a := ⟨W.heap.size, 0, none⟩) (by simp) _).setCell (a := ⟨W.heap.size, 1, none⟩) (by simp) _
def wstep (d : Nat) (p : Nat × Nat) : Nat × Nat :=
 if d ≤ 2 * p.1 + p.2 / 9223372036854775808 then (2 * p.1 + p.2 / 9223372036854775808 - d, 2 * p.2 % 18446744073709551616 + 1) else (2 * p.1 + p.2 / 9223372036854775808, 2 * p.2 % 18446744073709551616)
def wrun (d : Nat) (p : Nat × Nat) : Nat → Nat × Nat
 | 0 => p
 | k + 1 => wstep d (wrun d p k)
theorem wrun_bd (d : Nat) (p : Nat × Nat) (hd : d ≤ 9223372036854775808) (h1 : p.1 < d) (h2 : p.2 < 18446744073709551616) (k : Nat) : (wrun d p k).1 < d ∧ (wrun d p k).2 < 18446744073709551616 := by
 induction k with
 | zero => exact ⟨h1, h2⟩
 | succ k ih =>
   obtain ⟨i1, i2⟩ := ih
   show (wstep d (wrun d p k)).1 < d ∧ (wstep d (wrun d p k)).2 < 18446744073709551616
   generalize wrun d p k = s at *
   obtain ⟨a, b⟩ := s
   simp only at i1 i2
   unfold wstep
   split <;> simp only <;> omega
theorem doubled_c (h l : Nat) (hh : h < 9223372036854775808) (hl : l < 18446744073709551616) (w : World) :
 CW 237 #[.agg #[.int .u64 h, .int .u64 l]] w (.agg #[.int .u64 ((2 * h + l / 9223372036854775808 : Nat) : Int), .int .u64 ((2 * l % 18446744073709551616 : Nat) : Int)]) :=by
 delta CW
 go_enter Tryz.func237, Tryz.ntmps237
 have eb : bits .or .u64 ((h : Int) * 2) ((l : Int) / 9223372036854775808) = ((2 * h + l / 9223372036854775808 : Nat) : Int) := by
  have := bits_or_u64_nat (2 * h) (l / 9223372036854775808) (by omega) (by omega)
  rw [show ((h : Int) * 2) = ((2 * h : Nat) : Int) by omega, show ((l : Int) / 9223372036854775808) = ((l / 9223372036854775808 : Nat) : Int) by omega, this]
  congr 1
  have l1 : l / 9223372036854775808 < 2 := by omega
  generalize l / 9223372036854775808 = b at *
  have := Nat.two_pow_add_eq_or_of_lt (i := 1) (b := b) (by omega) h
  rw [show (2 : Nat) ^ 1 = 2 from rfl] at this
  omega
 have ew : IntKind.u64.wrap ((l : Int) * 2) = ((2 * l % 18446744073709551616 : Nat) : Int) := by rw [IntKind.wrap_u64]; omega
 go_wp2_with fail
 refine bodyPost_ret (v := .agg #[.int .u64 (2 * (h : Int) + (l : Int) / 9223372036854775808), .int .u64 (2 * (l : Int) % 18446744073709551616)]) ?_ rfl ⟨?_, ?_⟩
 ·simp [results, Tryz.f237, go_sem]
 ·simp
 ·exact ((Gr.refl w).alloc _ _).alloc _ _
theorem wrun_succ (d : Nat) (p : Nat × Nat) (k : Nat) : wrun d p (k + 1) = wstep d (wrun d p k) := rfl
set_option maxRecDepth 10000 in set_option maxHeartbeats 2000000 in
theorem wideDivided_c (d h l : Nat) (hd : d ≤ 9223372036854775808) (h1 : h < d) (h2 : l < 18446744073709551616) (w : World) :
 CW 233 #[.agg #[.int .u64 h, .int .u64 l], .int .u64 d] w (.int .u64 (wrun d (h, l) 64).2) :=by
 delta CW
 have HB := Lib.hid (wrun_bd d (h, l) hd h1 h2)
 have HD0 := Lib.hid hd
 clear h1 h2 hd
 go_enter Tryz.func233, Tryz.ntmps233
 go_wp2_with fail
 have R0 := CellsAt.new w 248 #[.int .u64 h, .int .u64 l]
 go_loopw [5] (fun i wr => ∃ k : Nat, k ≤ 64 ∧ i = .int .i64 k ∧ CellsAt wr w.heap.size 248 #[.int .u64 (wrun d (h, l) k).1, .int .u64 (wrun d (h, l) k).2] ∧ Gr w wr)
  (fun i _ => 64 - (intOf i).toNat)
 case atStart => exact ⟨0, by omega, rfl, R0, (Gr.refl _).alloc _ _⟩
 case round =>
  clear R0
  obtain ⟨k, hk, rfl, hr, hg⟩ := hrel
  have bd := HB.out k
  have et := wrun_succ d (h, l) k
  generalize hs : wrun d (h, l) k = s at *
  have HQ := Lib.hid hs
  clear hs
  obtain ⟨a, b⟩ := s
  simp only at bd
  by_cases hlt : k < 64
  ·have q0 := hr.cell 0
   have q1 := hr.cell 1
   simp only [getS] at q0 q1
   have HD := Lib.hid (doubled_c a b (by have := HD0.out; omega) bd.2)
   unfold wstep at et
   simp only at et
   have u0 : 2 * a + b / 9223372036854775808 < 18446744073709551616 := by have := HD0.out; omega
   have u1 : 2 * b % 18446744073709551616 + 1 < 18446744073709551616 := by omega
   have hBs := hr.lt
   generalize 2 * a + b / 9223372036854775808 = a' at *
   generalize 2 * b % 18446744073709551616 = b' at *
   have HU := Lib.hid (And.intro u0 u1)
   clear bd u0 u1 hBs
   have HT := Lib.hid et
   clear et
   go_wp2_with fail
   refine (HD.out _).mono ?_
   rintro e w2 ⟨rfl, hg2⟩
   have hr2 := hr.gr hg2
   have hg3 := hg.trans hg2
   have f0 := hr2.frozen 0
   have f1 := hr2.frozen 1
   have p0 := hr2.cell 0
   have p1 := hr2.cell 1
   simp only [getS] at p0 p1
   clear hr hg hg2 q0 q1 HD
   by_cases hc : d ≤ a'
   ·have HE := Lib.hid (HT.out.trans (if_pos hc))
    have e1 : IntKind.u64.wrap ((a' : Int) - (d : Int)) = ((a' - d : Nat) : Int) := by have := HU.out; rw [IntKind.wrap_u64]; omega
    have e2 : IntKind.u64.wrap ((b' : Int) + 1) = ((b' + 1 : Nat) : Int) := by have := HU.out; rw [IntKind.wrap_u64]; omega
    have hc' : (d : Int) ≤ (a' : Int) := by omega
    go_wp2_with fail
    have n1 := (((hr2.set 0 (.int .u64 a')).set 1 (.int .u64 b')).set 0 (.int .u64 ((a' - d : Nat) : Int))).set 1 (.int .u64 ((b' : Int) + 1))
    have G3 := (((hg3.setCell (a := ⟨w.heap.size, 0, none⟩) (by simp) (.int .u64 a')).setCell (a := ⟨w.heap.size, 1, none⟩) (by simp) (.int .u64 b')).setCell (a := ⟨w.heap.size, 0, none⟩) (by simp) (.int .u64 ((a' - d : Nat) : Int))).setCell (a := ⟨w.heap.size, 1, none⟩) (by simp) (.int .u64 ((b' : Int) + 1))
    exact ⟨⟨k + 1, by omega, by go_num, by rw [HE.out]; exact n1, G3⟩, by simp [intOf]; omega⟩
   ·have HE := Lib.hid (HT.out.trans (if_neg hc))
    have hc' : ¬ (d : Int) ≤ (a' : Int) := by omega
    go_wp2_with fail
    have n1 := (hr2.set 0 (.int .u64 a')).set 1 (.int .u64 b')
    have G3 := (hg3.setCell (a := ⟨w.heap.size, 0, none⟩) (by simp) (.int .u64 a')).setCell (a := ⟨w.heap.size, 1, none⟩) (by simp) (.int .u64 b')
    exact ⟨⟨k + 1, by omega, by go_num, by rw [HE.out]; exact n1, G3⟩, by simp [intOf]; omega⟩
  ·have he : k = 64 := by omega
   subst he
   have q1 := hr.cell 1
   simp only [getS] at q1
   clear bd et
   go_wp2_with fail
   rw [HQ.out]
   go_ret
   exact ⟨rfl, hg⟩
theorem wrun_inv : wrun 118661582157481174 (281474976710656, 0) 64 = (67367133180445296, 43757185469210200) := by decide +kernel
theorem gainInv_c (w : World) : InvIs w := by
 unfold InvIs
 have G : CR 234 #[] (.int .i64 118661582157481174) := Lib.hid gainGain_c
 have D : CR 233 #[.agg #[.int .u64 281474976710656, .int .u64 0], .int .u64 118661582157481174] (.int .u64 43757185469210200) := Lib.hid fun W => by
  have := wideDivided_c 118661582157481174 281474976710656 0 (by decide) (by decide) (by decide) W
  rw [wrun_inv] at this
  exact this
 have k1 : IntKind.u64.wrap 118661582157481174 = 118661582157481174 := by decide
 have k2 : IntKind.i64.wrap 43757185469210200 = 43757185469210200 := by decide
 go_enter Tryz.func229, Tryz.ntmps229
 go_wp2_with fail
 have c0 : (w.alloc (.cells #[.int .u64 281474976710656, .int .u64 0] 248)).cell? ⟨w.heap.size, 0, none⟩ = some (.int .u64 281474976710656) := by simp
 have c1 : (w.alloc (.cells #[.int .u64 281474976710656, .int .u64 0] 248)).cell? ⟨w.heap.size, 1, none⟩ = some (.int .u64 0) := by simp
 have hg0 := (Gr.refl w).alloc #[.int .u64 281474976710656, .int .u64 0] 248
 have hB : w.heap.size < (w.alloc (.cells #[.int .u64 281474976710656, .int .u64 0] 248)).heap.size := by simp
 generalize w.alloc (.cells #[.int .u64 281474976710656, .int .u64 0] 248) = u at *
 generalize w.heap.size = B at *
 go_region_held3 (fun W => W.cell? ⟨B, 0, none⟩ = some (.int .u64 281474976710656) ∧ W.cell? ⟨B, 1, none⟩ = some (.int .u64 0) ∧ Gr u W)
  (first | (go_split_ands; refine ⟨?_, ?_, ?_⟩; (all_goals (first | assumption | exact Gr.refl _ | exact Gr.drew (Gr.refl _) | exact Gr.drew (by assumption) | (go_keep; done) | ((refine (Gr.cell (by assumption) ?_).trans ?_ <;> (first | assumption)); done)))))
  (first | (go_at_call 234; go_split_ands; ((with_reducible refine (G.out _).mono ?_); rintro e w' ⟨rfl, hg⟩; have hgw : Gr u w' := Gr.trans (by first | assumption | exact Gr.drew (Gr.refl _) | exact Gr.drew (by assumption) | exact Gr.refl _) hg)) | (go_at_call 233; go_split_ands; ((with_reducible refine (D.out _).mono ?_); rintro e w' ⟨rfl, hg⟩; have hgw : Gr u w' := Gr.trans (by first | assumption | exact Gr.drew (Gr.refl _) | exact Gr.drew (by assumption) | exact Gr.refl _) hg)))
 have g4 : Gr u w' := by (try go_split_ands); assumption
 go_wp2
 go_ret
 exact ⟨rfl, hg0.trans g4⟩
end
end Go.Proofs.YtdignnmpfkgkoaaGreat
