/- What reference 5's functions answer. · What reference 5's RunOf, Run, Gain, Inverse and May answer. -/
import Derived.Test.YtbdglbpkbpedoaaRef04
import Derived.Test.YtbdglbpkbpedoaaRot
import Derived.Test.YtbdglbpkbpedoaaCxs
namespace Go.Proofs.Ytbdglbpkbpedoaa
open Go.ChangeShapes Go.WideShapes Go.ChangeAt Go.RowKit
set_option linter.unusedVariables false
set_option maxRecDepth 100000

/-- The steps' angles, in order. -/
def angL : List Int := (List.range 45).map (fun j => (ang j : Int))
theorem angL_len : angL.length = 45 := by decide +kernel
theorem angL_at (j : Nat) (h : j < 45) : angL[j]? = some (ang j : Int) := by
  unfold angL
  rw [List.getElem?_map, List.getElem?_range h]; rfl

theorem pow2_c (j : Nat) (h : j ≤ 62) (w : World) : Calls Try.prog 44 #[.int .i64 j] w fun e w' => e = .returned (.int .i64 ((2 ^ j : Nat) : Int)) ∧ w' = w := by
  have := pow_c j (by omega) (by omega) w
  rw [Int.toNat_natCast] at this
  refine this.mono ?_
  rintro e w' ⟨he, hw⟩
  exact ⟨by rw [he]; congr 2, hw⟩

theorem angle05_c (j : Nat) (h : j < 45) (w : World) :
    Calls Try.prog 77 #[.int .i64 j] w fun e w' => e = .returned (.int .i64 (ang j)) ∧ Gr w w' := by
  by_cases h0 : j = 0
  · subst h0
    have HQ := Lib.hid refQuarter_c
    have e : ((ang 0 : Nat) : Int) = 56593902016227522 := by decide +kernel
    rw [e, show ((0 : Nat) : Int) = 0 from rfl]
    clear e h
    go_enter Try.func77, Try.ntmps77
    go_wp2_with (go_at_call 85; refine (HQ.out _).mono ?_; rintro e w1 ⟨rfl, hg1⟩)
    go_ret
    exact ⟨rfl, hg1⟩
  · have e : ang j = arcOf (2 ^ j) := by unfold ang; rw [if_neg h0]
    have p0 : 2 ≤ 2 ^ j := by
      have := Nat.pow_le_pow_right (show 0 < 2 by decide) (show 1 ≤ j by omega)
      omega
    have p1 : 2 ^ j ≤ 17592186044416 := by
      have := Nat.pow_le_pow_right (show 0 < 2 by decide) (show j ≤ 44 by omega)
      omega
    have HP := Lib.hid (pow2_c j (by omega))
    have HA := Lib.hid (refArc_c (2 ^ j) p0 p1)
    rw [← e] at HA
    have hz : ((j : Int) == 0) = false := by simp; omega
    generalize 2 ^ j = p at *
    clear e p0 p1 h0 h
    go_enter Try.func77, Try.ntmps77
    go_wp2_with (first
      | (go_at_call 44; refine (HP.out _).mono ?_; rintro e w1 ⟨rfl, rfl⟩)
      | (go_at_call 86; refine (HA.out _).mono ?_; rintro e w2 ⟨rfl, hg2⟩))
    go_ret
    exact ⟨rfl, hg2⟩

set_option maxRecDepth 10000 in set_option maxHeartbeats 1000000 in
theorem angles05_row (w : World) :
    Calls Try.prog 61 #[] w fun e w' => ∃ v, e = .returned v ∧ w'.ownsRow w.heap.size 3 1 v 45 (angL.map (Value.int .i64)) ∧ Gr w w' := by
  obtain ⟨i0, hi, hz0, hz1, hz2⟩ := info_parts info_int
  go_enter Try.func61, Try.ntmps61
  go_wp2_with fail
  have hs0 : ((w.alloc (.cells #[] 3)).ownsRow w.heap.size 3 1 (.slice (some ⟨w.heap.size, 0, none⟩) 0 0) 0 []) := World.ownsRow_made w #[] 0 (Nat.le_refl _) (by unfold maxLen; omega) (by simp)
  go_loopw [1, 2] (fun v i wr => ∃ j : Nat, j ≤ 45 ∧ i = .int .i64 j ∧ wr.ownsRow w.heap.size 3 1 v j (((List.range j).map (fun j => (ang j : Int))).map (Value.int .i64)) ∧ Gr w wr)
    (fun _ i _ => 45 - (intOf i).toNat)
  case atStart => exact ⟨0, by omega, rfl, hs0, (Gr.refl _).alloc _ _⟩
  case round =>
    clear hs0
    obtain ⟨j, hj, rfl, hrow, hg⟩ := hrel
    by_cases hlt : j < 45
    · have HA := Lib.hid (angle05_c j hlt)
      go_wp2_with fail
      refine (HA.out _).mono ?_
      rintro e wq ⟨rfl, hgq⟩
      have hrow2 := ownsRow_gr hrow hgq
      have hsz := hg.size
      have hsq := hgq.size
      have hg2 := hg.trans hgq
      clear hrow hg hgq HA
      go_wp2_with (at_builtin; refine wpList_append_own _ rfl (.tmp 8) (.tmp 11) 22 rfl w.heap.size 3 i0 (.int .i64 0) 1 8 Try.underlying22 hi hz0 hz1 hz2 rfl (by decide) _ _ _ rfl (hrow2.alloc _) ⟨wq.heap.size, 0, none⟩ 1 1 [.int .i64 (ang j)] rfl rfl (cell_one_new _ _ _) (by simp [Value.oneCell']) (by unfold maxLen; omega) (by omega) (by simp; omega) ?_; intro v' w3 hown' hgrow _)
      have e : ((List.range j).map (fun j => (ang j : Int))).map (Value.int .i64) ++ [.int .i64 (ang j)] = ((List.range (j + 1)).map (fun j => (ang j : Int))).map (Value.int .i64) := by
        rw [List.range_succ, List.map_append, List.map_append]; rfl
      rw [e] at hown'
      have hg3 := (hg2.allocO _).grown hgrow (fun k e => (hrow2.lt k e).1)
      go_roundw
      case rel => exact ⟨j + 1, by omega, by go_num, hown', hg3⟩
      case measure => simp [intOf]; omega
    · have he : j = 45 := by omega
      subst he
      go_wp2_with fail
      go_ret
      exact ⟨_, rfl, hrow, hg⟩

theorem angles05_c (w : World) :
    Calls Try.prog 61 #[] w fun e w' => ∃ v, e = .returned v ∧ IntsAt w' v angL ∧ Gr w w' :=
  (angles05_row w).mono fun _ _ ⟨v, he, hr, hg⟩ => ⟨v, he, IntsAt.of_row hr, hg⟩


theorem floor05 (x : Int) (j : Nat) (h : j ≤ 62) (wx : -9223372036854775808 ≤ x ∧ x ≤ 9223372036854775807) (w : World) :
    Calls Try.prog 54 #[.int .i64 x, .int .i64 j] w fun e w' => e = .returned (.int .i64 (x / 2 ^ j)) ∧ w' = w := by
  have := floor_c x j wx (by omega) (by omega) w
  rwa [Int.toNat_natCast] at this

/-- A turn's value. -/
def TV (s : Tn) : Value := .agg #[.int .i64 s.re, .int .i64 s.im, .int .i64 s.left]

theorem step05_c (j : Nat) (re im left : Int) (hj : j ≤ 62) (h1 : re.natAbs ≤ 1152921504606846976) (h2 : im.natAbs ≤ 1152921504606846976) (h3 : left.natAbs ≤ 288230376151711744) (h4 : ang j ≤ 144115188075855872) (w : World) :
    Calls Try.prog 95 #[.agg #[.int .i64 re, .int .i64 im, .int .i64 left], .int .i64 j, .int .i64 (ang j)] w fun e w' => e = .returned (TV (tstep j ⟨re, im, left⟩)) ∧ Gr w w' := by
  have HA := Lib.hid (floor05 re j hj (by omega))
  have HB := Lib.hid (floor05 im j hj (by omega))
  have fa := fl_abs re j
  have fb := fl_abs im j
  have ga : re.natAbs / 2 ^ j ≤ re.natAbs := Nat.div_le_self _ _
  have gb : im.natAbs / 2 ^ j ≤ im.natAbs := Nat.div_le_self _ _
  have ba : -1152921504606846977 ≤ re / 2 ^ j ∧ re / 2 ^ j ≤ 1152921504606846977 := by omega
  have bb : -1152921504606846977 ≤ im / 2 ^ j ∧ im / 2 ^ j ≤ 1152921504606846977 := by omega
  have bc : -1152921504606846977 ≤ re ∧ re ≤ 1152921504606846977 := by omega
  have bd : -1152921504606846977 ≤ im ∧ im ≤ 1152921504606846977 := by omega
  have be : -288230376151711744 ≤ left ∧ left ≤ 288230376151711744 := by omega
  have bf : ((ang j : Nat) : Int) ≤ 144115188075855872 := by omega
  by_cases hl : 0 ≤ left
  · have ET : TV (tstep j ⟨re, im, left⟩) = .agg #[.int .i64 (re - im / 2 ^ j), .int .i64 (im + re / 2 ^ j), .int .i64 (left - ang j)] := by rw [tstep, if_pos (show 0 ≤ left from hl)]; rfl
    rw [ET]
    generalize re / 2 ^ j = a at *
    generalize im / 2 ^ j = b at *
    clear fa fb ga gb h1 h2 h3 h4 hj ET
    go_enter Try.func95, Try.ntmps95
    go_wp2_with (first
      | (go_at_call 54; with_reducible refine (HA.out _).mono ?_; rintro e w1 ⟨rfl, rfl⟩)
      | (go_at_call 54; with_reducible refine (HB.out _).mono ?_; rintro e w2 ⟨rfl, rfl⟩))
    refine bodyPost_ret (v := .agg #[.int .i64 (re - b), .int .i64 (im + a), .int .i64 (left - ang j)]) ?_ rfl ⟨rfl, ?_⟩
    · simp [results, Try.f95, go_sem]
    · exact ((Gr.refl w).alloc _ _).alloc _ _
  · have hl2 : left < 0 := by omega
    have ET : TV (tstep j ⟨re, im, left⟩) = .agg #[.int .i64 (re + im / 2 ^ j), .int .i64 (im - re / 2 ^ j), .int .i64 (left + ang j)] := by rw [tstep, if_neg (show ¬ 0 ≤ left from hl)]; rfl
    rw [ET]
    generalize re / 2 ^ j = a at *
    generalize im / 2 ^ j = b at *
    clear fa fb ga gb h1 h2 h3 h4 hj ET
    go_enter Try.func95, Try.ntmps95
    go_wp2_with (first
      | (go_at_call 54; with_reducible refine (HA.out _).mono ?_; rintro e w1 ⟨rfl, rfl⟩)
      | (go_at_call 54; with_reducible refine (HB.out _).mono ?_; rintro e w2 ⟨rfl, rfl⟩))
    refine bodyPost_ret (v := .agg #[.int .i64 (re + b), .int .i64 (im - a), .int .i64 (left + ang j)]) ?_ rfl ⟨rfl, ?_⟩
    · simp [results, Try.f95, go_sem]
    · exact ((Gr.refl w).alloc _ _).alloc _ _

end Go.Proofs.Ytbdglbpkbpedoaa

namespace Go.Proofs.Ytbdglbpkbpedoaa
open Go.ChangeShapes Go.WideShapes Go.ChangeAt Go.RowKit
set_option linter.unusedVariables false

theorem trun_succ (k : Nat) (s : Tn) : trun (k + 1) s = tstep k (trun k s) := rfl

set_option maxHeartbeats 2000000 in
theorem runOf05_c (x z : Int) (h0 : 0 ≤ x) (h1 : x ≤ 144115188075855872) (hz : z.natAbs ≤ 72057594037927936) (v : Value) (w : World) (hv : IntsAt w v angL) :
    Calls Try.prog 88 #[v, .int .i64 x, .int .i64 z] w fun e w' => e = .returned (TV (trun 45 ⟨x, 0, z⟩)) ∧ Gr w w' := by
  obtain ⟨b, o, cap, rfl, hlen, hb, hc⟩ := same_len hv (by intro e; have := angL_len; rw [e] at this; exact absurd this (by decide))
  rw [angL_len]
  have HC := Lib.hid fun j (hj : j < 45) => hc j _ (angL_at j hj)
  have HB := Lib.hid fun k (hk : k ≤ 45) => trun_bd x z h0 h1 hz k hk
  clear hc hv hlen h0 h1 hz
  go_enter Try.func88, Try.ntmps88
  go_wp2_with fail
  have HR0 := CellsAt.new w 98 #[.int .i64 0, .int .i64 0, .int .i64 0]
  have HR1 := CellsAt.new (w.alloc (.cells #[.int .i64 0, .int .i64 0, .int .i64 0] 98)) 98 #[.int .i64 x, .int .i64 0, .int .i64 z]
  rw [World.size_alloc] at HR1
  have HR0' := HR0.alloc (.cells #[.int .i64 x, .int .i64 0, .int .i64 z] 98)
  have G0 : Gr w ((w.alloc (.cells #[.int .i64 0, .int .i64 0, .int .i64 0] 98)).alloc (.cells #[.int .i64 x, .int .i64 0, .int .i64 z] 98)) := ((Gr.refl w).alloc _ _).alloc _ _
  go_loopw [16] (fun i wr => ∃ k : Nat, k ≤ 45 ∧ i = .int .i64 k ∧ CellsAt wr w.heap.size 98 #[.int .i64 0, .int .i64 0, .int .i64 0] ∧ CellsAt wr (w.heap.size + 1) 98 #[.int .i64 (trun k ⟨x, 0, z⟩).re, .int .i64 (trun k ⟨x, 0, z⟩).im, .int .i64 (trun k ⟨x, 0, z⟩).left] ∧ Gr w wr)
    (fun i _ => 45 - (intOf i).toNat)
  case atStart => exact ⟨0, by omega, rfl, HR0', HR1, G0⟩
  case round =>
    clear HR0 HR1 HR0' G0
    obtain ⟨k, hk, rfl, hr0, hr1, hg⟩ := hrel
    have q0 := hr1.cell 0
    have q1 := hr1.cell 1
    have q2 := hr1.cell 2
    have bd := HB.out k hk
    have et := trun_succ k ⟨x, 0, z⟩
    generalize hs : trun k ⟨x, 0, z⟩ = s at *
    have HQ := Lib.hid hs
    clear hs
    obtain ⟨re, im, left⟩ := s
    simp only [List.getElem?_toArray, List.getElem?_cons_zero, List.getElem?_cons_succ] at q0 q1 q2 bd
    by_cases hlt : k < 45
    · have hcx := (hg.cell (p := ⟨b, o + k, none⟩) hb).trans (HC.out k hlt)
      have HS := Lib.hid (step05_c k re im left (by omega) bd.1 bd.2.1 bd.2.2 (ang_bd k hlt))
      rw [← et] at HS
      have hlen := Lib.hid hr1.lt
      clear et bd
      go_wp2_with fail
      refine (HS.out _).mono ?_
      rintro e w2 ⟨rfl, hg2⟩
      have p0 := hr0.gr hg2
      have p1 := hr1.gr hg2
      have c0 := p1.cell 0
      have c1 := p1.cell 1
      have c2 := p1.cell 2
      have f0 := p1.frozen 0
      have f1 := p1.frozen 1
      have f2 := p1.frozen 2
      have hg' := hg.trans hg2
      have hsz := hg.size
      clear q0 q1 q2 hr0 hr1 hcx HS hlen hg hg2
      simp only [List.getElem?_toArray, List.getElem?_cons_zero, List.getElem?_cons_succ] at c0 c1 c2
      obtain ⟨s', hs'⟩ : ∃ s', trun (k + 1) ⟨x, 0, z⟩ = s' := ⟨_, rfl⟩
      have HS' := Lib.hid hs'
      rw [hs']
      clear hs'
      obtain ⟨re', im', left'⟩ := s'
      unfold TV
      have b0 : w.heap.size + 1 ≠ w.heap.size := by omega
      go_wp2_with fail
      have n1 := ((p1.set 0 (.int .i64 re')).set 1 (.int .i64 im')).set 2 (.int .i64 left')
      have n0 := ((p0.other (B' := w.heap.size + 1) (by omega) 0 (.int .i64 re')).other (B' := w.heap.size + 1) (by omega) 1 (.int .i64 im')).other (B' := w.heap.size + 1) (by omega) 2 (.int .i64 left')
      have G3 := ((hg'.setCell (a := ⟨w.heap.size + 1, 0, none⟩) (by simp) (.int .i64 re')).setCell (a := ⟨w.heap.size + 1, 1, none⟩) (by simp) (.int .i64 im')).setCell (a := ⟨w.heap.size + 1, 2, none⟩) (by simp) (.int .i64 left')
      go_roundw
      case rel => exact ⟨k + 1, by omega, by go_num, n0, by rw [HS'.out]; exact n1, G3⟩
      case measure => simp [intOf]; omega
    · have he : k = 45 := by omega
      have r0 := hr0.cell 0
      have r1 := hr0.cell 1
      have r2 := hr0.cell 2
      have f0 := hr0.frozen 0
      have f1 := hr0.frozen 1
      have f2 := hr0.frozen 2
      simp only [List.getElem?_toArray, List.getElem?_cons_zero, List.getElem?_cons_succ] at r0 r1 r2
      subst he
      go_wp2_with fail
      refine bodyPost_ret (v := .agg #[.int .i64 re, .int .i64 im, .int .i64 left]) ?_ rfl ⟨by rw [HQ.out]; rfl, ?_⟩
      · simp [results, Try.f88, go_sem, r0, r1, r2]
      · exact ((hg.setCell (a := ⟨w.heap.size, 0, none⟩) (by simp) _).setCell (a := ⟨w.heap.size, 1, none⟩) (by simp) _).setCell (a := ⟨w.heap.size, 2, none⟩) (by simp) _

theorem run05_c (x z : Int) (h0 : 0 ≤ x) (h1 : x ≤ 144115188075855872) (hz : z.natAbs ≤ 72057594037927936) (w : World) :
    Calls Try.prog 87 #[.int .i64 x, .int .i64 z] w fun e w' => e = .returned (TV (trun 45 ⟨x, 0, z⟩)) ∧ Gr w w' := by
  have HA := Lib.hid angles05_c
  have HR := Lib.hid fun v => runOf05_c x z h0 h1 hz v
  clear h0 h1 hz
  go_enter Try.func87, Try.ntmps87
  go_wp2_with fail
  have R0 := CellsAt.new w 98 #[.int .i64 0, .int .i64 0, .int .i64 0]
  refine (HA.out _).mono ?_
  rintro e w1 ⟨v, rfl, hI, hg1⟩
  have R1 := R0.gr hg1
  have hg2 := Gr.trans ((Gr.refl w).alloc _ _) hg1
  clear R0 hg1
  have HI := Lib.hid hI
  clear hI
  go_wp2_with fail
  refine (HR.out v w1 HI.out).mono ?_
  rintro e w2 ⟨rfl, hg3⟩
  have R2 := R1.gr hg3
  have hg4 := hg2.trans hg3
  have hsz := hg4.size
  have r0 := R2.cell 0
  have r1 := R2.cell 1
  have r2 := R2.cell 2
  have f0 := R2.frozen 0
  have f1 := R2.frozen 1
  have f2 := R2.frozen 2
  simp only [List.getElem?_toArray, List.getElem?_cons_zero, List.getElem?_cons_succ] at r0 r1 r2
  clear hg2 hg3 R1 R2
  obtain ⟨s, hs⟩ : ∃ s, trun 45 ⟨x, 0, z⟩ = s := ⟨_, rfl⟩
  have HQ := Lib.hid hs
  rw [hs]
  clear hs
  obtain ⟨re, im, left⟩ := s
  unfold TV
  go_wp2_with fail
  refine bodyPost_ret (v := .agg #[.int .i64 re, .int .i64 im, .int .i64 left]) ?_ rfl ⟨by rw [HQ.out]; rfl, ?_⟩
  · simp [results, Try.f87, go_sem, r0, r1, r2]
  · exact ((hg4.setCell (a := ⟨w.heap.size, 0, none⟩) (by simp) _).setCell (a := ⟨w.heap.size, 1, none⟩) (by simp) _).setCell (a := ⟨w.heap.size, 2, none⟩) (by simp) _

theorem field_P (re im left : Int) (w : World) : (Instr.field 98 (.agg #[.int .i64 re, .int .i64 im, .int .i64 left]) 0).run Try.prog w = .ok (.agg #[.int .i64 re, .int .i64 im]) w := by kernel_rfl
theorem field_Left (re im left : Int) (w : World) : (Instr.field 98 (.agg #[.int .i64 re, .int .i64 im, .int .i64 left]) 1).run Try.prog w = .ok (.int .i64 left) w := by kernel_rfl
theorem field_Re (re im : Int) (w : World) : (Instr.field 57 (.agg #[.int .i64 re, .int .i64 im]) 0).run Try.prog w = .ok (.int .i64 re) w := by kernel_rfl
theorem field_Im (re im : Int) (w : World) : (Instr.field 57 (.agg #[.int .i64 re, .int .i64 im]) 1).run Try.prog w = .ok (.int .i64 im) w := by kernel_rfl

theorem gain05_c (w : World) : Calls Try.prog 78 #[] w fun e w' => e = .returned (.int .i64 118661582157481174) ∧ Gr w w' := by
  have HP := Lib.hid pow56
  have HR := Lib.hid (run05_c 72057594037927936 0 (by omega) (by omega) (by decide))
  have HG := Lib.hid gain_run
  go_enter Try.func78, Try.ntmps78
  go_wp2_with (go_at_call 44; refine (HP.out _).mono ?_; rintro e w1 ⟨rfl, rfl⟩)
  refine (HR.out _).mono ?_
  rintro e w2 ⟨rfl, hg⟩
  have HQ : (trun 45 ⟨72057594037927936, 0, 0⟩).re = 118661582157481174 := HG.out
  generalize trun 45 ⟨72057594037927936, 0, 0⟩ = s at *
  obtain ⟨re, im, left⟩ := s
  simp only at HQ
  subst HQ
  unfold TV
  have hf := field_P
  have hf2 := field_Re
  go_wp2_with fail
  go_ret
  exact ⟨rfl, hg⟩

/-- A long division of 2^112, bit by bit: what is left, and the quotient. -/
def dv : Nat → Nat × Nat
  | 0 => (72057594037927936, 0)
  | k + 1 => if 118661582157481174 ≤ 2 * (dv k).1 then (2 * (dv k).1 - 118661582157481174, 2 * (dv k).2 + 1) else (2 * (dv k).1, 2 * (dv k).2)
set_option maxRecDepth 100000 in
theorem dv_all : (List.range 57).all (fun k => Nat.ble (dv k).1 118661582157481174 && Nat.ble (dv k).2 72057594037927936) = true := by decide +kernel
set_option maxRecDepth 100000 in
theorem dv_56 : (dv 56).2 = 43757185469210200 := by decide +kernel

set_option maxRecDepth 10000 in
theorem inverse05_c (w : World) : Calls Try.prog 62 #[] w fun e w' => e = .returned (.int .i64 43757185469210200) ∧ Gr w w' := by
  have HP := Lib.hid pow56
  have HG := Lib.hid gain05_c
  go_enter Try.func62, Try.ntmps62
  go_wp2_with (first
    | (go_at_call 78; refine (HG.out _).mono ?_; rintro e w1 ⟨rfl, hg1⟩)
    | (go_at_call 44; refine (HP.out _).mono ?_; rintro e w2 ⟨rfl, rfl⟩))
  go_loop [2, 3, 4] (fun l q i => ∃ k : Nat, k ≤ 56 ∧ i = .int .i64 k ∧ l = .int .i64 (dv k).1 ∧ q = .int .i64 (dv k).2) (fun _ _ i => 56 - (intOf i).toNat)
  case atStart => exact ⟨0, by omega, rfl, rfl, rfl⟩
  case round =>
    obtain ⟨k, hk, rfl, rfl, rfl⟩ := hrel
    by_cases hlt : k < 56
    · have hd := List.all_eq_true.1 dv_all k (List.mem_range.2 (by omega))
      simp only [Bool.and_eq_true, Nat.ble_eq] at hd
      obtain ⟨d1, d2⟩ := hd
      have k1 : (k : Int) < 56 := by omega
      by_cases hc : 118661582157481174 ≤ 2 * (dv k).1
      · have E : dv (k + 1) = (2 * (dv k).1 - 118661582157481174, 2 * (dv k).2 + 1) := by rw [dv, if_pos hc]
        have HE := Lib.hid E
        have hc' : (118661582157481174 : Int) ≤ 2 * ((dv k).1 : Int) := by omega
        clear E hc
        generalize dv k = p at *
        obtain ⟨l, q⟩ := p
        simp only at *
        have e1 : (l : Int) ≤ 118661582157481174 := by omega
        have e2 : (q : Int) ≤ 72057594037927936 := by omega
        clear d1 d2 hlt hk
        go_wp2_with fail
        go_round
        case rel => exact ⟨k + 1, by omega, by go_num, congrArg (Value.int .i64) (by rw [HE.out]; simp only; omega), congrArg (Value.int .i64) (by rw [HE.out]; simp only; omega)⟩
        case measure => simp [intOf]; omega
      · have E : dv (k + 1) = (2 * (dv k).1, 2 * (dv k).2) := by rw [dv, if_neg hc]
        have HE := Lib.hid E
        have hc' : decide ((118661582157481174 : Int) ≤ 2 * ((dv k).1 : Int)) = false := by simp only [decide_eq_false_iff_not]; omega
        clear E hc
        generalize dv k = p at *
        obtain ⟨l, q⟩ := p
        simp only at *
        have e1 : (l : Int) ≤ 118661582157481174 := by omega
        have e2 : (q : Int) ≤ 72057594037927936 := by omega
        clear d1 d2 hlt hk
        go_wp2_with fail
        go_round
        case rel => exact ⟨k + 1, by omega, by go_num, congrArg (Value.int .i64) (by rw [HE.out]; simp only; omega), congrArg (Value.int .i64) (by rw [HE.out]; simp only; omega)⟩
        case measure => simp [intOf]; omega
    · have he : k = 56 := by omega
      have e2 : ((dv k).2 : Int) = 43757185469210200 := by rw [he, dv_56]; rfl
      have e3 : (56 : Int) ≤ (k : Int) := by omega
      rw [e2]
      generalize dv k = p at *
      obtain ⟨l, q⟩ := p
      clear he hlt e2
      go_wp2_with fail
      go_ret
      exact ⟨rfl, hg1⟩

end Go.Proofs.Ytbdglbpkbpedoaa
