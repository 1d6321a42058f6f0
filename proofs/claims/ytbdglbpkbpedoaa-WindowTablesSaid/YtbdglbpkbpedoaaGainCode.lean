/- What math/bits' Mul64 and Add64 answer, at this program. · The helpers of law 5. · GainTells: the walks of its two cases, by what the code's functions answer. · What package gain's functions answer. -/
import Derived.Test.YtbdglbpkbpedoaaFns
import Derived.Test.YtbdglbpkbpedoaaGain
import Derived.Shelf.Bits.Mul64
import Derived.Shelf.Spec.BitsCarry
import Derived.Sort.QuietIn
import Derived.Deep.OwnRows
import Derived.Laws.Bits64b
namespace Go.Proofs.Ytbdglbpkbpedoaa
open Go.ChangeShapes Go.WideShapes Go.ChangeAt Go.RowKit Go.Shelf
set_option linter.unusedVariables false
set_option maxRecDepth 100000

end Go.Proofs.Ytbdglbpkbpedoaa

namespace Go.Proofs.Ytbdglbpkbpedoaa
open Go.ChangeShapes Go.WideShapes Go.ChangeAt Go.RowKit
set_option linter.unusedVariables false

theorem square_nums (a b m : Nat) (hm : m = 256) (h0 : 5192296858534827628530496329220096 - 590295810358705651712 ≤ a * a + b * b) (h1 : a * a + b * b ≤ 5192296858534827628530496329220096 + 590295810358705651712) (p q : Nat) (hp : a * a = p) (hq : b * b = q) :
    281474976710656 - 256 ≤ p / 18446744073709551616 + q / 18446744073709551616 + (p % 18446744073709551616 + q % 18446744073709551616) / 18446744073709551616 ∧ p / 18446744073709551616 + q / 18446744073709551616 + (p % 18446744073709551616 + q % 18446744073709551616) / 18446744073709551616 ≤ 281474976710656 + 256 := by
  rw [hp, hq] at h0 h1
  omega

/-- What the code's functions answer, as the law asks it. -/
def AngIs (W : World) : Prop := Calls Try.prog 107 #[] W fun e w' => ∃ v, e = .returned v ∧ IntsAt w' v angL ∧ Gr W w'
def GainIs (W : World) : Prop := Calls Try.prog 106 #[] W fun e w' => e = .returned (.int .i64 118661582157481174) ∧ Gr W w'
def InvIs (W : World) : Prop := Calls Try.prog 100 #[] W fun e w' => e = .returned (.int .i64 43757185469210200) ∧ Gr W w'

end Go.Proofs.Ytbdglbpkbpedoaa

namespace Go.Proofs.Ytbdglbpkbpedoaa
open Go.ChangeShapes Go.WideShapes Go.ChangeAt Go.RowKit
set_option linter.unusedVariables false

def RunIs (x z : Int) (W : World) : Prop := Calls Try.prog 99 #[.int .i64 x, .int .i64 z] W fun e w' => e = .returned (.tuple #[.agg #[.int .i64 (trun 45 ⟨x, 0, z⟩).re, .int .i64 (trun 45 ⟨x, 0, z⟩).im], .int .i64 (trun 45 ⟨x, 0, z⟩).left, .int .i64 0]) ∧ Gr W w'
def RunNot (x z : Int) (W : World) : Prop := Calls Try.prog 99 #[.int .i64 x, .int .i64 z] W fun e w' => e = .returned (.tuple #[.agg #[.int .i64 0, .int .i64 0], .int .i64 0, .int .i64 2]) ∧ Gr W w'

theorem angL_ne : angL ≠ [] := by intro e; have := angL_len; rw [e] at this; exact absurd this (by decide)

end Go.Proofs.Ytbdglbpkbpedoaa

namespace Go.Proofs.Ytbdglbpkbpedoaa
open Go.ChangeShapes Go.WideShapes Go.ChangeAt Go.RowKit
set_option linter.unusedVariables false

theorem gainAngle_c (j : Nat) (h : j < 45) (w : World) :
    Calls Try.prog 109 #[.int .i64 j] w fun e w' => e = .returned (.int .i64 (ang j)) ∧ Gr w w' := by
  by_cases h0 : j = 0
  · subst h0
    have HQ := Lib.hid quarter_c
    have e : ((ang 0 : Nat) : Int) = 56593902016227522 := by decide +kernel
    rw [e, show ((0 : Nat) : Int) = 0 from rfl]
    clear e h
    go_enter Try.func109, Try.ntmps109
    go_wp2_with (go_at_call 90; refine (HQ.out _).mono ?_; rintro e w1 ⟨rfl, hg1⟩)
    go_ret
    exact ⟨rfl, hg1⟩
  · have e : ang j = arcOf (2 ^ j) := by unfold ang; rw [if_neg h0]
    have p0 : 2 ≤ 2 ^ j := by
      have := Nat.pow_le_pow_right (show 0 < 2 by decide) (show 1 ≤ j by omega)
      omega
    have p1 : 2 ^ j ≤ 17592186044416 := by
      have := Nat.pow_le_pow_right (show 0 < 2 by decide) (show j ≤ 44 by omega)
      omega
    have HA := Lib.hid (arc_ok (2 ^ j) p0 p1)
    rw [← e] at HA
    have hz : ((j : Int) == 0) = false := by simp; omega
    have hn : (0 : Int) ≤ (j : Int) := by omega
    have ep : wrap64 ((2 : Int) ^ j) = ((2 ^ j : Nat) : Int) := by
      rw [IntWalk.wrap64_in _ (by rw [show (2 : Int) ^ j = ((2 ^ j : Nat) : Int) by simp]; omega)]; simp
    rw [← ep] at HA
    clear e p0 h0 p1 ep
    go_enter Try.func109, Try.ntmps109
    go_wp2_with (go_at_call 110; refine (HA.out _).mono ?_; rintro e w2 ⟨rfl, hg2⟩)
    go_ret
    exact ⟨rfl, hg2⟩

set_option maxHeartbeats 1000000 in
theorem gainAngs_c (w : World) : Calls Try.prog 107 #[] w fun e w' => ∃ B c, e = .returned (.slice (some ⟨B, 0, none⟩) 45 45) ∧ w.heap.size ≤ B ∧ CellsAt w' B 3 c ∧ (∀ j, j < 45 → c[j]? = some (.int .i64 (ang j))) ∧ Gr w w' := by
  have infoI : (Try.prog.info? 3).map (fun i => (i.zero, i.size, i.bytes)) = some (some (.int .i64 0), 1, 8) := by kernel_rfl
  have hmk := run_make_row' (P := Try.prog) 22 3 (.int .i64 0) 8 Try.underlying22 infoI rfl .i64 .i64 45 (by decide) (by decide)
  rw [show ((45 : Nat) : Int) = 45 from rfl] at hmk
  clear infoI
  go_enter Try.func107, Try.ntmps107
  go_wp2_with fail
  have M0 := MadeAt.start w (.int .i64 0) 45 3
  go_loopw [2, 6] (fun _ i wr => ∃ k : Nat, ∃ c : Array Value, k ≤ 45 ∧ i = .int .i64 k ∧ CellsAt wr w.heap.size 3 c ∧ c.size = 45 ∧ (∀ j, j < k → c[j]? = some (.int .i64 (ang j))) ∧ Gr w wr)
    (fun _ i _ => 45 - (intOf i).toNat)
  case atStart => exact ⟨0, _, by omega, rfl, M0.1, M0.2, fun j hj => absurd hj (Nat.not_lt_zero _), (Gr.refl _).alloc _ _⟩
  case round =>
    clear M0 hmk
    obtain ⟨k, c, hk, rfl, hC, hs, hj, hg⟩ := hrel
    by_cases hlt : k < 45
    · have HA := Lib.hid (gainAngle_c k hlt)
      have HS := Lib.hid hs
      have HJ := Lib.hid hj
      clear hs hj
      go_wp2_with fail
      refine (HA.out _).mono ?_
      rintro e w2 ⟨rfl, hg2⟩
      have hC2 := hC.gr hg2
      have f2 := hC2.frozen k
      have q2 := hC2.cell k
      have hg3 := hg.trans hg2
      rw [Array.getElem?_eq_getElem (show k < c.size by rw [HS.out]; exact hlt)] at q2
      clear hC hg2 hg HA
      go_wp2_with fail
      have hC3 := hC2.set k (.int .i64 (ang k))
      have hg4 := hg3.setCell (a := ⟨w.heap.size, k, none⟩) (by simp) (.int .i64 (ang k))
      go_roundw
      case rel =>
        refine ⟨k + 1, _, by omega, by go_num, hC3, by simpa using HS.out, fun j hj => ?_, hg4⟩
        rw [Array.getElem?_setIfInBounds]
        split
        · next e => subst e; rw [if_pos (by rw [HS.out]; exact hlt)]
        · exact HJ.out j (by omega)
      case measure => simp [intOf]; omega
    · have he : k = 45 := by omega
      subst he
      go_wp2_with fail
      go_ret
      exact ⟨w.heap.size, c, rfl, Nat.le_refl _, hC, hj, hg⟩

theorem gainAng_c (w : World) : AngIs w := by
  unfold AngIs
  refine (gainAngs_c w).mono ?_
  rintro e w' ⟨B, c, rfl, hB, hC, hj, hg⟩
  refine ⟨.slice (some ⟨B, 0, none⟩) 45 45, rfl, .inr ⟨B, 0, 45, by rw [angL_len], by rw [angL_len]; decide, by unfold maxLen; omega, hC.lt, fun j x hx => ?_⟩, hg⟩
  have hjl : j < 45 := by
    have := (List.getElem?_eq_some_iff.1 hx).1
    rwa [angL_len] at this
  rw [angL_at j hjl] at hx
  obtain rfl := Option.some.inj hx
  rw [hC.cell, Nat.zero_add]
  exact hj j hjl

set_option maxHeartbeats 2000000 in
theorem gainTurned_c (x z : Int) (h0 : 0 ≤ x) (h1 : x ≤ 144115188075855872) (hz : z.natAbs ≤ 72057594037927936) (w : World) :
    Calls Try.prog 104 #[.int .i64 x, .int .i64 z] w fun e w' => e = .returned (.tuple #[.agg #[.int .i64 (trun 45 ⟨x, 0, z⟩).re, .int .i64 (trun 45 ⟨x, 0, z⟩).im], .int .i64 (trun 45 ⟨x, 0, z⟩).left]) ∧ Gr w w' := by
  have HA := Lib.hid gainAngs_c
  have HB := Lib.hid fun k (hk : k ≤ 45) => trun_bd x z h0 h1 hz k hk
  clear h0 h1 hz
  go_enter Try.func104, Try.ntmps104
  go_wp2_with fail
  have R0 := (CellsAt.new w 57 #[.int .i64 0, .int .i64 0]).alloc (.cells #[.int .i64 x, .int .i64 0] 57)
  have R1 := CellsAt.new (w.alloc (.cells #[.int .i64 0, .int .i64 0] 57)) 57 #[.int .i64 x, .int .i64 0]
  rw [World.size_alloc] at R1
  have G0 := ((Gr.refl w).alloc #[.int .i64 0, .int .i64 0] 57).alloc #[.int .i64 x, .int .i64 0] 57
  refine (HA.out _).mono ?_
  rintro e w1 ⟨B, cs, rfl, hBB, hcs, hj, hg1⟩
  simp only [World.size_alloc] at hBB
  have R0' := R0.gr hg1
  have R1' := R1.gr hg1
  have G1 := G0.trans hg1
  have HC := Lib.hid hj
  clear hj R0 R1 G0 hg1 HA
  go_wp2_with fail
  go_loopw [7, 8, 9, 10, 11, 17] (fun l _ _ _ _ i wr => ∃ k : Nat, k ≤ 45 ∧ i = .int .i64 k ∧ l = .int .i64 (trun k ⟨x, 0, z⟩).left ∧ CellsAt wr w.heap.size 57 #[.int .i64 0, .int .i64 0] ∧ CellsAt wr (w.heap.size + 1) 57 #[.int .i64 (trun k ⟨x, 0, z⟩).re, .int .i64 (trun k ⟨x, 0, z⟩).im] ∧ CellsAt wr B 3 cs ∧ Gr w wr)
    (fun _ _ _ _ _ i _ => 45 - (intOf i).toNat)
  case atStart => exact ⟨0, by omega, rfl, rfl, R0', R1', hcs, G1⟩
  case round =>
    clear R0' R1' hcs
    obtain ⟨k, hk, rfl, rfl, hr0, hr1, hcs, hg'⟩ := hrel
    have q0 := hr1.cell 0
    have q1 := hr1.cell 1
    have f0 := hr1.frozen 0
    have f1 := hr1.frozen 1
    have bd := HB.out k hk
    have et := trun_succ k ⟨x, 0, z⟩
    generalize hs : trun k ⟨x, 0, z⟩ = s at *
    have HQ := Lib.hid hs
    clear hs
    obtain ⟨re, im, left⟩ := s
    simp only [List.getElem?_toArray, List.getElem?_cons_zero, List.getElem?_cons_succ] at q0 q1 bd
    have hsz := hg'.size
    by_cases hlt : k < 45
    · have hcx := (hcs.cell k).trans (HC.out k hlt)
      have hBlt := hcs.lt
      have hk62 : k ≤ 62 := by omega
      have fa := fl_abs re k
      have fb := fl_abs im k
      have ga : re.natAbs / 2 ^ k ≤ re.natAbs := Nat.div_le_self _ _
      have gb : im.natAbs / 2 ^ k ≤ im.natAbs := Nat.div_le_self _ _
      have ba : -1152921504606846977 ≤ re / 2 ^ k ∧ re / 2 ^ k ≤ 1152921504606846977 := by omega
      have bb : -1152921504606846977 ≤ im / 2 ^ k ∧ im / 2 ^ k ≤ 1152921504606846977 := by omega
      have bc : -1152921504606846977 ≤ re ∧ re ≤ 1152921504606846977 := by omega
      have bd' : -1152921504606846977 ≤ im ∧ im ≤ 1152921504606846977 := by omega
      have be : -288230376151711744 ≤ left ∧ left ≤ 288230376151711744 := by omega
      have bf : ((ang k : Nat) : Int) ≤ 144115188075855872 := by have := ang_bd k hlt; omega
      have s1 : Op.shift .shr .i64 re .i64 (k : Int) = pure (.int .i64 (re / 2 ^ k)) := by
        rw [shift_shr .i64 .i64 re k (by omega) (by show (k : Int) ≤ 64; omega), Int.toNat_natCast]
      have s2 : Op.shift .shr .i64 im .i64 (k : Int) = pure (.int .i64 (im / 2 ^ k)) := by
        rw [shift_shr .i64 .i64 im k (by omega) (by show (k : Int) ≤ 64; omega), Int.toNat_natCast]
      clear fa fb ga gb bd
      by_cases hl : 0 ≤ left
      · have ET : tstep k ⟨re, im, left⟩ = ⟨re - im / 2 ^ k, im + re / 2 ^ k, left - ang k⟩ := by rw [tstep, if_pos (show 0 ≤ left from hl)]
        rw [ET] at et
        clear ET
        have HE := Lib.hid et
        clear et s1 s2
        go_wp2_with fail
        go_quiet (fail)
        go_wp2_with fail
        generalize re / 2 ^ k = a at *
        generalize im / 2 ^ k = c at *
        have n1 := (((hr1.drewN nq).set 0 (.int .i64 (re - c))).set 1 (.int .i64 (im + a)))
        have n0 := ((hr0.drewN nq).other (B' := w.heap.size + 1) (by omega) 0 (.int .i64 (re - c))).other (B' := w.heap.size + 1) (by omega) 1 (.int .i64 (im + a))
        have n2 := ((hcs.drewN nq).other (B' := w.heap.size + 1) (by omega) 0 (.int .i64 (re - c))).other (B' := w.heap.size + 1) (by omega) 1 (.int .i64 (im + a))
        have G3 := ((hg'.drewN nq).setCell (a := ⟨w.heap.size + 1, 0, none⟩) (by simp) (.int .i64 (re - c))).setCell (a := ⟨w.heap.size + 1, 1, none⟩) (by simp) (.int .i64 (im + a))
        refine ⟨⟨k + 1, by omega, by go_num, by rw [HE.out], n0, by rw [HE.out]; exact n1, n2, G3⟩, by simp [intOf]; omega⟩
      · have ET : tstep k ⟨re, im, left⟩ = ⟨re + im / 2 ^ k, im - re / 2 ^ k, left + ang k⟩ := by rw [tstep, if_neg (show ¬ 0 ≤ left from hl)]
        rw [ET] at et
        clear ET
        have HE := Lib.hid et
        clear et s1 s2
        go_wp2_with fail
        go_quiet (fail)
        go_wp2_with fail
        generalize re / 2 ^ k = a at *
        generalize im / 2 ^ k = c at *
        have n1 := (((hr1.drewN nq).set 0 (.int .i64 (re + c))).set 1 (.int .i64 (im - a)))
        have n0 := ((hr0.drewN nq).other (B' := w.heap.size + 1) (by omega) 0 (.int .i64 (re + c))).other (B' := w.heap.size + 1) (by omega) 1 (.int .i64 (im - a))
        have n2 := ((hcs.drewN nq).other (B' := w.heap.size + 1) (by omega) 0 (.int .i64 (re + c))).other (B' := w.heap.size + 1) (by omega) 1 (.int .i64 (im - a))
        have G3 := ((hg'.drewN nq).setCell (a := ⟨w.heap.size + 1, 0, none⟩) (by simp) (.int .i64 (re + c))).setCell (a := ⟨w.heap.size + 1, 1, none⟩) (by simp) (.int .i64 (im - a))
        refine ⟨⟨k + 1, by omega, by go_num, by rw [HE.out], n0, by rw [HE.out]; exact n1, n2, G3⟩, by simp [intOf]; omega⟩
    · have he : k = 45 := by omega
      have r0 := hr0.cell 0
      have r1 := hr0.cell 1
      have g0 := hr0.frozen 0
      have g1 := hr0.frozen 1
      simp only [List.getElem?_toArray, List.getElem?_cons_zero, List.getElem?_cons_succ] at r0 r1
      subst he
      go_wp2_with fail
      rw [HQ.out]
      refine bodyPost_ret (v := .tuple #[.agg #[.int .i64 re, .int .i64 im], .int .i64 left]) ?_ rfl ⟨rfl, ?_⟩
      · simp [results, Try.f104, go_sem, r0, r1]
      · exact (hg'.setCell (a := ⟨w.heap.size, 0, none⟩) (by simp) _).setCell (a := ⟨w.heap.size, 1, none⟩) (by simp) _

theorem gainGain_c (w : World) : GainIs w := by
  unfold GainIs
  have HR := Lib.hid (gainTurned_c 72057594037927936 0 (by omega) (by omega) (by decide))
  have HG := Lib.hid gain_run
  go_enter Try.func106, Try.ntmps106
  go_wp2_with fail
  refine (HR.out _).mono ?_
  rintro e w2 ⟨rfl, hg⟩
  have HQ : (trun 45 ⟨72057594037927936, 0, 0⟩).re = 118661582157481174 := HG.out
  generalize trun 45 ⟨72057594037927936, 0, 0⟩ = s at *
  obtain ⟨re, im, left⟩ := s
  simp only at HQ
  rw [HQ]
  clear HQ
  go_wp2_with fail
  go_ret
  exact ⟨rfl, hg.alloc _ _⟩

theorem gainRun_ok (x z : Int) (h0 : 0 ≤ x) (h1 : x ≤ 144115188075855872) (hz : z.natAbs ≤ 72057594037927936) (W : World) : RunIs x z W := by
  unfold RunIs
  have HR := Lib.hid (gainTurned_c x z h0 h1 hz)
  have z0 : -72057594037927936 ≤ z := by omega
  have z1 : z ≤ 72057594037927936 := by omega
  clear hz
  generalize trun 45 ⟨x, 0, z⟩ = s at *
  obtain ⟨re, im, left⟩ := s
  simp only at HR ⊢
  go_enter Try.func99, Try.ntmps99
  go_wp2_with fail
  have R0 := CellsAt.new W 57 #[.int .i64 0, .int .i64 0]
  refine (HR.out _).mono ?_
  rintro e w1 ⟨rfl, hg1⟩
  have R1 := R0.gr hg1
  have R2 := R1.alloc (.cells #[.int .i64 re, .int .i64 im] 57)
  have hg2 := (((Gr.refl W).alloc _ _).trans hg1).alloc #[.int .i64 re, .int .i64 im] 57
  have hsz := hg1.size
  simp only [World.size_alloc] at hsz
  have r0 := R2.cell 0
  have r1 := R2.cell 1
  have g0 := R2.frozen 0
  have g1 := R2.frozen 1
  simp only [List.getElem?_toArray, List.getElem?_cons_zero, List.getElem?_cons_succ] at r0 r1
  go_wp2_with fail
  refine bodyPost_ret (v := .tuple #[.agg #[.int .i64 re, .int .i64 im], .int .i64 left, .int .i64 0]) ?_ rfl ⟨rfl, ?_⟩
  · simp [results, Try.f99, go_sem, r0, r1]
  · exact (hg2.setCell (a := ⟨W.heap.size, 0, none⟩) (by simp) _).setCell (a := ⟨W.heap.size, 1, none⟩) (by simp) _

theorem gainRun_bad (x z : Int) (h : x < 0 ∨ 144115188075855872 < x ∨ z < -72057594037927936 ∨ 72057594037927936 < z) (W : World) : RunNot x z W := by
  unfold RunNot
  by_cases a : x < 0
  · clear h
    go_enter Try.func99, Try.ntmps99
    go_wp2_with fail
    have R0 := CellsAt.new W 57 #[.int .i64 0, .int .i64 0]
    refine bodyPost_ret (v := .tuple #[.agg #[.int .i64 0, .int .i64 0], .int .i64 0, .int .i64 2]) ?_ rfl ⟨rfl, ?_⟩
    · simp [results, Try.f99, go_sem]
    · exact (Gr.refl W).alloc _ _
  · by_cases b : 144115188075855872 < x
    · clear h
      go_enter Try.func99, Try.ntmps99
      go_wp2_with fail
      have R0 := CellsAt.new W 57 #[.int .i64 0, .int .i64 0]
      refine bodyPost_ret (v := .tuple #[.agg #[.int .i64 0, .int .i64 0], .int .i64 0, .int .i64 2]) ?_ rfl ⟨rfl, ?_⟩
      · simp [results, Try.f99, go_sem]
      · exact (Gr.refl W).alloc _ _
    · by_cases c : z < -72057594037927936
      · clear h
        go_enter Try.func99, Try.ntmps99
        go_wp2_with fail
        have R0 := CellsAt.new W 57 #[.int .i64 0, .int .i64 0]
        refine bodyPost_ret (v := .tuple #[.agg #[.int .i64 0, .int .i64 0], .int .i64 0, .int .i64 2]) ?_ rfl ⟨rfl, ?_⟩
        · simp [results, Try.f99, go_sem]
        · exact (Gr.refl W).alloc _ _
      · have d : 72057594037927936 < z := by omega
        clear h
        go_enter Try.func99, Try.ntmps99
        go_wp2_with fail
        have R0 := CellsAt.new W 57 #[.int .i64 0, .int .i64 0]
        refine bodyPost_ret (v := .tuple #[.agg #[.int .i64 0, .int .i64 0], .int .i64 0, .int .i64 2]) ?_ rfl ⟨rfl, ?_⟩
        · simp [results, Try.f99, go_sem]
        · exact (Gr.refl W).alloc _ _

/-- A long division's step, and all of it: what is above, and what is below with the quotient coming in. -/
def wstep (d : Nat) (p : Nat × Nat) : Nat × Nat :=
  if d ≤ 2 * p.1 + p.2 / 9223372036854775808 then (2 * p.1 + p.2 / 9223372036854775808 - d, 2 * p.2 % 18446744073709551616 + 1) else (2 * p.1 + p.2 / 9223372036854775808, 2 * p.2 % 18446744073709551616)
def wrun (d : Nat) (p : Nat × Nat) : Nat → Nat × Nat
  | 0 => p
  | k + 1 => wstep d (wrun d p k)
theorem wrun_bd (d : Nat) (p : Nat × Nat) (hd : d ≤ 9223372036854775808) (h1 : p.1 < d) (h2 : p.2 < 18446744073709551616) (k : Nat) : (wrun d p k).1 < d ∧ (wrun d p k).2 < 18446744073709551616 := by
  induction k with
  | zero => exact ⟨h1, h2⟩
  | succ k ih =>
    obtain ⟨i1, i2⟩ := ih
    show (wstep d (wrun d p k)).1 < d ∧ (wstep d (wrun d p k)).2 < 18446744073709551616
    generalize wrun d p k = s at *
    obtain ⟨a, b⟩ := s
    simp only at i1 i2
    unfold wstep
    split <;> simp only <;> omega

theorem doubled_c (h l : Nat) (hh : h < 9223372036854775808) (hl : l < 18446744073709551616) (w : World) :
    Calls Try.prog 108 #[.agg #[.int .u64 h, .int .u64 l]] w fun e w' => e = .returned (.agg #[.int .u64 ((2 * h + l / 9223372036854775808 : Nat) : Int), .int .u64 ((2 * l % 18446744073709551616 : Nat) : Int)]) ∧ Gr w w' := by
  go_enter Try.func108, Try.ntmps108
  have eb : bits .or .u64 ((h : Int) * 2) ((l : Int) / 9223372036854775808) = ((2 * h + l / 9223372036854775808 : Nat) : Int) := by
    have := bits_or_u64_nat (2 * h) (l / 9223372036854775808) (by omega) (by omega)
    rw [show ((h : Int) * 2) = ((2 * h : Nat) : Int) by omega, show ((l : Int) / 9223372036854775808) = ((l / 9223372036854775808 : Nat) : Int) by omega, this]
    congr 1
    have l1 : l / 9223372036854775808 < 2 := by omega
    generalize l / 9223372036854775808 = b at *
    have := Nat.two_pow_add_eq_or_of_lt (i := 1) (b := b) (by omega) h
    rw [show (2 : Nat) ^ 1 = 2 from rfl] at this
    omega
  have ew : IntKind.u64.wrap ((l : Int) * 2) = ((2 * l % 18446744073709551616 : Nat) : Int) := by rw [IntKind.wrap_u64]; omega
  go_wp2_with fail
  refine bodyPost_ret (v := .agg #[.int .u64 (2 * (h : Int) + (l : Int) / 9223372036854775808), .int .u64 (2 * (l : Int) % 18446744073709551616)]) ?_ rfl ⟨?_, ?_⟩
  · simp [results, Try.f108, go_sem]
  · simp
  · exact ((Gr.refl w).alloc _ _).alloc _ _

theorem wrun_succ (d : Nat) (p : Nat × Nat) (k : Nat) : wrun d p (k + 1) = wstep d (wrun d p k) := rfl

set_option maxRecDepth 10000 in set_option maxHeartbeats 2000000 in
theorem wideDivided_c (d h l : Nat) (hd : d ≤ 9223372036854775808) (h1 : h < d) (h2 : l < 18446744073709551616) (w : World) :
    Calls Try.prog 105 #[.agg #[.int .u64 h, .int .u64 l], .int .u64 d] w fun e w' => e = .returned (.int .u64 (wrun d (h, l) 64).2) ∧ Gr w w' := by
  have HB := Lib.hid (wrun_bd d (h, l) hd h1 h2)
  have HD0 := Lib.hid hd
  clear h1 h2 hd
  go_enter Try.func105, Try.ntmps105
  go_wp2_with fail
  have R0 := CellsAt.new w 115 #[.int .u64 h, .int .u64 l]
  go_loopw [5] (fun i wr => ∃ k : Nat, k ≤ 64 ∧ i = .int .i64 k ∧ CellsAt wr w.heap.size 115 #[.int .u64 (wrun d (h, l) k).1, .int .u64 (wrun d (h, l) k).2] ∧ Gr w wr)
    (fun i _ => 64 - (intOf i).toNat)
  case atStart => exact ⟨0, by omega, rfl, R0, (Gr.refl _).alloc _ _⟩
  case round =>
    clear R0
    obtain ⟨k, hk, rfl, hr, hg⟩ := hrel
    have bd := HB.out k
    have et := wrun_succ d (h, l) k
    generalize hs : wrun d (h, l) k = s at *
    have HQ := Lib.hid hs
    clear hs
    obtain ⟨a, b⟩ := s
    simp only at bd
    by_cases hlt : k < 64
    · have q0 := hr.cell 0
      have q1 := hr.cell 1
      simp only [List.getElem?_toArray, List.getElem?_cons_zero, List.getElem?_cons_succ] at q0 q1
      have HD := Lib.hid (doubled_c a b (by have := HD0.out; omega) bd.2)
      unfold wstep at et
      simp only at et
      have u0 : 2 * a + b / 9223372036854775808 < 18446744073709551616 := by have := HD0.out; omega
      have u1 : 2 * b % 18446744073709551616 + 1 < 18446744073709551616 := by omega
      have hBs := hr.lt
      generalize 2 * a + b / 9223372036854775808 = a' at *
      generalize 2 * b % 18446744073709551616 = b' at *
      have HU := Lib.hid (And.intro u0 u1)
      clear bd u0 u1 hBs
      have HT := Lib.hid et
      clear et
      go_wp2_with fail
      refine (HD.out _).mono ?_
      rintro e w2 ⟨rfl, hg2⟩
      have hr2 := hr.gr hg2
      have hg3 := hg.trans hg2
      have f0 := hr2.frozen 0
      have f1 := hr2.frozen 1
      have p0 := hr2.cell 0
      have p1 := hr2.cell 1
      simp only [List.getElem?_toArray, List.getElem?_cons_zero, List.getElem?_cons_succ] at p0 p1
      clear hr hg hg2 q0 q1 HD
      by_cases hc : d ≤ a'
      · have HE := Lib.hid (HT.out.trans (if_pos hc))
        have e1 : IntKind.u64.wrap ((a' : Int) - (d : Int)) = ((a' - d : Nat) : Int) := by have := HU.out; rw [IntKind.wrap_u64]; omega
        have e2 : IntKind.u64.wrap ((b' : Int) + 1) = ((b' + 1 : Nat) : Int) := by have := HU.out; rw [IntKind.wrap_u64]; omega
        have hc' : (d : Int) ≤ (a' : Int) := by omega
        go_wp2_with fail
        have n1 := (((hr2.set 0 (.int .u64 a')).set 1 (.int .u64 b')).set 0 (.int .u64 ((a' - d : Nat) : Int))).set 1 (.int .u64 ((b' : Int) + 1))
        have G3 := (((hg3.setCell (a := ⟨w.heap.size, 0, none⟩) (by simp) (.int .u64 a')).setCell (a := ⟨w.heap.size, 1, none⟩) (by simp) (.int .u64 b')).setCell (a := ⟨w.heap.size, 0, none⟩) (by simp) (.int .u64 ((a' - d : Nat) : Int))).setCell (a := ⟨w.heap.size, 1, none⟩) (by simp) (.int .u64 ((b' : Int) + 1))
        exact ⟨⟨k + 1, by omega, by go_num, by rw [HE.out]; exact n1, G3⟩, by simp [intOf]; omega⟩
      · have HE := Lib.hid (HT.out.trans (if_neg hc))
        have hc' : ¬ (d : Int) ≤ (a' : Int) := by omega
        go_wp2_with fail
        have n1 := (hr2.set 0 (.int .u64 a')).set 1 (.int .u64 b')
        have G3 := (hg3.setCell (a := ⟨w.heap.size, 0, none⟩) (by simp) (.int .u64 a')).setCell (a := ⟨w.heap.size, 1, none⟩) (by simp) (.int .u64 b')
        exact ⟨⟨k + 1, by omega, by go_num, by rw [HE.out]; exact n1, G3⟩, by simp [intOf]; omega⟩
    · have he : k = 64 := by omega
      subst he
      have q1 := hr.cell 1
      simp only [List.getElem?_toArray, List.getElem?_cons_zero, List.getElem?_cons_succ] at q1
      clear bd et
      go_wp2_with fail
      rw [HQ.out]
      go_ret
      exact ⟨rfl, hg⟩

theorem wrun_inv : wrun 118661582157481174 (281474976710656, 0) 64 = (67367133180445296, 43757185469210200) := by decide +kernel

theorem gainInv_c (w : World) : InvIs w := by
  unfold InvIs
  have G : Hid (∀ W, Calls Try.prog 106 #[] W fun e w' => e = .returned (.int .i64 118661582157481174) ∧ Gr W w') := Lib.hid gainGain_c
  have D : Hid (∀ W, Calls Try.prog 105 #[.agg #[.int .u64 281474976710656, .int .u64 0], .int .u64 118661582157481174] W fun e w' => e = .returned (.int .u64 43757185469210200) ∧ Gr W w') := Lib.hid fun W => by
    have := wideDivided_c 118661582157481174 281474976710656 0 (by decide) (by decide) (by decide) W
    rw [wrun_inv] at this
    exact this
  have k1 : IntKind.u64.wrap 118661582157481174 = 118661582157481174 := by decide
  have k2 : IntKind.i64.wrap 43757185469210200 = 43757185469210200 := by decide
  go_enter Try.func100, Try.ntmps100
  go_wp2_with fail
  have c0 : (w.alloc (.cells #[.int .u64 281474976710656, .int .u64 0] 115)).cell? ⟨w.heap.size, 0, none⟩ = some (.int .u64 281474976710656) := by simp
  have c1 : (w.alloc (.cells #[.int .u64 281474976710656, .int .u64 0] 115)).cell? ⟨w.heap.size, 1, none⟩ = some (.int .u64 0) := by simp
  have hg0 := (Gr.refl w).alloc #[.int .u64 281474976710656, .int .u64 0] 115
  have hB : w.heap.size < (w.alloc (.cells #[.int .u64 281474976710656, .int .u64 0] 115)).heap.size := by simp
  generalize w.alloc (.cells #[.int .u64 281474976710656, .int .u64 0] 115) = u at *
  generalize w.heap.size = B at *
  go_region_held3 (fun W => W.cell? ⟨B, 0, none⟩ = some (.int .u64 281474976710656) ∧ W.cell? ⟨B, 1, none⟩ = some (.int .u64 0) ∧ Gr u W)
    (first | (go_split_ands; refine ⟨?_, ?_, ?_⟩; (all_goals (first | assumption | exact Gr.refl _ | exact Gr.drew (Gr.refl _) | exact Gr.drew (by assumption) | (go_keep; done) | ((refine (Gr.cell (by assumption) ?_).trans ?_ <;> (first | assumption)); done)))))
    (first | (go_at_call 106; go_split_ands; ((with_reducible refine (G.out _).mono ?_); rintro e w' ⟨rfl, hg⟩; have hgw : Gr u w' := Gr.trans (by first | assumption | exact Gr.drew (Gr.refl _) | exact Gr.drew (by assumption) | exact Gr.refl _) hg)) | (go_at_call 105; go_split_ands; ((with_reducible refine (D.out _).mono ?_); rintro e w' ⟨rfl, hg⟩; have hgw : Gr u w' := Gr.trans (by first | assumption | exact Gr.drew (Gr.refl _) | exact Gr.drew (by assumption) | exact Gr.refl _) hg)))
  have g4 : Gr u w' := by (try go_split_ands); assumption
  go_wp2
  go_ret
  exact ⟨rfl, hg0.trans g4⟩

end Go.Proofs.Ytbdglbpkbpedoaa
