import Derived.Shelf.Bits.Mul64
import Derived.Shelf.Spec.BitsCarry
import Derived.Test.YtdignnmpfkgkoaaGreatGS24
namespace Go.Proofs.YtdignnmpfkgkoaaGreat
section
open Go.ChangeShapes Go.WideShapes Go.ChangeAt Go.RowKit Go.Shelf
set_option linter.unusedVariables false
set_option maxRecDepth 100000
end
section
open Go.ChangeShapes Go.WideShapes Go.ChangeAt Go.RowKit
set_option linter.unusedVariables false
def GainIs (W : World) : Prop := Calls Tryz.prog 234 #[] W fun e w' => e = .returned (.int .i64 118661582157481174) ∧ Gr W w'
def InvIs (W : World) : Prop := Calls Tryz.prog 229 #[] W fun e w' => e = .returned (.int .i64 43757185469210200) ∧ Gr W w'
end
section
open Go.ChangeShapes Go.WideShapes Go.ChangeAt Go.RowKit
set_option linter.unusedVariables false
def RunIs (x z : Int) (W : World) : Prop := Calls Tryz.prog 228 #[.int .i64 x, .int .i64 z] W fun e w' => e = .returned (.tuple #[.agg #[.int .i64 (trun 45 ⟨x, 0, z⟩).re, .int .i64 (trun 45 ⟨x, 0, z⟩).im], .int .i64 (trun 45 ⟨x, 0, z⟩).left, .int .i64 0]) ∧ Gr W w'
end
section
open Go.ChangeShapes Go.WideShapes Go.ChangeAt Go.RowKit
set_option linter.unusedVariables false
theorem gainAngle_c (j : Nat) (h : j < 45) (w : World) :
 Calls Tryz.prog 238 #[.int .i64 j] w fun e w' => e = .returned (.int .i64 (ang j)) ∧ Gr w w' := by
 by_cases h0 : j = 0
 ·subst h0
  have HQ := Lib.hid quarter_c
  have e : ((ang 0 : Nat) : Int) = 56593902016227522 := by decide +kernel
  rw [e, show ((0 : Nat) : Int) = 0 from rfl]
  clear e h
  go_enter Tryz.func238, Tryz.ntmps238
  go_wp2_with (go_at_call 223; refine (HQ.out _).mono ?_; rintro e w1 ⟨rfl, hg1⟩)
  go_ret
  exact ⟨rfl, hg1⟩
 ·have e : ang j = arcOf (2 ^ j) := by unfold ang; rw [if_neg h0]
  have p0 : 2 ≤ 2 ^ j := by
   have := Nat.pow_le_pow_right (show 0 < 2 by decide) (show 1 ≤ j by omega)
   omega
  have p1 : 2 ^ j ≤ 17592186044416 := by
   have := Nat.pow_le_pow_right (show 0 < 2 by decide) (show j ≤ 44 by omega)
   omega
  have HA := Lib.hid (arc_ok (2 ^ j) p0 p1)
  rw [← e] at HA
  have hz : ((j : Int) == 0) = false := by simp; omega
  have hn : (0 : Int) ≤ (j : Int) := by omega
  have ep : wrap64 ((2 : Int) ^ j) = ((2 ^ j : Nat) : Int) := by
   rw [IntWalk.wrap64_in _ (by rw [show (2 : Int) ^ j = ((2 ^ j : Nat) : Int) by simp]; omega)]; simp
  rw [← ep] at HA
  clear e p0 h0 p1 ep
  go_enter Tryz.func238, Tryz.ntmps238
  go_wp2_with (go_at_call 239; refine (HA.out _).mono ?_; rintro e w2 ⟨rfl, hg2⟩)
  go_ret
  exact ⟨rfl, hg2⟩
set_option maxHeartbeats 1000000 in
theorem gainAngs_c (w : World) : Calls Tryz.prog 236 #[] w fun e w' => ∃ B c, e = .returned (.slice (some ⟨B, 0, none⟩) 45 45) ∧ w.heap.size ≤ B ∧ CellsAt w' B 3 c ∧ (∀ j, j < 45 → c[j]? = some (.int .i64 (ang j))) ∧ Gr w w' := by
 have infoI : (Tryz.prog.info? 3).map (fun i => (i.zero, i.size, i.bytes)) = some (some (.int .i64 0), 1, 8) := by kernel_rfl
 have hmk := run_make_row' (P := Tryz.prog) 22 3 (.int .i64 0) 8 Tryz.underlying22 infoI rfl .i64 .i64 45 (by decide) (by decide)
 rw [show ((45 : Nat) : Int) = 45 from rfl] at hmk
 clear infoI
 go_enter Tryz.func236, Tryz.ntmps236
 go_wp2_with fail
 have M0 := MadeAt.start w (.int .i64 0) 45 3
 go_loopw [2, 6] (fun _ i wr => ∃ k : Nat, ∃ c : Array Value, k ≤ 45 ∧ i = .int .i64 k ∧ CellsAt wr w.heap.size 3 c ∧ c.size = 45 ∧ (∀ j, j < k → c[j]? = some (.int .i64 (ang j))) ∧ Gr w wr)
  (fun _ i _ => 45 - (intOf i).toNat)
 case atStart => exact ⟨0, _, by omega, rfl, M0.1, M0.2, fun j hj => absurd hj (Nat.not_lt_zero _), (Gr.refl _).alloc _ _⟩
 case round =>
  clear M0 hmk
  obtain ⟨k, c, hk, rfl, hC, hs, hj, hg⟩ := hrel
  by_cases hlt : k < 45
  ·have HA := Lib.hid (gainAngle_c k hlt)
   have HS := Lib.hid hs
   have HJ := Lib.hid hj
   clear hs hj
   go_wp2_with fail
   refine (HA.out _).mono ?_
   rintro e w2 ⟨rfl, hg2⟩
   have hC2 := hC.gr hg2
   have f2 := hC2.frozen k
   have q2 := hC2.cell k
   have hg3 := hg.trans hg2
   rw [Array.getElem?_eq_getElem (show k < c.size by rw [HS.out]; exact hlt)] at q2
   clear hC hg2 hg HA
   go_wp2_with fail
   have hC3 := hC2.set k (.int .i64 (ang k))
   have hg4 := hg3.setCell (a := ⟨w.heap.size, k, none⟩) (by simp) (.int .i64 (ang k))
   go_roundw
   case rel =>
    refine ⟨k + 1, _, by omega, by go_num, hC3, by simpa using HS.out, fun j hj => ?_, hg4⟩
    rw [Array.getElem?_setIfInBounds]
    split
    ·next e => subst e; rw [if_pos (by rw [HS.out]; exact hlt)]
    ·exact HJ.out j (by omega)
   case measure => simp [intOf]; omega
  ·have he : k = 45 := by omega
   subst he
   go_wp2_with fail
   go_ret
   exact ⟨w.heap.size, c, rfl, Nat.le_refl _, hC, hj, hg⟩
set_option maxHeartbeats 2000000 in
theorem gainTurned_c (x z : Int) (h0 : 0 ≤ x) (h1 : x ≤ 144115188075855872) (hz : z.natAbs ≤ 72057594037927936) (w : World) :
 Calls Tryz.prog 232 #[.int .i64 x, .int .i64 z] w fun e w' => e = .returned (.tuple #[.agg #[.int .i64 (trun 45 ⟨x, 0, z⟩).re, .int .i64 (trun 45 ⟨x, 0, z⟩).im], .int .i64 (trun 45 ⟨x, 0, z⟩).left]) ∧ Gr w w' := by
 have HA := Lib.hid gainAngs_c
 have HB := Lib.hid fun k (hk : k ≤ 45) => trun_bd x z h0 h1 hz k hk
 clear h0 h1 hz
 go_enter Tryz.func232, Tryz.ntmps232
 go_wp2_with fail
 have R0 := (CellsAt.new w 50 #[.int .i64 0, .int .i64 0]).alloc (.cells #[.int .i64 x, .int .i64 0] 50)
 have R1 := CellsAt.new (w.alloc (.cells #[.int .i64 0, .int .i64 0] 50)) 50 #[.int .i64 x, .int .i64 0]
 rw [World.size_alloc] at R1
 have G0 := ((Gr.refl w).alloc #[.int .i64 0, .int .i64 0] 50).alloc #[.int .i64 x, .int .i64 0] 50
 refine (HA.out _).mono ?_
 rintro e w1 ⟨B, cs, rfl, hBB, hcs, hj, hg1⟩
 simp only [World.size_alloc] at hBB
 have R0' := R0.gr hg1
 have R1' := R1.gr hg1
 have G1 := G0.trans hg1
 have HC := Lib.hid hj
 clear hj R0 R1 G0 hg1 HA
 go_wp2_with fail
 go_loopw [7, 8, 9, 10, 11, 17] (fun l _ _ _ _ i wr => ∃ k : Nat, k ≤ 45 ∧ i = .int .i64 k ∧ l = .int .i64 (trun k ⟨x, 0, z⟩).left ∧ CellsAt wr w.heap.size 50 #[.int .i64 0, .int .i64 0] ∧ CellsAt wr (w.heap.size + 1) 50 #[.int .i64 (trun k ⟨x, 0, z⟩).re, .int .i64 (trun k ⟨x, 0, z⟩).im] ∧ CellsAt wr B 3 cs ∧ Gr w wr)
  (fun _ _ _ _ _ i _ => 45 - (intOf i).toNat)
 case atStart => exact ⟨0, by omega, rfl, rfl, R0', R1', hcs, G1⟩
 case round =>
  clear R0' R1' hcs
  obtain ⟨k, hk, rfl, rfl, hr0, hr1, hcs, hg'⟩ := hrel
  have q0 := hr1.cell 0
  have q1 := hr1.cell 1
  have f0 := hr1.frozen 0
  have f1 := hr1.frozen 1
  have bd := HB.out k hk
  have et := trun_succ k ⟨x, 0, z⟩
  generalize hs : trun k ⟨x, 0, z⟩ = s at *
  have HQ := Lib.hid hs
  clear hs
  obtain ⟨re, im, left⟩ := s
  simp only [getS] at q0 q1 bd
  have hsz := hg'.size
  by_cases hlt : k < 45
  ·have hcx := (hcs.cell k).trans (HC.out k hlt)
   have hBlt := hcs.lt
   have hk62 : k ≤ 62 := by omega
   have fa := fl_abs re k
   have fb := fl_abs im k
   have ga : re.natAbs / 2 ^ k ≤ re.natAbs := Nat.div_le_self _ _
   have gb : im.natAbs / 2 ^ k ≤ im.natAbs := Nat.div_le_self _ _
   have ba : -1152921504606846977 ≤ re / 2 ^ k ∧ re / 2 ^ k ≤ 1152921504606846977 := by omega
   have bb : -1152921504606846977 ≤ im / 2 ^ k ∧ im / 2 ^ k ≤ 1152921504606846977 := by omega
   have bc : -1152921504606846977 ≤ re ∧ re ≤ 1152921504606846977 := by omega
   have bd' : -1152921504606846977 ≤ im ∧ im ≤ 1152921504606846977 := by omega
   have be : -288230376151711744 ≤ left ∧ left ≤ 288230376151711744 := by omega
   have bf : ((ang k : Nat) : Int) ≤ 144115188075855872 := by have := ang_bd k hlt; omega
   have s1 : Op.shift .shr .i64 re .i64 (k : Int) = pure (.int .i64 (re / 2 ^ k)) := by
    rw [shift_shr .i64 .i64 re k (by omega) (by show (k : Int) ≤ 64; omega), Int.toNat_natCast]
   have s2 : Op.shift .shr .i64 im .i64 (k : Int) = pure (.int .i64 (im / 2 ^ k)) := by
    rw [shift_shr .i64 .i64 im k (by omega) (by show (k : Int) ≤ 64; omega), Int.toNat_natCast]
   clear fa fb ga gb bd
   by_cases hl : 0 ≤ left
   ·have ET : tstep k ⟨re, im, left⟩ = ⟨re - im / 2 ^ k, im + re / 2 ^ k, left - ang k⟩ := by rw [tstep, if_pos (show 0 ≤ left from hl)]
    rw [ET] at et
    clear ET
    have HE := Lib.hid et
    clear et s1 s2
    go_wp2_with fail
    go_quiet (fail)
    go_wp2_with fail
    generalize re / 2 ^ k = a at *
    generalize im / 2 ^ k = c at *
    have n1 := (((hr1.drewN nq).set 0 (.int .i64 (re - c))).set 1 (.int .i64 (im + a)))
    have n0 := ((hr0.drewN nq).other (B' := w.heap.size + 1) (by omega) 0 (.int .i64 (re - c))).other (B' := w.heap.size + 1) (by omega) 1 (.int .i64 (im + a))
    have n2 := ((hcs.drewN nq).other (B' := w.heap.size + 1) (by omega) 0 (.int .i64 (re - c))).other (B' := w.heap.size + 1) (by omega) 1 (.int .i64 (im + a))
    have G3 := ((hg'.drewN nq).setCell (a := ⟨w.heap.size + 1, 0, none⟩) (by simp) (.int .i64 (re - c))).setCell (a := ⟨w.heap.size + 1, 1, none⟩) (by simp) (.int .i64 (im + a))
    refine ⟨⟨k + 1, by omega, by go_num, by rw [HE.out], n0, by rw [HE.out]; exact n1, n2, G3⟩, by simp [intOf]; omega⟩
   ·have ET : tstep k ⟨re, im, left⟩ = ⟨re + im / 2 ^ k, im - re / 2 ^ k, left + ang k⟩ := by rw [tstep, if_neg (show ¬ 0 ≤ left from hl)]
    rw [ET] at et
    clear ET
    have HE := Lib.hid et
    clear et s1 s2
    go_wp2_with fail
    go_quiet (fail)
    go_wp2_with fail
    generalize re / 2 ^ k = a at *
    generalize im / 2 ^ k = c at *
    have n1 := (((hr1.drewN nq).set 0 (.int .i64 (re + c))).set 1 (.int .i64 (im - a)))
    have n0 := ((hr0.drewN nq).other (B' := w.heap.size + 1) (by omega) 0 (.int .i64 (re + c))).other (B' := w.heap.size + 1) (by omega) 1 (.int .i64 (im - a))
    have n2 := ((hcs.drewN nq).other (B' := w.heap.size + 1) (by omega) 0 (.int .i64 (re + c))).other (B' := w.heap.size + 1) (by omega) 1 (.int .i64 (im - a))
    have G3 := ((hg'.drewN nq).setCell (a := ⟨w.heap.size + 1, 0, none⟩) (by simp) (.int .i64 (re + c))).setCell (a := ⟨w.heap.size + 1, 1, none⟩) (by simp) (.int .i64 (im - a))
    refine ⟨⟨k + 1, by omega, by go_num, by rw [HE.out], n0, by rw [HE.out]; exact n1, n2, G3⟩, by simp [intOf]; omega⟩
  ·have he : k = 45 := by omega
   have r0 := hr0.cell 0
   have r1 := hr0.cell 1
   have g0 := hr0.frozen 0
   have g1 := hr0.frozen 1
   simp only [getS] at r0 r1
   subst he
   go_wp2_with fail
   rw [HQ.out]
   refine bodyPost_ret (v := .tuple #[.agg #[.int .i64 re, .int .i64 im], .int .i64 left]) ?_ rfl ⟨rfl, ?_⟩
   ·simp [results, Tryz.f232, go_sem, r0, r1]
   ·exact (hg'.setCell (a := ⟨w.heap.size, 0, none⟩) (by simp) _).setCell (a := ⟨w.heap.size, 1, none⟩) (by simp) _
theorem gainGain_c (w : World) : GainIs w := by
 unfold GainIs
 have HR := Lib.hid (gainTurned_c 72057594037927936 0 (by omega) (by omega) (by decide))
 have HG := Lib.hid gain_run
 go_enter Tryz.func234, Tryz.ntmps234
 go_wp2_with fail
 refine (HR.out _).mono ?_
 rintro e w2 ⟨rfl, hg⟩
 have HQ : (trun 45 ⟨72057594037927936, 0, 0⟩).re = 118661582157481174 := HG.out
 generalize trun 45 ⟨72057594037927936, 0, 0⟩ = s at *
 obtain ⟨re, im, left⟩ := s
 simp only at HQ
 rw [HQ]
 clear HQ
 go_wp2_with fail
 go_ret
 exact ⟨rfl, hg.alloc _ _⟩
theorem gainRun_ok (x z : Int) (h0 : 0 ≤ x) (h1 : x ≤ 144115188075855872) (hz : z.natAbs ≤ 72057594037927936) (W : World) : RunIs x z W := by
 unfold RunIs
 have HR := Lib.hid (gainTurned_c x z h0 h1 hz)
 have z0 : -72057594037927936 ≤ z := by omega
 have z1 : z ≤ 72057594037927936 := by omega
 clear hz
 generalize trun 45 ⟨x, 0, z⟩ = s at *
 obtain ⟨re, im, left⟩ := s
 simp only at HR ⊢
 go_enter Tryz.func228, Tryz.ntmps228
 go_wp2_with fail
 have R0 := CellsAt.new W 50 #[.int .i64 0, .int .i64 0]
 refine (HR.out _).mono ?_
 rintro e w1 ⟨rfl, hg1⟩
 have R1 := R0.gr hg1
 have R2 := R1.alloc (.cells #[.int .i64 re, .int .i64 im] 50)
 have hg2 := (((Gr.refl W).alloc _ _).trans hg1).alloc #[.int .i64 re, .int .i64 im] 50
 have hsz := hg1.size
 simp only [World.size_alloc] at hsz
 have r0 := R2.cell 0
 have r1 := R2.cell 1
 have g0 := R2.frozen 0
 have g1 := R2.frozen 1
 simp only [getS] at r0 r1
 go_wp2_with fail
 refine bodyPost_ret (v := .tuple #[.agg #[.int .i64 re, .int .i64 im], .int .i64 left, .int .i64 0]) ?_ rfl ⟨rfl, ?_⟩
 ·simp [results, Tryz.f228, go_sem, r0, r1]
 ·exact (hg2.setCell (a := ⟨W.heap.size, 0, none⟩) (by simp) _).setCell (a := ⟨W.heap.size, 1, none⟩) (by simp) _
def wstep (d : Nat) (p : Nat × Nat) : Nat × Nat :=
 if d ≤ 2 * p.1 + p.2 / 9223372036854775808 then (2 * p.1 + p.2 / 9223372036854775808 - d, 2 * p.2 % 18446744073709551616 + 1) else (2 * p.1 + p.2 / 9223372036854775808, 2 * p.2 % 18446744073709551616)
def wrun (d : Nat) (p : Nat × Nat) : Nat → Nat × Nat
 | 0 => p
 | k + 1 => wstep d (wrun d p k)
theorem wrun_bd (d : Nat) (p : Nat × Nat) (hd : d ≤ 9223372036854775808) (h1 : p.1 < d) (h2 : p.2 < 18446744073709551616) (k : Nat) : (wrun d p k).1 < d ∧ (wrun d p k).2 < 18446744073709551616 := by
 induction k with
 | zero => exact ⟨h1, h2⟩
 | succ k ih =>
   obtain ⟨i1, i2⟩ := ih
   show (wstep d (wrun d p k)).1 < d ∧ (wstep d (wrun d p k)).2 < 18446744073709551616
   generalize wrun d p k = s at *
   obtain ⟨a, b⟩ := s
   simp only at i1 i2
   unfold wstep
   split <;> simp only <;> omega
theorem doubled_c (h l : Nat) (hh : h < 9223372036854775808) (hl : l < 18446744073709551616) (w : World) :
 Calls Tryz.prog 237 #[.agg #[.int .u64 h, .int .u64 l]] w fun e w' => e = .returned (.agg #[.int .u64 ((2 * h + l / 9223372036854775808 : Nat) : Int), .int .u64 ((2 * l % 18446744073709551616 : Nat) : Int)]) ∧ Gr w w' := by
 go_enter Tryz.func237, Tryz.ntmps237
 have eb : bits .or .u64 ((h : Int) * 2) ((l : Int) / 9223372036854775808) = ((2 * h + l / 9223372036854775808 : Nat) : Int) := by
  have := bits_or_u64_nat (2 * h) (l / 9223372036854775808) (by omega) (by omega)
  rw [show ((h : Int) * 2) = ((2 * h : Nat) : Int) by omega, show ((l : Int) / 9223372036854775808) = ((l / 9223372036854775808 : Nat) : Int) by omega, this]
  congr 1
  have l1 : l / 9223372036854775808 < 2 := by omega
  generalize l / 9223372036854775808 = b at *
  have := Nat.two_pow_add_eq_or_of_lt (i := 1) (b := b) (by omega) h
  rw [show (2 : Nat) ^ 1 = 2 from rfl] at this
  omega
 have ew : IntKind.u64.wrap ((l : Int) * 2) = ((2 * l % 18446744073709551616 : Nat) : Int) := by rw [IntKind.wrap_u64]; omega
 go_wp2_with fail
 refine bodyPost_ret (v := .agg #[.int .u64 (2 * (h : Int) + (l : Int) / 9223372036854775808), .int .u64 (2 * (l : Int) % 18446744073709551616)]) ?_ rfl ⟨?_, ?_⟩
 ·simp [results, Tryz.f237, go_sem]
 ·simp
 ·exact ((Gr.refl w).alloc _ _).alloc _ _
theorem wrun_succ (d : Nat) (p : Nat × Nat) (k : Nat) : wrun d p (k + 1) = wstep d (wrun d p k) := rfl
set_option maxRecDepth 10000 in set_option maxHeartbeats 2000000 in
theorem wideDivided_c (d h l : Nat) (hd : d ≤ 9223372036854775808) (h1 : h < d) (h2 : l < 18446744073709551616) (w : World) :
 Calls Tryz.prog 233 #[.agg #[.int .u64 h, .int .u64 l], .int .u64 d] w fun e w' => e = .returned (.int .u64 (wrun d (h, l) 64).2) ∧ Gr w w' := by
 have HB := Lib.hid (wrun_bd d (h, l) hd h1 h2)
 have HD0 := Lib.hid hd
 clear h1 h2 hd
 go_enter Tryz.func233, Tryz.ntmps233
 go_wp2_with fail
 have R0 := CellsAt.new w 248 #[.int .u64 h, .int .u64 l]
 go_loopw [5] (fun i wr => ∃ k : Nat, k ≤ 64 ∧ i = .int .i64 k ∧ CellsAt wr w.heap.size 248 #[.int .u64 (wrun d (h, l) k).1, .int .u64 (wrun d (h, l) k).2] ∧ Gr w wr)
  (fun i _ => 64 - (intOf i).toNat)
 case atStart => exact ⟨0, by omega, rfl, R0, (Gr.refl _).alloc _ _⟩
 case round =>
  clear R0
  obtain ⟨k, hk, rfl, hr, hg⟩ := hrel
  have bd := HB.out k
  have et := wrun_succ d (h, l) k
  generalize hs : wrun d (h, l) k = s at *
  have HQ := Lib.hid hs
  clear hs
  obtain ⟨a, b⟩ := s
  simp only at bd
  by_cases hlt : k < 64
  ·have q0 := hr.cell 0
   have q1 := hr.cell 1
   simp only [getS] at q0 q1
   have HD := Lib.hid (doubled_c a b (by have := HD0.out; omega) bd.2)
   unfold wstep at et
   simp only at et
   have u0 : 2 * a + b / 9223372036854775808 < 18446744073709551616 := by have := HD0.out; omega
   have u1 : 2 * b % 18446744073709551616 + 1 < 18446744073709551616 := by omega
   have hBs := hr.lt
   generalize 2 * a + b / 9223372036854775808 = a' at *
   generalize 2 * b % 18446744073709551616 = b' at *
   have HU := Lib.hid (And.intro u0 u1)
   clear bd u0 u1 hBs
   have HT := Lib.hid et
   clear et
   go_wp2_with fail
   refine (HD.out _).mono ?_
   rintro e w2 ⟨rfl, hg2⟩
   have hr2 := hr.gr hg2
   have hg3 := hg.trans hg2
   have f0 := hr2.frozen 0
   have f1 := hr2.frozen 1
   have p0 := hr2.cell 0
   have p1 := hr2.cell 1
   simp only [getS] at p0 p1
   clear hr hg hg2 q0 q1 HD
   by_cases hc : d ≤ a'
   ·have HE := Lib.hid (HT.out.trans (if_pos hc))
    have e1 : IntKind.u64.wrap ((a' : Int) - (d : Int)) = ((a' - d : Nat) : Int) := by have := HU.out; rw [IntKind.wrap_u64]; omega
    have e2 : IntKind.u64.wrap ((b' : Int) + 1) = ((b' + 1 : Nat) : Int) := by have := HU.out; rw [IntKind.wrap_u64]; omega
    have hc' : (d : Int) ≤ (a' : Int) := by omega
    go_wp2_with fail
    have n1 := (((hr2.set 0 (.int .u64 a')).set 1 (.int .u64 b')).set 0 (.int .u64 ((a' - d : Nat) : Int))).set 1 (.int .u64 ((b' : Int) + 1))
    have G3 := (((hg3.setCell (a := ⟨w.heap.size, 0, none⟩) (by simp) (.int .u64 a')).setCell (a := ⟨w.heap.size, 1, none⟩) (by simp) (.int .u64 b')).setCell (a := ⟨w.heap.size, 0, none⟩) (by simp) (.int .u64 ((a' - d : Nat) : Int))).setCell (a := ⟨w.heap.size, 1, none⟩) (by simp) (.int .u64 ((b' : Int) + 1))
    exact ⟨⟨k + 1, by omega, by go_num, by rw [HE.out]; exact n1, G3⟩, by simp [intOf]; omega⟩
   ·have HE := Lib.hid (HT.out.trans (if_neg hc))
    have hc' : ¬ (d : Int) ≤ (a' : Int) := by omega
    go_wp2_with fail
    have n1 := (hr2.set 0 (.int .u64 a')).set 1 (.int .u64 b')
    have G3 := (hg3.setCell (a := ⟨w.heap.size, 0, none⟩) (by simp) (.int .u64 a')).setCell (a := ⟨w.heap.size, 1, none⟩) (by simp) (.int .u64 b')
    exact ⟨⟨k + 1, by omega, by go_num, by rw [HE.out]; exact n1, G3⟩, by simp [intOf]; omega⟩
  ·have he : k = 64 := by omega
   subst he
   have q1 := hr.cell 1
   simp only [getS] at q1
   clear bd et
   go_wp2_with fail
   rw [HQ.out]
   go_ret
   exact ⟨rfl, hg⟩
theorem wrun_inv : wrun 118661582157481174 (281474976710656, 0) 64 = (67367133180445296, 43757185469210200) := by decide +kernel
theorem gainInv_c (w : World) : InvIs w := by
 unfold InvIs
 have G : CR 234 #[] (.int .i64 118661582157481174) := Lib.hid gainGain_c
 have D : CR 233 #[.agg #[.int .u64 281474976710656, .int .u64 0], .int .u64 118661582157481174] (.int .u64 43757185469210200) := Lib.hid fun W => by
  have := wideDivided_c 118661582157481174 281474976710656 0 (by decide) (by decide) (by decide) W
  rw [wrun_inv] at this
  exact this
 have k1 : IntKind.u64.wrap 118661582157481174 = 118661582157481174 := by decide
 have k2 : IntKind.i64.wrap 43757185469210200 = 43757185469210200 := by decide
 go_enter Tryz.func229, Tryz.ntmps229
 go_wp2_with fail
 have c0 : (w.alloc (.cells #[.int .u64 281474976710656, .int .u64 0] 248)).cell? ⟨w.heap.size, 0, none⟩ = some (.int .u64 281474976710656) := by simp
 have c1 : (w.alloc (.cells #[.int .u64 281474976710656, .int .u64 0] 248)).cell? ⟨w.heap.size, 1, none⟩ = some (.int .u64 0) := by simp
 have hg0 := (Gr.refl w).alloc #[.int .u64 281474976710656, .int .u64 0] 248
 have hB : w.heap.size < (w.alloc (.cells #[.int .u64 281474976710656, .int .u64 0] 248)).heap.size := by simp
 generalize w.alloc (.cells #[.int .u64 281474976710656, .int .u64 0] 248) = u at *
 generalize w.heap.size = B at *
 go_region_held3 (fun W => W.cell? ⟨B, 0, none⟩ = some (.int .u64 281474976710656) ∧ W.cell? ⟨B, 1, none⟩ = some (.int .u64 0) ∧ Gr u W)
  (first | (go_split_ands; refine ⟨?_, ?_, ?_⟩; (all_goals (first | assumption | exact Gr.refl _ | exact Gr.drew (Gr.refl _) | exact Gr.drew (by assumption) | (go_keep; done) | ((refine (Gr.cell (by assumption) ?_).trans ?_ <;> (first | assumption)); done)))))
  (first | (go_at_call 234; go_split_ands; ((with_reducible refine (G.out _).mono ?_); rintro e w' ⟨rfl, hg⟩; have hgw : Gr u w' := Gr.trans (by first | assumption | exact Gr.drew (Gr.refl _) | exact Gr.drew (by assumption) | exact Gr.refl _) hg)) | (go_at_call 233; go_split_ands; ((with_reducible refine (D.out _).mono ?_); rintro e w' ⟨rfl, hg⟩; have hgw : Gr u w' := Gr.trans (by first | assumption | exact Gr.drew (Gr.refl _) | exact Gr.drew (by assumption) | exact Gr.refl _) hg)))
 have g4 : Gr u w' := by (try go_split_ands); assumption
 go_wp2
 go_ret
 exact ⟨rfl, hg0.trans g4⟩
end
section
open Go.ChangeShapes Go.WideShapes Go.ChangeAt Go.RowKit
set_option linter.unusedVariables false
set_option maxRecDepth 100000
def PV (s : Tn) : Value := .agg #[.int .i64 s.re, .int .i64 s.im]
theorem IntsAt.other {w : World} {v : Value} {xs : List Int} (h : IntsAt w v xs) (B : Nat) (hne : v.ownBlock ≠ some B) (j : Nat) (x : Value) : IntsAt (w.setCell ⟨B, j, none⟩ x) v xs := by
 rcases h with h | ⟨b, o, cap, rfl, hl, hm, hb, hc⟩
 ·exact .inl h
 ·have hbB : b ≠ B := by intro e; exact hne (by rw [e]; rfl)
  refine .inr ⟨b, o, cap, rfl, hl, hm, by simpa using hb, fun k y hk => ?_⟩
  rw [← hc k y hk]
  unfold World.cell?
  rw [Below.heap_setCell _ _ _ _ hbB]
end
section
open Go.ChangeShapes Go.WideShapes Go.ChangeAt Go.RowKit
set_option linter.unusedVariables false
def PtIs (z : Int) (W : World) : Prop := Calls Tryz.prog 224 #[.int .i64 z] W fun e w' => e = .returned (.tuple #[.agg #[.int .i64 (pt z).re, .int .i64 (pt z).im], .int .i64 0]) ∧ Gr W w'
def EiIs (k log : Int) (W : World) : Prop := Calls Tryz.prog 220 #[.int .i64 k, .int .i64 log] W fun e w' => e = .returned (.tuple #[.agg #[.int .i64 (pt (eighthZ k log)).re, .int .i64 (pt (eighthZ k log)).im], .int .i64 0]) ∧ Gr W w'
theorem point_ok (z : Int) (hz : z.natAbs ≤ 72057594037927936) (w : World) : PtIs z w := by
 unfold PtIs
 have HI : CR 229 #[] (.int .i64 43757185469210200) := Lib.hid fun W => gainInv_c W
 have HR : CR 228 #[.int .i64 43757185469210200, .int .i64 z] (.tuple #[.agg #[.int .i64 (pt z).re, .int .i64 (pt z).im], .int .i64 (pt z).left, .int .i64 0]) := Lib.hid fun W => gainRun_ok 43757185469210200 z (by omega) (by omega) hz W
 clear hz
 generalize pt z = s at *
 obtain ⟨re, im, left⟩ := s
 simp only at HR ⊢
 go_enter Tryz.func224, Tryz.ntmps224
 go_wp2_with fail
 have R0 := CellsAt.new w 50 #[.int .i64 0, .int .i64 0]
 refine (HI.out _).mono ?_
 rintro e w1 ⟨rfl, g1⟩
 have R1 := R0.gr g1
 have gw1 := ((Gr.refl w).alloc #[.int .i64 0, .int .i64 0] 50).trans g1
 clear R0 g1
 go_wp2_with fail
 refine (HR.out _).mono ?_
 rintro e w2 ⟨rfl, g2⟩
 have R2 := (R1.gr g2).alloc (.cells #[.int .i64 re, .int .i64 im] 50)
 have gw2 := (gw1.trans g2)
 have hsz := gw2.size
 have gw3 := gw2.alloc #[.int .i64 re, .int .i64 im] 50
 have c0 := R2.cell 0
 have c1 := R2.cell 1
 have f0 := R2.frozen 0
 have f1 := R2.frozen 1
 simp only [getS] at c0 c1
 clear gw1 R1 g2 gw2
 go_wp2_with fail
 refine bodyPost_ret (v := .tuple #[.agg #[.int .i64 re, .int .i64 im], .int .i64 0]) ?_ rfl ⟨rfl, ?_⟩
 ·simp [results, Tryz.f224, go_sem, c0, c1]
 ·exact (gw3.setCell (a := ⟨w.heap.size, 0, none⟩) (by simp) _).setCell (a := ⟨w.heap.size, 1, none⟩) (by simp) _
theorem parts1_c (p q : Nat) (k log : Int) (h0 : 0 ≤ log) (h1 : log ≤ 6) (k0 : 0 ≤ k) (k1 : k ≤ 64) (w : World)
 (c0 : w.cell? ⟨p, 0, none⟩ = some (.int .i64 56593902016227522)) (c1 : w.cell? ⟨q, 0, none⟩ = some (.int .i64 log)) :
 Calls Tryz.prog 225 #[.int .i64 k, .pointer (some ⟨p, 0, none⟩), .pointer (some ⟨q, 0, none⟩)] w fun e w' => e = .returned (.int .i64 (eighthZ k log)) ∧ w' = w := by
 have hm : IntKind.i64.wrap (56593902016227522 * k) = 56593902016227522 * k := IntWalk.i64_in _ ⟨by omega, by omega⟩
 have hb : (56593902016227522 * k) / 2 ^ log.toNat = eighthZ k log := rfl
 go_enter Tryz.func225, Tryz.ntmps225
 go_wp2
 go_ret
 exact ⟨rfl, rfl⟩
theorem partsOf_c (log : Int) (w : World) :
 Calls Tryz.prog 222 #[.int .i64 56593902016227522, .int .i64 log] w fun e w' => ∃ p q : Nat, e = .returned (.func (.func 225) #[] #[.pointer (some ⟨p, 0, none⟩), .pointer (some ⟨q, 0, none⟩)]) ∧ w'.cell? ⟨p, 0, none⟩ = some (.int .i64 56593902016227522) ∧ w'.cell? ⟨q, 0, none⟩ = some (.int .i64 log) ∧ Gr w w' := by
 go_enter Tryz.func222, Tryz.ntmps222
 go_wp2
 go_ret
 refine ⟨w.heap.size, w.heap.size + 1, rfl, ?_, ?_, ((Gr.refl w).alloc _ _).alloc _ _⟩
 ·exact ((CellsAt.new w 3 #[.int .i64 56593902016227522]).alloc _).cell 0
 ·have := (CellsAt.new (w.alloc (.cells #[.int .i64 56593902016227522] 3)) 3 #[.int .i64 log]).cell 0
  rw [World.size_alloc] at this
  exact this
theorem eighth_ok (k log : Int) (h0 : 0 ≤ log) (h1 : log ≤ 6) (k0 : 0 ≤ k) (k1 : k ≤ 2 ^ log.toNat) (w : World) : EiIs k log w := by
 unfold EiIs
 obtain ⟨z0, z1, kb⟩ := eighthZ_bd k log h0 h1 k0 k1
 have HQ := Lib.hid quarter_c
 have HO := Lib.hid (partsOf_c log)
 have HP := Lib.hid (point_ok (eighthZ k log) z0)
 unfold PtIs at HP
 have HC := Lib.hid fun p q W => parts1_c p q k log h0 h1 k0 kb W
 clear z0 z1 kb
 generalize eighthZ k log = z at *
 generalize pt z = s at *
 obtain ⟨re, im, left⟩ := s
 simp only at HP ⊢
 generalize he : (2 : Int) ^ log.toNat = p2 at *
 have hp2 : (1 : Int) ≤ p2 ∧ p2 ≤ 64 := by
  rcases (by omega : log = 0 ∨ log = 1 ∨ log = 2 ∨ log = 3 ∨ log = 4 ∨ log = 5 ∨ log = 6) with rfl | rfl | rfl | rfl | rfl | rfl | rfl <;> simp at he <;> omega
 have hw2 : IntKind.i64.wrap p2 = p2 := IntWalk.i64_in _ ⟨by omega, by omega⟩
 go_enter Tryz.func220, Tryz.ntmps220
 go_wp2_with fail
 have R0 := CellsAt.new w 50 #[.int .i64 0, .int .i64 0]
 refine (HQ.out _).mono ?_
 rintro e w1 ⟨rfl, g1⟩
 have R1 := R0.gr g1
 have gw1 := ((Gr.refl w).alloc #[.int .i64 0, .int .i64 0] 50).trans g1
 clear R0 g1 HQ
 go_wp2_with fail
 refine (HO.out _).mono ?_
 rintro e w2 ⟨p, q, rfl, c0, c1, g2⟩
 have R2 := R1.gr g2
 have gw2 := gw1.trans g2
 have HC2 := Lib.hid (HC.out p q w2 c0 c1)
 clear R1 g2 HO gw1 c0 c1 HC
 go_wp2_with fail
 refine HC2.out.mono ?_
 rintro e w3 ⟨rfl, rfl⟩
 go_wp2_with fail
 refine (HP.out _).mono ?_
 rintro e w4 ⟨rfl, g4⟩
 have R3 := R2.gr g4
 have gw3 := gw2.trans g4
 have hsz := gw3.size
 have d0 := R3.cell 0
 have d1 := R3.cell 1
 have f0 := R3.frozen 0
 have f1 := R3.frozen 1
 simp only [getS] at d0 d1
 clear R2 g4 HP HC2 gw2
 go_wp2_with fail
 refine bodyPost_ret (v := .tuple #[.agg #[.int .i64 re, .int .i64 im], .int .i64 0]) ?_ rfl ⟨rfl, ?_⟩
 ·simp [results, Tryz.f220, go_sem, d0, d1]
 ·exact (gw3.setCell (a := ⟨w.heap.size, 0, none⟩) (by simp) _).setCell (a := ⟨w.heap.size, 1, none⟩) (by simp) _
end
section
open Go.ChangeShapes Go.WideShapes Go.ChangeAt Go.RowKit
set_option linter.unusedVariables false
set_option maxRecDepth 100000
end
section
open Go.ChangeShapes Go.WideShapes Go.ChangeAt Go.RowKit
set_option linter.unusedVariables false
theorem len_log (n log : Int) (h0 : 2 ≤ log) (h1 : log ≤ 6) (hn : n = 2 ^ log.toNat) : IsLen n := by
 unfold IsLen
 rcases (by omega : log = 2 ∨ log = 3 ∨ log = 4 ∨ log = 5 ∨ log = 6) with rfl | rfl | rfl | rfl | rfl <;> simp at hn <;> omega
end
section
open Go.ChangeShapes Go.WideShapes Go.ChangeAt Go.RowKit
set_option linter.unusedVariables false
end
section
open Go.ChangeShapes Go.WideShapes Go.ChangeAt Go.RowKit
set_option linter.unusedVariables false
def rootsL (n : Int) (s : Nat) : List Gi := (List.range n.toNat).map (fun k : Nat => rootG n (k : Int) s)
theorem rootsL_len (n : Int) (s : Nat) : (rootsL n s).length = n.toNat := by unfold rootsL; simp
end
section
open Go.ChangeShapes Go.WideShapes Go.ChangeAt Go.RowKit
set_option linter.unusedVariables false
set_option maxRecDepth 100000
structure PlF (fo b p lo ke sc mo : Int) (L n B : Nat) : Prop where
 fb : FB fo b p
 ok : okF fo lo ke sc mo = true
 lo : lo = L
 n : n = 2 ^ L
 bits : b = B + 2
section
variable {fo b p lo ke sc mo : Int} {L n B : Nat}
theorem PlF.lens (H : PlF fo b p lo ke sc mo L n B) : (2 ≤ L ∧ L ≤ 6) ∧ (4 ≤ n ∧ n ≤ 64) ∧ IsLen (n : Int) := by
 have h := okF_iff.1 H.ok
 have hl := H.lo
 have hL : L = 2 ∨ L = 3 ∨ L = 4 ∨ L = 5 ∨ L = 6 := by omega
 have hn := H.n
 unfold IsLen
 rcases hL with rfl | rfl | rfl | rfl | rfl <;> simp only [Nat.reducePow] at hn <;> omega
theorem PlF.kinds (H : PlF fo b p lo ke sc mo L n B) : (mo = 0 ∨ mo = 1 ∨ mo = 2) ∧ (sc = 0 ∨ sc = 1 ∨ sc = 2) ∧ (ke = 2 → sc = 0) ∧ 0 ≤ ke ∧ ke < 3 := by
 have h := okF_iff.1 H.ok
 refine ⟨by omega, by omega, h.2, by omega, by omega⟩
theorem PlF.sizes (H : PlF fo b p lo ke sc mo L n B) : (fo = 0 ∧ b = 15 ∧ p = 32768 ∧ B = 13) ∨ (fo = 1 ∧ b = 31 ∧ p = 2147483648 ∧ B = 29) := by
 have h := H.bits
 rcases H.fb with ⟨h1, h2, h3⟩ | ⟨h1, h2, h3⟩
 ·left; exact ⟨h1, h2, h3, by omega⟩
 ·right; exact ⟨h1, h2, h3, by omega⟩
end
def tw (n B : Nat) : List Gi := rootsL n (56 - B)
theorem tw_eq (n B : Nat) : tw n B = (List.range n).map fun k : Nat => rootG n k (56 - B) := by unfold tw rootsL; rw [Int.toNat_natCast]
theorem tw_len (n B : Nat) : (tw n B).length = n := by rw [tw_eq]; simp
theorem shOf_bd (sc k p : Int) (xs : List Gi) : 0 ≤ shOf sc k p xs ∧ shOf sc k p xs ≤ 3 := by
 unfold shOf preOf
 repeat' split
 all_goals omega
theorem flip_mem {L : Nat} {xs : List Gi} (h : xs.length = 2 ^ L) {a : Gi} (ha : a ∈ flipL L xs) : a ∈ xs := by
 unfold flipL at ha
 obtain ⟨k, hk, rfl⟩ := List.mem_map.1 ha
 exact getD_mem xs _ (by rw [h]; exact fl_lt L k)
theorem rnd_one (x p : Int) (mo : Int) (hm : mo = 0 ∨ mo = 1 ∨ mo = 2) (h0 : -(2 * p) ≤ x) (h1 : x ≤ 2 * p) : -p ≤ rnd x 1 mo ∧ rnd x 1 mo ≤ p := by
 have e1 := rnd_mul p 1 mo hm
 have e2 := rnd_mul (-p) 1 mo hm
 have a := rnd_mono x (p * 2 ^ 1) 1 mo hm (by omega)
 have b := rnd_mono (-p * 2 ^ 1) x 1 mo hm (by omega)
 rw [e1] at a
 rw [e2] at b
 exact ⟨b, a⟩
theorem rnd_none (x : Int) (mo : Int) (hm : mo = 0 ∨ mo = 1 ∨ mo = 2) : rnd x 0 mo = x := by
 have := rnd_mul x 0 mo hm
 simpa using this
theorem upR_bd (x m q : Int) (r : Nat) (hx : absI x ≤ m) (hm : m * 2 ^ r ≤ q) : -q ≤ x * 2 ^ r ∧ x * 2 ^ r ≤ q := by
 have hp : (0 : Int) < 2 ^ r := Int.pow_pos (by decide)
 have h1 : x ≤ m := by unfold absI at hx; split at hx <;> omega
 have h2 : -x ≤ m := by unfold absI at hx; split at hx <;> omega
 have a := Int.mul_le_mul_of_nonneg_right h1 (Int.le_of_lt hp)
 have b := Int.mul_le_mul_of_nonneg_right h2 (Int.le_of_lt hp)
 rw [Int.neg_mul] at b
 omega
section
variable {fo b p lo ke sc mo : Int} {L n B : Nat} {xs : List Gi}
theorem ready_part (H : PlF fo b p lo ke sc mo L n B) (hm : ManB p xs) (a : Gi) (ha : a ∈ xs) :
 ((-p ≤ (shG (atFirst sc p xs) mo a).re ∧ (shG (atFirst sc p xs) mo a).re ≤ p - 1) ∧ (-p ≤ (shG (atFirst sc p xs) mo a).im ∧ (shG (atFirst sc p xs) mo a).im ≤ p - 1)) ∧
 (sc = 0 → ((-(p / 2) ≤ (shG (atFirst sc p xs) mo a).re ∧ (shG (atFirst sc p xs) mo a).re ≤ p / 2) ∧ (-(p / 2) ≤ (shG (atFirst sc p xs) mo a).im ∧ (shG (atFirst sc p xs) mo a).im ≤ p / 2))) := by
 obtain ⟨hmo, hsc, _⟩ := H.kinds
 have hp : p = 2 * (p / 2) ∧ 4 ≤ p := by rcases H.sizes with h | h <;> omega
 have h := hm a ha
 unfold atFirst
 rcases hsc with rfl | rfl | rfl
 ·rw [if_pos rfl]
  have e1 := rnd_one a.re (p / 2) mo hmo (by omega) (by omega)
  have e2 := rnd_one a.im (p / 2) mo hmo (by omega) (by omega)
  unfold shG
  rw [if_pos (by decide)]
  simp only [show (1 : Int).toNat = 1 from rfl]
  exact ⟨by omega, fun _ => by omega⟩
 ·rw [if_neg (by decide), if_pos rfl]
  refine ⟨?_, fun h => absurd h (by decide)⟩
  by_cases hr : room p (maxG xs) = 0
  ·rw [hr]
   simp only [shG, Int.natCast_zero, Int.neg_zero, Int.le_refl, if_true, Int.toNat_zero, rnd_none _ mo hmo]
   exact h
  ·have hf := (room_fits p (maxG xs) (by omega)).2
   have hg := maxG_ge xs a ha
   have u1 := upR_bd a.re (maxG xs) (p / 2) _ hg.1 hf
   have u2 := upR_bd a.im (maxG xs) (p / 2) _ hg.2 hf
   unfold shG
   rw [if_neg (by omega)]
   simp only [Int.neg_neg, Int.toNat_natCast]
   omega
 ·rw [if_neg (by decide), if_neg (by decide)]
  refine ⟨?_, fun h => absurd h (by decide)⟩
  simp only [shG, Int.le_refl, if_true, Int.toNat_zero, rnd_none _ mo hmo]
  exact h
theorem ready_mem (H : PlF fo b p lo ke sc mo L n B) (hl : xs.length = n) {y : Gi} (hy : y ∈ (readyB ke sc mo p L xs).X) : ∃ a ∈ xs, y = shG (atFirst sc p xs) mo a := by
 obtain ⟨a, ha, rfl⟩ := List.mem_map.1 hy
 refine ⟨a, ?_, rfl⟩
 split at ha
 ·exact ha
 ·exact flip_mem (by rw [hl, H.n]) ha
theorem ready_man (H : PlF fo b p lo ke sc mo L n B) (hl : xs.length = n) (hm : ManB p xs) : ManB p (readyB ke sc mo p L xs).X := by
 intro y hy
 obtain ⟨a, ha, rfl⟩ := ready_mem H hl hy
 exact (ready_part H hm a ha).1
theorem ready_len (H : PlF fo b p lo ke sc mo L n B) (hl : xs.length = n) : (readyB ke sc mo p L xs).X.length = n := by
 unfold readyB
 rw [List.length_map]
 split
 ·exact hl
 ·rw [flipL_len, H.n]
theorem sqR_le (x q : Int) (h0 : -q ≤ x) (h1 : x ≤ q) : x * x ≤ q * q := by
 have a : 0 ≤ (q - x) * (q + x) := Int.mul_nonneg (by omega) (by omega)
 have e : (q - x) * (q + x) = q * q - x * x := by grind
 omega
theorem ready_half (H : PlF fo b p lo ke sc mo L n B) (hs : sc = 0) (hl : xs.length = n) (hm : ManB p xs) : AllN (2 * ((p / 2) * (p / 2))) (readyB ke sc mo p L xs).X := by
 intro y hy
 obtain ⟨a, ha, rfl⟩ := ready_mem H hl hy
 have h := (ready_part H hm a ha).2 hs
 have e1 := sqR_le _ _ h.1.1 h.1.2
 have e2 := sqR_le _ _ h.2.1 h.2.2
 unfold nq
 omega
theorem behind_X (hs : sc ≠ 2) (iv : Bool) (ws : List Gi) : ∀ (l : List Gi) (b0 : BV), (l.foldl (nextB sc mo p iv B ws) b0).X = l.foldl (stepV sc p B mo iv ws) b0.X
 | [], b0 => rfl
 | q :: l, b0 => by
   rw [List.foldl_cons, List.foldl_cons, behind_X hs iv ws l]
   simp only [nextB, if_neg hs]
theorem behind_sat (hs : sc ≠ 2) (iv : Bool) (ws : List Gi) : ∀ (l : List Gi) (b0 : BV), (l.foldl (nextB sc mo p iv B ws) b0).sat = b0.sat
 | [], b0 => rfl
 | q :: l, b0 => by
   rw [List.foldl_cons, behind_sat hs iv ws l]
   simp only [nextB, if_neg hs]
theorem next_len (iv : Bool) (ws : List Gi) (b0 : BV) (q : Gi) : (nextB sc mo p iv B ws b0 q).X.length = b0.X.length := by
 unfold nextB stepV
 split
 ·rw [List.length_map, passV_len]
 ·exact passV_len _ _ _ _ _ _ _
theorem bd_man {p : Int} {ys : List Gi} (h : ∀ y ∈ ys, Bd (p - 1) y) : ManB p ys := by
 intro y hy
 have := bd_iff.1 (h y hy)
 omega
theorem man_bd {p : Int} {ys : List Gi} (h : ManB p ys) : ∀ y ∈ ys, Bd p y := by
 intro y hy
 have := h y hy
 exact bd_iff.2 (by omega)
theorem block_man (H : PlF fo b p lo ke sc mo L n B) (hs : sc = 1) (iv : Bool) {ys : List Gi} (hl : ys.length = n) (hm : ManB p ys) (q : Gi) (hq : Fits n q) : ManB p (stepV sc p B mo iv (tw n B) ys q) := by
 obtain ⟨hmo, _⟩ := H.kinds
 obtain ⟨_, h4, hlen⟩ := H.lens
 subst hs
 rw [tw_eq]
 rcases H.sizes with ⟨_, _, rfl, rfl⟩ | ⟨_, _, rfl, rfl⟩
 ·exact bd_man (stepV_fits15 n hlen mo iv hmo ys q hq hl (man_bd hm))
 ·exact bd_man (stepV_fits31 n hlen mo iv hmo ys q hq hl (man_bd hm))
theorem behind_man (H : PlF fo b p lo ke sc mo L n B) (iv : Bool) (hl : xs.length = n) (hm : ManB p xs) : ∀ j, j ≤ (passL ke lo).length → (behindB ke lo sc mo p iv L B (tw n B) xs j).X.length = n ∧ ManB p (behindB ke lo sc mo p iv L B (tw n B) xs j).X := by
 obtain ⟨hmo, hsc, _, k0, k1⟩ := H.kinds
 obtain ⟨⟨l2, l6⟩, h4, hlen⟩ := H.lens
 have hlo := H.lo
 have hfit : ∀ q ∈ passL ke lo, Fits n q := by
  have := passL_fits ke lo k0 k1 (by omega) (by omega)
  rw [H.n]
  rw [show lo.toNat = L by omega] at this
  exact this
 have h6 : (passL ke lo).length ≤ 6 := by
  have hk : ke = 0 ∨ ke = 1 ∨ ke = 2 := by omega
  have hl : lo = 2 ∨ lo = 3 ∨ lo = 4 ∨ lo = 5 ∨ lo = 6 := by omega
  rcases hk with rfl | rfl | rfl <;> rcases hl with rfl | rfl | rfl | rfl | rfl <;> decide +kernel
 have hlens : ∀ j, j ≤ (passL ke lo).length → (behindB ke lo sc mo p iv L B (tw n B) xs j).X.length = n := by
  intro j
  induction j with
  | zero => intro _; exact ready_len H hl
  | succ j ih =>
    intro hj
    obtain ⟨q, hq⟩ := get_of_lt (show j < (passL ke lo).length by omega)
    rw [behindB_next hq, next_len]
    exact ih (by omega)
 intro j hj
 refine ⟨hlens j hj, ?_⟩
 rcases hsc with rfl | rfl | rfl
 ·
  have hr := ready_half H rfl hl hm
  have e : (behindB ke lo 0 mo p iv L B (tw n B) xs j).X = ((passL ke lo).take j).foldl (stepV 0 p B mo iv (tw n B)) (readyB ke 0 mo p L xs).X := behind_X (by decide) iv (tw n B) _ _
  have hk : ∀ q ∈ (passL ke lo).take j, q.re = 2 ∨ q.re = 4 := fun q hq => (hfit q (List.mem_of_mem_take hq)).1
  have hc : ((passL ke lo).take j).length ≤ 6 := by rw [List.length_take]; omega
  rw [e, tw_eq]
  rcases H.sizes with ⟨_, _, rfl, rfl⟩ | ⟨_, _, rfl, rfl⟩
  ·have := runV_half15 n hlen mo iv hmo ((passL ke lo).take j) _ _ hk hr (by decide) (by omega)
   exact fun y hy => by
    have hy := nq_in15 y (Int.le_trans (this y hy) (by omega))
    omega
  ·have := runV_half31 n hlen mo iv hmo ((passL ke lo).take j) _ _ hk hr (by decide) (by omega)
   exact fun y hy => by
    have hy := nq_in31 y (Int.le_trans (this y hy) (by omega))
    omega
 ·induction j with
  | zero => exact ready_man H hl hm
  | succ j ih =>
    obtain ⟨q, hq⟩ := get_of_lt (show j < (passL ke lo).length by omega)
    rw [behindB_next hq]
    simp only [nextB, show ¬ ((1 : Int) = 2) by decide, if_false]
    exact block_man H rfl iv (hlens j (by omega)) (ih (by omega)) q (hfit q (List.mem_of_getElem? hq))
 ·cases j with
  | zero => exact ready_man H hl hm
  | succ j =>
    obtain ⟨q, hq⟩ := get_of_lt (show j < (passL ke lo).length by omega)
    rw [behindB_next hq]
    simp only [nextB, if_true]
    exact manB_clamp (by rcases H.sizes with h | h <;> omega) _
end
end
end Go.Proofs.YtdignnmpfkgkoaaGreat
