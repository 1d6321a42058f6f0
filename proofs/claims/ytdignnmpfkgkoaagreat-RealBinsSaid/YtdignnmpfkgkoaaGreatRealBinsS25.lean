import Derived.Shelf.Bits.Mul64
import Derived.Shelf.Spec.BitsCarry
import Derived.Test.YtdignnmpfkgkoaaGreatRealBinsS24
namespace Go.Proofs.YtdignnmpfkgkoaaGreat
section
open Go.ChangeShapes Go.WideShapes Go.ChangeAt Go.RowKit Go.Shelf
set_option linter.unusedVariables false
set_option maxRecDepth 100000
set_option maxHeartbeats 16000000
end
section
open Go.ChangeShapes Go.WideShapes Go.ChangeAt Go.RowKit
set_option linter.unusedVariables false
def GainIs (W : World) : Prop := Calls Tryz.prog 234 #[] W fun e w' => e = .returned (.int .i64 118661582157481174) ∧ Gr W w'
def InvIs (W : World) : Prop := Calls Tryz.prog 229 #[] W fun e w' => e = .returned (.int .i64 43757185469210200) ∧ Gr W w'
end
section
open Go.ChangeShapes Go.WideShapes Go.ChangeAt Go.RowKit
set_option linter.unusedVariables false
def RunIs (x z : Int) (W : World) : Prop := Calls Tryz.prog 228 #[x, z] W fun e w' => e = .returned (.tuple #[.agg #[(trun 45 ⟨x, 0, z⟩).re, (trun 45 ⟨x, 0, z⟩).im], (trun 45 ⟨x, 0, z⟩).left, .int .i64 0]) ∧ Gr W w'
end
section
open Go.ChangeShapes Go.WideShapes Go.ChangeAt Go.RowKit
set_option linter.unusedVariables false
theorem gainAngle_c (j : Nat) (h : j < 45) (w : World) :
 CW 238 #[j] w (.int .i64 (ang j)) :=by
 delta CW
 by_cases h0 : j = 0
 ·subst h0
  have HQ := kh quarter_c
  have e : ((ang 0 : Nat) : Int) = 56593902016227522 := by decide +kernel
  rw [e, show ((0 : Nat) : Int) = 0 from rfl];clear e h;go_in
  go_wp2_with (go_at_call 223; refine (HQ.out _).mono ?_; rintro e w1 ⟨rfl, hg1⟩)
  go_ret
  exact ⟨rfl, hg1⟩
 ·have e : ang j = arcOf (2 ^ j) := by unfold ang; rw [if_neg h0]
  have p0 : 2 ≤ 2 ^ j := by
   have := Nat.pow_le_pow_right (show 0 < 2 by decide) (show 1 ≤ j by omega)
   omega
  have p1 : 2 ^ j ≤ 17592186044416 := by
   have := Nat.pow_le_pow_right (show 0 < 2 by decide) (show j ≤ 44 by omega)
   omega
  have HA := kh (arc_ok (2 ^ j) p0 p1);rw [← e] at HA
  have hz : ((j : Int) == 0) = false := by simp; omega
  have hn : (0 : Int) ≤ (j : Int) := by omega
  have ep : wrap64 ((2 : Int) ^ j) = ((2 ^ j : Nat) : Int) := by
   rw [IntWalk.wrap64_in _ (by rw [show (2 : Int) ^ j = ((2 ^ j : Nat) : Int) by simp]; omega)]; simp
  rw [← ep] at HA;clear e p0 h0 p1 ep;go_in
  go_wp2_with (go_at_call 239; refine (HA.out _).mono ?_; rintro e w2 ⟨rfl, hg2⟩)
  go_ret
  exact ⟨rfl, hg2⟩
theorem gainAngs_c (w : World) : Calls Tryz.prog 236 #[] w fun e w' => ∃ B c, e = .returned (.slice (some ⟨B, 0, none⟩) 45 45) ∧ w.heap.size ≤ B ∧ CellsAt w' B 3 c ∧ (∀ j, j < 45 → c[j]? = some (.int .i64 (ang j))) ∧ Gr w w' := by
 have infoI : (Tryz.prog.info? 3).map (fun i => (i.zero, i.size, i.bytes)) = some (some (.int .i64 0), 1, 8) := by kernel_rfl
 have hmk := run_make_row' (P := Tryz.prog) 22 3 (.int .i64 0) 8 Tryz.underlying22 infoI rfl .i64 .i64 45 (by decide) (by decide)
 rw [show ((45 : Nat) : Int) = 45 from rfl] at hmk
 clear infoI
 go_in
 go_wp2_with fail
 have M0 := MadeAt.start w (.int .i64 0) 45 3
 go_loopw [2, 6] (fun _ i wr => ∃ k : Nat, ∃ c : Array Value, k ≤ 45 ∧ i = .int .i64 k ∧ CellsAt wr w.heap.size 3 c ∧ c.size = 45 ∧ (∀ j, j < k → c[j]? = some (.int .i64 (ang j))) ∧ Gr w wr)
  (fun _ i _ => 45 - (intOf i).toNat)
 case atStart => exact ⟨0, _, by omega, rfl, M0.1, M0.2, fun j hj => absurd hj (Nat.not_lt_zero _), (Gr.refl _).alloc _ _⟩
 case round =>
  clear M0 hmk;obtain ⟨k, c, hk, rfl, hC, hs, hj, hg⟩ := hrel
  by_cases hlt : k < 45
  ·have HA := kh (gainAngle_c k hlt)
   have HS := kh hs;have HJ := kh hj;clear hs hj;go_wp2_with fail;refine (HA.out _).mono ?_;rintro e w2 ⟨rfl, hg2⟩;have hC2 := hC.gr hg2;have f2 := hC2.frozen k;have q2 := hC2.cell k;have hg3 := hg.trans hg2;rw [Array.getElem?_eq_getElem (show k < c.size by rw [HS.out]; exact hlt)] at q2;clear hC hg2 hg HA;go_wp2_with fail;have hC3 := hC2.set k (.int .i64 (ang k));have hg4 := hg3.setCell (a := ⟨w.heap.size, k, none⟩) (by simp) (.int .i64 (ang k))
   go_roundw
   case rel =>
    refine ⟨k + 1, _, by omega, by go_num, hC3, by simpa using HS.out, fun j hj => ?_, hg4⟩;rw [Array.getElem?_setIfInBounds]
    split
    ·next e => subst e; rw [if_pos (by rw [HS.out]; exact hlt)]
    ·exact HJ.out j (by omega)
   case measure => simp [intOf]; omega
  ·have he : k = 45 := by omega
   subst he;go_wp2_with fail
   go_ret
   exact ⟨w.heap.size, c, rfl, Nat.le_refl _, hC, hj, hg⟩
theorem gainTurned_c (x z : Int) (h0 : 0 ≤ x) (h1 : x ≤ 144115188075855872) (hz : z.natAbs ≤ 72057594037927936) (w : World) :
 CW 232 #[x, z] w (.tuple #[.agg #[(trun 45 ⟨x, 0, z⟩).re, (trun 45 ⟨x, 0, z⟩).im], (trun 45 ⟨x, 0, z⟩).left]) :=by
 delta CW
 have HA := kh gainAngs_c
 have HB := kh fun k (hk : k ≤ 45) => trun_bd x z h0 h1 hz k hk
 clear h0 h1 hz
 go_in
 go_wp2_with fail
 have R0 := (CellsAt.new w 50 #[.int .i64 0, .int .i64 0]).alloc (.cells #[x, .int .i64 0] 50)
 have R1 := CellsAt.new (w.alloc (.cells #[.int .i64 0, .int .i64 0] 50)) 50 #[x, .int .i64 0]
 rw [World.size_alloc] at R1
 have G0 := ((Gr.refl w).alloc #[.int .i64 0, .int .i64 0] 50).alloc #[x, .int .i64 0] 50
 refine (HA.out _).mono ?_
 rintro e w1 ⟨B, cs, rfl, hBB, hcs, hj, hg1⟩
 simp only [World.size_alloc] at hBB
 have R0' := R0.gr hg1
 have R1' := R1.gr hg1
 have G1 := G0.trans hg1
 have HC := kh hj
 clear hj R0 R1 G0 hg1 HA
 go_wp2_with fail
 go_loopw [7, 8, 9, 10, 11, 17] (fun l _ _ _ _ i wr => ∃ k : Nat, k ≤ 45 ∧ i = .int .i64 k ∧ l = .int .i64 (trun k ⟨x, 0, z⟩).left ∧ CellsAt wr w.heap.size 50 #[.int .i64 0, .int .i64 0] ∧ CellsAt wr (w.heap.size + 1) 50 #[(trun k ⟨x, 0, z⟩).re, (trun k ⟨x, 0, z⟩).im] ∧ CellsAt wr B 3 cs ∧ Gr w wr)
  (fun _ _ _ _ _ i _ => 45 - (intOf i).toNat)
 case atStart => exact ⟨0, by omega, rfl, rfl, R0', R1', hcs, G1⟩
 case round =>
  clear R0' R1' hcs;obtain ⟨k, hk, rfl, rfl, hr0, hr1, hcs, hg'⟩ := hrel;have q0 := hr1.cell 0;have q1 := hr1.cell 1;obtain ⟨f0, f1⟩ := hr1.f2;have bd := HB.out k hk;have et := trun_succ k ⟨x, 0, z⟩;generalize hs : trun k ⟨x, 0, z⟩ = s at *;have HQ := kh hs;clear hs;obtain ⟨re, im, left⟩ := s;simp only [getS] at q0 q1 bd;have hsz := hg'.size
  by_cases hlt : k < 45
  ·have hcx := (hcs.cell k).trans (HC.out k hlt)
   have hBlt := hcs.lt
   have hk62 : k ≤ 62 := by omega
   have fa := fl_abs re k;have fb := fl_abs im k
   have ga : re.natAbs / 2 ^ k ≤ re.natAbs := Nat.div_le_self _ _
   have gb : im.natAbs / 2 ^ k ≤ im.natAbs := Nat.div_le_self _ _
   have ba : -1152921504606846977 ≤ re / 2 ^ k ∧ re / 2 ^ k ≤ 1152921504606846977 := by omega
   have bb : -1152921504606846977 ≤ im / 2 ^ k ∧ im / 2 ^ k ≤ 1152921504606846977 := by omega
   have bc : -1152921504606846977 ≤ re ∧ re ≤ 1152921504606846977 := by omega
   have bd' : -1152921504606846977 ≤ im ∧ im ≤ 1152921504606846977 := by omega
   have be : -288230376151711744 ≤ left ∧ left ≤ 288230376151711744 := by omega
   have bf : ((ang k : Nat) : Int) ≤ 144115188075855872 := by have := ang_bd k hlt; omega
   have s1 : Op.shift .shr .i64 re .i64 (k : Int) = pure (.int .i64 (re / 2 ^ k)) := by
    rw [shift_shr .i64 .i64 re k (by omega) (by show (k : Int) ≤ 64; omega), Int.toNat_natCast]
   have s2 : Op.shift .shr .i64 im .i64 (k : Int) = pure (.int .i64 (im / 2 ^ k)) := by
    rw [shift_shr .i64 .i64 im k (by omega) (by show (k : Int) ≤ 64; omega), Int.toNat_natCast]
   clear fa fb ga gb bd
   by_cases hl : 0 ≤ left
   ·have ET : tstep k ⟨re, im, left⟩ = ⟨re - im / 2 ^ k, im + re / 2 ^ k, left - ang k⟩ := by rw [tstep, if_pos (show 0 ≤ left from hl)]
    rw [ET] at et;clear ET;have HE := kh et;clear et s1 s2;go_wp2_with fail
    go_quiet (fail)
    go_wp2_with fail;generalize re / 2 ^ k = a at *;generalize im / 2 ^ k = c at *;have n1 := (((hr1.drewN nq).set 0 (.int .i64 (re - c))).set 1 (.int .i64 (im + a)));have n0 := ((hr0.drewN nq).other (B' := w.heap.size + 1) (by omega) 0 (.int .i64 (re - c))).other (B' := w.heap.size + 1) (by omega) 1 (.int .i64 (im + a));have n2 := ((hcs.drewN nq).other (B' := w.heap.size + 1) (by omega) 0 (.int .i64 (re - c))).other (B' := w.heap.size + 1) (by omega) 1 (.int .i64 (im + a));have G3 := ((hg'.drewN nq).setCell (a := ⟨w.heap.size + 1, 0, none⟩) (by simp) (.int .i64 (re - c))).setCell (a := ⟨w.heap.size + 1, 1, none⟩) (by simp) (.int .i64 (im + a));refine ⟨⟨k + 1, by omega, by go_num, by rw [HE.out], n0, by rw [HE.out]; exact n1, n2, G3⟩, by simp [intOf]; omega⟩
   ·have ET : tstep k ⟨re, im, left⟩ = ⟨re + im / 2 ^ k, im - re / 2 ^ k, left + ang k⟩ := by rw [tstep, if_neg (show ¬ 0 ≤ left from hl)]
    rw [ET] at et;clear ET;have HE := kh et;clear et s1 s2;go_wp2_with fail
    go_quiet (fail)
    go_wp2_with fail;generalize re / 2 ^ k = a at *;generalize im / 2 ^ k = c at *;have n1 := (((hr1.drewN nq).set 0 (.int .i64 (re + c))).set 1 (.int .i64 (im - a)));have n0 := ((hr0.drewN nq).other (B' := w.heap.size + 1) (by omega) 0 (.int .i64 (re + c))).other (B' := w.heap.size + 1) (by omega) 1 (.int .i64 (im - a));have n2 := ((hcs.drewN nq).other (B' := w.heap.size + 1) (by omega) 0 (.int .i64 (re + c))).other (B' := w.heap.size + 1) (by omega) 1 (.int .i64 (im - a));have G3 := ((hg'.drewN nq).setCell (a := ⟨w.heap.size + 1, 0, none⟩) (by simp) (.int .i64 (re + c))).setCell (a := ⟨w.heap.size + 1, 1, none⟩) (by simp) (.int .i64 (im - a));refine ⟨⟨k + 1, by omega, by go_num, by rw [HE.out], n0, by rw [HE.out]; exact n1, n2, G3⟩, by simp [intOf]; omega⟩
  ·have he : k = 45 := by omega
   obtain ⟨r0, r1⟩ := hr0.t2;obtain ⟨g0, g1⟩ := hr0.f2;subst he;go_wp2_with fail;rw [HQ.out];refine bodyPost_ret (v := .tuple #[.agg #[re, im], left]) ?_ rfl ⟨rfl, ?_⟩
   ·simp [results, Tryz.f232, go_sem, r0, r1]
   ·exact (hg'.setCell (a := ⟨w.heap.size, 0, none⟩) (by simp) _).setCell (a := ⟨w.heap.size, 1, none⟩) (by simp) _
theorem gainGain_c (w : World) : GainIs w := by
 unfold GainIs
 have HR := kh (gainTurned_c 72057594037927936 0 (by omega) (by omega) (by decide))
 have HG := kh gain_run
 go_in
 go_wp2_with fail
 refine (HR.out _).mono ?_
 rintro e w2 ⟨rfl, hg⟩
 have HQ : (trun 45 ⟨72057594037927936, 0, 0⟩).re = 118661582157481174 := HG.out
 generalize trun 45 ⟨72057594037927936, 0, 0⟩ = s at *
 obtain ⟨re, im, left⟩ := s
 simp only at HQ
 rw [HQ]
 clear HQ
 go_wp2_with fail
 go_ret
 exact ⟨rfl, hg.alloc _ _⟩
theorem gainRun_ok (x z : Int) (h0 : 0 ≤ x) (h1 : x ≤ 144115188075855872) (hz : z.natAbs ≤ 72057594037927936) (W : World) : RunIs x z W := by
 unfold RunIs
 have HR := kh (gainTurned_c x z h0 h1 hz)
 have z0 : -72057594037927936 ≤ z := by omega
 have z1 : z ≤ 72057594037927936 := by omega
 clear hz
 generalize trun 45 ⟨x, 0, z⟩ = s at *
 obtain ⟨re, im, left⟩ := s
 simp only at HR ⊢
 go_in
 go_wp2_with fail
 have R0 := CellsAt.new W 50 #[.int .i64 0, .int .i64 0]
 refine (HR.out _).mono ?_
 rintro e w1 ⟨rfl, hg1⟩
 have R1 := R0.gr hg1
 have R2 := R1.alloc (.cells #[re, im] 50)
 have hg2 := (((Gr.refl W).alloc _ _).trans hg1).alloc #[re, im] 50
 have hsz := hg1.size
 simp only [World.size_alloc] at hsz
 obtain ⟨r0, r1⟩ := R2.t2
 obtain ⟨g0, g1⟩ := R2.f2
 go_wp2_with fail
 refine bodyPost_ret (v := .tuple #[.agg #[re, im], left, .int .i64 0]) ?_ rfl ⟨rfl, ?_⟩
 ·simp [results, Tryz.f228, go_sem, r0, r1]
 ·exact (hg2.setCell (a := ⟨W.heap.size, 0, none⟩) (by simp) _).setCell (a := ⟨W.heap.size, 1, none⟩) (by simp) _
def wstep (d : Nat) (p : Nat × Nat) : Nat × Nat :=
 if d ≤ 2 * p.1 + p.2 / 9223372036854775808 then (2 * p.1 + p.2 / 9223372036854775808 - d, 2 * p.2 % 18446744073709551616 + 1) else (2 * p.1 + p.2 / 9223372036854775808, 2 * p.2 % 18446744073709551616)
def wrun (d : Nat) (p : Nat × Nat) : Nat → Nat × Nat
 | 0 => p
 | k + 1 => wstep d (wrun d p k)
theorem wrun_bd (d : Nat) (p : Nat × Nat) (hd : d ≤ 9223372036854775808) (h1 : p.1 < d) (h2 : p.2 < 18446744073709551616) (k : Nat) : (wrun d p k).1 < d ∧ (wrun d p k).2 < 18446744073709551616 := by
 induction k with
 | zero => exact ⟨h1, h2⟩
 | succ k ih =>
   obtain ⟨i1, i2⟩ := ih
   show (wstep d (wrun d p k)).1 < d ∧ (wstep d (wrun d p k)).2 < 18446744073709551616
   generalize wrun d p k = s at *;obtain ⟨a, b⟩ := s
   simp only at i1 i2
   unfold wstep
   split <;> simp only <;> omega
theorem doubled_c (h l : Nat) (hh : h < 9223372036854775808) (hl : l < 18446744073709551616) (w : World) :
 CW 237 #[.agg #[.int .u64 h, .int .u64 l]] w (.agg #[.int .u64 ((2 * h + l / 9223372036854775808 : Nat) : Int), .int .u64 ((2 * l % 18446744073709551616 : Nat) : Int)]) :=by
 delta CW
 go_in
 have eb : bits .or .u64 ((h : Int) * 2) ((l : Int) / 9223372036854775808) = ((2 * h + l / 9223372036854775808 : Nat) : Int) := by
  have := bits_or_u64_nat (2 * h) (l / 9223372036854775808) (by omega) (by omega)
  rw [show ((h : Int) * 2) = ((2 * h : Nat) : Int) by omega, show ((l : Int) / 9223372036854775808) = ((l / 9223372036854775808 : Nat) : Int) by omega, this]
  congr 1
  have l1 : l / 9223372036854775808 < 2 := by omega
  generalize l / 9223372036854775808 = b at *
  have := Nat.two_pow_add_eq_or_of_lt (i := 1) (b := b) (by omega) h
  rw [show (2 : Nat) ^ 1 = 2 from rfl] at this
  omega
 have ew : IntKind.u64.wrap ((l : Int) * 2) = ((2 * l % 18446744073709551616 : Nat) : Int) := by rw [IntKind.wrap_u64]; omega
 go_wp2_with fail
 refine bodyPost_ret (v := .agg #[.int .u64 (2 * (h : Int) + (l : Int) / 9223372036854775808), .int .u64 (2 * (l : Int) % 18446744073709551616)]) ?_ rfl ⟨?_, ?_⟩
 ·simp [results, Tryz.f237, go_sem]
 ·simp
 ·exact ((Gr.refl w).alloc _ _).alloc _ _
theorem wrun_succ (d : Nat) (p : Nat × Nat) (k : Nat) : wrun d p (k + 1) = wstep d (wrun d p k) := rfl
set_option maxRecDepth 10000 in set_option maxHeartbeats 2000000 in
theorem wideDivided_c (d h l : Nat) (hd : d ≤ 9223372036854775808) (h1 : h < d) (h2 : l < 18446744073709551616) (w : World) :
 CW 233 #[.agg #[.int .u64 h, .int .u64 l], .int .u64 d] w (.int .u64 (wrun d (h, l) 64).2) :=by
 delta CW
 have HB := kh (wrun_bd d (h, l) hd h1 h2)
 have HD0 := kh hd
 clear h1 h2 hd
 go_in
 go_wp2_with fail
 have R0 := CellsAt.new w 248 #[.int .u64 h, .int .u64 l]
 go_loopw [5] (fun i wr => ∃ k : Nat, k ≤ 64 ∧ i = .int .i64 k ∧ CellsAt wr w.heap.size 248 #[.int .u64 (wrun d (h, l) k).1, .int .u64 (wrun d (h, l) k).2] ∧ Gr w wr)
  (fun i _ => 64 - (intOf i).toNat)
 case atStart => exact ⟨0, by omega, rfl, R0, (Gr.refl _).alloc _ _⟩
 case round =>
  clear R0;obtain ⟨k, hk, rfl, hr, hg⟩ := hrel;have bd := HB.out k;have et := wrun_succ d (h, l) k;generalize hs : wrun d (h, l) k = s at *;have HQ := kh hs;clear hs;obtain ⟨a, b⟩ := s
  simp only at bd
  by_cases hlt : k < 64
  ·have q0 := hr.cell 0
   have q1 := hr.cell 1;simp only [getS] at q0 q1;have HD := kh (doubled_c a b (by have := HD0.out; omega) bd.2);unfold wstep at et
   simp only at et
   have u0 : 2 * a + b / 9223372036854775808 < 18446744073709551616 := by have := HD0.out; omega
   have u1 : 2 * b % 18446744073709551616 + 1 < 18446744073709551616 := by omega
   have hBs := hr.lt;generalize 2 * a + b / 9223372036854775808 = a' at *;generalize 2 * b % 18446744073709551616 = b' at *;have HU := kh (And.intro u0 u1);clear bd u0 u1 hBs;have HT := kh et;clear et;go_wp2_with fail;refine (HD.out _).mono ?_;rintro e w2 ⟨rfl, hg2⟩;have hr2 := hr.gr hg2;have hg3 := hg.trans hg2;obtain ⟨f0, f1⟩ := hr2.f2;obtain ⟨p0, p1⟩ := hr2.t2;clear hr hg hg2 q0 q1 HD
   by_cases hc : d ≤ a'
   ·have HE := kh (HT.out.trans (if_pos hc))
    have e1 : IntKind.u64.wrap ((a' : Int) - (d : Int)) = ((a' - d : Nat) : Int) := by have := HU.out; rw [IntKind.wrap_u64]; omega
    have e2 : IntKind.u64.wrap ((b' : Int) + 1) = ((b' + 1 : Nat) : Int) := by have := HU.out; rw [IntKind.wrap_u64]; omega
    have hc' : (d : Int) ≤ (a' : Int) := by omega
    go_wp2_with fail;have n1 := (((hr2.set 0 (.int .u64 a')).set 1 (.int .u64 b')).set 0 (.int .u64 ((a' - d : Nat) : Int))).set 1 (.int .u64 ((b' : Int) + 1));have G3 := (((hg3.setCell (a := ⟨w.heap.size, 0, none⟩) (by simp) (.int .u64 a')).setCell (a := ⟨w.heap.size, 1, none⟩) (by simp) (.int .u64 b')).setCell (a := ⟨w.heap.size, 0, none⟩) (by simp) (.int .u64 ((a' - d : Nat) : Int))).setCell (a := ⟨w.heap.size, 1, none⟩) (by simp) (.int .u64 ((b' : Int) + 1))
    exact ⟨⟨k + 1, by omega, by go_num, by rw [HE.out]; exact n1, G3⟩, by simp [intOf]; omega⟩
   ·have HE := kh (HT.out.trans (if_neg hc))
    have hc' : ¬ (d : Int) ≤ (a' : Int) := by omega
    go_wp2_with fail;have n1 := (hr2.set 0 (.int .u64 a')).set 1 (.int .u64 b');have G3 := (hg3.setCell (a := ⟨w.heap.size, 0, none⟩) (by simp) (.int .u64 a')).setCell (a := ⟨w.heap.size, 1, none⟩) (by simp) (.int .u64 b')
    exact ⟨⟨k + 1, by omega, by go_num, by rw [HE.out]; exact n1, G3⟩, by simp [intOf]; omega⟩
  ·have he : k = 64 := by omega
   subst he;have q1 := hr.cell 1;simp only [getS] at q1;clear bd et;go_wp2_with fail;rw [HQ.out]
   go_ret
   exact ⟨rfl, hg⟩
theorem wrun_inv : wrun 118661582157481174 (281474976710656, 0) 64 = (67367133180445296, 43757185469210200) := by decide +kernel
theorem gainInv_c (w : World) : InvIs w := by
 unfold InvIs
 have G : CR 234 #[] (.int .i64 118661582157481174) := kh gainGain_c
 have D : CR 233 #[.agg #[.int .u64 281474976710656, .int .u64 0], .int .u64 118661582157481174] (.int .u64 43757185469210200) := kh fun W => by
  have := wideDivided_c 118661582157481174 281474976710656 0 (by decide) (by decide) (by decide) W
  rw [wrun_inv] at this
  exact this
 have k1 : IntKind.u64.wrap 118661582157481174 = 118661582157481174 := by decide
 have k2 : IntKind.i64.wrap 43757185469210200 = 43757185469210200 := by decide
 go_in
 go_wp2_with fail
 have c0 : (w.alloc (.cells #[.int .u64 281474976710656, .int .u64 0] 248)).cell? ⟨w.heap.size, 0, none⟩ = some (.int .u64 281474976710656) := by simp
 have c1 : (w.alloc (.cells #[.int .u64 281474976710656, .int .u64 0] 248)).cell? ⟨w.heap.size, 1, none⟩ = some (.int .u64 0) := by simp
 have hg0 := (Gr.refl w).alloc #[.int .u64 281474976710656, .int .u64 0] 248
 have hB : w.heap.size < (w.alloc (.cells #[.int .u64 281474976710656, .int .u64 0] 248)).heap.size := by simp
 generalize w.alloc (.cells #[.int .u64 281474976710656, .int .u64 0] 248) = u at *
 generalize w.heap.size = B at *
 go_region_held3 (fun W => W.cell? ⟨B, 0, none⟩ = some (.int .u64 281474976710656) ∧ W.cell? ⟨B, 1, none⟩ = some (.int .u64 0) ∧ Gr u W)
  (first | (go_split_ands; refine ⟨?_, ?_, ?_⟩; (all_goals (first | assumption | exact Gr.refl _ | exact Gr.drew (Gr.refl _) | exact Gr.drew (by assumption) | (go_keep; done) | ((refine (Gr.cell (by assumption) ?_).trans ?_ <;> (first | assumption)); done)))))
  (first | (go_at_call 234; go_split_ands; ((with_reducible refine (G.out _).mono ?_); rintro e w' ⟨rfl, hg⟩; have hgw : Gr u w' := Gr.trans (by first | assumption | exact Gr.drew (Gr.refl _) | exact Gr.drew (by assumption) | exact Gr.refl _) hg)) | (go_at_call 233; go_split_ands; ((with_reducible refine (D.out _).mono ?_); rintro e w' ⟨rfl, hg⟩; have hgw : Gr u w' := Gr.trans (by first | assumption | exact Gr.drew (Gr.refl _) | exact Gr.drew (by assumption) | exact Gr.refl _) hg)))
 have g4 : Gr u w' := by (try go_split_ands); assumption
 go_wp2
 go_ret
 exact ⟨rfl, hg0.trans g4⟩
end
section
open Go.ChangeShapes Go.WideShapes Go.ChangeAt Go.RowKit
set_option linter.unusedVariables false
set_option maxRecDepth 100000
set_option maxHeartbeats 16000000
def PV (s : Tn) : Value := .agg #[s.re, s.im]
theorem angL_ne' : angL ≠ [] := by intro e; have := angL_len; rw [e] at this; exact absurd this (by decide)
theorem IntsAt.other {w : World} {v : Value} {xs : List Int} (h : IntsAt w v xs) (B : Nat) (hne : v.ownBlock ≠ some B) (j : Nat) (x : Value) : IntsAt (w.setCell ⟨B, j, none⟩ x) v xs := by
 rcases h with h | ⟨b, o, cap, rfl, hl, hm, hb, hc⟩
 ·exact .inl h
 ·have hbB : b ≠ B := by intro e; exact hne (by rw [e]; rfl)
  refine .inr ⟨b, o, cap, rfl, hl, hm, by simpa using hb, fun k y hk => ?_⟩;rw [← hc k y hk];unfold World.cell?;rw [Below.heap_setCell _ _ _ _ hbB]
theorem all05_new (w : World) : Calls Tryz.prog 77 #[] w fun e w' => ∃ v, e = .returned (.agg #[v, .int .i64 43757185469210200]) ∧ IntsAt w' v angL ∧ Gr w w' ∧ ∀ k, v.ownBlock = some k → w.heap.size ≤ k := by
 have HA := kh angles05_row
 have HI := kh inverse05_c
 go_in
 go_wp2_with fail
 have R0 := CellsAt.new w 103 #[.slice none 0 0, .int .i64 0]
 refine (HA.out _).mono ?_
 rintro e w1 ⟨v, rfl, hrow, g1⟩
 have R1 := R0.gr g1
 have gw1 := ((Gr.refl w).alloc #[.slice none 0 0, .int .i64 0] 103).trans g1
 have hI := IntsAt.of_row hrow
 have hfr : v.ownBlock ≠ some w.heap.size := by
  intro e
  have := (hrow.lt _ e).1
  simp at this
  omega
 have hfw : ∀ k, v.ownBlock = some k → w.heap.size ≤ k := by
  intro k e
  have := (hrow.lt _ e).1
  simp at this
  omega
 have J := kh hI
 obtain ⟨b, o, cap, rfl, _⟩ := same_len hI angL_ne'
 have HF := kh hfr
 have HW := kh hfw
 clear hI R0 g1 hrow hfr hfw
 go_wp2_with fail
 refine (HI.out _).mono ?_
 rintro e w2 ⟨rfl, g2⟩
 have R2 := R1.gr g2
 have gw2 := gw1.trans g2
 have J2 := kh (J.out.gr g2)
 have hsz := gw2.size
 obtain ⟨c0, c1⟩ := R2.t2
 obtain ⟨f0, f1⟩ := R2.f2
 clear gw1 R1 g2 J
 go_wp2_with fail
 refine bodyPost_ret (v := .agg #[.slice (some ⟨b, o, none⟩) angL.length cap, .int .i64 43757185469210200]) ?_ rfl ⟨_, rfl, ?_, ?_, HW.out⟩
 ·simp [results, Tryz.f77, go_sem, c0, c1]
 ·exact (J2.out.other _ HF.out _ _).other _ HF.out _ _
 ·exact (gw2.setCell (a := ⟨w.heap.size, 0, none⟩) (by simp) _).setCell (a := ⟨w.heap.size, 1, none⟩) (by simp) _
theorem angL_0 : angL[0]? = some 56593902016227522 := by decide +kernel
theorem eighthOf06_c (k log : Int) (h0 : 0 ≤ log) (h1 : log ≤ 6) (k0 : 0 ≤ k) (k1 : k ≤ 2 ^ log.toNat) (hz : (eighthZ k log).natAbs ≤ 72057594037927936) (v : Value) (w : World) (hv : IntsAt w v angL) :
 CW 172 #[.agg #[v, .int .i64 43757185469210200], k, log] w (.agg #[(pt (eighthZ k log)).re, (pt (eighthZ k log)).im]) :=by
 delta CW
 have kb : k ≤ 64 := by
  rcases (by omega : log = 0 ∨ log = 1 ∨ log = 2 ∨ log = 3 ∨ log = 4 ∨ log = 5 ∨ log = 6) with rfl | rfl | rfl | rfl | rfl | rfl | rfl <;> simp at k1 <;> omega
 have HFl := kh (floor_c (56593902016227522 * k) log (by omega) h0 (by omega))
 have eZ : 56593902016227522 * k / 2 ^ log.toNat = eighthZ k log := rfl
 rw [eZ] at HFl
 have HR := kh fun v => runOf05_c 43757185469210200 (eighthZ k log) (by omega) (by omega) hz v
 have e0 : trun 45 ⟨43757185469210200, 0, eighthZ k log⟩ = pt (eighthZ k log) := rfl
 rw [e0] at HR
 clear hz e0 eZ k1
 generalize eighthZ k log = z at *
 generalize pt z = s at *
 obtain ⟨re, im, left⟩ := s
 unfold TV at HR
 simp only at HR ⊢
 have hf := field_P
 have J := kh hv
 obtain ⟨b, o, cap, rfl, hlen, hb, hc⟩ := same_len hv angL_ne'
 have hc0 := hc 0 _ angL_0
 rw [Nat.add_zero] at hc0
 rw [angL_len] at J ⊢
 have hm : IntKind.i64.wrap (56593902016227522 * k) = 56593902016227522 * k := IntWalk.i64_in _ ⟨by omega, by omega⟩
 clear hv hlen hc kb
 go_in
 go_wp2_with fail
 have T0 := CellsAt.new w 103 #[.slice (some ⟨b, o, none⟩) 45 cap, .int .i64 43757185469210200]
 have R0 := CellsAt.new (w.alloc (.cells #[.slice (some ⟨b, o, none⟩) 45 cap, .int .i64 43757185469210200] 103)) 50 #[.int .i64 0, .int .i64 0]
 rw [World.size_alloc] at R0
 have T1 := T0.alloc (.cells #[.int .i64 0, .int .i64 0] 50)
 have gu : Gr w ((w.alloc (.cells #[.slice (some ⟨b, o, none⟩) 45 cap, .int .i64 43757185469210200] 103)).alloc (.cells #[.int .i64 0, .int .i64 0] 50)) := ((Gr.refl w).alloc _ _).alloc _ _
 have hsz : w.heap.size + 1 < ((w.alloc (.cells #[.slice (some ⟨b, o, none⟩) 45 cap, .int .i64 43757185469210200] 103)).alloc (.cells #[.int .i64 0, .int .i64 0] 50)).heap.size := by simp
 have RU : CxBlock ((w.alloc (.cells #[.slice (some ⟨b, o, none⟩) 45 cap, .int .i64 43757185469210200] 103)).alloc (.cells #[.int .i64 0, .int .i64 0] 50)) (w.heap.size + 1) := ⟨0, 0, R0⟩
 clear R0 T0
 generalize (w.alloc (.cells #[.slice (some ⟨b, o, none⟩) 45 cap, .int .i64 43757185469210200] 103)).alloc (.cells #[.int .i64 0, .int .i64 0] 50) = u at *
 obtain ⟨d0, d1⟩ := T1.t2
 have d2 := (gu.cell (p := ⟨b, o, none⟩) hb).trans hc0
 have hbu : b < u.heap.size := by have := gu.size; omega
 have hBw : w.heap.size < u.heap.size := by omega
 have n1 : b ≠ w.heap.size + 1 := by omega
 have n2 : w.heap.size ≠ w.heap.size + 1 := by omega
 clear T1
 go_region_held3 (fun W => W.cell? ⟨w.heap.size, 0, none⟩ = some (.slice (some ⟨b, o, none⟩) 45 cap) ∧ W.cell? ⟨w.heap.size, 1, none⟩ = some (.int .i64 43757185469210200) ∧ W.cell? ⟨b, o, none⟩ = some (.int .i64 56593902016227522) ∧ w.heap.size + 1 < W.heap.size ∧ CxBlock W (w.heap.size + 1) ∧ Gr w W)
  (first | (go_split_ands; refine ⟨?_, ?_, ?_, ?_, ?_, ?_⟩; (all_goals (first | assumption | exact Gr.drew (by assumption) | exact CxBlock.drew (by assumption) | exact CxBlock.set (by assumption) _ _ | (go_keep; done) | (exact Gr.setCell (Gr.setCell (by assumption) (by simp) _) (by simp) _) | (simp; done) | (simp; assumption) | (go_simp; done) | (go_simp; assumption)))))
  (first | (go_at_call 145; go_split_ands; ((with_reducible refine (HFl.out _).mono ?_); rintro e w' ⟨rfl, rfl⟩)) | (go_at_call 196; go_split_ands; ((with_reducible refine (HR.out _ _ ?_).mono ?_); (first | exact J.out.gr (by first | assumption | exact Gr.drew (by assumption)) | skip); rintro e w' ⟨rfl, hg⟩; have hgw : Gr w w' := Gr.trans (by first | assumption | exact Gr.drew (by assumption)) hg; have sz2 := Nat.lt_of_lt_of_le (by assumption : w.heap.size + 1 < _) hg.size; have e0 := (hg.cell (p := ⟨w.heap.size, 0, none⟩) (Nat.lt_of_succ_lt (by assumption))).trans (by assumption); have e1 := (hg.cell (p := ⟨w.heap.size, 1, none⟩) (Nat.lt_of_succ_lt (by assumption))).trans (by assumption); have e2 := (hgw.cell (p := ⟨b, o, none⟩) hb).trans hc0; have rw' : CxBlock w' (w.heap.size + 1) := CxBlock.gr (by first | assumption | exact CxBlock.drew (by assumption)) hg; obtain ⟨x, y, r2⟩ := rw'.out; have c0 := r2.cell 0; have c1 := r2.cell 1; have f0 := r2.frozen 0; have f1 := r2.frozen 1; simp only [getS] at c0 c1; clear r2)))
 have hw2 : Gr w w' := by assumption
 clear J HR HFl hf
 go_wp2_with fail
 refine bodyPost_ret (v := .agg #[re, im]) ?_ rfl ⟨rfl, ?_⟩
 ·simp [results, Tryz.f172, go_sem, c0, c1]
 ·exact Gr.setCell (Gr.setCell hw2 (by simp) _) (by simp) _
end
section
open Go.ChangeShapes Go.WideShapes Go.ChangeAt Go.RowKit
set_option linter.unusedVariables false
def PtIs (z : Int) (W : World) : Prop := Calls Tryz.prog 224 #[z] W fun e w' => e = .returned (.tuple #[.agg #[(pt z).re, (pt z).im], .int .i64 0]) ∧ Gr W w'
def EiIs (k log : Int) (W : World) : Prop := Calls Tryz.prog 220 #[k, log] W fun e w' => e = .returned (.tuple #[.agg #[(pt (eighthZ k log)).re, (pt (eighthZ k log)).im], .int .i64 0]) ∧ Gr W w'
theorem point_ok (z : Int) (hz : z.natAbs ≤ 72057594037927936) (w : World) : PtIs z w := by
 unfold PtIs
 have HI : CR 229 #[] (.int .i64 43757185469210200) := kh fun W => gainInv_c W
 have HR : CR 228 #[.int .i64 43757185469210200, z] (.tuple #[.agg #[(pt z).re, (pt z).im], (pt z).left, .int .i64 0]) := kh fun W => gainRun_ok 43757185469210200 z (by omega) (by omega) hz W
 clear hz
 generalize pt z = s at *
 obtain ⟨re, im, left⟩ := s
 simp only at HR ⊢
 go_in
 go_wp2_with fail
 have R0 := CellsAt.new w 50 #[.int .i64 0, .int .i64 0]
 refine (HI.out _).mono ?_
 rintro e w1 ⟨rfl, g1⟩
 have R1 := R0.gr g1
 have gw1 := ((Gr.refl w).alloc #[.int .i64 0, .int .i64 0] 50).trans g1
 clear R0 g1
 go_wp2_with fail
 refine (HR.out _).mono ?_
 rintro e w2 ⟨rfl, g2⟩
 have R2 := (R1.gr g2).alloc (.cells #[re, im] 50)
 have gw2 := (gw1.trans g2)
 have hsz := gw2.size
 have gw3 := gw2.alloc #[re, im] 50
 obtain ⟨c0, c1⟩ := R2.t2
 obtain ⟨f0, f1⟩ := R2.f2
 clear gw1 R1 g2 gw2
 go_wp2_with fail
 refine bodyPost_ret (v := .tuple #[.agg #[re, im], .int .i64 0]) ?_ rfl ⟨rfl, ?_⟩
 ·simp [results, Tryz.f224, go_sem, c0, c1]
 ·exact (gw3.setCell (a := ⟨w.heap.size, 0, none⟩) (by simp) _).setCell (a := ⟨w.heap.size, 1, none⟩) (by simp) _
theorem parts1_c (p q : Nat) (k log : Int) (h0 : 0 ≤ log) (h1 : log ≤ 6) (k0 : 0 ≤ k) (k1 : k ≤ 64) (w : World)
 (c0 : w.cell? ⟨p, 0, none⟩ = some (.int .i64 56593902016227522)) (c1 : w.cell? ⟨q, 0, none⟩ = some (.int .i64 log)) :
 Calls Tryz.prog 225 #[k, .pointer (some ⟨p, 0, none⟩), .pointer (some ⟨q, 0, none⟩)] w fun e w' => e = .returned (.int .i64 (eighthZ k log)) ∧ w' = w := by
 have hm : IntKind.i64.wrap (56593902016227522 * k) = 56593902016227522 * k := IntWalk.i64_in _ ⟨by omega, by omega⟩
 have hb : (56593902016227522 * k) / 2 ^ log.toNat = eighthZ k log := rfl
 go_in
 go_wp2
 go_ret
 exact ⟨rfl, rfl⟩
theorem partsOf_c (log : Int) (w : World) :
 Calls Tryz.prog 222 #[.int .i64 56593902016227522, log] w fun e w' => ∃ p q : Nat, e = .returned (.func (.func 225) #[] #[.pointer (some ⟨p, 0, none⟩), .pointer (some ⟨q, 0, none⟩)]) ∧ w'.cell? ⟨p, 0, none⟩ = some (.int .i64 56593902016227522) ∧ w'.cell? ⟨q, 0, none⟩ = some (.int .i64 log) ∧ Gr w w' := by
 go_in
 go_wp2
 go_ret
 refine ⟨w.heap.size, w.heap.size + 1, rfl, ?_, ?_, ((Gr.refl w).alloc _ _).alloc _ _⟩
 ·exact ((CellsAt.new w 3 #[.int .i64 56593902016227522]).alloc _).cell 0
 ·have := (CellsAt.new (w.alloc (.cells #[.int .i64 56593902016227522] 3)) 3 #[log]).cell 0
  rw [World.size_alloc] at this
  exact this
theorem eighth_ok (k log : Int) (h0 : 0 ≤ log) (h1 : log ≤ 6) (k0 : 0 ≤ k) (k1 : k ≤ 2 ^ log.toNat) (w : World) : EiIs k log w := by
 unfold EiIs
 obtain ⟨z0, z1, kb⟩ := eighthZ_bd k log h0 h1 k0 k1
 have HQ := kh quarter_c
 have HO := kh (partsOf_c log)
 have HP := kh (point_ok (eighthZ k log) z0)
 unfold PtIs at HP
 have HC := kh fun p q W => parts1_c p q k log h0 h1 k0 kb W
 clear z0 z1 kb
 generalize eighthZ k log = z at *
 generalize pt z = s at *
 obtain ⟨re, im, left⟩ := s
 simp only at HP ⊢
 generalize he : (2 : Int) ^ log.toNat = p2 at *
 have hp2 : (1 : Int) ≤ p2 ∧ p2 ≤ 64 := by
  rcases (by omega : log = 0 ∨ log = 1 ∨ log = 2 ∨ log = 3 ∨ log = 4 ∨ log = 5 ∨ log = 6) with rfl | rfl | rfl | rfl | rfl | rfl | rfl <;> simp at he <;> omega
 have hw2 : IntKind.i64.wrap p2 = p2 := IntWalk.i64_in _ ⟨by omega, by omega⟩
 go_in
 go_wp2_with fail
 have R0 := CellsAt.new w 50 #[.int .i64 0, .int .i64 0]
 refine (HQ.out _).mono ?_
 rintro e w1 ⟨rfl, g1⟩
 have R1 := R0.gr g1
 have gw1 := ((Gr.refl w).alloc #[.int .i64 0, .int .i64 0] 50).trans g1
 clear R0 g1 HQ
 go_wp2_with fail
 refine (HO.out _).mono ?_
 rintro e w2 ⟨p, q, rfl, c0, c1, g2⟩
 have R2 := R1.gr g2
 have gw2 := gw1.trans g2
 have HC2 := kh (HC.out p q w2 c0 c1)
 clear R1 g2 HO gw1 c0 c1 HC
 go_wp2_with fail
 refine HC2.out.mono ?_
 rintro e w3 ⟨rfl, rfl⟩
 go_wp2_with fail
 refine (HP.out _).mono ?_
 rintro e w4 ⟨rfl, g4⟩
 have R3 := R2.gr g4
 have gw3 := gw2.trans g4
 have hsz := gw3.size
 obtain ⟨d0, d1⟩ := R3.t2
 obtain ⟨f0, f1⟩ := R3.f2
 clear R2 g4 HP HC2 gw2
 go_wp2_with fail
 refine bodyPost_ret (v := .tuple #[.agg #[re, im], .int .i64 0]) ?_ rfl ⟨rfl, ?_⟩
 ·simp [results, Tryz.f220, go_sem, d0, d1]
 ·exact (gw3.setCell (a := ⟨w.heap.size, 0, none⟩) (by simp) _).setCell (a := ⟨w.heap.size, 1, none⟩) (by simp) _
end
end Go.Proofs.YtdignnmpfkgkoaaGreat
