import Derived.Test.YtdignnmpfkgkoaaGreatRealBinsS15
import Derived.Test.YtdignnmpfkgkoaaGreatRealBinsS17
namespace Go.Proofs.YtdignnmpfkgkoaaGreat
section
open Go.ChangeShapes Go.WideShapes Go.ChangeAt Go.RowKit
set_option linter.unusedVariables false
set_option maxRecDepth 100000
set_option linter.unusedSimpArgs false
set_option maxHeartbeats 16000000
def stp (F h : Nat) (O : Nat → Nat → Gi) (f : Nat → Gi) (j q i : Nat) : Gi :=
 if F ≤ i ∧ i < F + 4 * h ∧ ((i - F) % h < j ∨ ((i - F) % h = j ∧ (i - F) / h < q)) then O ((i - F) % h) ((i - F) / h) else f i
theorem stp_start (F h : Nat) (O : Nat → Nat → Gi) (f : Nat → Gi) (i : Nat) : stp F h O f 0 0 i = f i := by
 unfold stp
 generalize (i - F) % h = r
 generalize (i - F) / h = s
 rw [if_neg (by omega)]
theorem place_div (h q j : Nat) (hj : j < h) : (q * h + j) / h = q ∧ (q * h + j) % h = j := by
 constructor
 ·rw [Nat.mul_comm, Nat.mul_add_div (by omega), Nat.div_eq_of_lt hj, Nat.add_zero]
 ·rw [Nat.mul_comm, Nat.mul_add_mod, Nat.mod_eq_of_lt hj]
theorem place_lt (h q j : Nat) (hq : q < 4) (hj : j < h) : q * h + j < 4 * h := by
 have : (q + 1) * h ≤ 4 * h := Nat.mul_le_mul_right _ hq
 rw [Nat.succ_mul] at this
 omega
theorem stp_next (F h : Nat) (O : Nat → Nat → Gi) (f : Nat → Gi) (j q i : Nat) (hj : j < h) (hq : q < 4) : (if i = F + (q * h + j) then O j q else stp F h O f j q i) = stp F h O f j (q + 1) i := by
 have hp := place_div h q j hj
 have hl := place_lt h q j hq hj
 by_cases e : i = F + (q * h + j)
 ·subst e
  unfold stp;rw [if_pos rfl, show F + (q * h + j) - F = q * h + j by omega, hp.1, hp.2, if_pos (by omega)]
 ·rw [if_neg e]
  unfold stp
  by_cases a : F ≤ i ∧ i < F + 4 * h
  ·have hd := Nat.div_add_mod (i - F) h
   have hne : ¬ ((i - F) % h = j ∧ (i - F) / h = q) := by
    rintro ⟨e1, e2⟩;rw [e1, e2, Nat.mul_comm] at hd
    omega
   by_cases c : (i - F) % h < j ∨ ((i - F) % h = j ∧ (i - F) / h < q)
   ·rw [if_pos ⟨a.1, a.2, c⟩, if_pos ⟨a.1, a.2, by omega⟩]
   ·rw [if_neg (fun k => c k.2.2), if_neg (fun k => c (by have := k.2.2; omega))]
  ·rw [if_neg (fun k => a ⟨k.1, k.2.1⟩), if_neg (fun k => a ⟨k.1, k.2.1⟩)]
theorem stp_row (F h : Nat) (O : Nat → Nat → Gi) (f : Nat → Gi) (j i : Nat) (h1 : 1 ≤ h) : stp F h O f j 4 i = stp F h O f (j + 1) 0 i := by
 unfold stp
 by_cases a : F ≤ i ∧ i < F + 4 * h
 ·have hd : (i - F) / h < 4 := by rw [Nat.div_lt_iff_lt_mul (by omega)]; omega
  by_cases c : (i - F) % h < j + 1
  ·rw [if_pos ⟨a.1, a.2, (Nat.lt_or_eq_of_le (Nat.le_of_lt_succ c)).imp id (fun e => ⟨e, hd⟩)⟩, if_pos ⟨a.1, a.2, .inl c⟩]
  ·rw [if_neg (fun k => c ?_), if_neg (fun k => c ?_)]
   ·exact k.2.2.elim id (fun e => absurd e.2 (Nat.not_lt_zero _))
   ·exact k.2.2.elim (fun e => Nat.lt_succ_of_lt e) (fun e => by rw [e.1]; exact Nat.lt_succ_self _)
 ·rw [if_neg (fun k => a ⟨k.1, k.2.1⟩), if_neg (fun k => a ⟨k.1, k.2.1⟩)]
theorem stp_at (F h : Nat) (O : Nat → Nat → Gi) (f : Nat → Gi) (j q : Nat) (hj : j < h) : stp F h O f j 0 (F + (q * h + j)) = f (F + (q * h + j)) := by
 have hp := place_div h q j hj
 unfold stp
 rw [show F + (q * h + j) - F = q * h + j by omega, hp.1, hp.2, if_neg (by omega)]
theorem stp_end (F h : Nat) (O : Nat → Nat → Gi) (f : Nat → Gi) (i : Nat) (h1 : 1 ≤ h) : stp F h O f h 0 i = if F ≤ i ∧ i < F + 4 * h then O ((i - F) % h) ((i - F) / h) else f i := by
 have := Nat.mod_lt (i - F) (show 0 < h by omega)
 unfold stp
 by_cases a : F ≤ i ∧ i < F + 4 * h
 ·rw [if_pos ⟨a.1, a.2, .inl this⟩, if_pos a]
 ·rw [if_neg (fun k => a ⟨k.1, k.2.1⟩), if_neg a]
theorem make_nums (h u j m n : Nat) (hm : 4 * h = m) (hj : j < h) (hm64 : m ≤ 64) (hn64 : n ≤ 64) (hn : n = m * u) :
 (j : Int) < (m : Int) ∧ ((2 * h + j : Nat) : Int) < (m : Int) ∧ ((h + j : Nat) : Int) < (m : Int) ∧ ((3 * h + j : Nat) : Int) < (m : Int) ∧
 IntKind.i64.wrap (2 * (h : Int)) = ((2 * h : Nat) : Int) ∧ IntKind.i64.wrap (3 * (h : Int)) = ((3 * h : Nat) : Int) ∧ IntKind.i64.wrap ((j : Int) * (u : Int)) = ((j * u : Nat) : Int) ∧
 IntKind.i64.wrap (((2 * h : Nat) : Int) + (j : Int)) = ((2 * h + j : Nat) : Int) ∧ IntKind.i64.wrap ((h : Int) + (j : Int)) = ((h + j : Nat) : Int) ∧ IntKind.i64.wrap (((3 * h : Nat) : Int) + (j : Int)) = ((3 * h + j : Nat) : Int) := by
 have k1 : j * u ≤ h * u := Nat.mul_le_mul_right _ (by omega)
 have k2 : h * u ≤ m * u := Nat.mul_le_mul_right _ (by omega)
 have k3 := imul 2 h (by omega)
 have k4 := imul 3 h (by omega)
 exact ⟨by omega, by omega, by omega, by omega, k3, k4, imul j u (by omega), iadd (2 * h) j (by omega), iadd h j (by omega), iadd (3 * h) j (by omega)⟩
theorem quad_nums (h q j m : Nat) (hm : 4 * h = m) (hq : q < 4) (hj : j < h) (hm64 : m ≤ 64) :
 wrap64 ((q : Int) * (h : Int)) = ((q * h : Nat) : Int) ∧ wrap64 (((q * h : Nat) : Int) + (j : Int)) = ((q * h + j : Nat) : Int) ∧ ((q * h + j : Nat) : Int) < (m : Int) := by
 have k := place_lt h q j hq hj
 exact ⟨wmul q h (by omega), wadd (q * h) j (by omega), by omega⟩
theorem idx4 (f : Nat → Gi) (q : Nat) (hq : q < 4) (w : World) : (Instr.index 225 (.agg #[(f 0).re, (f 0).im, (f 1).re, (f 1).im, (f 2).re, (f 2).im, (f 3).re, (f 3).im]) (.int .i64 (q : Int))).run Tryz.prog w = .ok (.agg #[(f q).re, (f q).im]) w := by
 have i0 : ∀ w, (Instr.index 225 (.agg #[(f 0).re, (f 0).im, (f 1).re, (f 1).im, (f 2).re, (f 2).im, (f 3).re, (f 3).im]) (.int .i64 0)).run Tryz.prog w = .ok (.agg #[(f 0).re, (f 0).im]) w := fun _ => by kernel_rfl
 have i1 : ∀ w, (Instr.index 225 (.agg #[(f 0).re, (f 0).im, (f 1).re, (f 1).im, (f 2).re, (f 2).im, (f 3).re, (f 3).im]) (.int .i64 1)).run Tryz.prog w = .ok (.agg #[(f 1).re, (f 1).im]) w := fun _ => by kernel_rfl
 have i2 : ∀ w, (Instr.index 225 (.agg #[(f 0).re, (f 0).im, (f 1).re, (f 1).im, (f 2).re, (f 2).im, (f 3).re, (f 3).im]) (.int .i64 2)).run Tryz.prog w = .ok (.agg #[(f 2).re, (f 2).im]) w := fun _ => by kernel_rfl
 have i3 : ∀ w, (Instr.index 225 (.agg #[(f 0).re, (f 0).im, (f 1).re, (f 1).im, (f 2).re, (f 2).im, (f 3).re, (f 3).im]) (.int .i64 3)).run Tryz.prog w = .ok (.agg #[(f 3).re, (f 3).im]) w := fun _ => by kernel_rfl
 have hc : q = 0 ∨ q = 1 ∨ q = 2 ∨ q = 3 := by omega
 rcases hc with e | e | e | e
 ·subst e; exact i0 w
 ·subst e; exact i1 w
 ·subst e; exact i2 w
 ·subst e; exact i3 w
theorem fMake_of (b s mo : Int) (inv : Bool) (B F N h u n cap bw ow cw : Nat) (ws : List Gi) (f : Nat → Gi) (O : Nat → Nat → Gi) (Rt A4 : Nat → Nat → Gi) (h1 : 1 ≤ h) (hN : F + 4 * h ≤ N) (hN64 : N ≤ 64) (hn : n = 4 * h * u) (hn64 : n ≤ 64) (hu : 1 ≤ u) (hne : bw ≠ B) (hcap : 4 * h ≤ cap)
 (hA4 : ∀ j, j < h → A4 j 0 = f (F + (0 * h + j)) ∧ A4 j 1 = f (F + (2 * h + j)) ∧ A4 j 2 = f (F + (1 * h + j)) ∧ A4 j 3 = f (F + (3 * h + j)))
 (HA : Hid (∀ j, j < h → ∀ W, CxsAt W (.slice (some ⟨bw, ow, none⟩) n cw) ws → Calls Tryz.prog 209 #[.agg #[b, s, mo, inv], .slice (some ⟨bw, ow, none⟩) n cw, .int .i64 ((j * u : Nat) : Int)] W fun e w' => e = .returned (.agg #[.int .i64 ((Rt j) 0).re, .int .i64 ((Rt j) 0).im, .int .i64 ((Rt j) 1).re, .int .i64 ((Rt j) 1).im, .int .i64 ((Rt j) 2).re, .int .i64 ((Rt j) 2).im, .int .i64 ((Rt j) 3).re, .int .i64 ((Rt j) 3).im]) ∧ Gr W w'))
 (HQ : Hid (∀ j, j < h → ∀ W, Calls Tryz.prog 208 #[.agg #[b, s, mo, inv], .agg #[.int .i64 (A4 j 0).re, .int .i64 (A4 j 0).im, .int .i64 (A4 j 1).re, .int .i64 (A4 j 1).im, .int .i64 (A4 j 2).re, .int .i64 (A4 j 2).im, .int .i64 (A4 j 3).re, .int .i64 (A4 j 3).im], .agg #[.int .i64 (Rt j 0).re, .int .i64 (Rt j 0).im, .int .i64 (Rt j 1).re, .int .i64 (Rt j 1).im, .int .i64 (Rt j 2).re, .int .i64 (Rt j 2).im, .int .i64 (Rt j 3).re, .int .i64 (Rt j 3).im]] W fun e w' => e = .returned (.agg #[.int .i64 (O j 0).re, .int .i64 (O j 0).im, .int .i64 (O j 1).re, .int .i64 (O j 1).im, .int .i64 (O j 2).re, .int .i64 (O j 2).im, .int .i64 (O j 3).re, .int .i64 (O j 3).im]) ∧ Gr W w'))
 (w : World) (hv : CxsAt w (.slice (some ⟨bw, ow, none⟩) n cw) ws) (hbw : bw < w.heap.size) (hBw : B < w.heap.size) (hy : RowAt w B 50 N f) :
 Calls Tryz.prog 187 #[.agg #[b, s, mo, inv], .slice (some ⟨B, F * 2, none⟩) ((4 * h : Nat)) cap, .slice (some ⟨bw, ow, none⟩) n cw] w fun e w' => e = .returned (.tuple #[]) ∧ RowAt w' B 50 N (stp F h O f h 0) ∧ GB B w w' := by
 have HA4 := kh hA4
 clear hA4
 have HNX := kh (stp_next F h O f)
 have HRW := kh (stp_row F h O f)
 have HAT := kh (stp_at F h O f)
 have hr0 : RowAt w B 50 N (stp F h O f 0 0) := hy.eq (fun i _ => (stp_start F h O f i).symm)
 have hhu : 4 * h * 1 ≤ 4 * h * u := Nat.mul_le_mul_left _ hu
 have hm4 : ((4 * h : Nat) : Int) / 4 = (h : Int) := by omega
 have hdu : (n : Int) / ((4 * h : Nat) : Int) = (u : Int) := by
  have : (n : Int) = ((4 * h : Nat) : Int) * (u : Int) := by rw [hn]; simp
  rw [this]
  exact Int.mul_ediv_cancel_left _ (by omega)
 have hnz : ¬ ((4 * h : Nat) : Int) = 0 := by omega
 have hu64 : u ≤ 64 := by
  have : 1 * u ≤ 4 * h * u := Nat.mul_le_mul_right _ (by omega)
  omega
 have HN := kh (And.intro hN (And.intro hn hhu))
 have hh16 : h ≤ 16 := by omega
 clear hy hN hn hhu
 generalize hm : 4 * h = m at *
 have HM := kh hm
 have hm64 : m ≤ 64 := by omega
 clear hm
 go_in
 go_wp2_with fail
 have R0 := CellsAt.new w 212 #[b, s, mo, inv]
 have gu : Gr w (w.alloc (.cells #[b, s, mo, inv] 212)) := (Gr.refl w).alloc _ _
 have G0 : GB B w (w.alloc (.cells #[b, s, mo, inv] 212)) := GB.of gu
 have V0 := hv.gr gu
 have Y0 := hr0.gr gu
 clear gu hr0 hv hdu hm4 hnz
 go_loopw [21] (fun i wr => ∃ j : Nat, j ≤ h ∧ i = .int .i64 j ∧ CellsAt wr w.heap.size 212 #[b, s, mo, inv] ∧ CxsAt wr (.slice (some ⟨bw, ow, none⟩) n cw) ws ∧ RowAt wr B 50 N (stp F h O f j 0) ∧ GB B w wr) (fun i _ => h - (intOf i).toNat)
 case atStart => exact ⟨0, by omega, rfl, R0, V0, Y0, G0⟩
 case round =>
  clear R0 V0 Y0 G0;obtain ⟨j, hj, rfl, R0, V0, Y0, G0⟩ := hrel
  by_cases hlt : j < h
  ·have hlt' : (j : Int) < h := by omega
   go_wp2_with fail;have hpl := fun q hq => place_lt h q j hq hlt
   have hmm := HM.out;obtain ⟨hN, hn, hhu⟩ := HN.out;have e0 := Y0.cells (F + (0 * h + j)) (by have := hpl 0 (by omega); omega);have e1 := Y0.cells (F + (2 * h + j)) (by have := hpl 2 (by omega); omega);have e2 := Y0.cells (F + (1 * h + j)) (by have := hpl 1 (by omega); omega);have e3 := Y0.cells (F + (3 * h + j)) (by have := hpl 3 (by omega); omega);rw [HAT.out j _ hlt, Nat.add_mul] at e0 e1 e2 e3;obtain ⟨a0, a1, a2, a3⟩ := HA4.out j hlt;rw [← a0, Nat.zero_mul, Nat.zero_add] at e0;rw [← a1] at e1;rw [← a2, Nat.one_mul] at e2;rw [← a3] at e3;clear a0 a1 a2 a3;obtain ⟨b0', b1', b2', b3', w2, w3, wju, w4, w5, w6⟩ := make_nums h u j m n hmm hlt hm64 hn64 hn;have HA1 := kh (HA.out j hlt);have HQ1 := kh (HQ.out j hlt);have lB := Y0.lt;clear hmm hN hn hhu hpl;generalize 2 * h = p1 at *;generalize 3 * h = p2 at *;generalize p1 + j = q1 at *;generalize h + j = q2 at *;generalize p2 + j = q3 at *;generalize j * u = ju at *
   have hB0 : w.heap.size ≠ B := fun e => Nat.lt_irrefl _ (e ▸ hBw)
   have KS : ∀ W, Gr wr W → (W.cell? ⟨B, F * 2 + j * 2, none⟩ = some (.int .i64 (A4 j 0).re) ∧ W.cell? ⟨B, F * 2 + j * 2 + 1, none⟩ = some (.int .i64 (A4 j 0).im) ∧ W.cell? ⟨B, F * 2 + q1 * 2, none⟩ = some (.int .i64 (A4 j 1).re) ∧ W.cell? ⟨B, F * 2 + q1 * 2 + 1, none⟩ = some (.int .i64 (A4 j 1).im) ∧ W.cell? ⟨B, F * 2 + q2 * 2, none⟩ = some (.int .i64 (A4 j 2).re) ∧ W.cell? ⟨B, F * 2 + q2 * 2 + 1, none⟩ = some (.int .i64 (A4 j 2).im) ∧ W.cell? ⟨B, F * 2 + q3 * 2, none⟩ = some (.int .i64 (A4 j 3).re) ∧ W.cell? ⟨B, F * 2 + q3 * 2 + 1, none⟩ = some (.int .i64 (A4 j 3).im) ∧ B < W.heap.size) := fun W hG =>
    ⟨(hG.cell lB).trans e0.1, (hG.cell lB).trans e0.2, (hG.cell lB).trans e1.1, (hG.cell lB).trans e1.2, (hG.cell lB).trans e2.1, (hG.cell lB).trans e2.2, (hG.cell lB).trans e3.1, (hG.cell lB).trans e3.2, Nat.lt_of_lt_of_le lB hG.size⟩
   clear e0 e1 e2 e3;refine wp_region_held_drew (S := fun W => W.cell? ⟨B, F * 2 + j * 2, none⟩ = some (.int .i64 (A4 j 0).re) ∧ W.cell? ⟨B, F * 2 + j * 2 + 1, none⟩ = some (.int .i64 (A4 j 0).im) ∧ W.cell? ⟨B, F * 2 + q1 * 2, none⟩ = some (.int .i64 (A4 j 1).re) ∧ W.cell? ⟨B, F * 2 + q1 * 2 + 1, none⟩ = some (.int .i64 (A4 j 1).im) ∧ W.cell? ⟨B, F * 2 + q2 * 2, none⟩ = some (.int .i64 (A4 j 2).re) ∧ W.cell? ⟨B, F * 2 + q2 * 2 + 1, none⟩ = some (.int .i64 (A4 j 2).im) ∧ W.cell? ⟨B, F * 2 + q3 * 2, none⟩ = some (.int .i64 (A4 j 3).re) ∧ W.cell? ⟨B, F * 2 + q3 * 2 + 1, none⟩ = some (.int .i64 (A4 j 3).im) ∧ B < W.heap.size) rfl (KS _ (Gr.drew (Gr.refl _))) (fun hS => ?_);refine hT 0 ?_;refine hT 1 ?_;refine hT 2 ?_;refine hT 3 ?_;refine hT 4 ?_;refine hT 5 ?_;refine hT 6 ?_;refine hT 7 ?_;refine hT 8 ?_;refine hT 9 ?_;refine hT 10 ?_;refine hT 11 ?_;refine hT 12 ?_;refine hT 13 ?_;refine hT 14 ?_;refine hT 15 ?_;refine hT 16 ?_;refine hT 17 ?_;refine hT 18 ?_;refine hT 19 ?_;refine hT 20 ?_;refine hT 21 ?_;refine hT 22 ?_;refine hT 23 ?_;refine hT 24 ?_;refine hR 25 fun K hK => ?_
   go_simp
   have g1 := (Gr.drew (Gr.refl wr)).alloc #[.int .i64 0, .int .i64 0, .int .i64 0, .int .i64 0, .int .i64 0, .int .i64 0, .int .i64 0, .int .i64 0] 225;refine hK.out _ _ ?_ (fun hHeld => ?_)
   ·(exact KS _ g1)
   clear hK K
   try simp only [Act.put, putS]
   refine hR 26 fun K hK => ?_
   go_simp
   have g2 := ((Gr.refl wr).alloc #[.int .i64 (A4 j 0).re, .int .i64 (A4 j 0).im, .int .i64 (A4 j 1).re, .int .i64 (A4 j 1).im, .int .i64 (A4 j 2).re, .int .i64 (A4 j 2).im, .int .i64 (A4 j 3).re, .int .i64 (A4 j 3).im] 225).drew;refine hK.out _ _ ?_ (fun hHeld => ?_)
   ·(exact KS _ g2)
   clear hK K
   try simp only [Act.put, putS]
   refine wpAnyH_done (by kernel_rfl) ?_ _;have RA := CellsAt.new wr 225 #[.int .i64 (A4 j 0).re, .int .i64 (A4 j 0).im, .int .i64 (A4 j 1).re, .int .i64 (A4 j 1).im, .int .i64 (A4 j 2).re, .int .i64 (A4 j 2).im, .int .i64 (A4 j 3).re, .int .i64 (A4 j 3).im];have hBA := R0.lt;have R1 := R0.gr g2;have V1 := V0.gr g2;have Y1 := Y0.gr g2;have G1 := G0.gr g2
   replace RA : CellsAt (wr.alloc (.cells #[.int .i64 (A4 j 0).re, .int .i64 (A4 j 0).im, .int .i64 (A4 j 1).re, .int .i64 (A4 j 1).im, .int .i64 (A4 j 2).re, .int .i64 (A4 j 2).im, .int .i64 (A4 j 3).re, .int .i64 (A4 j 3).im] 225)).drew wr.heap.size 225 #[.int .i64 (A4 j 0).re, .int .i64 (A4 j 0).im, .int .i64 (A4 j 1).re, .int .i64 (A4 j 1).im, .int .i64 (A4 j 2).re, .int .i64 (A4 j 2).im, .int .i64 (A4 j 3).re, .int .i64 (A4 j 3).im] := RA
   have hBB : wr.heap.size ≠ B := fun e => Nat.lt_irrefl _ (e ▸ lB)
   generalize (wr.alloc (.cells #[.int .i64 (A4 j 0).re, .int .i64 (A4 j 0).im, .int .i64 (A4 j 1).re, .int .i64 (A4 j 1).im, .int .i64 (A4 j 2).re, .int .i64 (A4 j 2).im, .int .i64 (A4 j 3).re, .int .i64 (A4 j 3).im] 225)).drew = wv at *;have zG := G0.size;generalize wr.heap.size = BA at *;clear KS R0 V0 Y0 G0 g1 g2 hS w2 w3 w4 w5 w6 b0' b1' b2' b3' lB;go_wp2_with fail
   have KS : ∀ W, Gr wv W → (W.cell? ⟨w.heap.size, 0, none⟩ = some (.int .i64 b) ∧ W.cell? ⟨w.heap.size, 1, none⟩ = some (.int .i64 s) ∧ W.cell? ⟨w.heap.size, 2, none⟩ = some (.int .i64 mo) ∧ W.cell? ⟨w.heap.size, 3, none⟩ = some (.bool inv) ∧ W.cell? ⟨BA, 0, none⟩ = some (.int .i64 (A4 j 0).re) ∧ W.cell? ⟨BA, 1, none⟩ = some (.int .i64 (A4 j 0).im) ∧ W.cell? ⟨BA, 2, none⟩ = some (.int .i64 (A4 j 1).re) ∧ W.cell? ⟨BA, 3, none⟩ = some (.int .i64 (A4 j 1).im) ∧ W.cell? ⟨BA, 4, none⟩ = some (.int .i64 (A4 j 2).re) ∧ W.cell? ⟨BA, 5, none⟩ = some (.int .i64 (A4 j 2).im) ∧ W.cell? ⟨BA, 6, none⟩ = some (.int .i64 (A4 j 3).re) ∧ W.cell? ⟨BA, 7, none⟩ = some (.int .i64 (A4 j 3).im) ∧ w.heap.size < W.heap.size ∧ BA < W.heap.size) := fun W hG => ⟨(R1.gr hG).cell 0, (R1.gr hG).cell 1, (R1.gr hG).cell 2, (R1.gr hG).cell 3, (RA.gr hG).cell 0, (RA.gr hG).cell 1, (RA.gr hG).cell 2, (RA.gr hG).cell 3, (RA.gr hG).cell 4, (RA.gr hG).cell 5, (RA.gr hG).cell 6, (RA.gr hG).cell 7, Nat.lt_of_lt_of_le R1.lt hG.size, Nat.lt_of_lt_of_le RA.lt hG.size⟩
   refine wp_region_held_drew (S := fun W => W.cell? ⟨w.heap.size, 0, none⟩ = some (.int .i64 b) ∧ W.cell? ⟨w.heap.size, 1, none⟩ = some (.int .i64 s) ∧ W.cell? ⟨w.heap.size, 2, none⟩ = some (.int .i64 mo) ∧ W.cell? ⟨w.heap.size, 3, none⟩ = some (.bool inv) ∧ W.cell? ⟨BA, 0, none⟩ = some (.int .i64 (A4 j 0).re) ∧ W.cell? ⟨BA, 1, none⟩ = some (.int .i64 (A4 j 0).im) ∧ W.cell? ⟨BA, 2, none⟩ = some (.int .i64 (A4 j 1).re) ∧ W.cell? ⟨BA, 3, none⟩ = some (.int .i64 (A4 j 1).im) ∧ W.cell? ⟨BA, 4, none⟩ = some (.int .i64 (A4 j 2).re) ∧ W.cell? ⟨BA, 5, none⟩ = some (.int .i64 (A4 j 2).im) ∧ W.cell? ⟨BA, 6, none⟩ = some (.int .i64 (A4 j 3).re) ∧ W.cell? ⟨BA, 7, none⟩ = some (.int .i64 (A4 j 3).im) ∧ w.heap.size < W.heap.size ∧ BA < W.heap.size) rfl (KS _ (Gr.drew (Gr.refl _))) (fun hS => ?_);refine hT 0 ?_;refine hT 1 ?_;refine hT 2 ?_;refine hT 3 ?_;refine hT 4 ?_;refine hT 5 ?_;refine hT 6 ?_;refine hT 9 ?_;refine hR 7 fun K hK => ?_
   go_simp
   go_at_call 209
   refine (HA1.out _ (V1.gr ((Gr.refl _).drew))).mono ?_;rintro e w3 ⟨rfl, g3⟩;have x3 := ((Gr.refl wv).drew).trans g3;refine hK.out _ _ ?_ (fun hHeld => ?_)
   ·(exact KS _ x3)
   clear hK K
   try simp only [Act.put, putS]
   refine hR 8 fun K hK => ?_
   go_simp
   go_at_call 208
   refine (HQ1.out _).mono ?_;rintro e w4 ⟨rfl, g4⟩;have x4 := x3.trans g4;refine hK.out _ _ ?_ (fun hHeld => ?_)
   ·(exact KS _ x4)
   clear hK K
   try simp only [Act.put, putS]
   refine wpAnyH_done (by kernel_rfl) ?_ _;have R2 := R1.gr x4;have V2 := V1.gr x4;have Y2 := Y1.gr x4;have G2 := G1.gr x4;clear KS R1 V1 Y1 G1 g3 g4 x3 x4 hS RA HA1 HQ1 wju
   have hBn : w.heap.size ≠ B := hB0
   have A0 : RowAt w4 B 50 N (stp F h O f j 0) := Y2
   clear Y2;go_wp2_with fail;clear hlt'
   go_loopw [58] (fun i wq => ∃ q : Nat, q ≤ 4 ∧ i = .int .i64 q ∧ CellsAt wq w.heap.size 212 #[b, s, mo, inv] ∧ CxsAt wq (.slice (some ⟨bw, ow, none⟩) n cw) ws ∧ RowAt wq B 50 N (stp F h O f j q) ∧ GB B w wq) (fun i _ => 4 - (intOf i).toNat)
   case atStart => exact ⟨0, by omega, rfl, R2, V2, A0, G2⟩
   case round =>
    clear R2 V2 A0 G2;obtain ⟨q, hq, rfl, R2, V2, A0, G2⟩ := hrel
    by_cases hqt : q < 4
    ·have hqt' : (q : Int) < 4 := by omega
     have hI := idx4 (O j) q hqt;have hmm := HM.out;have hr := place_lt h q j hqt hlt;have HX := kh (fun i => HNX.out j q i hlt hqt)
     have hFr : F + (q * h + j) < N := by have := HN.out.1; omega
     obtain ⟨r1, r2, r3⟩ := quad_nums h q j m hmm hqt hlt hm64;clear hr hmm;generalize q * h = qh at *;generalize qh + j = r at *;obtain ⟨d0, d1⟩ := A0.cells (F + r) hFr;have m0 := A0.marks ((F + r) * 2);have m1 := A0.marks ((F + r) * 2 + 1);rw [Nat.add_mul] at d0 d1 m0 m1;have lB := A0.lt;go_wp2_with fail;have A2 := ((A0.set (F + r) hFr (O j q)).eq (fun i _ => HX.out i)).alloc (.cells #[.int .i64 (O j q).re, .int .i64 (O j q).im] 50);rw [Nat.add_mul] at A2;have G3 := ((G2.set (F * 2 + r * 2) (.int .i64 (O j q).re)).set (F * 2 + r * 2 + 1) (.int .i64 (O j q).im)).alloc #[.int .i64 (O j q).re, .int .i64 (O j q).im] 50;have R3 := ((R2.other (B' := B) hB0 (F * 2 + r * 2) (.int .i64 (O j q).re)).other (B' := B) hB0 (F * 2 + r * 2 + 1) (.int .i64 (O j q).im)).alloc (.cells #[.int .i64 (O j q).re, .int .i64 (O j q).im] 50);have V3 := ((GB.refl B wr).set (F * 2 + r * 2) (.int .i64 (O j q).re)).set (F * 2 + r * 2 + 1) (.int .i64 (O j q).im) |>.alloc #[.int .i64 (O j q).re, .int .i64 (O j q).im] 50 |>.cxs V2 hne
     go_roundw
     case rel => exact ⟨q + 1, by omega, by go_num, R3, V3, A2, G3⟩
     case measure => simp [intOf]; omega
    ·obtain rfl : q = 4 := by omega
     go_wp2_with fail;have A2 := A0.eq (fun i _ => HRW.out j i h1)
     go_roundw
     case rel => exact ⟨j + 1, by omega, by go_num, R2, V2, A2, G2⟩
     case measure => simp [intOf]; omega
  ·obtain rfl : j = h := by omega
   go_wp2_with fail
   go_end0
   exact ⟨rfl, Y0, G0⟩
end
section
open Go.ChangeShapes Go.WideShapes Go.ChangeAt Go.RowKit
set_option linter.unusedVariables false
set_option linter.unusedSimpArgs false
set_option maxRecDepth 100000
set_option maxHeartbeats 16000000
theorem RowAt.made (W : World) (n : Nat) : RowAt (W.alloc (.cells (madeCells #[.int .i64 0, .int .i64 0] (n * 2)) 50)) W.heap.size 50 n (fun _ => ⟨0, 0⟩) := by
 refine ⟨_, CellsAt.new W _ _, size_madeCells _ _, fun j hj => ?_⟩
 have key : ∀ k, k < n * 2 → (madeCells #[.int .i64 0, .int .i64 0] (n * 2))[k]? = some (.int .i64 0) := by
  intro k hk
  unfold madeCells
  have h2 : k % 2 = 0 ∨ k % 2 = 1 := by omega
  rcases h2 with e | e <;> simp [hk, e]
 exact ⟨key _ (by omega), key _ (by omega)⟩
theorem CxsAt.getD {w : World} {b o n cap : Nat} {xs : List Gi} (hc : ∀ j x, xs[j]? = some x → w.cell? ⟨b, o + j * 2, none⟩ = some (.int .i64 x.re) ∧ w.cell? ⟨b, o + j * 2 + 1, none⟩ = some (.int .i64 x.im)) (j : Nat) (hj : j < xs.length) :
 w.cell? ⟨b, o + j * 2, none⟩ = some (.int .i64 (xs.getD j ⟨0, 0⟩).re) ∧ w.cell? ⟨b, o + j * 2 + 1, none⟩ = some (.int .i64 (xs.getD j ⟨0, 0⟩).im) :=
 hc j _ (by rw [List.getD_eq_getElem?_getD, List.getElem?_eq_getElem hj]; rfl)
theorem join_nums (h u j d n : Nat) (hd : 4 * h = d) (hn : n = d * u) (hu : 1 ≤ u) (hj : j < h) (hd64 : d ≤ 64) (hn64 : n ≤ 64) :
 IntKind.i64.wrap ((j : Int) * (u : Int)) = ((j * u : Nat) : Int) ∧ IntKind.i64.wrap (3 * (j : Int)) = ((3 * j : Nat) : Int) ∧ IntKind.i64.wrap (((3 * j : Nat) : Int) * (u : Int)) = ((3 * j * u : Nat) : Int) ∧ IntKind.i64.wrap ((h : Int) + (j : Int)) = ((h + j : Nat) : Int) ∧
 j * u < n ∧ 3 * j * u < n ∧ (j : Int) < (h : Int) ∧ ((h + j : Nat) : Int) < ((2 * h : Nat) : Int) ∧ (j : Int) < ((2 * h : Nat) : Int) ∧ ((j * u : Nat) : Int) < (n : Int) ∧ ((3 * j * u : Nat) : Int) < (n : Int) := by
 have k1 : (j + 1) * u ≤ h * u := Nat.mul_le_mul_right _ (by omega)
 rw [Nat.succ_mul] at k1
 have k2 : n = 4 * (h * u) := by rw [hn, ← hd, Nat.mul_assoc]
 have k3 : 3 * j * u = 3 * (j * u) := Nat.mul_assoc _ _ _
 exact ⟨imul j u (by omega), imul 3 j (by omega), imul (3 * j) u (by omega), iadd h j (by omega), by omega, by omega, by omega, by omega, by omega, by omega, by omega⟩
theorem sJoinAll_of (b mo : Int) (inv : Bool) (pe pf pg pw : Option Addr) (ce cf cg cw : Nat) (E F G ws : List Gi) (h u n : Nat) (O : Nat → Nat → Gi) (Q1 Q3 : Nat → Gi) (h1 : 1 ≤ h) (hu1 : 1 ≤ u) (hn : n = 4 * h * u) (hn64 : n ≤ 64)
 (lE : E.length = 2 * h) (lF : F.length = h) (lG : G.length = h) (lw : ws.length = n)
 (HA : Hid (∀ j, j < h → ∀ W, Calls Tryz.prog 198 #[.agg #[b, mo, inv], .agg #[.int .i64 (ws.getD (j * u) ⟨0, 0⟩).re, .int .i64 (ws.getD (j * u) ⟨0, 0⟩).im]] W fun e w' => e = .returned (.agg #[.int .i64 (Q1 j).re, .int .i64 (Q1 j).im]) ∧ Gr W w'))
 (HB : Hid (∀ j, j < h → ∀ W, Calls Tryz.prog 198 #[.agg #[b, mo, inv], .agg #[.int .i64 (ws.getD (3 * j * u) ⟨0, 0⟩).re, .int .i64 (ws.getD (3 * j * u) ⟨0, 0⟩).im]] W fun e w' => e = .returned (.agg #[.int .i64 (Q3 j).re, .int .i64 (Q3 j).im]) ∧ Gr W w'))
 (HJ : Hid (∀ j, j < h → ∀ W, Calls Tryz.prog 199 #[.agg #[b, mo, inv], .agg #[.int .i64 (E.getD j ⟨0, 0⟩).re, .int .i64 (E.getD j ⟨0, 0⟩).im], .agg #[.int .i64 (E.getD (h + j) ⟨0, 0⟩).re, .int .i64 (E.getD (h + j) ⟨0, 0⟩).im], .agg #[.int .i64 (F.getD j ⟨0, 0⟩).re, .int .i64 (F.getD j ⟨0, 0⟩).im], .agg #[.int .i64 (G.getD j ⟨0, 0⟩).re, .int .i64 (G.getD j ⟨0, 0⟩).im], .agg #[.int .i64 (Q1 j).re, .int .i64 (Q1 j).im], .agg #[.int .i64 (Q3 j).re, .int .i64 (Q3 j).im]] W fun e w' => e = .returned (.agg #[.int .i64 (O j 0).re, .int .i64 (O j 0).im, .int .i64 (O j 1).re, .int .i64 (O j 1).im, .int .i64 (O j 2).re, .int .i64 (O j 2).im, .int .i64 (O j 3).re, .int .i64 (O j 3).im]) ∧ Gr W w'))
 (w : World) (vE : CxsAt w (.slice pe (2 * h : Nat) ce) E) (vF : CxsAt w (.slice pf h cf) F) (vG : CxsAt w (.slice pg h cg) G) (vw : CxsAt w (.slice pw n cw) ws) :
 Calls Tryz.prog 181 #[.agg #[b, mo, inv], .slice pe (2 * h : Nat) ce, .slice pf h cf, .slice pg h cg, .slice pw n cw] w fun e w' => ∃ v, e = .returned v ∧ CxsAt w' v ((List.range (4 * h)).map (fun i => O (i % h) (i / h))) ∧ Gr w w' := by
 have hn1 : 4 * h * 1 ≤ 4 * h * u := Nat.mul_le_mul_left _ hu1
 have ne : ∀ (xs : List Gi) k, xs.length = k → 1 ≤ k → xs ≠ [] := by intro xs k e hk e2; rw [e2] at e; simp at e; omega
 obtain ⟨be, oe, ce', hve, _, hbe, hce⟩ := vE.at (ne _ _ lE (by omega))
 obtain ⟨bf, of, cf', hvf, _, hbf, hcf⟩ := vF.at (ne _ _ lF h1)
 obtain ⟨bg, og, cg', hvg, _, hbg, hcg⟩ := vG.at (ne _ _ lG h1)
 obtain ⟨bw, ow, cw', hvw, _, hbw, hcw⟩ := vw.at (ne _ _ lw (by omega))
 rw [lE] at hve
 rw [lF] at hvf
 rw [lG] at hvg
 rw [lw] at hvw
 cases hve
 cases hvf
 cases hvg
 cases hvw
 have HCE := kh fun j (hj : j < 2 * h) => CxsAt.getD (n := 0) (cap := 0) hce j (by omega)
 have HCF := kh fun j (hj : j < h) => CxsAt.getD (n := 0) (cap := 0) hcf j (by omega)
 have HCG := kh fun j (hj : j < h) => CxsAt.getD (n := 0) (cap := 0) hcg j (by omega)
 have HCW := kh fun j (hj : j < n) => CxsAt.getD (n := 0) (cap := 0) hcw j (by omega)
 have hd64 : 4 * h ≤ 64 := by omega
 have HN := kh fun j (hj : j < h) => join_nums h u j (4 * h) n rfl hn hu1 hj hd64 hn64
 have HNX := kh (stp_next 0 h O (fun _ => ⟨0, 0⟩))
 have HRW := kh (stp_row 0 h O (fun _ => ⟨0, 0⟩))
 have HAT := kh (stp_at 0 h O (fun _ => ⟨0, 0⟩))
 have HEND := kh (fun i => stp_end 0 h O (fun _ => ⟨0, 0⟩) i h1)
 have HQN := kh fun q j (hq : q < 4) (hj : j < h) => quad_nums h q j (4 * h) rfl hq hj hd64
 have HPL := kh fun q j (hq : q < 4) (hj : j < h) => place_lt h q j hq hj
 have HMK := kh (run_make_cx (4 * h) (by omega))
 have HMD := kh (fun W => RowAt.made W (4 * h))
 have h64 : h ≤ 16 := by omega
 have hule : u ≤ 64 := by
  have : 1 * u ≤ 4 * h * u := Nat.mul_le_mul_right _ (by omega)
  omega
 have hd4 : 4 * (h : Int) = ((4 * h : Nat) : Int) := by omega
 have w4 : wrap64 (4 * (h : Int)) = ((4 * h : Nat) : Int) := wmul 4 h (by omega)
 have hnu : (n : Int) / ((4 * h : Nat) : Int) = (u : Int) := by
  have : (n : Int) = ((4 * h : Nat) : Int) * (u : Int) := by rw [hn]; simp
  rw [this]
  exact Int.mul_ediv_cancel_left _ (by omega)
 have hnz : ¬ ((4 * h : Nat) : Int) = 0 := by omega
 clear hce hcf hcg hcw vE vF vG vw ne lE lF lG lw hn hn1
 generalize hdd : 4 * h = d at *
 have HD := kh hdd
 clear hdd
 generalize he2 : 2 * h = h2 at *
 have HE2 := kh he2
 clear he2
 go_in
 have hmk := HMK.out
 go_wp2_with fail
 clear hmk
 have R0 := CellsAt.new w 181 #[b, mo, inv]
 have g0 : Gr w (w.alloc (.cells #[b, mo, inv] 181)) := (Gr.refl w).alloc _ _
 have Y0 := HMD.out (w.alloc (.cells #[b, mo, inv] 181))
 have R1 := R0.gr ((Gr.refl _).alloc (madeCells #[.int .i64 0, .int .i64 0] (d * 2)) 50)
 have g1 := g0.alloc (madeCells #[.int .i64 0, .int .i64 0] (d * 2)) 50
 have Y1 := Y0.eq (fun i _ => (stp_start 0 h O (fun _ => ⟨0, 0⟩) i).symm)
 simp only [World.size_alloc] at Y1
 clear R0 Y0 g0 HMK HMD hnu hnz w4 hd4
 go_loopw [30] (fun i wr => ∃ j : Nat, j ≤ h ∧ i = .int .i64 j ∧ CellsAt wr w.heap.size 181 #[b, mo, inv] ∧ RowAt wr (w.heap.size + 1) 50 d (stp 0 h O (fun _ => ⟨0, 0⟩) j 0) ∧ Gr w wr) (fun i _ => h - (intOf i).toNat)
 case atStart => exact ⟨0, by omega, rfl, R1, Y1, g1⟩
 case round =>
  clear R1 Y1 g1;obtain ⟨j, hj, rfl, R1, Y1, g1⟩ := hrel
  by_cases hlt : j < h
  ·have hlt' : (j : Int) < h := by omega
   have HA1 := kh (HA.out j hlt);have HB1 := kh (HB.out j hlt);have HJ1 := kh (HJ.out j hlt);obtain ⟨n1, n2, n3, n4, n5, n6, n7, n8, n9, n10, n11⟩ := HN.out j hlt;have k0 := HCW.out _ n5;have k1 := HCW.out _ n6;have k2 := HCE.out j (by have := HE2.out; omega);have k3 := HCE.out (h + j) (by have := HE2.out; omega);have k4 := HCF.out j hlt;have k5 := HCG.out j hlt;go_wp2_with fail;clear n5 n6;generalize ws.getD (j * u) ⟨0, 0⟩ = A0 at *;generalize ws.getD (3 * j * u) ⟨0, 0⟩ = A1 at *;generalize E.getD j ⟨0, 0⟩ = A2 at *;generalize E.getD (h + j) ⟨0, 0⟩ = A3 at *;generalize F.getD j ⟨0, 0⟩ = A4 at *;generalize G.getD j ⟨0, 0⟩ = A5 at *;generalize 3 * j * u = ju3 at *;generalize j * u = ju at *;generalize 3 * j = j3 at *;generalize h + j = hj' at *;have HK := kh (And.intro k2 (And.intro k3 (And.intro k4 k5)));clear k2 k3 k4 k5;have hRl := R1.lt
   have KS : ∀ W, Gr wr W → (W.cell? ⟨w.heap.size, 0, none⟩ = some (.int .i64 b) ∧ W.cell? ⟨w.heap.size, 1, none⟩ = some (.int .i64 mo) ∧ W.cell? ⟨w.heap.size, 2, none⟩ = some (.bool inv) ∧ W.cell? ⟨bw, ow + ju * 2, none⟩ = some (.int .i64 A0.re) ∧ W.cell? ⟨bw, ow + ju * 2 + 1, none⟩ = some (.int .i64 A0.im) ∧ W.cell? ⟨bw, ow + ju3 * 2, none⟩ = some (.int .i64 A1.re) ∧ W.cell? ⟨bw, ow + ju3 * 2 + 1, none⟩ = some (.int .i64 A1.im)) := fun W hG =>
    ⟨(R1.gr hG).cell 0, (R1.gr hG).cell 1, (R1.gr hG).cell 2, ((g1.trans hG).cell (p := ⟨bw, _, none⟩) hbw).trans k0.1, ((g1.trans hG).cell (p := ⟨bw, _, none⟩) hbw).trans k0.2, ((g1.trans hG).cell (p := ⟨bw, _, none⟩) hbw).trans k1.1, ((g1.trans hG).cell (p := ⟨bw, _, none⟩) hbw).trans k1.2⟩
   clear k0 k1
   go_cut [15, 16] from 33 to 49 (fun p1 p2 wx => ∃ B1 B2 : Nat, p1 = .pointer (some ⟨B1, 0, none⟩) ∧ p2 = .pointer (some ⟨B2, 0, none⟩) ∧ wr.heap.size ≤ B1 ∧ wr.heap.size ≤ B2 ∧ CellsAt wx B1 50 #[.int .i64 (Q1 j).re, .int .i64 (Q1 j).im] ∧ CellsAt wx B2 50 #[.int .i64 (Q3 j).re, .int .i64 (Q3 j).im] ∧ Gr wr wx)
   case first =>
    have hclG := gr_closed wr
    try simp only [List.append_eq, List.cons_append, List.nil_append]
    refine wp_region_grow (S := Gr wr) rfl (Gr.drew (Gr.refl _)) ?_;refine gK 0 hclG KS ?_;refine gT 1 hclG ?_;refine gT 2 hclG ?_;refine gT 3 hclG ?_;refine gT 4 hclG ?_;refine gT 5 hclG ?_;refine gK 6 hclG KS ?_;refine gC 7 hclG (fun W hS => HA1.out W) ?_
    try simp only [Act.put, putS]
    refine gK 8 hclG KS ?_;refine gT 9 hclG ?_;refine gT 10 hclG ?_;refine gT 11 hclG ?_;refine gT 12 hclG ?_;refine gT 13 hclG ?_;refine gT 14 hclG ?_;refine gK 15 hclG KS ?_;refine gC 16 hclG (fun W hS => HB1.out W) ?_
    try simp only [Act.put, putS]
    clear KS;refine wpG_ready (rs := [17, 18]) (by kernel_rfl) (by simp) (fun wx gx sx => ?_);replace gx := (Gr.drew (Gr.refl wr)).trans gx;have hsz := gx.size;refine AllG.cons rfl (fun K hK => ?_) (AllG.cons rfl (fun K hK => ?_) AllG.nil)
    ·skip
     go_simp
     have D1 := CellsAt.new wx 50 #[.int .i64 0, .int .i64 0];have gy := gx.alloc #[.int .i64 0, .int .i64 0] 50;refine hK.out _ _ ?_ ?_
     ·exact gy
     clear hK K
     try simp only [Act.put, putS]
     refine gR 18 fun wy g18 sy K hK => ?_
     go_simp
     have D2 := D1.gr g18;have l2 := D2.lt;have gz := (gy.trans g18).alloc #[.int .i64 0, .int .i64 0] 50;have D3 := D2.alloc (.cells #[.int .i64 0, .int .i64 0] 50);have D4 := CellsAt.new wy 50 #[.int .i64 0, .int .i64 0];refine hK.out _ _ ?_ ?_
     ·exact gz
     clear hK K
     try simp only [Act.put, putS]
     refine gR 19 fun wz g19 sz K hK => ?_
     have D5 := D3.gr g19;have D6 := D4.gr g19;obtain ⟨m0, m1⟩ := D5.f2;obtain ⟨e0, e1⟩ := D5.t2;have l5 := D5.lt
     go_simp
     have gq := ((gz.trans g19).setCell (a := ⟨wx.heap.size, 0, none⟩) hsz (.int .i64 (Q1 j).re)).setCell (a := ⟨wx.heap.size, 1, none⟩) hsz (.int .i64 (Q1 j).im);have D7 := D5.set2 (.int .i64 (Q1 j).re) (.int .i64 (Q1 j).im);have D8 := (D6.other (B' := wx.heap.size) (by omega) 0 (.int .i64 (Q1 j).re)).other (B' := wx.heap.size) (by omega) 1 (.int .i64 (Q1 j).im);clear m0 m1 e0 e1;refine hK.out _ _ ?_ ?_
     ·exact gq
     clear hK K
     try simp only [Act.put, putS]
     refine gR 20 fun wu g20 su K hK => ?_
     have D9 := D8.gr g20;have D10 := D7.gr g20;obtain ⟨m0, m1⟩ := D9.f2;obtain ⟨e0, e1⟩ := D9.t2;have l9 := D9.lt
     go_simp
     have hy : wr.heap.size ≤ wy.heap.size := by omega
     have gp := ((gq.trans g20).setCell (a := ⟨wy.heap.size, 0, none⟩) hy (.int .i64 (Q3 j).re)).setCell (a := ⟨wy.heap.size, 1, none⟩) hy (.int .i64 (Q3 j).im);have D11 := D9.set2 (.int .i64 (Q3 j).re) (.int .i64 (Q3 j).im);have D12 := (D10.other (B' := wy.heap.size) (by omega) 0 (.int .i64 (Q3 j).re)).other (B' := wy.heap.size) (by omega) 1 (.int .i64 (Q3 j).im);clear m0 m1 e0 e1;refine hK.out _ _ ?_ ?_
     ·exact gp
     clear hK K
     try simp only [Act.put, putS]
     refine wpG_done (by kernel_rfl) (fun wv gv => ?_) _;have D13 := D11.gr gv;have D14 := D12.gr gv;have gg := gp.trans gv;clear D1 D2 D3 D4 D5 D6 D7 D8 D9 D10 D11 D12 gx gy gz gq gp g18 g19 g20 gv sx sy sz su;go_wp2_with fail
     go_meet
     case rel => exact ⟨_, _, rfl, rfl, hsz, hy, D14, D13, gg⟩
    ·skip
     go_simp
     have D1 := CellsAt.new wx 50 #[.int .i64 0, .int .i64 0];have gy := gx.alloc #[.int .i64 0, .int .i64 0] 50;refine hK.out _ _ ?_ ?_
     ·exact gy
     clear hK K
     try simp only [Act.put, putS]
     refine gR 17 fun wy g18 sy K hK => ?_
     go_simp
     have D2 := D1.gr g18;have l2 := D2.lt;have gz := (gy.trans g18).alloc #[.int .i64 0, .int .i64 0] 50;have D3 := D2.alloc (.cells #[.int .i64 0, .int .i64 0] 50);have D4 := CellsAt.new wy 50 #[.int .i64 0, .int .i64 0];refine hK.out _ _ ?_ ?_
     ·exact gz
     clear hK K
     try simp only [Act.put, putS]
     refine gR 19 fun wz g19 sz K hK => ?_
     have D5 := D3.gr g19;have D6 := D4.gr g19;obtain ⟨m0, m1⟩ := D6.f2;obtain ⟨e0, e1⟩ := D6.t2;have l5 := D6.lt
     go_simp
     have hy : wr.heap.size ≤ wy.heap.size := by omega
     have gq := ((gz.trans g19).setCell (a := ⟨wy.heap.size, 0, none⟩) hy (.int .i64 (Q1 j).re)).setCell (a := ⟨wy.heap.size, 1, none⟩) hy (.int .i64 (Q1 j).im);have D7 := D6.set2 (.int .i64 (Q1 j).re) (.int .i64 (Q1 j).im);have D8 := (D5.other (B' := wy.heap.size) (by omega) 0 (.int .i64 (Q1 j).re)).other (B' := wy.heap.size) (by omega) 1 (.int .i64 (Q1 j).im);clear m0 m1 e0 e1;refine hK.out _ _ ?_ ?_
     ·exact gq
     clear hK K
     try simp only [Act.put, putS]
     refine gR 20 fun wu g20 su K hK => ?_
     have D9 := D8.gr g20;have D10 := D7.gr g20;obtain ⟨m0, m1⟩ := D9.f2;obtain ⟨e0, e1⟩ := D9.t2;have l9 := D9.lt
     go_simp
     have gp := ((gq.trans g20).setCell (a := ⟨wx.heap.size, 0, none⟩) hsz (.int .i64 (Q3 j).re)).setCell (a := ⟨wx.heap.size, 1, none⟩) hsz (.int .i64 (Q3 j).im);have D11 := D9.set2 (.int .i64 (Q3 j).re) (.int .i64 (Q3 j).im);have D12 := (D10.other (B' := wx.heap.size) (by omega) 0 (.int .i64 (Q3 j).re)).other (B' := wx.heap.size) (by omega) 1 (.int .i64 (Q3 j).im);clear m0 m1 e0 e1;refine hK.out _ _ ?_ ?_
     ·exact gp
     clear hK K
     try simp only [Act.put, putS]
     refine wpG_done (by kernel_rfl) (fun wv gv => ?_) _;have D13 := D11.gr gv;have D14 := D12.gr gv;have gg := gp.trans gv;clear D1 D2 D3 D4 D5 D6 D7 D8 D9 D10 D11 D12 gx gy gz gq gp g18 g19 g20 gv sx sy sz su;go_wp2_with fail
     go_meet
     case rel => exact ⟨_, _, rfl, rfl, hy, hsz, D14, D13, gg⟩
   case rest =>
    obtain ⟨B1, B2, rfl, rfl, hB1, hB2, D1, D2, hG⟩ := hcut;have zG := g1.trans hG;have R2 := R1.gr hG;have Y2 := Y1.gr hG;obtain ⟨⟨k2, k2'⟩, ⟨k3, k3'⟩, ⟨k4, k4'⟩, k5, k5'⟩ := HK.out
    have n8' : hj' < h2 := by omega
    have n9' : j < h2 := by omega
    clear KS R1 Y1 g1 hG HA1 HB1 HK hRl;go_wp2_with fail;have KS := fun W (hG : Gr wc W) => And.intro (R2.gr hG).t3 (And.intro (((zG.trans hG).cell (p := ⟨be, _, none⟩) hbe).trans k2) (And.intro (((zG.trans hG).cell (p := ⟨be, _, none⟩) hbe).trans k2') (And.intro (((zG.trans hG).cell (p := ⟨be, _, none⟩) hbe).trans k3) (And.intro (((zG.trans hG).cell (p := ⟨be, _, none⟩) hbe).trans k3') (And.intro (((zG.trans hG).cell (p := ⟨bf, _, none⟩) hbf).trans k4) (And.intro (((zG.trans hG).cell (p := ⟨bf, _, none⟩) hbf).trans k4') (And.intro (((zG.trans hG).cell (p := ⟨bg, _, none⟩) hbg).trans k5) (And.intro (((zG.trans hG).cell (p := ⟨bg, _, none⟩) hbg).trans k5') (And.intro (D1.gr hG).t2 (D2.gr hG).t2)))))))))
    clear k2 k2' k3 k3' k4 k4' k5 k5';have hclG := gr_closed wc
    try simp only [List.append_eq, List.cons_append, List.nil_append]
    refine wp_region_grow (S := Gr wc) rfl (Gr.drew (Gr.refl _)) ?_;refine gK 0 hclG KS ?_;refine gT 1 hclG ?_;refine gT 2 hclG ?_;refine gT 3 hclG ?_;refine gK 4 hclG KS ?_;refine gT 5 hclG ?_;refine gT 6 hclG ?_;refine gT 7 hclG ?_;refine gT 8 hclG ?_;refine gT 9 hclG ?_;refine gK 10 hclG KS ?_;refine gT 11 hclG ?_;refine gT 12 hclG ?_;refine gT 13 hclG ?_;refine gK 14 hclG KS ?_;refine gT 15 hclG ?_;refine gT 16 hclG ?_;refine gT 17 hclG ?_;refine gK 18 hclG KS ?_;refine gK 19 hclG KS ?_;refine gK 20 hclG KS ?_;refine gC 21 hclG (fun W hS => HJ1.out W) ?_
    try simp only [Act.put, putS]
    refine gT 22 hclG ?_;refine wpG_done (by kernel_rfl) (fun wd gd => ?_) _;replace gd := (Gr.drew (Gr.refl wc)).trans gd;have R3 := R2.gr gd;have A0' := Y2.gr gd;have G2 := zG.trans gd
    have hBn : w.heap.size ≠ w.heap.size + 1 := by omega
    have hsw := G2.size;clear KS R2 Y2 zG gd HJ1 D1 D2 n1 n2 n3 n4 n7 n8 n9 n10 n11 n8' n9' hlt' hB1 hB2 hclG;go_wp2_with fail
    go_loopw [72] (fun i wq => ∃ q : Nat, q ≤ 4 ∧ i = .int .i64 q ∧ CellsAt wq w.heap.size 181 #[b, mo, inv] ∧ RowAt wq (w.heap.size + 1) 50 d (stp 0 h O (fun _ => ⟨0, 0⟩) j q) ∧ Gr w wq) (fun i _ => 4 - (intOf i).toNat)
    case atStart => exact ⟨0, by omega, rfl, R3, A0', G2⟩
    case round =>
     clear R3 A0' G2 hsw;obtain ⟨q, hq, rfl, R3, A0', G2⟩ := hrel
     by_cases hqt : q < 4
     ·have hqt' : (q : Int) < 4 := by omega
      have hI := idx4 (O j) q hqt;have hr := HPL.out q j hqt hlt;have HX := kh (fun i => HNX.out j q i hlt hqt);obtain ⟨r1, r2, r3⟩ := HQN.out q j hqt hlt;simp only [Nat.zero_add] at HX;generalize q * h = qh at *;generalize qh + j = r at *
      have hrd : r < d := by omega
      obtain ⟨d0, d1⟩ := A0'.cells r hrd;have m0 := A0'.marks (r * 2);have m1 := A0'.marks (r * 2 + 1);have lB := A0'.lt;clear hr;go_wp2_with fail;have A2 := ((A0'.set r hrd (O j q)).eq (fun i _ => HX.out i)).alloc (.cells #[.int .i64 (O j q).re, .int .i64 (O j q).im] 50);have G3 := ((G2.setCell (a := ⟨w.heap.size + 1, r * 2, none⟩) (by simp) (.int .i64 (O j q).re)).setCell (a := ⟨w.heap.size + 1, r * 2 + 1, none⟩) (by simp) (.int .i64 (O j q).im)).alloc #[.int .i64 (O j q).re, .int .i64 (O j q).im] 50;have R4 := ((R3.other (B' := w.heap.size + 1) hBn (r * 2) (.int .i64 (O j q).re)).other (B' := w.heap.size + 1) hBn (r * 2 + 1) (.int .i64 (O j q).im)).alloc (.cells #[.int .i64 (O j q).re, .int .i64 (O j q).im] 50)
      go_roundw
      case rel => exact ⟨q + 1, by omega, by go_num, R4, A2, G3⟩
      case measure => simp [intOf]; omega
     ·obtain rfl : q = 4 := by omega
      have A2 := A0'.eq (fun i _ => HRW.out j i h1);clear HQN HPL HNX HRW HAT;go_wp2_with fail
      go_roundw
      case rel =>
       repeat apply Exists.intro
       refine ⟨?_, ?_, R3, A2, G2⟩
       ·omega
       ·go_num
      case measure => simp [intOf]; omega
  ·obtain rfl : j = h := by omega
   have Y2 := Y1.eq (g := fun i => O (i % j) (i / j)) (fun i hi => by rw [HEND.out i, if_pos ⟨Nat.zero_le _, by have := HD.out; omega⟩, Nat.sub_zero]);clear HCE HCF HCG HCW HN HNX HRW HAT HEND HQN HPL HA HB HJ R1 Y1;go_wp2_with fail
   go_ret
   have := Y2.cxs 0 d d (by omega) (Nat.le_refl _) (by unfold maxLen; omega)
   simp only [Nat.zero_mul, Nat.zero_add] at this
   exact ⟨_, rfl, this, g1⟩
end
end Go.Proofs.YtdignnmpfkgkoaaGreat
