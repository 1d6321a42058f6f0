import Derived.Test.YtdignnmpfkgkoaaGreatRealUntanglesS17
namespace Go.Proofs.YtdignnmpfkgkoaaGreat
section
open Go.ChangeShapes Go.WideShapes Go.ChangeAt Go.RowKit
set_option linter.unusedVariables false
set_option maxRecDepth 100000
set_option linter.unusedSimpArgs false
def stp (F h : Nat) (O : Nat → Nat → Gi) (f : Nat → Gi) (j q i : Nat) : Gi :=
 if F ≤ i ∧ i < F + 4 * h ∧ ((i - F) % h < j ∨ ((i - F) % h = j ∧ (i - F) / h < q)) then O ((i - F) % h) ((i - F) / h) else f i
theorem stp_start (F h : Nat) (O : Nat → Nat → Gi) (f : Nat → Gi) (i : Nat) : stp F h O f 0 0 i = f i := by
 unfold stp
 generalize (i - F) % h = r
 generalize (i - F) / h = s
 rw [if_neg (by omega)]
theorem place_div (h q j : Nat) (hj : j < h) : (q * h + j) / h = q ∧ (q * h + j) % h = j := by
 constructor
 ·rw [Nat.mul_comm, Nat.mul_add_div (by omega), Nat.div_eq_of_lt hj, Nat.add_zero]
 ·rw [Nat.mul_comm, Nat.mul_add_mod, Nat.mod_eq_of_lt hj]
theorem place_lt (h q j : Nat) (hq : q < 4) (hj : j < h) : q * h + j < 4 * h := by
 have : (q + 1) * h ≤ 4 * h := Nat.mul_le_mul_right _ hq
 rw [Nat.succ_mul] at this
 omega
theorem stp_next (F h : Nat) (O : Nat → Nat → Gi) (f : Nat → Gi) (j q i : Nat) (hj : j < h) (hq : q < 4) : (if i = F + (q * h + j) then O j q else stp F h O f j q i) = stp F h O f j (q + 1) i := by
 have hp := place_div h q j hj
 have hl := place_lt h q j hq hj
 by_cases e : i = F + (q * h + j)
 ·subst e
  unfold stp
  rw [if_pos rfl, show F + (q * h + j) - F = q * h + j by omega, hp.1, hp.2, if_pos (by omega)]
 ·rw [if_neg e]
  unfold stp
  by_cases a : F ≤ i ∧ i < F + 4 * h
  ·have hd := Nat.div_add_mod (i - F) h
   have hne : ¬ ((i - F) % h = j ∧ (i - F) / h = q) := by
    rintro ⟨e1, e2⟩
    rw [e1, e2, Nat.mul_comm] at hd
    omega
   by_cases c : (i - F) % h < j ∨ ((i - F) % h = j ∧ (i - F) / h < q)
   ·rw [if_pos ⟨a.1, a.2, c⟩, if_pos ⟨a.1, a.2, by omega⟩]
   ·rw [if_neg (fun k => c k.2.2), if_neg (fun k => c (by have := k.2.2; omega))]
  ·rw [if_neg (fun k => a ⟨k.1, k.2.1⟩), if_neg (fun k => a ⟨k.1, k.2.1⟩)]
theorem stp_row (F h : Nat) (O : Nat → Nat → Gi) (f : Nat → Gi) (j i : Nat) (h1 : 1 ≤ h) : stp F h O f j 4 i = stp F h O f (j + 1) 0 i := by
 unfold stp
 by_cases a : F ≤ i ∧ i < F + 4 * h
 ·have hd : (i - F) / h < 4 := by rw [Nat.div_lt_iff_lt_mul (by omega)]; omega
  by_cases c : (i - F) % h < j + 1
  ·rw [if_pos ⟨a.1, a.2, (Nat.lt_or_eq_of_le (Nat.le_of_lt_succ c)).imp id (fun e => ⟨e, hd⟩)⟩, if_pos ⟨a.1, a.2, .inl c⟩]
  ·rw [if_neg (fun k => c ?_), if_neg (fun k => c ?_)]
   ·exact k.2.2.elim id (fun e => absurd e.2 (Nat.not_lt_zero _))
   ·exact k.2.2.elim (fun e => Nat.lt_succ_of_lt e) (fun e => by rw [e.1]; exact Nat.lt_succ_self _)
 ·rw [if_neg (fun k => a ⟨k.1, k.2.1⟩), if_neg (fun k => a ⟨k.1, k.2.1⟩)]
theorem stp_at (F h : Nat) (O : Nat → Nat → Gi) (f : Nat → Gi) (j q : Nat) (hj : j < h) : stp F h O f j 0 (F + (q * h + j)) = f (F + (q * h + j)) := by
 have hp := place_div h q j hj
 unfold stp
 rw [show F + (q * h + j) - F = q * h + j by omega, hp.1, hp.2, if_neg (by omega)]
theorem stp_end (F h : Nat) (O : Nat → Nat → Gi) (f : Nat → Gi) (i : Nat) (h1 : 1 ≤ h) : stp F h O f h 0 i = if F ≤ i ∧ i < F + 4 * h then O ((i - F) % h) ((i - F) / h) else f i := by
 have := Nat.mod_lt (i - F) (show 0 < h by omega)
 unfold stp
 by_cases a : F ≤ i ∧ i < F + 4 * h
 ·rw [if_pos ⟨a.1, a.2, .inl this⟩, if_pos a]
 ·rw [if_neg (fun k => a ⟨k.1, k.2.1⟩), if_neg a]
theorem make_nums (h u j m n : Nat) (hm : 4 * h = m) (hj : j < h) (hm64 : m ≤ 64) (hn64 : n ≤ 64) (hn : n = m * u) :
 (j : Int) < (m : Int) ∧ ((2 * h + j : Nat) : Int) < (m : Int) ∧ ((h + j : Nat) : Int) < (m : Int) ∧ ((3 * h + j : Nat) : Int) < (m : Int) ∧
 IntKind.i64.wrap (2 * (h : Int)) = ((2 * h : Nat) : Int) ∧ IntKind.i64.wrap (3 * (h : Int)) = ((3 * h : Nat) : Int) ∧ IntKind.i64.wrap ((j : Int) * (u : Int)) = ((j * u : Nat) : Int) ∧
 IntKind.i64.wrap (((2 * h : Nat) : Int) + (j : Int)) = ((2 * h + j : Nat) : Int) ∧ IntKind.i64.wrap ((h : Int) + (j : Int)) = ((h + j : Nat) : Int) ∧ IntKind.i64.wrap (((3 * h : Nat) : Int) + (j : Int)) = ((3 * h + j : Nat) : Int) := by
 have k1 : j * u ≤ h * u := Nat.mul_le_mul_right _ (by omega)
 have k2 : h * u ≤ m * u := Nat.mul_le_mul_right _ (by omega)
 have k3 := imul 2 h (by omega)
 have k4 := imul 3 h (by omega)
 exact ⟨by omega, by omega, by omega, by omega, k3, k4, imul j u (by omega), iadd (2 * h) j (by omega), iadd h j (by omega), iadd (3 * h) j (by omega)⟩
theorem quad_nums (h q j m : Nat) (hm : 4 * h = m) (hq : q < 4) (hj : j < h) (hm64 : m ≤ 64) :
 wrap64 ((q : Int) * (h : Int)) = ((q * h : Nat) : Int) ∧ wrap64 (((q * h : Nat) : Int) + (j : Int)) = ((q * h + j : Nat) : Int) ∧ ((q * h + j : Nat) : Int) < (m : Int) := by
 have k := place_lt h q j hq hj
 exact ⟨wmul q h (by omega), wadd (q * h) j (by omega), by omega⟩
theorem idx4 (f : Nat → Gi) (q : Nat) (hq : q < 4) (w : World) : (Instr.index 225 (.agg #[.int .i64 (f 0).re, .int .i64 (f 0).im, .int .i64 (f 1).re, .int .i64 (f 1).im, .int .i64 (f 2).re, .int .i64 (f 2).im, .int .i64 (f 3).re, .int .i64 (f 3).im]) (.int .i64 (q : Int))).run Tryz.prog w = .ok (.agg #[.int .i64 (f q).re, .int .i64 (f q).im]) w := by
 have i0 : ∀ w, (Instr.index 225 (.agg #[.int .i64 (f 0).re, .int .i64 (f 0).im, .int .i64 (f 1).re, .int .i64 (f 1).im, .int .i64 (f 2).re, .int .i64 (f 2).im, .int .i64 (f 3).re, .int .i64 (f 3).im]) (.int .i64 0)).run Tryz.prog w = .ok (.agg #[.int .i64 (f 0).re, .int .i64 (f 0).im]) w := fun _ => by kernel_rfl
 have i1 : ∀ w, (Instr.index 225 (.agg #[.int .i64 (f 0).re, .int .i64 (f 0).im, .int .i64 (f 1).re, .int .i64 (f 1).im, .int .i64 (f 2).re, .int .i64 (f 2).im, .int .i64 (f 3).re, .int .i64 (f 3).im]) (.int .i64 1)).run Tryz.prog w = .ok (.agg #[.int .i64 (f 1).re, .int .i64 (f 1).im]) w := fun _ => by kernel_rfl
 have i2 : ∀ w, (Instr.index 225 (.agg #[.int .i64 (f 0).re, .int .i64 (f 0).im, .int .i64 (f 1).re, .int .i64 (f 1).im, .int .i64 (f 2).re, .int .i64 (f 2).im, .int .i64 (f 3).re, .int .i64 (f 3).im]) (.int .i64 2)).run Tryz.prog w = .ok (.agg #[.int .i64 (f 2).re, .int .i64 (f 2).im]) w := fun _ => by kernel_rfl
 have i3 : ∀ w, (Instr.index 225 (.agg #[.int .i64 (f 0).re, .int .i64 (f 0).im, .int .i64 (f 1).re, .int .i64 (f 1).im, .int .i64 (f 2).re, .int .i64 (f 2).im, .int .i64 (f 3).re, .int .i64 (f 3).im]) (.int .i64 3)).run Tryz.prog w = .ok (.agg #[.int .i64 (f 3).re, .int .i64 (f 3).im]) w := fun _ => by kernel_rfl
 have hc : q = 0 ∨ q = 1 ∨ q = 2 ∨ q = 3 := by omega
 rcases hc with e | e | e | e
 ·subst e; exact i0 w
 ·subst e; exact i1 w
 ·subst e; exact i2 w
 ·subst e; exact i3 w
set_option maxHeartbeats 8000000 in
theorem fMake_of (b s mo : Int) (inv : Bool) (B F N h u n cap bw ow cw : Nat) (ws : List Gi) (f : Nat → Gi) (O : Nat → Nat → Gi) (Rt A4 : Nat → Nat → Gi) (h1 : 1 ≤ h) (hN : F + 4 * h ≤ N) (hN64 : N ≤ 64) (hn : n = 4 * h * u) (hn64 : n ≤ 64) (hu : 1 ≤ u) (hne : bw ≠ B) (hcap : 4 * h ≤ cap)
 (hA4 : ∀ j, j < h → A4 j 0 = f (F + (0 * h + j)) ∧ A4 j 1 = f (F + (2 * h + j)) ∧ A4 j 2 = f (F + (1 * h + j)) ∧ A4 j 3 = f (F + (3 * h + j)))
 (HA : Hid (∀ j, j < h → ∀ W, CxsAt W (.slice (some ⟨bw, ow, none⟩) n cw) ws → Calls Tryz.prog 209 #[.agg #[.int .i64 b, .int .i64 s, .int .i64 mo, .bool inv], .slice (some ⟨bw, ow, none⟩) n cw, .int .i64 ((j * u : Nat) : Int)] W fun e w' => e = .returned (.agg #[.int .i64 ((Rt j) 0).re, .int .i64 ((Rt j) 0).im, .int .i64 ((Rt j) 1).re, .int .i64 ((Rt j) 1).im, .int .i64 ((Rt j) 2).re, .int .i64 ((Rt j) 2).im, .int .i64 ((Rt j) 3).re, .int .i64 ((Rt j) 3).im]) ∧ Gr W w'))
 (HQ : Hid (∀ j, j < h → ∀ W, Calls Tryz.prog 208 #[.agg #[.int .i64 b, .int .i64 s, .int .i64 mo, .bool inv], .agg #[.int .i64 (A4 j 0).re, .int .i64 (A4 j 0).im, .int .i64 (A4 j 1).re, .int .i64 (A4 j 1).im, .int .i64 (A4 j 2).re, .int .i64 (A4 j 2).im, .int .i64 (A4 j 3).re, .int .i64 (A4 j 3).im], .agg #[.int .i64 (Rt j 0).re, .int .i64 (Rt j 0).im, .int .i64 (Rt j 1).re, .int .i64 (Rt j 1).im, .int .i64 (Rt j 2).re, .int .i64 (Rt j 2).im, .int .i64 (Rt j 3).re, .int .i64 (Rt j 3).im]] W fun e w' => e = .returned (.agg #[.int .i64 (O j 0).re, .int .i64 (O j 0).im, .int .i64 (O j 1).re, .int .i64 (O j 1).im, .int .i64 (O j 2).re, .int .i64 (O j 2).im, .int .i64 (O j 3).re, .int .i64 (O j 3).im]) ∧ Gr W w'))
 (w : World) (hv : CxsAt w (.slice (some ⟨bw, ow, none⟩) n cw) ws) (hbw : bw < w.heap.size) (hBw : B < w.heap.size) (hy : RowAt w B 50 N f) :
 Calls Tryz.prog 187 #[.agg #[.int .i64 b, .int .i64 s, .int .i64 mo, .bool inv], .slice (some ⟨B, F * 2, none⟩) ((4 * h : Nat)) cap, .slice (some ⟨bw, ow, none⟩) n cw] w fun e w' => e = .returned (.tuple #[]) ∧ RowAt w' B 50 N (stp F h O f h 0) ∧ GB B w w' := by
 have HA4 := Lib.hid hA4
 clear hA4
 have HNX := Lib.hid (stp_next F h O f)
 have HRW := Lib.hid (stp_row F h O f)
 have HAT := Lib.hid (stp_at F h O f)
 have hr0 : RowAt w B 50 N (stp F h O f 0 0) := hy.eq (fun i _ => (stp_start F h O f i).symm)
 have hhu : 4 * h * 1 ≤ 4 * h * u := Nat.mul_le_mul_left _ hu
 have hm4 : ((4 * h : Nat) : Int) / 4 = (h : Int) := by omega
 have hdu : (n : Int) / ((4 * h : Nat) : Int) = (u : Int) := by
  have : (n : Int) = ((4 * h : Nat) : Int) * (u : Int) := by rw [hn]; simp
  rw [this]
  exact Int.mul_ediv_cancel_left _ (by omega)
 have hnz : ¬ ((4 * h : Nat) : Int) = 0 := by omega
 have hu64 : u ≤ 64 := by
  have : 1 * u ≤ 4 * h * u := Nat.mul_le_mul_right _ (by omega)
  omega
 have HN := Lib.hid (And.intro hN (And.intro hn hhu))
 have hh16 : h ≤ 16 := by omega
 clear hy hN hn hhu
 generalize hm : 4 * h = m at *
 have HM := Lib.hid hm
 have hm64 : m ≤ 64 := by omega
 clear hm
 go_enter Tryz.func187, Tryz.ntmps187
 go_wp2_with fail
 have R0 := CellsAt.new w 212 #[.int .i64 b, .int .i64 s, .int .i64 mo, .bool inv]
 have gu : Gr w (w.alloc (.cells #[.int .i64 b, .int .i64 s, .int .i64 mo, .bool inv] 212)) := (Gr.refl w).alloc _ _
 have G0 : GB B w (w.alloc (.cells #[.int .i64 b, .int .i64 s, .int .i64 mo, .bool inv] 212)) := GB.of gu
 have V0 := hv.gr gu
 have Y0 := hr0.gr gu
 clear gu hr0 hv hdu hm4 hnz
 go_loopw [21] (fun i wr => ∃ j : Nat, j ≤ h ∧ i = .int .i64 j ∧ CellsAt wr w.heap.size 212 #[.int .i64 b, .int .i64 s, .int .i64 mo, .bool inv] ∧ CxsAt wr (.slice (some ⟨bw, ow, none⟩) n cw) ws ∧ RowAt wr B 50 N (stp F h O f j 0) ∧ GB B w wr) (fun i _ => h - (intOf i).toNat)
 case atStart => exact ⟨0, by omega, rfl, R0, V0, Y0, G0⟩
 case round =>
  clear R0 V0 Y0 G0
  obtain ⟨j, hj, rfl, R0, V0, Y0, G0⟩ := hrel
  by_cases hlt : j < h
  ·have hlt' : (j : Int) < h := by omega
   go_wp2_with fail
   have hpl := fun q hq => place_lt h q j hq hlt
   have hmm := HM.out
   obtain ⟨hN, hn, hhu⟩ := HN.out
   have e0 := Y0.cells (F + (0 * h + j)) (by have := hpl 0 (by omega); omega)
   have e1 := Y0.cells (F + (2 * h + j)) (by have := hpl 2 (by omega); omega)
   have e2 := Y0.cells (F + (1 * h + j)) (by have := hpl 1 (by omega); omega)
   have e3 := Y0.cells (F + (3 * h + j)) (by have := hpl 3 (by omega); omega)
   rw [HAT.out j _ hlt, Nat.add_mul] at e0 e1 e2 e3
   obtain ⟨a0, a1, a2, a3⟩ := HA4.out j hlt
   rw [← a0, Nat.zero_mul, Nat.zero_add] at e0
   rw [← a1] at e1
   rw [← a2, Nat.one_mul] at e2
   rw [← a3] at e3
   clear a0 a1 a2 a3
   obtain ⟨b0', b1', b2', b3', w2, w3, wju, w4, w5, w6⟩ := make_nums h u j m n hmm hlt hm64 hn64 hn
   have HA1 := Lib.hid (HA.out j hlt)
   have HQ1 := Lib.hid (HQ.out j hlt)
   have lB := Y0.lt
   clear hmm hN hn hhu hpl
   generalize 2 * h = p1 at *
   generalize 3 * h = p2 at *
   generalize p1 + j = q1 at *
   generalize h + j = q2 at *
   generalize p2 + j = q3 at *
   generalize j * u = ju at *
   have hB0 : w.heap.size ≠ B := fun e => Nat.lt_irrefl _ (e ▸ hBw)
   have KS : ∀ W, Gr wr W → (W.cell? ⟨B, F * 2 + j * 2, none⟩ = some (.int .i64 (A4 j 0).re) ∧ W.cell? ⟨B, F * 2 + j * 2 + 1, none⟩ = some (.int .i64 (A4 j 0).im) ∧ W.cell? ⟨B, F * 2 + q1 * 2, none⟩ = some (.int .i64 (A4 j 1).re) ∧ W.cell? ⟨B, F * 2 + q1 * 2 + 1, none⟩ = some (.int .i64 (A4 j 1).im) ∧ W.cell? ⟨B, F * 2 + q2 * 2, none⟩ = some (.int .i64 (A4 j 2).re) ∧ W.cell? ⟨B, F * 2 + q2 * 2 + 1, none⟩ = some (.int .i64 (A4 j 2).im) ∧ W.cell? ⟨B, F * 2 + q3 * 2, none⟩ = some (.int .i64 (A4 j 3).re) ∧ W.cell? ⟨B, F * 2 + q3 * 2 + 1, none⟩ = some (.int .i64 (A4 j 3).im) ∧ B < W.heap.size) := fun W hG =>
    ⟨(hG.cell lB).trans e0.1, (hG.cell lB).trans e0.2, (hG.cell lB).trans e1.1, (hG.cell lB).trans e1.2, (hG.cell lB).trans e2.1, (hG.cell lB).trans e2.2, (hG.cell lB).trans e3.1, (hG.cell lB).trans e3.2, Nat.lt_of_lt_of_le lB hG.size⟩
   clear e0 e1 e2 e3
   refine wp_region_held_drew (S := fun W => W.cell? ⟨B, F * 2 + j * 2, none⟩ = some (.int .i64 (A4 j 0).re) ∧ W.cell? ⟨B, F * 2 + j * 2 + 1, none⟩ = some (.int .i64 (A4 j 0).im) ∧ W.cell? ⟨B, F * 2 + q1 * 2, none⟩ = some (.int .i64 (A4 j 1).re) ∧ W.cell? ⟨B, F * 2 + q1 * 2 + 1, none⟩ = some (.int .i64 (A4 j 1).im) ∧ W.cell? ⟨B, F * 2 + q2 * 2, none⟩ = some (.int .i64 (A4 j 2).re) ∧ W.cell? ⟨B, F * 2 + q2 * 2 + 1, none⟩ = some (.int .i64 (A4 j 2).im) ∧ W.cell? ⟨B, F * 2 + q3 * 2, none⟩ = some (.int .i64 (A4 j 3).re) ∧ W.cell? ⟨B, F * 2 + q3 * 2 + 1, none⟩ = some (.int .i64 (A4 j 3).im) ∧ B < W.heap.size) rfl (KS _ (Gr.drew (Gr.refl _))) (fun hS => ?_)
   refine hT 0 ?_
   refine hT 1 ?_
   refine hT 2 ?_
   refine hT 3 ?_
   refine hT 4 ?_
   refine hT 5 ?_
   refine hT 6 ?_
   refine hT 7 ?_
   refine hT 8 ?_
   refine hT 9 ?_
   refine hT 10 ?_
   refine hT 11 ?_
   refine hT 12 ?_
   refine hT 13 ?_
   refine hT 14 ?_
   refine hT 15 ?_
   refine hT 16 ?_
   refine hT 17 ?_
   refine hT 18 ?_
   refine hT 19 ?_
   refine hT 20 ?_
   refine hT 21 ?_
   refine hT 22 ?_
   refine hT 23 ?_
   refine hT 24 ?_
   refine hR 25 fun K hK => ?_
   go_simp
   have g1 := (Gr.drew (Gr.refl wr)).alloc #[.int .i64 0, .int .i64 0, .int .i64 0, .int .i64 0, .int .i64 0, .int .i64 0, .int .i64 0, .int .i64 0] 225
   refine hK.out _ _ ?_ (fun hHeld => ?_)
   ·(exact KS _ g1)
   clear hK K
   try simp only [Act.put, putS]
   refine hR 26 fun K hK => ?_
   go_simp
   have g2 := ((Gr.refl wr).alloc #[.int .i64 (A4 j 0).re, .int .i64 (A4 j 0).im, .int .i64 (A4 j 1).re, .int .i64 (A4 j 1).im, .int .i64 (A4 j 2).re, .int .i64 (A4 j 2).im, .int .i64 (A4 j 3).re, .int .i64 (A4 j 3).im] 225).drew
   refine hK.out _ _ ?_ (fun hHeld => ?_)
   ·(exact KS _ g2)
   clear hK K
   try simp only [Act.put, putS]
   refine wpAnyH_done (by kernel_rfl) ?_ _
   have RA := CellsAt.new wr 225 #[.int .i64 (A4 j 0).re, .int .i64 (A4 j 0).im, .int .i64 (A4 j 1).re, .int .i64 (A4 j 1).im, .int .i64 (A4 j 2).re, .int .i64 (A4 j 2).im, .int .i64 (A4 j 3).re, .int .i64 (A4 j 3).im]
   have hBA := R0.lt
   have R1 := R0.gr g2
   have V1 := V0.gr g2
   have Y1 := Y0.gr g2
   have G1 := G0.gr g2
   replace RA : CellsAt (wr.alloc (.cells #[.int .i64 (A4 j 0).re, .int .i64 (A4 j 0).im, .int .i64 (A4 j 1).re, .int .i64 (A4 j 1).im, .int .i64 (A4 j 2).re, .int .i64 (A4 j 2).im, .int .i64 (A4 j 3).re, .int .i64 (A4 j 3).im] 225)).drew wr.heap.size 225 #[.int .i64 (A4 j 0).re, .int .i64 (A4 j 0).im, .int .i64 (A4 j 1).re, .int .i64 (A4 j 1).im, .int .i64 (A4 j 2).re, .int .i64 (A4 j 2).im, .int .i64 (A4 j 3).re, .int .i64 (A4 j 3).im] := RA
   have hBB : wr.heap.size ≠ B := fun e => Nat.lt_irrefl _ (e ▸ lB)
   generalize (wr.alloc (.cells #[.int .i64 (A4 j 0).re, .int .i64 (A4 j 0).im, .int .i64 (A4 j 1).re, .int .i64 (A4 j 1).im, .int .i64 (A4 j 2).re, .int .i64 (A4 j 2).im, .int .i64 (A4 j 3).re, .int .i64 (A4 j 3).im] 225)).drew = wv at *
   have zG := G0.size
   generalize wr.heap.size = BA at *
   clear KS R0 V0 Y0 G0 g1 g2 hS w2 w3 w4 w5 w6 b0' b1' b2' b3' lB
   go_wp2_with fail
   have KS : ∀ W, Gr wv W → (W.cell? ⟨w.heap.size, 0, none⟩ = some (.int .i64 b) ∧ W.cell? ⟨w.heap.size, 1, none⟩ = some (.int .i64 s) ∧ W.cell? ⟨w.heap.size, 2, none⟩ = some (.int .i64 mo) ∧ W.cell? ⟨w.heap.size, 3, none⟩ = some (.bool inv) ∧ W.cell? ⟨BA, 0, none⟩ = some (.int .i64 (A4 j 0).re) ∧ W.cell? ⟨BA, 1, none⟩ = some (.int .i64 (A4 j 0).im) ∧ W.cell? ⟨BA, 2, none⟩ = some (.int .i64 (A4 j 1).re) ∧ W.cell? ⟨BA, 3, none⟩ = some (.int .i64 (A4 j 1).im) ∧ W.cell? ⟨BA, 4, none⟩ = some (.int .i64 (A4 j 2).re) ∧ W.cell? ⟨BA, 5, none⟩ = some (.int .i64 (A4 j 2).im) ∧ W.cell? ⟨BA, 6, none⟩ = some (.int .i64 (A4 j 3).re) ∧ W.cell? ⟨BA, 7, none⟩ = some (.int .i64 (A4 j 3).im) ∧ w.heap.size < W.heap.size ∧ BA < W.heap.size) := fun W hG => ⟨(R1.gr hG).cell 0, (R1.gr hG).cell 1, (R1.gr hG).cell 2, (R1.gr hG).cell 3, (RA.gr hG).cell 0, (RA.gr hG).cell 1, (RA.gr hG).cell 2, (RA.gr hG).cell 3, (RA.gr hG).cell 4, (RA.gr hG).cell 5, (RA.gr hG).cell 6, (RA.gr hG).cell 7, Nat.lt_of_lt_of_le R1.lt hG.size, Nat.lt_of_lt_of_le RA.lt hG.size⟩
   refine wp_region_held_drew (S := fun W => W.cell? ⟨w.heap.size, 0, none⟩ = some (.int .i64 b) ∧ W.cell? ⟨w.heap.size, 1, none⟩ = some (.int .i64 s) ∧ W.cell? ⟨w.heap.size, 2, none⟩ = some (.int .i64 mo) ∧ W.cell? ⟨w.heap.size, 3, none⟩ = some (.bool inv) ∧ W.cell? ⟨BA, 0, none⟩ = some (.int .i64 (A4 j 0).re) ∧ W.cell? ⟨BA, 1, none⟩ = some (.int .i64 (A4 j 0).im) ∧ W.cell? ⟨BA, 2, none⟩ = some (.int .i64 (A4 j 1).re) ∧ W.cell? ⟨BA, 3, none⟩ = some (.int .i64 (A4 j 1).im) ∧ W.cell? ⟨BA, 4, none⟩ = some (.int .i64 (A4 j 2).re) ∧ W.cell? ⟨BA, 5, none⟩ = some (.int .i64 (A4 j 2).im) ∧ W.cell? ⟨BA, 6, none⟩ = some (.int .i64 (A4 j 3).re) ∧ W.cell? ⟨BA, 7, none⟩ = some (.int .i64 (A4 j 3).im) ∧ w.heap.size < W.heap.size ∧ BA < W.heap.size) rfl (KS _ (Gr.drew (Gr.refl _))) (fun hS => ?_)
   refine hT 0 ?_
   refine hT 1 ?_
   refine hT 2 ?_
   refine hT 3 ?_
   refine hT 4 ?_
   refine hT 5 ?_
   refine hT 6 ?_
   refine hT 9 ?_
   refine hR 7 fun K hK => ?_
   go_simp
   go_at_call 209
   refine (HA1.out _ (V1.gr ((Gr.refl _).drew))).mono ?_
   rintro e w3 ⟨rfl, g3⟩
   have x3 := ((Gr.refl wv).drew).trans g3
   refine hK.out _ _ ?_ (fun hHeld => ?_)
   ·(exact KS _ x3)
   clear hK K
   try simp only [Act.put, putS]
   refine hR 8 fun K hK => ?_
   go_simp
   go_at_call 208
   refine (HQ1.out _).mono ?_
   rintro e w4 ⟨rfl, g4⟩
   have x4 := x3.trans g4
   refine hK.out _ _ ?_ (fun hHeld => ?_)
   ·(exact KS _ x4)
   clear hK K
   try simp only [Act.put, putS]
   refine wpAnyH_done (by kernel_rfl) ?_ _
   have R2 := R1.gr x4
   have V2 := V1.gr x4
   have Y2 := Y1.gr x4
   have G2 := G1.gr x4
   clear KS R1 V1 Y1 G1 g3 g4 x3 x4 hS RA HA1 HQ1 wju
   have hBn : w.heap.size ≠ B := hB0
   have A0 : RowAt w4 B 50 N (stp F h O f j 0) := Y2
   clear Y2
   go_wp2_with fail
   clear hlt'
   go_loopw [58] (fun i wq => ∃ q : Nat, q ≤ 4 ∧ i = .int .i64 q ∧ CellsAt wq w.heap.size 212 #[.int .i64 b, .int .i64 s, .int .i64 mo, .bool inv] ∧ CxsAt wq (.slice (some ⟨bw, ow, none⟩) n cw) ws ∧ RowAt wq B 50 N (stp F h O f j q) ∧ GB B w wq) (fun i _ => 4 - (intOf i).toNat)
   case atStart => exact ⟨0, by omega, rfl, R2, V2, A0, G2⟩
   case round =>
    clear R2 V2 A0 G2
    obtain ⟨q, hq, rfl, R2, V2, A0, G2⟩ := hrel
    by_cases hqt : q < 4
    ·have hqt' : (q : Int) < 4 := by omega
     have hI := idx4 (O j) q hqt
     have hmm := HM.out
     have hr := place_lt h q j hqt hlt
     have HX := Lib.hid (fun i => HNX.out j q i hlt hqt)
     have hFr : F + (q * h + j) < N := by have := HN.out.1; omega
     obtain ⟨r1, r2, r3⟩ := quad_nums h q j m hmm hqt hlt hm64
     clear hr hmm
     generalize q * h = qh at *
     generalize qh + j = r at *
     obtain ⟨d0, d1⟩ := A0.cells (F + r) hFr
     have m0 := A0.marks ((F + r) * 2)
     have m1 := A0.marks ((F + r) * 2 + 1)
     rw [Nat.add_mul] at d0 d1 m0 m1
     have lB := A0.lt
     go_wp2_with fail
     have A2 := ((A0.set (F + r) hFr (O j q)).eq (fun i _ => HX.out i)).alloc (.cells #[.int .i64 (O j q).re, .int .i64 (O j q).im] 50)
     rw [Nat.add_mul] at A2
     have G3 := ((G2.set (F * 2 + r * 2) (.int .i64 (O j q).re)).set (F * 2 + r * 2 + 1) (.int .i64 (O j q).im)).alloc #[.int .i64 (O j q).re, .int .i64 (O j q).im] 50
     have R3 := ((R2.other (B' := B) hB0 (F * 2 + r * 2) (.int .i64 (O j q).re)).other (B' := B) hB0 (F * 2 + r * 2 + 1) (.int .i64 (O j q).im)).alloc (.cells #[.int .i64 (O j q).re, .int .i64 (O j q).im] 50)
     have V3 := ((GB.refl B wr).set (F * 2 + r * 2) (.int .i64 (O j q).re)).set (F * 2 + r * 2 + 1) (.int .i64 (O j q).im) |>.alloc #[.int .i64 (O j q).re, .int .i64 (O j q).im] 50 |>.cxs V2 hne
     go_roundw
     case rel => exact ⟨q + 1, by omega, by go_num, R3, V3, A2, G3⟩
     case measure => simp [intOf]; omega
    ·obtain rfl : q = 4 := by omega
     go_wp2_with fail
     have A2 := A0.eq (fun i _ => HRW.out j i h1)
     go_roundw
     case rel => exact ⟨j + 1, by omega, by go_num, R2, V2, A2, G2⟩
     case measure => simp [intOf]; omega
  ·obtain rfl : j = h := by omega
   go_wp2_with fail
   go_end0
   exact ⟨rfl, Y0, G0⟩
end
end Go.Proofs.YtdignnmpfkgkoaaGreat
