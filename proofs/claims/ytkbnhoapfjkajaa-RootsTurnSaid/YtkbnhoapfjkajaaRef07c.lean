/- What reference 7's RootOf and Root answer. -/
import Derived.Test.YtkbnhoapfjkajaaRef07b
namespace Go.Proofs.Ytkbnhoapfjkajaa
open Go.ChangeShapes Go.WideShapes Go.ChangeAt Go.RowKit
set_option linter.unusedVariables false

theorem CxBlock.new (W : World) (x y : Int) : CxBlock (W.alloc (.cells #[.int .i64 x, .int .i64 y] 23)) W.heap.size := ⟨x, y, CellsAt.new _ _ _⟩
theorem CxBlock.alloc {W : World} {B : Nat} (h : CxBlock W B) (o : Obj) : CxBlock (W.alloc o) B := h.gr ((Gr.refl _).allocO o)
theorem CxBlock.drewN {W : World} {B : Nat} (h : CxBlock W B) (n : Nat) : CxBlock (W.drewN n) B := h.gr ((Gr.refl _).drewN n)
theorem CxBlock.other {W : World} {B B' : Nat} (h : CxBlock W B) (hne : B ≠ B') (x y : Value) : CxBlock ((W.setCell ⟨B', 0, none⟩ x).setCell ⟨B', 1, none⟩ y) B := by
  obtain ⟨a, b, h⟩ := h
  exact ⟨a, b, (h.other hne 0 x).other hne 1 y⟩

set_option maxHeartbeats 8000000 in
theorem rootOf07_c (log k n bits : Int) (l0 : 2 ≤ log) (l1 : log ≤ 6) (hn : n = 2 ^ log.toNat) (wk : -9223372036854775808 ≤ k ∧ k ≤ 9223372036854775807) (b0 : 0 ≤ bits) (b1 : bits ≤ 40) (v : Value) (w : World) (hv : IntsAt w v angL) :
    Calls Try.prog 23 #[.agg #[v, .int .i64 43757185469210200], .int .i64 log, .int .i64 k, .int .i64 bits] w fun e w' => e = .returned (.agg #[.int .i64 (rootG n k (56 - bits).toNat).re, .int .i64 (rootG n k (56 - bits).toNat).im]) ∧ Gr w w' := by
  have hl := len_log n log l0 l1 hn
  have hn4 : 4 ≤ n ∧ n ≤ 64 := by rcases hl with rfl | rfl | rfl | rfl | rfl <;> omega
  have hu := len_u n k hl
  have HP := Lib.hid (pow_c log (by omega) (by omega))
  rw [← hn] at HP
  have HL := Lib.hid (left07_c k n hl wk)
  have hbd := rpt_bd n _ hl hu.1 hu.2.1
  have HPt := Lib.hid fun v W (hI : IntsAt W v angL) => point07_c log (4 * (k % n) % n) n l0 l1 hn hu.1 hu.2.1 v W hI
  unfold rootG
  generalize hr : k % n = r at *
  have HL2 := Lib.hid (left07_c (4 * r) n hl (by omega))
  have HD := Lib.hid (refDiv_c (4 * r) n (by omega) (by omega))
  generalize 4 * r % n = u at *
  generalize 4 * r / n = q at *
  generalize hp : rpt n u = p at *
  have HS := Lib.hid (rsh07_c p.re p.im (56 - bits) (by omega) (by omega) (by omega) (by omega))
  have hs := And.intro (rnd_top p.re (56 - bits).toNat (by omega) (by omega) hbd.1) (rnd_top p.im (56 - bits).toNat (by omega) (by omega) hbd.2)
  have hM : (2 : Nat) ^ (56 - (56 - bits).toNat) ≤ 1099511627776 := by
    have : (2 : Nat) ^ (56 - (56 - bits).toNat) ≤ 2 ^ 40 := Nat.pow_le_pow_right (by decide) (by omega)
    omega
  have es : rsh (56 - bits).toNat p = ⟨rnd p.re (56 - bits).toNat 1, rnd p.im (56 - bits).toNat 1⟩ := rfl
  have hq : (rsh (56 - bits).toNat p).re.natAbs ≤ 1099511627776 ∧ (rsh (56 - bits).toNat p).im.natAbs ≤ 1099511627776 := by rw [es]; simp only; omega
  have HS' : Hid (∀ W, Calls Try.prog 35 #[.agg #[.int .i64 p.re, .int .i64 p.im], .int .i64 (56 - bits), .int .i64 1] W fun e w' => e = .returned (.agg #[.int .i64 (rsh (56 - bits).toNat p).re, .int .i64 (rsh (56 - bits).toNat p).im]) ∧ Gr W w') := HS
  clear HS es hs hM
  generalize rsh (56 - bits).toNat p = g at *
  have HT := Lib.hid (rturn_gi g q (by omega))
  have hq2 := turn_bd q g _ hq
  generalize g.turn q = g2 at *
  have HC := Lib.hid (rconj_gi g2 (by omega))
  generalize g2.conj = g3 at *
  obtain ⟨px, py⟩ := p
  obtain ⟨gx, gy⟩ := g
  obtain ⟨hx, hy⟩ := g2
  obtain ⟨ix, iy⟩ := g3
  simp only at HPt HS' HT HC ⊢
  have J := Lib.hid hv
  obtain ⟨b, o, cap, rfl, hlen, hb, hc⟩ := same_len hv angL_ne'
  rw [angL_len] at J ⊢
  have rb : 0 ≤ r ∧ r < 64 := by omega
  have hm4 : IntKind.i64.wrap (4 * r) = 4 * r := IntWalk.i64_in _ ⟨by omega, by omega⟩
  have hm56 : IntKind.i64.wrap (56 - bits) = 56 - bits := IntWalk.i64_in _ ⟨by omega, by omega⟩
  clear hv hlen hc hb hl hbd hu hr hp hq hq2 wk hn
  go_enter Try.func23, Try.ntmps23
  go_wp2_with (first | (go_at_call 28; refine (HP.out _).mono ?_; rintro e wz ⟨rfl, rfl⟩) | (go_at_call 34; refine (HL.out _).mono ?_; rintro e wz ⟨rfl, rfl⟩))
  have T0 := CellsAt.new w 47 #[.slice (some ⟨b, o, none⟩) 45 cap, .int .i64 43757185469210200]
  have R0 := CellsAt.new (w.alloc (.cells #[.slice (some ⟨b, o, none⟩) 45 cap, .int .i64 43757185469210200] 47)) 23 #[.int .i64 0, .int .i64 0]
  rw [World.size_alloc] at R0
  have T1 := T0.alloc (.cells #[.int .i64 0, .int .i64 0] 23)
  have gu := ((Gr.refl w).alloc #[.slice (some ⟨b, o, none⟩) 45 cap, .int .i64 43757185469210200] 47).alloc #[.int .i64 0, .int .i64 0] 23
  have hsz : w.heap.size + 1 < ((w.alloc (.cells #[.slice (some ⟨b, o, none⟩) 45 cap, .int .i64 43757185469210200] 47)).alloc (.cells #[.int .i64 0, .int .i64 0] 23)).heap.size := by simp
  generalize (w.alloc (.cells #[.slice (some ⟨b, o, none⟩) 45 cap, .int .i64 43757185469210200] 47)).alloc (.cells #[.int .i64 0, .int .i64 0] 23) = u0 at *
  have d0 := T1.cell 0
  have d1 := T1.cell 1
  simp only [List.getElem?_toArray, List.getElem?_cons_zero, List.getElem?_cons_succ] at d0 d1
  have JU := Lib.hid (J.out.gr gu)
  have hBw : w.heap.size < u0.heap.size := by omega
  clear T0 T1 HP HL J
  have KS : ∀ W, Gr u0 W → (W.cell? ⟨w.heap.size, 0, none⟩ = some (.slice (some ⟨b, o, none⟩) 45 cap) ∧ W.cell? ⟨w.heap.size, 1, none⟩ = some (.int .i64 43757185469210200) ∧ Gr u0 W) := fun W hG => ⟨(hG.cell (p := ⟨w.heap.size, 0, none⟩) hBw).trans d0, (hG.cell (p := ⟨w.heap.size, 1, none⟩) hBw).trans d1, hG⟩
  go_cut [11] from 17 to 26 (fun pv wx => ∃ B : Nat, pv = .pointer (some ⟨B, 0, none⟩) ∧ u0.heap.size ≤ B ∧ CellsAt wx B 23 #[.int .i64 gx, .int .i64 gy] ∧ Gr u0 wx)
  case first =>
    go_region_held3 (fun W => W.cell? ⟨w.heap.size, 0, none⟩ = some (.slice (some ⟨b, o, none⟩) 45 cap) ∧ W.cell? ⟨w.heap.size, 1, none⟩ = some (.int .i64 43757185469210200) ∧ Gr u0 W)
      (first | ((try go_split_ands); refine KS _ ?_; (first | assumption | exact Gr.drew (Gr.refl _) | exact Gr.alloc (by assumption) _ _ | exact Gr.alloc (Gr.drew (Gr.refl _)) _ _ | exact Gr.drew (Gr.alloc (Gr.refl _) _ _) | (exact Gr.setCell (Gr.setCell (by assumption) (by exact Gr.size (by assumption)) _) (by exact Gr.size (by assumption)) _) | (exact Gr.setCell (Gr.setCell (by assumption) (by exact Nat.le_refl _) _) (by exact Nat.le_refl _) _))))
      (first | (go_at_call 34; go_split_ands; ((with_reducible refine (HL2.out _).mono ?_); rintro e w' ⟨rfl, rfl⟩)) | (go_at_call 36; go_split_ands; ((with_reducible refine (HPt.out _ _ ?_).mono ?_); (first | exact JU.out.gr (by first | assumption | exact Gr.drew (Gr.refl _) | exact Gr.alloc (by assumption) _ _ | exact Gr.alloc (Gr.drew (Gr.refl _)) _ _ | exact Gr.drew (Gr.alloc (Gr.refl _) _ _)) | skip); rintro e w' ⟨rfl, hg⟩; have hgw : Gr u0 w' := Gr.trans (by first | assumption | exact Gr.drew (Gr.refl _) | exact Gr.alloc (by assumption) _ _ | exact Gr.alloc (Gr.drew (Gr.refl _)) _ _ | exact Gr.drew (Gr.alloc (Gr.refl _) _ _)) hg; (first | (have hbk := CxBlock.gr (CxBlock.new _ _ _) hg) | (have hbk := CxBlock.gr (CxBlock.drew (CxBlock.new _ _ _)) hg) | skip))) | (go_at_call 35; go_split_ands; ((with_reducible refine (HS'.out _).mono ?_); rintro e w' ⟨rfl, hg⟩; have hgw : Gr u0 w' := Gr.trans (by first | assumption | exact Gr.drew (Gr.refl _) | exact Gr.alloc (by assumption) _ _ | exact Gr.alloc (Gr.drew (Gr.refl _)) _ _ | exact Gr.drew (Gr.alloc (Gr.refl _) _ _)) hg; (first | (have hbk := CxBlock.gr (CxBlock.new _ _ _) hg; obtain ⟨x, y, r2⟩ := hbk.out; have c0 := r2.cell 0; have c1 := r2.cell 1; have f0 := r2.frozen 0; have f1 := r2.frozen 1; simp only [List.getElem?_toArray, List.getElem?_cons_zero, List.getElem?_cons_succ] at c0 c1) | (have hbk := CxBlock.gr ‹CxBlock _ _› hg; obtain ⟨x, y, r2⟩ := hbk.out; have c0 := r2.cell 0; have c1 := r2.cell 1; have f0 := r2.frozen 0; have f1 := r2.frozen 1; simp only [List.getElem?_toArray, List.getElem?_cons_zero, List.getElem?_cons_succ] at c0 c1) | skip))))
    all_goals
      go_wp2_with fail
      go_meet
      case rel =>
        refine ⟨_, rfl, ?_, ?_, ?_⟩
        · first | exact Nat.le_refl _ | exact Gr.size (by assumption)
        · first | exact CellsAt.new _ _ _ | exact (CellsAt.set (CellsAt.set (by assumption) 0 _) 1 _)
        · (try go_split_ands); assumption
  case rest =>
    obtain ⟨B, rfl, hB, hC, hG⟩ := hcut
    have e0 := hC.cell 0
    have e1 := hC.cell 1
    have hlt := hC.lt
    simp only [List.getElem?_toArray, List.getElem?_cons_zero, List.getElem?_cons_succ] at e0 e1
    have RB : CxBlock wc (w.heap.size + 1) := CxBlock.gr ⟨0, 0, R0⟩ hG
    have gw := gu.trans hG
    have hBr : B ≠ w.heap.size + 1 := by omega
    have hs2 : w.heap.size + 1 < wc.heap.size := Nat.lt_of_lt_of_le hsz hG.size
    clear KS HL2 HPt HS' R0 hC hG gu d0 d1 JU
    go_wp2_with fail
    go_region_held3 (fun W => W.cell? ⟨B, 0, none⟩ = some (.int .i64 gx) ∧ W.cell? ⟨B, 1, none⟩ = some (.int .i64 gy) ∧ B < W.heap.size ∧ CxBlock W (w.heap.size + 1) ∧ Gr w W)
      (first | (go_split_ands; refine ⟨?_, ?_, ?_, ?_, ?_⟩; (all_goals (first | assumption | exact Gr.drew (by assumption) | exact CxBlock.drew (by assumption) | exact CxBlock.set (by assumption) _ _ | (go_keep; done) | (exact Gr.setCell (Gr.setCell (by assumption) (by simp) _) (by simp) _) | (simp; done) | (simp; assumption) | (go_simp; done) | (go_simp; assumption)))))
      (first | (go_at_call 39; go_split_ands; ((with_reducible refine (HD.out _).mono ?_); rintro e w' ⟨rfl, rfl⟩)) | (go_at_call 38; go_split_ands; ((with_reducible refine (HT.out _).mono ?_); rintro e w' ⟨rfl, hg⟩; have hgw : Gr w w' := Gr.trans (by first | assumption | exact Gr.drew (by assumption)) hg; have sz2 := Nat.lt_of_lt_of_le (by assumption : B < _) hg.size; have e0 := (hg.cell (p := ⟨B, 0, none⟩) (by assumption)).trans (by assumption); have e1 := (hg.cell (p := ⟨B, 1, none⟩) (by assumption)).trans (by assumption); have rw' : CxBlock w' (w.heap.size + 1) := CxBlock.gr (by first | assumption | exact CxBlock.drew (by assumption)) hg)) | (go_at_call 37; go_split_ands; ((with_reducible refine (HC.out _).mono ?_); rintro e w' ⟨rfl, hg⟩; have hgw : Gr w w' := Gr.trans (by first | assumption | exact Gr.drew (by assumption)) hg; have sz2 := Nat.lt_of_lt_of_le (by assumption : B < _) hg.size; have e0 := (hg.cell (p := ⟨B, 0, none⟩) (by assumption)).trans (by assumption); have e1 := (hg.cell (p := ⟨B, 1, none⟩) (by assumption)).trans (by assumption); have rw' : CxBlock w' (w.heap.size + 1) := CxBlock.gr (by first | assumption | exact CxBlock.drew (by assumption)) hg; obtain ⟨x, y, r2⟩ := rw'.out; have c0 := r2.cell 0; have c1 := r2.cell 1; have f0 := r2.frozen 0; have f1 := r2.frozen 1; simp only [List.getElem?_toArray, List.getElem?_cons_zero, List.getElem?_cons_succ] at c0 c1; clear r2)))
    have hw2 : Gr w w' := by assumption
    go_wp2_with fail
    refine bodyPost_ret (v := .agg #[.int .i64 ix, .int .i64 iy]) ?_ rfl ⟨rfl, ?_⟩
    · simp [results, Try.f23, go_sem, c0, c1]
    · exact Gr.setCell (Gr.setCell hw2 (by simp) _) (by simp) _

end Go.Proofs.Ytkbnhoapfjkajaa
