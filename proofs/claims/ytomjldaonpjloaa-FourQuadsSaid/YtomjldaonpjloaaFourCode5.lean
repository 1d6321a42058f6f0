/- What package four's makeQuads and Pass answer, in whole complex numbers. -/
import Derived.Test.YtomjldaonpjloaaFourCode4
import Derived.Test.YtomjldaonpjloaaCopied
namespace Go.Proofs.Ytomjldaonpjloaa
open Go.ChangeShapes Go.WideShapes Go.ChangeAt Go.RowKit
set_option linter.unusedVariables false
set_option maxRecDepth 100000
set_option linter.unusedSimpArgs false

/-- A root of a table of a limit. -/
theorem rootOf_in (ws : List Gi) (inv : Bool) (k : Nat) (l : Int) (hl : 0 ≤ l) (h : allIn l ws = true) : Bd l (rootOf ws inv k) := by
  have h0 : Bd l (ws.getD k ⟨0, 0⟩) := by
    rw [List.getD_eq_getElem?_getD]
    cases e : ws[k]? with
    | none => exact Bd.mk (by simp; omega)
    | some a => exact (allIn_iff l ws).1 h a (List.mem_of_getElem? e)
  unfold rootOf
  cases inv
  · exact h0
  · have := h0.le
    exact Bd.mk (by simp only [if_true, Gi.conj]; omega)

theorem fAsked_c (bits s : Nat) (mo : Int) (inv : Bool) (bw ow n c step : Nat) (ws : List Gi) (hb : bits ≤ 29) (hw : allIn (2 ^ bits) ws = true) (hn : ws.length = n) (hst : 3 * step < n) (hn64 : n ≤ 64) (w : World) (hv : CxsAt w (.slice (some ⟨bw, ow, none⟩) n c) ws) :
    Calls Try.prog 57 #[.agg #[.int .i64 bits, .int .i64 s, .int .i64 mo, .bool inv], .slice (some ⟨bw, ow, none⟩) n c, .int .i64 (step : Int)] w fun e w' => e = .returned (.agg #[.int .i64 ((fun k => rootOf ws inv (k * step)) 0).re, .int .i64 ((fun k => rootOf ws inv (k * step)) 0).im, .int .i64 ((fun k => rootOf ws inv (k * step)) 1).re, .int .i64 ((fun k => rootOf ws inv (k * step)) 1).im, .int .i64 ((fun k => rootOf ws inv (k * step)) 2).re, .int .i64 ((fun k => rootOf ws inv (k * step)) 2).im, .int .i64 ((fun k => rootOf ws inv (k * step)) 3).re, .int .i64 ((fun k => rootOf ws inv (k * step)) 3).im]) ∧ Gr w w' := by
  have hp := pow29 bits hb
  cases inv
  · exact fAsked_false bits s mo bw ow n c step ws (fun k => rootOf ws false (k * step)) hn hst hn64 (Lib.hid fun k hk => rfl) w hv
  · refine fAsked_true bits s mo bw ow n c step ws (fun k => rootOf ws true (k * step)) hn hst hn64 (Lib.hid fun k hk W => ?_) w hv
    have := (rootOf_in ws false (k * step) (2 ^ bits) (by omega) hw).le
    exact cxconj_gi (ws.getD (k * step) ⟨0, 0⟩) (by simp only [rootOf, Bool.false_eq_true, if_false] at this; omega) W

/-- Number q of the quad of place j of a block from F on. -/
def blockQuad (bits s : Nat) (mo : Int) (inv : Bool) (ws : List Gi) (F h u : Nat) (f : Nat → Gi) (j q : Nat) : Gi :=
  quadOut bits s mo inv q (f (F + (0 * h + j))) (f (F + (2 * h + j))) (f (F + (1 * h + j))) (f (F + (3 * h + j))) (rootOf ws inv (1 * (j * u))) (rootOf ws inv (2 * (j * u))) (rootOf ws inv (3 * (j * u)))

theorem fMake_c (bits s : Nat) (mo : Int) (inv : Bool) (hb : bits ≤ 29) (hs : s ≤ 3) (m0 : 0 ≤ mo) (m1 : mo ≤ 2) (B F N h u n cap bw ow cw : Nat) (ws : List Gi) (f : Nat → Gi) (h1 : 1 ≤ h) (hN : F + 4 * h ≤ N) (hN64 : N ≤ 64) (hn : n = 4 * h * u) (hn64 : n ≤ 64) (hu : 1 ≤ u) (hne : bw ≠ B) (hcap : 4 * h ≤ cap)
    (hl : ws.length = n) (hw : allIn (2 ^ bits) ws = true) (hf : ∀ i, i < 4 * h → Bd 2147483648 (f (F + i))) (w : World) (hv : CxsAt w (.slice (some ⟨bw, ow, none⟩) n cw) ws) (hbw : bw < w.heap.size) (hBw : B < w.heap.size) (hy : RowAt w B 39 N f) :
    Calls Try.prog 41 #[.agg #[.int .i64 bits, .int .i64 s, .int .i64 mo, .bool inv], .slice (some ⟨B, F * 2, none⟩) ((4 * h : Nat)) cap, .slice (some ⟨bw, ow, none⟩) n cw] w fun e w' => e = .returned (.tuple #[]) ∧ RowAt w' B 39 N (fun i => if F ≤ i ∧ i < F + 4 * h then blockQuad bits s mo inv ws F h u f ((i - F) % h) ((i - F) / h) else f i) ∧ GB B w w' := by
  have hp := pow29 bits hb
  have hR := fun k => rootOf_in ws inv k (2 ^ bits) (by omega) hw
  refine (fMake_of bits s mo inv B F N h u n cap bw ow cw ws f (blockQuad bits s mo inv ws F h u f) (fun j k => rootOf ws inv (k * (j * u))) (fun j k => f (F + ((if k = 0 then 0 else if k = 1 then 2 else if k = 2 then 1 else 3) * h + j))) h1 hN hN64 hn hn64 hu hne hcap (fun j _ => ⟨rfl, rfl, rfl, rfl⟩)
    (Lib.hid fun j hj W hW => fAsked_c bits s mo inv bw ow n cw (j * u) ws hb hw hl ?_ hn64 W hW)
    (Lib.hid fun j hj W => fQuad_c (fun k => f (F + ((if k = 0 then 0 else if k = 1 then 2 else if k = 2 then 1 else 3) * h + j))) (fun k => rootOf ws inv (k * (j * u))) bits s mo inv hb hs m0 m1 (fun k hk => ?_) (fun k _ _ => hR _) W) w hv hbw hBw hy).mono ?_
  · have h2 : (j + 1) * u ≤ h * u := Nat.mul_le_mul_right _ hj
    rw [Nat.succ_mul] at h2
    rw [Nat.mul_assoc] at hn
    generalize j * u = x at *
    generalize h * u = y at *
    omega
  · refine hf _ ?_
    have := place_lt h (if k = 0 then 0 else if k = 1 then 2 else if k = 2 then 1 else 3) j (by split <;> (try split) <;> (try split) <;> omega) hj
    exact this
  · rintro e w' ⟨he, hr, hg⟩
    exact ⟨he, hr.eq (fun i _ => stp_end F h _ f i h1), hg⟩

/-- The first k blocks are done. -/
def doneTo (xs ws : List Gi) (h bits s : Nat) (mo : Int) (inv : Bool) (k i : Nat) : Gi := if i < 4 * h * k then fourAt xs ws h bits s mo inv i else xs.getD i ⟨0, 0⟩
theorem pass_nums4 (h u k n f : Nat) (hn : n = 4 * h * u) (hf : f = 4 * h * k) (hk : k < u) (hn64 : n ≤ 64) (h1 : 1 ≤ h) :
    (f : Int) < (n : Int) ∧ wrap64 (4 * (h : Int)) = ((4 * h : Nat) : Int) ∧ (f : Int) + ((4 * h : Nat) : Int) = ((f + 4 * h : Nat) : Int) ∧ f + 4 * h ≤ n ∧ f + 4 * h = 4 * h * (k + 1) ∧ ((f + 4 * h : Nat) : Int) ≤ (n : Int) ∧ f ≤ f + 4 * h ∧ ¬ f + 4 * h = f ∧ f + 4 * h - f = 4 * h := by
  have k1 : 4 * h * (k + 1) ≤ 4 * h * u := Nat.mul_le_mul_left _ hk
  have k2 : 4 * h * (k + 1) = f + 4 * h := by rw [Nat.mul_succ, hf]
  have k3 := wmul 4 h (by omega)
  exact ⟨by omega, k3, by omega, by omega, by omega, by omega, by omega, by omega, by omega⟩
theorem done_next (xs ws : List Gi) (h u bits s : Nat) (mo : Int) (inv : Bool) (k i : Nat) (h1 : 1 ≤ h) (hu : 1 ≤ u) (hn : xs.length = 4 * h * u) :
    (if 4 * h * k ≤ i ∧ i < 4 * h * k + 4 * h then blockQuad bits s mo inv ws (4 * h * k) h u (doneTo xs ws h bits s mo inv k) ((i - 4 * h * k) % h) ((i - 4 * h * k) / h) else doneTo xs ws h bits s mo inv k i) = doneTo xs ws h bits s mo inv (k + 1) i := by
  by_cases c : 4 * h * k ≤ i ∧ i < 4 * h * k + 4 * h
  · rw [if_pos c]
    have hd : ∀ x, doneTo xs ws h bits s mo inv k (4 * h * k + x) = xs.getD (4 * h * k + x) ⟨0, 0⟩ := fun x => by unfold doneTo; rw [if_neg (by omega)]
    have hu2 : xs.length / (4 * h) = u := by rw [hn]; exact Nat.mul_div_cancel_left _ (by omega)
    have hr : i - i % (4 * h) = 4 * h * k ∧ i % (4 * h) = i - 4 * h * k := by
      have e : i = 4 * h * k + (i - 4 * h * k) := by omega
      have e2 : i % (4 * h) = i - 4 * h * k := by
        rw [e, Nat.mul_add_mod, Nat.mod_eq_of_lt (by omega)]
        omega
      omega
    have hm : i % h = (i - 4 * h * k) % h := by
      have e : i = h * (4 * k) + (i - 4 * h * k) := by
        have : h * (4 * k) = 4 * h * k := by rw [Nat.mul_comm 4 h, Nat.mul_assoc]
        omega
      rw [show i % h = (h * (4 * k) + (i - 4 * h * k)) % h by rw [← e], Nat.mul_add_mod]
    have hg : doneTo xs ws h bits s mo inv (k + 1) i = fourAt xs ws h bits s mo inv i := by
      unfold doneTo
      rw [if_pos (by rw [Nat.mul_succ]; omega)]
    rw [hg]
    unfold blockQuad fourAt
    simp only [hd, hu2, hr.1, hm, Nat.one_mul, Nat.zero_mul, Nat.zero_add]
    simp only [Nat.mul_assoc, Nat.add_assoc]
  · rw [if_neg c]
    unfold doneTo
    rw [Nat.mul_succ]
    by_cases d : i < 4 * h * k
    · rw [if_pos d, if_pos (by omega)]
    · rw [if_neg d, if_neg (by omega)]


set_option maxHeartbeats 4000000 in
theorem fPass_bad (px pw : Option Addr) (cx cw : Nat) (xs ws : List Gi) (n m : Nat) (hh b s mo e : Int) (inv : Bool)
    (HE : Hid (∀ W, CxsAt W (.slice px n cx) xs → CxsAt W (.slice pw m cw) ws → Calls Try.prog 40 #[.agg #[.int .i64 b, .int .i64 s, .int .i64 mo, .bool inv], .slice px n cx, .slice pw m cw, .int .i64 hh] W fun e' w' => e' = .returned (.int .i64 e) ∧ Gr W w'))
    (he : (e != 0) = true) (w : World) (hvx : CxsAt w (.slice px n cx) xs) (hvw : CxsAt w (.slice pw m cw) ws) :
    Calls Try.prog 24 #[.slice px n cx, .slice pw m cw, .int .i64 hh, .int .i64 b, .int .i64 s, .int .i64 mo, .bool inv] w fun e' w' => e' = .returned (.tuple #[.slice none 0 0, .int .i64 e]) ∧ Gr w w' := by
  go_enter Try.func24, Try.ntmps24
  have g0 : Gr w (w.alloc (.cells #[.int .i64 b, .int .i64 s, .int .i64 mo, .bool inv] 63)) := (Gr.refl w).alloc _ _
  have VX := Lib.hid (hvx.gr g0)
  have VW := Lib.hid (hvw.gr g0)
  clear hvx hvw
  go_wp2_with fail
  refine (HE.out _ VX.out VW.out).mono ?_
  rintro e w1 ⟨rfl, g1⟩
  go_wp2_with fail
  go_ret2
  exact ⟨rfl, g0.trans g1⟩

set_option maxHeartbeats 8000000 in
theorem fPass_of (bx ox bw ow cx cw : Nat) (xs ws : List Gi) (n h u bits s : Nat) (mo : Int) (inv : Bool) (hl : xs.length = n) (hn : n = 4 * h * u) (h1 : 1 ≤ h) (hu : 1 ≤ u) (hn64 : n ≤ 64) (G : Nat → Nat → Gi) (hG0 : ∀ i, G 0 i = xs.getD i ⟨0, 0⟩)
    (HE : Hid (∀ W, CxsAt W (.slice (some ⟨bx, ox, none⟩) n cx) xs → CxsAt W (.slice (some ⟨bw, ow, none⟩) n cw) ws → Calls Try.prog 40 #[.agg #[.int .i64 bits, .int .i64 s, .int .i64 mo, .bool inv], .slice (some ⟨bx, ox, none⟩) n cx, .slice (some ⟨bw, ow, none⟩) n cw, .int .i64 h] W fun e' w' => e' = .returned (.int .i64 0) ∧ Gr W w'))
    (HM : Hid (∀ k, k < u → ∀ B W, bw ≠ B → CxsAt W (.slice (some ⟨bw, ow, none⟩) n cw) ws → bw < W.heap.size → RowAt W B 39 n (G k) →
      Calls Try.prog 41 #[.agg #[.int .i64 bits, .int .i64 s, .int .i64 mo, .bool inv], .slice (some ⟨B, 4 * h * k * 2, none⟩) (4 * h) (4 * h), .slice (some ⟨bw, ow, none⟩) n cw] W fun e w' => e = .returned (.tuple #[]) ∧ RowAt w' B 39 n (G (k + 1)) ∧ GB B W w'))
    (w : World) (hvx : CxsAt w (.slice (some ⟨bx, ox, none⟩) n cx) xs) (hvw : CxsAt w (.slice (some ⟨bw, ow, none⟩) n cw) ws) (hbw : bw < w.heap.size) :
    Calls Try.prog 24 #[.slice (some ⟨bx, ox, none⟩) n cx, .slice (some ⟨bw, ow, none⟩) n cw, .int .i64 h, .int .i64 bits, .int .i64 s, .int .i64 mo, .bool inv] w fun e w' => ∃ v', e = .returned (.tuple #[v', .int .i64 0]) ∧ CxsAt w' v' ((List.range n).map (G u)) ∧ Gr w w' := by
  have g0 : Gr w (w.alloc (.cells #[.int .i64 bits, .int .i64 s, .int .i64 mo, .bool inv] 63)) := (Gr.refl w).alloc _ _
  have VX := hvx.gr g0
  have VW := hvw.gr g0
  have R0 := CellsAt.new w 63 #[.int .i64 bits, .int .i64 s, .int .i64 mo, .bool inv]
  have hn1 : 1 ≤ n := by
    have : 4 * h * 1 ≤ 4 * h * u := Nat.mul_le_mul_left _ hu
    omega
  go_enter Try.func24, Try.ntmps24
  have hmk := run_make_cx n (by omega)
  have HNM := Lib.hid (And.intro hn (And.intro h1 hu))
  clear hn hvx hvw
  go_wp2_with fail
  refine (HE.out _ VX VW).mono ?_
  rintro e u1 ⟨rfl, g1⟩
  have VX1 := VX.gr g1
  have VW1 := VW.gr g1
  have R1 := R0.gr g1
  have gu1 := g0.trans g1
  obtain ⟨W2, hcp, hC2, hg2⟩ := copied_row u1 bx ox n cx xs hl hn1 VX1
  have W2R := R1.gr hg2
  have W2W := VW1.gr hg2
  have gw2 := gu1.trans hg2
  have hbb : w.heap.size < u1.heap.size := R1.lt
  have hwy : w.heap.size ≠ u1.heap.size := Nat.ne_of_lt R1.lt
  have hwB : bw ≠ u1.heap.size := Nat.ne_of_lt (Nat.lt_of_lt_of_le hbw gu1.size)
  have hzz : w.heap.size ≤ u1.heap.size := gu1.size
  clear VX VW R0 R1 VX1 VW1 g0 g1 gu1 hg2
  generalize hBy : u1.heap.size = By at *
  go_wp2_with fail
  go_loopw [19] (fun i wr => ∃ k f : Nat, k ≤ u ∧ f = 4 * h * k ∧ f ≤ n ∧ i = .int .i64 f ∧ RowAt wr By 39 n (G k) ∧ CellsAt wr w.heap.size 63 #[.int .i64 bits, .int .i64 s, .int .i64 mo, .bool inv] ∧ CxsAt wr (.slice (some ⟨bw, ow, none⟩) n cw) ws ∧ Gr w wr) (fun i _ => n - (intOf i).toNat)
  case atStart => exact ⟨0, 0, by omega, rfl, by omega, rfl, hC2.eq (fun i _ => (hG0 i).symm), W2R, W2W, gw2⟩
  case round =>
    clear hC2 W2R W2W gw2 hcp hmk
    obtain ⟨k, f, hk, hf, hfn, rfl, A0, R0, V0, gw⟩ := hrel
    have HF := Lib.hid hf
    obtain ⟨hn, h1, hu⟩ := HNM.out
    by_cases hlt : k < u
    · obtain ⟨q1, q2, q3, q4, q5, q6, q7, q8, q9⟩ := pass_nums4 h u k n f hn hf hlt hn64 h1
      have Q5 := Lib.hid q5
      clear q5
      clear hn h1 hu hf
      have HM1 := Lib.hid (HM.out k hlt)
      rw [← HF.out] at HM1
      generalize 4 * h = m at *
      generalize f + m = e at *
      go_wp2_with fail
      have KS : ∀ W, Gr wr W → (W.cell? ⟨w.heap.size, 0, none⟩ = some (.int .i64 bits) ∧ W.cell? ⟨w.heap.size, 1, none⟩ = some (.int .i64 s) ∧ W.cell? ⟨w.heap.size, 2, none⟩ = some (.int .i64 mo) ∧ W.cell? ⟨w.heap.size, 3, none⟩ = some (.bool inv) ∧ w.heap.size < W.heap.size) := fun W hG => ⟨(R0.gr hG).cell 0, (R0.gr hG).cell 1, (R0.gr hG).cell 2, (R0.gr hG).cell 3, Nat.lt_of_lt_of_le R0.lt hG.size⟩
      refine wp_region_held_drew (S := fun W => W.cell? ⟨w.heap.size, 0, none⟩ = some (.int .i64 bits) ∧ W.cell? ⟨w.heap.size, 1, none⟩ = some (.int .i64 s) ∧ W.cell? ⟨w.heap.size, 2, none⟩ = some (.int .i64 mo) ∧ W.cell? ⟨w.heap.size, 3, none⟩ = some (.bool inv) ∧ w.heap.size < W.heap.size) rfl (KS _ (Gr.drew (Gr.refl _))) (fun hS => ?_)
      refine wpAnyH_take (i := 0) (v := ?_) rfl (by kernel_rfl) (by kernel_rfl) (by kernel_rfl) (fun _ _ _ h => h) (Or.inl ⟨by rfl, ?_⟩) (by assumption) ?_
      rotate_left
      · (intro w hSw; (try dsimp only at hSw); go_split_ands; go_simp; try with_reducible rfl)
      try simp only [Act.put, List.setIfInBounds_toArray, List.set_cons_zero, List.set_cons_succ, List.getElem_toArray, List.getElem_cons_zero]
      refine wpAnyH_take (i := 1) (v := ?_) rfl (by kernel_rfl) (by kernel_rfl) (by kernel_rfl) (fun _ _ _ h => h) (Or.inl ⟨by rfl, ?_⟩) (by assumption) ?_
      rotate_left
      · (intro w hSw; (try dsimp only at hSw); go_split_ands; go_simp; try with_reducible rfl)
      try simp only [Act.put, List.setIfInBounds_toArray, List.set_cons_zero, List.set_cons_succ, List.getElem_toArray, List.getElem_cons_zero, List.getElem_cons_succ]
      refine wpAnyH_take (i := 2) (v := ?_) rfl (by kernel_rfl) (by kernel_rfl) (by kernel_rfl) (fun _ _ _ h => h) (Or.inl ⟨by rfl, ?_⟩) (by assumption) ?_
      rotate_left
      · (intro w hSw; (try dsimp only at hSw); go_split_ands; go_simp; try with_reducible rfl)
      try simp only [Act.put, List.setIfInBounds_toArray, List.set_cons_zero, List.set_cons_succ, List.getElem_toArray, List.getElem_cons_zero, List.getElem_cons_succ]
      refine wpAnyH_take (i := 3) (v := ?_) rfl (by kernel_rfl) (by kernel_rfl) (by kernel_rfl) (fun _ _ _ h => h) (Or.inl ⟨by rfl, ?_⟩) (by assumption) ?_
      rotate_left
      · (intro w hSw; (try dsimp only at hSw); go_split_ands; go_simp; try with_reducible rfl)
      try simp only [Act.put, List.setIfInBounds_toArray, List.set_cons_zero, List.set_cons_succ, List.getElem_toArray, List.getElem_cons_zero, List.getElem_cons_succ]
      refine wpAnyH_take (i := 4) (v := ?_) rfl (by kernel_rfl) (by kernel_rfl) (by kernel_rfl) (fun _ _ _ h => h) (Or.inl ⟨by rfl, ?_⟩) (by assumption) ?_
      rotate_left
      · (intro w hSw; (try dsimp only at hSw); go_split_ands; go_simp; try with_reducible rfl)
      try simp only [Act.put, List.setIfInBounds_toArray, List.set_cons_zero, List.set_cons_succ, List.getElem_toArray, List.getElem_cons_zero, List.getElem_cons_succ]
      refine wpAnyH_take (i := 5) (v := ?_) rfl (by kernel_rfl) (by kernel_rfl) (by kernel_rfl) (fun _ _ _ h => h) (Or.inl ⟨by rfl, ?_⟩) (by assumption) ?_
      rotate_left
      · (intro w hSw; (try dsimp only at hSw); go_split_ands; go_simp; try with_reducible rfl)
      try simp only [Act.put, List.setIfInBounds_toArray, List.set_cons_zero, List.set_cons_succ, List.getElem_toArray, List.getElem_cons_zero, List.getElem_cons_succ]
      refine wpAnyH_take (i := 6) (v := ?_) rfl (by kernel_rfl) (by kernel_rfl) (by kernel_rfl) (fun _ _ _ h => h) (Or.inl ⟨by rfl, ?_⟩) (by assumption) ?_
      rotate_left
      · (intro w hSw; (try dsimp only at hSw); go_split_ands; go_simp; try with_reducible rfl)
      try simp only [Act.put, List.setIfInBounds_toArray, List.set_cons_zero, List.set_cons_succ, List.getElem_toArray, List.getElem_cons_zero, List.getElem_cons_succ]
      refine wpAnyH_ready (rs := [7]) (by kernel_rfl) (by simp) ?_
      refine AllReadyH.cons rfl (fun K hK => ?_) AllReadyH.nil
      go_simp
      go_at_call 41
      with_reducible refine (HM1.out By _ hwB (V0.gr ((Gr.refl _).drew)) (Nat.lt_of_lt_of_le hbw (gw.drew).size) A0.drew).mono ?_
      rintro e' w3 ⟨rfl, A3, g3⟩
      have g3' : GB By wr w3 := (GB.drew (GB.refl By wr)).trans g3
      have R3 := g3'.cellsAt R0 hwy
      have V3 := g3'.cxs V0 hwB
      have gw3 := g3'.new gw hzz
      refine hK.out _ _ ?_ (fun hHeld => ?_)
      · (exact ⟨R3.cell 0, R3.cell 1, R3.cell 2, R3.cell 3, R3.lt⟩)
      clear hK K
      try simp only [Act.put, List.setIfInBounds_toArray, List.set_cons_zero, List.set_cons_succ, List.getElem_toArray, List.getElem_cons_zero, List.getElem_cons_succ]
      refine wpAnyH_done (by kernel_rfl) ?_ _
      clear KS A0 R0 V0 gw g3 g3' hS HM1
      go_wp2_with fail
      clear q2 q3
      go_roundw
      case rel => exact ⟨k + 1, e, hlt, Q5.out, q4, rfl, A3, R3, V3, gw3⟩
      case measure => simp [intOf]; omega
    · obtain rfl : k = u := by omega
      have hfn2 : f = n := by omega
      subst hfn2
      clear hn h1 hu hf
      go_wp2_with fail
      refine bodyPost_ret (v := .tuple #[.slice (some ⟨By, 0, none⟩) f f, .int .i64 0]) (by simp [results, Try.results24, go_sem]) rfl ⟨_, rfl, ?_, gw⟩
      have := A0.cxs 0 f f (by omega) (by omega) (by unfold maxLen; omega)
      simpa using this

end Go.Proofs.Ytomjldaonpjloaa
