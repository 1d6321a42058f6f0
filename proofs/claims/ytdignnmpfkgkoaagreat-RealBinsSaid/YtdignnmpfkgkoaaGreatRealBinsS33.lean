import Derived.Test.YtdignnmpfkgkoaaGreatRealBinsS32
namespace Go.Proofs.YtdignnmpfkgkoaaGreat
set_option maxHeartbeats 16000000
section
open Go.ChangeShapes Go.WideShapes Go.ChangeAt Go.RowKit
set_option linter.unusedVariables false
set_option linter.unusedSimpArgs false
set_option maxRecDepth 100000
set_option maxHeartbeats 16000000
theorem bits12_c (f b p : Int) (H : FB f b p) (w : World) : Calls Tryz.prog 42 #[f] w fun e w' => e = .returned (.int .i64 (b - 2)) ∧ w' = w := by
 have HB := kh (rbits_c f b p H)
 have hb : 15 ≤ b ∧ b ≤ 31 := by rcases H with ⟨_, rfl, _⟩ | ⟨_, rfl, _⟩ <;> omega
 clear H
 go_in
 go_wp2_with (go_at_call 76; refine (HB.out _).mono ?_; rintro e wz ⟨rfl, rfl⟩)
 go_ret
 exact ⟨rfl, rfl⟩
theorem rEvery_c (b o N cap F S cnt : Nat) (xs : List Gi) (hN64 : N ≤ 64) (hS1 : 1 ≤ S) (hS : S ≤ 64) (hcnt : ∀ q, F + S * q < N ↔ q < cnt) (hc32 : cnt ≤ 32) (hFS : F + S * cnt ≤ 200) (w : World) (hb : b < w.heap.size)
 (hC : ∀ j, j < N → w.cell? ⟨b, o + j * 2, none⟩ = some (.int .i64 (xs.getD j ⟨0, 0⟩).re) ∧ w.cell? ⟨b, o + j * 2 + 1, none⟩ = some (.int .i64 (xs.getD j ⟨0, 0⟩).im)) :
 Calls Tryz.prog 91 #[.slice (some ⟨b, o, none⟩) N cap, F, S] w fun e w' => ∃ v, e = .returned v ∧ CxsAt w' v ((List.range cnt).map (pick xs F S)) ∧ Gr w w' := by
 obtain ⟨i0, hi, hz0, hz1, hz2⟩ := info_parts info_cx
 have HC := kh hC
 have HCN := kh hcnt
 have HFS := kh hFS
 clear hC hcnt hFS
 go_in
 go_wp2_with fail
 have hs0 : ((w.alloc (.cells #[] 50)).ownsRow w.heap.size 50 2 (.slice (some ⟨w.heap.size, 0, none⟩) 0 0) 0 []) := World.ownsRow_made w #[] 0 (Nat.le_refl _) (by unfold maxLen; omega) (by simp)
 go_loopw [7, 8] (fun v i wr => ∃ q : Nat, q ≤ cnt ∧ i = .int .i64 ((F + S * q : Nat) : Int) ∧ wr.ownsRow w.heap.size 50 2 v q (gcells ((List.range q).map (pick xs F S))) ∧ Gr w wr)
  (fun _ i _ => 1000 - (intOf i).toNat)
 case atStart => exact ⟨0, by omega, rfl, hs0, (Gr.refl w).alloc _ _⟩
 case round =>
  clear hs0;obtain ⟨q, hq, rfl, hrow, hg⟩ := hrel
  by_cases hlt : q < cnt
  ·have hp := (HCN.out q).2 hlt
   have hcc := HC.out _ hp;have k0 := (hg.cell (p := ⟨b, _, none⟩) hb).trans hcc.1;have k1 := (hg.cell (p := ⟨b, _, none⟩) hb).trans hcc.2;have HSN := kh (pick_snoc xs F S q)
   have hsm : S * q ≤ S * cnt := Nat.mul_le_mul_left _ hq
   have hle := HFS.out
   have hn1 : F + S * (q + 1) = F + S * q + S := by rw [Nat.mul_succ]; omega
   have hsq : S * q + S ≤ S * cnt := by have := Nat.mul_le_mul_left S (show q + 1 ≤ cnt by omega); rwa [Nat.mul_succ] at this
   have HN1 := kh hn1
   have hp2 : ((F + S * q : Nat) : Int) < N := by omega
   have hp3 : F + S * q + S ≤ 200 := by omega
   have hpk : xs.getD (F + S * q) ⟨0, 0⟩ = pick xs F S q := rfl
   rw [hpk] at k0 k1;have hsz := hg.size;clear hcc hn1 hsm hle hsq hpk;generalize pick xs F S q = g at *;generalize F + S * q = p at *;obtain ⟨re, im⟩ := g
   simp only at k0 k1
   go_wp2_with (at_builtin; refine wpList_append_own_at _ rfl (.tmp 18) (.tmp 23) 25 rfl w.heap.size 50 i0 (.agg #[.int .i64 0, .int .i64 0]) 2 16 Tryz.underlying25 hi hz0 hz1 hz2 rfl (by decide) _ _ _ rfl (hrow.alloc _) ⟨wr.heap.size, 0, none⟩ 1 1 [.int .i64 re, .int .i64 im] rfl rfl (news_two _ _ _ _) (by simp [Value.oneCell']) (by unfold maxLen; omega) (by omega) (by simp; omega) ?_; intro v' w3 hown' hgrow _ hblk)
   have e : gcells ((List.range q).map (pick xs F S)) ++ [.int .i64 re, .int .i64 im] = gcells ((List.range (q + 1)).map (pick xs F S)) := by
    rw [HSN.out, gcells_snoc]
   rw [e] at hown';have hg3 := (hg.allocO _).grown hgrow (fun k e => (hrow.lt k e).1)
   go_roundw
   case rel => exact ⟨q + 1, by omega, by rw [HN1.out]; go_num, hown', hg3⟩
   case measure => simp [intOf]; omega
  ·obtain rfl : q = cnt := by omega
   have hp : ¬ F + S * q < N := fun k => Nat.lt_irrefl _ ((HCN.out q).1 k)
   have hp2 : (N : Int) ≤ ((F + S * q : Nat) : Int) := by omega
   clear hp HCN HC;generalize F + S * q = p at *;go_wp2_with fail
   go_ret
   exact ⟨_, rfl, CxsAt.of_row hrow, hg⟩
theorem rTwid12_c (log n f b p : Int) (l0 : 2 ≤ log) (l1 : log ≤ 6) (hn : n = 2 ^ log.toNat) (H : FB f b p) (w : World) :
 Calls Tryz.prog 47 #[log, f] w fun e w' => ∃ v, e = .returned v ∧ CxsAt w' v (rootsL n (56 - (b - 2)).toNat) ∧ Gr w w' := by
 have HB := kh (bits12_c f b p H)
 have hb : 15 ≤ b ∧ b ≤ 31 := by rcases H with ⟨_, rfl, _⟩ | ⟨_, rfl, _⟩ <;> omega
 have HT := kh (table07_c log n (b - 2) l0 l1 hn (by omega) (by omega))
 clear l0 l1 hn H
 go_in
 go_wp2_with (go_at_call 42; refine (HB.out _).mono ?_; rintro e wz ⟨rfl, hwz⟩; subst wz)
 refine (HT.out _).mono ?_
 rintro e w1 ⟨v, rfl, hx, g1⟩
 go_wp2_with fail
 go_ret
 exact ⟨_, rfl, hx, g1⟩
theorem rRun_0 (bits : Nat) (mo : Int) (inv : Bool) (pw px : Option Addr) (n cw cx : Nat) (xs : List Gi) (w : World) (hx : CxsAt w (.slice px 1 cx) xs) :
 Calls Tryz.prog 46 #[.slice px 1 cx, .slice pw n cw, bits, mo, inv] w fun e w' => ∃ v, e = .returned v ∧ CxsAt w' v xs ∧ Gr w w' := by
 go_in
 go_wp2_with fail
 go_ret
 exact ⟨_, rfl, hx, Gr.refl w⟩
theorem rRun_1 (bits : Nat) (mo : Int) (inv : Bool) (pw : Option Addr) (b o n cw cx : Nat) (a c s d p q : Gi) (HS : CR 82 #[.agg #[a.re, a.im], .agg #[c.re, c.im]] (.agg #[s.re, s.im])) (HL : CR 81 #[.agg #[a.re, a.im], .agg #[c.re, c.im]] (.agg #[d.re, d.im])) (HP : CR 85 #[.agg #[s.re, s.im], .int .i64 1, mo] (.agg #[p.re, p.im])) (HQ : CR 85 #[.agg #[d.re, d.im], .int .i64 1, mo] (.agg #[q.re, q.im])) (w : World) (hbw : b < w.heap.size)
 (k0 : w.cell? ⟨b, o, none⟩ = some (.int .i64 a.re)) (k1 : w.cell? ⟨b, o + 1, none⟩ = some (.int .i64 a.im)) (k2 : w.cell? ⟨b, o + 2, none⟩ = some (.int .i64 c.re)) (k3 : w.cell? ⟨b, o + 2 + 1, none⟩ = some (.int .i64 c.im)) :
 Calls Tryz.prog 46 #[.slice (some ⟨b, o, none⟩) 2 cx, .slice pw n cw, bits, mo, inv] w fun e w' => ∃ v, e = .returned v ∧ CxsAt w' v [p, q] ∧ Gr w w' := by
 go_in
 go_wp2_with fail
 have KS : ∀ W, Gr w W → (W.cell? ⟨b, o, none⟩ = some (.int .i64 a.re) ∧ W.cell? ⟨b, o + 1, none⟩ = some (.int .i64 a.im) ∧ W.cell? ⟨b, o + 2, none⟩ = some (.int .i64 c.re) ∧ W.cell? ⟨b, o + 2 + 1, none⟩ = some (.int .i64 c.im)) := fun W hG => ⟨(hG.cell (p := ⟨b, _, none⟩) hbw).trans k0, (hG.cell (p := ⟨b, _, none⟩) hbw).trans k1, (hG.cell (p := ⟨b, _, none⟩) hbw).trans k2, (hG.cell (p := ⟨b, _, none⟩) hbw).trans k3⟩
 have KSS := kh KS
 clear k0 k1 k2 k3
 have g00 := Gr.refl w
 have hclG := gr_closed w
 try simp only [List.append_eq, List.cons_append, List.nil_append]
 refine wp_region_grow (S := Gr w) rfl (Gr.drew (Gr.refl _)) ?_
 refine gT 0 hclG ?_
 refine gT 1 hclG ?_
 refine gK 2 hclG KS ?_
 refine gT 3 hclG ?_
 refine gT 4 hclG ?_
 refine gK 5 hclG KS ?_
 refine gC 6 hclG (fun W hS => HS.out W) ?_
 try simp only [Act.put, putS]
 refine gT 7 hclG ?_
 refine gC 8 hclG (fun W hS => HP.out W) ?_
 try simp only [Act.put, putS]
 refine gR 9 fun w1 g1 s1 K hK => ?_
 replace g1 := (Gr.drew (Gr.refl w)).trans g1
 have z1 := g00.trans g1
 clear g00 g1
 go_simp
 refine hK.out _ _ ?_ ?_
 ·exact Gr.alloc s1 _ _
 clear hK K
 try simp only [Act.put, putS]
 have hsz1 := s1.size
 refine gR 10 fun w2 g2 s2 K hK => ?_
 have ⟨Fup_2, lup_2⟩ := CellsAt.gl (CellsAt.new w1 50 #[.int .i64 0, .int .i64 0]) g2
 have z2 := (z1.alloc _ _).trans g2
 clear g2
 obtain ⟨mup0, mup1⟩ := Fup_2.f2
 obtain ⟨cup0, cup1⟩ := Fup_2.t2
 go_simp
 clear mup0 cup0 mup1 cup1
 refine hK.out _ _ ?_ ?_
 ·exact Gr.setCell (Gr.setCell s2 (by first | omega | (simp only; omega)) _) (by first | omega | (simp only; omega)) _
 clear hK K
 try simp only [Act.put, putS]
 refine wpG_done (by kernel_rfl) (fun w3 g3 => ?_) _
 have ⟨Fup_3, lup_3⟩ := CellsAt.gl (CellsAt.set2 (Fup_2) _ _) g3
 have z3 := ((z2.sc _).sc _).trans g3
 clear g3
 clear hclG KS
 go_wp2_with fail
 have KS := fun W (hG : Gr w3 W) => KSS.out W (z3.trans hG)
 have gkw3 := Gr.refl w3
 have hclG := gr_closed w3
 try simp only [List.append_eq, List.cons_append, List.nil_append]
 refine wp_region_grow (S := Gr w3) rfl (Gr.drew (Gr.refl _)) ?_
 refine gT 0 hclG ?_
 refine gT 1 hclG ?_
 refine gK 2 hclG KS ?_
 refine gT 3 hclG ?_
 refine gT 4 hclG ?_
 refine gK 5 hclG KS ?_
 refine gC 6 hclG (fun W hS => HL.out W) ?_
 try simp only [Act.put, putS]
 refine gT 7 hclG ?_
 refine gC 8 hclG (fun W hS => HQ.out W) ?_
 try simp only [Act.put, putS]
 refine gR 9 fun w4 g4 s4 K hK => ?_
 replace g4 := (Gr.drew (Gr.refl w3)).trans g4
 have ⟨Fup_4, lup_4⟩ := Fup_3.gl g4
 have z4 := z3.trans g4
 clear Fup_3 z3 g4
 go_simp
 refine hK.out _ _ ?_ ?_
 ·exact Gr.alloc s4 _ _
 clear hK K
 try simp only [Act.put, putS]
 have hsz4 := s4.size
 refine gR 10 fun w5 g5 s5 K hK => ?_
 have ⟨Fup_5, lup_5⟩ := CellsAt.gl (Fup_4.alloc _) g5
 have ⟨Fdn_5, ldn_5⟩ := CellsAt.gl (CellsAt.new w4 50 #[.int .i64 0, .int .i64 0]) g5
 have z5 := (z4.alloc _ _).trans g5
 clear g5
 obtain ⟨mdn0, mdn1⟩ := Fdn_5.f2
 obtain ⟨cdn0, cdn1⟩ := Fdn_5.t2
 go_simp
 clear mdn0 cdn0 mdn1 cdn1
 refine hK.out _ _ ?_ ?_
 ·exact Gr.setCell (Gr.setCell s5 (by first | omega | (simp only; omega)) _) (by first | omega | (simp only; omega)) _
 clear hK K
 try simp only [Act.put, putS]
 refine wpG_done (by kernel_rfl) (fun w6 g6 => ?_) _
 have ⟨Fup_6, lup_6⟩ := CellsAt.gl ((Fup_5.ot).ot) g6
 have ⟨Fdn_6, ldn_6⟩ := CellsAt.gl (CellsAt.set2 (Fdn_5) _ _) g6
 have z6 := ((z5.sc _).sc _).trans g6
 clear g6
 clear hclG KS
 obtain ⟨cup0, cup1⟩ := Fup_6.t2
 obtain ⟨cdn0, cdn1⟩ := Fdn_6.t2
 go_wp2_with fail
 clear cup0 cup1 cdn0 cdn1
 go_ret
 exact ⟨_, rfl, CxsAt.two (CellsAt.new _ 50 #[p.re, p.im, q.re, q.im]), z6.alloc _ _⟩
theorem round_nums (h u m n i : Nat) (hm : m = 4 * h) (hn : n = m * u) (h1 : 1 ≤ h) (hu : 1 ≤ u) (hm64 : m ≤ 64) (hn64 : n ≤ 64) (hi : i < m) :
 (i % h < h ∧ i / h < 4 ∧ i % h * u < n ∧ 3 * (i % h) * u < n ∧ h + i % h < 2 * h) ∧ ((m : Int) / 4 = h ∧ (m : Int).tdiv 4 = h ∧ (i : Int) % (h : Int) = ((i % h : Nat) : Int) ∧ (i : Int).tmod (h : Int) = ((i % h : Nat) : Int) ∧ (i : Int) / (h : Int) = ((i / h : Nat) : Int) ∧ (i : Int).tdiv (h : Int) = ((i / h : Nat) : Int)) ∧
 (IntKind.i64.wrap ((h : Int) + ((i % h : Nat) : Int)) = ((h + i % h : Nat) : Int) ∧ wrap64 (((i % h : Nat) : Int) * (u : Int)) = ((i % h * u : Nat) : Int) ∧ wrap64 (3 * ((i % h : Nat) : Int)) = ((3 * (i % h) : Nat) : Int) ∧ wrap64 (((3 * (i % h) : Nat) : Int) * (u : Int)) = ((3 * (i % h) * u : Nat) : Int)) := by
 have hk := Nat.mod_lt i (show 0 < h by omega)
 have hq : i / h < 4 := by rw [Nat.div_lt_iff_lt_mul (by omega)]; omega
 have k1 : (i % h + 1) * u ≤ h * u := Nat.mul_le_mul_right _ hk
 rw [Nat.succ_mul] at k1
 have k2 : n = 4 * (h * u) := by rw [hn, hm, Nat.mul_assoc]
 have k3 : 3 * (i % h) * u = 3 * (i % h * u) := Nat.mul_assoc _ _ _
 refine ⟨⟨hk, hq, by omega, by omega, by omega⟩, ⟨by omega, ?_, by simp, ?_, by simp, ?_⟩, iadd h (i % h) (by omega), wmul (i % h) u (by omega), wmul 3 (i % h) (by omega), wmul (3 * (i % h)) u (by omega)⟩
 ·rw [Int.tdiv_eq_ediv_of_nonneg (by omega)]; omega
 ·rw [Int.tmod_eq_emod_of_nonneg (by omega)]; simp
 ·rw [Int.tdiv_eq_ediv_of_nonneg (by omega)]; simp
end
section
open Go.ChangeShapes Go.WideShapes Go.ChangeAt Go.RowKit
set_option linter.unusedVariables false
set_option maxRecDepth 100000
set_option linter.unusedSimpArgs false
set_option maxHeartbeats 16000000
theorem prods11_of (a b c d u v x p q r z : Gi) (bits : Int)
 (HA : CR 83 #[.agg #[a.re, a.im], bits] (.agg #[p.re, p.im]))
 (HB : CR 84 #[.agg #[b.re, b.im], .agg #[u.re, u.im]] (.agg #[q.re, q.im]))
 (HC : CR 84 #[.agg #[c.re, c.im], .agg #[v.re, v.im]] (.agg #[r.re, r.im]))
 (HD : CR 84 #[.agg #[d.re, d.im], .agg #[x.re, x.im]] (.agg #[z.re, z.im])) (w : World) :
 CW 141 #[.agg #[a.re, a.im], .agg #[b.re, b.im], .agg #[c.re, c.im], .agg #[d.re, d.im], .agg #[u.re, u.im], .agg #[v.re, v.im], .agg #[x.re, x.im], bits] w (.agg #[p.re, p.im, q.re, q.im, r.re, r.im, z.re, z.im]) :=by
 delta CW
 go_in
 go_wp2_with fail
 obtain ⟨u0, hU⟩ : ∃ uu, uu = ((((((((w.alloc (.cells #[a.re, a.im] 50)).alloc (.cells #[b.re, b.im] 50)).alloc (.cells #[c.re, c.im] 50)).alloc (.cells #[d.re, d.im] 50)).alloc (.cells #[u.re, u.im] 50)).alloc (.cells #[v.re, v.im] 50)).alloc (.cells #[x.re, x.im] 50)).alloc (.cells #[.int .i64 0, .int .i64 0, .int .i64 0, .int .i64 0, .int .i64 0, .int .i64 0, .int .i64 0, .int .i64 0] 167)) := ⟨_, rfl⟩
 have ⟨gu, R0, R1, R2, R3, R4, R5, R6, R7⟩ := lay8 hU
 rw [← hU]
 clear hU
 have KS : ∀ W, Gr u0 W → (W.cell? ⟨w.heap.size, 0, none⟩ = some (.int .i64 (a).re) ∧ W.cell? ⟨w.heap.size, 1, none⟩ = some (.int .i64 (a).im) ∧ W.cell? ⟨w.heap.size + 1, 0, none⟩ = some (.int .i64 (b).re) ∧ W.cell? ⟨w.heap.size + 1, 1, none⟩ = some (.int .i64 (b).im) ∧ W.cell? ⟨w.heap.size + 1 + 1 + 1 + 1, 0, none⟩ = some (.int .i64 (u).re) ∧ W.cell? ⟨w.heap.size + 1 + 1 + 1 + 1, 1, none⟩ = some (.int .i64 (u).im) ∧ w.heap.size < W.heap.size ∧ w.heap.size + 1 < W.heap.size ∧ w.heap.size + 1 + 1 + 1 + 1 < W.heap.size) := fun W hG => ⟨(R0.gr hG).cell 0, (R0.gr hG).cell 1, (R1.gr hG).cell 0, (R1.gr hG).cell 1, (R4.gr hG).cell 0, (R4.gr hG).cell 1, Nat.lt_of_lt_of_le R0.lt hG.size, Nat.lt_of_lt_of_le R1.lt hG.size, Nat.lt_of_lt_of_le R4.lt hG.size⟩
 go_cut [17] from 18 to 24 (fun pv wx' => ∃ B : Nat, pv = .pointer (some ⟨B, 0, none⟩) ∧ u0.heap.size ≤ B ∧ CellsAt wx' B 167 #[p.re, p.im, q.re, q.im, .int .i64 0, .int .i64 0, .int .i64 0, .int .i64 0] ∧ Gr u0 wx')
 case first =>
  refine wp_region_held_drew (S := fun W => W.cell? ⟨w.heap.size, 0, none⟩ = some (.int .i64 (a).re) ∧ W.cell? ⟨w.heap.size, 1, none⟩ = some (.int .i64 (a).im) ∧ W.cell? ⟨w.heap.size + 1, 0, none⟩ = some (.int .i64 (b).re) ∧ W.cell? ⟨w.heap.size + 1, 1, none⟩ = some (.int .i64 (b).im) ∧ W.cell? ⟨w.heap.size + 1 + 1 + 1 + 1, 0, none⟩ = some (.int .i64 (u).re) ∧ W.cell? ⟨w.heap.size + 1 + 1 + 1 + 1, 1, none⟩ = some (.int .i64 (u).im) ∧ w.heap.size < W.heap.size ∧ w.heap.size + 1 < W.heap.size ∧ w.heap.size + 1 + 1 + 1 + 1 < W.heap.size) rfl (KS _ (Gr.drew (Gr.refl _))) (fun hS => ?_);refine hT 0 ?_;refine hT 1 ?_;refine hT 3 ?_;refine hT 4 ?_;refine wpAnyH_ready (rs := [2, 7]) (by kernel_rfl) (by simp) ?_;refine AllReadyH.cons rfl (fun K hK => ?_) (AllReadyH.cons rfl (fun K hK => ?_) AllReadyH.nil)
  ·go_simp
   go_at_call 83
   refine (HA.out _).mono ?_;rintro e w1 ⟨rfl, g1⟩;have x1 := (Gr.drew (Gr.refl u0)).trans g1;refine hK.out _ _ ?_ (fun hHeld => ?_)
   ·(exact KS _ x1)
   clear hK K hS;have hS := hHeld;clear hHeld
   try simp only [Act.put, putS]
   refine wpAnyH_ready (rs := [5, 7]) (by kernel_rfl) (by simp) ?_;refine AllReadyH.cons rfl (fun K hK => ?_) (AllReadyH.cons rfl (fun K hK => ?_) AllReadyH.nil)
   ·go_simp
    go_at_call 84
    refine (HB.out _).mono ?_;rintro e w2 ⟨rfl, g2⟩;have x2 := x1.trans g2;refine hK.out _ _ ?_ (fun hHeld => ?_)
    ·(exact KS _ x2)
    clear hK K hS;have hS := hHeld;clear hHeld
    try simp only [Act.put, putS]
    refine hT 6 ?_;refine hR 7 fun K hK => ?_
    go_simp
    have x3 := Gr.alloc (x2) #[.int .i64 0, .int .i64 0, .int .i64 0, .int .i64 0, .int .i64 0, .int .i64 0, .int .i64 0, .int .i64 0] 167
    have C3 : CellsAt (w2.alloc (.cells #[.int .i64 0, .int .i64 0, .int .i64 0, .int .i64 0, .int .i64 0, .int .i64 0, .int .i64 0, .int .i64 0] 167)) (w2.heap.size) 167 #[.int .i64 0, .int .i64 0, .int .i64 0, .int .i64 0, .int .i64 0, .int .i64 0, .int .i64 0, .int .i64 0] := CellsAt.new (w2) 167 #[.int .i64 0, .int .i64 0, .int .i64 0, .int .i64 0, .int .i64 0, .int .i64 0, .int .i64 0, .int .i64 0]
    refine hK.out _ _ ?_ (fun hHeld => ?_)
    ·(exact KS _ x3)
    clear hK K hS;have hS := hHeld;clear hHeld
    try simp only [Act.put, putS]
    have hBs : u0.heap.size ≤ w2.heap.size := by have hq := Gr.size (x2); exact hq
    refine hR 8 fun K hK => ?_
    go_simp
    have x4 := Gr.alloc (x2) #[p.re, p.im, q.re, q.im, .int .i64 0, .int .i64 0, .int .i64 0, .int .i64 0] 167;refine hK.out _ _ ?_ (fun hHeld => ?_)
    ·(exact KS _ x4)
    clear hK K hS;have hS := hHeld;clear hHeld
    try simp only [Act.put, putS]
    refine wpAnyH_done (by kernel_rfl) ?_ _;go_wp2_with fail
    go_meet
    case rel => exact ⟨_, rfl, hBs, CellsAt.new (w2) 167 #[p.re, p.im, q.re, q.im, .int .i64 0, .int .i64 0, .int .i64 0, .int .i64 0], x4⟩
   ·go_simp
    have x2 := Gr.alloc (x1) #[.int .i64 0, .int .i64 0, .int .i64 0, .int .i64 0, .int .i64 0, .int .i64 0, .int .i64 0, .int .i64 0] 167
    have C2 : CellsAt (w1.alloc (.cells #[.int .i64 0, .int .i64 0, .int .i64 0, .int .i64 0, .int .i64 0, .int .i64 0, .int .i64 0, .int .i64 0] 167)) (w1.heap.size) 167 #[.int .i64 0, .int .i64 0, .int .i64 0, .int .i64 0, .int .i64 0, .int .i64 0, .int .i64 0, .int .i64 0] := CellsAt.new (w1) 167 #[.int .i64 0, .int .i64 0, .int .i64 0, .int .i64 0, .int .i64 0, .int .i64 0, .int .i64 0, .int .i64 0]
    refine hK.out _ _ ?_ (fun hHeld => ?_)
    ·(exact KS _ x2)
    clear hK K hS;have hS := hHeld;clear hHeld
    try simp only [Act.put, putS]
    refine hR 5 fun K hK => ?_
    go_simp
    go_at_call 84
    refine (HB.out _).mono ?_;rintro e w3 ⟨rfl, g3⟩;have x3 := x2.trans g3;have C3 := C2.gr g3;refine hK.out _ _ ?_ (fun hHeld => ?_)
    ·(exact KS _ x3)
    clear hK K hS;have hS := hHeld;clear hHeld
    try simp only [Act.put, putS]
    refine hT 6 ?_;have lC := C3.lt;obtain ⟨fm0, fm1, fm2, fm3, fm4, fm5, fm6, fm7⟩ := C3.f8;obtain ⟨fc0, fc1, fc2, fc3, fc4, fc5, fc6, fc7⟩ := C3.t8;refine hR 8 fun K hK => ?_
    go_simp
    have hBs : u0.heap.size ≤ w1.heap.size := by have hq := Gr.size (x1); exact hq
    have x4 := Gr.setCell (Gr.setCell (Gr.setCell (Gr.setCell (Gr.setCell (Gr.setCell (Gr.setCell (Gr.setCell (x3) (a := ⟨w1.heap.size, 0, none⟩) hBs (.int .i64 (p).re)) (a := ⟨w1.heap.size, 1, none⟩) hBs (.int .i64 (p).im)) (a := ⟨w1.heap.size, 2, none⟩) hBs (.int .i64 (q).re)) (a := ⟨w1.heap.size, 3, none⟩) hBs (.int .i64 (q).im)) (a := ⟨w1.heap.size, 4, none⟩) hBs (.int .i64 0)) (a := ⟨w1.heap.size, 5, none⟩) hBs (.int .i64 0)) (a := ⟨w1.heap.size, 6, none⟩) hBs (.int .i64 0)) (a := ⟨w1.heap.size, 7, none⟩) hBs (.int .i64 0);have C4 := CellsAt.set8 (C3) (.int .i64 (p).re) (.int .i64 (p).im) (.int .i64 (q).re) (.int .i64 (q).im) (.int .i64 0) (.int .i64 0) (.int .i64 0) (.int .i64 0);refine hK.out _ _ ?_ (fun hHeld => ?_)
    ·(exact KS _ x4)
    clear hK K hS;have hS := hHeld;clear hHeld
    try simp only [Act.put, putS]
    refine wpAnyH_done (by kernel_rfl) ?_ _;go_wp2_with fail
    go_meet
    case rel => exact ⟨_, rfl, hBs, C4, x4⟩
  ·go_simp
   have x1 := Gr.alloc (Gr.drew (Gr.refl u0)) #[.int .i64 0, .int .i64 0, .int .i64 0, .int .i64 0, .int .i64 0, .int .i64 0, .int .i64 0, .int .i64 0] 167
   have C1 : CellsAt ((u0.drew).alloc (.cells #[.int .i64 0, .int .i64 0, .int .i64 0, .int .i64 0, .int .i64 0, .int .i64 0, .int .i64 0, .int .i64 0] 167)) (u0.heap.size) 167 #[.int .i64 0, .int .i64 0, .int .i64 0, .int .i64 0, .int .i64 0, .int .i64 0, .int .i64 0, .int .i64 0] := CellsAt.new (u0.drew) 167 #[.int .i64 0, .int .i64 0, .int .i64 0, .int .i64 0, .int .i64 0, .int .i64 0, .int .i64 0, .int .i64 0]
   refine hK.out _ _ ?_ (fun hHeld => ?_)
   ·(exact KS _ x1)
   clear hK K hS;have hS := hHeld;clear hHeld
   try simp only [Act.put, putS]
   refine hR 2 fun K hK => ?_
   go_simp
   go_at_call 83
   refine (HA.out _).mono ?_;rintro e w2 ⟨rfl, g2⟩;have x2 := x1.trans g2;have C2 := C1.gr g2;refine hK.out _ _ ?_ (fun hHeld => ?_)
   ·(exact KS _ x2)
   clear hK K hS;have hS := hHeld;clear hHeld
   try simp only [Act.put, putS]
   refine hR 5 fun K hK => ?_
   go_simp
   go_at_call 84
   refine (HB.out _).mono ?_;rintro e w3 ⟨rfl, g3⟩;have x3 := x2.trans g3;have C3 := C2.gr g3;refine hK.out _ _ ?_ (fun hHeld => ?_)
   ·(exact KS _ x3)
   clear hK K hS;have hS := hHeld;clear hHeld
   try simp only [Act.put, putS]
   refine hT 6 ?_;have lC := C3.lt;obtain ⟨fm0, fm1, fm2, fm3, fm4, fm5, fm6, fm7⟩ := C3.f8;obtain ⟨fc0, fc1, fc2, fc3, fc4, fc5, fc6, fc7⟩ := C3.t8;refine hR 8 fun K hK => ?_
   go_simp
   have hBs : u0.heap.size ≤ u0.heap.size := by have hq := Gr.size (Gr.drew (Gr.refl u0)); exact hq
   have x4 := Gr.setCell (Gr.setCell (Gr.setCell (Gr.setCell (Gr.setCell (Gr.setCell (Gr.setCell (Gr.setCell (x3) (a := ⟨u0.heap.size, 0, none⟩) hBs (.int .i64 (p).re)) (a := ⟨u0.heap.size, 1, none⟩) hBs (.int .i64 (p).im)) (a := ⟨u0.heap.size, 2, none⟩) hBs (.int .i64 (q).re)) (a := ⟨u0.heap.size, 3, none⟩) hBs (.int .i64 (q).im)) (a := ⟨u0.heap.size, 4, none⟩) hBs (.int .i64 0)) (a := ⟨u0.heap.size, 5, none⟩) hBs (.int .i64 0)) (a := ⟨u0.heap.size, 6, none⟩) hBs (.int .i64 0)) (a := ⟨u0.heap.size, 7, none⟩) hBs (.int .i64 0);have C4 := CellsAt.set8 (C3) (.int .i64 (p).re) (.int .i64 (p).im) (.int .i64 (q).re) (.int .i64 (q).im) (.int .i64 0) (.int .i64 0) (.int .i64 0) (.int .i64 0);refine hK.out _ _ ?_ (fun hHeld => ?_)
   ·(exact KS _ x4)
   clear hK K hS;have hS := hHeld;clear hHeld
   try simp only [Act.put, putS]
   refine wpAnyH_done (by kernel_rfl) ?_ _;go_wp2_with fail
   go_meet
   case rel => exact ⟨_, rfl, hBs, C4, x4⟩
 case rest =>
  obtain ⟨B, rfl, hB, hC, hG⟩ := hcut;have gw := gu.trans hG;have Q2 := R2.gr hG;have Q3 := R3.gr hG;have Q5 := R5.gr hG;have Q6 := R6.gr hG;have Q7 := R7.gr hG
  have hB7 : w.heap.size + 1 + 1 + 1 + 1 + 1 + 1 + 1 < B := Nat.lt_of_lt_of_le R7.lt hB
  have hBw : w.heap.size ≤ B := Nat.le_trans gu.size hB
  clear R0 R1 R2 R3 R4 R5 R6 R7 KS HA HB hB gu hG;have e0 := Q2.cell 0;have e1 := Q2.cell 1;have e2 := Q5.cell 0;have e3 := Q5.cell 1;have l2 := Q2.lt;have l5 := Q5.lt;simp only [getS] at e0 e1 e2 e3;go_wp2_with fail;refine (HC.out _).mono ?_;rintro e w4 ⟨rfl, g4⟩;replace hC := hC.gr g4;replace Q3 := Q3.gr g4;replace Q6 := Q6.gr g4;replace Q7 := Q7.gr g4;replace gw := gw.trans g4;clear e0 e1 e2 e3 l2 l5 Q2 Q5 g4 HC;have c4 := hC.cell 4;have c5 := hC.cell 5;have f4 := hC.frozen 4;have f5 := hC.frozen 5;have lB := hC.lt;simp only [getS] at c4 c5
  have hC5 : CellsAt ((w4.setCell ⟨B, 4, none⟩ (.int .i64 r.re)).setCell ⟨B, 5, none⟩ (.int .i64 r.im)) B 167 #[p.re, p.im, q.re, q.im, r.re, r.im, .int .i64 0, .int .i64 0] := by
   have := (hC.set 4 (.int .i64 r.re)).set 5 (.int .i64 r.im)
   simpa using this
  have S3 := (Q3.other (B' := B) (by omega) 4 (.int .i64 r.re)).other (B' := B) (by omega) 5 (.int .i64 r.im);have S6 := (Q6.other (B' := B) (by omega) 4 (.int .i64 r.re)).other (B' := B) (by omega) 5 (.int .i64 r.im);have S7 := (Q7.other (B' := B) (by omega) 4 (.int .i64 r.re)).other (B' := B) (by omega) 5 (.int .i64 r.im);have gw5 := (gw.setCell (a := ⟨B, 4, none⟩) hBw (.int .i64 r.re)).setCell (a := ⟨B, 5, none⟩) hBw (.int .i64 r.im);clear hC Q3 Q6 Q7 gw;have e0 := S3.cell 0;have e1 := S3.cell 1;have e2 := S6.cell 0;have e3 := S6.cell 1;have l2 := S3.lt;have l5 := S6.lt;simp only [getS] at e0 e1 e2 e3;go_wp2_with fail;refine (HD.out _).mono ?_;rintro e w6 ⟨rfl, g6⟩;replace hC5 := hC5.gr g6;replace S7 := S7.gr g6;replace gw5 := gw5.trans g6;clear e0 e1 e2 e3 l2 l5 S3 S6 g6 HD c4 c5 f4 f5 lB;have c4 := hC5.cell 6;have c5 := hC5.cell 7;have f4 := hC5.frozen 6;have f5 := hC5.frozen 7;have lB := hC5.lt;simp only [getS] at c4 c5
  have hC7 : CellsAt ((w6.setCell ⟨B, 6, none⟩ (.int .i64 z.re)).setCell ⟨B, 7, none⟩ (.int .i64 z.im)) B 167 #[p.re, p.im, q.re, q.im, r.re, r.im, z.re, z.im] := by
   have := (hC5.set 6 (.int .i64 z.re)).set 7 (.int .i64 z.im)
   simpa using this
  have U7 := (S7.other (B' := B) (by omega) 6 (.int .i64 z.re)).other (B' := B) (by omega) 7 (.int .i64 z.im);have gw7 := (gw5.setCell (a := ⟨B, 6, none⟩) hBw (.int .i64 z.re)).setCell (a := ⟨B, 7, none⟩) hBw (.int .i64 z.im);clear hC5 S7 gw5
  go_wp2_with (first | (refine wpList_load_row rfl 167 _ rfl (B) rfl 167 _ (0, 0) _ hC7 Tryz.underlying167 rfl (by kernel_rfl) ?_) | (refine wpList_store_row rfl 167 _ _ rfl (w.heap.size + 1 + 1 + 1 + 1 + 1 + 1 + 1) _ rfl rfl 167 _ U7 (by kernel_rfl) (by kernel_rfl) (by kernel_rfl) ?_))
  have R9 := U7.setRow #[p.re, p.im, q.re, q.im, r.re, r.im, z.re, z.im];refine bodyPost_ret (v := .agg #[p.re, p.im, q.re, q.im, r.re, r.im, z.re, z.im]) ?_ rfl ⟨rfl, gw7.setRow (by omega) _⟩
  exact results_cell_row rfl _ _ _ _ _ (0, 0) _ rfl R9 Tryz.underlying167 rfl (by kernel_rfl)
end
end Go.Proofs.YtdignnmpfkgkoaaGreat
