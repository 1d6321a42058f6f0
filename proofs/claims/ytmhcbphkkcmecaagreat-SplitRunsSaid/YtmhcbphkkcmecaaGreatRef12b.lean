/- What reference 12's Every, Half, Twiddles and Run answer. -/
import Derived.Test.YtmhcbphkkcmecaaGreatRef12
import Derived.Test.YtmhcbphkkcmecaaGreatRef07
import Derived.Test.YtmhcbphkkcmecaaGreatLaw12
import Derived.Deep.AppendLies
namespace Go.Proofs.YtmhcbphkkcmecaaGreat
open Go.ChangeShapes Go.WideShapes Go.ChangeAt Go.RowKit
set_option linter.unusedVariables false
set_option linter.unusedSimpArgs false
set_option maxRecDepth 100000


theorem bits12_c (f b p : Int) (H : FB f b p) (w : World) : Calls Tryz.prog 12 #[.int .i64 f] w fun e w' => e = .returned (.int .i64 (b - 2)) ∧ w' = w := by
  have HB := Lib.hid (rbits_c f b p H)
  have hb : 15 ≤ b ∧ b ≤ 31 := by rcases H with ⟨_, rfl, _⟩ | ⟨_, rfl, _⟩ <;> omega
  clear H
  go_enter Tryz.func12, Tryz.ntmps12
  go_wp2_with (go_at_call 29; refine (HB.out _).mono ?_; rintro e wz ⟨rfl, rfl⟩)
  go_ret
  exact ⟨rfl, rfl⟩


set_option maxHeartbeats 2000000 in
theorem rEvery_c (b o N cap F S cnt : Nat) (xs : List Gi) (hN64 : N ≤ 64) (hS1 : 1 ≤ S) (hS : S ≤ 64) (hcnt : ∀ q, F + S * q < N ↔ q < cnt) (hc32 : cnt ≤ 32) (hFS : F + S * cnt ≤ 200) (w : World) (hb : b < w.heap.size)
    (hC : ∀ j, j < N → w.cell? ⟨b, o + j * 2, none⟩ = some (.int .i64 (xs.getD j ⟨0, 0⟩).re) ∧ w.cell? ⟨b, o + j * 2 + 1, none⟩ = some (.int .i64 (xs.getD j ⟨0, 0⟩).im)) :
    Calls Tryz.prog 25 #[.slice (some ⟨b, o, none⟩) N cap, .int .i64 F, .int .i64 S] w fun e w' => ∃ v, e = .returned v ∧ CxsAt w' v ((List.range cnt).map (pick xs F S)) ∧ Gr w w' := by
  obtain ⟨i0, hi, hz0, hz1, hz2⟩ := info_parts info_cx
  have HC := Lib.hid hC
  have HCN := Lib.hid hcnt
  have HFS := Lib.hid hFS
  clear hC hcnt hFS
  go_enter Tryz.func25, Tryz.ntmps25
  go_wp2_with fail
  have hs0 : ((w.alloc (.cells #[] 42)).ownsRow w.heap.size 42 2 (.slice (some ⟨w.heap.size, 0, none⟩) 0 0) 0 []) := World.ownsRow_made w #[] 0 (Nat.le_refl _) (by unfold maxLen; omega) (by simp)
  go_loopw [7, 8] (fun v i wr => ∃ q : Nat, q ≤ cnt ∧ i = .int .i64 ((F + S * q : Nat) : Int) ∧ wr.ownsRow w.heap.size 42 2 v q (gcells ((List.range q).map (pick xs F S))) ∧ Gr w wr)
    (fun _ i _ => 1000 - (intOf i).toNat)
  case atStart => exact ⟨0, by omega, rfl, hs0, (Gr.refl w).alloc _ _⟩
  case round =>
    clear hs0
    obtain ⟨q, hq, rfl, hrow, hg⟩ := hrel
    by_cases hlt : q < cnt
    · have hp := (HCN.out q).2 hlt
      have hcc := HC.out _ hp
      have k0 := (hg.cell (p := ⟨b, _, none⟩) hb).trans hcc.1
      have k1 := (hg.cell (p := ⟨b, _, none⟩) hb).trans hcc.2
      have HSN := Lib.hid (pick_snoc xs F S q)
      have hsm : S * q ≤ S * cnt := Nat.mul_le_mul_left _ hq
      have hle := HFS.out
      have hn1 : F + S * (q + 1) = F + S * q + S := by rw [Nat.mul_succ]; omega
      have hsq : S * q + S ≤ S * cnt := by have := Nat.mul_le_mul_left S (show q + 1 ≤ cnt by omega); rwa [Nat.mul_succ] at this
      have HN1 := Lib.hid hn1
      have hp2 : ((F + S * q : Nat) : Int) < N := by omega
      have hp3 : F + S * q + S ≤ 200 := by omega
      have hpk : xs.getD (F + S * q) ⟨0, 0⟩ = pick xs F S q := rfl
      rw [hpk] at k0 k1
      have hsz := hg.size
      clear hcc hn1 hsm hle hsq hpk
      generalize pick xs F S q = g at *
      generalize F + S * q = p at *
      obtain ⟨re, im⟩ := g
      simp only at k0 k1
      go_wp2_with (at_builtin; refine wpList_append_own_at _ rfl (.tmp 18) (.tmp 23) 22 rfl w.heap.size 42 i0 (.agg #[.int .i64 0, .int .i64 0]) 2 16 Tryz.underlying22 hi hz0 hz1 hz2 rfl (by decide) _ _ _ rfl (hrow.alloc _) ⟨wr.heap.size, 0, none⟩ 1 1 [.int .i64 re, .int .i64 im] rfl rfl (news_two _ _ _ _) (by simp [Value.oneCell']) (by unfold maxLen; omega) (by omega) (by simp; omega) ?_; intro v' w3 hown' hgrow _ hblk)
      have e : gcells ((List.range q).map (pick xs F S)) ++ [.int .i64 re, .int .i64 im] = gcells ((List.range (q + 1)).map (pick xs F S)) := by
        rw [HSN.out, gcells_snoc]
      rw [e] at hown'
      have hg3 := (hg.allocO _).grown hgrow (fun k e => (hrow.lt k e).1)
      go_roundw
      case rel => exact ⟨q + 1, by omega, by rw [HN1.out]; go_num, hown', hg3⟩
      case measure => simp [intOf]; omega
    · obtain rfl : q = cnt := by omega
      have hp : ¬ F + S * q < N := fun k => Nat.lt_irrefl _ ((HCN.out q).1 k)
      have hp2 : (N : Int) ≤ ((F + S * q : Nat) : Int) := by omega
      clear hp HCN HC
      generalize F + S * q = p at *
      go_wp2_with fail
      go_ret
      exact ⟨_, rfl, CxsAt.of_row hrow, hg⟩

set_option maxHeartbeats 2000000 in
theorem rHalf_c (v : Value) (xs : List Gi) (f b p l : Int) (H : FB f b p) (hl : l = p / 2) (w : World) (hv : CxsAt w v xs) :
    Calls Tryz.prog 8 #[v, .int .i64 f] w fun e w' => e = .returned (.bool (allIn l xs)) ∧ Gr w w' := by
  have HO := Lib.hid fun W => calls_gr (rone_c f b p H W)
  have hq : p.tdiv 2 = l ∧ 0 ≤ l ∧ l ≤ 1073741824 := by rcases H with ⟨_, _, rfl⟩ | ⟨_, _, rfl⟩ <;> subst hl <;> decide
  obtain ⟨hq, hl0, hl1⟩ := hq
  have hq2 : p / 2 = l := hl.symm
  have hp0 : 0 ≤ p := by rcases H with ⟨_, _, rfl⟩ | ⟨_, _, rfl⟩ <;> decide
  clear H hl
  by_cases hx : xs = []
  · subst hx
    obtain ⟨p, cap, rfl⟩ := hv.len
    rw [show ([] : List Gi).length = 0 from rfl]
    clear hv
    go_enter Tryz.func8, Tryz.ntmps8
    go_wp2_with fail
    refine wp_loop_rounds 1 ?_
    rw [rounds_succ]
    go_wp2_with fail
    go_ret
    exact ⟨rfl, Gr.refl _⟩
  · obtain ⟨b, o, cap, rfl, hlen, hb, hc⟩ := hv.at hx
    have HC := Lib.hid hc
    have HN := Lib.hid fun (k : Nat) (a : Gi) (h : xs[k]? = some a) => allIn_no (l := l) h
    have HS := Lib.hid fun (k : Nat) (a : Gi) (h : xs[k]? = some a) => allIn_snoc (l := l) h
    have HAL : allIn l (xs.take xs.length) = allIn l xs := by rw [List.take_length]
    clear hc hv hx
    go_enter Tryz.func8, Tryz.ntmps8
    go_wp2_with fail
    go_loopw [6, 9] (fun _ i wr => ∃ k : Nat, k ≤ xs.length ∧ i = .int .i64 k ∧ allIn l (xs.take k) = true ∧ Gr w wr) (fun _ i _ => xs.length - (intOf i).toNat)
    case atStart => exact ⟨0, Nat.zero_le _, rfl, rfl, Gr.refl _⟩
    case round =>
      obtain ⟨k, hk, rfl, hall, hg⟩ := hrel
      by_cases hlt : k < xs.length
      · obtain ⟨x, hx⟩ := get_of_lt hlt
        have h1 := (hg.cell (p := ⟨b, o + k * 2, none⟩) hb).trans (HC.out k x hx).1
        have h2 := (hg.cell (p := ⟨b, o + k * 2 + 1, none⟩) hb).trans (HC.out k x hx).2
        have hbl : b < wr.heap.size := Nat.lt_of_lt_of_le hb hg.size
        have HW := Lib.hid (rwithin_c x.re x.im l (by omega) (by omega))
        have HN1 := Lib.hid (HN.out k x hx)
        have HS1 := Lib.hid (HS.out k x hx hall)
        obtain ⟨re, im⟩ := x
        simp only at h1 h2 HW HN1 HS1
        generalize (inB l re && inB l im) = q at HW HN1 HS1
        clear hx hall HAL HN HS HC
        go_wp2_with fail
        have A0 := CellsAt.new wr 42 #[.int .i64 re, .int .i64 im]
        have gu := hg.alloc #[.int .i64 re, .int .i64 im] 42
        generalize wr.alloc (.cells #[.int .i64 re, .int .i64 im] 42) = u7 at *
        generalize wr.heap.size = B7 at *
        have KS : ∀ W, Gr u7 W → (W.cell? ⟨B7, 0, none⟩ = some (.int .i64 re) ∧ W.cell? ⟨B7, 1, none⟩ = some (.int .i64 im)) := fun W hG => ⟨(A0.gr hG).cell 0, (A0.gr hG).cell 1⟩
        have hwl : IntKind.i64.wrap l = l := IntWalk.i64_in _ ⟨by omega, by omega⟩
        clear h1 h2 hg
        have hclG := gr_closed u7
        try simp only [List.append_eq, List.cons_append, List.nil_append]
        refine wp_region_grow (S := Gr u7) rfl (Gr.drew (Gr.refl _)) ?_
        refine wpG_take (i := 0) (v := ?_) hclG rfl (by kernel_rfl) (by kernel_rfl) (by kernel_rfl) (fun _ _ _ h => h) (by rfl) ?_ ?_
        rotate_left
        · (intro w' hSw; have hk := KS w' hSw; go_split_ands; go_simp; try with_reducible rfl)
        try simp only [Act.put, List.setIfInBounds_toArray, List.set_cons_zero, List.set_cons_succ, List.getElem_toArray, List.getElem_cons_zero, List.getElem_cons_succ]
        refine wpG_take (i := 1) (v := ?_) hclG rfl (by kernel_rfl) (by kernel_rfl) (by kernel_rfl) (fun _ _ _ h => h) (by rfl) ?_ ?_
        rotate_left
        · (intro w' hSw; go_simp; try with_reducible rfl)
        try simp only [Act.put, List.setIfInBounds_toArray, List.set_cons_zero, List.set_cons_succ, List.getElem_toArray, List.getElem_cons_zero, List.getElem_cons_succ]
        refine wpG_call (i := 2) hclG rfl (by kernel_rfl) (by kernel_rfl) (by kernel_rfl) (fun _ _ _ h => h) (fun W hS => HO.out W) (by rfl) ?_ ?_
        · (intro w' hSw; go_simp; try with_reducible rfl)
        try simp only [Act.put, List.setIfInBounds_toArray, List.set_cons_zero, List.set_cons_succ, List.getElem_toArray, List.getElem_cons_zero, List.getElem_cons_succ]
        refine wpG_take (i := 3) (v := ?_) hclG rfl (by kernel_rfl) (by kernel_rfl) (by kernel_rfl) (fun _ _ _ h => h) (by rfl) ?_ ?_
        rotate_left
        · (intro w' hSw; go_simp; try with_reducible rfl)
        try simp only [Act.put, List.setIfInBounds_toArray, List.set_cons_zero, List.set_cons_succ, List.getElem_toArray, List.getElem_cons_zero, List.getElem_cons_succ]
        refine wpG_call (i := 4) hclG rfl (by kernel_rfl) (by kernel_rfl) (by kernel_rfl) (fun _ _ _ h => h) (fun W hS => HW.out W) (by rfl) ?_ ?_
        · (intro w' hSw; go_simp; try with_reducible rfl)
        try simp only [Act.put, List.setIfInBounds_toArray, List.set_cons_zero, List.set_cons_succ, List.getElem_toArray, List.getElem_cons_zero, List.getElem_cons_succ]
        refine wpG_take (i := 5) (v := ?_) hclG rfl (by kernel_rfl) (by kernel_rfl) (by kernel_rfl) (fun _ _ _ h => h) (by rfl) ?_ ?_
        rotate_left
        · (intro w' hSw; go_simp; try with_reducible rfl)
        try simp only [Act.put, List.setIfInBounds_toArray, List.set_cons_zero, List.set_cons_succ, List.getElem_toArray, List.getElem_cons_zero, List.getElem_cons_succ]
        refine wpG_done (by kernel_rfl) (fun w8 g8 => ?_) _
        have g9 := gu.trans ((Gr.drew (Gr.refl u7)).trans g8)
        clear KS hclG gu g8 A0 hwl
        cases q
        · have HN2 := Lib.hid (HN1.out rfl)
          clear HN1 HS1
          go_wp2_with fail
          go_ret
          exact ⟨by rw [HN2.out]; rfl, g9⟩
        · have HS2 := Lib.hid (HS1.out rfl)
          clear HN1 HS1
          go_wp2_with fail
          go_roundw
          case rel => exact ⟨k + 1, by omega, by go_num, HS2.out, g9⟩
          case measure => simp [intOf]; omega
      · obtain rfl : k = xs.length := by omega
        rw [HAL] at hall
        have HL := Lib.hid hall
        clear hall HAL
        go_wp2_with fail
        go_ret
        exact ⟨by rw [HL.out]; rfl, hg⟩

theorem rTwid12_c (log n f b p : Int) (l0 : 2 ≤ log) (l1 : log ≤ 6) (hn : n = 2 ^ log.toNat) (H : FB f b p) (w : World) :
    Calls Tryz.prog 11 #[.int .i64 log, .int .i64 f] w fun e w' => ∃ v, e = .returned v ∧ CxsAt w' v (rootsL n (56 - (b - 2)).toNat) ∧ Gr w w' := by
  have HB := Lib.hid (bits12_c f b p H)
  have hb : 15 ≤ b ∧ b ≤ 31 := by rcases H with ⟨_, rfl, _⟩ | ⟨_, rfl, _⟩ <;> omega
  have HT := Lib.hid (table07_c log n (b - 2) l0 l1 hn (by omega) (by omega))
  clear l0 l1 hn H
  go_enter Tryz.func11, Tryz.ntmps11
  go_wp2_with (go_at_call 12; refine (HB.out _).mono ?_; rintro e wz ⟨rfl, hwz⟩; subst wz)
  refine (HT.out _).mono ?_
  rintro e w1 ⟨v, rfl, hx, g1⟩
  go_wp2_with fail
  go_ret
  exact ⟨_, rfl, hx, g1⟩


set_option maxHeartbeats 2000000 in
theorem rRun_0 (bits : Nat) (mo : Int) (inv : Bool) (pw px : Option Addr) (n cw cx : Nat) (xs : List Gi) (w : World) (hx : CxsAt w (.slice px 1 cx) xs) :
    Calls Tryz.prog 10 #[.slice px 1 cx, .slice pw n cw, .int .i64 bits, .int .i64 mo, .bool inv] w fun e w' => ∃ v, e = .returned v ∧ CxsAt w' v xs ∧ Gr w w' := by
  go_enter Tryz.func10, Tryz.ntmps10
  go_wp2_with fail
  go_ret
  exact ⟨_, rfl, hx, Gr.refl w⟩


set_option maxHeartbeats 4000000 in
theorem rRun_1 (bits : Nat) (mo : Int) (inv : Bool) (pw : Option Addr) (b o n cw cx : Nat) (a c s d p q : Gi) (HS : Hid (∀ W, Calls Tryz.prog 23 #[.agg #[.int .i64 (a).re, .int .i64 (a).im], .agg #[.int .i64 (c).re, .int .i64 (c).im]] W fun e w' => e = .returned (.agg #[.int .i64 (s).re, .int .i64 (s).im]) ∧ Gr W w')) (HL : Hid (∀ W, Calls Tryz.prog 24 #[.agg #[.int .i64 (a).re, .int .i64 (a).im], .agg #[.int .i64 (c).re, .int .i64 (c).im]] W fun e w' => e = .returned (.agg #[.int .i64 (d).re, .int .i64 (d).im]) ∧ Gr W w')) (HP : Hid (∀ W, Calls Tryz.prog 22 #[.agg #[.int .i64 (s).re, .int .i64 (s).im], .int .i64 1, .int .i64 mo] W fun e w' => e = .returned (.agg #[.int .i64 (p).re, .int .i64 (p).im]) ∧ Gr W w')) (HQ : Hid (∀ W, Calls Tryz.prog 22 #[.agg #[.int .i64 (d).re, .int .i64 (d).im], .int .i64 1, .int .i64 mo] W fun e w' => e = .returned (.agg #[.int .i64 (q).re, .int .i64 (q).im]) ∧ Gr W w')) (w : World) (hbw : b < w.heap.size)
    (k0 : w.cell? ⟨b, o, none⟩ = some (.int .i64 a.re)) (k1 : w.cell? ⟨b, o + 1, none⟩ = some (.int .i64 a.im)) (k2 : w.cell? ⟨b, o + 2, none⟩ = some (.int .i64 c.re)) (k3 : w.cell? ⟨b, o + 2 + 1, none⟩ = some (.int .i64 c.im)) :
    Calls Tryz.prog 10 #[.slice (some ⟨b, o, none⟩) 2 cx, .slice pw n cw, .int .i64 bits, .int .i64 mo, .bool inv] w fun e w' => ∃ v, e = .returned v ∧ CxsAt w' v [p, q] ∧ Gr w w' := by
  go_enter Tryz.func10, Tryz.ntmps10
  go_wp2_with fail
  have KS : ∀ W, Gr w W → (W.cell? ⟨b, o, none⟩ = some (.int .i64 a.re) ∧ W.cell? ⟨b, o + 1, none⟩ = some (.int .i64 a.im) ∧ W.cell? ⟨b, o + 2, none⟩ = some (.int .i64 c.re) ∧ W.cell? ⟨b, o + 2 + 1, none⟩ = some (.int .i64 c.im)) := fun W hG => ⟨(hG.cell (p := ⟨b, _, none⟩) hbw).trans k0, (hG.cell (p := ⟨b, _, none⟩) hbw).trans k1, (hG.cell (p := ⟨b, _, none⟩) hbw).trans k2, (hG.cell (p := ⟨b, _, none⟩) hbw).trans k3⟩
  have KSS := Lib.hid KS
  clear k0 k1 k2 k3
  have g00 := Gr.refl w
  have hclG := gr_closed w
  try simp only [List.append_eq, List.cons_append, List.nil_append]
  refine wp_region_grow (S := Gr w) rfl (Gr.drew (Gr.refl _)) ?_
  refine wpG_take (i := 0) (v := ?_) hclG rfl (by kernel_rfl) (by kernel_rfl) (by kernel_rfl) (fun _ _ _ h => h) (by rfl) ?_ ?_
  rotate_left
  · (intro w' hSw; go_simp; try with_reducible rfl)
  try simp only [Act.put, List.setIfInBounds_toArray, List.set_cons_zero, List.set_cons_succ, List.getElem_toArray, List.getElem_cons_zero, List.getElem_cons_succ]
  refine wpG_take (i := 1) (v := ?_) hclG rfl (by kernel_rfl) (by kernel_rfl) (by kernel_rfl) (fun _ _ _ h => h) (by rfl) ?_ ?_
  rotate_left
  · (intro w' hSw; go_simp; try with_reducible rfl)
  try simp only [Act.put, List.setIfInBounds_toArray, List.set_cons_zero, List.set_cons_succ, List.getElem_toArray, List.getElem_cons_zero, List.getElem_cons_succ]
  refine wpG_take (i := 2) (v := ?_) hclG rfl (by kernel_rfl) (by kernel_rfl) (by kernel_rfl) (fun _ _ _ h => h) (by rfl) ?_ ?_
  rotate_left
  · (intro w' hSw; have hk := KS w' hSw; go_split_ands; go_simp; try with_reducible rfl)
  try simp only [Act.put, List.setIfInBounds_toArray, List.set_cons_zero, List.set_cons_succ, List.getElem_toArray, List.getElem_cons_zero, List.getElem_cons_succ]
  refine wpG_take (i := 3) (v := ?_) hclG rfl (by kernel_rfl) (by kernel_rfl) (by kernel_rfl) (fun _ _ _ h => h) (by rfl) ?_ ?_
  rotate_left
  · (intro w' hSw; go_simp; try with_reducible rfl)
  try simp only [Act.put, List.setIfInBounds_toArray, List.set_cons_zero, List.set_cons_succ, List.getElem_toArray, List.getElem_cons_zero, List.getElem_cons_succ]
  refine wpG_take (i := 4) (v := ?_) hclG rfl (by kernel_rfl) (by kernel_rfl) (by kernel_rfl) (fun _ _ _ h => h) (by rfl) ?_ ?_
  rotate_left
  · (intro w' hSw; go_simp; try with_reducible rfl)
  try simp only [Act.put, List.setIfInBounds_toArray, List.set_cons_zero, List.set_cons_succ, List.getElem_toArray, List.getElem_cons_zero, List.getElem_cons_succ]
  refine wpG_take (i := 5) (v := ?_) hclG rfl (by kernel_rfl) (by kernel_rfl) (by kernel_rfl) (fun _ _ _ h => h) (by rfl) ?_ ?_
  rotate_left
  · (intro w' hSw; have hk := KS w' hSw; go_split_ands; go_simp; try with_reducible rfl)
  try simp only [Act.put, List.setIfInBounds_toArray, List.set_cons_zero, List.set_cons_succ, List.getElem_toArray, List.getElem_cons_zero, List.getElem_cons_succ]
  refine wpG_call (i := 6) hclG rfl (by kernel_rfl) (by kernel_rfl) (by kernel_rfl) (fun _ _ _ h => h) (fun W hS => HS.out W) (by rfl) ?_ ?_
  · (intro w' hSw; go_simp; try with_reducible rfl)
  try simp only [Act.put, List.setIfInBounds_toArray, List.set_cons_zero, List.set_cons_succ, List.getElem_toArray, List.getElem_cons_zero, List.getElem_cons_succ]
  refine wpG_take (i := 7) (v := ?_) hclG rfl (by kernel_rfl) (by kernel_rfl) (by kernel_rfl) (fun _ _ _ h => h) (by rfl) ?_ ?_
  rotate_left
  · (intro w' hSw; go_simp; try with_reducible rfl)
  try simp only [Act.put, List.setIfInBounds_toArray, List.set_cons_zero, List.set_cons_succ, List.getElem_toArray, List.getElem_cons_zero, List.getElem_cons_succ]
  refine wpG_call (i := 8) hclG rfl (by kernel_rfl) (by kernel_rfl) (by kernel_rfl) (fun _ _ _ h => h) (fun W hS => HP.out W) (by rfl) ?_ ?_
  · (intro w' hSw; go_simp; try with_reducible rfl)
  try simp only [Act.put, List.setIfInBounds_toArray, List.set_cons_zero, List.set_cons_succ, List.getElem_toArray, List.getElem_cons_zero, List.getElem_cons_succ]
  refine wpG_ready (rs := [9]) (by kernel_rfl) (by simp) (fun w1 g1 s1 => ?_)
  refine AllG.cons rfl (fun K hK => ?_) AllG.nil
  replace g1 := (Gr.drew (Gr.refl w)).trans g1
  have z1 := (g00).trans g1
  clear g00 g1
  go_simp
  refine hK.out _ _ ?_ ?_
  · exact Gr.alloc s1 _ _
  clear hK K
  try simp only [Act.put, List.setIfInBounds_toArray, List.set_cons_zero, List.set_cons_succ, List.getElem_toArray, List.getElem_cons_zero, List.getElem_cons_succ]
  have hsz1 := s1.size
  refine wpG_ready (rs := [10]) (by kernel_rfl) (by simp) (fun w2 g2 s2 => ?_)
  refine AllG.cons rfl (fun K hK => ?_) AllG.nil
  have Fup_2 := CellsAt.gr (CellsAt.new w1 42 #[.int .i64 0, .int .i64 0]) g2
  have lup_2 := CellsAt.lt (Fup_2)
  have z2 := ((z1).alloc _ _).trans g2
  clear g2
  have mup0 := CellsAt.frozen (Fup_2) 0
  have cup0 := CellsAt.cell (Fup_2) 0
  simp only [List.getElem?_toArray, List.getElem?_cons_zero, List.getElem?_cons_succ] at cup0
  have mup1 := CellsAt.frozen (Fup_2) 1
  have cup1 := CellsAt.cell (Fup_2) 1
  simp only [List.getElem?_toArray, List.getElem?_cons_zero, List.getElem?_cons_succ] at cup1
  go_simp
  clear mup0 cup0 mup1 cup1
  refine hK.out _ _ ?_ ?_
  · exact Gr.setCell (Gr.setCell s2 (by first | omega | (simp only; omega)) _) (by first | omega | (simp only; omega)) _
  clear hK K
  try simp only [Act.put, List.setIfInBounds_toArray, List.set_cons_zero, List.set_cons_succ, List.getElem_toArray, List.getElem_cons_zero, List.getElem_cons_succ]
  refine wpG_done (by kernel_rfl) (fun w3 g3 => ?_) _
  have Fup_3 := CellsAt.gr (CellsAt.set2 (Fup_2) _ _) g3
  have lup_3 := CellsAt.lt (Fup_3)
  have z3 := (((z2).setCell (by first | omega | (simp only; omega)) _).setCell (by first | omega | (simp only; omega)) _).trans g3
  clear g3
  clear hclG KS
  go_wp2_with fail
  have KS := fun W (hG : Gr w3 W) => KSS.out W ((z3).trans hG)
  have gkw3 := Gr.refl w3
  have hclG := gr_closed w3
  try simp only [List.append_eq, List.cons_append, List.nil_append]
  refine wp_region_grow (S := Gr w3) rfl (Gr.drew (Gr.refl _)) ?_
  refine wpG_take (i := 0) (v := ?_) hclG rfl (by kernel_rfl) (by kernel_rfl) (by kernel_rfl) (fun _ _ _ h => h) (by rfl) ?_ ?_
  rotate_left
  · (intro w' hSw; go_simp; try with_reducible rfl)
  try simp only [Act.put, List.setIfInBounds_toArray, List.set_cons_zero, List.set_cons_succ, List.getElem_toArray, List.getElem_cons_zero, List.getElem_cons_succ]
  refine wpG_take (i := 1) (v := ?_) hclG rfl (by kernel_rfl) (by kernel_rfl) (by kernel_rfl) (fun _ _ _ h => h) (by rfl) ?_ ?_
  rotate_left
  · (intro w' hSw; go_simp; try with_reducible rfl)
  try simp only [Act.put, List.setIfInBounds_toArray, List.set_cons_zero, List.set_cons_succ, List.getElem_toArray, List.getElem_cons_zero, List.getElem_cons_succ]
  refine wpG_take (i := 2) (v := ?_) hclG rfl (by kernel_rfl) (by kernel_rfl) (by kernel_rfl) (fun _ _ _ h => h) (by rfl) ?_ ?_
  rotate_left
  · (intro w' hSw; have hk := KS w' hSw; go_split_ands; go_simp; try with_reducible rfl)
  try simp only [Act.put, List.setIfInBounds_toArray, List.set_cons_zero, List.set_cons_succ, List.getElem_toArray, List.getElem_cons_zero, List.getElem_cons_succ]
  refine wpG_take (i := 3) (v := ?_) hclG rfl (by kernel_rfl) (by kernel_rfl) (by kernel_rfl) (fun _ _ _ h => h) (by rfl) ?_ ?_
  rotate_left
  · (intro w' hSw; go_simp; try with_reducible rfl)
  try simp only [Act.put, List.setIfInBounds_toArray, List.set_cons_zero, List.set_cons_succ, List.getElem_toArray, List.getElem_cons_zero, List.getElem_cons_succ]
  refine wpG_take (i := 4) (v := ?_) hclG rfl (by kernel_rfl) (by kernel_rfl) (by kernel_rfl) (fun _ _ _ h => h) (by rfl) ?_ ?_
  rotate_left
  · (intro w' hSw; go_simp; try with_reducible rfl)
  try simp only [Act.put, List.setIfInBounds_toArray, List.set_cons_zero, List.set_cons_succ, List.getElem_toArray, List.getElem_cons_zero, List.getElem_cons_succ]
  refine wpG_take (i := 5) (v := ?_) hclG rfl (by kernel_rfl) (by kernel_rfl) (by kernel_rfl) (fun _ _ _ h => h) (by rfl) ?_ ?_
  rotate_left
  · (intro w' hSw; have hk := KS w' hSw; go_split_ands; go_simp; try with_reducible rfl)
  try simp only [Act.put, List.setIfInBounds_toArray, List.set_cons_zero, List.set_cons_succ, List.getElem_toArray, List.getElem_cons_zero, List.getElem_cons_succ]
  refine wpG_call (i := 6) hclG rfl (by kernel_rfl) (by kernel_rfl) (by kernel_rfl) (fun _ _ _ h => h) (fun W hS => HL.out W) (by rfl) ?_ ?_
  · (intro w' hSw; go_simp; try with_reducible rfl)
  try simp only [Act.put, List.setIfInBounds_toArray, List.set_cons_zero, List.set_cons_succ, List.getElem_toArray, List.getElem_cons_zero, List.getElem_cons_succ]
  refine wpG_take (i := 7) (v := ?_) hclG rfl (by kernel_rfl) (by kernel_rfl) (by kernel_rfl) (fun _ _ _ h => h) (by rfl) ?_ ?_
  rotate_left
  · (intro w' hSw; go_simp; try with_reducible rfl)
  try simp only [Act.put, List.setIfInBounds_toArray, List.set_cons_zero, List.set_cons_succ, List.getElem_toArray, List.getElem_cons_zero, List.getElem_cons_succ]
  refine wpG_call (i := 8) hclG rfl (by kernel_rfl) (by kernel_rfl) (by kernel_rfl) (fun _ _ _ h => h) (fun W hS => HQ.out W) (by rfl) ?_ ?_
  · (intro w' hSw; go_simp; try with_reducible rfl)
  try simp only [Act.put, List.setIfInBounds_toArray, List.set_cons_zero, List.set_cons_succ, List.getElem_toArray, List.getElem_cons_zero, List.getElem_cons_succ]
  refine wpG_ready (rs := [9]) (by kernel_rfl) (by simp) (fun w4 g4 s4 => ?_)
  refine AllG.cons rfl (fun K hK => ?_) AllG.nil
  replace g4 := (Gr.drew (Gr.refl w3)).trans g4
  have Fup_4 := CellsAt.gr (Fup_3) g4
  have lup_4 := CellsAt.lt (Fup_4)
  have z4 := (z3).trans g4
  clear Fup_3 z3 g4
  go_simp
  refine hK.out _ _ ?_ ?_
  · exact Gr.alloc s4 _ _
  clear hK K
  try simp only [Act.put, List.setIfInBounds_toArray, List.set_cons_zero, List.set_cons_succ, List.getElem_toArray, List.getElem_cons_zero, List.getElem_cons_succ]
  have hsz4 := s4.size
  refine wpG_ready (rs := [10]) (by kernel_rfl) (by simp) (fun w5 g5 s5 => ?_)
  refine AllG.cons rfl (fun K hK => ?_) AllG.nil
  have Fup_5 := CellsAt.gr ((Fup_4).alloc _) g5
  have lup_5 := CellsAt.lt (Fup_5)
  have Fdn_5 := CellsAt.gr (CellsAt.new w4 42 #[.int .i64 0, .int .i64 0]) g5
  have ldn_5 := CellsAt.lt (Fdn_5)
  have z5 := ((z4).alloc _ _).trans g5
  clear g5
  have mdn0 := CellsAt.frozen (Fdn_5) 0
  have cdn0 := CellsAt.cell (Fdn_5) 0
  simp only [List.getElem?_toArray, List.getElem?_cons_zero, List.getElem?_cons_succ] at cdn0
  have mdn1 := CellsAt.frozen (Fdn_5) 1
  have cdn1 := CellsAt.cell (Fdn_5) 1
  simp only [List.getElem?_toArray, List.getElem?_cons_zero, List.getElem?_cons_succ] at cdn1
  go_simp
  clear mdn0 cdn0 mdn1 cdn1
  refine hK.out _ _ ?_ ?_
  · exact Gr.setCell (Gr.setCell s5 (by first | omega | (simp only; omega)) _) (by first | omega | (simp only; omega)) _
  clear hK K
  try simp only [Act.put, List.setIfInBounds_toArray, List.set_cons_zero, List.set_cons_succ, List.getElem_toArray, List.getElem_cons_zero, List.getElem_cons_succ]
  refine wpG_done (by kernel_rfl) (fun w6 g6 => ?_) _
  have Fup_6 := CellsAt.gr (((Fup_5).other (by omega) _ _).other (by omega) _ _) g6
  have lup_6 := CellsAt.lt (Fup_6)
  have Fdn_6 := CellsAt.gr (CellsAt.set2 (Fdn_5) _ _) g6
  have ldn_6 := CellsAt.lt (Fdn_6)
  have z6 := (((z5).setCell (by first | omega | (simp only; omega)) _).setCell (by first | omega | (simp only; omega)) _).trans g6
  clear g6
  clear hclG KS
  have cup0 := CellsAt.cell (Fup_6) 0
  have cup1 := CellsAt.cell (Fup_6) 1
  have cdn0 := CellsAt.cell (Fdn_6) 0
  have cdn1 := CellsAt.cell (Fdn_6) 1
  simp only [List.getElem?_toArray, List.getElem?_cons_zero, List.getElem?_cons_succ] at cup0 cup1 cdn0 cdn1
  go_wp2_with fail
  clear cup0 cup1 cdn0 cdn1
  go_ret
  exact ⟨_, rfl, CxsAt.two (CellsAt.new _ 42 #[.int .i64 p.re, .int .i64 p.im, .int .i64 q.re, .int .i64 q.im]), (z6).alloc _ _⟩

theorem round_nums (h u m n i : Nat) (hm : m = 4 * h) (hn : n = m * u) (h1 : 1 ≤ h) (hu : 1 ≤ u) (hm64 : m ≤ 64) (hn64 : n ≤ 64) (hi : i < m) :
    (i % h < h ∧ i / h < 4 ∧ i % h * u < n ∧ 3 * (i % h) * u < n ∧ h + i % h < 2 * h) ∧ ((m : Int) / 4 = h ∧ (m : Int).tdiv 4 = h ∧ (i : Int) % (h : Int) = ((i % h : Nat) : Int) ∧ (i : Int).tmod (h : Int) = ((i % h : Nat) : Int) ∧ (i : Int) / (h : Int) = ((i / h : Nat) : Int) ∧ (i : Int).tdiv (h : Int) = ((i / h : Nat) : Int)) ∧
    (IntKind.i64.wrap ((h : Int) + ((i % h : Nat) : Int)) = ((h + i % h : Nat) : Int) ∧ wrap64 (((i % h : Nat) : Int) * (u : Int)) = ((i % h * u : Nat) : Int) ∧ wrap64 (3 * ((i % h : Nat) : Int)) = ((3 * (i % h) : Nat) : Int) ∧ wrap64 (((3 * (i % h) : Nat) : Int) * (u : Int)) = ((3 * (i % h) * u : Nat) : Int)) := by
  have hk := Nat.mod_lt i (show 0 < h by omega)
  have hq : i / h < 4 := by rw [Nat.div_lt_iff_lt_mul (by omega)]; omega
  have k1 : (i % h + 1) * u ≤ h * u := Nat.mul_le_mul_right _ hk
  rw [Nat.succ_mul] at k1
  have k2 : n = 4 * (h * u) := by rw [hn, hm, Nat.mul_assoc]
  have k3 : 3 * (i % h) * u = 3 * (i % h * u) := Nat.mul_assoc _ _ _
  refine ⟨⟨hk, hq, by omega, by omega, by omega⟩, ⟨by omega, ?_, by simp, ?_, by simp, ?_⟩, iadd h (i % h) (by omega), wmul (i % h) u (by omega), wmul 3 (i % h) (by omega), wmul (3 * (i % h)) u (by omega)⟩
  · rw [Int.tdiv_eq_ediv_of_nonneg (by omega)]; omega
  · rw [Int.tmod_eq_emod_of_nonneg (by omega)]; simp
  · rw [Int.tdiv_eq_ediv_of_nonneg (by omega)]; simp


end Go.Proofs.YtmhcbphkkcmecaaGreat
