/- What reference 7's Root, Table and Bits answer. -/
import Derived.Test.YtkbnhoapfjkajaaRef07c
import Derived.Test.YtkbnhoapfjkajaaCxs
import Derived.Test.YtkbnhoapfjkajaaRef02
import Derived.Maps.AppendAt
namespace Go.Proofs.Ytkbnhoapfjkajaa
open Go.ChangeShapes Go.WideShapes Go.ChangeAt Go.RowKit
set_option linter.unusedVariables false

theorem CellsAt.grown {W w' : World} {B : Nat} {t : TypeId} {c : Array Value} {row : Option Nat} (h : CellsAt W B t c) (hg : W.grownBy w' row) (hne : some B ≠ row) : CellsAt w' B t c := (hg.block B h.lt hne).trans h
theorem IntsAt.grown {W w' : World} {v : Value} {xs : List Int} {row : Option Nat} (h : IntsAt W v xs) (hg : W.grownBy w' row) (hne : ∀ b, v.ownBlock = some b → some b ≠ row) : IntsAt w' v xs := by
  rcases h with h | ⟨b, o, cap, rfl, hl, hm, hb, hc⟩
  · exact .inl h
  · refine .inr ⟨b, o, cap, rfl, hl, hm, Nat.lt_of_lt_of_le hb hg.size, fun k y hk => ?_⟩
    rw [← hc k y hk]
    unfold World.cell?
    rw [hg.block b hb (hne b rfl)]

theorem news_two (W : World) (x y : Value) (t : TypeId) : ∀ j u, [x, y][j]? = some u → (W.alloc (.cells #[x, y] t)).cell? ((⟨W.heap.size, 0, none⟩ : Addr).add j) = some u := by
  intro j u h
  rw [Addr.add_lit]
  have := (CellsAt.new W t #[x, y]).cell (0 + j)
  rw [this, Nat.zero_add]
  simpa using h

theorem root07_c (log k n bits : Int) (l0 : 2 ≤ log) (l1 : log ≤ 6) (hn : n = 2 ^ log.toNat) (wk : -9223372036854775808 ≤ k ∧ k ≤ 9223372036854775807) (b0 : 0 ≤ bits) (b1 : bits ≤ 40) (w : World) :
    Calls Try.prog 10 #[.int .i64 log, .int .i64 k, .int .i64 bits] w fun e w' => e = .returned (.agg #[.int .i64 (rootG n k (56 - bits).toNat).re, .int .i64 (rootG n k (56 - bits).toNat).im]) ∧ Gr w w' := by
  have HE := Lib.hid fun v W (hI : IntsAt W v angL) => rootOf07_c log k n bits l0 l1 hn wk b0 b1 v W hI
  have HA := Lib.hid all05_c
  clear l0 l1 hn wk b0 b1
  generalize rootG n k (56 - bits).toNat = s at *
  obtain ⟨re, im⟩ := s
  simp only at HE ⊢
  go_enter Try.func10, Try.ntmps10
  go_wp2_with fail
  have R0 := CellsAt.new w 23 #[.int .i64 0, .int .i64 0]
  refine (HA.out _).mono ?_
  rintro e w1 ⟨v, rfl, hI, g1⟩
  have R1 := R0.gr g1
  have gw1 := ((Gr.refl w).alloc #[.int .i64 0, .int .i64 0] 23).trans g1
  have J := Lib.hid hI
  clear hI R0 g1
  go_wp2_with fail
  refine (HE.out _ _ J.out).mono ?_
  rintro e w3 ⟨rfl, g3⟩
  have R3 := R1.gr g3
  have gw3 := gw1.trans g3
  have hsz := gw3.size
  have c0 := R3.cell 0
  have c1 := R3.cell 1
  have f0 := R3.frozen 0
  have f1 := R3.frozen 1
  simp only [List.getElem?_toArray, List.getElem?_cons_zero, List.getElem?_cons_succ] at c0 c1
  clear gw1 R1 J g3
  go_wp2_with fail
  refine bodyPost_ret (v := .agg #[.int .i64 re, .int .i64 im]) ?_ rfl ⟨rfl, ?_⟩
  · simp [results, Try.f10, go_sem, c0, c1]
  · exact (gw3.setCell (a := ⟨w.heap.size, 0, none⟩) (by simp) _).setCell (a := ⟨w.heap.size, 1, none⟩) (by simp) _

/-- The roots 0 to n - 1. -/
def rootsL (n : Int) (s : Nat) : List Gi := (List.range n.toNat).map (fun k : Nat => rootG n (k : Int) s)
theorem rootsL_len (n : Int) (s : Nat) : (rootsL n s).length = n.toNat := by unfold rootsL; simp

set_option maxRecDepth 10000 in set_option maxHeartbeats 2000000 in
theorem table07_c (log n bits : Int) (l0 : 2 ≤ log) (l1 : log ≤ 6) (hn : n = 2 ^ log.toNat) (b0 : 0 ≤ bits) (b1 : bits ≤ 40) (w : World) :
    Calls Try.prog 14 #[.int .i64 log, .int .i64 bits] w fun e w' => ∃ v, e = .returned v ∧ CxsAt w' v (rootsL n (56 - bits).toNat) ∧ Gr w w' := by
  have hl := len_log n log l0 l1 hn
  have hn4 : 4 ≤ n ∧ n ≤ 64 := by rcases hl with rfl | rfl | rfl | rfl | rfl <;> omega
  have HP := Lib.hid (pow_c log (by omega) (by omega))
  rw [← hn] at HP
  have HE := Lib.hid fun (k : Nat) (hk : k < 64) v W (hI : IntsAt W v angL) => rootOf07_c log k n bits l0 l1 hn (by omega) b0 b1 v W hI
  have HA := Lib.hid all05_new
  clear l0 l1 hn b0 b1 hl
  generalize (56 - bits).toNat = s at *
  obtain ⟨i0, hi, hz0, hz1, hz2⟩ := info_parts info_cx
  go_enter Try.func14, Try.ntmps14
  go_wp2_with fail
  have hs0 : ((w.alloc (.cells #[] 23)).ownsRow w.heap.size 23 2 (.slice (some ⟨w.heap.size, 0, none⟩) 0 0) 0 []) := World.ownsRow_made w #[] 0 (Nat.le_refl _) (by unfold maxLen; omega) (by simp)
  refine (HA.out _).mono ?_
  rintro e w1 ⟨v, rfl, hI, g1, hfr⟩
  have hs1 := ownsRow_gr hs0 g1
  have gw1 := ((Gr.refl w).alloc #[] 23).trans g1
  have hfr2 : v.ownBlock ≠ some w.heap.size := by
    intro e
    have := hfr _ e
    simp at this
    omega
  obtain ⟨b, o, cap, rfl, hlen, _⟩ := same_len hI angL_ne'
  have hb : b ≠ w.heap.size := by intro e; exact hfr2 (by rw [← e]; rfl)
  rw [angL_len] at hI ⊢
  have T0 := CellsAt.new w1 47 #[.slice (some ⟨b, o, none⟩) 45 cap, .int .i64 43757185469210200]
  have hs2 := hs1.alloc (.cells #[.slice (some ⟨b, o, none⟩) 45 cap, .int .i64 43757185469210200] 47)
  have gw2 := gw1.alloc #[.slice (some ⟨b, o, none⟩) 45 cap, .int .i64 43757185469210200] 47
  have hI2 := hI.gr ((Gr.refl w1).alloc #[.slice (some ⟨b, o, none⟩) 45 cap, .int .i64 43757185469210200] 47)
  have hw1 : w.heap.size < w1.heap.size := by have := g1.size; simp at this; omega
  clear hI hs0 hs1 gw1 g1 hfr hfr2 hlen
  go_wp2_with fail
  generalize w1.alloc (.cells #[.slice (some ⟨b, o, none⟩) 45 cap, .int .i64 43757185469210200] 47) = u1 at *
  generalize w1.heap.size = BT at *
  have hN : (n.toNat : Int) = n := by omega
  go_loopw [5, 7] (fun v i wr => ∃ j : Nat, j ≤ n.toNat ∧ i = .int .i64 j ∧ wr.ownsRow w.heap.size 23 2 v j (gcells ((List.range j).map (fun k : Nat => rootG n (k : Int) s))) ∧ v.ownBlock ≠ some b ∧ v.ownBlock ≠ some BT ∧ CellsAt wr BT 47 #[.slice (some ⟨b, o, none⟩) 45 cap, .int .i64 43757185469210200] ∧ IntsAt wr (.slice (some ⟨b, o, none⟩) 45 cap) angL ∧ Gr w wr)
    (fun _ i _ => n.toNat - (intOf i).toNat)
  case atStart => exact ⟨0, by omega, rfl, hs2, by simp [Value.ownBlock]; omega, by simp [Value.ownBlock]; omega, T0, hI2, gw2⟩
  case round =>
    clear hs2 T0 hI2 gw2
    obtain ⟨j, hj, rfl, hrow, hnb, hnT, hT, hI, hg⟩ := hrel
    by_cases hlt : j < n.toNat
    · have hjn : (j : Int) < n := by omega
      have HE1 := Lib.hid (HE.out j (by omega))
      have c0 := hT.cell 0
      have c1 := hT.cell 1
      simp only [List.getElem?_toArray, List.getElem?_cons_zero, List.getElem?_cons_succ] at c0 c1
      have er : (List.range (j + 1)).map (fun k : Nat => rootG n (k : Int) s) = (List.range j).map (fun k : Nat => rootG n (k : Int) s) ++ [rootG n (j : Int) s] := by rw [List.range_succ, List.map_append]; rfl
      have ER := Lib.hid er
      clear er
      generalize rootG n (j : Int) s = g at *
      obtain ⟨re, im⟩ := g
      go_wp2_with (go_at_call 28; refine (HP.out _).mono ?_; rintro e wz ⟨rfl, rfl⟩)
      refine (HE1.out _ _ hI).mono ?_
      rintro e wq ⟨rfl, hgq⟩
      have hrow2 := ownsRow_gr hrow hgq
      have hsz := hg.size
      have hsq := hgq.size
      have hg2 := hg.trans hgq
      have hT2 := hT.gr hgq
      have hI2 := hI.gr hgq
      have hbl : b < wq.heap.size := by rcases hI2 with ⟨h, _⟩ | ⟨_, _, _, h, _, _, hb, _⟩; cases h; cases h; exact hb
      have hTl := hT2.lt
      clear hrow hg hgq HE1 c0 c1 hI hT
      go_wp2_with (at_builtin; refine wpList_append_own_at _ rfl (.tmp 16) (.tmp 22) 31 rfl w.heap.size 23 i0 (.agg #[.int .i64 0, .int .i64 0]) 2 16 Try.underlying31 hi hz0 hz1 hz2 rfl (by decide) _ _ _ rfl (hrow2.alloc _) ⟨wq.heap.size, 0, none⟩ 1 1 [.int .i64 re, .int .i64 im] rfl rfl (news_two _ _ _ _) (by simp [Value.oneCell']) (by unfold maxLen; omega) (by omega) (by simp; omega) ?_; intro v' w3 hown' hgrow _ hblk)
      have e : gcells ((List.range j).map (fun k : Nat => rootG n (k : Int) s)) ++ [.int .i64 re, .int .i64 im] = gcells ((List.range (j + 1)).map (fun k : Nat => rootG n (k : Int) s)) := by
        rw [ER.out, gcells_snoc]
      rw [e] at hown'
      have hg3 := (hg2.allocO _).grown hgrow (fun k e => (hrow2.lt k e).1)
      have hT3 := (hT2.alloc _).grown hgrow (fun e => hnT e.symm)
      have hI3 := (hI2.gr ((Gr.refl wq).alloc #[.int .i64 re, .int .i64 im] 23)).grown hgrow (fun b' e1 e2 => by cases e1; exact hnb e2.symm)
      go_roundw
      case rel => exact ⟨j + 1, by omega, by go_num, hown', by rcases hblk with h | h <;> rw [h]; exact hnb; simp; omega, by rcases hblk with h | h <;> rw [h]; exact hnT; simp; omega, hT3, hI3, hg3⟩
      case measure => simp [intOf]; omega
    · have he : j = n.toNat := by omega
      have hjn : n ≤ (j : Int) := by omega
      go_wp2_with (go_at_call 28; refine (HP.out _).mono ?_; rintro e wz ⟨rfl, rfl⟩)
      go_ret
      refine ⟨_, rfl, ?_, hg⟩
      have := CxsAt.of_row hrow
      rw [he] at this
      exact this

end Go.Proofs.Ytkbnhoapfjkajaa
