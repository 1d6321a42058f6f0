import Derived.Deep.AppendLies
import Derived.Test.YtdignnmpfkgkoaaGreatRealUntanglesS6
namespace Go.Proofs.YtdignnmpfkgkoaaGreat
section
open Go.ChangeShapes Go.WideShapes Go.ChangeAt Go.RowKit
set_option linter.unusedVariables false
set_option linter.unusedSimpArgs false
set_option maxRecDepth 100000
def clampG (p : Int) (a : Gi) : Gi := ⟨clampI p a.re, clampI p a.im⟩
theorem field_X (x z : Int) (y : Bool) (W : World) : (Instr.field 111 (.agg #[.int .i64 x, .bool y, .int .i64 z]) 0).run Tryz.prog W = .ok (.int .i64 x) W := by kernel_rfl
set_option maxHeartbeats 4000000 in
theorem clamped15_of (v : Value) (xs : List Gi) (fo p : Int) (hl : xs.length ≤ 100) (HC : Hid (∀ x W, Calls Tryz.prog 86 #[.int .i64 x, .int .i64 fo] W fun e w' => e = .returned (.agg #[.int .i64 (clampI p x), .bool (clampI p x != x), .int .i64 0]) ∧ Gr W w')) (w : World) (hv : CxsAt w v xs) :
 Calls Tryz.prog 44 #[v, .int .i64 fo] w fun e w' => ∃ u, e = .returned u ∧ CxsAt w' u (xs.map (clampG p)) ∧ Gr w w' := by
 obtain ⟨i0, hi, hz0, hz1, hz2⟩ := info_parts info_cx
 obtain ⟨sp, scap, rfl⟩ := hv.len
 have hfd := field_X
 go_enter Tryz.func44, Tryz.ntmps44
 go_wp2_with fail
 have hs0 : (w.alloc (.cells #[] 50)).ownsRow w.heap.size 50 2 (.slice (some ⟨w.heap.size, 0, none⟩) 0 0) 0 [] := World.ownsRow_made w #[] 0 (Nat.le_refl _) (by unfold maxLen; omega) (by simp)
 have g0 : Gr w (w.alloc (.cells #[] 50)) := (Gr.refl w).alloc _ _
 go_loopw [5, 11] (fun u i wr => ∃ k : Nat, k ≤ xs.length ∧ i = .int .i64 k ∧ wr.ownsRow w.heap.size 50 2 u k (gcells ((xs.take k).map (clampG p))) ∧ Gr w wr) (fun _ i _ => xs.length - (intOf i).toNat)
 case atStart => exact ⟨0, by omega, rfl, hs0, g0⟩
 case round =>
  clear hs0 g0
  obtain ⟨k, hk, rfl, hrow, hg⟩ := hrel
  by_cases hlt : k < xs.length
  ·obtain ⟨x, hx⟩ := get_of_lt hlt
   obtain ⟨b, o, cap', hsl, hln, hb, hc⟩ := hv.at (by intro e; rw [e] at hlt; simp at hlt)
   cases hsl
   have h1 := (hg.cell (p := ⟨b, o + k * 2, none⟩) hb).trans (hc k x hx).1
   have h2 := (hg.cell (p := ⟨b, o + k * 2 + 1, none⟩) hb).trans (hc k x hx).2
   have HTK := Lib.hid (show (xs.take (k + 1)).map (clampG p) = (xs.take k).map (clampG p) ++ [clampG p x] by rw [take_snoc hx, List.map_append]; rfl)
   have hlI : (k : Int) < (xs.length : Int) := by omega
   have hl100 : (xs.length : Int) ≤ 100 := by omega
   obtain ⟨re, im⟩ := x
   simp only [clampG] at h1 h2 HTK
   have HC1 := Lib.hid (HC.out re)
   have HC2 := Lib.hid (HC.out im)
   generalize clampI p re = cre at *
   generalize clampI p im = cim at *
   clear hx
   go_wp2_with fail
   clear h1 h2
   obtain ⟨u3, hu⟩ : ∃ uu, uu = wr.alloc (.cells #[.int .i64 re, .int .i64 im] 50) := ⟨_, rfl⟩
   have X3 : CellsAt u3 wr.heap.size 50 #[.int .i64 re, .int .i64 im] := by rw [hu]; exact CellsAt.new wr 50 _
   have y3 : Gr w u3 := by rw [hu]; exact hg.alloc _ _
   have row3 : u3.ownsRow w.heap.size 50 2 u5 k (gcells ((xs.take k).map (clampG p))) := by rw [hu]; exact hrow.alloc _
   have hrl := fun q e => (hrow.lt q e).2
   have hrb := fun q e => (hrow.lt q e).1
   try rw [← hu]
   clear hu
   have hclG : ∀ x y, (Gr w x ∧ CellsAt x wr.heap.size 50 #[.int .i64 re, .int .i64 im]) → Gr x y → (Gr w y ∧ CellsAt y wr.heap.size 50 #[.int .i64 re, .int .i64 im]) := fun _ _ h g => ⟨h.1.trans g, h.2.gr g⟩
   have KS : ∀ W, (Gr w W ∧ CellsAt W wr.heap.size 50 #[.int .i64 re, .int .i64 im]) → (W.cell? ⟨wr.heap.size, 0, none⟩ = some (.int .i64 re) ∧ W.cell? ⟨wr.heap.size, 1, none⟩ = some (.int .i64 im)) := fun W h => ⟨h.2.cell 0, h.2.cell 1⟩
   try simp only [List.append_eq, List.cons_append, List.nil_append]
   refine wp_region_grow (S := fun W => Gr w W ∧ CellsAt W wr.heap.size 50 #[.int .i64 re, .int .i64 im]) rfl ⟨Gr.drew y3, CellsAt.gr X3 (Gr.drew (Gr.refl _))⟩ ?_
   refine gT 0 hclG ?_
   refine gT 1 hclG ?_
   refine gK 2 hclG KS ?_
   refine gT 3 hclG ?_
   refine wpG_call (i := 4) hclG rfl (by kernel_rfl) (by kernel_rfl) (by kernel_rfl) (fun _ _ _ h => h) (fun W hS => HC1.out W) (by rfl) ?_ ?_
   ·(intro w' hSw; go_simp; try with_reducible rfl)
   try simp only [Act.put, putS]
   refine gT 5 hclG ?_
   refine gT 6 hclG ?_
   refine gK 7 hclG KS ?_
   refine gT 8 hclG ?_
   refine wpG_call (i := 9) hclG rfl (by kernel_rfl) (by kernel_rfl) (by kernel_rfl) (fun _ _ _ h => h) (fun W hS => HC2.out W) (by rfl) ?_ ?_
   ·(intro w' hSw; go_simp; try with_reducible rfl)
   try simp only [Act.put, putS]
   refine gT 10 hclG ?_
   refine gT 11 hclG ?_
   refine gR 12 fun wf gf sf K hK => ?_
   replace gf := (Gr.drew (Gr.refl u3)).trans gf
   go_simp
   have L0 := CellsAt.new wf 50 #[.int .i64 cre, .int .i64 cim]
   refine hK.out _ _ ?_ ?_
   ·exact ⟨sf.1.alloc _ _, sf.2.alloc _⟩
   clear hK K
   try simp only [Act.put, putS]
   refine gR 13 fun wg gg sg K hK => ?_
   have L1 := L0.gr gg
   have hnews := World.news_of_block L1
   have GG := (gf.alloc #[.int .i64 cre, .int .i64 cim] 50).trans gg
   have hrw := ownsRow_gr row3 GG
   have hsg := sg.1.size
   refine Go.step_append_lies _ rfl (.tmp 15) (.tmp 27) 25 rfl w.heap.size 50 i0 (.agg #[.int .i64 0, .int .i64 0]) 2 16 Tryz.underlying25 hi hz0 hz1 hz2 rfl (by decide) u5 k _ rfl hrw ⟨wf.heap.size, 0, none⟩ 1 1 [.int .i64 cre, .int .i64 cim] rfl rfl hnews (by simp [Value.oneCell']) (by omega) (by unfold maxLen; omega) (by omega) (by omega) _ rfl ?_
   intro gb gcap wh hown8 hgrow8 hor8 hlt8
   refine hK.out _ _ ?_ ?_
   ·exact ⟨sg.1.grown hgrow8 hrb, CellsAt.grown sg.2 hgrow8 (fun e => by have h1 := hrl _ e.symm; omega)⟩
   clear hK K
   try simp only [Act.put, putS]
   refine gT 14 hclG ?_
   refine wpG_done (by kernel_rfl) (fun wi gi => ?_) _
   have hown9 := ownsRow_gr hown8 gi
   have gz := (sg.1.grown hgrow8 hrb).trans gi
   clear hclG KS L0 L1 hnews GG hrw sf sg gf gg hgrow8 hor8
   go_wp2_with fail
   go_roundw
   case rel =>
    refine ⟨k + 1, by omega, by go_num, ?_, gz⟩
    rw [HTK.out, gcells_snoc]
    exact hown9
   case measure => simp [intOf]; omega
  ·obtain rfl : k = xs.length := by omega
   have hlI : ¬ (xs.length : Int) < (xs.length : Int) := by omega
   go_wp2_with fail
   go_ret
   rw [List.take_length] at hrow
   exact ⟨_, rfl, CxsAt.of_row hrow, hg⟩
def Apart (v : Value) (xs : List Gi) (B : Nat) : Prop := ∀ b o cap, v = .slice (some ⟨b, o, none⟩) xs.length cap → xs ≠ [] → b ≠ B
theorem CxsAt.set {W : World} {v : Value} {xs : List Gi} {B : Nat} (h : CxsAt W v xs) (ha : Apart v xs B) (j : Nat) (u : Value) : CxsAt (W.setCell ⟨B, j, none⟩ u) v xs := by
 obtain ⟨p, cap, hv, hl, hm, hc⟩ := h
 refine ⟨p, cap, hv, hl, hm, fun hx => ?_⟩
 obtain ⟨b, o, hp, hb, hcc⟩ := hc hx
 subst hp
 have hne := ha b o cap hv hx
 have hh : (W.setCell ⟨B, j, none⟩ u).heap[b]? = W.heap[b]? := Below.heap_setCell _ _ _ _ hne
 refine ⟨b, o, rfl, Nat.lt_of_lt_of_le hb (KeepsWalks.setCell W _ u).size, fun k x hk => ?_⟩
 have := hcc k x hk
 unfold World.cell? at this ⊢
 rw [hh]
 exact this
theorem CxsAt.apart {W : World} {v : Value} {xs : List Gi} {B : Nat} {t : TypeId} {pa pb : Option Addr} {na nb ca cb : Nat} {e : Int} {s : Bool} (h : CxsAt W v xs) (hc : CellsAt W B t #[.slice pa na ca, .int .i64 e, .bool s, .slice pb nb cb]) : Apart v xs B := by
 intro b o cap hv hx hb
 subst hb
 obtain ⟨p, cap', hv', _, _, hcc⟩ := h
 obtain ⟨b', o', hp, _, hk⟩ := hcc hx
 subst hp
 rw [hv] at hv'
 cases hv'
 cases xs with
 | nil => exact hx rfl
 | cons x xs =>
   have h2 := hk 0 x rfl
   rw [hc.cell, hc.cell, Nat.zero_mul, Nat.add_zero] at h2
   obtain ⟨h1, h2⟩ := h2
   clear hk hx
   match o, h1, h2 with
   | 0, h1, _ => simp at h1
   | 1, _, h2 => simp at h2
   | 2, h1, _ => simp at h1
   | 3, h1, _ => simp at h1
   | n + 4, h1, _ => simp at h1
theorem NumsAt.set {W : World} {v : Value} {ls : List Int} {B : Nat} (h : NumsAt W v ls) (ha : v.ownBlock ≠ some B) (j : Nat) (u : Value) : NumsAt (W.setCell ⟨B, j, none⟩ u) v ls := by
 obtain ⟨p, cap, hv, hl, hm, hc⟩ := h
 refine ⟨p, cap, hv, hl, hm, fun hx => ?_⟩
 obtain ⟨b, o, hp, hb, hcc⟩ := hc hx
 subst hp
 subst hv
 have hne : b ≠ B := fun e => ha (by rw [e]; rfl)
 have hh : (W.setCell ⟨B, j, none⟩ u).heap[b]? = W.heap[b]? := Below.heap_setCell _ _ _ _ hne
 refine ⟨b, o, rfl, Nat.lt_of_lt_of_le hb (KeepsWalks.setCell W _ u).size, fun k x hk => ?_⟩
 have := hcc k x hk
 unfold World.cell? at this ⊢
 rw [hh]
 exact this
structure BV where
 X : List Gi
 ex : Int
 sat : Bool
 sh : List Int
def BlkAt (w : World) (v : Value) (b : BV) : Prop := ∃ vx vs, v = .agg #[vx, .int .i64 b.ex, .bool b.sat, vs] ∧ CxsAt w vx b.X ∧ NumsAt w vs b.sh
theorem BlkAt.gr {w w' : World} {v : Value} {b : BV} (h : BlkAt w v b) (g : Gr w w') : BlkAt w' v b := by
 obtain ⟨vx, vs, rfl, hx, hs⟩ := h
 exact ⟨vx, vs, rfl, hx.gr g, hs.gr g⟩
section
variable {Q : Exit → Act → World → Prop}
theorem run_append_nums (w : World) (base n : Nat) (ty : TypeId) (v : Value) (zs ls : List Int) (hown : w.ownsRow base 3 1 v n (zs.map (Value.int .i64))) (sp : Option Addr) (c : Nat) (hN : NumsAt w (.slice sp ls.length c) ls) (hl : n + ls.length ≤ 1000) (hbase : base ≤ w.heap.size) :
 ∃ v' w', (Builtin.append_ #[22, 22] ty #[v, .slice sp ls.length c]).run Tryz.prog w = .ok v' w' ∧ w'.ownsRow base 3 1 v' (n + ls.length) ((zs ++ ls).map (Value.int .i64)) ∧ w.grownBy w' v.ownBlock ∧ (v'.ownBlock = v.ownBlock ∨ v'.ownBlock = some w.heap.size) := by
 obtain ⟨i0, hi, hz0, hz1, hz2⟩ := info_parts info_int
 by_cases hx : ls = []
 ·subst hx
  refine ⟨v, w, ?_, by simpa using hown, ⟨rfl, rfl, rfl, Nat.le_refl _, fun _ _ _ => rfl⟩, .inl rfl⟩
  rcases hown.2 with ⟨rfl, rfl⟩ | ⟨g, cap, cur, rfl, hbg, hg, hnc, hcm, hcs, htake⟩
  ·cases sp <;> simp [Builtin.append_, run_underlying Tryz.underlying22, sizeOf, typeInfo, hi, Builtin.lenOf, Builtin.firstCells, loadCells, loadCellsFrom]
  ·cases sp <;> simp [Builtin.append_, run_underlying Tryz.underlying22, sizeOf, typeInfo, hi, Builtin.lenOf, Builtin.firstCells, loadCells, loadCellsFrom, hnc, storeCells]
 ·obtain ⟨b, o, cap, hsl, _, hb, hc⟩ := hN.at hx
  cases hsl
  obtain ⟨v', w', h1, h2, h3, h4, h5⟩ := run_append_own_at (P := Tryz.prog) w base 22 ty 3 i0 (.int .i64 0) 1 8 Tryz.underlying22 hi hz0 hz1 hz2 rfl (by decide) v n _ hown ⟨b, o, none⟩ ls.length c (ls.map (Value.int .i64)) (by simp) (fun j u hj => by
   rw [List.getElem?_map] at hj
   obtain ⟨x, hx, rfl⟩ := Option.map_eq_some_iff.1 hj
   rw [show (⟨b, o, none⟩ : Addr).add j = ⟨b, o + j, none⟩ by unfold Addr.add; split <;> simp_all]
   exact hc j x hx) (fun u hu => by obtain ⟨x, _, rfl⟩ := List.mem_map.1 hu; rfl) (by unfold maxLen; omega) (by omega) hbase
  exact ⟨v', w', h1, by rw [List.map_append]; exact h2, h3, h5⟩
theorem wpList_append_nums {ops : Array Oper} {rest : List Oper} {o : Oper} {a : Act} {w : World} (hgd : o.guard = none) (s x : Operand)
 (ho : o.op = .call { callee := .builtin .append, args := #[s, x], argTypes := #[22, 22] }) (base : Nat) (v : Value) (n : Nat) (zs ls : List Int) (hs : a.eval s = v) (hown : w.ownsRow base 3 1 v n (zs.map (Value.int .i64)))
 (sp : Option Addr) (c : Nat) (hx : a.eval x = .slice sp ls.length c) (hN : NumsAt w (.slice sp ls.length c) ls) (hl : n + ls.length ≤ 1000) (hbase : base ≤ w.heap.size)
 (h : ∀ v' w', w'.ownsRow base 3 1 v' (n + ls.length) ((zs ++ ls).map (Value.int .i64)) → w.grownBy w' v.ownBlock → (v'.ownBlock = v.ownBlock ∨ v'.ownBlock = some w.heap.size) → wpList Tryz.prog ops Q rest (a.put o.dst v') w') :
 wpList Tryz.prog ops Q (o :: rest) a w := by
 refine wpList_plain hgd fun K hK => ?_
 obtain ⟨v', w', hr, h2, h3, h5⟩ := run_append_nums w base n o.type v zs ls hown sp c hN hl hbase
 unfold Oper.wp execOp
 simp only [ho, resolve, invoke, builtin, Sem.run_bind, Sem.run_pure, Result.andThen_ok, List.map_toArray, List.map_cons, List.map_nil, hs, hx, hr]
 exact hK _ _ (h v' w' h2 h3 h5)
end
end
section
theorem NumsAt.st {W : World} {v : Value} {ls : List Int} (h : NumsAt W v ls) (B j : Nat) (u : Value) (ha : v.ownBlock ≠ some B := by exact fun e => by have := Option.some.inj e; simp only at this; omega) : NumsAt (W.setCell ⟨B, j, none⟩ u) v ls := h.set ha j u
end
section
open Go.ChangeShapes Go.WideShapes Go.ChangeAt Go.RowKit
set_option linter.unusedVariables false
set_option maxRecDepth 100000
theorem fl_step (k i : Nat) (hk : k < 6) : bits .or .i64 (wrap64 ((fl k i : Int) * 2)) (bits .and .i64 ((i : Int) / 2 ^ k) 1) = ((fl (k + 1) i : Nat) : Int) := by
 have h1 := and1 ((i / 2 ^ k : Nat) : Int)
 have h2 := fl_lt k i
 have h3 : 2 ^ k ≤ 64 := pow_le k (by omega)
 have h4 : wrap64 ((fl k i : Int) * 2) = ((2 * fl k i : Nat) : Int) := by rw [IntWalk.wrap64_in _ (by omega)]; omega
 have h5 : ((i / 2 ^ k : Nat) : Int) % 2 = ((i / 2 ^ k % 2 : Nat) : Int) := by omega
 rw [show (i : Int) / 2 ^ k = ((i / 2 ^ k : Nat) : Int) by simp, h1, h4, h5, or1 (fl k i) _ (by omega) (by omega), fl]
theorem flipped_c (i L : Nat) (hL : L ≤ 6) (hi : i < 64) (w : World) :
 Calls Tryz.prog 148 #[.int .i64 i, .int .i64 L] w fun e w' => e = .returned (.int .i64 (fl L i)) ∧ w' = w := by
 go_enter Tryz.func148, Tryz.ntmps148
 go_wp2
 go_loop [0, 5, 7] (fun i' f r => ∃ k : Nat, k ≤ L ∧ r = .int .i64 k ∧ f = .int .i64 (fl k i) ∧ i' = .int .i64 (i / 2 ^ k : Nat)) (fun _ _ r => L - (intOf r).toNat)
 case atStart => exact ⟨0, Nat.zero_le _, rfl, rfl, by simp⟩
 case round =>
  obtain ⟨k, hk, rfl, rfl, rfl⟩ := hrel
  by_cases hlt : k < L
  ·have hs : (k : Int) < L := by omega
   have HS := Lib.hid (fl_step k i (by omega))
   go_wp2
   go_round
   case rel => exact ⟨k + 1, by omega, by go_num, by rw [HS.out], by rw [Nat.pow_succ, ← Nat.div_div_eq_div_mul]; simp⟩
   case measure => simp [intOf]; omega
  ·have hs : (L : Int) ≤ k := by omega
   obtain rfl : k = L := by omega
   go_wp2
   go_ret
   exact ⟨rfl, rfl⟩
def IsLog (n : Int) (L : Nat) : Prop := 2 ≤ L ∧ L ≤ 6 ∧ n = ((2 ^ L : Nat) : Int)
theorem isLog_cases {n : Int} {L : Nat} (h : IsLog n L) : (L = 2 ∧ n = 4) ∨ (L = 3 ∧ n = 8) ∨ (L = 4 ∧ n = 16) ∨ (L = 5 ∧ n = 32) ∨ (L = 6 ∧ n = 64) := by
 obtain ⟨h0, h1, rfl⟩ := h
 have : L = 2 ∨ L = 3 ∨ L = 4 ∨ L = 5 ∨ L = 6 := by omega
 rcases this with rfl | rfl | rfl | rfl | rfl <;> simp
set_option maxHeartbeats 1000000 in
theorem log08_yes (n : Int) (L : Nat) (h : IsLog n L) (w : World) :
 Calls Tryz.prog 34 #[.int .i64 n] w fun e w' => e = .returned (.tuple #[.int .i64 L, .int .i64 0]) ∧ w' = w := by
 rcases isLog_cases h with ⟨rfl, rfl⟩ | ⟨rfl, rfl⟩ | ⟨rfl, rfl⟩ | ⟨rfl, rfl⟩ | ⟨rfl, rfl⟩
 all_goals
  clear h
  go_enter Tryz.func34, Tryz.ntmps34
  go_wp2_with fail
  refine wp_loop_rounds 6 ?_
  repeat (rw [rounds_succ]; go_wp2_with fail)
  go_ret2
  exact ⟨rfl, rfl⟩
set_option maxHeartbeats 1000000 in
theorem log08_no (n : Int) (h4 : n ≠ 4) (h8 : n ≠ 8) (h16 : n ≠ 16) (h32 : n ≠ 32) (h64 : n ≠ 64) (w : World) :
 Calls Tryz.prog 34 #[.int .i64 n] w fun e w' => e = .returned (.tuple #[.int .i64 0, .int .i64 3]) ∧ w' = w := by
 have e4 : (n == 4) = false := by simpa using h4
 have e8 : (n == 8) = false := by simpa using h8
 have e16 : (n == 16) = false := by simpa using h16
 have e32 : (n == 32) = false := by simpa using h32
 have e64 : (n == 64) = false := by simpa using h64
 clear h4 h8 h16 h32 h64
 go_enter Tryz.func34, Tryz.ntmps34
 go_wp2_with fail
 refine wp_loop_rounds 6 ?_
 repeat (rw [rounds_succ]; go_wp2_with fail)
 go_ret2
 exact ⟨rfl, rfl⟩
end
section
open Go.ChangeShapes Go.WideShapes Go.ChangeAt Go.RowKit
set_option linter.unusedVariables false
end
section
open Go.ChangeShapes Go.WideShapes Go.ChangeAt Go.RowKit
set_option linter.unusedVariables false
set_option maxRecDepth 100000
def gi0 : Gi := ⟨0, 0⟩
def flipL (L : Nat) (xs : List Gi) : List Gi := (List.range (2 ^ L)).map (fun k => xs.getD (fl L k) gi0)
theorem flipL_len (L : Nat) (xs : List Gi) : (flipL L xs).length = 2 ^ L := by unfold flipL; simp
theorem flipL_at (L : Nat) (xs : List Gi) (j : Nat) (h : j < 2 ^ L) : (flipL L xs)[j]? = some (xs.getD (fl L j) gi0) := by unfold flipL; simp [h]
def yk (L : Nat) (xs : List Gi) (k j : Nat) : Gi := if min j (fl L j) < k then xs.getD (fl L j) gi0 else xs.getD j gi0
theorem yk_zero (L : Nat) (xs : List Gi) (j : Nat) : yk L xs 0 j = xs.getD j gi0 := by unfold yk; rw [if_neg (by omega)]
theorem yk_all (L : Nat) (xs : List Gi) (j : Nat) (h : j < 2 ^ L) : yk L xs (2 ^ L) j = xs.getD (fl L j) gi0 := by unfold yk; rw [if_pos (by omega)]
theorem yk_stay (L : Nat) (xs : List Gi) (k j : Nat) (hL : L ≤ 6) (hk : k < 2 ^ L) (hj : j < 2 ^ L) (h : fl L k ≤ k) : yk L xs (k + 1) j = yk L xs k j := by
 unfold yk
 by_cases e : j = k
 ·subst e
  by_cases e2 : fl L j = j
  ·rw [e2]; split <;> split <;> rfl
  ·rw [if_pos (by omega), if_pos (by omega)]
 ·by_cases e2 : fl L j = k
  ·have : fl L k = j := by rw [← e2]; exact fl_fl L j hL hj
   by_cases e3 : j < k
   ·rw [if_pos (by omega), if_pos (by omega)]
   ·omega
  ·by_cases e3 : min j (fl L j) < k
   ·rw [if_pos (by omega), if_pos e3]
   ·rw [if_neg (by omega), if_neg e3]
theorem yk_swap (L : Nat) (xs : List Gi) (k : Nat) (hL : L ≤ 6) (hk : k < 2 ^ L) (h : k < fl L k) :
 yk L xs k (fl L k) = xs.getD (fl L k) gi0 ∧ yk L xs k k = xs.getD k gi0 ∧ yk L xs (k + 1) k = xs.getD (fl L k) gi0 ∧ yk L xs (k + 1) (fl L k) = xs.getD k gi0 ∧
 ∀ j, j < 2 ^ L → j ≠ k → j ≠ fl L k → yk L xs (k + 1) j = yk L xs k j := by
 have hf := fl_fl L k hL hk
 unfold yk
 refine ⟨?_, ?_, ?_, ?_, fun j hj h1 h2 => ?_⟩
 ·rw [hf, if_neg (by omega)]
 ·rw [if_neg (by omega)]
 ·rw [if_pos (by omega)]
 ·rw [hf, if_pos (by omega)]
 ·have h3 : fl L j ≠ k := by
   intro e
   exact h2 (by rw [← e]; exact (fl_fl L j hL hj).symm)
  by_cases e3 : min j (fl L j) < k
  ·rw [if_pos (by omega), if_pos e3]
  ·rw [if_neg (by omega), if_neg e3]
theorem gcells_inv (xs : List Gi) (k : Nat) (v : Value) (h : (gcells xs)[k]? = some v) : ∃ j x, xs[j]? = some x ∧ ((k = j * 2 ∧ v = .int .i64 x.re) ∨ (k = j * 2 + 1 ∧ v = .int .i64 x.im)) := by
 have hk := (List.getElem?_eq_some_iff.1 h).1
 rw [gcells_len] at hk
 obtain ⟨x, hx⟩ : ∃ x, xs[k / 2]? = some x := get_of_lt (by omega)
 have h2 := gcells_at xs (k / 2) x hx
 rcases Nat.mod_two_eq_zero_or_one k with e | e
 ·rw [show k / 2 * 2 = k by omega, h] at h2
  exact ⟨k / 2, x, hx, .inl ⟨by omega, Option.some.inj h2.1⟩⟩
 ·rw [show k / 2 * 2 + 1 = k by omega, h] at h2
  exact ⟨k / 2, x, hx, .inr ⟨by omega, Option.some.inj h2.2⟩⟩
set_option maxHeartbeats 2000000 in
theorem flip08_ok (v : Value) (xs : List Gi) (L : Nat) (l0 : 2 ≤ L) (l1 : L ≤ 6) (hl : xs.length = 2 ^ L) (w : World) (hv : CxsAt w v xs) :
 Calls Tryz.prog 106 #[v] w fun e w' => ∃ v', e = .returned (.tuple #[v', .int .i64 0]) ∧ CxsAt w' v' (flipL L xs) ∧ Gr w w' := by
 have h64 := pow_le L l1
 have h4 : 4 ≤ 2 ^ L := Nat.pow_le_pow_right (n := 2) (by omega) l0
 obtain ⟨b, o, cap, rfl, hlen, hb, hc⟩ := hv.at (by intro e; rw [e] at hl; simp at hl; omega)
 have HG := Lib.hid (log08_yes ((2 ^ L : Nat) : Int) L ⟨l0, l1, rfl⟩)
 have HF := Lib.hid fun k (hk : k < 64) => flipped_c k L l1 hk
 have HX : ∀ j, j < 2 ^ L → xs[j]? = some (xs.getD j gi0) := fun j hj => by rw [List.getD_eq_getElem?_getD, List.getElem?_eq_getElem (by omega)]; rfl
 have HY0 := Lib.hid (yk_zero L xs)
 have HYn := Lib.hid (yk_all L xs)
 have HYs := Lib.hid fun k j hk hj h => yk_stay L xs k j l1 hk hj h
 have HYw := Lib.hid fun k hk h => yk_swap L xs k l1 hk h
 have HFl := Lib.hid (fl_lt L)
 have HZ := Lib.hid (flipL_at L xs)
 have HZl := Lib.hid (flipL_len L xs)
 rw [hl]
 generalize flipL L xs = zs at *
 generalize 2 ^ L = n at *
 have hmk := run_make_cx n (by omega) w
 obtain ⟨W2, hcp, hC2, hg2⟩ : ∃ W2, (Builtin.copy_ #[25, 25] 3 #[.slice (some ⟨w.heap.size, 0, none⟩) n n, .slice (some ⟨b, o, none⟩) n cap]).run Tryz.prog (w.alloc (.cells (madeCells #[.int .i64 0, .int .i64 0] (n * 2)) 50)) = .ok (.int .i64 n) W2 ∧ CellsAt W2 w.heap.size 50 (gcells xs).toArray ∧ Gr w W2 := by
  have M0 := CellsAt.new w 50 (madeCells #[.int .i64 0, .int .i64 0] (n * 2))
  have M1 := size_madeCells #[.int .i64 0, .int .i64 0] (n * 2)
  have g1 := (Gr.refl w).alloc (madeCells #[.int .i64 0, .int .i64 0] (n * 2)) 50
  have hL := gcells_len xs
  have hr := run_copy_cx (w.alloc (.cells (madeCells #[.int .i64 0, .int .i64 0] (n * 2)) 50)) 3 w.heap.size n n ⟨b, o, none⟩ n cap _ 50 (gcells xs) M0
   (by rw [hL, hl]; simp) (by
    intro j v hj
    rw [Addr.add_lit]
    obtain ⟨j', x, hx, h⟩ := gcells_inv xs j v hj
    have hcx := hc j' x hx
    rcases h with ⟨rfl, rfl⟩ | ⟨rfl, rfl⟩
    ·exact (g1.cell (p := ⟨b, o + j' * 2, none⟩) hb).trans hcx.1
    ·exact (g1.cell (p := ⟨b, o + j' * 2 + 1, none⟩) hb).trans hcx.2)
   (by rw [hL, hl, M1]; omega) (by
    intro v hv
    obtain ⟨j, hj, rfl⟩ := List.mem_iff_getElem.1 hv
    obtain ⟨j', x, hx, h⟩ := gcells_inv xs j _ (List.getElem?_eq_getElem hj)
    rcases h with ⟨_, h⟩ | ⟨_, h⟩ <;> rw [h] <;> rfl)
  have hd : (madeCells #[.int .i64 0, .int .i64 0] (n * 2)).toList.drop (gcells xs).length = [] := List.drop_eq_nil_of_le (by rw [hL, hl]; simp [M1])
  rw [hd, List.append_nil] at hr
  refine ⟨_, ?_, setRow_heap _ _ _ _ _ _ M0, ⟨below_setRow g1.out (Nat.le_refl _) _⟩⟩
  rw [hr]
  simp [goInt]
 have S0 : (gcells xs).toArray.size = n * 2 := by have := gcells_len xs; simp only [List.size_toArray]; omega
 clear hc hl hb
 go_enter Tryz.func106, Tryz.ntmps106
 go_wp2_with (first | (go_at_call 34; refine (HG.out _).mono ?_; rintro e wz ⟨rfl, rfl⟩))
 go_loopw [7, 8, 26] (fun _ _ i wr => ∃ k : Nat, ∃ c : Array Value, k ≤ n ∧ i = .int .i64 k ∧ CellsAt wr wz.heap.size 50 c ∧ c.size = n * 2 ∧ (∀ j, j < n → c[j * 2]? = some (.int .i64 (yk L xs k j).re) ∧ c[j * 2 + 1]? = some (.int .i64 (yk L xs k j).im)) ∧ Gr wz wr)
  (fun _ _ i _ => n - (intOf i).toNat)
 case atStart =>
  refine ⟨0, _, by omega, rfl, hC2, S0, fun j hj => ?_, hg2⟩
  rw [HY0.out]
  simpa using gcells_at xs j _ (HX j hj)
 case round =>
  clear hC2 hg2 hmk hcp S0 HX
  obtain ⟨k, c, hk, rfl, hC, hs, hj, hg⟩ := hrel
  by_cases hlt : k < n
  ·have HA := Lib.hid (HF.out k (by omega))
   have hfl := HFl.out k
   by_cases hsw : k < fl L k
   ·obtain ⟨e1, e2, e3, e4, e5⟩ := HYw.out k hlt hsw
    have E := Lib.hid (And.intro e3 (And.intro e4 e5))
    have q0 := (hj k hlt).1
    have q1 := (hj k hlt).2
    have p0 := (hj _ hfl).1
    have p1 := (hj _ hfl).2
    rw [e2] at q0 q1
    rw [e1] at p0 p1
    clear e1 e2 e3 e4 e5
    have HJ := Lib.hid hj
    have HS := Lib.hid hs
    clear hj hs HF HFl HY0 HYn HYs HYw
    have q2 := hC.cell (k * 2)
    have q3 := hC.cell (k * 2 + 1)
    have p2 := hC.cell (fl L k * 2)
    have p3 := hC.cell (fl L k * 2 + 1)
    rw [q0] at q2
    rw [q1] at q3
    rw [p0] at p2
    rw [p1] at p3
    have f0 := hC.frozen (k * 2)
    have f1 := hC.frozen (k * 2 + 1)
    have f2 := hC.frozen (fl L k * 2)
    have f3 := hC.frozen (fl L k * 2 + 1)
    clear q0 q1 p0 p1
    have hBl := hC.lt
    generalize fl L k = f at *
    generalize xs.getD f gi0 = gf at *
    generalize xs.getD k gi0 = gk at *
    have hi1 : (f : Int) < n := by omega
    have hi2 : (k : Int) < f := by omega
    have hi3 : ¬ f = k := by omega
    have hi4 : ¬ k = f := by omega
    go_wp2_with (first | (go_at_call 148; refine (HA.out _).mono ?_; rintro e wy ⟨rfl, rfl⟩))
    go_region
    go_wp2_with fail
    have hC4 := ((((hC.set (k * 2) (.int .i64 gf.re)).set (k * 2 + 1) (.int .i64 gf.im)).set (f * 2) (.int .i64 gk.re)).set (f * 2 + 1) (.int .i64 gk.im)).drewN 1
    have hg4 := ((((hg.setCell (a := ⟨wz.heap.size, k * 2, none⟩) (Nat.le_refl _) (.int .i64 gf.re)).setCell (a := ⟨wz.heap.size, k * 2 + 1, none⟩) (Nat.le_refl _) (.int .i64 gf.im)).setCell (a := ⟨wz.heap.size, f * 2, none⟩) (Nat.le_refl _) (.int .i64 gk.re)).setCell (a := ⟨wz.heap.size, f * 2 + 1, none⟩) (Nat.le_refl _) (.int .i64 gk.im)).drew
    obtain ⟨E1, E2, E3⟩ := E.out
    go_roundw
    case rel =>
     refine ⟨k + 1, _, by omega, by go_num, hC4, by simpa using HS.out, fun j hj => ?_, hg4⟩
     have hs := HS.out
     by_cases e : j = k
     ·subst e
      rw [E1]
      constructor
      ·rw [Array.getElem?_setIfInBounds, if_neg (by omega), Array.getElem?_setIfInBounds, if_neg (by omega), Array.getElem?_setIfInBounds, if_neg (by omega), Array.getElem?_setIfInBounds, if_pos rfl, if_pos (by omega)]
      ·rw [Array.getElem?_setIfInBounds, if_neg (by omega), Array.getElem?_setIfInBounds, if_neg (by omega), Array.getElem?_setIfInBounds, if_pos rfl, if_pos (by simp only [Array.size_setIfInBounds]; omega)]
     ·by_cases e' : j = f
      ·subst e'
       rw [E2]
       constructor
       ·rw [Array.getElem?_setIfInBounds, if_neg (by omega), Array.getElem?_setIfInBounds, if_pos rfl, if_pos (by simp only [Array.size_setIfInBounds]; omega)]
       ·rw [Array.getElem?_setIfInBounds, if_pos rfl, if_pos (by simp only [Array.size_setIfInBounds]; omega)]
      ·rw [E3 j hj e e']
       constructor
       ·rw [Array.getElem?_setIfInBounds, if_neg (by omega), Array.getElem?_setIfInBounds, if_neg (by omega), Array.getElem?_setIfInBounds, if_neg (by omega), Array.getElem?_setIfInBounds, if_neg (by omega)]
        exact (HJ.out j hj).1
       ·rw [Array.getElem?_setIfInBounds, if_neg (by omega), Array.getElem?_setIfInBounds, if_neg (by omega), Array.getElem?_setIfInBounds, if_neg (by omega), Array.getElem?_setIfInBounds, if_neg (by omega)]
        exact (HJ.out j hj).2
    case measure => simp [intOf]; omega
   ·have hst := HYs.out k
    have HJ := Lib.hid hj
    have HE := Lib.hid fun j hj => hst j hlt hj (by omega)
    clear hj hst HF HFl HY0 HYn HYs HYw
    generalize fl L k = f at *
    go_wp2_with (first | (go_at_call 148; refine (HA.out _).mono ?_; rintro e wy ⟨rfl, rfl⟩))
    go_roundw
    case rel => exact ⟨k + 1, c, by omega, by go_num, hC, hs, fun j hj => by rw [HE.out j hj]; exact HJ.out j hj, hg⟩
    case measure => simp [intOf]; omega
  ·have he : k = n := by omega
   subst he
   go_wp2_with fail
   go_ret2
   refine ⟨.slice (some ⟨wz.heap.size, 0, none⟩) k k, rfl, ⟨some ⟨wz.heap.size, 0, none⟩, k, by rw [HZl.out], by rw [HZl.out]; omega, by unfold maxLen; omega, fun _ => ⟨wz.heap.size, 0, rfl, hC.lt, fun j x hx => ?_⟩⟩, hg⟩
   have hjl : j < k := by
    have := (List.getElem?_eq_some_iff.1 hx).1
    rwa [HZl.out] at this
   rw [HZ.out j hjl] at hx
   obtain rfl := Option.some.inj hx
   rw [hC.cell, hC.cell, Nat.zero_add, ← HYn.out j hjl]
   exact hj j hjl
end
section
open Go.ChangeShapes Go.WideShapes Go.ChangeAt Go.RowKit
set_option linter.unusedVariables false
end
end Go.Proofs.YtdignnmpfkgkoaaGreat
