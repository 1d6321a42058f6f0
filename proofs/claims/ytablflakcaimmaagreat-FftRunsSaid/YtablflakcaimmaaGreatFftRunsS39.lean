import Derived.Test.YtablflakcaimmaaGreatFftRunsS29
import Derived.Test.YtablflakcaimmaaGreatFftRunsS31
import Derived.Test.YtablflakcaimmaaGreatFftRunsS38
namespace Go.Proofs.YtablflakcaimmaaGreat
section
open Go.ChangeShapes Go.WideShapes Go.ChangeAt Go.RowKit
set_option linter.unusedVariables false
set_option maxRecDepth 100000
theorem twoAt_eq (xs ws : List Gi) (h bits s : Nat) (mo : Int) (inv : Bool) (i : Nat) : twoAt xs ws h bits s mo inv i =
 if i % (2 * h) < h then pairUp bits s mo (xs.getD i ⟨0, 0⟩) (xs.getD (i + h) ⟨0, 0⟩) (rootOf ws inv (i % (2 * h) * (xs.length / (2 * h)))) else pairDown bits s mo (xs.getD (i - h) ⟨0, 0⟩) (xs.getD i ⟨0, 0⟩) (rootOf ws inv ((i % (2 * h) - h) * (xs.length / (2 * h)))) := rfl
theorem rootOf_bd (ws : List Gi) (inv : Bool) (k : Nat) (l : Int) (hk : k < ws.length) (h : allIn l ws = true) : absI (rootOf ws inv k).re ≤ l ∧ absI (rootOf ws inv k).im ≤ l := by
 obtain ⟨x, hx⟩ := get_of_lt hk
 have hb := (allIn_iff _ _).1 h x (List.mem_of_getElem? hx)
 have hg : ws.getD k ⟨0, 0⟩ = x := by rw [List.getD_eq_getElem?_getD, hx]; rfl
 unfold rootOf
 rw [hg]
 cases inv
 ·exact hb
 ·refine ⟨hb.1, ?_⟩
  have := absI_le.1 hb.2
  exact absI_le.2 (by show -l ≤ -x.im ∧ -x.im ≤ l; omega)
theorem pass_nums (n h u i : Nat) (hn : n = 2 * h * u) (h1 : 1 ≤ h) (hi : i < n) :
 (i % (2 * h) < h → i + h < n ∧ i % (2 * h) * u < n) ∧ (h ≤ i % (2 * h) → h ≤ i ∧ (i % (2 * h) - h) * u < n) ∧ i % (2 * h) < 2 * h ∧ n / (2 * h) = u := by
 have hd : 0 < 2 * h := by omega
 have e := Nat.div_add_mod i (2 * h)
 have hlt := Nat.mod_lt i hd
 have hq : i / (2 * h) < u := by
  rw [Nat.div_lt_iff_lt_mul hd, Nat.mul_comm u, ← hn]
  exact hi
 have hq2 : 2 * h * (i / (2 * h)) + 2 * h ≤ n := by
  rw [hn, ← Nat.mul_succ]
  exact Nat.mul_le_mul_left _ hq
 have hu : 1 ≤ u := Nat.lt_of_le_of_lt (Nat.zero_le _) hq
 have hhu : h * u < n := by
  rw [hn, Nat.mul_assoc]
  have : 1 ≤ h * u := Nat.mul_le_mul h1 hu
  omega
 refine ⟨fun hj => ⟨by omega, ?_⟩, fun hj => ⟨?_, ?_⟩, hlt, ?_⟩
 ·exact Nat.lt_of_le_of_lt (Nat.mul_le_mul_right u (Nat.le_of_lt hj)) hhu
 ·exact Nat.le_trans hj (Nat.mod_le _ _)
 ·exact Nat.lt_of_le_of_lt (Nat.mul_le_mul_right u (by omega)) hhu
 ·rw [hn]
  exact Nat.mul_div_cancel_left u hd
theorem pass_walk (n h u i : Nat) (hn : n = 2 * h * u) (h1 : 1 ≤ h) (hi : i < n) (hn64 : n ≤ 64) :
 (i : Int).tmod ((2 * h : Nat) : Int) = ((i % (2 * h) : Nat) : Int) ∧ (n : Int).tdiv ((2 * h : Nat) : Int) = u ∧ IntKind.i64.wrap (u : Int) = u ∧ ¬ ((2 * h : Nat) : Int) = 0 ∧
 (i % (2 * h) < h → IntKind.i64.wrap (((i % (2 * h) : Nat) : Int) * u) = ((i % (2 * h) * u : Nat) : Int) ∧ IntKind.i64.wrap ((i : Int) + h) = ((i + h : Nat) : Int)) ∧
 (h ≤ i % (2 * h) → IntKind.i64.wrap (((i % (2 * h) : Nat) : Int) - h) = ((i % (2 * h) - h : Nat) : Int) ∧ IntKind.i64.wrap (((i % (2 * h) - h : Nat) : Int) * u) = (((i % (2 * h) - h) * u : Nat) : Int) ∧ IntKind.i64.wrap ((i : Int) - h) = ((i - h : Nat) : Int)) := by
 have hp := pass_nums n h u i hn h1 hi
 have e1 : (n : Int).tdiv ((2 * h : Nat) : Int) = ((n / (2 * h) : Nat) : Int) := by rw [Int.tdiv_eq_ediv_of_nonneg (by omega)]; simp
 rw [hp.2.2.2] at e1
 have e2 : (i : Int).tmod ((2 * h : Nat) : Int) = ((i % (2 * h) : Nat) : Int) := by rw [Int.tmod_eq_emod_of_nonneg (by omega)]; simp
 have hu : u ≤ n := by rw [← hp.2.2.2]; exact Nat.div_le_self _ _
 refine ⟨e2, e1, ?_, by omega, fun hj => ?_, fun hj => ?_⟩
 ·clear hp e1 e2 hn
  exact IntWalk.i64_in _ ⟨by omega, by omega⟩
 ·obtain ⟨h2, h3⟩ := hp.1 hj
  rw [show ((i % (2 * h) : Nat) : Int) * u = ((i % (2 * h) * u : Nat) : Int) by simp]
  generalize i % (2 * h) * u = k at *
  clear hp e1 e2 hn hu hj
  exact ⟨IntWalk.i64_in _ ⟨by omega, by omega⟩, by rw [IntWalk.i64_in _ ⟨by omega, by omega⟩]; omega⟩
 ·obtain ⟨h2, h3⟩ := hp.2.1 hj
  have h4 : i % (2 * h) ≤ i := Nat.mod_le _ _
  rw [show ((i % (2 * h) - h : Nat) : Int) * u = (((i % (2 * h) - h) * u : Nat) : Int) by simp]
  generalize (i % (2 * h) - h) * u = k at *
  generalize i % (2 * h) = j at *
  clear hp e1 e2 hn hu
  exact ⟨by rw [IntWalk.i64_in _ ⟨by omega, by omega⟩]; omega, IntWalk.i64_in _ ⟨by omega, by omega⟩, by rw [IntWalk.i64_in _ ⟨by omega, by omega⟩]; omega⟩
set_option maxRecDepth 10000 in set_option maxHeartbeats 2000000 in
theorem pass10_c (px pw : Option Addr) (cx cw : Nat) (xs ws : List Gi) (n h u bits s : Nat) (mo : Int) (inv : Bool) (hn : xs.length = n) (hm : ws.length = n) (hu : n = 2 * h * u) (h1 : 1 ≤ h) (hn0 : ¬ n = 0) (hn64 : n ≤ 64)
 (hb : bits ≤ 29) (hs : s ≤ 3) (m0 : 0 ≤ mo) (m1 : mo ≤ 2) (hx : allIn 2147483648 xs = true) (hw : allIn (2 ^ bits) ws = true) (w : World) (hvx : CxsAt w (.slice px n cx) xs) (hvw : CxsAt w (.slice pw n cw) ws) :
 Calls Tryz.prog 47 #[.slice px n cx, .slice pw n cw, .int .i64 h, .int .i64 bits, .int .i64 s, .int .i64 mo, .bool inv] w fun e w' => ∃ v', e = .returned v' ∧ CxsAt w' v' (twoL xs ws h bits s mo inv) ∧ Gr w w' := by
 obtain ⟨i0, hi, hz0, hz1, hz2⟩ := info_parts info_cx
 have hL : twoL xs ws h bits s mo inv = (List.range n).map (twoAt xs ws h bits s mo inv) := by unfold twoL; rw [hn]
 rw [hL]
 ·obtain ⟨b, o, cap, hvv, hlen, hbl, hc⟩ := hvx.at (by intro e; rw [e] at hn; simp at hn; omega)
  rw [hn] at hvv
  cases hvv
  have hh64 : 2 * h ≤ 64 := by
   have hu1 : 1 ≤ u := by
    rcases Nat.eq_zero_or_pos u with e | e
    ·rw [e] at hu
     omega
    ·exact e
   have : 2 * h * 1 ≤ 2 * h * u := Nat.mul_le_mul_left _ hu1
   omega
  have HX := (allIn_iff _ _).1 hx
  have HC := Lib.hid fun j (hj : j < n) => hc j (xs.getD j ⟨0, 0⟩) (by rw [List.getD_eq_getElem?_getD, List.getElem?_eq_getElem (by omega)]; rfl)
  have HXB := Lib.hid fun j (hj : j < n) => HX (xs.getD j ⟨0, 0⟩) (by rw [List.getD_eq_getElem?_getD, List.getElem?_eq_getElem (by omega)]; exact List.getElem_mem _)
  have HRB := Lib.hid fun k (hk : k < n) => rootOf_bd ws inv k (2 ^ bits) (by omega) hw
  have hbb : (2 : Int) ^ bits ≤ 2147483648 := pow_le31 _ (by omega)
  have HRT := Lib.hid fun k (hk : k < n) W (hW : CxsAt W (.slice pw n cw) ws) => root10_c _ ws k inv (by omega) (fun a ha => by have := ((allIn_iff _ _).1 hw a ha).2; omega) W hW
  have HUP := Lib.hid fun a b w ha hb' hw' => up10_c a b w bits s mo hb hs m0 m1 ha hb' hw'
  have HDN := Lib.hid fun a b w ha hb' hw' => down10_c a b w bits s mo hb hs m0 m1 ha hb' hw'
  have HPN := Lib.hid fun i (hi : i < n) => pass_nums n h u i hu h1 hi
  have HPW := Lib.hid fun i (hi : i < n) => pass_walk n h u i hu h1 hi hn64
  have HAT := Lib.hid (twoAt_eq xs ws h bits s mo inv)
  rw [hn] at HAT
  have VW := Lib.hid hvw
  have hw2h : wrap64 (2 * (h : Int)) = ((2 * h : Nat) : Int) := by rw [IntWalk.wrap64_in _ (by omega)]; omega
  clear hc hvx hvw hx hw HX hL hu hbb hb hs m0 m1 hn hm hlen
  generalize twoAt xs ws h bits s mo inv = T at *
  go_enter Tryz.func47, Tryz.ntmps47
  go_wp2_with fail
  have hs0 : ((w.alloc (.cells #[] 55)).ownsRow w.heap.size 55 2 (.slice (some ⟨w.heap.size, 0, none⟩) 0 0) 0 []) := World.ownsRow_made w #[] 0 (Nat.le_refl _) (by unfold maxLen; omega) (by simp)
  go_loopw [16, 17, 18] (fun out i _ wr => ∃ j : Nat, j ≤ n ∧ i = .int .i64 j ∧ wr.ownsRow w.heap.size 55 2 out j (gcells ((List.range j).map T)) ∧ Gr w wr)
   (fun _ i _ _ => n - (intOf i).toNat)
  case atStart => exact ⟨0, by omega, rfl, hs0, (Gr.refl _).alloc _ _⟩
  case round =>
   clear hs0
   obtain ⟨i, hin, rfl, hrow, hg⟩ := hrel
   by_cases hlt : i < n
   ·have hp := HPN.out i hlt
    have hilt : (i : Int) < n := by omega
    obtain ⟨htm0, hnd0, hwu, hnz2, hwk, hwk2⟩ := HPW.out i hlt
    have htm : ∀ x : Int, x = ((2 * h : Nat) : Int) → (i : Int).tmod x = ((i % (2 * h) : Nat) : Int) := fun x e => by rw [e]; exact htm0
    have hnd : ∀ x : Int, x = ((2 * h : Nat) : Int) → (n : Int).tdiv x = u := fun x e => by rw [e]; exact hnd0
    clear htm0 hnd0
    have hnz : (((2 * h : Nat) : Int) == 0) = false := by simpa using hnz2
    have a0 := (HC.out i hlt).1
    have a1 := (HC.out i hlt).2
    have er : (List.range (i + 1)).map T = (List.range i).map T ++ [T i] := by rw [List.range_succ, List.map_append]; rfl
    have ER := Lib.hid er
    clear er
    by_cases hj : i % (2 * h) < h
    ·obtain ⟨hi2, hk⟩ := hp.1 hj
     have b0 := (HC.out (i + h) hi2).1
     have b1 := (HC.out (i + h) hi2).2
     have hTi := HAT.out i
     rw [if_pos hj, hp.2.2.2] at hTi
     have hxa := HXB.out i hlt
     have hxb := HXB.out (i + h) hi2
     have hrb := HRB.out _ hk
     have HR1 := Lib.hid (HRT.out _ hk)
     have HU1 := Lib.hid (HUP.out (xs.getD i ⟨0, 0⟩) (xs.getD (i + h) ⟨0, 0⟩) (rootOf ws inv (i % (2 * h) * u)) hxa hxb hrb)
     have HTI := Lib.hid hTi
     obtain ⟨hmk, hwi⟩ := hwk hj
     clear hwk hwk2
     have hi2' : ((i + h : Nat) : Int) < n := by omega
     have hj' : ((i % (2 * h) : Nat) : Int) < h := by omega
     have hw2w : IntKind.i64.wrap (2 * (h : Int)) = ((2 * h : Nat) : Int) := by rw [IntWalk.i64_in _ ⟨by omega, by omega⟩]; omega
     have hdz : ¬ 2 * h = 0 := by omega
     have VW1 := Lib.hid (VW.out.gr hg)
     have hblw : b < wr.heap.size := Nat.lt_of_lt_of_le hbl hg.size
     clear HC HXB HRB HRT HUP HDN HPN HPW HAT hTi hxa hxb hrb hp hj
     generalize i % (2 * h) * u = k at *
     generalize rootOf ws inv k = R at *
     generalize i % (2 * h) = jj at *
     generalize 2 * h = d at *
     generalize i + h = i2 at *
     generalize pairUp bits s mo (xs.getD i ⟨0, 0⟩) (xs.getD i2 ⟨0, 0⟩) R = P at *
     generalize xs.getD i ⟨0, 0⟩ = A at *
     generalize xs.getD i2 ⟨0, 0⟩ = Bb at *
     obtain ⟨ax, ay⟩ := A
     obtain ⟨bx, by0⟩ := Bb
     obtain ⟨rx, ry⟩ := R
     obtain ⟨p0, p1⟩ := P
     simp only at a0 a1 b0 b1 HR1 HU1
     have HW8 := Lib.hid (And.intro hnd (And.intro hwu (And.intro hmk (And.intro hwi (And.intro hw2w hnz2)))))
     clear hnd hwu hmk hwi hw2w hnz2
     go_wp2_with fail
     obtain ⟨hnd, hwu, hmk, hwi, hw2w, hnz2⟩ := HW8.out
     clear HW8 hw2h htm hnz
     have KS : ∀ W, Gr w W → (W.cell? ⟨b, o + i * 2, none⟩ = some (.int .i64 ax) ∧ W.cell? ⟨b, o + i * 2 + 1, none⟩ = some (.int .i64 ay) ∧ W.cell? ⟨b, o + i2 * 2, none⟩ = some (.int .i64 bx) ∧ W.cell? ⟨b, o + i2 * 2 + 1, none⟩ = some (.int .i64 by0) ∧ b < W.heap.size ∧ Gr w W) := fun W hG => ⟨(hG.cell (p := ⟨b, o + i * 2, none⟩) hbl).trans a0, (hG.cell (p := ⟨b, o + i * 2 + 1, none⟩) hbl).trans a1, (hG.cell (p := ⟨b, o + i2 * 2, none⟩) hbl).trans b0, (hG.cell (p := ⟨b, o + i2 * 2 + 1, none⟩) hbl).trans b1, Nat.lt_of_lt_of_le hbl hG.size, hG⟩
     refine wp_region_held_drew (S := fun W => W.cell? ⟨b, o + i * 2, none⟩ = some (.int .i64 ax) ∧ W.cell? ⟨b, o + i * 2 + 1, none⟩ = some (.int .i64 ay) ∧ W.cell? ⟨b, o + i2 * 2, none⟩ = some (.int .i64 bx) ∧ W.cell? ⟨b, o + i2 * 2 + 1, none⟩ = some (.int .i64 by0) ∧ b < W.heap.size ∧ Gr w W) rfl (KS _ (Gr.drew hg)) (fun hS => ?_)
     refine hT 0 ?_
     refine hT 1 ?_
     refine hT 2 ?_
     refine hT 3 ?_
     refine hT 4 ?_
     refine hT 5 ?_
     refine hT 6 ?_
     refine hT 7 ?_
     refine hT 8 ?_
     refine hT 9 ?_
     refine hT 10 ?_
     refine hT 11 ?_
     refine hT 12 ?_
     refine hT 13 ?_
     refine hT 14 ?_
     refine hT 15 ?_
     refine hT 16 ?_
     refine hT 17 ?_
     refine hT 18 ?_
     refine hT 20 ?_
     refine hT 21 ?_
     refine hT 22 ?_
     refine hR 19 fun K hK => ?_
     go_simp
     go_at_call 67
     refine (HR1.out _ (VW.out.gr (by go_split_ands; assumption))).mono ?_
     rintro e w5 ⟨rfl, g5⟩
     have gr5 := g5
     have gw5 : Gr w w5 := Gr.trans (by go_split_ands; assumption) g5
     have hrow5 : w5.ownsRow w.heap.size 55 2 u16 i (gcells ((List.range i).map T)) := ownsRow_gr (by exact ownsRow_gr hrow (Gr.drew (Gr.refl _))) g5
     refine hK.out _ _ ?_ (fun hHeld => ?_)
     ·(exact KS _ gw5)
     clear hK K
     try simp only [Act.put, putS]
     refine hR 23 fun K hK => ?_
     go_simp
     go_at_call 78
     refine (HU1.out _).mono ?_
     rintro e w6 ⟨rfl, g6⟩
     have gw6 : Gr w w6 := gw5.trans g6
     have hrow6 := (ownsRow_gr hrow5 g6).alloc (.cells #[.int .i64 p0, .int .i64 p1] 55)
     refine hK.out _ _ ?_ (fun hHeld => ?_)
     ·(exact KS _ gw6)
     clear hK K
     try simp only [Act.put, putS]
     refine hR 24 fun K hK => ?_
     go_simp
     have gw7 : Gr w (w6.alloc (.cells #[.int .i64 p0, .int .i64 p1] 55)) := gw6.alloc _ _
     refine hK.out _ _ ?_ (fun hHeld => ?_)
     ·(exact KS _ gw7)
     clear hK K
     try simp only [Act.put, putS]
     have hsz6 := gw6.size
     refine hR 25 fun K hK => ?_
     refine Go.step_append_lies _ rfl (.tmp 34) (.tmp 58) 22 rfl w.heap.size 55 i0 (.agg #[.int .i64 0, .int .i64 0]) 2 16 Tryz.underlying22 hi hz0 hz1 hz2 rfl (by decide) u16 i _ rfl hrow6 ⟨w6.heap.size, 0, none⟩ 1 1 [.int .i64 p0, .int .i64 p1] rfl rfl (news_two _ _ _ _) (by simp [Value.oneCell']) (by omega) (by unfold maxLen; omega) (by omega) (by simp; omega) _ rfl ?_
     intro gb gcap w8 hown8 hgrow8 hor8 hlt8
     have gw8 : Gr w w8 := gw7.grown hgrow8 (fun k e => (hrow6.lt k e).1)
     refine hK.out _ _ ?_ (fun hHeld => ?_)
     ·(exact KS _ gw8)
     clear hK K
     try simp only [Act.put, putS]
     refine hT 26 ?_
     refine wpAnyH_done (by kernel_rfl) ?_ _
     have e : gcells ((List.range i).map T) ++ [.int .i64 p0, .int .i64 p1] = gcells ((List.range (i + 1)).map T) := by
      rw [ER.out, HTI.out, gcells_snoc]
     rw [e] at hown8
     go_wp2_with fail
     go_roundw
     case rel => exact ⟨i + 1, by omega, by go_num, hown8, gw8⟩
     case measure => simp [intOf] <;> omega
    ·have hj2 : h ≤ i % (2 * h) := by omega
     obtain ⟨hih, hk⟩ := hp.2.1 hj2
     have hi2 : i - h < n := by omega
     have b0 := (HC.out (i - h) hi2).1
     have b1 := (HC.out (i - h) hi2).2
     have hTi := HAT.out i
     rw [if_neg hj, hp.2.2.2] at hTi
     have hxa := HXB.out i hlt
     have hxb := HXB.out (i - h) hi2
     have hrb := HRB.out _ hk
     have HR1 := Lib.hid (HRT.out _ hk)
     have HU1 := Lib.hid (HDN.out (xs.getD (i - h) ⟨0, 0⟩) (xs.getD i ⟨0, 0⟩) (rootOf ws inv ((i % (2 * h) - h) * u)) hxb hxa hrb)
     have HTI := Lib.hid hTi
     obtain ⟨hwj, hmk, hwi⟩ := hwk2 hj2
     clear hwk hwk2
     have hi2' : ((i - h : Nat) : Int) < n := by omega
     have hj' : (h : Int) ≤ ((i % (2 * h) : Nat) : Int) := by omega
     have hw2w : IntKind.i64.wrap (2 * (h : Int)) = ((2 * h : Nat) : Int) := by rw [IntWalk.i64_in _ ⟨by omega, by omega⟩]; omega
     have hdz : ¬ 2 * h = 0 := by omega
     have VW1 := Lib.hid (VW.out.gr hg)
     have hblw : b < wr.heap.size := Nat.lt_of_lt_of_le hbl hg.size
     clear HC HXB HRB HRT HUP HDN HPN HPW HAT hTi hxa hxb hrb hp hj hj2 hih
     generalize (i % (2 * h) - h) * u = k at *
     generalize hjh : i % (2 * h) - h = jh at *
     clear hjh
     generalize rootOf ws inv k = R at *
     generalize i % (2 * h) = jj at *
     generalize 2 * h = d at *
     generalize i - h = i2 at *
     generalize pairDown bits s mo (xs.getD i2 ⟨0, 0⟩) (xs.getD i ⟨0, 0⟩) R = P at *
     generalize xs.getD i ⟨0, 0⟩ = A at *
     generalize xs.getD i2 ⟨0, 0⟩ = Bb at *
     obtain ⟨ax, ay⟩ := A
     obtain ⟨bx, by0⟩ := Bb
     obtain ⟨rx, ry⟩ := R
     obtain ⟨p0, p1⟩ := P
     simp only at a0 a1 b0 b1 HR1 HU1
     have HW8 := Lib.hid (And.intro hnd (And.intro hwu (And.intro hmk (And.intro hwi (And.intro hw2w (And.intro hnz2 hwj))))))
     clear hnd hwu hmk hwi hw2w hnz2 hwj
     go_wp2_with fail
     obtain ⟨hnd, hwu, hmk, hwi, hw2w, hnz2, hwj⟩ := HW8.out
     clear HW8 hw2h htm hnz
     have KS : ∀ W, Gr w W → (W.cell? ⟨b, o + i * 2, none⟩ = some (.int .i64 ax) ∧ W.cell? ⟨b, o + i * 2 + 1, none⟩ = some (.int .i64 ay) ∧ W.cell? ⟨b, o + i2 * 2, none⟩ = some (.int .i64 bx) ∧ W.cell? ⟨b, o + i2 * 2 + 1, none⟩ = some (.int .i64 by0) ∧ b < W.heap.size ∧ Gr w W) := fun W hG => ⟨(hG.cell (p := ⟨b, o + i * 2, none⟩) hbl).trans a0, (hG.cell (p := ⟨b, o + i * 2 + 1, none⟩) hbl).trans a1, (hG.cell (p := ⟨b, o + i2 * 2, none⟩) hbl).trans b0, (hG.cell (p := ⟨b, o + i2 * 2 + 1, none⟩) hbl).trans b1, Nat.lt_of_lt_of_le hbl hG.size, hG⟩
     refine wp_region_held_drew (S := fun W => W.cell? ⟨b, o + i * 2, none⟩ = some (.int .i64 ax) ∧ W.cell? ⟨b, o + i * 2 + 1, none⟩ = some (.int .i64 ay) ∧ W.cell? ⟨b, o + i2 * 2, none⟩ = some (.int .i64 bx) ∧ W.cell? ⟨b, o + i2 * 2 + 1, none⟩ = some (.int .i64 by0) ∧ b < W.heap.size ∧ Gr w W) rfl (KS _ (Gr.drew hg)) (fun hS => ?_)
     refine hT 0 ?_
     refine hT 1 ?_
     refine hT 2 ?_
     refine hT 3 ?_
     refine hT 4 ?_
     refine hT 5 ?_
     refine hT 6 ?_
     refine hT 7 ?_
     refine hT 8 ?_
     refine hT 9 ?_
     refine hT 10 ?_
     refine hT 11 ?_
     refine hT 12 ?_
     refine hT 13 ?_
     refine hT 14 ?_
     refine hT 15 ?_
     refine hT 16 ?_
     refine hT 17 ?_
     refine hT 18 ?_
     refine hT 19 ?_
     refine hT 20 ?_
     refine hT 22 ?_
     refine hT 23 ?_
     refine hT 24 ?_
     refine hR 21 fun K hK => ?_
     go_simp
     go_at_call 67
     refine (HR1.out _ (VW.out.gr (by go_split_ands; assumption))).mono ?_
     rintro e w5 ⟨rfl, g5⟩
     have gr5 := g5
     have gw5 : Gr w w5 := Gr.trans (by go_split_ands; assumption) g5
     have hrow5 : w5.ownsRow w.heap.size 55 2 u16 i (gcells ((List.range i).map T)) := ownsRow_gr (by exact ownsRow_gr hrow (Gr.drew (Gr.refl _))) g5
     refine hK.out _ _ ?_ (fun hHeld => ?_)
     ·(exact KS _ gw5)
     clear hK K
     try simp only [Act.put, putS]
     refine hR 25 fun K hK => ?_
     go_simp
     go_at_call 79
     refine (HU1.out _).mono ?_
     rintro e w6 ⟨rfl, g6⟩
     have gw6 : Gr w w6 := gw5.trans g6
     have hrow6 := (ownsRow_gr hrow5 g6).alloc (.cells #[.int .i64 p0, .int .i64 p1] 55)
     refine hK.out _ _ ?_ (fun hHeld => ?_)
     ·(exact KS _ gw6)
     clear hK K
     try simp only [Act.put, putS]
     refine hR 26 fun K hK => ?_
     go_simp
     have gw7 : Gr w (w6.alloc (.cells #[.int .i64 p0, .int .i64 p1] 55)) := gw6.alloc _ _
     refine hK.out _ _ ?_ (fun hHeld => ?_)
     ·(exact KS _ gw7)
     clear hK K
     try simp only [Act.put, putS]
     have hsz6 := gw6.size
     refine hR 27 fun K hK => ?_
     refine Go.step_append_lies _ rfl (.tmp 60) (.tmp 86) 22 rfl w.heap.size 55 i0 (.agg #[.int .i64 0, .int .i64 0]) 2 16 Tryz.underlying22 hi hz0 hz1 hz2 rfl (by decide) u16 i _ rfl hrow6 ⟨w6.heap.size, 0, none⟩ 1 1 [.int .i64 p0, .int .i64 p1] rfl rfl (news_two _ _ _ _) (by simp [Value.oneCell']) (by omega) (by unfold maxLen; omega) (by omega) (by simp; omega) _ rfl ?_
     intro gb gcap w8 hown8 hgrow8 hor8 hlt8
     have gw8 : Gr w w8 := gw7.grown hgrow8 (fun k e => (hrow6.lt k e).1)
     refine hK.out _ _ ?_ (fun hHeld => ?_)
     ·(exact KS _ gw8)
     clear hK K
     try simp only [Act.put, putS]
     refine hT 28 ?_
     refine wpAnyH_done (by kernel_rfl) ?_ _
     have e : gcells ((List.range i).map T) ++ [.int .i64 p0, .int .i64 p1] = gcells ((List.range (i + 1)).map T) := by
      rw [ER.out, HTI.out, gcells_snoc]
     rw [e] at hown8
     go_wp2_with fail
     go_roundw
     case rel => exact ⟨i + 1, by omega, by go_num, hown8, gw8⟩
     case measure => simp [intOf] <;> omega
   ·obtain rfl : i = n := by omega
    clear HC HXB HRB HRT HUP HDN HPN HPW HAT
    go_wp2_with fail
    go_ret
    exact ⟨_, rfl, CxsAt.of_row hrow, hg⟩
theorem tw_in {fo b p lo ke sc mo : Int} {L n B : Nat} (H : PlF fo b p lo ke sc mo L n B) : allIn (2 ^ B) (tw n B) = true := by
 obtain ⟨_, _, hlen⟩ := H.lens
 rw [allIn_bd, tw_eq]
 rcases H.sizes with ⟨_, _, _, rfl⟩ | ⟨_, _, _, rfl⟩
 ·exact (tw_all15 n hlen).2
 ·exact (tw_all31 n hlen).2
theorem shift15_c {fo b p lo ke sc mo : Int} {L n B : Nat} (H : PlF fo b p lo ke sc mo L n B) (iv : Bool) (k : Int) (hk : k = 2 ∨ k = 4) (v : Value) (xs : List Gi) (hx : allIn p xs = true) (w : World) (hv : CxsAt w v xs) :
 CW 46 #[v, .agg #[.int .i64 fo, .int .i64 lo, .int .i64 ke, .int .i64 sc, .int .i64 mo, .bool iv], .int .i64 k] w (.int .i64 (shOf sc k p xs)) :=by
 delta CW
 obtain ⟨_, hsc, _⟩ := H.kinds
 have hp : p ≤ 2147483648 ∧ 0 ≤ p := by rcases H.sizes with h | h <;> omega
 unfold shOf
 rcases hsc with rfl | rfl | rfl
 ·rw [if_pos rfl]
  exact shift15_0 v fo lo ke mo k iv hk w
 ·rw [if_neg (by decide), if_pos rfl]
  have hm := maxG_le xs p hp.2 ((allIn_iff p xs).1 hx)
  exact shift15_1 v xs fo lo ke mo k (maxG xs) _ iv (Lib.hid fun W h => max09_c v xs (allIn_more hx hp.1) W h) (Lib.hid fun W => calls_gr (pre09_c k (maxG xs) fo b p H.fb hk (maxG_nonneg xs) hm W)) w hv
 ·rw [if_neg (by decide), if_neg (by decide)]
  exact shift15_2 v fo lo ke mo k iv hk w
theorem rpass2_c {fo b p lo ke sc mo : Int} {L n B : Nat} (H : PlF fo b p lo ke sc mo L n B) (iv : Bool) (px : Option Addr) (cx : Nat) (xs : List Gi) (hl : xs.length = n) (hx : allIn p xs = true) (h u : Nat) (hu : n = 2 * h * u) (h1 : 1 ≤ h) (s : Int) (s0 : 0 ≤ s) (s3 : s ≤ 3)
 (vw : Value) (w : World) (hvx : CxsAt w (.slice px xs.length cx) xs) (hvw : CxsAt w vw (tw n B)) :
 Calls Tryz.prog 47 #[.slice px xs.length cx, vw, .int .i64 h, .int .i64 B, .int .i64 s, .int .i64 mo, .bool iv] w fun e w' => ∃ v', e = .returned v' ∧ CxsAt w' v' (twoL xs (tw n B) h B s.toNat mo iv) ∧ Gr w w' := by
 obtain ⟨pw, cw, rfl⟩ := hvw.len
 obtain ⟨_, h4, _⟩ := H.lens
 obtain ⟨hmo, _⟩ := H.kinds
 have hp : p ≤ 2147483648 ∧ B ≤ 29 := by rcases H.sizes with h | h <;> omega
 have hs : ((s.toNat : Nat) : Int) = s := Int.toNat_of_nonneg s0
 rw [tw_len] at hvw ⊢
 rw [hl] at hvx ⊢
 have := pass10_c px pw cx cw xs (tw n B) n h u B s.toNat mo iv hl (tw_len n B) hu h1 (by omega) (by omega) hp.2 (by omega) (by omega) (by omega) (allIn_more hx hp.1) (tw_in H) w hvx hvw
 rw [hs] at this
 exact this
theorem rpass4_c {fo b p lo ke sc mo : Int} {L n B : Nat} (H : PlF fo b p lo ke sc mo L n B) (iv : Bool) (px : Option Addr) (cx : Nat) (xs : List Gi) (hl : xs.length = n) (hx : allIn p xs = true) (h u : Nat) (hu : n = 4 * h * u) (h1 : 1 ≤ h) (u1 : 1 ≤ u) (s : Int) (s0 : 0 ≤ s) (s3 : s ≤ 3)
 (vw : Value) (w : World) (hvx : CxsAt w (.slice px xs.length cx) xs) (hvw : CxsAt w vw (tw n B)) :
 Calls Tryz.prog 48 #[.slice px xs.length cx, vw, .int .i64 h, .int .i64 B, .int .i64 s, .int .i64 mo, .bool iv] w fun e w' => ∃ v', e = .returned v' ∧ CxsAt w' v' (fourL xs (tw n B) h B s.toNat mo iv) ∧ Gr w w' := by
 obtain ⟨pw, cw, rfl⟩ := hvw.len
 obtain ⟨_, h4, _⟩ := H.lens
 obtain ⟨hmo, _⟩ := H.kinds
 have hp : p ≤ 2147483648 ∧ B ≤ 29 := by rcases H.sizes with h | h <;> omega
 have hs : ((s.toNat : Nat) : Int) = s := Int.toNat_of_nonneg s0
 rw [tw_len] at hvw ⊢
 rw [hl] at hvx ⊢
 have := pass11_c px pw cx cw xs (tw n B) n h u B s.toNat mo iv hl (tw_len n B) hu h1 u1 (by omega) hp.2 (by omega) (by omega) (by omega) (allIn_more hx hp.1) (tw_in H) w hvx hvw
 rw [hs] at this
 exact this
theorem rtwid15_c {fo b p lo ke sc mo : Int} {L n B : Nat} (H : PlF fo b p lo ke sc mo L n B) (w : World) : Calls Tryz.prog 35 #[.int .i64 lo, .int .i64 fo] w fun e w' => ∃ u, e = .returned u ∧ CxsAt w' u (tw n B) ∧ Gr w w' := by
 obtain ⟨h2, h4, _⟩ := H.lens
 have h := rTwid12_c lo n fo b p (by have := H.lo; omega) (by have := H.lo; omega) (by rw [H.lo, H.n, Int.toNat_natCast]; simp) H.fb w
 rw [show (56 - (b - 2)).toNat = 56 - B by have := H.bits; omega] at h
 exact h
theorem rbits15_c {fo b p lo ke sc mo : Int} {L n B : Nat} (H : PlF fo b p lo ke sc mo L n B) (w : World) : CW 36 #[.int .i64 fo] w (.int .i64 B) :=by
 delta CW
 have h := calls_gr (bits12_c fo b p H.fb w)
 rw [show b - 2 = (B : Int) by have := H.bits; omega] at h
 exact h
theorem clamped15_c {fo b p lo ke sc mo : Int} {L n B : Nat} (H : PlF fo b p lo ke sc mo L n B) (v : Value) (xs : List Gi) (hl : xs.length ≤ 100) (w : World) (hv : CxsAt w v xs) :
 Calls Tryz.prog 49 #[v, .int .i64 fo] w fun e w' => ∃ u, e = .returned u ∧ CxsAt w' u (xs.map (clampG p)) ∧ Gr w w' :=
 clamped15_of v xs fo p hl (Lib.hid fun x W => rclamp_c fo b p x H.fb W) w hv
theorem same15x_c (ys : List Gi) (p : Int) (u v : Value) (w : World) (hu : CxsAt w u ys) (hv : CxsAt w v (ys.map (clampG p))) :
 CW 32 #[u, v] w (.bool (!ys.any (offG p))) :=by
 delta CW
 cases ha : ys.any (offG p)
 ·rw [any_off.1 ha] at hv
  exact same03_c u v ys w hu hv
 ·refine same03_no u v ys _ w (by simp) (fun e => ?_) hu hv
  rw [any_off.2 e.symm] at ha
  cases ha
theorem next15_c {fo b p lo ke sc mo : Int} {L n B : Nat} (H : PlF fo b p lo ke sc mo L n B) (iv : Bool) (q : Gi) (hq : Fits n q) (k : BV) (hl : k.X.length = n) (hx : allIn p k.X = true) (hsh : k.sh.length ≤ 20) (e0 : -1000 ≤ k.ex) (e1 : k.ex ≤ 1000)
 (vx vs : Value) (w : World) (hvx : CxsAt w vx k.X) (hvs : NumsAt w vs k.sh) :
 Calls Tryz.prog 19 #[.agg #[vx, .int .i64 k.ex, .bool k.sat, vs], .agg #[.int .i64 fo, .int .i64 lo, .int .i64 ke, .int .i64 sc, .int .i64 mo, .bool iv], .agg #[.int .i64 q.re, .int .i64 q.im]] w fun e w' =>
  ∃ ux us, e = .returned (.agg #[ux, .int .i64 (nextB sc mo p iv B (tw n B) k q).ex, .bool (nextB sc mo p iv B (tw n B) k q).sat, us]) ∧ CxsAt w' ux (nextB sc mo p iv B (tw n B) k q).X ∧ NumsAt w' us (nextB sc mo p iv B (tw n B) k q).sh ∧ Gr w w' ∧ ∀ b, us.ownBlock = some b → w.heap.size ≤ b := by
 obtain ⟨bp, bc, rfl⟩ := hvx.len
 obtain ⟨sp, sl, rfl⟩ := hvs.len
 obtain ⟨_, h4, _⟩ := H.lens
 obtain ⟨X, ex, sat, sh⟩ := k
 simp only at hl hx hsh e0 e1 hvx hvs ⊢
 obtain ⟨re, im⟩ := q
 obtain ⟨hre, h, u, him, h1, u1, hn⟩ := hq
 simp only at hre him hn
 subst him
 obtain ⟨s, hs⟩ : ∃ s, shOf sc re p X = s := ⟨_, rfl⟩
 have hsb := shOf_bd sc re p X
 rw [hs] at hsb
 have HS := Lib.hid fun W (h : CxsAt W (.slice bp X.length bc) X) => shift15_c H iv re hre _ X hx W h
 rw [hs] at HS
 have HT := Lib.hid fun W => rtwid15_c H W
 have HB := Lib.hid fun W => rbits15_c H W
 have hex : wrap64 (ex + s) = ex + s := IntWalk.wrap64_in _ ⟨by omega, by omega⟩
 obtain ⟨v, hv⟩ : ∃ v, n = 2 * 1 * v := by
  rcases hre with rfl | rfl
  ·exact ⟨h * u, by rw [show 2 * 1 * (h * u) = 2 * h * u by rw [Nat.mul_one, Nat.mul_assoc]]; exact Int.ofNat.inj (by simpa using hn)⟩
  ·exact ⟨2 * (h * u), by rw [show 2 * 1 * (2 * (h * u)) = 4 * h * u by rw [Nat.mul_assoc 4 h u]; omega]; exact Int.ofNat.inj (by simpa using hn)⟩
 have H1 := Lib.hid fun vw W (h : CxsAt W (.slice bp X.length bc) X) (h' : CxsAt W vw (tw n B)) => rpass2_c H iv bp bc X hl hx 1 v hv (Nat.le_refl 1) s hsb.1 hsb.2 vw W h h'
 have hdone : ∀ (Y : List Gi), stepV sc p B mo iv (tw n B) X ⟨re, h⟩ = Y → Y.length = n := by
  intro Y e
  rw [← e]
  unfold stepV
  rw [passV_len]
  exact hl
 simp only [nextB, hs]
 rcases hre with rfl | rfl
 ·have hst : stepV sc p B mo iv (tw n B) X ⟨2, h⟩ = twoL X (tw n B) h B s.toNat mo iv := by unfold stepV passV; rw [hs, if_neg (show ¬ ((2 : Int) = 4) by decide)]; rfl
  have hYl := hdone _ hst
  rw [hst]
  by_cases hh : h = 1
  ·subst hh
   by_cases hsc : sc = 2
   ·subst hsc
    rw [if_pos rfl, if_pos rfl]
    have := next15_2as X (tw n B) (twoL X (tw n B) 1 B s.toNat mo iv) _ sh fo lo ke mo s B ex (ex + s) iv sat _ bp sp bc sl hsh hex HS HT HB H1 (Lib.hid fun v W h => clamped15_c H v _ (by rw [hYl]; omega) W h) (Lib.hid fun u v W h h' => same15x_c _ p u v W h h') w hvx hvs
    rw [Bool.not_not] at this
    exact this
   ·rw [if_neg hsc, if_neg hsc]
    exact next15_2a X (tw n B) _ sh fo lo ke mo s B ex (ex + s) sc iv sat bp sp bc sl hsh (by simp [hsc]) hex HS HT HB H1 w hvx hvs
  ·have hu : n = 2 * h * u := Int.ofNat.inj (by simpa using hn)
   have H2 := Lib.hid fun vw W (h' : CxsAt W (.slice bp X.length bc) X) (h'' : CxsAt W vw (tw n B)) => rpass2_c H iv bp bc X hl hx h u hu h1 s hsb.1 hsb.2 vw W h' h''
   have hhd : decide (1 < (h : Int)) = true := by simp; omega
   by_cases hsc : sc = 2
   ·subst hsc
    rw [if_pos rfl, if_pos rfl]
    have := next15_2bs X (tw n B) _ (twoL X (tw n B) h B s.toNat mo iv) _ sh fo lo ke mo s B ex (ex + s) h iv sat _ bp sp bc sl hsh hhd hex HS HT HB H1 H2 (Lib.hid fun v W h => clamped15_c H v _ (by rw [hYl]; omega) W h) (Lib.hid fun u v W h h' => same15x_c _ p u v W h h') w hvx hvs
    rw [Bool.not_not] at this
    exact this
   ·rw [if_neg hsc, if_neg hsc]
    exact next15_2b X (tw n B) _ _ sh fo lo ke mo s B ex (ex + s) h sc iv sat bp sp bc sl hsh hhd (by simp [hsc]) hex HS HT HB H1 H2 w hvx hvs
 ·have hst : stepV sc p B mo iv (tw n B) X ⟨4, h⟩ = fourL X (tw n B) h B s.toNat mo iv := by unfold stepV passV; rw [hs, if_pos rfl]; rfl
  have hYl := hdone _ hst
  rw [hst]
  have hu : n = 4 * h * u := Int.ofNat.inj (by simpa using hn)
  have H2 := Lib.hid fun vw W (h' : CxsAt W (.slice bp X.length bc) X) (h'' : CxsAt W vw (tw n B)) => rpass4_c H iv bp bc X hl hx h u hu h1 u1 s hsb.1 hsb.2 vw W h' h''
  by_cases hsc : sc = 2
  ·subst hsc
   rw [if_pos rfl, if_pos rfl]
   have := next15_4s X (tw n B) _ (fourL X (tw n B) h B s.toNat mo iv) _ sh fo lo ke mo s B ex (ex + s) h iv sat _ bp sp bc sl hsh hex HS HT HB H1 H2 (Lib.hid fun v W h => clamped15_c H v _ (by rw [hYl]; omega) W h) (Lib.hid fun u v W h h' => same15x_c _ p u v W h h') w hvx hvs
   rw [Bool.not_not] at this
   exact this
  ·rw [if_neg hsc, if_neg hsc]
   exact next15_4 X (tw n B) _ _ sh fo lo ke mo s B ex (ex + s) h sc iv sat bp sp bc sl hsh (by simp [hsc]) hex HS HT HB H1 H2 w hvx hvs
end
end Go.Proofs.YtablflakcaimmaaGreat
