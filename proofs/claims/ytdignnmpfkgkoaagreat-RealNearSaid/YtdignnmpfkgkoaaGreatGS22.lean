import Derived.Lib.SliceRun
import Derived.BigRegion
import Derived.Test.YtdignnmpfkgkoaaGreatGS21
namespace Go.Proofs.YtdignnmpfkgkoaaGreat
section
open Go.ChangeShapes Go.WideShapes Go.ChangeAt Go.RowKit
set_option linter.unusedVariables false
set_option linter.unusedSimpArgs false
set_option maxRecDepth 100000
set_option maxHeartbeats 1000000 in
theorem passKernel_c (fo lo ke sc mo h : Int) (iv : Bool) (w : World) :
 Calls Tryz.prog 112 #[.agg #[.int .i64 fo, .int .i64 lo, .int .i64 ke, .int .i64 sc, .int .i64 mo, .bool iv], .int .i64 h] w fun e w' => e = .returned (.int .i64 (passK ke lo h)) ∧ Gr w w' := by
 by_cases hk : ke = 0
 ·subst hk
  go_enter Tryz.func112, Tryz.ntmps112
  go_wp2_with fail
  go_ret
  exact ⟨by simp [passK, *], (Gr.refl w).alloc _ _⟩
 ·have hk' : (ke == 0) = false := by simp [hk]
  obtain ⟨r, hr⟩ : ∃ r, lo.tmod 2 = r := ⟨_, rfl⟩
  by_cases hl : r = 1
  ·have hl' : (r == 1) = true := by simp [hl]
   by_cases hh : h = 1
   ·have hh' : (h == 1) = true := by simp [hh]
    go_enter Tryz.func112, Tryz.ntmps112
    go_wp2_with fail
    go_ret
    exact ⟨by simp [passK, *], (Gr.refl w).alloc _ _⟩
   ·have hh' : (h == 1) = false := by simp [hh]
    go_enter Tryz.func112, Tryz.ntmps112
    go_wp2_with fail
    go_ret
    exact ⟨by simp [passK, *], (Gr.refl w).alloc _ _⟩
  ·have hl' : (r == 1) = false := by simp [hl]
   go_enter Tryz.func112, Tryz.ntmps112
   go_wp2_with fail
   go_ret
   exact ⟨by simp [passK, *], (Gr.refl w).alloc _ _⟩
theorem info_pass : (Tryz.prog.info? 72).map (fun i => (i.zero, i.size, i.bytes)) = some (some (.agg #[.int .i64 0, .int .i64 0]), 2, 16) := by kernel_rfl
set_option maxHeartbeats 4000000 in
theorem passes_new (fo lo ke sc mo n : Int) (iv : Bool) (hok : okF fo lo ke sc mo = true) (w : World) :
 Calls Tryz.prog 64 #[.agg #[.int .i64 fo, .int .i64 lo, .int .i64 ke, .int .i64 sc, .int .i64 mo, .bool iv]] w fun e w' => ∃ v, e = .returned (.tuple #[v, .int .i64 0]) ∧ CxsAt w' v (passL ke lo) ∧ Gr w w' ∧ (∀ b, v.ownBlock = some b → w.heap.size ≤ b) := by
 have HC := Lib.hid (check_c fo lo ke sc mo iv 0 (by rw [if_pos hok]))
 have hf := okF_iff.1 hok
 obtain ⟨n, hn⟩ : ∃ n : Int, n = 2 ^ lo.toNat := ⟨_, rfl⟩
 obtain ⟨i0, hi, hz0, hz1, hz2⟩ := info_parts info_pass
 by_cases hk : ke = 2
 ·subst hk
  clear hok hf hn
  go_enter Tryz.func64, Tryz.ntmps64
  go_wp2_with fail
  obtain ⟨u0, hu⟩ : ∃ uu, uu = w.alloc (.cells #[.int .i64 fo, .int .i64 lo, .int .i64 2, .int .i64 sc, .int .i64 mo, .bool iv] 24) := ⟨_, rfl⟩
  have R0 : CellsAt u0 w.heap.size 24 #[.int .i64 fo, .int .i64 lo, .int .i64 2, .int .i64 sc, .int .i64 mo, .bool iv] := by rw [hu]; exact CellsAt.new w 24 _
  have gu : Gr w u0 := by rw [hu]; exact (Gr.refl w).alloc _ _
  rw [← hu]
  clear hu
  refine (HC.out _).mono ?_
  rintro e w1 ⟨rfl, g1⟩
  have R1 := R0.gr g1
  have l1 := R1.lt
  have c2 := R1.cell 2
  simp only [getS] at c2
  go_wp2_with fail
  go_ret2
  exact ⟨_, rfl, by unfold passL; rw [if_pos rfl]; exact CxsAt.nil _, gu.trans g1, fun b e => by cases e⟩
 ·have hR := passL_rest ke lo n hk (by omega) (by omega) hn
  obtain ⟨n0, n1, hs⟩ := pow_log lo n (by omega) (by omega) hn
  generalize passL ke lo = L at *
  have hl0 : ¬ lo < 0 := by omega
  have hk' : (ke == 2) = false := by simp [hk]
  have HS := Lib.hid hs
  have HF := Lib.hid hf
  clear hn hs hf hok
  go_enter Tryz.func64, Tryz.ntmps64
  go_wp2_with fail
  obtain ⟨u0, hu⟩ : ∃ uu, uu = w.alloc (.cells #[.int .i64 fo, .int .i64 lo, .int .i64 ke, .int .i64 sc, .int .i64 mo, .bool iv] 24) := ⟨_, rfl⟩
  have R0 : CellsAt u0 w.heap.size 24 #[.int .i64 fo, .int .i64 lo, .int .i64 ke, .int .i64 sc, .int .i64 mo, .bool iv] := by rw [hu]; exact CellsAt.new w 24 _
  have gu : Gr w u0 := by rw [hu]; exact (Gr.refl w).alloc _ _
  rw [← hu]
  clear hu
  refine (HC.out _).mono ?_
  rintro e w1 ⟨rfl, g1⟩
  have R1 := R0.gr g1
  have gu1 := gu.trans g1
  clear R0 gu g1 HC
  have l1 := R1.lt
  have c2 := R1.cell 2
  simp only [getS] at c2
  go_wp2_with fail
  clear c2 hk'
  go_loopw [5, 6] (fun v i wr => ∃ (h : Int) (pre rest : List Gi), i = .int .i64 h ∧ 1 ≤ h ∧ h ≤ 256 ∧ pre.length ≤ h ∧ pre ++ rest = L ∧ Rest ke lo n h rest ∧ wr.ownsRow (w.heap.size + 1) 72 2 v pre.length (gcells pre) ∧ CellsAt wr w.heap.size 24 #[.int .i64 fo, .int .i64 lo, .int .i64 ke, .int .i64 sc, .int .i64 mo, .bool iv] ∧ Gr w wr)
   (fun _ i _ => 400 - (intOf i).toNat)
  case atStart => exact ⟨1, [], L, rfl, by omega, by omega, by simp, rfl, hR, World.ownsRow_nil _ _ _ _, R1, gu1⟩
  case round =>
   clear hR R1 gu1 l1
   obtain ⟨h, pre, rest, rfl, hh1, hh2, hln, hL, hR, hrow, hP, hg⟩ := hrel
   have hs := HS.out
   have hsw : wrap64 (2 ^ min lo.toNat 64) = n := by rw [hs]; exact IntWalk.wrap64_in _ ⟨by omega, by omega⟩
   have l1 := hP.lt
   have c0 := hP.cell 0
   have c1 := hP.cell 1
   have c2 := hP.cell 2
   have c3 := hP.cell 3
   have c4 := hP.cell 4
   have c5 := hP.cell 5
   simp only [getS] at c0 c1 c2 c3 c4 c5
   by_cases hlt : h < n
   ·obtain ⟨l', hl', hR'⟩ := hR.step hh1 hlt
    have HK := Lib.hid (passKernel_c fo lo ke sc mo h iv)
    have hk2 := passK_two ke lo h
    clear hR hs
    generalize passK ke lo h = k at *
    have hm1 : h * 2 ≤ h * k := Int.mul_le_mul_of_nonneg_left hk2.1 (by omega)
    have hm2 : h * k ≤ h * 4 := Int.mul_le_mul_of_nonneg_left hk2.2 (by omega)
    generalize hp : h * k = p at *
    have hpw : wrap64 p = p := IntWalk.wrap64_in _ ⟨by omega, by omega⟩
    rw [← hp] at hpw
    go_wp2_with fail
    refine (HK.out _).mono ?_
    rintro e w2 ⟨rfl, g2⟩
    have hrow2 := ownsRow_gr hrow g2
    have hP2 := hP.gr g2
    have hg2 := hg.trans g2
    have hz := hP2.lt
    clear hrow hP hg g2 c0 c1 c2 c3 c4 c5 l1 HK
    go_wp2_with (at_builtin; refine wpList_append_own_at _ rfl (.tmp 24) (.tmp 28) 69 rfl (w.heap.size + 1) 72 i0 (.agg #[.int .i64 0, .int .i64 0]) 2 16 Tryz.underlying69 hi hz0 hz1 hz2 rfl (by decide) _ _ _ rfl (hrow2.alloc _) ⟨_, 0, none⟩ 1 1 [.int .i64 k, .int .i64 h] rfl rfl (news_two _ _ _ _) (by simp [Value.oneCell']) (by unfold maxLen; omega) (by omega) (by simp; omega) ?_; intro v' w3 hown' hgrow _ hblk)
    have hg3 := (hg2.allocO _).grown hgrow (fun k e => by have := (hrow2.lt k e).1; omega)
    have hP3 := (hP2.alloc _).grown hgrow (fun e => by have := (hrow2.lt _ e.symm).1; omega)
    go_roundw
    case rel =>
     refine ⟨p, pre ++ [⟨k, h⟩], l', by first | rfl | rw [hp], by omega, by omega, by simp; omega, by rw [List.append_assoc, ← hL, hl']; rfl, hR', ?_, hP3, hg3⟩
     rw [List.length_append, gcells_snoc]
     exact hown'
    case measure => simp [intOf]; omega
   ·have hl := hR.done hlt
    subst hl
    go_wp2_with fail
    go_ret2
    refine ⟨_, rfl, ?_, hg, fun b e => Nat.le_of_succ_le (hrow.lt b e).1⟩
    rw [← hL, List.append_nil]
    exact CxsAt.of_row hrow
theorem passes_ok (fo lo ke sc mo n : Int) (iv : Bool) (hok : okF fo lo ke sc mo = true) (w : World) :
 Calls Tryz.prog 64 #[.agg #[.int .i64 fo, .int .i64 lo, .int .i64 ke, .int .i64 sc, .int .i64 mo, .bool iv]] w fun e w' => ∃ v, e = .returned (.tuple #[v, .int .i64 0]) ∧ CxsAt w' v (passL ke lo) ∧ Gr w w' :=
 (passes_new fo lo ke sc mo n iv hok w).mono fun e w' ⟨v, h1, h2, h3, _⟩ => ⟨v, h1, h2, h3⟩
theorem CxsAt.grown {W w' : World} {b o n c : Nat} {xs : List Gi} {row : Option Nat} (h : CxsAt W (.slice (some ⟨b, o, none⟩) n c) xs) (hg : W.grownBy w' row) (hne : some b ≠ row) : CxsAt w' (.slice (some ⟨b, o, none⟩) n c) xs := by
 obtain ⟨p, cap, hv, hl, hm, hc⟩ := h
 refine ⟨p, cap, hv, hl, hm, fun hx => ?_⟩
 obtain ⟨b', o', hp, hbb, hc⟩ := hc hx
 have hb : b' = b := by
  rw [hp] at hv
  cases hv
  rfl
 have hs := hg.block b' hbb (by rw [hb]; exact hne)
 refine ⟨b', o', hp, Nat.lt_of_lt_of_le hbb hg.size, fun j x hj => ?_⟩
 have := hc j x hj
 unfold World.cell? at this ⊢
 rw [hs]
 exact this
theorem nums_of_cells {W : World} {B cap : Nat} {t : TypeId} {c : Array Value} {ls : List Int} (h : CellsAt W B t c) (hc : ∀ (j : Nat) x, ls[j]? = some x → c[j]? = some (.int .i64 x)) (h1 : ls.length ≤ cap) (h2 : cap ≤ maxLen) : NumsAt W (.slice (some ⟨B, 0, none⟩) ls.length cap) ls := by
 refine ⟨_, cap, rfl, h1, h2, fun _ => ⟨B, 0, rfl, h.lt, fun j x hj => ?_⟩⟩
 rw [Nat.zero_add, h.cell]
 exact hc j x hj
def put2 (c : Array Value) (k : Nat) (a b : Value) : Array Value := (c.setIfInBounds (k * 2) a).setIfInBounds (k * 2 + 1) b
theorem put2_size (c : Array Value) (k : Nat) (a b : Value) : (put2 c k a b).size = c.size := by unfold put2; simp
theorem put2_self (c : Array Value) (k : Nat) (a b : Value) (h : k * 2 + 1 < c.size) : (put2 c k a b)[k * 2]? = some a ∧ (put2 c k a b)[k * 2 + 1]? = some b := by
 unfold put2
 refine ⟨?_, ?_⟩
 ·rw [Array.getElem?_setIfInBounds, if_neg (by omega), Array.getElem?_setIfInBounds, if_pos rfl, if_pos (by omega)]
 ·rw [Array.getElem?_setIfInBounds, if_pos rfl, if_pos (by simp only [Array.size_setIfInBounds]; omega)]
theorem put2_other (c : Array Value) (k : Nat) (a b : Value) (i : Nat) (h : i < k * 2 ∨ k * 2 + 1 < i) : (put2 c k a b)[i]? = c[i]? := by
 unfold put2
 rw [Array.getElem?_setIfInBounds, if_neg (by omega), Array.getElem?_setIfInBounds, if_neg (by omega)]
theorem CxsAt.of_put {W : World} {B : Nat} {t : TypeId} {c : Array Value} {zs : List Gi} {n : Nat} (h : CellsAt W B t c) (hl : zs.length = n) (hn : n ≤ 1048576) (hc : ∀ j x, j < n → zs[j]? = some x → c[j * 2]? = some (.int .i64 x.re) ∧ c[j * 2 + 1]? = some (.int .i64 x.im)) : CxsAt W (.slice (some ⟨B, 0, none⟩) n n) zs := by
 subst hl
 refine ⟨_, _, rfl, Nat.le_refl _, by unfold maxLen; omega, fun _ => ⟨B, 0, rfl, h.lt, fun j x hj => ?_⟩⟩
 have := hc j x (List.getElem?_eq_some_iff.1 hj).1 hj
 rw [Nat.zero_add, h.cell, h.cell]
 exact this
set_option maxHeartbeats 4000000 in
theorem rlPack_yes (p : Option Addr) (n cap m : Nat) (hd : (n : Int) / 2 = (m : Int)) (hm : m ≤ 1048576) (L : Int) (hm0 : 0 < m) (heq : (n : Int) = 2 * (m : Int)) (xs : List Int) (zs : List Gi) (hxn : xs.length = n) (hzn : zs.length = m) (HZ : Hid (∀ j z, zs[j]? = some z → xs[2 * j]? = some z.re ∧ xs[2 * j + 1]? = some z.im)) (HL : CR 34 #[.int .i64 (m : Int)] (.tuple #[.int .i64 L, .int .i64 0])) (w : World) (hv : NumsAt w (.slice p n cap) xs) :
 Calls Tryz.prog 8 #[.slice p n cap] w fun e w' => ∃ u, e = .returned (.tuple #[u, .int .i64 0]) ∧ CxsAt w' u zs ∧ Gr w w' := by
 skip
 have hm2 : IntKind.i64.wrap (2 * (m : Int)) = 2 * (m : Int) := IntWalk.i64_in _ ⟨by omega, by omega⟩
 have hm3 : wrap64 (2 * (m : Int)) = 2 * (m : Int) := IntWalk.wrap64_in _ ⟨by omega, by omega⟩
 have hb : ((n : Int) != 2 * (m : Int)) = false := by simp [heq]
 have hb2 : ((n : Int) == 2 * (m : Int)) = true := by simp [heq]
 have hmk := run_make_cx m hm
 obtain ⟨b, o, cp, hsl, hlen, hbb, hc⟩ := hv.at (by intro e; rw [e] at hxn; simp at hxn; omega)
 rw [hxn] at hsl hlen
 cases hsl
 have HC := Lib.hid hc
 have HXN := Lib.hid hxn
 have HZN := Lib.hid hzn
 have HNM := Lib.hid heq
 have HM0 := Lib.hid (And.intro hm hm0)
 clear hc hv hxn hzn heq hm hm0
 go_enter Tryz.func8, Tryz.ntmps8
 go_wp2_with fail
 refine (HL.out _).mono ?_
 rintro e w1 ⟨rfl, g1⟩
 go_wp2_with fail
 have M0 := CellsAt.new w1 50 (madeCells #[.int .i64 0, .int .i64 0] (m * 2))
 have M1 := size_madeCells #[.int .i64 0, .int .i64 0] (m * 2)
 go_loopw [8, 30] (fun _ i wr => ∃ k : Nat, ∃ c : Array Value, k ≤ m ∧ i = .int .i64 k ∧ CellsAt wr w1.heap.size 50 c ∧ c.size = m * 2 ∧ (∀ j x, j < k → zs[j]? = some x → c[j * 2]? = some (.int .i64 x.re) ∧ c[j * 2 + 1]? = some (.int .i64 x.im)) ∧ Gr w1 wr) (fun _ i _ => m - (intOf i).toNat)
 case atStart => exact ⟨0, _, by omega, rfl, M0, M1, fun j x hj => absurd hj (Nat.not_lt_zero _), (Gr.refl _).alloc _ _⟩
 case round =>
  clear M0 M1 hmk
  obtain ⟨k, c, hk, rfl, hC, hs, hj, hg⟩ := hrel
  have hgw := g1.trans hg
  by_cases hlt : k < m
  ·have hkI : (k : Int) < (m : Int) := by omega
   have heq := HNM.out
   have hmm := HM0.out
   obtain ⟨z, hz⟩ := get_of_lt (xs := zs) (by rw [HZN.out]; exact hlt)
   obtain ⟨e1, e2⟩ := HZ.out k z hz
   have h1 := (hgw.cell (p := ⟨b, o + 2 * k, none⟩) hbb).trans (HC.out _ _ e1)
   have h2 := (hgw.cell (p := ⟨b, o + (2 * k + 1), none⟩) hbb).trans (HC.out _ _ e2)
   have hbl : b < wr.heap.size := Nat.lt_of_lt_of_le hbb hgw.size
   have hsz := hg.size
   have hCl := hC.lt
   have f0 := hC.frozen (k * 2)
   have f1 := hC.frozen (k * 2 + 1)
   have q0 := hC.cell (k * 2)
   have q1 := hC.cell (k * 2 + 1)
   have HS := Lib.hid hs
   rw [Array.getElem?_eq_getElem (show k * 2 < c.size by rw [HS.out]; omega)] at q0
   rw [Array.getElem?_eq_getElem (show k * 2 + 1 < c.size by rw [HS.out]; omega)] at q1
   have HJ := Lib.hid hj
   have HZK := Lib.hid hz
   have k1 : IntKind.i64.wrap (2 * (k : Int)) = ((2 * k : Nat) : Int) := IntWalk.i64_in _ ⟨by omega, by omega⟩
   have k1b : wrap64 (2 * (k : Int)) = ((2 * k : Nat) : Int) := IntWalk.wrap64_in _ ⟨by omega, by omega⟩
   have k2 : IntKind.i64.wrap (((2 * k : Nat) : Int) + 1) = ((2 * k + 1 : Nat) : Int) := IntWalk.i64_in _ ⟨by omega, by omega⟩
   have k2b : wrap64 (((2 * k : Nat) : Int) + 1) = ((2 * k + 1 : Nat) : Int) := IntWalk.wrap64_in _ ⟨by omega, by omega⟩
   have k3 : ((2 * k : Nat) : Int) < (n : Int) := by omega
   have k4 : ((2 * k + 1 : Nat) : Int) < (n : Int) := by omega
   have k5 : (0 : Int) ≤ ((2 * k : Nat) : Int) := by omega
   have k6 : (0 : Int) ≤ ((2 * k + 1 : Nat) : Int) := by omega
   clear hs hj hz e1 e2 heq
   generalize 2 * k + 1 = i1 at *
   generalize 2 * k = i0 at *
   obtain ⟨re, im⟩ := z
   simp only at h1 h2
   go_wp2_with fail
   go_region
   have hCf := (hC.set (k * 2) (.int .i64 re)).set (k * 2 + 1) (.int .i64 im)
   have hgf := (hg.setCell (a := ⟨w1.heap.size, k * 2, none⟩) (by simp) (.int .i64 re)).setCell (a := ⟨w1.heap.size, k * 2 + 1, none⟩) (by simp) (.int .i64 im)
   go_wp2_with fail
   go_roundw
   case rel =>
    refine ⟨k + 1, put2 c k _ _, by omega, by go_num, hCf, by rw [put2_size]; exact HS.out, fun j x hj hx => ?_, hgf.drew⟩
    by_cases e : j = k
    ·subst e
     rw [HZK.out] at hx
     cases hx
     exact put2_self c j _ _ (by rw [HS.out]; omega)
    ·obtain ⟨z0, z1⟩ := HJ.out j x (by omega) hx
     exact ⟨(put2_other c k _ _ _ (by omega)).trans z0, (put2_other c k _ _ _ (by omega)).trans z1⟩
   case measure => simp [intOf]; omega
  ·obtain rfl : k = m := by omega
   have hkI : ¬ (k : Int) < (k : Int) := by omega
   go_wp2_with fail
   go_ret2
   exact ⟨_, rfl, CxsAt.of_put hC HZN.out HM0.out.1 hj, hgw⟩
theorem rlAsk_planb (B : Nat) (fo lo ke sc mo : Int) (iv : Bool) (y : Int) (HQ : CR 30 #[.agg #[.int .i64 fo, .int .i64 lo, .int .i64 ke, .int .i64 sc, .int .i64 mo, .bool iv]] (.int .i64 y)) (w : World) (hp : CellsAt w B 24 #[.int .i64 fo, .int .i64 lo, .int .i64 ke, .int .i64 sc, .int .i64 mo, .bool iv]) : Calls Tryz.prog 29 #[.pointer (some ⟨B, 0, none⟩)] w fun e w' => e = .returned (.int .i64 y) ∧ Gr w w' := by
 have lp := CellsAt.lt hp
 obtain ⟨cp0, cp1, cp2, cp3, cp4, cp5⟩ := hp.t6
 go_enter Tryz.func29, Tryz.ntmps29
 go_wp2_with fail
 clear cp0 cp1 cp2 cp3 cp4 cp5
 refine (HQ.out _).mono ?_
 rintro e w1 ⟨rfl, g1⟩
 have ⟨Fp_1, lp_1⟩ := CellsAt.gl (hp) g1
 have z1 := (Gr.refl w).trans g1
 clear hp g1
 go_wp2_with fail
 go_ret
 exact ⟨rfl, z1⟩
set_option maxHeartbeats 4000000 in
theorem rlAsk_sizeb (A B : Nat) (fo lo ke sc mo : Int) (iv : Bool) (px : Option Addr) (m cx : Nat) (z y : Int) (HSH : Hid (∀ W, (Op.shift .shl .i64 2 .i64 lo).run Tryz.prog W = .ok (.int .i64 z) W)) (HQ : CR 32 #[.int .i64 (m : Int), .int .i64 z] (.int .i64 y)) (w : World) (hx : CellsAt w A 22 #[.slice px m cx]) (hp : CellsAt w B 24 #[.int .i64 fo, .int .i64 lo, .int .i64 ke, .int .i64 sc, .int .i64 mo, .bool iv]) : Calls Tryz.prog 31 #[.pointer (some ⟨A, 0, none⟩), .pointer (some ⟨B, 0, none⟩)] w fun e w' => e = .returned (.int .i64 y) ∧ Gr w w' := by
 go_enter Tryz.func31, Tryz.ntmps31
 have lx := CellsAt.lt hx
 have lp := CellsAt.lt hp
 have hsh := HSH.out
 go_wp2_with fail
 obtain ⟨w0, hqp1⟩ : ∃ zz, zz = w := ⟨_, rfl⟩
 have Yx_p1 : CellsAt w0 (A) 22 #[.slice px m cx] := by rw [hqp1]; first | exact hx | simpa using hx
 have Yp_p1 : CellsAt w0 (B) 24 #[.int .i64 fo, .int .i64 lo, .int .i64 ke, .int .i64 sc, .int .i64 mo, .bool iv] := by rw [hqp1]; first | exact hp | simpa using hp
 have yp1 : Gr w w0 := by rw [hqp1]; exact Gr.refl w
 rw [← hqp1]
 clear hqp1
 have KS : ∀ W, Gr w0 W → (W.cell? ⟨A, 0, none⟩ = some (.slice px m cx) ∧ W.cell? ⟨B, 0, none⟩ = some (.int .i64 fo) ∧ W.cell? ⟨B, 1, none⟩ = some (.int .i64 lo) ∧ W.cell? ⟨B, 2, none⟩ = some (.int .i64 ke) ∧ W.cell? ⟨B, 3, none⟩ = some (.int .i64 sc) ∧ W.cell? ⟨B, 4, none⟩ = some (.int .i64 mo) ∧ W.cell? ⟨B, 5, none⟩ = some (.bool iv)) := fun W hG => ⟨(CellsAt.gr Yx_p1 hG).cell 0, (CellsAt.gr Yp_p1 hG).cell 0, (CellsAt.gr Yp_p1 hG).cell 1, (CellsAt.gr Yp_p1 hG).cell 2, (CellsAt.gr Yp_p1 hG).cell 3, (CellsAt.gr Yp_p1 hG).cell 4, (CellsAt.gr Yp_p1 hG).cell 5⟩
 have hclG := gr_closed w0
 try simp only [List.append_eq, List.cons_append, List.nil_append]
 refine wp_region_grow (S := Gr w0) rfl (Gr.drew (Gr.refl _)) ?_
 refine gK 0 hclG KS ?_
 refine gT 1 hclG ?_
 refine gK 2 hclG KS ?_
 refine gK 3 hclG KS ?_
 refine gK 4 hclG KS ?_
 refine wpG_call (i := 5) hclG rfl (by kernel_rfl) (by kernel_rfl) (by kernel_rfl) (fun _ _ _ h => h) (fun W _ => HQ.out W) (by rfl) ?_ ?_
 ·(intro w' hSw; go_simp; try with_reducible rfl)
 try simp only [Act.put, putS]
 refine gT 6 hclG ?_
 refine wpG_done (by kernel_rfl) (fun w1 g1 => ?_) _
 replace g1 := (Gr.drew (Gr.refl w0)).trans g1
 have ⟨Fx_1, lx_1⟩ := CellsAt.gl (Yx_p1) g1
 have ⟨Fp_1, lp_1⟩ := CellsAt.gl (Yp_p1) g1
 have z1 := (yp1).trans g1
 clear Yx_p1 Yp_p1 yp1 g1
 clear hclG KS
 go_wp2_with fail
 go_ret
 exact ⟨rfl, z1⟩
set_option maxHeartbeats 2000000 in
theorem rlFirst_c (B n k : Nat) (F : Nat → Nat) (K : Nat → Array Value) (y : Int) (hn : n ≤ 1000) (hk : k ≤ n) (hy : if k < n then (y != 0) = true else y = 0) (HE : ∀ j, j < n → Enters (F j)) (w : World) (hB : B < w.heap.size) (hc : ∀ j, j < n → w.cell? ⟨B, j, none⟩ = some (.func (.func (F j)) #[] (K j)))
 (HQ : Hid (∀ j, j < n → j ≤ k → ∀ W, Gr w W → Calls Tryz.prog (F j) (K j) W fun e w' => e = .returned (.int .i64 (if j < k then 0 else y)) ∧ Gr W w')) :
 Calls Tryz.prog 28 #[.slice (some ⟨B, 0, none⟩) n n] w fun e w' => e = .returned (.int .i64 y) ∧ Gr w w' := by
 have HC := Lib.hid hc
 have HEN := Lib.hid HE
 have HN := Lib.hid (And.intro hn hk)
 clear hc HE hn hk
 go_enter Tryz.func28, Tryz.ntmps28
 go_wp2_with fail
 go_loopw [4, 5, 8] (fun _ _ i wr => ∃ j : Nat, j ≤ k ∧ i = .int .i64 j ∧ Gr w wr) (fun _ _ i _ => n - (intOf i).toNat)
 case atStart => exact ⟨0, Nat.zero_le _, rfl, Gr.refl _⟩
 case round =>
  obtain ⟨j, hj, rfl, hg⟩ := hrel
  obtain ⟨hn, hkn⟩ := HN.out
  by_cases hlt : j < n
  ·have hjI : (j : Int) < (n : Int) := by omega
   have h1 := (hg.cell (p := ⟨B, j, none⟩) hB).trans (HC.out j hlt)
   have hE := HEN.out j hlt
   have HQ1 := Lib.hid fun W g => HQ.out j hlt hj W g
   unfold Enters at hE
   have hBl : B < wr.heap.size := Nat.lt_of_lt_of_le hB hg.size
   by_cases hjk : j < k
   ·rw [if_pos hjk] at HQ1
    clear HQ HC HEN hy
    generalize F j = f at *
    generalize K j = c at *
    go_wp2_with fail
    refine (HQ1.out _ hg).mono ?_
    rintro e w1 ⟨rfl, g1⟩
    go_wp2_with fail
    go_roundw
    case rel => exact ⟨j + 1, by omega, by go_num, hg.trans g1⟩
    case measure => simp [intOf]; omega
   ·obtain rfl : j = k := by omega
    rw [if_neg (by omega)] at HQ1
    rw [if_pos hlt] at hy
    have hy2 : (y == 0) = false := by simpa using hy
    have hy3 : ¬ y = 0 := by simpa using hy
    clear HQ HC HEN
    generalize F j = f at *
    generalize K j = c at *
    go_wp2_with fail
    refine (HQ1.out _ hg).mono ?_
    rintro e w1 ⟨rfl, g1⟩
    go_wp2_with fail
    go_ret
    exact ⟨rfl, hg.trans g1⟩
  ·have hjI : ¬ (j : Int) < (n : Int) := by omega
   obtain rfl : y = 0 := by rwa [if_neg (by omega)] at hy
   clear HQ HC HEN hy
   go_wp2_with fail
   go_ret
   exact ⟨rfl, hg⟩
set_option maxHeartbeats 2000000 in
theorem rlLoss_ok (fo lo ke sc mo : Int) (iv : Bool) (v : Value) (z r : Int) (hz : wrap64 (z + 256) = r) (hz2 : IntKind.i64.wrap (z + 256) = r) (ls : List Int) (HQ : CR 30 #[.agg #[.int .i64 fo, .int .i64 lo, .int .i64 ke, .int .i64 sc, .int .i64 mo, .bool iv]] (.int .i64 0)) (HO : Hid (∀ W, NumsAt W v ls → Calls Tryz.prog 54 #[.agg #[.int .i64 fo, .int .i64 lo, .int .i64 ke, .int .i64 sc, .int .i64 mo, .bool iv], v] W fun e w' => e = .returned (.tuple #[.int .i64 z, .int .i64 0]) ∧ Gr W w')) (w : World) (hv : NumsAt w v ls) : Calls Tryz.prog 20 #[.agg #[.int .i64 fo, .int .i64 lo, .int .i64 ke, .int .i64 sc, .int .i64 mo, .bool iv], v] w fun e w' => e = .returned (.tuple #[.int .i64 r, .int .i64 0]) ∧ Gr w w' := by
 go_enter Tryz.func20, Tryz.ntmps20
 go_wp2_with fail
 obtain ⟨u0, hU⟩ : ∃ uu, uu = (w.alloc (.cells #[.int .i64 fo, .int .i64 lo, .int .i64 ke, .int .i64 sc, .int .i64 mo, .bool iv] 24)) := ⟨_, rfl⟩
 have ⟨gu, R0⟩ := lay1 hU
 rw [← hU]
 clear hU
 have lp := R0.lt
 obtain ⟨cp0, cp1, cp2, cp3, cp4, cp5⟩ := R0.t6
 go_wp2_with fail
 clear cp0 cp1 cp2 cp3 cp4 cp5
 refine (HQ.out _).mono ?_
 rintro e w1 ⟨rfl, g1⟩
 have ⟨Fp_1, lp_1⟩ := CellsAt.gl (R0) g1
 have z1 := (gu).trans g1
 clear R0 gu g1
 obtain ⟨cp0, cp1, cp2, cp3, cp4, cp5⟩ := Fp_1.t6
 go_wp2_with fail
 clear cp0 cp1 cp2 cp3 cp4 cp5
 refine (HO.out _ (hv.gr z1)).mono ?_
 rintro e w2 ⟨rfl, g2⟩
 have ⟨Fp_2, lp_2⟩ := CellsAt.gl (Fp_1) g2
 have z2 := (z1).trans g2
 clear Fp_1 z1 g2
 go_wp2_with fail
 go_ret2
 exact ⟨by first | rfl | (simp [*]; done), z2⟩
end
end Go.Proofs.YtdignnmpfkgkoaaGreat
