import Derived.BigRegion
import Derived.Test.YtdignnmpfkgkoaaGreatRealUntanglesS24
namespace Go.Proofs.YtdignnmpfkgkoaaGreat
section
open Go.ChangeShapes Go.WideShapes Go.ChangeAt Go.RowKit
set_option linter.unusedVariables false
set_option linter.unusedSimpArgs false
set_option maxRecDepth 100000
def put2 (c : Array Value) (k : Nat) (a b : Value) : Array Value := (c.setIfInBounds (k * 2) a).setIfInBounds (k * 2 + 1) b
theorem put2_size (c : Array Value) (k : Nat) (a b : Value) : (put2 c k a b).size = c.size := by unfold put2; simp
theorem put2_self (c : Array Value) (k : Nat) (a b : Value) (h : k * 2 + 1 < c.size) : (put2 c k a b)[k * 2]? = some a ∧ (put2 c k a b)[k * 2 + 1]? = some b := by
 unfold put2
 refine ⟨?_, ?_⟩
 ·rw [Array.getElem?_setIfInBounds, if_neg (by omega), Array.getElem?_setIfInBounds, if_pos rfl, if_pos (by omega)]
 ·rw [Array.getElem?_setIfInBounds, if_pos rfl, if_pos (by simp only [Array.size_setIfInBounds]; omega)]
theorem put2_other (c : Array Value) (k : Nat) (a b : Value) (i : Nat) (h : i < k * 2 ∨ k * 2 + 1 < i) : (put2 c k a b)[i]? = c[i]? := by
 unfold put2
 rw [Array.getElem?_setIfInBounds, if_neg (by omega), Array.getElem?_setIfInBounds, if_neg (by omega)]
theorem CxsAt.of_put {W : World} {B : Nat} {t : TypeId} {c : Array Value} {zs : List Gi} {n : Nat} (h : CellsAt W B t c) (hl : zs.length = n) (hn : n ≤ 1048576) (hc : ∀ j x, j < n → zs[j]? = some x → c[j * 2]? = some (.int .i64 x.re) ∧ c[j * 2 + 1]? = some (.int .i64 x.im)) : CxsAt W (.slice (some ⟨B, 0, none⟩) n n) zs := by
 subst hl
 refine ⟨_, _, rfl, Nat.le_refl _, by unfold maxLen; omega, fun _ => ⟨B, 0, rfl, h.lt, fun j x hj => ?_⟩⟩
 have := hc j x (List.getElem?_eq_some_iff.1 hj).1 hj
 rw [Nat.zero_add, h.cell, h.cell]
 exact this
set_option maxHeartbeats 4000000 in
theorem rlPack_yes (p : Option Addr) (n cap m : Nat) (hd : (n : Int) / 2 = (m : Int)) (hm : m ≤ 1048576) (L : Int) (hm0 : 0 < m) (heq : (n : Int) = 2 * (m : Int)) (xs : List Int) (zs : List Gi) (hxn : xs.length = n) (hzn : zs.length = m) (HZ : Hid (∀ j z, zs[j]? = some z → xs[2 * j]? = some z.re ∧ xs[2 * j + 1]? = some z.im)) (HL : CR 34 #[.int .i64 (m : Int)] (.tuple #[.int .i64 L, .int .i64 0])) (w : World) (hv : NumsAt w (.slice p n cap) xs) :
 Calls Tryz.prog 8 #[.slice p n cap] w fun e w' => ∃ u, e = .returned (.tuple #[u, .int .i64 0]) ∧ CxsAt w' u zs ∧ Gr w w' := by
 skip
 have hm2 : IntKind.i64.wrap (2 * (m : Int)) = 2 * (m : Int) := IntWalk.i64_in _ ⟨by omega, by omega⟩
 have hm3 : wrap64 (2 * (m : Int)) = 2 * (m : Int) := IntWalk.wrap64_in _ ⟨by omega, by omega⟩
 have hb : ((n : Int) != 2 * (m : Int)) = false := by simp [heq]
 have hb2 : ((n : Int) == 2 * (m : Int)) = true := by simp [heq]
 have hmk := run_make_cx m hm
 obtain ⟨b, o, cp, hsl, hlen, hbb, hc⟩ := hv.at (by intro e; rw [e] at hxn; simp at hxn; omega)
 rw [hxn] at hsl hlen
 cases hsl
 have HC := Lib.hid hc
 have HXN := Lib.hid hxn
 have HZN := Lib.hid hzn
 have HNM := Lib.hid heq
 have HM0 := Lib.hid (And.intro hm hm0)
 clear hc hv hxn hzn heq hm hm0
 go_enter Tryz.func8, Tryz.ntmps8
 go_wp2_with fail
 refine (HL.out _).mono ?_
 rintro e w1 ⟨rfl, g1⟩
 go_wp2_with fail
 have M0 := CellsAt.new w1 50 (madeCells #[.int .i64 0, .int .i64 0] (m * 2))
 have M1 := size_madeCells #[.int .i64 0, .int .i64 0] (m * 2)
 go_loopw [8, 30] (fun _ i wr => ∃ k : Nat, ∃ c : Array Value, k ≤ m ∧ i = .int .i64 k ∧ CellsAt wr w1.heap.size 50 c ∧ c.size = m * 2 ∧ (∀ j x, j < k → zs[j]? = some x → c[j * 2]? = some (.int .i64 x.re) ∧ c[j * 2 + 1]? = some (.int .i64 x.im)) ∧ Gr w1 wr) (fun _ i _ => m - (intOf i).toNat)
 case atStart => exact ⟨0, _, by omega, rfl, M0, M1, fun j x hj => absurd hj (Nat.not_lt_zero _), (Gr.refl _).alloc _ _⟩
 case round =>
  clear M0 M1 hmk
  obtain ⟨k, c, hk, rfl, hC, hs, hj, hg⟩ := hrel
  have hgw := g1.trans hg
  by_cases hlt : k < m
  ·have hkI : (k : Int) < (m : Int) := by omega
   have heq := HNM.out
   have hmm := HM0.out
   obtain ⟨z, hz⟩ := get_of_lt (xs := zs) (by rw [HZN.out]; exact hlt)
   obtain ⟨e1, e2⟩ := HZ.out k z hz
   have h1 := (hgw.cell (p := ⟨b, o + 2 * k, none⟩) hbb).trans (HC.out _ _ e1)
   have h2 := (hgw.cell (p := ⟨b, o + (2 * k + 1), none⟩) hbb).trans (HC.out _ _ e2)
   have hbl : b < wr.heap.size := Nat.lt_of_lt_of_le hbb hgw.size
   have hsz := hg.size
   have hCl := hC.lt
   have f0 := hC.frozen (k * 2)
   have f1 := hC.frozen (k * 2 + 1)
   have q0 := hC.cell (k * 2)
   have q1 := hC.cell (k * 2 + 1)
   have HS := Lib.hid hs
   rw [Array.getElem?_eq_getElem (show k * 2 < c.size by rw [HS.out]; omega)] at q0
   rw [Array.getElem?_eq_getElem (show k * 2 + 1 < c.size by rw [HS.out]; omega)] at q1
   have HJ := Lib.hid hj
   have HZK := Lib.hid hz
   have k1 : IntKind.i64.wrap (2 * (k : Int)) = ((2 * k : Nat) : Int) := IntWalk.i64_in _ ⟨by omega, by omega⟩
   have k1b : wrap64 (2 * (k : Int)) = ((2 * k : Nat) : Int) := IntWalk.wrap64_in _ ⟨by omega, by omega⟩
   have k2 : IntKind.i64.wrap (((2 * k : Nat) : Int) + 1) = ((2 * k + 1 : Nat) : Int) := IntWalk.i64_in _ ⟨by omega, by omega⟩
   have k2b : wrap64 (((2 * k : Nat) : Int) + 1) = ((2 * k + 1 : Nat) : Int) := IntWalk.wrap64_in _ ⟨by omega, by omega⟩
   have k3 : ((2 * k : Nat) : Int) < (n : Int) := by omega
   have k4 : ((2 * k + 1 : Nat) : Int) < (n : Int) := by omega
   have k5 : (0 : Int) ≤ ((2 * k : Nat) : Int) := by omega
   have k6 : (0 : Int) ≤ ((2 * k + 1 : Nat) : Int) := by omega
   clear hs hj hz e1 e2 heq
   generalize 2 * k + 1 = i1 at *
   generalize 2 * k = i0 at *
   obtain ⟨re, im⟩ := z
   simp only at h1 h2
   go_wp2_with fail
   go_region
   have hCf := (hC.set (k * 2) (.int .i64 re)).set (k * 2 + 1) (.int .i64 im)
   have hgf := (hg.setCell (a := ⟨w1.heap.size, k * 2, none⟩) (by simp) (.int .i64 re)).setCell (a := ⟨w1.heap.size, k * 2 + 1, none⟩) (by simp) (.int .i64 im)
   go_wp2_with fail
   go_roundw
   case rel =>
    refine ⟨k + 1, put2 c k _ _, by omega, by go_num, hCf, by rw [put2_size]; exact HS.out, fun j x hj hx => ?_, hgf.drew⟩
    by_cases e : j = k
    ·subst e
     rw [HZK.out] at hx
     cases hx
     exact put2_self c j _ _ (by rw [HS.out]; omega)
    ·obtain ⟨z0, z1⟩ := HJ.out j x (by omega) hx
     exact ⟨(put2_other c k _ _ _ (by omega)).trans z0, (put2_other c k _ _ _ (by omega)).trans z1⟩
   case measure => simp [intOf]; omega
  ·obtain rfl : k = m := by omega
   have hkI : ¬ (k : Int) < (k : Int) := by omega
   go_wp2_with fail
   go_ret2
   exact ⟨_, rfl, CxsAt.of_put hC HZN.out HM0.out.1 hj, hgw⟩
theorem rlAsk_planb (B : Nat) (fo lo ke sc mo : Int) (iv : Bool) (y : Int) (HQ : CR 30 #[.agg #[.int .i64 fo, .int .i64 lo, .int .i64 ke, .int .i64 sc, .int .i64 mo, .bool iv]] (.int .i64 y)) (w : World) (hp : CellsAt w B 24 #[.int .i64 fo, .int .i64 lo, .int .i64 ke, .int .i64 sc, .int .i64 mo, .bool iv]) : CW 29 #[.pointer (some ⟨B, 0, none⟩)] w (.int .i64 y) :=by
 delta CW
 have lp := hp.lt
 obtain ⟨cp0, cp1, cp2, cp3, cp4, cp5⟩ := hp.t6
 go_enter Tryz.func29, Tryz.ntmps29
 go_wp2_with fail
 clear cp0 cp1 cp2 cp3 cp4 cp5
 refine (HQ.out _).mono ?_
 rintro e w1 ⟨rfl, g1⟩
 have ⟨Fp_1, lp_1⟩ := hp.gl g1
 have z1 := (Gr.refl w).trans g1
 clear hp g1
 go_wp2_with fail
 go_ret
 exact ⟨rfl, z1⟩
theorem rlAsk_planu (B : Nat) (fo lo ke sc mo : Int) (iv : Bool) (y : Int) (HQ : CR 30 #[.agg #[.int .i64 fo, .int .i64 lo, .int .i64 ke, .int .i64 sc, .int .i64 mo, .bool iv]] (.int .i64 y)) (w : World) (hp : CellsAt w B 24 #[.int .i64 fo, .int .i64 lo, .int .i64 ke, .int .i64 sc, .int .i64 mo, .bool iv]) : CW 50 #[.pointer (some ⟨B, 0, none⟩)] w (.int .i64 y) :=by
 delta CW
 have lp := hp.lt
 obtain ⟨cp0, cp1, cp2, cp3, cp4, cp5⟩ := hp.t6
 go_enter Tryz.func50, Tryz.ntmps50
 go_wp2_with fail
 clear cp0 cp1 cp2 cp3 cp4 cp5
 refine (HQ.out _).mono ?_
 rintro e w1 ⟨rfl, g1⟩
 have ⟨Fp_1, lp_1⟩ := hp.gl g1
 have z1 := (Gr.refl w).trans g1
 clear hp g1
 go_wp2_with fail
 go_ret
 exact ⟨rfl, z1⟩
set_option maxHeartbeats 4000000 in
theorem rlAsk_sizeb (A B : Nat) (fo lo ke sc mo : Int) (iv : Bool) (px : Option Addr) (m cx : Nat) (z y : Int) (HSH : Hid (∀ W, (Op.shift .shl .i64 2 .i64 lo).run Tryz.prog W = .ok (.int .i64 z) W)) (HQ : CR 32 #[.int .i64 (m : Int), .int .i64 z] (.int .i64 y)) (w : World) (hx : CellsAt w A 22 #[.slice px m cx]) (hp : CellsAt w B 24 #[.int .i64 fo, .int .i64 lo, .int .i64 ke, .int .i64 sc, .int .i64 mo, .bool iv]) : CW 31 #[.pointer (some ⟨A, 0, none⟩), .pointer (some ⟨B, 0, none⟩)] w (.int .i64 y) :=by
 delta CW
 go_enter Tryz.func31, Tryz.ntmps31
 have lx := hx.lt
 have lp := hp.lt
 have hsh := HSH.out
 go_wp2_with fail
 obtain ⟨w0, hqp1⟩ : ∃ zz, zz = w := ⟨_, rfl⟩
 have Yx_p1 : CellsAt w0 (A) 22 #[.slice px m cx] := by rw [hqp1]; first | exact hx | simpa using hx
 have Yp_p1 : CellsAt w0 (B) 24 #[.int .i64 fo, .int .i64 lo, .int .i64 ke, .int .i64 sc, .int .i64 mo, .bool iv] := by rw [hqp1]; first | exact hp | simpa using hp
 have yp1 : Gr w w0 := by rw [hqp1]; exact Gr.refl w
 rw [← hqp1]
 clear hqp1
 have KS : ∀ W, Gr w0 W → (W.cell? ⟨A, 0, none⟩ = some (.slice px m cx) ∧ W.cell? ⟨B, 0, none⟩ = some (.int .i64 fo) ∧ W.cell? ⟨B, 1, none⟩ = some (.int .i64 lo) ∧ W.cell? ⟨B, 2, none⟩ = some (.int .i64 ke) ∧ W.cell? ⟨B, 3, none⟩ = some (.int .i64 sc) ∧ W.cell? ⟨B, 4, none⟩ = some (.int .i64 mo) ∧ W.cell? ⟨B, 5, none⟩ = some (.bool iv)) := fun W hG => ⟨(CellsAt.gr Yx_p1 hG).cell 0, (CellsAt.gr Yp_p1 hG).cell 0, (CellsAt.gr Yp_p1 hG).cell 1, (CellsAt.gr Yp_p1 hG).cell 2, (CellsAt.gr Yp_p1 hG).cell 3, (CellsAt.gr Yp_p1 hG).cell 4, (CellsAt.gr Yp_p1 hG).cell 5⟩
 have hclG := gr_closed w0
 try simp only [List.append_eq, List.cons_append, List.nil_append]
 refine wp_region_grow (S := Gr w0) rfl (Gr.drew (Gr.refl _)) ?_
 refine gK 0 hclG KS ?_
 refine gT 1 hclG ?_
 refine gK 2 hclG KS ?_
 refine gK 3 hclG KS ?_
 refine gK 4 hclG KS ?_
 refine wpG_call (i := 5) hclG rfl (by kernel_rfl) (by kernel_rfl) (by kernel_rfl) (fun _ _ _ h => h) (fun W _ => HQ.out W) (by rfl) ?_ ?_
 ·(intro w' hSw; go_simp; try with_reducible rfl)
 try simp only [Act.put, putS]
 refine gT 6 hclG ?_
 refine wpG_done (by kernel_rfl) (fun w1 g1 => ?_) _
 replace g1 := (Gr.drew (Gr.refl w0)).trans g1
 have ⟨Fx_1, lx_1⟩ := Yx_p1.gl g1
 have ⟨Fp_1, lp_1⟩ := Yp_p1.gl g1
 have z1 := yp1.trans g1
 clear Yx_p1 Yp_p1 yp1 g1
 clear hclG KS
 go_wp2_with fail
 go_ret
 exact ⟨rfl, z1⟩
set_option maxHeartbeats 4000000 in
theorem rlAsk_sizeu (A B : Nat) (fo lo ke sc mo : Int) (iv : Bool) (px sp : Option Addr) (m cx q cl : Nat) (ex : Int) (sa : Bool) (z y : Int) (HSH : Hid (∀ W, (Op.shift .shl .i64 1 .i64 lo).run Tryz.prog W = .ok (.int .i64 z) W)) (HQ : CR 32 #[.int .i64 (m : Int), .int .i64 z] (.int .i64 y)) (w : World) (hx : CellsAt w A 27 #[.slice px m cx, .int .i64 ex, .bool sa, .slice sp q cl]) (hp : CellsAt w B 24 #[.int .i64 fo, .int .i64 lo, .int .i64 ke, .int .i64 sc, .int .i64 mo, .bool iv]) : CW 51 #[.pointer (some ⟨A, 0, none⟩), .pointer (some ⟨B, 0, none⟩)] w (.int .i64 y) :=by
 delta CW
 go_enter Tryz.func51, Tryz.ntmps51
 have lx := hx.lt
 have lp := hp.lt
 have hsh := HSH.out
 go_wp2_with fail
 obtain ⟨w0, hqp1⟩ : ∃ zz, zz = w := ⟨_, rfl⟩
 have Yx_p1 : CellsAt w0 (A) 27 #[.slice px m cx, .int .i64 ex, .bool sa, .slice sp q cl] := by rw [hqp1]; first | exact hx | simpa using hx
 have Yp_p1 : CellsAt w0 (B) 24 #[.int .i64 fo, .int .i64 lo, .int .i64 ke, .int .i64 sc, .int .i64 mo, .bool iv] := by rw [hqp1]; first | exact hp | simpa using hp
 have yp1 : Gr w w0 := by rw [hqp1]; exact Gr.refl w
 rw [← hqp1]
 clear hqp1
 have KS : ∀ W, Gr w0 W → (W.cell? ⟨A, 0, none⟩ = some (.slice px m cx) ∧ W.cell? ⟨A, 1, none⟩ = some (.int .i64 ex) ∧ W.cell? ⟨A, 2, none⟩ = some (.bool sa) ∧ W.cell? ⟨A, 3, none⟩ = some (.slice sp q cl) ∧ W.cell? ⟨B, 0, none⟩ = some (.int .i64 fo) ∧ W.cell? ⟨B, 1, none⟩ = some (.int .i64 lo) ∧ W.cell? ⟨B, 2, none⟩ = some (.int .i64 ke) ∧ W.cell? ⟨B, 3, none⟩ = some (.int .i64 sc) ∧ W.cell? ⟨B, 4, none⟩ = some (.int .i64 mo) ∧ W.cell? ⟨B, 5, none⟩ = some (.bool iv)) := fun W hG => ⟨(CellsAt.gr Yx_p1 hG).cell 0, (CellsAt.gr Yx_p1 hG).cell 1, (CellsAt.gr Yx_p1 hG).cell 2, (CellsAt.gr Yx_p1 hG).cell 3, (CellsAt.gr Yp_p1 hG).cell 0, (CellsAt.gr Yp_p1 hG).cell 1, (CellsAt.gr Yp_p1 hG).cell 2, (CellsAt.gr Yp_p1 hG).cell 3, (CellsAt.gr Yp_p1 hG).cell 4, (CellsAt.gr Yp_p1 hG).cell 5⟩
 have hclG := gr_closed w0
 try simp only [List.append_eq, List.cons_append, List.nil_append]
 refine wp_region_grow (S := Gr w0) rfl (Gr.drew (Gr.refl _)) ?_
 refine gK 0 hclG KS ?_
 refine gK 1 hclG KS ?_
 refine gT 2 hclG ?_
 refine gK 3 hclG KS ?_
 refine gK 4 hclG KS ?_
 refine gK 5 hclG KS ?_
 refine wpG_call (i := 6) hclG rfl (by kernel_rfl) (by kernel_rfl) (by kernel_rfl) (fun _ _ _ h => h) (fun W _ => HQ.out W) (by rfl) ?_ ?_
 ·(intro w' hSw; go_simp; try with_reducible rfl)
 try simp only [Act.put, putS]
 refine gT 7 hclG ?_
 refine wpG_done (by kernel_rfl) (fun w1 g1 => ?_) _
 replace g1 := (Gr.drew (Gr.refl w0)).trans g1
 have ⟨Fx_1, lx_1⟩ := Yx_p1.gl g1
 have ⟨Fp_1, lp_1⟩ := Yp_p1.gl g1
 have z1 := yp1.trans g1
 clear Yx_p1 Yp_p1 yp1 g1
 clear hclG KS
 go_wp2_with fail
 go_ret
 exact ⟨rfl, z1⟩
theorem rlAsk_blk (A B : Nat) (fo lo ke sc mo : Int) (iv : Bool) (px sp : Option Addr) (m cx q cl : Nat) (ex : Int) (sa : Bool) (y : Int) (xs : List Gi) (HQ : Hid (∀ W, CxsAt W (.slice px m cx) xs → Calls Tryz.prog 53 #[.agg #[.slice px m cx, .int .i64 ex, .bool sa, .slice sp q cl], .agg #[.int .i64 fo, .int .i64 lo, .int .i64 ke, .int .i64 sc, .int .i64 mo, .bool iv]] W fun e w' => e = .returned (.int .i64 y) ∧ Gr W w')) (w : World) (hv : CxsAt w (.slice px m cx) xs) (hx : CellsAt w A 27 #[.slice px m cx, .int .i64 ex, .bool sa, .slice sp q cl]) (hp : CellsAt w B 24 #[.int .i64 fo, .int .i64 lo, .int .i64 ke, .int .i64 sc, .int .i64 mo, .bool iv]) : CW 52 #[.pointer (some ⟨A, 0, none⟩), .pointer (some ⟨B, 0, none⟩)] w (.int .i64 y) :=by
 delta CW
 have lx := hx.lt
 have lp := hp.lt
 obtain ⟨cx0, cx1, cx2, cx3⟩ := hx.t4
 obtain ⟨cp0, cp1, cp2, cp3, cp4, cp5⟩ := hp.t6
 go_enter Tryz.func52, Tryz.ntmps52
 go_wp2_with fail
 clear cx0 cx1 cx2 cx3 cp0 cp1 cp2 cp3 cp4 cp5
 refine (HQ.out _ hv).mono ?_
 rintro e w1 ⟨rfl, g1⟩
 have ⟨Fx_1, lx_1⟩ := hx.gl g1
 have ⟨Fp_1, lp_1⟩ := hp.gl g1
 have z1 := (Gr.refl w).trans g1
 clear hx hp g1
 go_wp2_with fail
 go_ret
 exact ⟨rfl, z1⟩
set_option maxHeartbeats 2000000 in
theorem rlFirst_c (B n k : Nat) (F : Nat → Nat) (K : Nat → Array Value) (y : Int) (hn : n ≤ 1000) (hk : k ≤ n) (hy : if k < n then (y != 0) = true else y = 0) (HE : ∀ j, j < n → Enters (F j)) (w : World) (hB : B < w.heap.size) (hc : ∀ j, j < n → w.cell? ⟨B, j, none⟩ = some (.func (.func (F j)) #[] (K j)))
 (HQ : Hid (∀ j, j < n → j ≤ k → ∀ W, Gr w W → Calls Tryz.prog (F j) (K j) W fun e w' => e = .returned (.int .i64 (if j < k then 0 else y)) ∧ Gr W w')) :
 CW 28 #[.slice (some ⟨B, 0, none⟩) n n] w (.int .i64 y) :=by
 delta CW
 have HC := Lib.hid hc
 have HEN := Lib.hid HE
 have HN := Lib.hid (And.intro hn hk)
 clear hc HE hn hk
 go_enter Tryz.func28, Tryz.ntmps28
 go_wp2_with fail
 go_loopw [4, 5, 8] (fun _ _ i wr => ∃ j : Nat, j ≤ k ∧ i = .int .i64 j ∧ Gr w wr) (fun _ _ i _ => n - (intOf i).toNat)
 case atStart => exact ⟨0, Nat.zero_le _, rfl, Gr.refl _⟩
 case round =>
  obtain ⟨j, hj, rfl, hg⟩ := hrel
  obtain ⟨hn, hkn⟩ := HN.out
  by_cases hlt : j < n
  ·have hjI : (j : Int) < (n : Int) := by omega
   have h1 := (hg.cell (p := ⟨B, j, none⟩) hB).trans (HC.out j hlt)
   have hE := HEN.out j hlt
   have HQ1 := Lib.hid fun W g => HQ.out j hlt hj W g
   unfold Enters at hE
   have hBl : B < wr.heap.size := Nat.lt_of_lt_of_le hB hg.size
   by_cases hjk : j < k
   ·rw [if_pos hjk] at HQ1
    clear HQ HC HEN hy
    generalize F j = f at *
    generalize K j = c at *
    go_wp2_with fail
    refine (HQ1.out _ hg).mono ?_
    rintro e w1 ⟨rfl, g1⟩
    go_wp2_with fail
    go_roundw
    case rel => exact ⟨j + 1, by omega, by go_num, hg.trans g1⟩
    case measure => simp [intOf]; omega
   ·obtain rfl : j = k := by omega
    rw [if_neg (by omega)] at HQ1
    rw [if_pos hlt] at hy
    have hy2 : (y == 0) = false := by simpa using hy
    have hy3 : ¬ y = 0 := by simpa using hy
    clear HQ HC HEN
    generalize F j = f at *
    generalize K j = c at *
    go_wp2_with fail
    refine (HQ1.out _ hg).mono ?_
    rintro e w1 ⟨rfl, g1⟩
    go_wp2_with fail
    go_ret
    exact ⟨rfl, hg.trans g1⟩
  ·have hjI : ¬ (j : Int) < (n : Int) := by omega
   obtain rfl : y = 0 := by rwa [if_neg (by omega)] at hy
   clear HQ HC HEN hy
   go_wp2_with fail
   go_ret
   exact ⟨rfl, hg⟩
set_option maxHeartbeats 8000000 in
theorem rlBlk_of (px sp : Option Addr) (m cx q cl : Nat) (xs : List Gi) (hxn : xs.length = m) (hm0 : 0 < m) (fo lo ke sc mo : Int) (iv : Bool) (ex b p : Int) (sa : Bool) (hp0 : 0 ≤ p ∧ p ≤ 4611686018427387904) (HSH : Hid (∀ W, (Op.shift .shl .i64 1 .i64 b).run Tryz.prog W = .ok (.int .i64 p) W))
 (HB : CR 97 #[.agg #[.int .i64 fo, .int .i64 lo, .int .i64 ke, .int .i64 sc, .int .i64 mo, .bool iv]] (.int .i64 b)) (HW : Hid (∀ v ls l, 0 ≤ l → l ≤ 4611686018427387904 → ls ≠ [] → ∀ W, NumsAt W v ls → Calls Tryz.prog 98 #[.int .i64 l, v] W fun e w' => e = .returned (.bool (nAll l ls)) ∧ Gr W w')) (w : World) (hv : CxsAt w (.slice px m cx) xs) :
 Calls Tryz.prog 53 #[.agg #[.slice px m cx, .int .i64 ex, .bool sa, .slice sp q cl], .agg #[.int .i64 fo, .int .i64 lo, .int .i64 ke, .int .i64 sc, .int .i64 mo, .bool iv]] w fun e w' => e = .returned (.int .i64 (if partsB (-p) p xs = true ∧ -100 ≤ ex ∧ ex ≤ 100 then 0 else 2)) ∧ Gr w w' := by
 obtain ⟨yb, yo, yc, hsl, hlen, hyb, hyc⟩ := hv.at (by intro e; rw [e] at hxn; simp at hxn; omega)
 rw [hxn] at hsl hlen
 cases hsl
 have HYC := Lib.hid hyc
 have HYN := Lib.hid hxn
 have HP0 := Lib.hid hp0
 clear hyc hv hxn hp0 hm0
 go_enter Tryz.func53, Tryz.ntmps53
 go_wp2_with fail
 obtain ⟨u0, hU⟩ : ∃ uu, uu = ((w.alloc (.cells #[.slice (some ⟨yb, yo, none⟩) m cx, .int .i64 ex, .bool sa, .slice sp q cl] 27)).alloc (.cells #[.int .i64 fo, .int .i64 lo, .int .i64 ke, .int .i64 sc, .int .i64 mo, .bool iv] 24)) := ⟨_, rfl⟩
 have ⟨gu, R0, R1⟩ := lay2 hU
 rw [← hU]
 clear hU
 have lb := R0.lt
 have lp := R1.lt
 obtain ⟨cp0, cp1, cp2, cp3, cp4, cp5⟩ := R1.t6
 go_wp2_with fail
 clear cp0 cp1 cp2 cp3 cp4 cp5
 refine (HB.out _).mono ?_
 rintro e w1 ⟨rfl, g1⟩
 have ⟨Fb_1, lb_1⟩ := R0.gl g1
 have ⟨Fp_1, lp_1⟩ := R1.gl g1
 have z1 := gu.trans g1
 clear R0 R1 gu g1
 have hsh := HSH.out
 obtain ⟨cb0, cb1, cb2, cb3⟩ := Fb_1.t4
 go_wp2_with fail
 clear cb0 cb1 cb2 cb3
 clear hsh
 go_loopw [14] (fun i wr => ∃ j : Nat, j ≤ m ∧ i = .int .i64 j ∧ partsB (-p) p (xs.take j) = true ∧ CellsAt wr w.heap.size 27 #[.slice (some ⟨yb, yo, none⟩) m cx, .int .i64 ex, .bool sa, .slice sp q cl] ∧ Gr w wr) (fun i _ => m - (intOf i).toNat)
 case atStart => exact ⟨0, by omega, rfl, rfl, Fb_1, z1⟩
 case round =>
  clear Fb_1 Fp_1 z1
  obtain ⟨j, hj, rfl, hp, BB, hg⟩ := hrel
  by_cases hlt : j < m
  ·have hjI : (j : Int) < (m : Int) := by omega
   obtain ⟨x, hx⟩ := get_of_lt (xs := xs) (by rw [HYN.out]; exact hlt)
   have h1 := (hg.cell (p := ⟨yb, yo + j * 2, none⟩) hyb).trans (HYC.out j x hx).1
   have h2 := (hg.cell (p := ⟨yb, yo + j * 2 + 1, none⟩) hyb).trans (HYC.out j x hx).2
   have hbl : yb < wr.heap.size := Nat.lt_of_lt_of_le hyb hg.size
   obtain ⟨re, im⟩ := x
   simp only at h1 h2
   have lb := BB.lt
   go_wp2_with fail
   obtain ⟨va, hqap1⟩ : ∃ zz, zz = ((wr.alloc (.cells #[.int .i64 re, .int .i64 im] 50)).alloc (.cells #[.int .i64 re, .int .i64 im] 3)) := ⟨_, rfl⟩
   have Yb_ap1 : CellsAt va (w.heap.size) 27 #[.slice (some ⟨yb, yo, none⟩) m cx, .int .i64 ex, .bool sa, .slice sp q cl] := by rw [hqap1]; first | exact (BB.alloc _).alloc _ | simpa using (BB.alloc _).alloc _
   have Ya_ap1 : CellsAt va (wr.heap.size) 50 #[.int .i64 re, .int .i64 im] := by rw [hqap1]; exact (CellsAt.new wr 50 #[.int .i64 re, .int .i64 im]).alloc _
   have Ys_ap1 : CellsAt va (wr.heap.size + 1) 3 #[.int .i64 re, .int .i64 im] := by rw [hqap1]; have q_ := CellsAt.newAt (wr.alloc (.cells #[.int .i64 re, .int .i64 im] 50)) 3 #[.int .i64 re, .int .i64 im] (B := wr.heap.size + 1) (by simp); first | exact q_ | simpa using q_
   have yap1 : Gr w va := by rw [hqap1]; exact (hg.alloc _ _).alloc _ _
   rw [← hqap1]
   clear hqap1
   have NS : NumsAt va (.slice (some ⟨wr.heap.size + 1, 0, none⟩) 2 2) [re, im] := nums_of_cells (ls := [re, im]) Ys_ap1 (fun j x hj => by match j, hj with | 0, hj => cases hj; rfl | 1, hj => cases hj; rfl) (Nat.le_refl _) (by unfold maxLen; simp)
   have HW1 := Lib.hid (HW.out _ _ _ HP0.out.1 HP0.out.2 (by simp) _ NS)
   clear HW NS
   by_cases hin : partIn (-p) p ⟨re, im⟩ = true
   ·have hall : nAll p [re, im] = true := by simpa [nAll, partIn, Bool.and_assoc] using hin
    rw [hall] at HW1
    refine (HW1.out).mono ?_
    rintro e w9 ⟨rfl, g9⟩
    have F9 := Yb_ap1.gr g9
    have z9 := yap1.trans g9
    have hs := Lib.hid (partsB_snoc hx hp hin)
    go_wp2_with fail
    go_roundw
    case rel => exact ⟨j + 1, by omega, by go_num, hs.out, F9, z9⟩
    case measure => simp [intOf]; omega
   ·have hno : partIn (-p) p ⟨re, im⟩ = false := by simpa using hin
    have hall : nAll p [re, im] = false := by
     rw [← hno]
     simp [nAll, partIn, Bool.and_assoc]
    rw [hall] at HW1
    refine (HW1.out).mono ?_
    rintro e w9 ⟨rfl, g9⟩
    have hfin := partsB_no hx hno
    go_wp2_with fail
    all_goals
     go_ret
     exact ⟨by first | rfl | (rw [hfin]; rfl), yap1.trans g9⟩
  ·have ejm : j = m := by omega
   have hjI : ¬ (j : Int) < (m : Int) := by omega
   rw [ejm] at hp
   rw [show xs.take m = xs by rw [← HYN.out]; exact List.take_length] at hp
   have lb := BB.lt
   obtain ⟨cb0, cb1, cb2, cb3⟩ := BB.t4
   go_wp2_with fail
   clear cb0 cb1 cb2 cb3
   obtain ⟨va, hqep1⟩ : ∃ zz, zz = (wr.alloc (.cells #[.int .i64 ex] 3)) := ⟨_, rfl⟩
   have Yb_ep1 : CellsAt va (w.heap.size) 27 #[.slice (some ⟨yb, yo, none⟩) m cx, .int .i64 ex, .bool sa, .slice sp q cl] := by rw [hqep1]; first | exact BB.alloc _ | simpa using BB.alloc _
   have Ys_ep1 : CellsAt va (wr.heap.size) 3 #[.int .i64 ex] := by rw [hqep1]; have q_ := CellsAt.new wr 3 #[.int .i64 ex]; first | exact q_ | simpa using q_
   have yep1 : Gr w va := by rw [hqep1]; exact hg.alloc _ _
   rw [← hqep1]
   clear hqep1
   have NS : NumsAt va (.slice (some ⟨wr.heap.size, 0, none⟩) 1 1) [ex] := nums_of_cells (ls := [ex]) Ys_ep1 (fun j x hj => by match j, hj with | 0, hj => cases hj; rfl) (Nat.le_refl _) (by unfold maxLen; simp)
   have HW1 := Lib.hid (HW.out _ _ 100 (by decide) (by decide) (by simp) _ NS)
   clear HW NS
   by_cases hin : -100 ≤ ex ∧ ex ≤ 100
   ·have hall : nAll 100 [ex] = true := by simp [nAll, hin.1, hin.2]
    rw [hall] at HW1
    refine (HW1.out).mono ?_
    rintro e w9 ⟨rfl, g9⟩
    go_wp2_with fail
    all_goals
     go_ret
     exact ⟨by first | rfl | (rw [if_pos ⟨hp, hin⟩]; rfl), yep1.trans g9⟩
   ·have hall : nAll 100 [ex] = false := by simp only [nAll, List.all_cons, List.all_nil, Bool.and_true]; simp; omega
    rw [hall] at HW1
    refine (HW1.out).mono ?_
    rintro e w9 ⟨rfl, g9⟩
    go_wp2_with fail
    all_goals
     go_ret
     exact ⟨by first | rfl | (rw [if_neg (fun h => hin h.2)]; rfl), yep1.trans g9⟩
set_option maxHeartbeats 2000000 in
theorem rlLoss_plan (fo lo ke sc mo : Int) (iv : Bool) (v : Value) (y : Int) (hy : ¬ y = 0) (hb : (y == 0) = false) (HQ : CR 30 #[.agg #[.int .i64 fo, .int .i64 lo, .int .i64 ke, .int .i64 sc, .int .i64 mo, .bool iv]] (.int .i64 y)) (w : World) : CW 20 #[.agg #[.int .i64 fo, .int .i64 lo, .int .i64 ke, .int .i64 sc, .int .i64 mo, .bool iv], v] w (.tuple #[.int .i64 0, .int .i64 y]) :=by
 delta CW
 go_enter Tryz.func20, Tryz.ntmps20
 go_wp2_with fail
 obtain ⟨u0, hU⟩ : ∃ uu, uu = (w.alloc (.cells #[.int .i64 fo, .int .i64 lo, .int .i64 ke, .int .i64 sc, .int .i64 mo, .bool iv] 24)) := ⟨_, rfl⟩
 have ⟨gu, R0⟩ := lay1 hU
 rw [← hU]
 clear hU
 have lp := R0.lt
 obtain ⟨cp0, cp1, cp2, cp3, cp4, cp5⟩ := R0.t6
 go_wp2_with fail
 clear cp0 cp1 cp2 cp3 cp4 cp5
 refine (HQ.out _).mono ?_
 rintro e w1 ⟨rfl, g1⟩
 have ⟨Fp_1, lp_1⟩ := R0.gl g1
 have z1 := gu.trans g1
 clear R0 gu g1
 go_wp2_with fail
 go_ret2
 exact ⟨by first | rfl | (simp [*]; done), z1⟩
set_option maxHeartbeats 2000000 in
theorem rlLoss_bad (fo lo ke sc mo : Int) (iv : Bool) (v : Value) (y : Int) (hy : ¬ y = 0) (hb : (y == 0) = false) (ls : List Int) (HQ : CR 30 #[.agg #[.int .i64 fo, .int .i64 lo, .int .i64 ke, .int .i64 sc, .int .i64 mo, .bool iv]] (.int .i64 0)) (HO : Hid (∀ W, NumsAt W v ls → Calls Tryz.prog 54 #[.agg #[.int .i64 fo, .int .i64 lo, .int .i64 ke, .int .i64 sc, .int .i64 mo, .bool iv], v] W fun e w' => e = .returned (.tuple #[.int .i64 0, .int .i64 y]) ∧ Gr W w')) (w : World) (hv : NumsAt w v ls) : CW 20 #[.agg #[.int .i64 fo, .int .i64 lo, .int .i64 ke, .int .i64 sc, .int .i64 mo, .bool iv], v] w (.tuple #[.int .i64 0, .int .i64 y]) :=by
 delta CW
 go_enter Tryz.func20, Tryz.ntmps20
 go_wp2_with fail
 obtain ⟨u0, hU⟩ : ∃ uu, uu = (w.alloc (.cells #[.int .i64 fo, .int .i64 lo, .int .i64 ke, .int .i64 sc, .int .i64 mo, .bool iv] 24)) := ⟨_, rfl⟩
 have ⟨gu, R0⟩ := lay1 hU
 rw [← hU]
 clear hU
 have lp := R0.lt
 obtain ⟨cp0, cp1, cp2, cp3, cp4, cp5⟩ := R0.t6
 go_wp2_with fail
 clear cp0 cp1 cp2 cp3 cp4 cp5
 refine (HQ.out _).mono ?_
 rintro e w1 ⟨rfl, g1⟩
 have ⟨Fp_1, lp_1⟩ := R0.gl g1
 have z1 := gu.trans g1
 clear R0 gu g1
 obtain ⟨cp0, cp1, cp2, cp3, cp4, cp5⟩ := Fp_1.t6
 go_wp2_with fail
 clear cp0 cp1 cp2 cp3 cp4 cp5
 refine (HO.out _ (hv.gr z1)).mono ?_
 rintro e w2 ⟨rfl, g2⟩
 have ⟨Fp_2, lp_2⟩ := Fp_1.gl g2
 have z2 := z1.trans g2
 clear Fp_1 z1 g2
 go_wp2_with fail
 go_ret2
 exact ⟨by first | rfl | (simp [*]; done), z2⟩
set_option maxHeartbeats 2000000 in
theorem rlLoss_ok (fo lo ke sc mo : Int) (iv : Bool) (v : Value) (z r : Int) (hz : wrap64 (z + 256) = r) (hz2 : IntKind.i64.wrap (z + 256) = r) (ls : List Int) (HQ : CR 30 #[.agg #[.int .i64 fo, .int .i64 lo, .int .i64 ke, .int .i64 sc, .int .i64 mo, .bool iv]] (.int .i64 0)) (HO : Hid (∀ W, NumsAt W v ls → Calls Tryz.prog 54 #[.agg #[.int .i64 fo, .int .i64 lo, .int .i64 ke, .int .i64 sc, .int .i64 mo, .bool iv], v] W fun e w' => e = .returned (.tuple #[.int .i64 z, .int .i64 0]) ∧ Gr W w')) (w : World) (hv : NumsAt w v ls) : CW 20 #[.agg #[.int .i64 fo, .int .i64 lo, .int .i64 ke, .int .i64 sc, .int .i64 mo, .bool iv], v] w (.tuple #[.int .i64 r, .int .i64 0]) :=by
 delta CW
 go_enter Tryz.func20, Tryz.ntmps20
 go_wp2_with fail
 obtain ⟨u0, hU⟩ : ∃ uu, uu = (w.alloc (.cells #[.int .i64 fo, .int .i64 lo, .int .i64 ke, .int .i64 sc, .int .i64 mo, .bool iv] 24)) := ⟨_, rfl⟩
 have ⟨gu, R0⟩ := lay1 hU
 rw [← hU]
 clear hU
 have lp := R0.lt
 obtain ⟨cp0, cp1, cp2, cp3, cp4, cp5⟩ := R0.t6
 go_wp2_with fail
 clear cp0 cp1 cp2 cp3 cp4 cp5
 refine (HQ.out _).mono ?_
 rintro e w1 ⟨rfl, g1⟩
 have ⟨Fp_1, lp_1⟩ := R0.gl g1
 have z1 := gu.trans g1
 clear R0 gu g1
 obtain ⟨cp0, cp1, cp2, cp3, cp4, cp5⟩ := Fp_1.t6
 go_wp2_with fail
 clear cp0 cp1 cp2 cp3 cp4 cp5
 refine (HO.out _ (hv.gr z1)).mono ?_
 rintro e w2 ⟨rfl, g2⟩
 have ⟨Fp_2, lp_2⟩ := Fp_1.gl g2
 have z2 := z1.trans g2
 clear Fp_1 z1 g2
 go_wp2_with fail
 go_ret2
 exact ⟨by first | rfl | (simp [*]; done), z2⟩
end
end Go.Proofs.YtdignnmpfkgkoaaGreat
