import Derived.BigRegion
import Derived.Test.YtdignnmpfkgkoaaGreatRealBinsS21
namespace Go.Proofs.YtdignnmpfkgkoaaGreat
section
open Go.ChangeShapes Go.WideShapes Go.ChangeAt Go.RowKit
set_option linter.unusedVariables false
set_option linter.unusedSimpArgs false
set_option maxRecDepth 100000
set_option maxHeartbeats 16000000
def put2 (c : Array Value) (k : Nat) (a b : Value) : Array Value := (c.setIfInBounds (k * 2) a).setIfInBounds (k * 2 + 1) b
theorem put2_size (c : Array Value) (k : Nat) (a b : Value) : (put2 c k a b).size = c.size := by unfold put2; simp
theorem put2_self (c : Array Value) (k : Nat) (a b : Value) (h : k * 2 + 1 < c.size) : (put2 c k a b)[k * 2]? = some a ∧ (put2 c k a b)[k * 2 + 1]? = some b := by
 unfold put2
 refine ⟨?_, ?_⟩
 ·rw [Array.getElem?_setIfInBounds, if_neg (by omega), Array.getElem?_setIfInBounds, if_pos rfl, if_pos (by omega)]
 ·rw [Array.getElem?_setIfInBounds, if_pos rfl, if_pos (by simp only [Array.size_setIfInBounds]; omega)]
theorem put2_other (c : Array Value) (k : Nat) (a b : Value) (i : Nat) (h : i < k * 2 ∨ k * 2 + 1 < i) : (put2 c k a b)[i]? = c[i]? := by
 unfold put2
 rw [Array.getElem?_setIfInBounds, if_neg (by omega), Array.getElem?_setIfInBounds, if_neg (by omega)]
theorem CxsAt.of_put {W : World} {B : Nat} {t : TypeId} {c : Array Value} {zs : List Gi} {n : Nat} (h : CellsAt W B t c) (hl : zs.length = n) (hn : n ≤ 1048576) (hc : ∀ j x, j < n → zs[j]? = some x → c[j * 2]? = some (.int .i64 x.re) ∧ c[j * 2 + 1]? = some (.int .i64 x.im)) : CxsAt W (.slice (some ⟨B, 0, none⟩) n n) zs := by
 subst hl
 refine ⟨_, _, rfl, Nat.le_refl _, by unfold maxLen; omega, fun _ => ⟨B, 0, rfl, h.lt, fun j x hj => ?_⟩⟩
 have := hc j x (List.getElem?_eq_some_iff.1 hj).1 hj
 rw [Nat.zero_add, h.cell, h.cell]
 exact this
theorem rlPack_log (p : Option Addr) (n cap m : Nat) (hd : (n : Int) / 2 = (m : Int)) (hm : m ≤ 1048576) (HL : CR 34 #[(m : Int)] (.tuple #[.int .i64 0, .int .i64 3])) (w : World) : CW 8 #[.slice p n cap] w (.tuple #[.slice none 0 0, .int .i64 3]) :=by
 delta CW
 skip
 go_in
 go_wp2_with fail
 refine (HL.out _).mono ?_
 rintro e w1 ⟨rfl, g1⟩
 go_wp2_with fail
 go_ret2
 exact ⟨rfl, g1⟩
theorem rlPack_odd (p : Option Addr) (n cap m : Nat) (hd : (n : Int) / 2 = (m : Int)) (hm : m ≤ 1048576) (L : Int) (hne : ¬ (n : Int) = 2 * (m : Int)) (HL : CR 34 #[(m : Int)] (.tuple #[L, .int .i64 0])) (w : World) : CW 8 #[.slice p n cap] w (.tuple #[.slice none 0 0, .int .i64 3]) :=by
 delta CW
 skip
 have hm2 : IntKind.i64.wrap (2 * (m : Int)) = 2 * (m : Int) := IntWalk.i64_in _ ⟨by omega, by omega⟩
 have hm3 : wrap64 (2 * (m : Int)) = 2 * (m : Int) := IntWalk.wrap64_in _ ⟨by omega, by omega⟩
 have hb : ((n : Int) != 2 * (m : Int)) = true := by simp [hne]
 have hb2 : ((n : Int) == 2 * (m : Int)) = false := by simp [hne]
 go_in
 go_wp2_with fail
 refine (HL.out _).mono ?_
 rintro e w1 ⟨rfl, g1⟩
 go_wp2_with fail
 go_ret2
 exact ⟨rfl, g1⟩
theorem rlPack_yes (p : Option Addr) (n cap m : Nat) (hd : (n : Int) / 2 = (m : Int)) (hm : m ≤ 1048576) (L : Int) (hm0 : 0 < m) (heq : (n : Int) = 2 * (m : Int)) (xs : List Int) (zs : List Gi) (hxn : xs.length = n) (hzn : zs.length = m) (HZ : Hid (∀ j z, zs[j]? = some z → xs[2 * j]? = some z.re ∧ xs[2 * j + 1]? = some z.im)) (HL : CR 34 #[(m : Int)] (.tuple #[L, .int .i64 0])) (w : World) (hv : NumsAt w (.slice p n cap) xs) :
 Calls Tryz.prog 8 #[.slice p n cap] w fun e w' => ∃ u, e = .returned (.tuple #[u, .int .i64 0]) ∧ CxsAt w' u zs ∧ Gr w w' := by
 skip
 have hm2 : IntKind.i64.wrap (2 * (m : Int)) = 2 * (m : Int) := IntWalk.i64_in _ ⟨by omega, by omega⟩
 have hm3 : wrap64 (2 * (m : Int)) = 2 * (m : Int) := IntWalk.wrap64_in _ ⟨by omega, by omega⟩
 have hb : ((n : Int) != 2 * (m : Int)) = false := by simp [heq]
 have hb2 : ((n : Int) == 2 * (m : Int)) = true := by simp [heq]
 have hmk := run_make_cx m hm
 obtain ⟨b, o, cp, hsl, hlen, hbb, hc⟩ := hv.at (by intro e; rw [e] at hxn; simp at hxn; omega)
 rw [hxn] at hsl hlen
 cases hsl
 have HC := kh hc
 have HXN := kh hxn
 have HZN := kh hzn
 have HNM := kh heq
 have HM0 := kh (And.intro hm hm0)
 clear hc hv hxn hzn heq hm hm0
 go_in
 go_wp2_with fail
 refine (HL.out _).mono ?_
 rintro e w1 ⟨rfl, g1⟩
 go_wp2_with fail
 have M0 := CellsAt.new w1 50 (madeCells #[.int .i64 0, .int .i64 0] (m * 2))
 have M1 := size_madeCells #[.int .i64 0, .int .i64 0] (m * 2)
 go_loopw [8, 30] (fun _ i wr => ∃ k : Nat, ∃ c : Array Value, k ≤ m ∧ i = .int .i64 k ∧ CellsAt wr w1.heap.size 50 c ∧ c.size = m * 2 ∧ (∀ j x, j < k → zs[j]? = some x → c[j * 2]? = some (.int .i64 x.re) ∧ c[j * 2 + 1]? = some (.int .i64 x.im)) ∧ Gr w1 wr) (fun _ i _ => m - (intOf i).toNat)
 case atStart => exact ⟨0, _, by omega, rfl, M0, M1, fun j x hj => absurd hj (Nat.not_lt_zero _), (Gr.refl _).alloc _ _⟩
 case round =>
  clear M0 M1 hmk;obtain ⟨k, c, hk, rfl, hC, hs, hj, hg⟩ := hrel;have hgw := g1.trans hg
  by_cases hlt : k < m
  ·have hkI : (k : Int) < (m : Int) := by omega
   have heq := HNM.out;have hmm := HM0.out;obtain ⟨z, hz⟩ := get_of_lt (xs := zs) (by rw [HZN.out]; exact hlt);obtain ⟨e1, e2⟩ := HZ.out k z hz;have h1 := (hgw.cell (p := ⟨b, o + 2 * k, none⟩) hbb).trans (HC.out _ _ e1);have h2 := (hgw.cell (p := ⟨b, o + (2 * k + 1), none⟩) hbb).trans (HC.out _ _ e2)
   have hbl : b < wr.heap.size := Nat.lt_of_lt_of_le hbb hgw.size
   have hsz := hg.size;have hCl := hC.lt;have f0 := hC.frozen (k * 2);have f1 := hC.frozen (k * 2 + 1);have q0 := hC.cell (k * 2);have q1 := hC.cell (k * 2 + 1);have HS := kh hs;rw [Array.getElem?_eq_getElem (show k * 2 < c.size by rw [HS.out]; omega)] at q0;rw [Array.getElem?_eq_getElem (show k * 2 + 1 < c.size by rw [HS.out]; omega)] at q1;have HJ := kh hj;have HZK := kh hz
   have k1 : IntKind.i64.wrap (2 * (k : Int)) = ((2 * k : Nat) : Int) := IntWalk.i64_in _ ⟨by omega, by omega⟩
   have k1b : wrap64 (2 * (k : Int)) = ((2 * k : Nat) : Int) := IntWalk.wrap64_in _ ⟨by omega, by omega⟩
   have k2 : IntKind.i64.wrap (((2 * k : Nat) : Int) + 1) = ((2 * k + 1 : Nat) : Int) := IntWalk.i64_in _ ⟨by omega, by omega⟩
   have k2b : wrap64 (((2 * k : Nat) : Int) + 1) = ((2 * k + 1 : Nat) : Int) := IntWalk.wrap64_in _ ⟨by omega, by omega⟩
   have k3 : ((2 * k : Nat) : Int) < (n : Int) := by omega
   have k4 : ((2 * k + 1 : Nat) : Int) < (n : Int) := by omega
   have k5 : (0 : Int) ≤ ((2 * k : Nat) : Int) := by omega
   have k6 : (0 : Int) ≤ ((2 * k + 1 : Nat) : Int) := by omega
   clear hs hj hz e1 e2 heq;generalize 2 * k + 1 = i1 at *;generalize 2 * k = i0 at *;obtain ⟨re, im⟩ := z
   simp only at h1 h2
   go_wp2_with fail
   go_region
   have hCf := (hC.set (k * 2) (.int .i64 re)).set (k * 2 + 1) (.int .i64 im);have hgf := (hg.setCell (a := ⟨w1.heap.size, k * 2, none⟩) (by simp) (.int .i64 re)).setCell (a := ⟨w1.heap.size, k * 2 + 1, none⟩) (by simp) (.int .i64 im);go_wp2_with fail
   go_roundw
   case rel =>
    refine ⟨k + 1, put2 c k _ _, by omega, by go_num, hCf, by rw [put2_size]; exact HS.out, fun j x hj hx => ?_, hgf.drew⟩
    by_cases e : j = k
    ·subst e
     rw [HZK.out] at hx
     cases hx
     exact put2_self c j _ _ (by rw [HS.out]; omega)
    ·obtain ⟨z0, z1⟩ := HJ.out j x (by omega) hx
     exact ⟨(put2_other c k _ _ _ (by omega)).trans z0, (put2_other c k _ _ _ (by omega)).trans z1⟩
   case measure => simp [intOf]; omega
  ·obtain rfl : k = m := by omega
   have hkI : ¬ (k : Int) < (k : Int) := by omega
   go_wp2_with fail
   go_ret2
   exact ⟨_, rfl, CxsAt.of_put hC HZN.out HM0.out.1 hj, hgw⟩
theorem rlAsk_planb (B : Nat) (fo lo ke sc mo : Int) (iv : Bool) (y : Int) (HQ : CR 30 #[.agg #[fo, lo, ke, sc, mo, iv]] (.int .i64 y)) (w : World) (hp : CellsAt w B 24 #[fo, lo, ke, sc, mo, iv]) : CW 29 #[.pointer (some ⟨B, 0, none⟩)] w (.int .i64 y) :=by
 delta CW
 have lp := hp.lt
 obtain ⟨cp0, cp1, cp2, cp3, cp4, cp5⟩ := hp.t6
 go_in
 go_wp2_with fail
 clear cp0 cp1 cp2 cp3 cp4 cp5
 refine (HQ.out _).mono ?_
 rintro e w1 ⟨rfl, g1⟩
 have ⟨Fp_1, lp_1⟩ := hp.gl g1
 have z1 := (Gr.refl w).trans g1
 clear hp g1
 go_wp2_with fail
 go_ret
 exact ⟨rfl, z1⟩
theorem rlAsk_sizeb (A B : Nat) (fo lo ke sc mo : Int) (iv : Bool) (px : Option Addr) (m cx : Nat) (z y : Int) (HSH : Hid (∀ W, (Op.shift .shl .i64 2 .i64 lo).run Tryz.prog W = .ok (.int .i64 z) W)) (HQ : CR 32 #[(m : Int), z] (.int .i64 y)) (w : World) (hx : CellsAt w A 22 #[.slice px m cx]) (hp : CellsAt w B 24 #[fo, lo, ke, sc, mo, iv]) : CW 31 #[.pointer (some ⟨A, 0, none⟩), .pointer (some ⟨B, 0, none⟩)] w (.int .i64 y) :=by
 delta CW
 go_in
 have lx := hx.lt
 have lp := hp.lt
 have hsh := HSH.out
 go_wp2_with fail
 obtain ⟨w0, hqp1⟩ : ∃ zz, zz = w := ⟨_, rfl⟩
 have Yx_p1 : CellsAt w0 (A) 22 #[.slice px m cx] := by rw [hqp1]; first | exact hx | simpa using hx
 have Yp_p1 : CellsAt w0 (B) 24 #[fo, lo, ke, sc, mo, iv] := by rw [hqp1]; first | exact hp | simpa using hp
 have yp1 : Gr w w0 := by rw [hqp1]; exact Gr.refl w
 rw [← hqp1]
 clear hqp1
 have KS := fun W (hG : Gr w0 W) => And.intro ((CellsAt.gr Yx_p1 hG).at 0) (CellsAt.gr Yp_p1 hG).t6
 have hclG := gr_closed w0
 try simp only [List.append_eq, List.cons_append, List.nil_append]
 refine wp_region_grow (S := Gr w0) rfl (Gr.drew (Gr.refl _)) ?_
 refine gK 0 hclG KS ?_
 refine gT 1 hclG ?_
 refine gK 2 hclG KS ?_
 refine gK 3 hclG KS ?_
 refine gK 4 hclG KS ?_
 refine gC 5 hclG (fun W _ => HQ.out W) ?_
 try simp only [Act.put, putS]
 refine gT 6 hclG ?_
 refine wpG_done (by kernel_rfl) (fun w1 g1 => ?_) _
 replace g1 := (Gr.drew (Gr.refl w0)).trans g1
 have ⟨Fx_1, lx_1⟩ := Yx_p1.gl g1
 have ⟨Fp_1, lp_1⟩ := Yp_p1.gl g1
 have z1 := yp1.trans g1
 clear Yx_p1 Yp_p1 yp1 g1
 clear hclG KS
 go_wp2_with fail
 go_ret
 exact ⟨rfl, z1⟩
theorem rlFirst_c (B n k : Nat) (F : Nat → Nat) (K : Nat → Array Value) (y : Int) (hn : n ≤ 1000) (hk : k ≤ n) (hy : if k < n then (y != 0) = true else y = 0) (HE : ∀ j, j < n → Enters (F j)) (w : World) (hB : B < w.heap.size) (hc : ∀ j, j < n → w.cell? ⟨B, j, none⟩ = some (.func (.func (F j)) #[] (K j)))
 (HQ : Hid (∀ j, j < n → j ≤ k → ∀ W, Gr w W → Calls Tryz.prog (F j) (K j) W fun e w' => e = .returned (.int .i64 (if j < k then 0 else y)) ∧ Gr W w')) :
 CW 28 #[.slice (some ⟨B, 0, none⟩) n n] w (.int .i64 y) :=by
 delta CW
 have HC := kh hc
 have HEN := kh HE
 have HN := kh (And.intro hn hk)
 clear hc HE hn hk
 go_in
 go_wp2_with fail
 go_loopw [4, 5, 8] (fun _ _ i wr => ∃ j : Nat, j ≤ k ∧ i = .int .i64 j ∧ Gr w wr) (fun _ _ i _ => n - (intOf i).toNat)
 case atStart => exact ⟨0, Nat.zero_le _, rfl, Gr.refl _⟩
 case round =>
  obtain ⟨j, hj, rfl, hg⟩ := hrel;obtain ⟨hn, hkn⟩ := HN.out
  by_cases hlt : j < n
  ·have hjI : (j : Int) < (n : Int) := by omega
   have h1 := (hg.cell (p := ⟨B, j, none⟩) hB).trans (HC.out j hlt);have hE := HEN.out j hlt;have HQ1 := kh fun W g => HQ.out j hlt hj W g
   unfold Enters at hE
   have hBl : B < wr.heap.size := Nat.lt_of_lt_of_le hB hg.size
   by_cases hjk : j < k
   ·rw [if_pos hjk] at HQ1
    clear HQ HC HEN hy;generalize F j = f at *;generalize K j = c at *;go_wp2_with fail;refine (HQ1.out _ hg).mono ?_;rintro e w1 ⟨rfl, g1⟩;go_wp2_with fail
    go_roundw
    case rel => exact ⟨j + 1, by omega, by go_num, hg.trans g1⟩
    case measure => simp [intOf]; omega
   ·obtain rfl : j = k := by omega
    rw [if_neg (by omega)] at HQ1;rw [if_pos hlt] at hy
    have hy2 : (y == 0) = false := by simpa using hy
    have hy3 : ¬ y = 0 := by simpa using hy
    clear HQ HC HEN;generalize F j = f at *;generalize K j = c at *;go_wp2_with fail;refine (HQ1.out _ hg).mono ?_;rintro e w1 ⟨rfl, g1⟩;go_wp2_with fail
    go_ret
    exact ⟨rfl, hg.trans g1⟩
  ·have hjI : ¬ (j : Int) < (n : Int) := by omega
   obtain rfl : y = 0 := by rwa [if_neg (by omega)] at hy
   clear HQ HC HEN hy;go_wp2_with fail
   go_ret
   exact ⟨rfl, hg⟩
theorem rlUnt_of (px sp : Option Addr) (m cx q cl : Nat) (hm0 : 0 < m) (hm : m ≤ 64) (xs zs : List Gi) (hxn : xs.length = m) (hzn : zs.length = m + 1) (fo lo ke sc mo : Int) (iv : Bool) (ex ex2 : Int) (sa : Bool) (ls : List Int) (hls : ls.length ≤ 20) (hex : wrap64 (ex + 1) = ex2 ∧ IntKind.i64.wrap (ex + 1) = ex2)
 (U : Nat → Gi) (F S : Nat → Bool) (hS0 : S 0 = sa) (HS1 : Hid (∀ j, j ≤ m → (S j || F j) = S (j + 1)))
 (HU : Hid (∀ j x y, j ≤ m → xs[j % m]? = some x → xs[(m - j) % m]? = some y → ∀ W, Calls Tryz.prog 73 #[.agg #[.int .i64 (x).re, .int .i64 (x).im], .agg #[.int .i64 (y).re, .int .i64 (y).im], .int .i64 (j : Int), .agg #[fo, lo, ke, sc, mo, iv]] W fun e w' => e = .returned (.agg #[.int .i64 (U j).re, .int .i64 (U j).im]) ∧ Gr W w'))
 (HF : Hid (∀ j z, zs[j]? = some z → ∀ W, Calls Tryz.prog 72 #[.agg #[.int .i64 (U j).re, .int .i64 (U j).im], .agg #[fo, lo, ke, sc, mo, iv]] W fun e w' => e = .returned (.tuple #[.agg #[.int .i64 (z).re, .int .i64 (z).im], .bool (F j)]) ∧ Gr W w')) (w : World) (hv : CxsAt w (.slice px m cx) xs) (hl : NumsAt w (.slice sp q cl) ls) :
 Calls Tryz.prog 33 #[.agg #[.slice px m cx, ex, sa, .slice sp q cl], .agg #[fo, lo, ke, sc, mo, iv]] w fun e w' => ∃ vx vs, e = .returned (.agg #[vx, ex2, (S (m + 1)), vs]) ∧ CxsAt w' vx zs ∧ NumsAt w' vs ls ∧ Gr w w' ∧ ∀ b, vs.ownBlock = some b → w.heap.size ≤ b := by
 have HCl := kh fun v W h => ftClone_c v ls hls W h
 have hmk : ∀ W : World, (Instr.makeSlice 25 (.int .i64 ((m : Int) + 1)) (.int .i64 ((m : Int) + 1))).run Tryz.prog W = .ok (.slice (some ⟨W.heap.size, 0, none⟩) (m + 1) (m + 1)) (W.alloc (.cells (madeCells #[.int .i64 0, .int .i64 0] ((m + 1) * 2)) 50)) := fun W => run_make_cx (m + 1) (by omega) W
 have hm1 : IntKind.i64.wrap ((m : Int) + 1) = ((m + 1 : Nat) : Int) := IntWalk.i64_in _ ⟨by omega, by omega⟩
 have hm2 : wrap64 ((m : Int) + 1) = ((m + 1 : Nat) : Int) := IntWalk.wrap64_in _ ⟨by omega, by omega⟩
 obtain ⟨yb, yo, yc, hsl, hlen, hyb, hyc⟩ := hv.at (by intro e; rw [e] at hxn; simp at hxn; omega)
 rw [hxn] at hsl
 cases hsl
 have HYC := kh hyc
 have HYN := kh hxn
 have HZN := kh hzn
 have HM := kh (And.intro hm0 hm)
 clear hyc hv hxn hlen hzn hm0 hm
 go_in
 go_wp2_with fail
 obtain ⟨u0, hU⟩ : ∃ uu, uu = (((w.alloc (.cells #[.slice (some ⟨yb, yo, none⟩) m cx, ex, sa, .slice sp q cl] 27)).alloc (.cells #[fo, lo, ke, sc, mo, iv] 24)).alloc (.cells #[.slice none 0 0, .int .i64 0, false, .slice none 0 0] 27)) := ⟨_, rfl⟩
 have ⟨gu, R0, R1, R2⟩ := lay3 hU
 rw [← hU]
 have hsz : u0.heap.size = w.heap.size + 1 + 1 + 1 := by rw [hU]; simp
 clear hU
 have lb := R0.lt
 have lp := R1.lt
 have lr := R2.lt
 have M0 : CellsAt (u0.alloc (.cells (madeCells #[.int .i64 0, .int .i64 0] ((m + 1) * 2)) 50)) (w.heap.size + 1 + 1 + 1) 50 (madeCells #[.int .i64 0, .int .i64 0] ((m + 1) * 2)) := by
  have := CellsAt.new u0 50 (madeCells #[.int .i64 0, .int .i64 0] ((m + 1) * 2))
  rwa [hsz] at this
 have M1 := size_madeCells #[.int .i64 0, .int .i64 0] ((m + 1) * 2)
 have Tb := R0.alloc (.cells (madeCells #[.int .i64 0, .int .i64 0] ((m + 1) * 2)) 50)
 have Tp := R1.alloc (.cells (madeCells #[.int .i64 0, .int .i64 0] ((m + 1) * 2)) 50)
 have Tr := R2.alloc (.cells (madeCells #[.int .i64 0, .int .i64 0] ((m + 1) * 2)) 50)
 have hul := gu.size
 go_loopw [7, 8, 10, 21] (fun s _ _ i wr => ∃ k : Nat, ∃ c : Array Value, k ≤ m + 1 ∧ i = .int .i64 k ∧ s = .bool (S k) ∧ CellsAt wr (w.heap.size + 1 + 1 + 1) 50 c ∧ c.size = (m + 1) * 2 ∧ (∀ j x, j < k → zs[j]? = some x → c[j * 2]? = some (.int .i64 x.re) ∧ c[j * 2 + 1]? = some (.int .i64 x.im)) ∧ CellsAt wr w.heap.size 27 #[.slice (some ⟨yb, yo, none⟩) m cx, ex, sa, .slice sp q cl] ∧ CellsAt wr (w.heap.size + 1) 24 #[fo, lo, ke, sc, mo, iv] ∧ CellsAt wr (w.heap.size + 1 + 1) 27 #[.slice none 0 0, .int .i64 0, false, .slice none 0 0] ∧ Gr u0 wr) (fun _ _ _ i _ => m + 1 - (intOf i).toNat)
 case atStart => exact ⟨0, _, by omega, rfl, by rw [hS0], M0, M1, fun j x hj => absurd hj (Nat.not_lt_zero _), Tb, Tp, Tr, (Gr.refl _).alloc _ _⟩
 case round =>
  clear M0 M1 hmk Tb Tp Tr R0 R1 R2 lb lp hm1 hm2;obtain ⟨k, c, hk, rfl, rfl, hC, hs, hj, BB, BP, BR, hg⟩ := hrel;obtain ⟨hm0, hm⟩ := HM.out
  by_cases hlt : k < m + 1
  ·have hkI : (k : Int) < (m : Int) + 1 := by omega
   have hgw : Gr w wr := gu.trans hg
   have b1n : k % m < m := Nat.mod_lt _ hm0
   have b2n : (m - k) % m < m := Nat.mod_lt _ hm0
   obtain ⟨x, hx⟩ := get_of_lt (xs := xs) (k := k % m) (by rw [HYN.out]; exact b1n);obtain ⟨y, hy⟩ := get_of_lt (xs := xs) (k := (m - k) % m) (by rw [HYN.out]; exact b2n);obtain ⟨z, hz⟩ := get_of_lt (xs := zs) (k := k) (by rw [HZN.out]; exact hlt);have x1 := (hgw.cell (p := ⟨yb, yo + k % m * 2, none⟩) hyb).trans (HYC.out _ x hx).1;have x2 := (hgw.cell (p := ⟨yb, yo + k % m * 2 + 1, none⟩) hyb).trans (HYC.out _ x hx).2;have y1 := (hgw.cell (p := ⟨yb, yo + (m - k) % m * 2, none⟩) hyb).trans (HYC.out _ y hy).1;have y2 := (hgw.cell (p := ⟨yb, yo + (m - k) % m * 2 + 1, none⟩) hyb).trans (HYC.out _ y hy).2
   have hbl : yb < wr.heap.size := Nat.lt_of_lt_of_le hyb hgw.size
   have HU1 := kh (HU.out k x y (by omega) hx hy);have HF1 := kh (HF.out k z hz);have HSN := kh (HS1.out k (by omega)).symm
   have h0 : ¬ m = 0 := by omega
   have e1 : (k : Int).tmod (m : Int) = ((k % m : Nat) : Int) := rfl
   have b1 : ((k % m : Nat) : Int) < (m : Int) := by omega
   have e2 : IntKind.i64.wrap ((m : Int) - (k : Int)) = ((m - k : Nat) : Int) := by rw [IntWalk.i64_in _ ⟨by omega, by omega⟩]; omega
   have e2b : wrap64 ((m : Int) - (k : Int)) = ((m - k : Nat) : Int) := by rw [IntWalk.wrap64_in _ ⟨by omega, by omega⟩]; omega
   have e3 : ((m - k : Nat) : Int).tmod (m : Int) = (((m - k) % m : Nat) : Int) := rfl
   have b2 : (((m - k) % m : Nat) : Int) < (m : Int) := by omega
   have HZK := kh hz;have HS := kh hs;have HJ := kh hj;clear hz hx hy hs hj HU HF HS1 HYC b1n b2n hS0;generalize k % m = i1 at *;generalize (m - k) % m = i2 at *;generalize m - k = d at *;generalize U k = uk at *;generalize F k = f0 at *;generalize hs0 : S k = s0 at *;clear hs0;have lb := BB.lt;have lp := BP.lt;go_wp2_with fail;have KS := fun W (hG : Gr wr W) => And.intro (CellsAt.gr BB hG).t4 (And.intro (CellsAt.gr BP hG).t6 (And.intro ((hG.cell (p := ⟨yb, yo + i1 * 2, none⟩) hbl).trans x1) (And.intro ((hG.cell (p := ⟨yb, yo + i1 * 2 + 1, none⟩) hbl).trans x2) (And.intro ((hG.cell (p := ⟨yb, yo + i2 * 2, none⟩) hbl).trans y1) ((hG.cell (p := ⟨yb, yo + i2 * 2 + 1, none⟩) hbl).trans y2)))))
   have hclG := gr_closed wr
   try simp only [List.append_eq, List.cons_append, List.nil_append]
   refine wp_region_grow (S := Gr wr) rfl (Gr.drew (Gr.refl _)) ?_;refine gK 0 hclG KS ?_;refine gK 1 hclG KS ?_;refine gT 2 hclG ?_;refine gT 3 hclG ?_;refine gT 4 hclG ?_;refine gT 5 hclG ?_;refine gK 6 hclG KS ?_;refine gK 7 hclG KS ?_;refine gK 8 hclG KS ?_;refine gT 9 hclG ?_;refine gT 10 hclG ?_;refine gT 11 hclG ?_;refine gT 12 hclG ?_;refine gT 13 hclG ?_;refine gT 14 hclG ?_;refine gK 15 hclG KS ?_;refine gT 16 hclG ?_;refine gK 17 hclG KS ?_;refine gC 18 hclG (fun W _ => HU1.out W) ?_
   try simp only [Act.put, putS]
   refine gK 19 hclG KS ?_;refine gC 20 hclG (fun W _ => HF1.out W) ?_
   try simp only [Act.put, putS]
   refine gT 21 hclG ?_;refine gT 22 hclG ?_;refine gT 23 hclG ?_;refine gR 24 fun wa1 ga1 sa1 K hK => ?_
   replace ga1 := (Gr.drew (Gr.refl wr)).trans ga1;have ⟨Fb_a1, lb_a1⟩ := BB.gl ga1;have ⟨Fp_a1, lp_a1⟩ := BP.gl ga1;have za1 := (Gr.refl wr).trans ga1;clear BB BP ga1;have saa1 := (za1).size;have sba1 := sa1.size
   go_simp
   refine hK.out _ _ ?_ ?_
   ·exact Gr.alloc sa1 _ _
   clear hK K
   try simp only [Act.put, putS]
   refine gR 25 fun wa2 ga2 sa2 K hK => ?_
   have ⟨Fb_a2, lb_a2⟩ := CellsAt.gl (Fb_a1.alloc _) ga2;have ⟨Fp_a2, lp_a2⟩ := CellsAt.gl (Fp_a1.alloc _) ga2;have ⟨Fz_a2, lz_a2⟩ := CellsAt.gl (CellsAt.new wa1 50 #[.int .i64 0, .int .i64 0]) ga2;have za2 := (za1.alloc _ _).trans ga2;clear ga2;obtain ⟨mz0, mz1⟩ := Fz_a2.f2;obtain ⟨cz0, cz1⟩ := Fz_a2.t2
   go_simp
   clear mz0 cz0 mz1 cz1;refine hK.out _ _ ?_ ?_
   ·exact (Gr.setCell (Gr.setCell sa2 (by first | omega | (simp only; omega)) _) (by first | omega | (simp only; omega)) _)
   clear hK K
   try simp only [Act.put, putS]
   refine gT 26 hclG ?_;refine wpG_done (by kernel_rfl) (fun wa3 ga3 => ?_) _;have ⟨Fb_a3, lb_a3⟩ := CellsAt.gl ((Fb_a2.ot).ot) ga3;have ⟨Fp_a3, lp_a3⟩ := CellsAt.gl ((Fp_a2.ot).ot) ga3;have ⟨Fz_a3, lz_a3⟩ := CellsAt.gl (CellsAt.set2 (Fz_a2) _ _) ga3;have za3 := ((za2.sc _).sc _).trans ga3;clear ga3;clear hclG KS;have hC2 := hC.gr za3;have BR2 := BR.gr za3;have hg2 := hg.trans za3;have hCl := hC2.lt;have hgs := hg2.size;have hzs := (za3).size;have hCl0 := hC.lt;have f0 := hC2.frozen (k * 2);have q0 := hC2.cell (k * 2);rw [Array.getElem?_eq_getElem (show k * 2 < c.size by rw [HS.out]; omega)] at q0;have f1 := hC2.frozen (k * 2 + 1);have q1 := hC2.cell (k * 2 + 1);rw [Array.getElem?_eq_getElem (show k * 2 + 1 < c.size by rw [HS.out]; omega)] at q1;obtain ⟨cz0, cz1⟩ := Fz_a3.t2;clear hC hg BR
   cases s0
   all_goals
    go_wp2_with fail;have hCf := (hC2.set (k * 2) (.int .i64 (z).re)).set (k * 2 + 1) (.int .i64 (z).im);have Eb := (CellsAt.other Fb_a3 (B' := w.heap.size + 1 + 1 + 1) (by omega) (k * 2) (.int .i64 (z).re)).other (B' := w.heap.size + 1 + 1 + 1) (by omega) (k * 2 + 1) (.int .i64 (z).im);have Ep := (CellsAt.other Fp_a3 (B' := w.heap.size + 1 + 1 + 1) (by omega) (k * 2) (.int .i64 (z).re)).other (B' := w.heap.size + 1 + 1 + 1) (by omega) (k * 2 + 1) (.int .i64 (z).im);have Er := (CellsAt.other BR2 (B' := w.heap.size + 1 + 1 + 1) (by omega) (k * 2) (.int .i64 (z).re)).other (B' := w.heap.size + 1 + 1 + 1) (by omega) (k * 2 + 1) (.int .i64 (z).im);have hgf := (hg2.setCell (a := ⟨w.heap.size + 1 + 1 + 1, k * 2, none⟩) (by simp only; omega) (.int .i64 (z).re)).setCell (a := ⟨w.heap.size + 1 + 1 + 1, k * 2 + 1, none⟩) (by simp only; omega) (.int .i64 (z).im)
    go_roundw
    case rel =>
     refine ⟨k + 1, put2 c k _ _, by omega, by go_num, by rw [HSN.out]; rfl, hCf, by rw [put2_size]; exact HS.out, fun j x hj hx => ?_, Eb, Ep, Er, hgf⟩
     by_cases e : j = k
     ·subst e
      rw [HZK.out] at hx
      cases hx
      exact put2_self c j _ _ (by rw [HS.out]; omega)
     ·obtain ⟨z0, z1⟩ := HJ.out j x (by omega) hx
      exact ⟨(put2_other c k _ _ _ (by omega)).trans z0, (put2_other c k _ _ _ (by omega)).trans z1⟩
    case measure => simp [intOf]; omega
  ·obtain rfl : k = m + 1 := by omega
   have hkI2 : ¬ (m : Int) + 1 < (m : Int) + 1 := by omega
   clear HU HF HS1 HYC hS0
   have hgw : Gr w wr := gu.trans hg
   have hcx := CxsAt.of_put hC HZN.out (by omega) hj;have hnums := hl.gr hgw;have lb := BB.lt;have lr := BR.lt
   obtain ⟨sN, hsN⟩ : ∃ z, S (m + 1) = z := ⟨_, rfl⟩
   rw [hsN];go_wp2_with fail;clear hkI2 hk hm0 hm hs hj hC BP;generalize hM : m + 1 = M at *;have KS := fun W (hG : GB (w.heap.size + 1 + 1) wr W) => (GB.cellsAt hG BB (by omega)).t4
   have hclG := gb_closed (w.heap.size + 1 + 1) wr
   try simp only [List.append_eq, List.cons_append, List.nil_append]
   refine wp_region_grow (S := GB (w.heap.size + 1 + 1) wr) rfl (GB.drew (GB.refl _ _)) ?_;refine gT 0 hclG ?_;refine gK 1 hclG KS ?_;refine gK 2 hclG KS ?_;refine gT 3 hclG ?_;refine gT 4 hclG ?_;refine gK 5 hclG KS ?_;refine gK 6 hclG KS ?_;refine gR 7 fun we1 ge1 se1 K hK => ?_
   replace ge1 := (Gr.drew (Gr.refl wr)).trans ge1;have ⟨Fb_e1, lb_e1⟩ := BB.gl ge1;have ⟨Fr_e1, lr_e1⟩ := BR.gl ge1;have Ky_e1 := hcx.gr ge1;have ze1 := hgw.trans ge1;clear BB BR hgw ge1
   go_simp
   refine (HCl.out _ _ (hl.gr ze1)).mono ?_;rintro e we2 ⟨vs, rfl, hown, ge2⟩;have hns := NumsAt.of_row hown;have hnl := hown.lt;obtain ⟨vp, vc, rfl⟩ := hns.len
   have hnns : (Value.slice vp ls.length vc).ownBlock ≠ some (w.heap.size + 1 + 1) := fun e => by have := (hnl _ e).1; omega
   have hfr : ∀ b, (Value.slice vp ls.length vc).ownBlock = some b → w.heap.size ≤ b := fun b e => by have := (hnl b e).1; omega
   have te2 := GB.gr se1 ge2;have ⟨Fb_e2, lb_e2⟩ := Fb_e1.gl ge2;have ⟨Fr_e2, lr_e2⟩ := Fr_e1.gl ge2;have Ky_e2 := Ky_e1.gr ge2;have ze2 := ze1.trans ge2;clear Fb_e1 Fr_e1 ze1 ge2;refine hK.out _ _ ?_ ?_
   ·exact te2
   clear hK K
   try simp only [Act.put, putS]
   refine gT 8 hclG ?_;refine gR 9 fun we3 ge3 se3 K hK => ?_
   have ⟨Fb_e3, lb_e3⟩ := Fb_e2.gl ge3;have ⟨Fr_e3, lr_e3⟩ := Fr_e2.gl ge3;have Ky_e3 := Ky_e2.gr ge3;have Ns_e3 := NumsAt.gr (hns) ge3;have ze3 := ze2.trans ge3;clear Fb_e2 Fr_e2 ze2 ge3;obtain ⟨mr0, mr1, mr2, mr3⟩ := Fr_e3.f4;obtain ⟨cr0, cr1, cr2, cr3⟩ := Fr_e3.t4
   go_simp
   clear mr0 cr0 mr1 cr1 mr2 cr2 mr3 cr3;have Ay_e3 := CxsAt.apart Ky_e3 Fr_e3;refine hK.out _ _ ?_ ?_
   ·exact (GB.set (GB.set (GB.set (GB.set se3 _ _) _ _) _ _) _ _)
   clear hK K
   try simp only [Act.put, putS]
   refine wpG_done (by kernel_rfl) (fun we4 ge4 => ?_) _;have ⟨Fb_e4, lb_e4⟩ := CellsAt.gl ((((Fb_e3.ot).ot).ot).ot) ge4
   have Fr_e4 : CellsAt we4 (w.heap.size + 1 + 1) 27 #[.slice (some ⟨w.heap.size + 1 + 1 + 1, 0, none⟩) M M, ex2, sN, .slice vp ls.length vc] := CellsAt.gr (CellsAt.set (CellsAt.set (CellsAt.set (CellsAt.set (Fr_e3) 0 (.slice (some ⟨w.heap.size + 1 + 1 + 1, 0, none⟩) M M)) 1 (.int .i64 ex2)) 2 (.bool sN)) 3 (.slice vp ls.length vc)) ge4
   have lr_e4 := Fr_e4.lt;have Ky_e4 := CxsAt.gr ((CxsAt.set (CxsAt.set (CxsAt.set (CxsAt.set Ky_e3 Ay_e3 0 (.slice (some ⟨w.heap.size + 1 + 1 + 1, 0, none⟩) M M)) Ay_e3 1 (.int .i64 ex2)) Ay_e3 2 (.bool sN)) Ay_e3 3 (.slice vp ls.length vc))) ge4;have Ns_e4 := NumsAt.gr ((NumsAt.set (B := w.heap.size + 1 + 1) (NumsAt.set (B := w.heap.size + 1 + 1) (NumsAt.set (B := w.heap.size + 1 + 1) (NumsAt.set (B := w.heap.size + 1 + 1) Ns_e3 hnns 0 (.slice (some ⟨w.heap.size + 1 + 1 + 1, 0, none⟩) M M)) hnns 1 (.int .i64 ex2)) hnns 2 (.bool sN)) hnns 3 (.slice vp ls.length vc))) ge4;have ze4 := ((((ze3.sc _).sc _).sc _).sc _).trans ge4;clear ge4;clear hclG KS;go_wp2_with fail
   obtain ⟨uf, hqep1⟩ : ∃ zz, zz = we4 := ⟨_, rfl⟩
   subst hqep1;have Yb_ep1 := Fb_e4;have Yr_ep1 := Fr_e4;have Vy_ep1 := Ky_e4;have Vs_ep1 := Ns_e4;have yep1 := ze4;obtain ⟨cr0, cr1, cr2, cr3⟩ := Yr_ep1.t4;refine bodyPost_ret (v := .agg #[.slice (some ⟨w.heap.size + 1 + 1 + 1, 0, none⟩) M M, ex2, sN, .slice vp ls.length vc]) ?_ rfl ⟨_, _, by rw [hM, hsN], Vy_ep1, Vs_ep1, yep1, hfr⟩
   simp [results, Tryz.results33, go_sem, *]
theorem rlBins_ask (px : Option Addr) (m cx : Nat) (rs : List Int) (fo lo ke sc mo : Int) (iv : Bool) (y : Int) (hy : ¬ y = 0) (hb : (y == 0) = false) (HFE : Hid (∀ A B Q W, CellsAt W Q 96 #[.func (.func 29) #[] #[.pointer (some ⟨B, 0, none⟩)], .func (.func 31) #[] #[.pointer (some ⟨A, 0, none⟩), .pointer (some ⟨B, 0, none⟩)]] → CellsAt W A 22 #[.slice px m cx] → CellsAt W B 24 #[fo, lo, ke, sc, mo, iv] → Calls Tryz.prog 28 #[.slice (some ⟨Q, 0, none⟩) 2 2] W fun e w' => e = .returned (.int .i64 y) ∧ Gr W w')) (w : World) :
 CW 7 #[.slice px m cx, .agg #[fo, lo, ke, sc, mo, iv]] w (.tuple #[.agg #[.slice none 0 0, .int .i64 0, false, .slice none 0 0], y]) :=by
 delta CW
 go_in
 go_wp2_with fail
 refine lc4 fun u0 gu R0 R1 R2 R3 => ?_
 have lx := R0.lt
 have lp := R1.lt
 have lr := R2.lt
 have lf := R3.lt
 refine (HFE.out _ _ _ _ (R3) (R0) (R1)).mono ?_
 rintro e w1 ⟨rfl, g1⟩
 have ⟨Fx_1, lx_1⟩ := R0.gl g1
 have ⟨Fp_1, lp_1⟩ := R1.gl g1
 have ⟨Fr_1, lr_1⟩ := R2.gl g1
 have ⟨Ff_1, lf_1⟩ := R3.gl g1
 have z1 := gu.trans g1
 clear R0 R1 R2 R3 gu g1
 obtain ⟨mr0, mr1, mr2, mr3⟩ := Fr_1.f4
 obtain ⟨cr0, cr1, cr2, cr3⟩ := Fr_1.t4
 go_wp2_with fail
 clear mr0 cr0 mr1 cr1 mr2 cr2 mr3 cr3
 obtain ⟨uf, hqp1⟩ : ∃ zz, zz = ((((w1.setCell ⟨w.heap.size + 1 + 1, 0, none⟩ (.slice none 0 0)).setCell ⟨w.heap.size + 1 + 1, 1, none⟩ (.int .i64 0)).setCell ⟨w.heap.size + 1 + 1, 2, none⟩ (.bool false)).setCell ⟨w.heap.size + 1 + 1, 3, none⟩ (.slice none 0 0)) := ⟨_, rfl⟩
 have Yx_p1 : CellsAt uf (w.heap.size) 22 #[.slice px m cx] := by rw [hqp1]; first | exact (((Fx_1.ot).ot).ot).ot | simpa using (((Fx_1.ot).ot).ot).ot
 have Yp_p1 : CellsAt uf (w.heap.size + 1) 24 #[fo, lo, ke, sc, mo, iv] := by rw [hqp1]; first | exact (((Fp_1.ot).ot).ot).ot | simpa using (((Fp_1.ot).ot).ot).ot
 have Yr_p1 : CellsAt uf (w.heap.size + 1 + 1) 27 #[.slice none 0 0, .int .i64 0, false, .slice none 0 0] := by rw [hqp1]; have q_ := CellsAt.set (CellsAt.set (CellsAt.set (CellsAt.set (Fr_1) 0 (.slice none 0 0)) 1 (.int .i64 0)) 2 (.bool false)) 3 (.slice none 0 0); first | exact q_ | simpa using q_
 have Yf_p1 : CellsAt uf (w.heap.size + 1 + 1 + 1) 96 #[.func (.func 29) #[] #[.pointer (some ⟨w.heap.size + 1, 0, none⟩)], .func (.func 31) #[] #[.pointer (some ⟨w.heap.size, 0, none⟩), .pointer (some ⟨w.heap.size + 1, 0, none⟩)]] := by rw [hqp1]; first | exact (((Ff_1.ot).ot).ot).ot | simpa using (((Ff_1.ot).ot).ot).ot
 have yp1 : Gr w uf := by rw [hqp1]; exact (((z1.sc _).sc _).sc _).sc _
 rw [← hqp1]
 clear hqp1
 obtain ⟨cr0, cr1, cr2, cr3⟩ := Yr_p1.t4
 refine bodyPost_ret (v := .tuple #[.agg #[.slice none 0 0, .int .i64 0, false, .slice none 0 0], y]) ?_ rfl ⟨rfl, yp1⟩
 simp [results, Tryz.results7, go_sem, *]
theorem rlBins_run (px : Option Addr) (m cx : Nat) (rs : List Int) (fo lo ke sc mo : Int) (iv : Bool) (ps : List Gi) (y : Int) (hy : ¬ y = 0) (hb : (y == 0) = false) (HFE : Hid (∀ A B Q W, CellsAt W Q 96 #[.func (.func 29) #[] #[.pointer (some ⟨B, 0, none⟩)], .func (.func 31) #[] #[.pointer (some ⟨A, 0, none⟩), .pointer (some ⟨B, 0, none⟩)]] → CellsAt W A 22 #[.slice px m cx] → CellsAt W B 24 #[fo, lo, ke, sc, mo, iv] → Calls Tryz.prog 28 #[.slice (some ⟨Q, 0, none⟩) 2 2] W fun e w' => e = .returned (.int .i64 0) ∧ Gr W w')) (HK : Hid (∀ W, NumsAt W (.slice px m cx) rs → Calls Tryz.prog 8 #[.slice px m cx] W fun e w' => ∃ u, e = .returned (.tuple #[u, .int .i64 0]) ∧ CxsAt w' u ps ∧ Gr W w')) (HR : Hid (∀ u W, CxsAt W u ps → Calls Tryz.prog 25 #[u, .agg #[fo, lo, ke, sc, mo, iv]] W fun e w' => e = .returned (.tuple #[.agg #[.slice none 0 0, .int .i64 0, false, .slice none 0 0], y]) ∧ Gr W w')) (w : World) (hv : NumsAt w (.slice px m cx) rs) :
 CW 7 #[.slice px m cx, .agg #[fo, lo, ke, sc, mo, iv]] w (.tuple #[.agg #[.slice none 0 0, .int .i64 0, false, .slice none 0 0], y]) :=by
 delta CW
 go_in
 go_wp2_with fail
 refine lc4 fun u0 gu R0 R1 R2 R3 => ?_
 have lx := R0.lt
 have lp := R1.lt
 have lr := R2.lt
 have lf := R3.lt
 refine (HFE.out _ _ _ _ (R3) (R0) (R1)).mono ?_
 rintro e w1 ⟨rfl, g1⟩
 have ⟨Fx_1, lx_1⟩ := R0.gl g1
 have ⟨Fp_1, lp_1⟩ := R1.gl g1
 have ⟨Fr_1, lr_1⟩ := R2.gl g1
 have ⟨Ff_1, lf_1⟩ := R3.gl g1
 have z1 := gu.trans g1
 clear R0 R1 R2 R3 gu g1
 have cx0 := Fx_1.at 0
 go_wp2_with fail
 clear cx0
 refine (HK.out _ (hv.gr z1)).mono ?_
 rintro e w2 ⟨vu, rfl, hu, g2⟩
 have ⟨Fx_2, lx_2⟩ := Fx_1.gl g2
 have ⟨Fp_2, lp_2⟩ := Fp_1.gl g2
 have ⟨Fr_2, lr_2⟩ := Fr_1.gl g2
 have z2 := z1.trans g2
 clear Fx_1 Fp_1 Fr_1 z1 g2
 obtain ⟨cp0, cp1, cp2, cp3, cp4, cp5⟩ := Fp_2.t6
 go_wp2_with fail
 clear cp0 cp1 cp2 cp3 cp4 cp5
 refine (HR.out _ _ hu).mono ?_
 rintro e w3 ⟨rfl, g3⟩
 have ⟨Fp_3, lp_3⟩ := Fp_2.gl g3
 have ⟨Fr_3, lr_3⟩ := Fr_2.gl g3
 have Ku_3 := hu.gr g3
 have z3 := z2.trans g3
 clear Fp_2 Fr_2 z2 g3
 obtain ⟨mr0, mr1, mr2, mr3⟩ := Fr_3.f4
 obtain ⟨cr0, cr1, cr2, cr3⟩ := Fr_3.t4
 go_wp2_with fail
 clear mr0 cr0 mr1 cr1 mr2 cr2 mr3 cr3
 obtain ⟨uf, hqp1⟩ : ∃ zz, zz = (((((w3.setCell ⟨w.heap.size + 1 + 1, 0, none⟩ (.slice none 0 0)).setCell ⟨w.heap.size + 1 + 1, 1, none⟩ (.int .i64 0)).setCell ⟨w.heap.size + 1 + 1, 2, none⟩ (.bool false)).setCell ⟨w.heap.size + 1 + 1, 3, none⟩ (.slice none 0 0)).alloc (.cells #[.slice none 0 0, .int .i64 0, false, .slice none 0 0] 27)) := ⟨_, rfl⟩
 have Yp_p1 : CellsAt uf (w.heap.size + 1) 24 #[fo, lo, ke, sc, mo, iv] := by rw [hqp1]; exact ((((Fp_3.ot).ot).ot).ot).alloc _
 have Yr_p1 : CellsAt uf (w.heap.size + 1 + 1) 27 #[.slice none 0 0, .int .i64 0, false, .slice none 0 0] := by rw [hqp1]; exact (CellsAt.set (CellsAt.set (CellsAt.set (CellsAt.set (Fr_3) 0 (.slice none 0 0)) 1 (.int .i64 0)) 2 (.bool false)) 3 (.slice none 0 0)).alloc _
 have yp1 : Gr w uf := by rw [hqp1]; exact ((((z3.sc _).sc _).sc _).sc _).alloc _ _
 rw [← hqp1]
 clear hqp1
 obtain ⟨cr0, cr1, cr2, cr3⟩ := Yr_p1.t4
 refine bodyPost_ret (v := .tuple #[.agg #[.slice none 0 0, .int .i64 0, false, .slice none 0 0], y]) ?_ rfl ⟨rfl, yp1⟩
 simp [results, Tryz.results7, go_sem, *]
theorem rlBins_yes (px : Option Addr) (m cx : Nat) (rs : List Int) (fo lo ke sc mo : Int) (iv : Bool) (ps xs zs : List Gi) (ex ex2 : Int) (sa s2 : Bool) (ls ks : List Int) (HFE : Hid (∀ A B Q W, CellsAt W Q 96 #[.func (.func 29) #[] #[.pointer (some ⟨B, 0, none⟩)], .func (.func 31) #[] #[.pointer (some ⟨A, 0, none⟩), .pointer (some ⟨B, 0, none⟩)]] → CellsAt W A 22 #[.slice px m cx] → CellsAt W B 24 #[fo, lo, ke, sc, mo, iv] → Calls Tryz.prog 28 #[.slice (some ⟨Q, 0, none⟩) 2 2] W fun e w' => e = .returned (.int .i64 0) ∧ Gr W w')) (HK : Hid (∀ W, NumsAt W (.slice px m cx) rs → Calls Tryz.prog 8 #[.slice px m cx] W fun e w' => ∃ u, e = .returned (.tuple #[u, .int .i64 0]) ∧ CxsAt w' u ps ∧ Gr W w')) (HR : Hid (∀ u W, CxsAt W u ps → Calls Tryz.prog 25 #[u, .agg #[fo, lo, ke, sc, mo, iv]] W fun e w' => ∃ vx vs, e = .returned (.tuple #[.agg #[vx, ex, sa, vs], .int .i64 0]) ∧ CxsAt w' vx xs ∧ NumsAt w' vs ls ∧ Gr W w'))
 (HU : Hid (∀ px cx sp cl W, CxsAt W (.slice px xs.length cx) xs → NumsAt W (.slice sp ls.length cl) ls → Calls Tryz.prog 33 #[.agg #[.slice px xs.length cx, ex, sa, .slice sp ls.length cl], .agg #[fo, lo, ke, sc, mo, iv]] W fun e w' => ∃ vx vs, e = .returned (.agg #[vx, ex2, s2, vs]) ∧ CxsAt w' vx zs ∧ NumsAt w' vs ks ∧ Gr W w' ∧ ∀ b, vs.ownBlock = some b → W.heap.size ≤ b)) (w : World) (hv : NumsAt w (.slice px m cx) rs) :
 Calls Tryz.prog 7 #[.slice px m cx, .agg #[fo, lo, ke, sc, mo, iv]] w fun e w' => ∃ vx vs, e = .returned (.tuple #[.agg #[vx, ex2, s2, vs], .int .i64 0]) ∧ CxsAt w' vx zs ∧ NumsAt w' vs ks ∧ Gr w w' := by
 go_in
 go_wp2_with fail
 refine lc4 fun u0 gu R0 R1 R2 R3 => ?_
 have lx := R0.lt
 have lp := R1.lt
 have lr := R2.lt
 have lf := R3.lt
 refine (HFE.out _ _ _ _ (R3) (R0) (R1)).mono ?_
 rintro e w1 ⟨rfl, g1⟩
 have ⟨Fx_1, lx_1⟩ := R0.gl g1
 have ⟨Fp_1, lp_1⟩ := R1.gl g1
 have ⟨Fr_1, lr_1⟩ := R2.gl g1
 have ⟨Ff_1, lf_1⟩ := R3.gl g1
 have z1 := gu.trans g1
 clear R0 R1 R2 R3 gu g1
 have cx0 := Fx_1.at 0
 go_wp2_with fail
 clear cx0
 refine (HK.out _ (hv.gr z1)).mono ?_
 rintro e w2 ⟨vu, rfl, hu, g2⟩
 have ⟨Fx_2, lx_2⟩ := Fx_1.gl g2
 have ⟨Fp_2, lp_2⟩ := Fp_1.gl g2
 have ⟨Fr_2, lr_2⟩ := Fr_1.gl g2
 have z2 := z1.trans g2
 clear Fx_1 Fp_1 Fr_1 z1 g2
 obtain ⟨cp0, cp1, cp2, cp3, cp4, cp5⟩ := Fp_2.t6
 go_wp2_with fail
 clear cp0 cp1 cp2 cp3 cp4 cp5
 refine (HR.out _ _ hu).mono ?_
 rintro e w3 ⟨ux, us, rfl, hux, hus, g3⟩
 obtain ⟨qx, cx1, rfl⟩ := hux.len
 obtain ⟨qs, cs1, rfl⟩ := hus.len
 have ⟨Fp_3, lp_3⟩ := Fp_2.gl g3
 have ⟨Fr_3, lr_3⟩ := Fr_2.gl g3
 have Ku_3 := hu.gr g3
 have z3 := z2.trans g3
 clear Fp_2 Fr_2 z2 g3
 obtain ⟨cp0, cp1, cp2, cp3, cp4, cp5⟩ := Fp_3.t6
 go_wp2_with fail
 clear cp0 cp1 cp2 cp3 cp4 cp5
 have hxA := hux.gr ((Gr.refl w3).alloc #[.slice qx xs.length cx1, ex, sa, .slice qs ls.length cs1] 27)
 have hsA := hus.gr ((Gr.refl w3).alloc #[.slice qx xs.length cx1, ex, sa, .slice qs ls.length cs1] 27)
 refine (HU.out _ _ _ _ _ hxA hsA).mono ?_
 rintro e w4 ⟨vx, vs, rfl, hx, hs, g4, hfr⟩
 obtain ⟨py, cy, rfl⟩ := hx.len
 obtain ⟨ps, cs, rfl⟩ := hs.len
 have ⟨Fp_4, lp_4⟩ := CellsAt.gl (Fp_3.alloc _) g4
 have ⟨Fr_4, lr_4⟩ := CellsAt.gl (Fr_3.alloc _) g4
 have ⟨Fb_4, lb_4⟩ := CellsAt.gl (CellsAt.new w3 27 #[.slice qx xs.length cx1, ex, sa, .slice qs ls.length cs1]) g4
 have z4 := (z3.alloc _ _).trans g4
 clear g4
 obtain ⟨mr0, mr1, mr2, mr3⟩ := Fr_4.f4
 obtain ⟨cr0, cr1, cr2, cr3⟩ := Fr_4.t4
 go_wp2_with fail
 clear mr0 cr0 mr1 cr1 mr2 cr2 mr3 cr3
 have hnns : (Value.slice ps ks.length cs).ownBlock ≠ some (w.heap.size + 1 + 1) := fun e => by (have := hfr _ e); (try simp only [World.size_alloc] at this); omega
 have ap := CxsAt.apart hx Fr_4
 have cxe := (((hx.set ap 0 (.slice py zs.length cy)).set ap 1 (.int .i64 ex2)).set ap 2 (.bool s2)).set ap 3 (.slice ps ks.length cs)
 have nse := (((hs.set (B := w.heap.size + 1 + 1) hnns 0 (.slice py zs.length cy)).set (B := w.heap.size + 1 + 1) hnns 1 (.int .i64 ex2)).set (B := w.heap.size + 1 + 1) hnns 2 (.bool s2)).set (B := w.heap.size + 1 + 1) hnns 3 (.slice ps ks.length cs)
 obtain ⟨uf, hqf⟩ : ∃ zz, zz = ((((w4.setCell ⟨w.heap.size + 1 + 1, 0, none⟩ (.slice py zs.length cy)).setCell ⟨w.heap.size + 1 + 1, 1, none⟩ (.int .i64 ex2)).setCell ⟨w.heap.size + 1 + 1, 2, none⟩ (.bool s2)).setCell ⟨w.heap.size + 1 + 1, 3, none⟩ (.slice ps ks.length cs)) := ⟨_, rfl⟩
 rw [← hqf] at cxe nse
 have Yr : CellsAt uf (w.heap.size + 1 + 1) 27 #[.slice py zs.length cy, ex2, s2, .slice ps ks.length cs] := by rw [hqf]; have q_ := CellsAt.set (CellsAt.set (CellsAt.set (CellsAt.set (Fr_4) 0 (.slice py zs.length cy)) 1 (.int .i64 ex2)) 2 (.bool s2)) 3 (.slice ps ks.length cs); first | exact q_ | simpa using q_
 have yz : Gr w uf := by rw [hqf]; exact (((z4.sc _).sc _).sc _).sc _
 rw [← hqf]
 clear hqf
 obtain ⟨cr0, cr1, cr2, cr3⟩ := Yr.t4
 refine bodyPost_ret (v := .tuple #[.agg #[.slice py zs.length cy, ex2, s2, .slice ps ks.length cs], .int .i64 0]) ?_ rfl ⟨_, _, rfl, cxe, nse, yz⟩
 simp [results, Tryz.results7, go_sem, *]
end
end Go.Proofs.YtdignnmpfkgkoaaGreat
