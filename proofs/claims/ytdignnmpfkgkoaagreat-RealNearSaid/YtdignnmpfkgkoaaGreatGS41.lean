import Derived.Test.YtdignnmpfkgkoaaGreatGS23
import Derived.Test.YtdignnmpfkgkoaaGreatGS36
import Derived.Test.YtdignnmpfkgkoaaGreatGS38
import Derived.Test.YtdignnmpfkgkoaaGreatGS40
namespace Go.Proofs.YtdignnmpfkgkoaaGreat
section
open Go.ChangeShapes Go.WideShapes Go.ChangeAt Go.RowKit
set_option linter.unusedVariables false
set_option linter.unusedSimpArgs false
set_option maxRecDepth 100000
def hvU (a : Gi) : Gi := ⟨a.re / 1048576, a.im / 1048576⟩
def hvL (a : Gi) : Gi := ⟨a.re % 1048576, a.im % 1048576⟩
theorem hv_bd (a : Gi) (h : (-1099511627776 ≤ a.re ∧ a.re ≤ 1099511627776) ∧ (-1099511627776 ≤ a.im ∧ a.im ≤ 1099511627776)) : Bd 1048576 (hvU a) ∧ Bd 1048576 (hvL a) := by
 unfold hvU hvL
 exact ⟨Bd.mk (by simp only; omega), Bd.mk (by simp only; omega)⟩
def sumH (f : Gi → Gi) (n : Nat) (xs : List Gi) (iv : Bool) (k m : Nat) : Gi := ⟨isum (fun j => (gmul (xs.getD j ⟨0, 0⟩) (f (wv n iv (j * k)))).re) m, isum (fun j => (gmul (xs.getD j ⟨0, 0⟩) (f (wv n iv (j * k)))).im) m⟩
theorem sumH_next (f : Gi → Gi) (n : Nat) (xs : List Gi) (iv : Bool) (k m : Nat) : sumH f n xs iv k (m + 1) = gadd (sumH f n xs iv k m) (gmul (xs.getD m ⟨0, 0⟩) (f (wv n iv (m * k)))) := rfl
theorem termH_bd (f : Gi → Gi) (hf : ∀ a : Gi, (-1099511627776 ≤ a.re ∧ a.re ≤ 1099511627776) ∧ (-1099511627776 ≤ a.im ∧ a.im ≤ 1099511627776) → Bd 1048576 (f a)) (n : Nat) (hn : IsLen n) (xs : List Gi) (iv : Bool) (hx : allIn 2147483648 xs = true) (k j : Nat) :
 Bd 4503599627370496 (gmul (xs.getD j ⟨0, 0⟩) (f (wv n iv (j * k)))) :=
 (Bd.mul (Bd.mk (part_in hx (by decide) j)) (hf _ (wv_bd n hn iv (j * k)))).mono (by decide)
theorem sumH_bd (f : Gi → Gi) (hf : ∀ a : Gi, (-1099511627776 ≤ a.re ∧ a.re ≤ 1099511627776) ∧ (-1099511627776 ≤ a.im ∧ a.im ≤ 1099511627776) → Bd 1048576 (f a)) (n : Nat) (hn : IsLen n) (xs : List Gi) (iv : Bool) (hx : allIn 2147483648 xs = true) (k m : Nat) (hm : m ≤ n) :
 Bd 288230376151711744 (sumH f n xs iv k m) := by
 have h64 : (m : Int) ≤ 64 := by unfold IsLen at hn; omega
 have h1 := isum_bd (fun j => (gmul (xs.getD j ⟨0, 0⟩) (f (wv n iv (j * k)))).re) 4503599627370496 m (fun j _ => (termH_bd f hf n hn xs iv hx k j).le.1)
 have h2 := isum_bd (fun j => (gmul (xs.getD j ⟨0, 0⟩) (f (wv n iv (j * k)))).im) 4503599627370496 m (fun j _ => (termH_bd f hf n hn xs iv hx k j).le.2)
 have c := Int.mul_le_mul_of_nonneg_right h64 (show (0 : Int) ≤ 4503599627370496 by decide)
 unfold sumH
 exact Bd.mk (by simp only; omega)
theorem term_two (a w : Gi) : (gmul a w).re = 1048576 * (gmul a (hvU w)).re + (gmul a (hvL w)).re ∧ (gmul a w).im = 1048576 * (gmul a (hvU w)).im + (gmul a (hvL w)).im := by
 have h1 : w.re = 1048576 * (w.re / 1048576) + w.re % 1048576 := by omega
 have h2 : w.im = 1048576 * (w.im / 1048576) + w.im % 1048576 := by omega
 unfold gmul hvU hvL
 simp only
 generalize w.re / 1048576 = p at *
 generalize w.re % 1048576 = q at *
 generalize w.im / 1048576 = r at *
 generalize w.im % 1048576 = s at *
 rw [h1, h2]
 constructor <;> grind
theorem sum_two (n : Nat) (xs : List Gi) (iv : Bool) (k : Nat) : ∀ m, (sumG n xs iv k m).re = 1048576 * (sumH hvU n xs iv k m).re + (sumH hvL n xs iv k m).re ∧ (sumG n xs iv k m).im = 1048576 * (sumH hvU n xs iv k m).im + (sumH hvL n xs iv k m).im
 | 0 => ⟨rfl, rfl⟩
 | m + 1 => by
   have ih := sum_two n xs iv k m
   have t := term_two (xs.getD m ⟨0, 0⟩) (wv n iv (m * k))
   rw [sumG_next, sumH_next, sumH_next]
   unfold gadd termG
   simp only
   omega
theorem told_sum (n : Nat) (xs : List Gi) (iv : Bool) (k : Nat) : grnd 12 0 (gadd (sumH hvU n xs iv k n) (grnd 20 0 (sumH hvL n xs iv k n))) = binG n xs iv k := by
 have h := sum_two n xs iv k n
 unfold binG grnd gadd
 simp only [rnd_floor]
 rw [h.1, h.2]
 rw [show (2 : Int) ^ 12 = 4096 from rfl, show (2 : Int) ^ 20 = 1048576 from rfl]
 simp only [Gi.mk.injEq]
 omega
theorem cxsum_gid (a b : Gi) (ha : Bd 2305843009213693952 a) (hb : Bd 2305843009213693952 b) (W : World) : Calls Tryz.prog 126 #[.agg #[.int .i64 (a).re, .int .i64 (a).im], .agg #[.int .i64 (b).re, .int .i64 (b).im]] W fun e w' => e = .returned (.tuple #[.agg #[.int .i64 (gadd a b).re, .int .i64 (gadd a b).im], .int .i64 0]) ∧ Gr W w' := by
 have := ha.le
 have := hb.le
 exact cxsum_ok a.re a.im b.re b.im (by simp only [Bool.and_eq_true, inB_iff]; omega) W
theorem dHalves_c (a : Gi) (h : (-1099511627776 ≤ a.re ∧ a.re ≤ 1099511627776) ∧ (-1099511627776 ≤ a.im ∧ a.im ≤ 1099511627776)) (W : World) : Calls Tryz.prog 117 #[.agg #[.int .i64 (a).re, .int .i64 (a).im]] W fun e w' => e = .returned (.agg #[.int .i64 (hvU a).re, .int .i64 (hvU a).im, .int .i64 (hvL a).re, .int .i64 (hvL a).im]) ∧ Gr W w' := by
 have e1 := bits_mask a.re 20 (by decide)
 have e2 := bits_mask a.im 20 (by decide)
 rw [show (2 : Int) ^ 20 - 1 = 1048575 from rfl, show (2 : Int) ^ 20 = 1048576 from rfl] at e1 e2
 have hs := cxshift_gi a 20 0 ⟨⟨by omega, by omega⟩, by omega, by omega⟩ (by decide) (by decide) (by decide)
 have eu : grnd 20 0 a = hvU a := by unfold grnd hvU; simp only [rnd_floor]; rw [show (2 : Int) ^ 20 = 1048576 from rfl]
 rw [eu] at hs
 exact dHalves_of a.re a.im _ _ (hvU a) (Lib.hid hs) e1 e2 W
theorem dPlus_c (s t a h l : Gi) (hs : Bd 288230376151711744 s) (ht : Bd 288230376151711744 t) (ha : Bd 2147483648 a) (hh : Bd 1048576 h) (hl : Bd 1048576 l) (W : World) :
 Calls Tryz.prog 118 #[.agg #[.int .i64 (s).re, .int .i64 (s).im, .int .i64 (t).re, .int .i64 (t).im], .agg #[.int .i64 (a).re, .int .i64 (a).im], .agg #[.int .i64 (h).re, .int .i64 (h).im, .int .i64 (l).re, .int .i64 (l).im]] W fun e w' => e = .returned (.agg #[.int .i64 (gadd s (gmul a h)).re, .int .i64 (gadd s (gmul a h)).im, .int .i64 (gadd t (gmul a l)).re, .int .i64 (gadd t (gmul a l)).im]) ∧ Gr W w' :=
 dPlus_of s t a h l _ _ _ _ (Lib.hid (cxtimes_gi a h ha (hh.mono (by decide)))) (Lib.hid (cxsum_gid s _ (hs.mono (by decide)) ((Bd.mul ha hh).mono (by decide)))) (Lib.hid (cxtimes_gi a l ha (hl.mono (by decide)))) (Lib.hid (cxsum_gid t _ (ht.mono (by decide)) ((Bd.mul ha hl).mono (by decide)))) W
theorem dTold_c (s t : Gi) (hs : Bd 288230376151711744 s) (ht : Bd 288230376151711744 t) (W : World) :
 Calls Tryz.prog 119 #[.agg #[.int .i64 (s).re, .int .i64 (s).im, .int .i64 (t).re, .int .i64 (t).im]] W fun e w' => e = .returned (.agg #[.int .i64 (grnd 12 0 (gadd s (grnd 20 0 t))).re, .int .i64 (grnd 12 0 (gadd s (grnd 20 0 t))).im]) ∧ Gr W w' := by
 have b1 := hs.le
 have b2 := ht.le
 have b3 : Bd 288230376151711744 (grnd 20 0 t) := by
  unfold grnd
  simp only [rnd_floor]
  rw [show (2 : Int) ^ 20 = 1048576 from rfl]
  exact Bd.mk (by simp only; omega)
 have b4 := (hs.add b3).le
 exact dTold_of s t _ _ _ (Lib.hid (cxshift_gi t 20 0 ⟨⟨by omega, by omega⟩, by omega, by omega⟩ (by decide) (by decide) (by decide))) (Lib.hid (cxsum_gid s _ (hs.mono (by decide)) (b3.mono (by decide)))) (Lib.hid (cxshift_gi _ 12 0 ⟨⟨by omega, by omega⟩, by omega, by omega⟩ (by decide) (by decide) (by decide))) W
theorem dRoots_c (n L : Nat) (h : IsLog (n : Int) L) (inv : Bool) (w : World) :
 Calls Tryz.prog 68 #[.int .i64 (L : Int), .bool inv] w fun e w' => ∃ x, e = .returned x ∧ HvAt w' x n (fun j => hvU (wv n inv j)) (fun j => hvL (wv n inv j)) ∧ Gr w w' := by
 have hl := h.len
 have hn : 4 ≤ n ∧ n ≤ 64 := by unfold IsLen at hl; omega
 have HT := Lib.hid (rTable_ok (L : Int) (n : Int) 40 (by have := h.1; omega) (by have := h.2.1; omega) (by rw [h.2.2, Int.toNat_natCast]; exact Int.natCast_pow 2 L) (by decide) (by decide))
 have hlen : (rootsL (n : Int) 16).length = n := by rw [rootsL_len]; omega
 have hne : rootsL (n : Int) 16 ≠ [] := by intro e; rw [e] at hlen; simp at hlen; omega
 have hat : ∀ (j : Nat) (x : Gi), (rootsL (n : Int) 16)[j]? = some x → x = rootG n j 16 := fun j x hx => by
  unfold rootsL at hx
  rw [List.getElem?_map] at hx
  obtain ⟨j', hj', rfl⟩ := Option.map_eq_some_iff.1 hx
  obtain ⟨hjl, rfl⟩ := List.getElem?_eq_some_iff.1 hj'
  simp
 cases inv
 ·exact dRoots_false (L : Int) n (by omega) (rootsL (n : Int) 16) hlen hne (fun j => wv n false j) _ _ HT (Lib.hid fun j x hx => by rw [hat j x hx]; unfold wv; simp) (Lib.hid fun j hj W => dHalves_c _ (wv_bd n hl false j) W) w
 ·refine dRoots_true (L : Int) n (by omega) (rootsL (n : Int) 16) hlen hne (fun j => wv n true j) _ _ HT (Lib.hid fun j x hx W => ?_) (Lib.hid fun j hj W => dHalves_c _ (wv_bd n hl true j) W) w
  have hb := wv_bd n hl false j
  unfold wv at hb ⊢
  simp only [Bool.false_eq_true, if_false, if_true] at hb ⊢
  rw [hat j x hx]
  exact cxconj_gi _ ⟨by omega, by omega⟩ W
theorem dBin1_c (n L : Nat) (h : IsLog (n : Int) L) (k : Int) (inv : Bool) (px : Option Addr) (cx : Nat) (vw : Value) (xs : List Gi) (hxn : xs.length = n) (hx : allIn 2147483648 xs = true) (w : World) (hvx : CxsAt w (.slice px n cx) xs) (hvw : HvAt w vw n (fun j => hvU (wv n inv j)) (fun j => hvL (wv n inv j))) :
 Calls Tryz.prog 69 #[.slice px n cx, vw, .int .i64 k] w fun e w' => e = .returned (.agg #[.int .i64 (binG n xs inv (k % (n : Int)).toNat).re, .int .i64 (binG n xs inv (k % (n : Int)).toNat).im]) ∧ Gr w w' := by
 have hl := h.len
 have hn : 4 ≤ n ∧ n ≤ 64 := by unfold IsLen at hl; omega
 have hk0 := Int.emod_nonneg k (show (n : Int) ≠ 0 by omega)
 have hk1 := Int.emod_lt_of_pos k (show 0 < (n : Int) by omega)
 have hand : ∀ y : Int, bits .and .i64 y ((n : Int) - 1) = y % (n : Int) := fun y => by
  have := bits_mask y L (by have := h.2.1; omega)
  rw [h.2.2, Int.natCast_pow]
  exact this
 obtain ⟨kk, hkk⟩ : ∃ kk : Nat, k % (n : Int) = (kk : Int) := ⟨(k % (n : Int)).toNat, by omega⟩
 have hkn : kk < n := by omega
 have hjk : ∀ j : Nat, j < n → j * kk ≤ 4096 := fun j hj => by
  have := Nat.mul_le_mul (show j ≤ 64 by omega) (show kk ≤ 64 by omega)
  omega
 have hb : ∀ (j : Nat) (x : Gi), xs[j]? = some x → xs.getD j ⟨0, 0⟩ = x := fun j x h => by rw [List.getD_eq_getElem?_getD, h]; rfl
 have hmod : ∀ j, wv n inv (j * kk % n) = wv n inv (j * kk) := fun j => by
  have := wv_again n hl inv (j * kk % n) (j * kk / n)
  rw [Nat.mod_add_div] at this
  exact this.symm
 have fU : ∀ a : Gi, (-1099511627776 ≤ a.re ∧ a.re ≤ 1099511627776) ∧ (-1099511627776 ≤ a.im ∧ a.im ≤ 1099511627776) → Bd 1048576 (hvU a) := fun a ha => (hv_bd a ha).1
 have fL : ∀ a : Gi, (-1099511627776 ≤ a.re ∧ a.re ≤ 1099511627776) ∧ (-1099511627776 ≤ a.im ∧ a.im ≤ 1099511627776) → Bd 1048576 (hvL a) := fun a ha => (hv_bd a ha).2
 rw [hkk, Int.toNat_natCast, ← told_sum]
 refine dBin_of n k (kk : Int) px cx vw xs hxn (fun j => hvU (wv n inv j)) (fun j => hvL (wv n inv j)) (fun j => sumH hvU n xs inv kk j) (fun j => sumH hvL n xs inv kk j) (fun j => ((j * kk : Nat) : Int)) (fun j => j * kk % n) _ (by rw [hand, hkk]) ⟨rfl, rfl⟩
  (Lib.hid fun j hj => ⟨imul j kk (by have := hjk j hj; omega), by rw [hand]; exact (Int.natCast_emod _ _).symm, Nat.mod_lt _ (by omega)⟩) (by omega) (by omega) (Lib.hid fun j x hjx W => ?_)
  (Lib.hid (dTold_c _ _ (sumH_bd hvU fU n hl xs inv hx kk n (Nat.le_refl _)) (sumH_bd hvL fL n hl xs inv hx kk n (Nat.le_refl _)))) w hvx hvw
 have hjn : j < n := by rw [← hxn]; exact (List.getElem?_eq_some_iff.1 hjx).1
 have hp := part_in hx (by decide) j
 have ht := hv_bd _ (wv_bd n hl inv (j * kk))
 rw [hmod, sumH_next, sumH_next, hb j x hjx] at *
 exact dPlus_c _ _ _ _ _ (sumH_bd hvU fU n hl xs inv hx kk j (by omega)) (sumH_bd hvL fL n hl xs inv hx kk j (by omega)) (Bd.mk hp) ht.1 ht.2 W
set_option maxHeartbeats 1000000 in
theorem dftSlack_of (n : Nat) (l m q r : Int) (px : Option Addr) (cx : Nat) (xs : List Gi) (hn : n ≤ 64) (hw1 : wrap64 (2 * (n : Int) * m) = q) (hw2 : wrap64 (r + 2) = r + 2) (HM : Hid (∀ W, CxsAt W (.slice px n cx) xs → Calls Tryz.prog 67 #[.slice px n cx] W fun e w' => e = .returned (.tuple #[.int .i64 l, .int .i64 m, .int .i64 0]) ∧ Gr W w'))
 (HS : CR 70 #[.int .i64 q, .int .i64 32, .int .i64 0] (.tuple #[.int .i64 r, .int .i64 0])) (w : World) (hvx : CxsAt w (.slice px n cx) xs) :
 Calls Tryz.prog 27 #[.slice px n cx] w fun e w' => e = .returned (.tuple #[.int .i64 (r + 2), .int .i64 0]) ∧ Gr w w' := by
 have hn2 : wrap64 (2 * (n : Int)) = 2 * n := IntWalk.wrap64_in _ ⟨by omega, by omega⟩
 have HW2 := Lib.hid hw2
 clear hw2
 go_enter Tryz.func27, Tryz.ntmps27
 go_wp2_with fail
 refine (HM.out _ hvx).mono ?_
 rintro e w1 ⟨rfl, g1⟩
 go_wp2_with fail
 with_reducible refine (HS.out _).mono ?_
 rintro e w2 ⟨rfl, g2⟩
 have hw2 := HW2.out
 go_wp2_with fail
 go_ret2
 refine ⟨?_, g1.trans g2⟩
 show Ending.returned (Value.tuple #[Value.int .i64 (wrap64 (r + 2)), Value.int .i64 0]) = _
 rw [hw2]
set_option maxHeartbeats 2000000 in
theorem dftAll_of (n : Nat) (hn : n ≤ 70) (l m : Int) (inv : Bool) (px : Option Addr) (cx : Nat) (xs : List Gi) (u v B : Nat → Gi) (HM : Hid (∀ W, CxsAt W (.slice px n cx) xs → Calls Tryz.prog 67 #[.slice px n cx] W fun e w' => e = .returned (.tuple #[.int .i64 l, .int .i64 m, .int .i64 0]) ∧ Gr W w')) (HR : Hid (∀ W, Calls Tryz.prog 68 #[.int .i64 l, .bool inv] W fun e w' => ∃ x, e = .returned x ∧ HvAt w' x n u v ∧ Gr W w'))
 (HB : Hid (∀ j vt W, j < n → CxsAt W (.slice px n cx) xs → HvAt W vt n u v → Calls Tryz.prog 69 #[.slice px n cx, vt, .int .i64 (j : Nat)] W fun e w' => e = .returned (.agg #[.int .i64 (B j).re, .int .i64 (B j).im]) ∧ Gr W w')) (w : World) (hvx : CxsAt w (.slice px n cx) xs) :
 Calls Tryz.prog 26 #[.slice px n cx, .bool inv] w fun e w' => ∃ x, e = .returned (.tuple #[x, .int .i64 0]) ∧ CxsAt w' x ((List.range n).map B) ∧ Gr w w' := by
 have hmk := run_make_cx n (by omega)
 go_enter Tryz.func26, Tryz.ntmps26
 go_wp2_with fail
 refine (HM.out _ hvx).mono ?_
 rintro e w1 ⟨rfl, g1⟩
 go_wp2_with fail
 refine (HR.out _).mono ?_
 rintro e w2 ⟨vt, rfl, hvt, g2⟩
 have g12 := g1.trans g2
 have hvx2 := hvx.gr g12
 clear g1 g2 HM HR
 go_wp2_with fail
 have M0 := CellsAt.new w2 50 (madeCells #[.int .i64 0, .int .i64 0] (n * 2))
 have M1 := size_madeCells #[.int .i64 0, .int .i64 0] (n * 2)
 go_loopw [11, 29] (fun _ i wr => ∃ k : Nat, ∃ c : Array Value, k ≤ n ∧ i = .int .i64 k ∧ CellsAt wr w2.heap.size 50 c ∧ c.size = n * 2 ∧ (∀ j, j < k → c[j * 2]? = some (.int .i64 (B j).re) ∧ c[j * 2 + 1]? = some (.int .i64 (B j).im)) ∧ Gr w2 wr)
  (fun _ i _ => n - (intOf i).toNat)
 case atStart => exact ⟨0, _, by omega, rfl, M0, M1, fun j hj => absurd hj (Nat.not_lt_zero _), (Gr.refl _).alloc _ _⟩
 case round =>
  clear M0 M1 hmk
  obtain ⟨k, c, hk, rfl, hC, hs, hj, hg⟩ := hrel
  by_cases hlt : k < n
  ·have hkI : (k : Int) < (n : Int) := by omega
   have HA := Lib.hid fun vt W h1 h2 => HB.out k vt W hlt h1 h2
   have HS := Lib.hid hs
   have HJ := Lib.hid hj
   clear hs hj HB
   generalize hgg : B k = g at *
   have HG := Lib.hid hgg
   clear hgg
   obtain ⟨re, im⟩ := g
   simp only at HA
   go_wp2_with fail
   refine (HA.out _ _ (hvx2.gr hg) (hvt.gr hg)).mono ?_
   rintro e w3 ⟨rfl, hg2⟩
   have hC2 := hC.gr hg2
   have f2 := hC2.frozen (k * 2)
   have f3 := hC2.frozen (k * 2 + 1)
   have q2 := hC2.cell (k * 2)
   have q3 := hC2.cell (k * 2 + 1)
   have hg3 := hg.trans hg2
   rw [Array.getElem?_eq_getElem (show k * 2 < c.size by rw [HS.out]; omega)] at q2
   rw [Array.getElem?_eq_getElem (show k * 2 + 1 < c.size by rw [HS.out]; omega)] at q3
   have hBl := hC2.lt
   clear hC hg2 hg HA
   go_wp2_with fail
   have hC3 := (hC2.set (k * 2) (.int .i64 re)).set (k * 2 + 1) (.int .i64 im)
   have hg4 := (hg3.setCell (a := ⟨w2.heap.size, k * 2, none⟩) (by simp) (.int .i64 re)).setCell (a := ⟨w2.heap.size, k * 2 + 1, none⟩) (by simp) (.int .i64 im)
   go_roundw
   case rel =>
    refine ⟨k + 1, _, by omega, by go_num, hC3, by simpa using HS.out, fun j hj => ?_, hg4⟩
    by_cases e : j = k
    ·subst e
     rw [HG.out]
     constructor
     ·rw [Array.getElem?_setIfInBounds, if_neg (by omega), Array.getElem?_setIfInBounds, if_pos rfl, if_pos (by rw [HS.out]; omega)]
     ·rw [Array.getElem?_setIfInBounds, if_pos rfl, if_pos (by simp only [Array.size_setIfInBounds]; rw [HS.out]; omega)]
    ·have := HJ.out j (by omega)
     constructor
     ·rw [Array.getElem?_setIfInBounds, if_neg (by omega), Array.getElem?_setIfInBounds, if_neg (by omega)]
      exact this.1
     ·rw [Array.getElem?_setIfInBounds, if_neg (by omega), Array.getElem?_setIfInBounds, if_neg (by omega)]
      exact this.2
   case measure => simp [intOf]; omega
  ·obtain rfl : k = n := by omega
   have hkI : ¬ (k : Int) < (k : Int) := by omega
   go_wp2_with fail
   go_ret2
   refine ⟨_, rfl, ?_, g12.trans hg⟩
   refine ⟨some ⟨w2.heap.size, 0, none⟩, k, by simp, by simp, by unfold maxLen; omega, fun _ => ⟨w2.heap.size, 0, rfl, hC.lt, fun j x hx => ?_⟩⟩
   rw [List.getElem?_map] at hx
   obtain ⟨j', hj', rfl⟩ := Option.map_eq_some_iff.1 hx
   obtain ⟨hjl, rfl⟩ := List.getElem?_eq_some_iff.1 hj'
   simp only [List.length_range] at hjl
   have := hj j hjl
   rw [hC.cell, hC.cell, Nat.zero_add]
   simpa using this
def DftWhy (n : Nat) (xs : List Gi) (y : Int) : Prop := ((¬ ∃ L, IsLog (n : Int) L) ∧ y = 3) ∨ ((∃ L, IsLog (n : Int) L) ∧ allIn 2147483648 xs = false ∧ y = 2)
theorem measured_yes (n L : Nat) (h : IsLog (n : Int) L) (xs : List Gi) (px : Option Addr) (cx : Nat) (hxn : xs.length = n) (hx : allIn 2147483648 xs = true) (w : World) (hvx : CxsAt w (.slice px n cx) xs) :
 Calls Tryz.prog 67 #[.slice px n cx] w fun e w' => e = .returned (.tuple #[.int .i64 (L : Int), .int .i64 (maxG xs), .int .i64 0]) ∧ Gr w w' := dMeasured_yes n L h px cx xs hxn _ 0 (.inl ⟨hx, rfl, rfl⟩) w hvx
theorem DftWhy.ne {n : Nat} {xs : List Gi} {y : Int} (h : DftWhy n xs y) : ¬ y = 0 ∧ (y == 0) = false := by
 rcases h with ⟨_, rfl⟩ | ⟨_, _, rfl⟩ <;> decide
theorem dSlack_yes (n L : Nat) (h : IsLog (n : Int) L) (px : Option Addr) (cx : Nat) (xs : List Gi) (hxn : xs.length = n) (hx : allIn 2147483648 xs = true) (w : World) (hvx : CxsAt w (.slice px n cx) xs) :
 Calls Tryz.prog 27 #[.slice px n cx] w fun e w' => e = .returned (.tuple #[.int .i64 (slackG n xs), .int .i64 0]) ∧ Gr w w' := by
 have hl := h.len
 have hn : n ≤ 64 := by unfold IsLen at hl; omega
 obtain ⟨b1, b2, b3⟩ := slackG_bd n hn xs hx
 have hs := shift_ok (2 * (n : Int) * maxG xs) 32 0 ⟨by omega, by omega⟩ (by decide) (by decide) (by decide) (by decide)
 rw [rnd_floor, show (2 : Int) ^ (32 : Int).toNat = 4294967296 from rfl] at hs
 unfold slackG at b3 ⊢
 exact dftSlack_of n _ (maxG xs) _ _ px cx xs hn (IntWalk.wrap64_in _ ⟨by omega, by omega⟩) (IntWalk.wrap64_in _ ⟨by omega, by omega⟩) (Lib.hid fun W hW => measured_yes n L h xs px cx hxn hx W hW) (Lib.hid hs) w hvx
theorem dAll_yes (n L : Nat) (h : IsLog (n : Int) L) (inv : Bool) (px : Option Addr) (cx : Nat) (xs : List Gi) (hxn : xs.length = n) (hx : allIn 2147483648 xs = true) (w : World) (hvx : CxsAt w (.slice px n cx) xs) :
 Calls Tryz.prog 26 #[.slice px n cx, .bool inv] w fun e w' => ∃ x, e = .returned (.tuple #[x, .int .i64 0]) ∧ CxsAt w' x (binsG n xs inv) ∧ Gr w w' := by
 have hl := h.len
 have hn : 4 ≤ n ∧ n ≤ 64 := by unfold IsLen at hl; omega
 refine dftAll_of n (by omega) _ _ inv px cx xs _ _ _ (Lib.hid fun W hW => measured_yes n L h xs px cx hxn hx W hW) (Lib.hid (dRoots_c n L h inv)) (Lib.hid fun j vt W hj h1 h2 => ?_) w hvx
 have := dBin1_c n L h (j : Int) inv px cx vt xs hxn hx W h1 h2
 rw [show ((j : Int) % (n : Int)).toNat = j by rw [Int.emod_eq_of_lt (by omega) (by omega)]; exact Int.toNat_natCast j] at this
 exact this
def upU (fo sc : Int) (xs : List Gi) : Int := if sc = 1 then (room (oneB fo) (maxG xs) : Int) else 0
theorem upU_bd (fo sc : Int) (xs : List Gi) : 0 ≤ upU fo sc xs ∧ upU fo sc xs ≤ 31 := by
 have := room_le (oneB fo) (maxG xs)
 unfold upU
 split <;> omega
theorem up_man {fo b p lo ke sc mo : Int} {L n B : Nat} (H : PlF fo b p lo ke sc mo L n B) {xs : List Gi} (hm : ManB p xs) : ManB p (upX sc p mo xs) := by
 unfold upX
 split
 ·intro y hy
  obtain ⟨a, ha, rfl⟩ := List.mem_map.1 hy
  exact (ready_part H hm a ha).1
 ·exact hm
theorem nearUp_c (fo lo ke sc mo : Int) (iv : Bool) (v : Value) (xs : List Gi) (w : World) (hv : CxsAt w v xs) :
 Calls Tryz.prog 24 #[v, .agg #[.int .i64 fo, .int .i64 lo, .int .i64 ke, .int .i64 sc, .int .i64 mo, .bool iv]] w fun e w' => e = .returned (.tuple #[.int .i64 (if whyB fo lo ke sc mo false xs = 0 then upU fo sc xs else 0), .int .i64 (whyB fo lo ke sc mo false xs)]) ∧ Gr w w' := by
 obtain ⟨p, cap, rfl⟩ := hv.len
 by_cases h0 : whyB fo lo ke sc mo false xs = 0
 ·rw [if_pos h0, h0]
  obtain ⟨h1, h2, h3⟩ := why_yes h0
  have H := plF_of h1
  have hm := manB_iff.1 h3
  have h4 := H.lens.2.1
  have hp : oneB fo ≤ 2147483648 := by rcases H.sizes with h | h <;> omega
  have hp0 := (one_bd fo).1
  by_cases hs : sc = 1
  ·subst hs
   refine nUp_yes p xs.length cap xs fo lo ke mo iv (readyF fo lo ke 1 mo iv xs).ex (readyF fo lo ke 1 mo iv xs).sat (readyF fo lo ke 1 mo iv xs).X (readyF fo lo ke 1 mo iv xs).sh (maxG xs) _ (Lib.hid fun W h => fftReady_said.1 fo lo ke 1 mo iv _ xs h0 W h) (Lib.hid fun W h => scanMax_yes _ xs (allIn_more hm.all hp) (by omega) W h) (Lib.hid fun W => ?_) w hv
   have h := scanRoom_ok (maxG xs) fo _ (oneB fo) H.fb (maxG_nonneg xs) (maxG_le xs _ (by omega) ((allIn_iff _ _).1 hm.all)) W
   unfold upU
   rw [if_pos rfl]
   exact h
  ·have : upU fo sc xs = 0 := by unfold upU; rw [if_neg hs]
   rw [this]
   exact nUp_zero p xs.length cap xs fo lo ke sc mo iv (readyF fo lo ke sc mo iv xs).ex (readyF fo lo ke sc mo iv xs).sat (readyF fo lo ke sc mo iv xs).X (readyF fo lo ke sc mo iv xs).sh hs (by simp [hs]) (Lib.hid fun W h => fftReady_said.1 fo lo ke sc mo iv _ xs h0 W h) w hv
 ·rw [if_neg h0]
  exact nUp_no p xs.length cap xs fo lo ke sc mo iv _ h0 (by simp [h0]) (Lib.hid fun W h => fftReady_said.2 fo lo ke sc mo iv _ xs _ rfl h0 W h) w hv
theorem shl_run (l U K : Int) (h0 : 0 ≤ U) (h1 : U ≤ 40) (hK : IntKind.i64.wrap (l * 2 ^ U.toNat) = K) (W : World) : (Op.shift .shl .i64 l .i64 U).run Tryz.prog W = .ok (.int .i64 K) W := by
 subst hK
 go_simp
theorem of_bd {sc ke lo : Int} {ls : List Int} (k0 : 0 ≤ ke) (k1 : ke < 3) (h0 : 2 ≤ lo) (h1 : lo < 7) (hf : fitsB sc (passL ke lo) ls = true) : 0 ≤ ofB sc ke lo ls ∧ ofB sc ke lo ls ≤ 16778560 := by
 have h := lostB_nums sc ke lo ls (passL ke lo).length k0 k1 h0 h1 hf
 have e := lostB_all sc ke lo ls (fitsB_len sc _ ls hf)
 rw [e]
 split <;> omega
theorem unt_as (B : Nat) (a b w : Gi) : gadd (gmul a (gadd ⟨2 ^ B, 0⟩ (Gi.turn (-1) w))) (gmul b (gsub ⟨2 ^ B, 0⟩ (Gi.turn (-1) w))) = gadd (gscale B (gadd a b)) (gmul (Gi.turn (-1) (gsub a b)) w) := by
 rw [turn_back, turn_back]
 unfold gadd gmul gsub gscale
 simp only [Gi.mk.injEq]
 generalize (2 : Int) ^ B = q
 constructor <;> grind
theorem mul_two (a x : Gi) (ha : Bd 2147483648 a) (h1 : (-1073741824 ≤ x.re ∧ x.re ≤ 1073741824) ∧ (-536870912 ≤ x.im ∧ x.im ≤ 536870912)) :
 (-3458764513820540928 ≤ (gmul a x).re ∧ (gmul a x).re ≤ 3458764513820540928) ∧ (-3458764513820540928 ≤ (gmul a x).im ∧ (gmul a x).im ≤ 3458764513820540928) := by
 have a' := ha.le
 have m1 := mulG_bd a.re x.re 2147483648 1073741824 (by omega) a'.1 h1.1
 have m2 := mulG_bd a.im x.im 2147483648 536870912 (by omega) a'.2 h1.2
 have m3 := mulG_bd a.re x.im 2147483648 536870912 (by omega) a'.1 h1.2
 have m4 := mulG_bd a.im x.re 2147483648 1073741824 (by omega) a'.2 h1.1
 unfold gmul
 simp only
 omega
theorem rlBits_c {fo b p lo ke sc mo : Int} {L m B : Nat} (H : PlF fo b p lo ke sc mo L m B) (iv : Bool) (w : World) : Calls Tryz.prog 97 #[.agg #[.int .i64 fo, .int .i64 lo, .int .i64 ke, .int .i64 sc, .int .i64 mo, .bool iv]] w fun e w' => e = .returned (.int .i64 b) ∧ Gr w w' :=
 rlBits_of fo lo ke sc mo iv b (Lib.hid fun W => calls_gr (bits_c fo b p H.fb W)) w
theorem rlBin_c {fo b p lo ke sc mo : Int} {L m B : Nat} (H : PlF fo b p lo ke sc mo L m B) (h5 : L ≤ 5) (iv : Bool) (a c : Gi) (ha : Bd 2147483648 a) (hc : Bd 2147483648 c) (k : Nat) (hk : k ≤ m) (w : World) :
 Calls Tryz.prog 73 #[.agg #[.int .i64 (a).re, .int .i64 (a).im], .agg #[.int .i64 (c).re, .int .i64 (c).im], .int .i64 (k : Int), .agg #[.int .i64 fo, .int .i64 lo, .int .i64 ke, .int .i64 sc, .int .i64 mo, .bool iv]] w fun e w' => e = .returned (.agg #[.int .i64 (untG B mo a c.conj ((tw (2 * m) B).getD k ⟨0, 0⟩)).re, .int .i64 (untG B mo a c.conj ((tw (2 * m) B).getD k ⟨0, 0⟩)).im]) ∧ Gr w w' := by
 obtain ⟨⟨l2, l6⟩, ⟨h4, h64⟩, _⟩ := H.lens
 obtain ⟨hmo, _⟩ := H.kinds
 have hs := H.sizes
 have hlo := H.lo
 have hbi := H.bits
 have hB : B ≤ 29 := by omega
 have H2 := H.twice h5
 have htl := tw_len (2 * m) B
 have hp2 : (2 : Int) ^ B ≤ 536870912 := pow29i hB
 have hp0 : (0 : Int) < 2 ^ B := Int.pow_pos (by decide)
 have br : Bd 536870912 ((tw (2 * m) B).getD k ⟨0, 0⟩) := allIn_bd.1 (allIn_more (tw_in H2) hp2) _ (getD_mem _ _ (by omega))
 have hroot : (tw (2 * m) B).getD k ⟨0, 0⟩ = rootG ((2 * m : Nat) : Int) (k : Int) (56 - B) := by
  rw [tw_eq]
  exact getD_map_range (by omega)
 have hR := fun W => rRoot_ok (lo + 1) (k : Int) ((2 * m : Nat) : Int) (B : Int) (by omega) (by omega) (by have := H2.n; rw [this, show (lo + 1).toNat = L + 1 by omega]; simp) (by omega) (by omega) W
 rw [show (56 - (B : Int)).toNat = 56 - B by omega, ← hroot] at hR
 generalize (tw (2 * m) B).getD k ⟨0, 0⟩ = r at *
 have bt := br.turn (-1)
 have bt' := bt.le
 have one : Bd 2305843009213693952 ⟨2 ^ B, 0⟩ := Bd.mk ⟨by simp only; omega, by simp only; omega⟩
 have x1 : (-1073741824 ≤ (gadd ⟨2 ^ B, 0⟩ (Gi.turn (-1) r)).re ∧ (gadd ⟨2 ^ B, 0⟩ (Gi.turn (-1) r)).re ≤ 1073741824) ∧ (-536870912 ≤ (gadd ⟨2 ^ B, 0⟩ (Gi.turn (-1) r)).im ∧ (gadd ⟨2 ^ B, 0⟩ (Gi.turn (-1) r)).im ≤ 536870912) := by
  unfold gadd; simp only; omega
 have x2 : (-1073741824 ≤ (gsub ⟨2 ^ B, 0⟩ (Gi.turn (-1) r)).re ∧ (gsub ⟨2 ^ B, 0⟩ (Gi.turn (-1) r)).re ≤ 1073741824) ∧ (-536870912 ≤ (gsub ⟨2 ^ B, 0⟩ (Gi.turn (-1) r)).im ∧ (gsub ⟨2 ^ B, 0⟩ (Gi.turn (-1) r)).im ≤ 536870912) := by
  unfold gsub; simp only; omega
 have b1 : Bd 1073741824 (gadd ⟨2 ^ B, 0⟩ (Gi.turn (-1) r)) := Bd.mk (by omega)
 have b2 : Bd 1073741824 (gsub ⟨2 ^ B, 0⟩ (Gi.turn (-1) r)) := Bd.mk (by omega)
 have y1 := mul_two a _ ha x1
 have y2 := mul_two c.conj _ hc.conj x2
 have hz : untG B mo a c.conj r = grnd (B + 2) mo (gadd (gmul a (gadd ⟨2 ^ B, 0⟩ (Gi.turn (-1) r))) (gmul c.conj (gsub ⟨2 ^ B, 0⟩ (Gi.turn (-1) r)))) := by unfold untG; rw [unt_as]
 have hS := cxsum_gi ⟨2 ^ B, 0⟩ (Gi.turn (-1) r) one (bt.mono (by decide))
 have hL := cxless_gi ⟨2 ^ B, 0⟩ (Gi.turn (-1) r) one (bt.mono (by decide))
 have h1 := cxtimes_gi a _ ha b1
 have h2 := cxtimes_gi c.conj _ hc.conj b2
 rw [hz]
 generalize gmul a (gadd ⟨2 ^ B, 0⟩ (Gi.turn (-1) r)) = oa at *
 generalize gmul c.conj (gsub ⟨2 ^ B, 0⟩ (Gi.turn (-1) r)) = ob at *
 have hZ := cxshift_gi (gadd oa ob) (B + 2) mo ⟨by unfold gadd; simp only; omega, by unfold gadd; simp only; omega⟩ (by omega) (by omega) (by omega)
 refine rlBin_of a c r (Gi.turn (-1) r) c.conj _ _ oa ob _ fo lo ke sc mo iv (k : Int) b (B : Int) (2 ^ B) (lo + 1) (oa.re + ob.re) (oa.im + ob.im) ((B + 2 : Nat) : Int) (Lib.hid fun W => rlBits_c H iv W)
  (Lib.hid ⟨?_, ?_, fun W => shl_run 1 (B : Int) _ (by omega) (by omega) ?_ W, IntWalk.wrap64_in _ ⟨by omega, by omega⟩, IntWalk.i64_in _ ⟨by omega, by omega⟩⟩)
  (Lib.hid ⟨IntWalk.wrap64_in _ ⟨by omega, by omega⟩, IntWalk.wrap64_in _ ⟨by omega, by omega⟩, ?_, IntWalk.i64_in _ ⟨by omega, by omega⟩, IntWalk.i64_in _ ⟨by omega, by omega⟩, ?_⟩)
  (Lib.hid hR) (Lib.hid fun W => cxturn_gi r (-1) (by have := br.le; omega) W) (Lib.hid fun W => cxconj_gi c hc.wide W) (Lib.hid hS) (Lib.hid hL) (Lib.hid h1) (Lib.hid h2) (Lib.hid hZ) w
 ·rw [hbi, show ((B : Int) + 2 - 2) = B by omega]; exact IntWalk.wrap64_in _ ⟨by omega, by omega⟩
 ·rw [hbi, show ((B : Int) + 2 - 2) = B by omega]; exact IntWalk.i64_in _ ⟨by omega, by omega⟩
 ·rw [Int.toNat_natCast, Int.one_mul]; exact IntWalk.i64_in _ ⟨by omega, by omega⟩
 ·rw [show ((B : Int) + 2) = ((B + 2 : Nat) : Int) by omega]; exact IntWalk.wrap64_in _ ⟨by omega, by omega⟩
 ·rw [show ((B : Int) + 2) = ((B + 2 : Nat) : Int) by omega]; exact IntWalk.i64_in _ ⟨by omega, by omega⟩
theorem rlUnt_c {fo b p lo ke sc mo : Int} {L m B : Nat} (H : PlF fo b p lo ke sc mo L m B) (h5 : L ≤ 5) (iv : Bool) (k : BV) (px sp : Option Addr) (cx q cl : Nat) (hl : k.X.length = m) (hX : allIn p k.X = true) (hsh : k.sh.length ≤ 20) (e0 : -1000 ≤ k.ex) (e1 : k.ex ≤ 1000) (w : World) (hv : CxsAt w (.slice px m cx) k.X) (hn : NumsAt w (.slice sp q cl) k.sh) :
 Calls Tryz.prog 33 #[.agg #[.slice px m cx, .int .i64 k.ex, .bool k.sat, .slice sp q cl], .agg #[.int .i64 fo, .int .i64 lo, .int .i64 ke, .int .i64 sc, .int .i64 mo, .bool iv]] w fun e w' => ∃ vx vs, e = .returned (.agg #[vx, .int .i64 (untB sc mo p B (tw (2 * m) B) k).ex, .bool (untB sc mo p B (tw (2 * m) B) k).sat, vs]) ∧ CxsAt w' vx (untB sc mo p B (tw (2 * m) B) k).X ∧ NumsAt w' vs k.sh ∧ Gr w w' ∧ ∀ b, vs.ownBlock = some b → w.heap.size ≤ b := by
 obtain ⟨⟨l2, l6⟩, ⟨h4, h64⟩, _⟩ := H.lens
 have hs := H.sizes
 have hp : p ≤ 2147483648 := by omega
 have hul : (untL B mo k.X (tw (2 * m) B)).length = m + 1 := by rw [untL_len, hl]
 have bX := fun a (h : a ∈ k.X) => allIn_bd.1 (allIn_more hX hp) a h
 have hat : ∀ j z, (untL B mo k.X (tw (2 * m) B))[j]? = some z → untAt B mo k.X (tw (2 * m) B) j = z := fun j z h => by
  unfold untL at h
  rw [List.getElem?_map] at h
  obtain ⟨j', hj', rfl⟩ := Option.map_eq_some_iff.1 h
  obtain ⟨hjl, rfl⟩ := List.getElem?_eq_some_iff.1 hj'
  simp
 have HU := Lib.hid fun (j : Nat) (x y : Gi) (hj : j ≤ m) (hx : k.X[j % m]? = some x) (hy : k.X[(m - j) % m]? = some y) (W : World) => rlBin_c H h5 iv x y (bX _ (List.mem_of_getElem? hx)) (bX _ (List.mem_of_getElem? hy)) j hj W
 have HU' : Hid (∀ (j : Nat) (x y : Gi), j ≤ m → k.X[j % m]? = some x → k.X[(m - j) % m]? = some y → ∀ W, Calls Tryz.prog 73 #[.agg #[.int .i64 (x).re, .int .i64 (x).im], .agg #[.int .i64 (y).re, .int .i64 (y).im], .int .i64 (j : Int), .agg #[.int .i64 fo, .int .i64 lo, .int .i64 ke, .int .i64 sc, .int .i64 mo, .bool iv]] W fun e w' => e = .returned (.agg #[.int .i64 (untAt B mo k.X (tw (2 * m) B) j).re, .int .i64 (untAt B mo k.X (tw (2 * m) B) j).im]) ∧ Gr W w') := Lib.hid fun j x y hj hx hy W => by
  have := HU.out j x y hj hx hy W
  unfold untAt
  rw [hl, List.getD_eq_getElem?_getD (l := k.X), List.getD_eq_getElem?_getD (l := k.X), hx, hy]
  exact this
 have hex : wrap64 (k.ex + 1) = k.ex + 1 ∧ IntKind.i64.wrap (k.ex + 1) = k.ex + 1 := ⟨IntWalk.wrap64_in _ ⟨by omega, by omega⟩, IntWalk.i64_in _ ⟨by omega, by omega⟩⟩
 unfold untB
 by_cases h2 : sc = 2
 ·subst h2
  simp only [if_true]
  have hany : ∀ n, n ≤ m + 1 → ((untL B mo k.X (tw (2 * m) B)).take n).any (offG p) = ((List.range n).any fun j => offG p (untAt B mo k.X (tw (2 * m) B) j)) := fun n hn => by
   unfold untL
   rw [← List.map_take, List.take_range, List.any_map, hl, Nat.min_eq_left hn]
   rfl
  have h := rlUnt_of px sp m cx q cl (by omega) h64 k.X ((untL B mo k.X (tw (2 * m) B)).map (clampG p)) hl (by simp [hul]) fo lo ke 2 mo iv k.ex (k.ex + 1) k.sat k.sh hsh hex (untAt B mo k.X (tw (2 * m) B)) (fun j => offG p (untAt B mo k.X (tw (2 * m) B) j))
   (fun n => k.sat || (List.range n).any fun j => offG p (untAt B mo k.X (tw (2 * m) B) j)) (by simp) (Lib.hid fun j hj => by simp only [List.range_succ, List.any_append, List.any_cons, List.any_nil, Bool.or_false, Bool.or_assoc]) HU'
   (Lib.hid fun j z hz W => ?_) w hv hn
  ·have e := hany (m + 1) (Nat.le_refl _)
   rw [List.take_of_length_le (by omega)] at e
   rw [← e] at h
   exact h
  ·rw [List.getElem?_map] at hz
   obtain ⟨z', hz', rfl⟩ := Option.map_eq_some_iff.1 hz
   rw [hat j z' hz']
   exact rlFitted_yes z' fo lo ke mo (clampI p z'.re) (clampI p z'.im) iv _ _ (Lib.hid fun W => clamp_c fo b p z'.re H.fb W) (Lib.hid fun W => clamp_c fo b p z'.im H.fb W) W
 ·simp only [if_neg h2]
  exact rlUnt_of px sp m cx q cl (by omega) h64 k.X (untL B mo k.X (tw (2 * m) B)) hl hul fo lo ke sc mo iv k.ex (k.ex + 1) k.sat k.sh hsh hex (untAt B mo k.X (tw (2 * m) B)) (fun _ => false) (fun _ => k.sat) rfl (Lib.hid fun j hj => Bool.or_false _) HU'
   (Lib.hid fun j z hz W => by rw [hat j z hz]; exact rlFitted_no z fo lo ke sc mo iv h2 W) w hv hn
end
end Go.Proofs.YtdignnmpfkgkoaaGreat
