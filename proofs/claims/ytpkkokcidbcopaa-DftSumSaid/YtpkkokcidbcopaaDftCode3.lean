/- Package dft: a bin, all bins and the slack of numbers. -/
import Derived.Test.YtpkkokcidbcopaaDftCode2
import Derived.Test.YtpkkokcidbcopaaDftDefs
namespace Go.Proofs.Ytpkkokcidbcopaa
open Go.ChangeShapes Go.WideShapes Go.ChangeAt Go.RowKit
set_option linter.unusedVariables false
set_option linter.unusedSimpArgs false
set_option maxRecDepth 100000

def hvU (a : Gi) : Gi := ⟨a.re / 1048576, a.im / 1048576⟩
def hvL (a : Gi) : Gi := ⟨a.re % 1048576, a.im % 1048576⟩
theorem hv_bd (a : Gi) (h : (-1099511627776 ≤ a.re ∧ a.re ≤ 1099511627776) ∧ (-1099511627776 ≤ a.im ∧ a.im ≤ 1099511627776)) : Bd 1048576 (hvU a) ∧ Bd 1048576 (hvL a) := by
  unfold hvU hvL
  exact ⟨Bd.mk (by simp only; omega), Bd.mk (by simp only; omega)⟩
/-- The first m products of a bin, with the upper and with the lower halves of roots. -/
def sumH (f : Gi → Gi) (n : Nat) (xs : List Gi) (iv : Bool) (k m : Nat) : Gi := ⟨isum (fun j => (gmul (xs.getD j ⟨0, 0⟩) (f (wv n iv (j * k)))).re) m, isum (fun j => (gmul (xs.getD j ⟨0, 0⟩) (f (wv n iv (j * k)))).im) m⟩
theorem sumH_next (f : Gi → Gi) (n : Nat) (xs : List Gi) (iv : Bool) (k m : Nat) : sumH f n xs iv k (m + 1) = gadd (sumH f n xs iv k m) (gmul (xs.getD m ⟨0, 0⟩) (f (wv n iv (m * k)))) := rfl
theorem termH_bd (f : Gi → Gi) (hf : ∀ a : Gi, (-1099511627776 ≤ a.re ∧ a.re ≤ 1099511627776) ∧ (-1099511627776 ≤ a.im ∧ a.im ≤ 1099511627776) → Bd 1048576 (f a)) (n : Nat) (hn : IsLen n) (xs : List Gi) (iv : Bool) (hx : allIn 2147483648 xs = true) (k j : Nat) :
    Bd 4503599627370496 (gmul (xs.getD j ⟨0, 0⟩) (f (wv n iv (j * k)))) :=
  (Bd.mul (Bd.mk (part_in hx (by decide) j)) (hf _ (wv_bd n hn iv (j * k)))).mono (by decide)
theorem sumH_bd (f : Gi → Gi) (hf : ∀ a : Gi, (-1099511627776 ≤ a.re ∧ a.re ≤ 1099511627776) ∧ (-1099511627776 ≤ a.im ∧ a.im ≤ 1099511627776) → Bd 1048576 (f a)) (n : Nat) (hn : IsLen n) (xs : List Gi) (iv : Bool) (hx : allIn 2147483648 xs = true) (k m : Nat) (hm : m ≤ n) :
    Bd 288230376151711744 (sumH f n xs iv k m) := by
  have h64 : (m : Int) ≤ 64 := by unfold IsLen at hn; omega
  have h1 := isum_bd (fun j => (gmul (xs.getD j ⟨0, 0⟩) (f (wv n iv (j * k)))).re) 4503599627370496 m (fun j _ => (termH_bd f hf n hn xs iv hx k j).le.1)
  have h2 := isum_bd (fun j => (gmul (xs.getD j ⟨0, 0⟩) (f (wv n iv (j * k)))).im) 4503599627370496 m (fun j _ => (termH_bd f hf n hn xs iv hx k j).le.2)
  have c := Int.mul_le_mul_of_nonneg_right h64 (show (0 : Int) ≤ 4503599627370496 by decide)
  unfold sumH
  exact Bd.mk (by simp only; omega)
theorem term_two (a w : Gi) : (gmul a w).re = 1048576 * (gmul a (hvU w)).re + (gmul a (hvL w)).re ∧ (gmul a w).im = 1048576 * (gmul a (hvU w)).im + (gmul a (hvL w)).im := by
  have h1 : w.re = 1048576 * (w.re / 1048576) + w.re % 1048576 := by omega
  have h2 : w.im = 1048576 * (w.im / 1048576) + w.im % 1048576 := by omega
  unfold gmul hvU hvL
  simp only
  generalize w.re / 1048576 = p at *
  generalize w.re % 1048576 = q at *
  generalize w.im / 1048576 = r at *
  generalize w.im % 1048576 = s at *
  rw [h1, h2]
  constructor <;> grind
theorem sum_two (n : Nat) (xs : List Gi) (iv : Bool) (k : Nat) : ∀ m, (sumG n xs iv k m).re = 1048576 * (sumH hvU n xs iv k m).re + (sumH hvL n xs iv k m).re ∧ (sumG n xs iv k m).im = 1048576 * (sumH hvU n xs iv k m).im + (sumH hvL n xs iv k m).im
  | 0 => ⟨rfl, rfl⟩
  | m + 1 => by
    have ih := sum_two n xs iv k m
    have t := term_two (xs.getD m ⟨0, 0⟩) (wv n iv (m * k))
    rw [sumG_next, sumH_next, sumH_next]
    unfold gadd termG
    simp only
    omega
theorem told_sum (n : Nat) (xs : List Gi) (iv : Bool) (k : Nat) : grnd 12 0 (gadd (sumH hvU n xs iv k n) (grnd 20 0 (sumH hvL n xs iv k n))) = binG n xs iv k := by
  have h := sum_two n xs iv k n
  unfold binG grnd gadd
  simp only [rnd_floor]
  rw [h.1, h.2]
  rw [show (2 : Int) ^ 12 = 4096 from rfl, show (2 : Int) ^ 20 = 1048576 from rfl]
  simp only [Gi.mk.injEq]
  omega

theorem cxsum_gi (a b : Gi) (ha : Bd 2305843009213693952 a) (hb : Bd 2305843009213693952 b) (W : World) : Calls Try.prog 26 #[.agg #[.int .i64 (a).re, .int .i64 (a).im], .agg #[.int .i64 (b).re, .int .i64 (b).im]] W fun e w' => e = .returned (.tuple #[.agg #[.int .i64 (gadd a b).re, .int .i64 (gadd a b).im], .int .i64 0]) ∧ Gr W w' := by
  have := ha.le
  have := hb.le
  exact cxsum_ok a.re a.im b.re b.im (by simp only [Bool.and_eq_true, inB_iff]; omega) W
theorem dHalves_c (a : Gi) (h : (-1099511627776 ≤ a.re ∧ a.re ≤ 1099511627776) ∧ (-1099511627776 ≤ a.im ∧ a.im ≤ 1099511627776)) (W : World) : Calls Try.prog 19 #[.agg #[.int .i64 (a).re, .int .i64 (a).im]] W fun e w' => e = .returned (.agg #[.int .i64 (hvU a).re, .int .i64 (hvU a).im, .int .i64 (hvL a).re, .int .i64 (hvL a).im]) ∧ Gr W w' := by
  have e1 := bits_mask a.re 20 (by decide)
  have e2 := bits_mask a.im 20 (by decide)
  rw [show (2 : Int) ^ 20 - 1 = 1048575 from rfl, show (2 : Int) ^ 20 = 1048576 from rfl] at e1 e2
  have hs := cxshift_gi a 20 0 ⟨⟨by omega, by omega⟩, by omega, by omega⟩ (by decide) (by decide) (by decide)
  have eu : grnd 20 0 a = hvU a := by unfold grnd hvU; simp only [rnd_floor]; rw [show (2 : Int) ^ 20 = 1048576 from rfl]
  rw [eu] at hs
  exact dHalves_of a.re a.im _ _ (hvU a) (Lib.hid hs) e1 e2 W
theorem dPlus_c (s t a h l : Gi) (hs : Bd 288230376151711744 s) (ht : Bd 288230376151711744 t) (ha : Bd 2147483648 a) (hh : Bd 1048576 h) (hl : Bd 1048576 l) (W : World) :
    Calls Try.prog 15 #[.agg #[.int .i64 (s).re, .int .i64 (s).im, .int .i64 (t).re, .int .i64 (t).im], .agg #[.int .i64 (a).re, .int .i64 (a).im], .agg #[.int .i64 (h).re, .int .i64 (h).im, .int .i64 (l).re, .int .i64 (l).im]] W fun e w' => e = .returned (.agg #[.int .i64 (gadd s (gmul a h)).re, .int .i64 (gadd s (gmul a h)).im, .int .i64 (gadd t (gmul a l)).re, .int .i64 (gadd t (gmul a l)).im]) ∧ Gr W w' :=
  dPlus_of s t a h l _ _ _ _ (Lib.hid (cxtimes_gi a h ha (hh.mono (by decide)))) (Lib.hid (cxsum_gi s _ (hs.mono (by decide)) ((Bd.mul ha hh).mono (by decide)))) (Lib.hid (cxtimes_gi a l ha (hl.mono (by decide)))) (Lib.hid (cxsum_gi t _ (ht.mono (by decide)) ((Bd.mul ha hl).mono (by decide)))) W
theorem dTold_c (s t : Gi) (hs : Bd 288230376151711744 s) (ht : Bd 288230376151711744 t) (W : World) :
    Calls Try.prog 16 #[.agg #[.int .i64 (s).re, .int .i64 (s).im, .int .i64 (t).re, .int .i64 (t).im]] W fun e w' => e = .returned (.agg #[.int .i64 (grnd 12 0 (gadd s (grnd 20 0 t))).re, .int .i64 (grnd 12 0 (gadd s (grnd 20 0 t))).im]) ∧ Gr W w' := by
  have b1 := hs.le
  have b2 := ht.le
  have b3 : Bd 288230376151711744 (grnd 20 0 t) := by
    unfold grnd
    simp only [rnd_floor]
    rw [show (2 : Int) ^ 20 = 1048576 from rfl]
    exact Bd.mk (by simp only; omega)
  have b4 := (hs.add b3).le
  exact dTold_of s t _ _ _ (Lib.hid (cxshift_gi t 20 0 ⟨⟨by omega, by omega⟩, by omega, by omega⟩ (by decide) (by decide) (by decide))) (Lib.hid (cxsum_gi s _ (hs.mono (by decide)) (b3.mono (by decide)))) (Lib.hid (cxshift_gi _ 12 0 ⟨⟨by omega, by omega⟩, by omega, by omega⟩ (by decide) (by decide) (by decide))) W
theorem dRoots_c (n L : Nat) (h : IsLog (n : Int) L) (inv : Bool) (w : World) :
    Calls Try.prog 11 #[.int .i64 (L : Int), .bool inv] w fun e w' => ∃ x, e = .returned x ∧ HvAt w' x n (fun j => hvU (wv n inv j)) (fun j => hvL (wv n inv j)) ∧ Gr w w' := by
  have hl := h.len
  have hn : 4 ≤ n ∧ n ≤ 64 := by unfold IsLen at hl; omega
  have HT := Lib.hid (rTable_ok (L : Int) (n : Int) 40 (by have := h.1; omega) (by have := h.2.1; omega) (by rw [h.2.2, Int.toNat_natCast]; exact Int.natCast_pow 2 L) (by decide) (by decide))
  have hlen : (rootsL (n : Int) 16).length = n := by rw [rootsL_len]; omega
  have hne : rootsL (n : Int) 16 ≠ [] := by intro e; rw [e] at hlen; simp at hlen; omega
  have hat : ∀ (j : Nat) (x : Gi), (rootsL (n : Int) 16)[j]? = some x → x = rootG n j 16 := fun j x hx => by
    unfold rootsL at hx
    rw [List.getElem?_map] at hx
    obtain ⟨j', hj', rfl⟩ := Option.map_eq_some_iff.1 hx
    obtain ⟨hjl, rfl⟩ := List.getElem?_eq_some_iff.1 hj'
    simp
  cases inv
  · exact dRoots_false (L : Int) n (by omega) (rootsL (n : Int) 16) hlen hne (fun j => wv n false j) _ _ HT (Lib.hid fun j x hx => by rw [hat j x hx]; unfold wv; simp) (Lib.hid fun j hj W => dHalves_c _ (wv_bd n hl false j) W) w
  · refine dRoots_true (L : Int) n (by omega) (rootsL (n : Int) 16) hlen hne (fun j => wv n true j) _ _ HT (Lib.hid fun j x hx W => ?_) (Lib.hid fun j hj W => dHalves_c _ (wv_bd n hl true j) W) w
    have hb := wv_bd n hl false j
    unfold wv at hb ⊢
    simp only [Bool.false_eq_true, if_false, if_true] at hb ⊢
    rw [hat j x hx]
    exact cxconj_gi _ ⟨by omega, by omega⟩ W
theorem dBin1_c (n L : Nat) (h : IsLog (n : Int) L) (k : Int) (inv : Bool) (px : Option Addr) (cx : Nat) (vw : Value) (xs : List Gi) (hxn : xs.length = n) (hx : allIn 2147483648 xs = true) (w : World) (hvx : CxsAt w (.slice px n cx) xs) (hvw : HvAt w vw n (fun j => hvU (wv n inv j)) (fun j => hvL (wv n inv j))) :
    Calls Try.prog 10 #[.slice px n cx, vw, .int .i64 k] w fun e w' => e = .returned (.agg #[.int .i64 (binG n xs inv (k % (n : Int)).toNat).re, .int .i64 (binG n xs inv (k % (n : Int)).toNat).im]) ∧ Gr w w' := by
  have hl := h.len
  have hn : 4 ≤ n ∧ n ≤ 64 := by unfold IsLen at hl; omega
  have hk0 := Int.emod_nonneg k (show (n : Int) ≠ 0 by omega)
  have hk1 := Int.emod_lt_of_pos k (show 0 < (n : Int) by omega)
  have hand : ∀ y : Int, bits .and .i64 y ((n : Int) - 1) = y % (n : Int) := fun y => by
    have := bits_mask y L (by have := h.2.1; omega)
    rw [h.2.2, Int.natCast_pow]
    exact this
  obtain ⟨kk, hkk⟩ : ∃ kk : Nat, k % (n : Int) = (kk : Int) := ⟨(k % (n : Int)).toNat, by omega⟩
  have hkn : kk < n := by omega
  have hjk : ∀ j : Nat, j < n → j * kk ≤ 4096 := fun j hj => by
    have := Nat.mul_le_mul (show j ≤ 64 by omega) (show kk ≤ 64 by omega)
    omega
  have hb : ∀ (j : Nat) (x : Gi), xs[j]? = some x → xs.getD j ⟨0, 0⟩ = x := fun j x h => by rw [List.getD_eq_getElem?_getD, h]; rfl
  have hmod : ∀ j, wv n inv (j * kk % n) = wv n inv (j * kk) := fun j => by
    have := wv_again n hl inv (j * kk % n) (j * kk / n)
    rw [Nat.mod_add_div] at this
    exact this.symm
  have fU : ∀ a : Gi, (-1099511627776 ≤ a.re ∧ a.re ≤ 1099511627776) ∧ (-1099511627776 ≤ a.im ∧ a.im ≤ 1099511627776) → Bd 1048576 (hvU a) := fun a ha => (hv_bd a ha).1
  have fL : ∀ a : Gi, (-1099511627776 ≤ a.re ∧ a.re ≤ 1099511627776) ∧ (-1099511627776 ≤ a.im ∧ a.im ≤ 1099511627776) → Bd 1048576 (hvL a) := fun a ha => (hv_bd a ha).2
  rw [hkk, Int.toNat_natCast, ← told_sum]
  refine dBin_of n k (kk : Int) px cx vw xs hxn (fun j => hvU (wv n inv j)) (fun j => hvL (wv n inv j)) (fun j => sumH hvU n xs inv kk j) (fun j => sumH hvL n xs inv kk j) (fun j => ((j * kk : Nat) : Int)) (fun j => j * kk % n) _ (by rw [hand, hkk]) ⟨rfl, rfl⟩
    (Lib.hid fun j hj => ⟨imul j kk (by have := hjk j hj; omega), by rw [hand]; exact (Int.natCast_emod _ _).symm, Nat.mod_lt _ (by omega)⟩) (by omega) (by omega) (Lib.hid fun j x hjx W => ?_)
    (Lib.hid (dTold_c _ _ (sumH_bd hvU fU n hl xs inv hx kk n (Nat.le_refl _)) (sumH_bd hvL fL n hl xs inv hx kk n (Nat.le_refl _)))) w hvx hvw
  have hjn : j < n := by rw [← hxn]; exact (List.getElem?_eq_some_iff.1 hjx).1
  have hp := part_in hx (by decide) j
  have ht := hv_bd _ (wv_bd n hl inv (j * kk))
  rw [hmod, sumH_next, sumH_next, hb j x hjx] at *
  exact dPlus_c _ _ _ _ _ (sumH_bd hvU fU n hl xs inv hx kk j (by omega)) (sumH_bd hvL fL n hl xs inv hx kk j (by omega)) (Bd.mk hp) ht.1 ht.2 W

set_option maxHeartbeats 1000000 in
theorem dftBin_of (n : Nat) (k l m : Int) (inv : Bool) (px : Option Addr) (cx : Nat) (xs : List Gi) (u v : Nat → Gi) (z : Gi) (HM : Hid (∀ W, CxsAt W (.slice px n cx) xs → Calls Try.prog 9 #[.slice px n cx] W fun e w' => e = .returned (.tuple #[.int .i64 l, .int .i64 m, .int .i64 0]) ∧ Gr W w')) (HR : Hid (∀ W, Calls Try.prog 11 #[.int .i64 l, .bool inv] W fun e w' => ∃ x, e = .returned x ∧ HvAt w' x n u v ∧ Gr W w'))
    (HB : Hid (∀ vt W, CxsAt W (.slice px n cx) xs → HvAt W vt n u v → Calls Try.prog 10 #[.slice px n cx, vt, .int .i64 k] W fun e w' => e = .returned (.agg #[.int .i64 (z).re, .int .i64 (z).im]) ∧ Gr W w')) (w : World) (hvx : CxsAt w (.slice px n cx) xs) :
    Calls Try.prog 5 #[.slice px n cx, .int .i64 k, .bool inv] w fun e w' => e = .returned (.tuple #[.agg #[.int .i64 (z).re, .int .i64 (z).im], .int .i64 0]) ∧ Gr w w' := by
  go_enter Try.func5, Try.ntmps5
  go_wp2_with fail
  obtain ⟨u0, hU⟩ : ∃ uu, uu = (w.alloc (.cells #[.int .i64 0, .int .i64 0] 24)) := ⟨_, rfl⟩
  have gu : Gr w u0 := by rw [hU]; exact (Gr.refl w).alloc _ _
  have R0 : CellsAt u0 (w.heap.size) 24 #[.int .i64 0, .int .i64 0] := by
    rw [hU]
    have := (CellsAt.new w 24 #[.int .i64 0, .int .i64 0])
    simpa only [World.size_alloc] using this
  rw [← hU]
  clear hU
  have lr := R0.lt
  go_wp2_with fail
  refine (HM.out _ (hvx.gr gu)).mono ?_
  rintro e w1 ⟨rfl, g1⟩
  have Fr_1 := CellsAt.gr (R0) g1
  have lr_1 := CellsAt.lt (Fr_1)
  have z1 := (gu).trans g1
  clear R0 gu g1
  go_wp2_with fail
  refine (HR.out _).mono ?_
  rintro e w2 ⟨vt, rfl, hvt, g2⟩
  have Fr_2 := CellsAt.gr (Fr_1) g2
  have lr_2 := CellsAt.lt (Fr_2)
  have z2 := (z1).trans g2
  clear Fr_1 z1 g2
  go_wp2_with fail
  have hvx2 := hvx.gr z2
  refine (HB.out _ _ hvx2 hvt).mono ?_
  rintro e w3 ⟨rfl, g3⟩
  have Fr_3 := CellsAt.gr (Fr_2) g3
  have lr_3 := CellsAt.lt (Fr_3)
  have z3 := (z2).trans g3
  clear Fr_2 z2 g3
  have mr0 := CellsAt.frozen (Fr_3) 0
  have cr0 := CellsAt.cell (Fr_3) 0
  simp only [List.getElem?_toArray, List.getElem?_cons_zero, List.getElem?_cons_succ] at cr0
  have mr1 := CellsAt.frozen (Fr_3) 1
  have cr1 := CellsAt.cell (Fr_3) 1
  simp only [List.getElem?_toArray, List.getElem?_cons_zero, List.getElem?_cons_succ] at cr1
  go_wp2_with fail
  clear mr0 cr0 mr1 cr1
  obtain ⟨uf, hqp1⟩ : ∃ zz, zz = ((w3.setCell ⟨w.heap.size, 0, none⟩ (.int .i64 (z).re)).setCell ⟨w.heap.size, 1, none⟩ (.int .i64 (z).im)) := ⟨_, rfl⟩
  have Yr_p1 : CellsAt uf (w.heap.size) 24 #[.int .i64 (z).re, .int .i64 (z).im] := by rw [hqp1]; first | exact CellsAt.set2 (Fr_3) _ _ | simpa using CellsAt.set2 (Fr_3) _ _
  have yp1 : Gr w uf := by rw [hqp1]; exact ((z3).setCell (by first | omega | (simp only; omega)) _).setCell (by first | omega | (simp only; omega)) _
  rw [← hqp1]
  clear hqp1
  have cr0 := CellsAt.cell (Yr_p1) 0
  have cr1 := CellsAt.cell (Yr_p1) 1
  simp only [List.getElem?_toArray, List.getElem?_cons_zero, List.getElem?_cons_succ] at cr0 cr1
  refine bodyPost_ret (v := .tuple #[.agg #[.int .i64 (z).re, .int .i64 (z).im], .int .i64 0]) ?_ rfl ⟨rfl, yp1⟩
  simp [results, Try.results5, go_sem, *]

set_option maxHeartbeats 1000000 in
theorem dftBin_no (n : Nat) (k y : Int) (inv : Bool) (px : Option Addr) (cx : Nat) (xs : List Gi) (hy : ¬ y = 0) (hyb : (y == 0) = false) (HM : Hid (∀ W, CxsAt W (.slice px n cx) xs → Calls Try.prog 9 #[.slice px n cx] W fun e w' => e = .returned (.tuple #[.int .i64 0, .int .i64 0, .int .i64 y]) ∧ Gr W w')) (w : World) (hvx : CxsAt w (.slice px n cx) xs) :
    Calls Try.prog 5 #[.slice px n cx, .int .i64 k, .bool inv] w fun e w' => e = .returned (.tuple #[.agg #[.int .i64 0, .int .i64 0], .int .i64 y]) ∧ Gr w w' := by
  go_enter Try.func5, Try.ntmps5
  go_wp2_with fail
  obtain ⟨u0, hU⟩ : ∃ uu, uu = (w.alloc (.cells #[.int .i64 0, .int .i64 0] 24)) := ⟨_, rfl⟩
  have gu : Gr w u0 := by rw [hU]; exact (Gr.refl w).alloc _ _
  have R0 : CellsAt u0 (w.heap.size) 24 #[.int .i64 0, .int .i64 0] := by
    rw [hU]
    have := (CellsAt.new w 24 #[.int .i64 0, .int .i64 0])
    simpa only [World.size_alloc] using this
  rw [← hU]
  clear hU
  have lr := R0.lt
  go_wp2_with fail
  refine (HM.out _ (hvx.gr gu)).mono ?_
  rintro e w1 ⟨rfl, g1⟩
  have Fr_1 := CellsAt.gr (R0) g1
  have lr_1 := CellsAt.lt (Fr_1)
  have z1 := (gu).trans g1
  clear R0 gu g1
  have mr0 := CellsAt.frozen (Fr_1) 0
  have cr0 := CellsAt.cell (Fr_1) 0
  simp only [List.getElem?_toArray, List.getElem?_cons_zero, List.getElem?_cons_succ] at cr0
  have mr1 := CellsAt.frozen (Fr_1) 1
  have cr1 := CellsAt.cell (Fr_1) 1
  simp only [List.getElem?_toArray, List.getElem?_cons_zero, List.getElem?_cons_succ] at cr1
  go_wp2_with fail
  clear mr0 cr0 mr1 cr1
  obtain ⟨uf, hqp1⟩ : ∃ zz, zz = ((w1.setCell ⟨w.heap.size, 0, none⟩ (.int .i64 0)).setCell ⟨w.heap.size, 1, none⟩ (.int .i64 0)) := ⟨_, rfl⟩
  have Yr_p1 : CellsAt uf (w.heap.size) 24 #[.int .i64 0, .int .i64 0] := by rw [hqp1]; first | exact CellsAt.set2 (Fr_1) _ _ | simpa using CellsAt.set2 (Fr_1) _ _
  have yp1 : Gr w uf := by rw [hqp1]; exact ((z1).setCell (by first | omega | (simp only; omega)) _).setCell (by first | omega | (simp only; omega)) _
  rw [← hqp1]
  clear hqp1
  have cr0 := CellsAt.cell (Yr_p1) 0
  have cr1 := CellsAt.cell (Yr_p1) 1
  simp only [List.getElem?_toArray, List.getElem?_cons_zero, List.getElem?_cons_succ] at cr0 cr1
  refine bodyPost_ret (v := .tuple #[.agg #[.int .i64 0, .int .i64 0], .int .i64 y]) ?_ rfl ⟨rfl, yp1⟩
  simp [results, Try.results5, go_sem, *]

set_option maxHeartbeats 1000000 in
theorem dftSlack_of (n : Nat) (l m q r : Int) (px : Option Addr) (cx : Nat) (xs : List Gi) (hn : n ≤ 64) (hw1 : wrap64 (2 * (n : Int) * m) = q) (hw2 : wrap64 (r + 2) = r + 2) (HM : Hid (∀ W, CxsAt W (.slice px n cx) xs → Calls Try.prog 9 #[.slice px n cx] W fun e w' => e = .returned (.tuple #[.int .i64 l, .int .i64 m, .int .i64 0]) ∧ Gr W w'))
    (HS : Hid (∀ W, Calls Try.prog 12 #[.int .i64 q, .int .i64 32, .int .i64 0] W fun e w' => e = .returned (.tuple #[.int .i64 r, .int .i64 0]) ∧ Gr W w')) (w : World) (hvx : CxsAt w (.slice px n cx) xs) :
    Calls Try.prog 8 #[.slice px n cx] w fun e w' => e = .returned (.tuple #[.int .i64 (r + 2), .int .i64 0]) ∧ Gr w w' := by
  have hn2 : wrap64 (2 * (n : Int)) = 2 * n := IntWalk.wrap64_in _ ⟨by omega, by omega⟩
  have HW2 := Lib.hid hw2
  clear hw2
  go_enter Try.func8, Try.ntmps8
  go_wp2_with fail
  refine (HM.out _ hvx).mono ?_
  rintro e w1 ⟨rfl, g1⟩
  go_wp2_with fail
  with_reducible refine (HS.out _).mono ?_
  rintro e w2 ⟨rfl, g2⟩
  have hw2 := HW2.out
  go_wp2_with fail
  go_ret2
  refine ⟨?_, g1.trans g2⟩
  show Ending.returned (Value.tuple #[Value.int .i64 (wrap64 (r + 2)), Value.int .i64 0]) = _
  rw [hw2]
set_option maxHeartbeats 1000000 in
theorem dftSlack_no (n : Nat) (y : Int) (px : Option Addr) (cx : Nat) (xs : List Gi) (hy : ¬ y = 0) (hyb : (y == 0) = false) (HM : Hid (∀ W, CxsAt W (.slice px n cx) xs → Calls Try.prog 9 #[.slice px n cx] W fun e w' => e = .returned (.tuple #[.int .i64 0, .int .i64 0, .int .i64 y]) ∧ Gr W w')) (w : World) (hvx : CxsAt w (.slice px n cx) xs) :
    Calls Try.prog 8 #[.slice px n cx] w fun e w' => e = .returned (.tuple #[.int .i64 0, .int .i64 y]) ∧ Gr w w' := by
  go_enter Try.func8, Try.ntmps8
  go_wp2_with fail
  refine (HM.out _ hvx).mono ?_
  rintro e w1 ⟨rfl, g1⟩
  go_wp2_with fail
  go_ret2
  exact ⟨rfl, g1⟩

set_option maxHeartbeats 1000000 in
theorem dftAll_no (n : Nat) (y : Int) (inv : Bool) (px : Option Addr) (cx : Nat) (xs : List Gi) (hy : ¬ y = 0) (hyb : (y == 0) = false) (HM : Hid (∀ W, CxsAt W (.slice px n cx) xs → Calls Try.prog 9 #[.slice px n cx] W fun e w' => e = .returned (.tuple #[.int .i64 0, .int .i64 0, .int .i64 y]) ∧ Gr W w')) (w : World) (hvx : CxsAt w (.slice px n cx) xs) :
    Calls Try.prog 7 #[.slice px n cx, .bool inv] w fun e w' => e = .returned (.tuple #[.slice none 0 0, .int .i64 y]) ∧ Gr w w' := by
  go_enter Try.func7, Try.ntmps7
  go_wp2_with fail
  refine (HM.out _ hvx).mono ?_
  rintro e w1 ⟨rfl, g1⟩
  go_wp2_with fail
  go_ret2
  exact ⟨rfl, g1⟩
set_option maxHeartbeats 2000000 in
theorem dftAll_of (n : Nat) (hn : n ≤ 70) (l m : Int) (inv : Bool) (px : Option Addr) (cx : Nat) (xs : List Gi) (u v B : Nat → Gi) (HM : Hid (∀ W, CxsAt W (.slice px n cx) xs → Calls Try.prog 9 #[.slice px n cx] W fun e w' => e = .returned (.tuple #[.int .i64 l, .int .i64 m, .int .i64 0]) ∧ Gr W w')) (HR : Hid (∀ W, Calls Try.prog 11 #[.int .i64 l, .bool inv] W fun e w' => ∃ x, e = .returned x ∧ HvAt w' x n u v ∧ Gr W w'))
    (HB : Hid (∀ j vt W, j < n → CxsAt W (.slice px n cx) xs → HvAt W vt n u v → Calls Try.prog 10 #[.slice px n cx, vt, .int .i64 (j : Nat)] W fun e w' => e = .returned (.agg #[.int .i64 (B j).re, .int .i64 (B j).im]) ∧ Gr W w')) (w : World) (hvx : CxsAt w (.slice px n cx) xs) :
    Calls Try.prog 7 #[.slice px n cx, .bool inv] w fun e w' => ∃ x, e = .returned (.tuple #[x, .int .i64 0]) ∧ CxsAt w' x ((List.range n).map B) ∧ Gr w w' := by
  have hmk := run_make_cx n (by omega)
  go_enter Try.func7, Try.ntmps7
  go_wp2_with fail
  refine (HM.out _ hvx).mono ?_
  rintro e w1 ⟨rfl, g1⟩
  go_wp2_with fail
  refine (HR.out _).mono ?_
  rintro e w2 ⟨vt, rfl, hvt, g2⟩
  have g12 := g1.trans g2
  have hvx2 := hvx.gr g12
  clear g1 g2 HM HR
  go_wp2_with fail
  have M0 := CellsAt.new w2 24 (madeCells #[.int .i64 0, .int .i64 0] (n * 2))
  have M1 := size_madeCells #[.int .i64 0, .int .i64 0] (n * 2)
  go_loopw [11, 29] (fun _ i wr => ∃ k : Nat, ∃ c : Array Value, k ≤ n ∧ i = .int .i64 k ∧ CellsAt wr w2.heap.size 24 c ∧ c.size = n * 2 ∧ (∀ j, j < k → c[j * 2]? = some (.int .i64 (B j).re) ∧ c[j * 2 + 1]? = some (.int .i64 (B j).im)) ∧ Gr w2 wr)
    (fun _ i _ => n - (intOf i).toNat)
  case atStart => exact ⟨0, _, by omega, rfl, M0, M1, fun j hj => absurd hj (Nat.not_lt_zero _), (Gr.refl _).alloc _ _⟩
  case round =>
    clear M0 M1 hmk
    obtain ⟨k, c, hk, rfl, hC, hs, hj, hg⟩ := hrel
    by_cases hlt : k < n
    · have hkI : (k : Int) < (n : Int) := by omega
      have HA := Lib.hid fun vt W h1 h2 => HB.out k vt W hlt h1 h2
      have HS := Lib.hid hs
      have HJ := Lib.hid hj
      clear hs hj HB
      generalize hgg : B k = g at *
      have HG := Lib.hid hgg
      clear hgg
      obtain ⟨re, im⟩ := g
      simp only at HA
      go_wp2_with fail
      refine (HA.out _ _ (hvx2.gr hg) (hvt.gr hg)).mono ?_
      rintro e w3 ⟨rfl, hg2⟩
      have hC2 := hC.gr hg2
      have f2 := hC2.frozen (k * 2)
      have f3 := hC2.frozen (k * 2 + 1)
      have q2 := hC2.cell (k * 2)
      have q3 := hC2.cell (k * 2 + 1)
      have hg3 := hg.trans hg2
      rw [Array.getElem?_eq_getElem (show k * 2 < c.size by rw [HS.out]; omega)] at q2
      rw [Array.getElem?_eq_getElem (show k * 2 + 1 < c.size by rw [HS.out]; omega)] at q3
      have hBl := hC2.lt
      clear hC hg2 hg HA
      go_wp2_with fail
      have hC3 := (hC2.set (k * 2) (.int .i64 re)).set (k * 2 + 1) (.int .i64 im)
      have hg4 := (hg3.setCell (a := ⟨w2.heap.size, k * 2, none⟩) (by simp) (.int .i64 re)).setCell (a := ⟨w2.heap.size, k * 2 + 1, none⟩) (by simp) (.int .i64 im)
      go_roundw
      case rel =>
        refine ⟨k + 1, _, by omega, by go_num, hC3, by simpa using HS.out, fun j hj => ?_, hg4⟩
        by_cases e : j = k
        · subst e
          rw [HG.out]
          constructor
          · rw [Array.getElem?_setIfInBounds, if_neg (by omega), Array.getElem?_setIfInBounds, if_pos rfl, if_pos (by rw [HS.out]; omega)]
          · rw [Array.getElem?_setIfInBounds, if_pos rfl, if_pos (by simp only [Array.size_setIfInBounds]; rw [HS.out]; omega)]
        · have := HJ.out j (by omega)
          constructor
          · rw [Array.getElem?_setIfInBounds, if_neg (by omega), Array.getElem?_setIfInBounds, if_neg (by omega)]
            exact this.1
          · rw [Array.getElem?_setIfInBounds, if_neg (by omega), Array.getElem?_setIfInBounds, if_neg (by omega)]
            exact this.2
      case measure => simp [intOf]; omega
    · obtain rfl : k = n := by omega
      have hkI : ¬ (k : Int) < (k : Int) := by omega
      go_wp2_with fail
      go_ret2
      refine ⟨_, rfl, ?_, g12.trans hg⟩
      refine ⟨some ⟨w2.heap.size, 0, none⟩, k, by simp, by simp, by unfold maxLen; omega, fun _ => ⟨w2.heap.size, 0, rfl, hC.lt, fun j x hx => ?_⟩⟩
      rw [List.getElem?_map] at hx
      obtain ⟨j', hj', rfl⟩ := Option.map_eq_some_iff.1 hx
      obtain ⟨hjl, rfl⟩ := List.getElem?_eq_some_iff.1 hj'
      simp only [List.length_range] at hjl
      have := hj j hjl
      rw [hC.cell, hC.cell, Nat.zero_add]
      simpa using this

/-- Why numbers may not be: y; 0: they may. -/
def DftWhy (n : Nat) (xs : List Gi) (y : Int) : Prop := ((¬ ∃ L, IsLog (n : Int) L) ∧ y = 3) ∨ ((∃ L, IsLog (n : Int) L) ∧ allIn 2147483648 xs = false ∧ y = 2)
theorem measured_no (n : Nat) (xs : List Gi) (y : Int) (h : DftWhy n xs y) (px : Option Addr) (cx : Nat) (hxn : xs.length = n) (w : World) (hvx : CxsAt w (.slice px n cx) xs) :
    Calls Try.prog 9 #[.slice px n cx] w fun e w' => e = .returned (.tuple #[.int .i64 0, .int .i64 0, .int .i64 y]) ∧ Gr w w' := by
  rcases h with ⟨h, rfl⟩ | ⟨⟨L, h⟩, hb, rfl⟩
  · exact dMeasured_no n h px cx w
  · exact dMeasured_yes n L h px cx xs hxn 0 2 (.inr ⟨hb, rfl, rfl⟩) w hvx
theorem measured_yes (n L : Nat) (h : IsLog (n : Int) L) (xs : List Gi) (px : Option Addr) (cx : Nat) (hxn : xs.length = n) (hx : allIn 2147483648 xs = true) (w : World) (hvx : CxsAt w (.slice px n cx) xs) :
    Calls Try.prog 9 #[.slice px n cx] w fun e w' => e = .returned (.tuple #[.int .i64 (L : Int), .int .i64 (maxG xs), .int .i64 0]) ∧ Gr w w' := dMeasured_yes n L h px cx xs hxn _ 0 (.inl ⟨hx, rfl, rfl⟩) w hvx
theorem DftWhy.ne {n : Nat} {xs : List Gi} {y : Int} (h : DftWhy n xs y) : ¬ y = 0 ∧ (y == 0) = false := by
  rcases h with ⟨_, rfl⟩ | ⟨_, _, rfl⟩ <;> decide


/-- Package dft, in numbers. -/
theorem dBin_yes (n L : Nat) (h : IsLog (n : Int) L) (k : Int) (inv : Bool) (px : Option Addr) (cx : Nat) (xs : List Gi) (hxn : xs.length = n) (hx : allIn 2147483648 xs = true) (w : World) (hvx : CxsAt w (.slice px n cx) xs) :
    Calls Try.prog 5 #[.slice px n cx, .int .i64 k, .bool inv] w fun e w' => e = .returned (.tuple #[.agg #[.int .i64 (binG n xs inv (k % (n : Int)).toNat).re, .int .i64 (binG n xs inv (k % (n : Int)).toNat).im], .int .i64 0]) ∧ Gr w w' :=
  dftBin_of n k _ _ inv px cx xs _ _ _ (Lib.hid fun W hW => measured_yes n L h xs px cx hxn hx W hW) (Lib.hid (dRoots_c n L h inv)) (Lib.hid fun vt W h1 h2 => dBin1_c n L h k inv px cx vt xs hxn hx W h1 h2) w hvx
theorem dBin_no (n : Nat) (k : Int) (inv : Bool) (px : Option Addr) (cx : Nat) (xs : List Gi) (hxn : xs.length = n) (y : Int) (hy : DftWhy n xs y) (w : World) (hvx : CxsAt w (.slice px n cx) xs) :
    Calls Try.prog 5 #[.slice px n cx, .int .i64 k, .bool inv] w fun e w' => e = .returned (.tuple #[.agg #[.int .i64 0, .int .i64 0], .int .i64 y]) ∧ Gr w w' :=
  dftBin_no n k y inv px cx xs hy.ne.1 hy.ne.2 (Lib.hid fun W hW => measured_no n xs y hy px cx hxn W hW) w hvx
theorem dSlack_yes (n L : Nat) (h : IsLog (n : Int) L) (px : Option Addr) (cx : Nat) (xs : List Gi) (hxn : xs.length = n) (hx : allIn 2147483648 xs = true) (w : World) (hvx : CxsAt w (.slice px n cx) xs) :
    Calls Try.prog 8 #[.slice px n cx] w fun e w' => e = .returned (.tuple #[.int .i64 (slackG n xs), .int .i64 0]) ∧ Gr w w' := by
  have hl := h.len
  have hn : n ≤ 64 := by unfold IsLen at hl; omega
  obtain ⟨b1, b2, b3⟩ := slackG_bd n hn xs hx
  have hs := shift_ok (2 * (n : Int) * maxG xs) 32 0 ⟨by omega, by omega⟩ (by decide) (by decide) (by decide) (by decide)
  rw [rnd_floor, show (2 : Int) ^ (32 : Int).toNat = 4294967296 from rfl] at hs
  unfold slackG at b3 ⊢
  exact dftSlack_of n _ (maxG xs) _ _ px cx xs hn (IntWalk.wrap64_in _ ⟨by omega, by omega⟩) (IntWalk.wrap64_in _ ⟨by omega, by omega⟩) (Lib.hid fun W hW => measured_yes n L h xs px cx hxn hx W hW) (Lib.hid hs) w hvx
theorem dSlack_no (n : Nat) (px : Option Addr) (cx : Nat) (xs : List Gi) (hxn : xs.length = n) (y : Int) (hy : DftWhy n xs y) (w : World) (hvx : CxsAt w (.slice px n cx) xs) :
    Calls Try.prog 8 #[.slice px n cx] w fun e w' => e = .returned (.tuple #[.int .i64 0, .int .i64 y]) ∧ Gr w w' :=
  dftSlack_no n y px cx xs hy.ne.1 hy.ne.2 (Lib.hid fun W hW => measured_no n xs y hy px cx hxn W hW) w hvx
theorem dAll_yes (n L : Nat) (h : IsLog (n : Int) L) (inv : Bool) (px : Option Addr) (cx : Nat) (xs : List Gi) (hxn : xs.length = n) (hx : allIn 2147483648 xs = true) (w : World) (hvx : CxsAt w (.slice px n cx) xs) :
    Calls Try.prog 7 #[.slice px n cx, .bool inv] w fun e w' => ∃ x, e = .returned (.tuple #[x, .int .i64 0]) ∧ CxsAt w' x (binsG n xs inv) ∧ Gr w w' := by
  have hl := h.len
  have hn : 4 ≤ n ∧ n ≤ 64 := by unfold IsLen at hl; omega
  refine dftAll_of n (by omega) _ _ inv px cx xs _ _ _ (Lib.hid fun W hW => measured_yes n L h xs px cx hxn hx W hW) (Lib.hid (dRoots_c n L h inv)) (Lib.hid fun j vt W hj h1 h2 => ?_) w hvx
  have := dBin1_c n L h (j : Int) inv px cx vt xs hxn hx W h1 h2
  rw [show ((j : Int) % (n : Int)).toNat = j by rw [Int.emod_eq_of_lt (by omega) (by omega)]; exact Int.toNat_natCast j] at this
  exact this
theorem dAll_no (n : Nat) (inv : Bool) (px : Option Addr) (cx : Nat) (xs : List Gi) (hxn : xs.length = n) (y : Int) (hy : DftWhy n xs y) (w : World) (hvx : CxsAt w (.slice px n cx) xs) :
    Calls Try.prog 7 #[.slice px n cx, .bool inv] w fun e w' => e = .returned (.tuple #[.slice none 0 0, .int .i64 y]) ∧ Gr w w' :=
  dftAll_no n y inv px cx xs hy.ne.1 hy.ne.2 (Lib.hid fun W hW => measured_no n xs y hy px cx hxn W hW) w hvx

end Go.Proofs.Ytpkkokcidbcopaa
