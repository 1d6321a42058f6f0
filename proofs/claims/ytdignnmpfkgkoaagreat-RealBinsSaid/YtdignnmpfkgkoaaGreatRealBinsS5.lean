import Derived.LoopN
import Derived.Test.YtdignnmpfkgkoaaGreatRealBinsS4
namespace Go.Proofs.YtdignnmpfkgkoaaGreat
section
open Go.ChangeShapes Go.WideShapes Go.ChangeAt Go.RowKit
set_option linter.unusedVariables false
set_option linter.unusedSimpArgs false
set_option maxRecDepth 100000
set_option maxHeartbeats 16000000
def partIn (l h : Int) (a : Gi) : Bool := decide ((l ≤ a.re ∧ a.re ≤ h) ∧ (l ≤ a.im ∧ a.im ≤ h))
def partsB (l h : Int) (xs : List Gi) : Bool := xs.all (partIn l h)
theorem partsB_no {l h : Int} {xs : List Gi} {k : Nat} {a : Gi} (hk : xs[k]? = some a) (g : partIn l h a = false) : partsB l h xs = false := by
 unfold partsB
 rw [Bool.eq_false_iff, Ne, List.all_eq_true]
 intro H
 rw [H a (List.mem_of_getElem? hk)] at g
 cases g
theorem partsB_snoc {l h : Int} {xs : List Gi} {k : Nat} {a : Gi} (hk : xs[k]? = some a) (h1 : partsB l h (xs.take k) = true) (g : partIn l h a = true) : partsB l h (xs.take (k + 1)) = true := by
 rw [take_snoc hk]
 unfold partsB at *
 rw [List.all_append, h1]
 simp [g]
theorem parts15_c (v : Value) (xs : List Gi) (l h : Int) (w : World) (hv : CxsAt w v xs) :
 CW 40 #[v, l, h] w (.bool (partsB l h xs)) :=by
 delta CW
 by_cases hx0 : xs = []
 ·subst hx0
  obtain ⟨p, cap, rfl⟩ := hv.len;rw [show ([] : List Gi).length = 0 from rfl];clear hv;go_in;go_wp2_with fail
  go_loopw [11] (fun i wr => i = .int .i64 0 ∧ Gr w wr) (fun i _ => 0 - (intOf i).toNat)
  case atStart => exact ⟨rfl, Gr.refl _⟩
  case round =>
   obtain ⟨rfl, hg⟩ := hrel;go_wp2_with fail
   go_ret
   exact ⟨rfl, hg⟩
 ·obtain ⟨b, o, cap, rfl, hlen, hb, hc⟩ := hv.at hx0
  have HC := kh hc;clear hc hv hx0;go_in;go_wp2_with fail
  go_loopw [11] (fun i wr => ∃ k : Nat, k ≤ xs.length ∧ i = .int .i64 k ∧ partsB l h (xs.take k) = true ∧ Gr w wr) (fun i _ => xs.length - (intOf i).toNat)
  case atStart => exact ⟨0, Nat.zero_le _, rfl, rfl, Gr.refl _⟩
  case round =>
   obtain ⟨k, hk, rfl, hp, hg⟩ := hrel
   by_cases hlt : k < xs.length
   ·obtain ⟨x, hx⟩ := get_of_lt hlt
    have h1 := (hg.cell (p := ⟨b, o + k * 2, none⟩) hb).trans (HC.out k x hx).1;have h2 := (hg.cell (p := ⟨b, o + k * 2 + 1, none⟩) hb).trans (HC.out k x hx).2
    have hlI : (k : Int) < (xs.length : Int) := by omega
    obtain ⟨re, im⟩ := x
    simp only at h1 h2
    by_cases q1 : l ≤ re
    ·by_cases q2 : re ≤ h
     ·by_cases q3 : l ≤ im
      ·by_cases q4 : im ≤ h
       ·have hs := kh (partsB_snoc hx hp (show partIn l h (Gi.mk re im) = true by simp only [partIn]; simp; omega))
        go_wp2_with fail
        go_roundw
        case rel => exact ⟨k + 1, by omega, by go_num, hs.out, hg.alloc _ _⟩
        case measure => simp [intOf]; omega
       ·skip
        have hb : partIn l h (Gi.mk re im) = false := by simp only [partIn]; simp; omega
        go_wp2_with fail
        go_ret
        exact ⟨by rw [partsB_no hx hb]; rfl, hg.alloc _ _⟩
      ·skip
       have hb : partIn l h (Gi.mk re im) = false := by simp only [partIn]; simp; omega
       go_wp2_with fail
       go_ret
       exact ⟨by rw [partsB_no hx hb]; rfl, hg.alloc _ _⟩
     ·skip
      have hb : partIn l h (Gi.mk re im) = false := by simp only [partIn]; simp; omega
      go_wp2_with fail
      go_ret
      exact ⟨by rw [partsB_no hx hb]; rfl, hg.alloc _ _⟩
    ·skip
     have hb : partIn l h (Gi.mk re im) = false := by simp only [partIn]; simp; omega
     go_wp2_with fail
     go_ret
     exact ⟨by rw [partsB_no hx hb]; rfl, hg.alloc _ _⟩
   ·obtain rfl : k = xs.length := by omega
    have hlI : ¬ (xs.length : Int) < (xs.length : Int) := by omega
    rw [List.take_length] at hp;go_wp2_with fail
    go_ret
    exact ⟨by first | rfl | (rw [hp]; rfl) | simp, hg⟩
theorem may15_plan (v : Value) (fo lo ke sc mo : Int) (iv op : Bool) (HC : CR 37 #[.agg #[fo, lo, ke, sc, mo, iv]] (.bool false)) (w : World) :
 CW 16 #[v, .agg #[fo, lo, ke, sc, mo, iv], op] w (.int .i64 4) :=by
 delta CW
 go_in
 go_wp2_with fail
 obtain ⟨u0, hu⟩ : ∃ uu, uu = w.alloc (.cells #[fo, lo, ke, sc, mo, iv] 24) := ⟨_, rfl⟩
 have R0 : CellsAt u0 w.heap.size 24 #[fo, lo, ke, sc, mo, iv] := by rw [hu]; exact CellsAt.new w 24 _
 have y0 : Gr w u0 := by rw [hu]; exact (Gr.refl w).alloc _ _
 rw [← hu]
 clear hu
 refine (HC.out _).mono ?_
 rintro e w1 ⟨rfl, g1⟩
 have R1 := R0.gr g1
 have y1 := y0.trans g1
 have l1 := R1.lt
 clear R0 y0 g1
 go_wp2_with fail
 go_ret
 exact ⟨rfl, y1⟩
theorem may15_size (p : Option Addr) (len cap : Nat) (fo lo ke sc mo n : Int) (iv op : Bool) (hn : ((len : Int) == n) = false) (HC : CR 37 #[.agg #[fo, lo, ke, sc, mo, iv]] (.bool true)) (HP : CR 38 #[lo] (.int .i64 n)) (w : World) :
 CW 16 #[.slice p len cap, .agg #[fo, lo, ke, sc, mo, iv], op] w (.int .i64 3) :=by
 delta CW
 go_in
 go_wp2_with fail
 obtain ⟨u0, hu⟩ : ∃ uu, uu = w.alloc (.cells #[fo, lo, ke, sc, mo, iv] 24) := ⟨_, rfl⟩
 have R0 : CellsAt u0 w.heap.size 24 #[fo, lo, ke, sc, mo, iv] := by rw [hu]; exact CellsAt.new w 24 _
 have y0 : Gr w u0 := by rw [hu]; exact (Gr.refl w).alloc _ _
 rw [← hu]
 clear hu
 refine (HC.out _).mono ?_
 rintro e w1 ⟨rfl, g1⟩
 have R1 := R0.gr g1
 have y1 := y0.trans g1
 have l1 := R1.lt
 clear R0 y0 g1
 obtain ⟨c0, c1, c2, c3, c4, c5⟩ := R1.t6
 go_wp2_with fail
 clear c0 c1 c2 c3 c4 c5
 refine (HP.out _).mono ?_
 rintro e w2 ⟨rfl, g2⟩
 have R2 := R1.gr g2
 have y2 := y1.trans g2
 have l2 := R2.lt
 clear R1 y1 g2
 go_wp2_with fail
 go_ret
 exact ⟨rfl, y2⟩
theorem may15_oyA : (∀ (p : Option Addr) (len cap : Nat) (xs : List Gi) (fo lo ke sc mo n q : Int) (iv : Bool) (hn : ((len : Int) == n) = true) (q0 : 0 ≤ q) (q1 : q ≤ 2147483648) (HC : CR 37 #[.agg #[fo, lo, ke, sc, mo, iv]] (.bool true)) (HP : CR 38 #[lo] (.int .i64 n)) (HO : CR 39 #[fo] (.int .i64 q)) (HA : Hid (∀ W, CxsAt W (.slice p len cap) xs → Calls Tryz.prog 40 #[.slice p len cap, .int .i64 (-q), q] W fun e w' => e = .returned (.bool true) ∧ Gr W w')) (w : World) (hv : CxsAt w (.slice p len cap) xs), CW 16 #[.slice p len cap, .agg #[fo, lo, ke, sc, mo, iv], true] w (.int .i64 0)) ∧ (∀ (p : Option Addr) (len cap : Nat) (xs : List Gi) (fo lo ke sc mo n q : Int) (iv : Bool) (hn : ((len : Int) == n) = true) (q0 : 0 ≤ q) (q1 : q ≤ 2147483648) (HC : CR 37 #[.agg #[fo, lo, ke, sc, mo, iv]] (.bool true)) (HP : CR 38 #[lo] (.int .i64 n)) (HO : CR 39 #[fo] (.int .i64 q)) (HA : Hid (∀ W, CxsAt W (.slice p len cap) xs → Calls Tryz.prog 40 #[.slice p len cap, .int .i64 (-q), q] W fun e w' => e = .returned (.bool false) ∧ Gr W w')) (w : World) (hv : CxsAt w (.slice p len cap) xs), CW 16 #[.slice p len cap, .agg #[fo, lo, ke, sc, mo, iv], true] w (.int .i64 2)) ∧ (∀ (p : Option Addr) (len cap : Nat) (xs : List Gi) (fo lo ke sc mo n q : Int) (iv : Bool) (hn : ((len : Int) == n) = true) (q0 : 0 ≤ q) (q1 : q ≤ 2147483648) (HC : CR 37 #[.agg #[fo, lo, ke, sc, mo, iv]] (.bool true)) (HP : CR 38 #[lo] (.int .i64 n)) (HO : CR 39 #[fo] (.int .i64 q)) (HA : Hid (∀ W, CxsAt W (.slice p len cap) xs → Calls Tryz.prog 40 #[.slice p len cap, .int .i64 (-q), .int .i64 (q - 1)] W fun e w' => e = .returned (.bool true) ∧ Gr W w')) (w : World) (hv : CxsAt w (.slice p len cap) xs), CW 16 #[.slice p len cap, .agg #[fo, lo, ke, sc, mo, iv], false] w (.int .i64 0)) ∧ (∀ (p : Option Addr) (len cap : Nat) (xs : List Gi) (fo lo ke sc mo n q : Int) (iv : Bool) (hn : ((len : Int) == n) = true) (q0 : 0 ≤ q) (q1 : q ≤ 2147483648) (HC : CR 37 #[.agg #[fo, lo, ke, sc, mo, iv]] (.bool true)) (HP : CR 38 #[lo] (.int .i64 n)) (HO : CR 39 #[fo] (.int .i64 q)) (HA : Hid (∀ W, CxsAt W (.slice p len cap) xs → Calls Tryz.prog 40 #[.slice p len cap, .int .i64 (-q), .int .i64 (q - 1)] W fun e w' => e = .returned (.bool false) ∧ Gr W w')) (w : World) (hv : CxsAt w (.slice p len cap) xs), CW 16 #[.slice p len cap, .agg #[fo, lo, ke, sc, mo, iv], false] w (.int .i64 2)) := by
 refine ⟨@fun p len cap xs fo lo ke sc mo n q iv hn q0 q1 HC HP HO HA w hv => ?_, @fun p len cap xs fo lo ke sc mo n q iv hn q0 q1 HC HP HO HA w hv => ?_, @fun p len cap xs fo lo ke sc mo n q iv hn q0 q1 HC HP HO HA w hv => ?_, @fun p len cap xs fo lo ke sc mo n q iv hn q0 q1 HC HP HO HA w hv => ?_⟩
 all_goals
  delta CW;go_in;go_wp2_with fail
  obtain ⟨u0, hu⟩ : ∃ uu, uu = w.alloc (.cells #[fo, lo, ke, sc, mo, iv] 24) := ⟨_, rfl⟩
  have R0 : CellsAt u0 w.heap.size 24 #[fo, lo, ke, sc, mo, iv] := by rw [hu]; exact CellsAt.new w 24 _
  have y0 : Gr w u0 := by rw [hu]; exact (Gr.refl w).alloc _ _
  rw [← hu];clear hu;refine (HC.out _).mono ?_;rintro e w1 ⟨rfl, g1⟩;have R1 := R0.gr g1;have y1 := y0.trans g1;have l1 := R1.lt;clear R0 y0 g1;obtain ⟨c0, c1, c2, c3, c4, c5⟩ := R1.t6;go_wp2_with fail;clear c0 c1 c2 c3 c4 c5;refine (HP.out _).mono ?_;rintro e w2 ⟨rfl, g2⟩;have R2 := R1.gr g2;have y2 := y1.trans g2;have l2 := R2.lt;clear R1 y1 g2;obtain ⟨c0, c1, c2, c3, c4, c5⟩ := R2.t6;go_wp2_with fail;clear c0 c1 c2 c3 c4 c5;refine (HO.out _).mono ?_;rintro e w3 ⟨rfl, g3⟩;have R3 := R2.gr g3;have y3 := y2.trans g3;have l3 := R3.lt;clear R2 y2 g3;go_wp2_with fail;refine (HA.out _ (hv.gr y3)).mono ?_;rintro e w4 ⟨rfl, g4⟩;go_wp2_with fail
  go_ret
  exact ⟨rfl, y3.trans g4⟩
theorem same15_c (vx vs ux us : Value) (ex : Int) (sat : Bool) (xs : List Gi) (sh : List Int) (w : World) (hx : CxsAt w vx xs) (hs : NumsAt w vs sh) (kx : CxsAt w ux xs) (ks : NumsAt w us sh) :
 CW 13 #[.agg #[vx, ex, sat, vs], .agg #[ux, ex, sat, us]] w (.bool true) :=by
 delta CW
 go_in
 go_wp2_with fail
 obtain ⟨u0, hU⟩ : ∃ uu, uu = ((w.alloc (.cells #[vx, ex, sat, vs] 27)).alloc (.cells #[ux, ex, sat, us] 27)) := ⟨_, rfl⟩
 have ⟨gu, R0, R1⟩ := lay2 hU
 rw [← hU]
 clear hU
 have la := R0.lt
 have lb := R1.lt
 obtain ⟨ca0, ca1, ca2, ca3⟩ := R0.t4
 obtain ⟨cb0, cb1, cb2, cb3⟩ := R1.t4
 go_wp2_with fail
 clear ca0 ca1 ca2 ca3 cb0 cb1 cb2 cb3
 refine (same03_c vx ux xs _ (hx.gr gu) (kx.gr gu)).mono ?_
 rintro e w1 ⟨rfl, g1⟩
 have ⟨Fa_1, la_1⟩ := R0.gl g1
 have ⟨Fb_1, lb_1⟩ := R1.gl g1
 have z1 := gu.trans g1
 clear R0 R1 gu g1
 obtain ⟨ca0, ca1, ca2, ca3⟩ := Fa_1.t4
 obtain ⟨cb0, cb1, cb2, cb3⟩ := Fb_1.t4
 go_wp2_with fail
 clear ca0 ca1 ca2 ca3 cb0 cb1 cb2 cb3
 refine (same04n_c vs us sh _ (hs.gr z1) (ks.gr z1)).mono ?_
 rintro e w2 ⟨rfl, g2⟩
 go_wp2_with fail
 go_ret
 exact ⟨rfl, z1.trans g2⟩
end
section
open Go.ChangeShapes Go.WideShapes Go.ChangeAt Go.RowKit
set_option linter.unusedVariables false
set_option maxRecDepth 100000
set_option maxHeartbeats 16000000
def inB (l a : Int) : Bool := decide (-l ≤ a ∧ a ≤ l)
theorem inB_true {l a : Int} (h0 : -l ≤ a) (h1 : a ≤ l) : inB l a = true := by simp [inB, h0, h1]
theorem inB_false {l a : Int} (h : a < -l ∨ l < a) : inB l a = false := by simp [inB]; omega
theorem inB_iff {l a : Int} : inB l a = true ↔ -l ≤ a ∧ a ≤ l := by simp [inB]
theorem re_c (x y : Int) (w : World) :
 Calls Tryz.prog 211 #[.agg #[x, y]] w fun e w' => e = .returned (.int .i64 x) ∧ w' = w.alloc (.cells #[x, y] 50) := by
 go_in
 go_wp2
 go_ret
 exact ⟨rfl, rfl⟩
theorem im_c (x y : Int) (w : World) :
 Calls Tryz.prog 212 #[.agg #[x, y]] w fun e w' => e = .returned (.int .i64 y) ∧ w' = w.alloc (.cells #[x, y] 50) := by
 go_in
 go_wp2
 go_ret
 exact ⟨rfl, rfl⟩
theorem re_g (x y : Int) (w : World) :
 Calls Tryz.prog 211 #[.agg #[x, y]] w fun e w' => e = .returned (.int .i64 x) ∧ Gr w w' :=
 (re_c x y w).mono fun e w' ⟨he, hw⟩ => ⟨he, by rw [hw]; exact (Gr.refl w).alloc _ _⟩
theorem im_g (x y : Int) (w : World) :
 Calls Tryz.prog 212 #[.agg #[x, y]] w fun e w' => e = .returned (.int .i64 y) ∧ Gr w w' :=
 (im_c x y w).mono fun e w' ⟨he, hw⟩ => ⟨he, by rw [hw]; exact (Gr.refl w).alloc _ _⟩
def Enters (k : Nat) : Prop := ∀ (args : Array Value) (w : World), (callFunc k args).run Tryz.prog w = .ok (.enter k args) w
theorem enters_of {k : Nat} {fn : Func} (hf : Tryz.prog.funcs[k]? = some fn) (hn : (fn.name == "runtime.NumGoroutine") = false) (hb : fn.body.isNone = false) : Enters k := by
 intro args w
 have h1 : fn.name ≠ "runtime.NumGoroutine" := by simpa using hn
 have h2 : fn.body ≠ none := by intro h; rw [h] at hb; cases hb
 simp [callFunc, hf, h1, h2]
def Tells (k : Nat) (cap : Array Value) (p : Nat) (v : Value) (w : World) : Prop :=
 ∀ W, Gr w W → Calls Tryz.prog k (#[.func (.func p) #[] #[]] ++ cap) W fun e w' => e = .returned v ∧ Gr W w'
theorem both_int (k : Nat) (cap : Array Value) (x y : Int) (w : World) (HE : Enters k)
 (HX : Hid (Tells k cap 211 (.int .i64 x) w)) (HY : Hid (Tells k cap 212 (.int .i64 y) w)) :
 CW 192 #[.func (.func k) #[] cap] w (.tuple #[x, y]) :=by
 delta CW
 unfold Enters at HE
 go_in
 go_wp2_with fail
 refine (HX.out _ (Gr.refl _)).mono ?_
 rintro e w1 ⟨rfl, hg1⟩
 go_wp2_with fail
 refine (HY.out _ hg1).mono ?_
 rintro e w2 ⟨rfl, hg2⟩
 go_wp2
 go_ret2
 exact ⟨rfl, hg1.trans hg2⟩
theorem both_bool (k : Nat) (cap : Array Value) (x y : Bool) (w : World) (HE : Enters k)
 (HX : Hid (Tells k cap 211 (.bool x) w)) (HY : Hid (Tells k cap 212 (.bool y) w)) :
 CW 189 #[.func (.func k) #[] cap] w (.tuple #[x, y]) :=by
 delta CW
 unfold Enters at HE
 go_in
 go_wp2_with fail
 refine (HX.out _ (Gr.refl _)).mono ?_
 rintro e w1 ⟨rfl, hg1⟩
 go_wp2_with fail
 refine (HY.out _ hg1).mono ?_
 rintro e w2 ⟨rfl, hg2⟩
 go_wp2
 go_ret2
 exact ⟨rfl, hg1.trans hg2⟩
theorem numberOf_c (k : Nat) (cap : Array Value) (x y : Int) (w : World) (HE : Enters k)
 (HX : Hid (Tells k cap 211 (.int .i64 x) w)) (HY : Hid (Tells k cap 212 (.int .i64 y) w)) :
 CW 165 #[.func (.func k) #[] cap] w (.agg #[x, y]) :=by
 delta CW
 have HB := kh fun (W : World) (g : Gr w W) => both_int k cap x y W HE (kh fun W1 g1 => HX.out W1 (g.trans g1)) (kh fun W1 g1 => HY.out W1 (g.trans g1))
 clear HX HY HE
 go_in
 go_wp2_with fail
 refine (HB.out _ ((Gr.refl w).alloc _ _)).mono ?_
 rintro e w1 ⟨rfl, hg⟩
 have z : w.heap.size + 1 ≤ w1.heap.size := by have := hg.size; simpa using this
 have c0 : w1.cell? ⟨w.heap.size, 0, none⟩ = some (.int .i64 0) := (hg.cell (p := ⟨w.heap.size, 0, none⟩) (by simp)).trans (by go_simp)
 have c1 : w1.cell? ⟨w.heap.size, 1, none⟩ = some (.int .i64 0) := (hg.cell (p := ⟨w.heap.size, 1, none⟩) (by simp)).trans (by go_simp)
 have f0 : w1.frozen? ⟨w.heap.size, 0, none⟩ = false := (hg.frozen ⟨w.heap.size, 0, none⟩).trans (by go_simp)
 have f1 : w1.frozen? ⟨w.heap.size, 1, none⟩ = false := (hg.frozen ⟨w.heap.size, 1, none⟩).trans (by go_simp)
 go_wp2
 refine bodyPost_ret (v := .agg #[x, y]) ?_ rfl ⟨rfl, ?_⟩
 ·simp [results, Tryz.results165, go_sem, c0, c1]
 ·exact ((Gr.trans ((Gr.refl w).alloc _ _) hg).setCell (by simp) _).setCell (by simp) _
end
section
open Go.ChangeShapes Go.WideShapes Go.ChangeAt Go.RowKit
set_option linter.unusedVariables false
structure CxAt (w : World) (p : Nat) (x y : Int) : Prop where
 lt : p < w.heap.size
 c0 : w.cell? ⟨p, 0, none⟩ = some (.int .i64 x)
 c1 : w.cell? ⟨p, 1, none⟩ = some (.int .i64 y)
theorem CxAt.gr {w W : World} {p : Nat} {x y : Int} (h : CxAt w p x y) (g : Gr w W) : CxAt W p x y :=
 ⟨Nat.lt_of_lt_of_le h.lt g.size, (g.cell (p := ⟨p, 0, none⟩) h.lt).trans h.c0, (g.cell (p := ⟨p, 1, none⟩) h.lt).trans h.c1⟩
theorem sum1_re (p q : Nat) (x0 x1 y0 y1 r : Int) (w : World) (hp : CxAt w p x0 x1) (hq : CxAt w q y0 y1) (hw : IntKind.i64.wrap (x0 + y0) = r) :
 CW 166 #[.func (.func 211) #[] #[], .pointer (some ⟨p, 0, none⟩), .pointer (some ⟨q, 0, none⟩)] w (.int .i64 r) :=by
 delta CW
 obtain ⟨lp, c0, c1⟩ := hp
 obtain ⟨lq, d0, d1⟩ := hq
 go_in
 go_wp2
 go_region_held3 (fun W => W.cell? ⟨p, 0, none⟩ = some (.int .i64 x0) ∧ W.cell? ⟨p, 1, none⟩ = some (.int .i64 x1) ∧ W.cell? ⟨q, 0, none⟩ = some (.int .i64 y0) ∧ W.cell? ⟨q, 1, none⟩ = some (.int .i64 y1) ∧ Gr w W)
  (first | (go_split_ands; refine ⟨?_, ?_, ?_, ?_, ?_⟩; (all_goals (first | (go_keep; done) | (repeat (first | exact Gr.refl _ | assumption | apply Gr.drew | apply Gr.alloc))))))
  (first | (go_at_call 211; refine (re_c _ _ _).mono ?_; rintro e w' ⟨rfl, rfl⟩))
 go_wp2
 go_ret
 exact ⟨by rw [← hw]; rfl, by repeat (first | exact Gr.refl _ | assumption | apply Gr.drew | apply Gr.alloc)⟩
theorem sum1_im (p q : Nat) (x0 x1 y0 y1 r : Int) (w : World) (hp : CxAt w p x0 x1) (hq : CxAt w q y0 y1) (hw : IntKind.i64.wrap (x1 + y1) = r) :
 CW 166 #[.func (.func 212) #[] #[], .pointer (some ⟨p, 0, none⟩), .pointer (some ⟨q, 0, none⟩)] w (.int .i64 r) :=by
 delta CW
 obtain ⟨lp, c0, c1⟩ := hp
 obtain ⟨lq, d0, d1⟩ := hq
 go_in
 go_wp2
 go_region_held3 (fun W => W.cell? ⟨p, 0, none⟩ = some (.int .i64 x0) ∧ W.cell? ⟨p, 1, none⟩ = some (.int .i64 x1) ∧ W.cell? ⟨q, 0, none⟩ = some (.int .i64 y0) ∧ W.cell? ⟨q, 1, none⟩ = some (.int .i64 y1) ∧ Gr w W)
  (first | (go_split_ands; refine ⟨?_, ?_, ?_, ?_, ?_⟩; (all_goals (first | (go_keep; done) | (repeat (first | exact Gr.refl _ | assumption | apply Gr.drew | apply Gr.alloc))))))
  (first | (go_at_call 212; refine (im_c _ _ _).mono ?_; rintro e w' ⟨rfl, rfl⟩))
 go_wp2
 go_ret
 exact ⟨by rw [← hw]; rfl, by repeat (first | exact Gr.refl _ | assumption | apply Gr.drew | apply Gr.alloc)⟩
theorem less1_re (p q : Nat) (x0 x1 y0 y1 r : Int) (w : World) (hp : CxAt w p x0 x1) (hq : CxAt w q y0 y1) (hw : IntKind.i64.wrap (x0 - y0) = r) :
 CW 167 #[.func (.func 211) #[] #[], .pointer (some ⟨p, 0, none⟩), .pointer (some ⟨q, 0, none⟩)] w (.int .i64 r) :=by
 delta CW
 obtain ⟨lp, c0, c1⟩ := hp
 obtain ⟨lq, d0, d1⟩ := hq
 go_in
 go_wp2
 go_region_held3 (fun W => W.cell? ⟨p, 0, none⟩ = some (.int .i64 x0) ∧ W.cell? ⟨p, 1, none⟩ = some (.int .i64 x1) ∧ W.cell? ⟨q, 0, none⟩ = some (.int .i64 y0) ∧ W.cell? ⟨q, 1, none⟩ = some (.int .i64 y1) ∧ Gr w W)
  (first | (go_split_ands; refine ⟨?_, ?_, ?_, ?_, ?_⟩; (all_goals (first | (go_keep; done) | (repeat (first | exact Gr.refl _ | assumption | apply Gr.drew | apply Gr.alloc))))))
  (first | (go_at_call 211; refine (re_c _ _ _).mono ?_; rintro e w' ⟨rfl, rfl⟩))
 go_wp2
 go_ret
 exact ⟨by rw [← hw]; rfl, by repeat (first | exact Gr.refl _ | assumption | apply Gr.drew | apply Gr.alloc)⟩
theorem less1_im (p q : Nat) (x0 x1 y0 y1 r : Int) (w : World) (hp : CxAt w p x0 x1) (hq : CxAt w q y0 y1) (hw : IntKind.i64.wrap (x1 - y1) = r) :
 CW 167 #[.func (.func 212) #[] #[], .pointer (some ⟨p, 0, none⟩), .pointer (some ⟨q, 0, none⟩)] w (.int .i64 r) :=by
 delta CW
 obtain ⟨lp, c0, c1⟩ := hp
 obtain ⟨lq, d0, d1⟩ := hq
 go_in
 go_wp2
 go_region_held3 (fun W => W.cell? ⟨p, 0, none⟩ = some (.int .i64 x0) ∧ W.cell? ⟨p, 1, none⟩ = some (.int .i64 x1) ∧ W.cell? ⟨q, 0, none⟩ = some (.int .i64 y0) ∧ W.cell? ⟨q, 1, none⟩ = some (.int .i64 y1) ∧ Gr w W)
  (first | (go_split_ands; refine ⟨?_, ?_, ?_, ?_, ?_⟩; (all_goals (first | (go_keep; done) | (repeat (first | exact Gr.refl _ | assumption | apply Gr.drew | apply Gr.alloc))))))
  (first | (go_at_call 212; refine (im_c _ _ _).mono ?_; rintro e w' ⟨rfl, rfl⟩))
 go_wp2
 go_ret
 exact ⟨by rw [← hw]; rfl, by repeat (first | exact Gr.refl _ | assumption | apply Gr.drew | apply Gr.alloc)⟩
theorem shift1_re (p q m : Nat) (x0 x1 s mo : Int) (w : World) (hp : CxAt w p x0 x1) (hq : w.cell? ⟨q, 0, none⟩ = some (.int .i64 s)) (lq : q < w.heap.size) (hm : w.cell? ⟨m, 0, none⟩ = some (.int .i64 mo)) (lm : m < w.heap.size)
 (wx : -9223372036854775808 ≤ x0 ∧ x0 ≤ 9223372036854775807) (s0 : 0 ≤ s) (s1 : s ≤ 62) (m0 : 0 ≤ mo) (m1 : mo ≤ 2) :
 CW 169 #[.func (.func 211) #[] #[], .pointer (some ⟨p, 0, none⟩), .pointer (some ⟨q, 0, none⟩), .pointer (some ⟨m, 0, none⟩)] w (.int .i64 (rnd x0 s.toNat mo)) :=by
 delta CW
 have HS := kh (shift_ok x0 s mo wx s0 s1 m0 m1)
 generalize rnd x0 s.toNat mo = r at HS ⊢
 obtain ⟨lp, c0, c1⟩ := hp
 clear wx s0 s1 m0 m1
 go_in
 go_wp2
 go_region_held3 (fun W => W.cell? ⟨p, 0, none⟩ = some (.int .i64 x0) ∧ W.cell? ⟨p, 1, none⟩ = some (.int .i64 x1) ∧ W.cell? ⟨q, 0, none⟩ = some (.int .i64 s) ∧ W.cell? ⟨m, 0, none⟩ = some (.int .i64 mo) ∧ Gr w W)
  (first | (go_split_ands; refine ⟨?_, ?_, ?_, ?_, ?_⟩; (all_goals (first | (go_keep; done) | (refine (Gr.cell (by assumption) ?_).trans ?_ <;> (first | assumption | (simp; done)) ; done) | (repeat (first | exact Gr.refl _ | assumption | apply Gr.drew | apply Gr.alloc | (refine Gr.trans ?_ (by assumption))))))))
  (first | (go_at_call 211; refine (re_c _ _ _).mono ?_; rintro e w' ⟨rfl, rfl⟩) | (go_at_call 70; go_split_ands; refine (HS.out _).mono ?_; rintro e w' ⟨rfl, hg⟩; have hgw : Gr w w' := Gr.trans (by assumption) hg))
 go_wp2
 go_ret
 exact ⟨rfl, by repeat (first | exact Gr.refl _ | assumption | apply Gr.drew | apply Gr.alloc)⟩
theorem shift1_im (p q m : Nat) (x0 x1 s mo : Int) (w : World) (hp : CxAt w p x0 x1) (hq : w.cell? ⟨q, 0, none⟩ = some (.int .i64 s)) (lq : q < w.heap.size) (hm : w.cell? ⟨m, 0, none⟩ = some (.int .i64 mo)) (lm : m < w.heap.size)
 (wx : -9223372036854775808 ≤ x1 ∧ x1 ≤ 9223372036854775807) (s0 : 0 ≤ s) (s1 : s ≤ 62) (m0 : 0 ≤ mo) (m1 : mo ≤ 2) :
 CW 169 #[.func (.func 212) #[] #[], .pointer (some ⟨p, 0, none⟩), .pointer (some ⟨q, 0, none⟩), .pointer (some ⟨m, 0, none⟩)] w (.int .i64 (rnd x1 s.toNat mo)) :=by
 delta CW
 have HS := kh (shift_ok x1 s mo wx s0 s1 m0 m1)
 generalize rnd x1 s.toNat mo = r at HS ⊢
 obtain ⟨lp, c0, c1⟩ := hp
 clear wx s0 s1 m0 m1
 go_in
 go_wp2
 go_region_held3 (fun W => W.cell? ⟨p, 0, none⟩ = some (.int .i64 x0) ∧ W.cell? ⟨p, 1, none⟩ = some (.int .i64 x1) ∧ W.cell? ⟨q, 0, none⟩ = some (.int .i64 s) ∧ W.cell? ⟨m, 0, none⟩ = some (.int .i64 mo) ∧ Gr w W)
  (first | (go_split_ands; refine ⟨?_, ?_, ?_, ?_, ?_⟩; (all_goals (first | (go_keep; done) | (refine (Gr.cell (by assumption) ?_).trans ?_ <;> (first | assumption | (simp; done)) ; done) | (repeat (first | exact Gr.refl _ | assumption | apply Gr.drew | apply Gr.alloc | (refine Gr.trans ?_ (by assumption))))))))
  (first | (go_at_call 212; refine (im_c _ _ _).mono ?_; rintro e w' ⟨rfl, rfl⟩) | (go_at_call 70; go_split_ands; refine (HS.out _).mono ?_; rintro e w' ⟨rfl, hg⟩; have hgw : Gr w w' := Gr.trans (by assumption) hg))
 go_wp2
 go_ret
 exact ⟨rfl, by repeat (first | exact Gr.refl _ | assumption | apply Gr.drew | apply Gr.alloc)⟩
end
section
set_option linter.unusedVariables false
set_option maxRecDepth 100000
set_option maxHeartbeats 16000000
def absI (n : Int) : Int := if n < 0 then -n else n
theorem absI_nonneg (n : Int) : 0 ≤ absI n := by unfold absI; split <;> omega
theorem absI_le {n l : Int} : absI n ≤ l ↔ -l ≤ n ∧ n ≤ l := by unfold absI; split <;> omega
theorem absI_bd (n : Int) : -(absI n) ≤ n ∧ n ≤ absI n := by unfold absI; split <;> omega
def mx (m : Int) (a : Gi) : Int := max (max m (absI a.re)) (absI a.im)
def maxG (xs : List Gi) : Int := xs.foldl mx 0
theorem maxG_snoc (xs : List Gi) (a : Gi) : maxG (xs ++ [a]) = mx (maxG xs) a := by unfold maxG; rw [List.foldl_append]; rfl
theorem maxG_nonneg (xs : List Gi) : 0 ≤ maxG xs := by
 have h : ∀ (ys : List Gi) (m : Int), 0 ≤ m → 0 ≤ ys.foldl mx m := by
  intro ys
  induction ys with
  | nil => exact fun m h => h
  | cons a ys ih => exact fun m h => ih _ (by unfold mx; omega)
 exact h xs 0 (Int.le_refl 0)
theorem maxG_le (xs : List Gi) (l : Int) (hl : 0 ≤ l) (h : ∀ a ∈ xs, absI a.re ≤ l ∧ absI a.im ≤ l) : maxG xs ≤ l := by
 have g : ∀ (ys : List Gi) (m : Int), m ≤ l → (∀ a ∈ ys, absI a.re ≤ l ∧ absI a.im ≤ l) → ys.foldl mx m ≤ l := by
  intro ys
  induction ys with
  | nil => exact fun m h _ => h
  | cons a ys ih =>
    intro m hm hy
    have ha := hy a (List.mem_cons_self ..)
    exact ih _ (by unfold mx; omega) (fun b hb => hy b (List.mem_cons_of_mem _ hb))
 exact g xs 0 hl h
theorem maxG_ge (xs : List Gi) : ∀ a ∈ xs, absI a.re ≤ maxG xs ∧ absI a.im ≤ maxG xs := by
 have g : ∀ (ys : List Gi) (m : Int), m ≤ ys.foldl mx m ∧ ∀ a ∈ ys, absI a.re ≤ ys.foldl mx m ∧ absI a.im ≤ ys.foldl mx m := by
  intro ys
  induction ys with
  | nil => exact fun m => ⟨Int.le_refl _, fun a ha => by cases ha⟩
  | cons a ys ih =>
    intro m
    obtain ⟨h1, h2⟩ := ih (mx m a)
    have h3 : m ≤ mx m a ∧ absI a.re ≤ mx m a ∧ absI a.im ≤ mx m a := by unfold mx; omega
    refine ⟨by show m ≤ ys.foldl mx (mx m a); omega, fun b hb => ?_⟩
    show absI b.re ≤ ys.foldl mx (mx m a) ∧ absI b.im ≤ ys.foldl mx (mx m a)
    rcases List.mem_cons.1 hb with rfl | hb
    ·omega
    ·exact h2 b hb
 exact (g xs 0).2
def allIn (l : Int) (xs : List Gi) : Bool := xs.all (fun a => inB l a.re && inB l a.im)
theorem allIn_iff (l : Int) (xs : List Gi) : allIn l xs = true ↔ ∀ a ∈ xs, absI a.re ≤ l ∧ absI a.im ≤ l := by
 unfold allIn
 rw [List.all_eq_true]
 constructor
 ·intro h a ha
  have := h a ha
  simp only [Bool.and_eq_true, inB_iff] at this
  exact ⟨absI_le.2 this.1, absI_le.2 this.2⟩
 ·intro h a ha
  have := h a ha
  simp only [Bool.and_eq_true, inB_iff]
  exact ⟨absI_le.1 this.1, absI_le.1 this.2⟩
theorem allIn_no {l : Int} {xs : List Gi} {k : Nat} {a : Gi} (hk : xs[k]? = some a) (h : (inB l a.re && inB l a.im) = false) : allIn l xs = false := by
 unfold allIn
 rw [Bool.eq_false_iff, Ne, List.all_eq_true]
 intro g
 have := g a (List.mem_of_getElem? hk)
 rw [this] at h
 cases h
theorem allIn_snoc {l : Int} {xs : List Gi} {k : Nat} {a : Gi} (hk : xs[k]? = some a) (h1 : allIn l (xs.take k) = true) (h : (inB l a.re && inB l a.im) = true) : allIn l (xs.take (k + 1)) = true := by
 rw [List.take_add_one, hk]
 unfold allIn at h1 ⊢
 rw [List.all_append, h1]
 simpa using h
theorem pow_le31 (n : Nat) (h : n ≤ 31) : (2 : Int) ^ n ≤ 2147483648 := by
 have h1 : (2 : Nat) ^ n ≤ 2 ^ 31 := Nat.pow_le_pow_right (by decide) h
 have h2 : ((2 ^ n : Nat) : Int) ≤ ((2 ^ 31 : Nat) : Int) := Int.ofNat_le.2 h1
 rw [Int.natCast_pow] at h2
 simpa using h2
def roomTo (p m : Int) : Nat → Nat
 | 0 => 0
 | k + 1 => if 0 < m ∧ m * 2 ^ (k + 1) ≤ p / 2 then k + 1 else roomTo p m k
def room (p m : Int) : Nat := roomTo p m 31
theorem roomTo_succ (p m : Int) (k : Nat) : roomTo p m (k + 1) = if 0 < m ∧ m * 2 ^ (k + 1) ≤ p / 2 then k + 1 else roomTo p m k := rfl
theorem roomTo_le (p m : Int) (k : Nat) : roomTo p m k ≤ k := by
 induction k with
 | zero => exact Nat.le_refl _
 | succ k ih => rw [roomTo]; split <;> omega
theorem roomTo_fits (p m : Int) (k : Nat) (h : 0 < roomTo p m k) : 0 < m ∧ m * 2 ^ roomTo p m k ≤ p / 2 := by
 induction k with
 | zero => exact absurd h (Nat.lt_irrefl _)
 | succ k ih =>
   rw [roomTo] at h ⊢
   split
   ·assumption
   ·rename_i hn
    rw [if_neg hn] at h
    exact ih h
theorem roomTo_great (p m : Int) (k j : Nat) (hj : roomTo p m k < j) (hk : j ≤ k) (hm : 0 < m) : p / 2 < m * 2 ^ j := by
 induction k with
 | zero => omega
 | succ k ih =>
   rw [roomTo] at hj
   split at hj
   ·omega
   ·rename_i hn
    by_cases e : j = k + 1
    ·subst e
     exact Int.not_le.1 (fun h => hn ⟨hm, h⟩)
    ·exact ih hj (by omega)
theorem room_unique (p m : Int) (s : Nat) (hp : p < 4294967296) (hs : s ≤ 31) (h1 : 0 < s → 0 < m ∧ m * 2 ^ s ≤ p / 2) (h2 : 0 < m → p / 2 < m * 2 ^ (s + 1)) : s = room p m := by
 have a1 := roomTo_le p m 31
 have a2 := roomTo_fits p m 31
 unfold room
 rcases Nat.lt_trichotomy s (roomTo p m 31) with h | h | h
 ·obtain ⟨hm, b⟩ := a2 (by omega)
  have c := h2 hm
  have d : m * 2 ^ (s + 1) ≤ m * 2 ^ roomTo p m 31 := Int.mul_le_mul_of_nonneg_left (by exact_mod_cast Nat.pow_le_pow_right (n := 2) (by omega) (show s + 1 ≤ roomTo p m 31 by omega)) (by omega)
  omega
 ·exact h
 ·obtain ⟨hm, b⟩ := h1 (by omega)
  have c := roomTo_great p m 31 s h hs hm
  omega
theorem room_fits (p m : Int) (h : 0 < room p m) : 0 < m ∧ m * 2 ^ room p m ≤ p / 2 := roomTo_fits p m 31 h
theorem room_le (p m : Int) : room p m ≤ 31 := roomTo_le p m 31
def preOf (kernel p m : Int) : Int :=
 if kernel = 4 then (if m ≤ p / 8 then 0 else 1 + (if m ≤ p / 4 then 0 else if m ≤ p / 2 then 1 else 2)) else if m ≤ p / 4 then 0 else if m ≤ p / 2 then 1 else 2
def shG (s mo : Int) (a : Gi) : Gi := if 0 ≤ s then ⟨rnd a.re s.toNat mo, rnd a.im s.toNat mo⟩ else ⟨a.re * 2 ^ (-s).toNat, a.im * 2 ^ (-s).toNat⟩
end
section
set_option linter.unusedVariables false
def gmul (b w : Gi) : Gi := ⟨b.re * w.re - b.im * w.im, b.re * w.im + b.im * w.re⟩
def padd (bits n : Nat) (mo : Int) (a t : Gi) : Gi := ⟨rnd (a.re * 2 ^ bits + t.re) n mo, rnd (a.im * 2 ^ bits + t.im) n mo⟩
def psub (bits n : Nat) (mo : Int) (a t : Gi) : Gi := ⟨rnd (a.re * 2 ^ bits - t.re) n mo, rnd (a.im * 2 ^ bits - t.im) n mo⟩
def pairUp (bits s : Nat) (mo : Int) (a b w : Gi) : Gi := padd bits (bits + s) mo a (gmul b w)
def pairDown (bits s : Nat) (mo : Int) (a b w : Gi) : Gi := psub bits (bits + s) mo a (gmul b w)
theorem mulG_bd (x y k l : Int) (hk : 0 ≤ k) (hx : -k ≤ x ∧ x ≤ k) (hy : -l ≤ y ∧ y ≤ l) : -(k * l) ≤ x * y ∧ x * y ≤ k * l := by
 have hl : 0 ≤ l := by omega
 have h1 : (x * y).natAbs ≤ (k * l).natAbs := by
  rw [Int.natAbs_mul, Int.natAbs_mul]
  exact Nat.mul_le_mul (by omega) (by omega)
 have h2 : 0 ≤ k * l := Int.mul_nonneg hk hl
 omega
theorem gmul_bd (b w : Gi) (k l : Int) (hk : 0 ≤ k) (hb : absI b.re ≤ k ∧ absI b.im ≤ k) (hw : absI w.re ≤ l ∧ absI w.im ≤ l) :
 absI (gmul b w).re ≤ 2 * (k * l) ∧ absI (gmul b w).im ≤ 2 * (k * l) := by
 have b1 := absI_le.1 hb.1
 have b2 := absI_le.1 hb.2
 have w1 := absI_le.1 hw.1
 have w2 := absI_le.1 hw.2
 have m1 := mulG_bd b.re w.re k l hk b1 w1
 have m2 := mulG_bd b.im w.im k l hk b2 w2
 have m3 := mulG_bd b.re w.im k l hk b1 w2
 have m4 := mulG_bd b.im w.re k l hk b2 w1
 unfold gmul
 generalize b.re * w.re = p1 at *
 generalize b.im * w.im = p2 at *
 generalize b.re * w.im = p3 at *
 generalize b.im * w.re = p4 at *
 generalize k * l = q at *
 exact ⟨absI_le.2 (by simp only; omega), absI_le.2 (by simp only; omega)⟩
theorem rnd_grow (x M : Int) (n : Nat) (mo : Int) (hm : mo = 0 ∨ mo = 1 ∨ mo = 2) (hx : absI x ≤ M) : (absI (rnd x n mo) - 1) * 2 ^ n < M + 1 := by
 have h := rnd_off x n mo hm
 have hp := pow_pos2 n
 have hx1 := absI_le.1 hx
 obtain ⟨h1, h2, _⟩ := h
 generalize rnd x n mo = r at *
 rw [Int.sub_mul, Int.one_mul]
 unfold absI
 split
 ·rw [Int.neg_mul]
  generalize r * 2 ^ n = t at *;generalize (2 : Int) ^ n = P at *
  omega
 ·generalize r * 2 ^ n = t at *
  generalize (2 : Int) ^ n = P at *
  omega
theorem part_grow (x p m : Int) (bits s : Nat) (mo : Int) (hm : mo = 0 ∨ mo = 1 ∨ mo = 2) (hx : absI x ≤ m) (hp : absI p ≤ 2 * (m * 2 ^ bits)) (h0 : 0 ≤ m) :
 (absI (rnd (x * 2 ^ bits + p) (bits + s) mo) - 1) * 2 ^ s ≤ 3 * m ∧ (absI (rnd (x * 2 ^ bits - p) (bits + s) mo) - 1) * 2 ^ s ≤ 3 * m := by
 have hb := pow_pos2 bits
 have hx1 := absI_le.1 hx
 have hp1 := absI_le.1 hp
 have e1 : -(m * 2 ^ bits) ≤ x * 2 ^ bits ∧ x * 2 ^ bits ≤ m * 2 ^ bits := by
  have a := Int.mul_le_mul_of_nonneg_right hx1.1 (Int.le_of_lt hb);have b := Int.mul_le_mul_of_nonneg_right hx1.2 (Int.le_of_lt hb);rw [Int.neg_mul] at a
  exact ⟨a, b⟩
 have key : ∀ t : Int, absI t ≤ 3 * (m * 2 ^ bits) → (absI (rnd t (bits + s) mo) - 1) * 2 ^ s ≤ 3 * m := by
  intro t ht
  have g := rnd_grow t _ (bits + s) mo hm ht;rw [Int.pow_add, Int.mul_comm (2 ^ bits) (2 ^ s), ← Int.mul_assoc] at g;generalize (absI (rnd t (bits + s) mo) - 1) * 2 ^ s = y at *
  have g2 : y * 2 ^ bits < (3 * m) * 2 ^ bits + 1 := by rw [Int.mul_assoc]; exact g
  refine Int.not_lt.1 fun h => ?_
  have g3 : (3 * m + 1) * 2 ^ bits ≤ y * 2 ^ bits := Int.mul_le_mul_of_nonneg_right (by omega) (Int.le_of_lt hb)
  rw [Int.add_mul, Int.one_mul] at g3
  omega
 generalize x * 2 ^ bits = X at *
 generalize hM : m * 2 ^ bits = M at *
 exact ⟨key _ (absI_le.2 (by omega)), key _ (absI_le.2 (by omega))⟩
def rootOf (ws : List Gi) (inv : Bool) (k : Nat) : Gi := if inv then (ws.getD k ⟨0, 0⟩).conj else ws.getD k ⟨0, 0⟩
def twoAt (xs ws : List Gi) (h bits s : Nat) (mo : Int) (inv : Bool) (i : Nat) : Gi :=
 if i % (2 * h) < h then pairUp bits s mo (xs.getD i ⟨0, 0⟩) (xs.getD (i + h) ⟨0, 0⟩) (rootOf ws inv (i % (2 * h) * (xs.length / (2 * h))))
 else pairDown bits s mo (xs.getD (i - h) ⟨0, 0⟩) (xs.getD i ⟨0, 0⟩) (rootOf ws inv ((i % (2 * h) - h) * (xs.length / (2 * h))))
def twoL (xs ws : List Gi) (h bits s : Nat) (mo : Int) (inv : Bool) : List Gi := (List.range xs.length).map (twoAt xs ws h bits s mo inv)
theorem twoL_len (xs ws : List Gi) (h bits s : Nat) (mo : Int) (inv : Bool) : (twoL xs ws h bits s mo inv).length = xs.length := by unfold twoL; simp
end
end Go.Proofs.YtdignnmpfkgkoaaGreat
