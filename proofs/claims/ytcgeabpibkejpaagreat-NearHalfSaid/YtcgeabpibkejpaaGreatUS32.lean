import Derived.Test.YtcgeabpibkejpaaGreatUS27
namespace Go.Proofs.YtcgeabpibkejpaaGreat
section
open Go.ChangeShapes Go.WideShapes Go.ChangeAt Go.RowKit
set_option linter.unusedVariables false
set_option linter.unusedSimpArgs false
set_option maxRecDepth 100000
theorem CellsAt.set13 {W : World} {B : Nat} {t : TypeId} {a0 a1 a2 a3 a4 a5 a6 a7 a8 a9 a10 a11 a12 : Value} (h : CellsAt W B t #[a0, a1, a2, a3, a4, a5, a6, a7, a8, a9, a10, a11, a12]) (v0 v1 v2 v3 v4 v5 v6 v7 v8 v9 v10 v11 v12 : Value) : CellsAt (((((((((((((W.setCell ⟨B, 0, none⟩ v0).setCell ⟨B, 1, none⟩ v1).setCell ⟨B, 2, none⟩ v2).setCell ⟨B, 3, none⟩ v3).setCell ⟨B, 4, none⟩ v4).setCell ⟨B, 5, none⟩ v5).setCell ⟨B, 6, none⟩ v6).setCell ⟨B, 7, none⟩ v7).setCell ⟨B, 8, none⟩ v8).setCell ⟨B, 9, none⟩ v9).setCell ⟨B, 10, none⟩ v10).setCell ⟨B, 11, none⟩ v11).setCell ⟨B, 12, none⟩ v12) B t #[v0, v1, v2, v3, v4, v5, v6, v7, v8, v9, v10, v11, v12] := by
 have := (((((((((((((h.set 0 v0).set 1 v1).set 2 v2).set 3 v3).set 4 v4).set 5 v5).set 6 v6).set 7 v7).set 8 v8).set 9 v9).set 10 v10).set 11 v11).set 12 v12)
 simpa using this
theorem apart13 {W : World} {v : Value} {xs : List Gi} {B : Nat} {t : TypeId} {p0 p3 p10 : Option Addr} {n0 n3 n10 c0 c3 c10 : Nat} {a1 a4 a5 a6 a7 a8 a11 a12 : Value} {b c : Bool} (hl : 3 ≤ xs.length) (h : CxsAt W v xs) (hc : CellsAt W B t #[.slice p0 n0 c0, a1, .bool b, .slice p3 n3 c3, a4, a5, a6, a7, a8, .bool c, .slice p10 n10 c10, a11, a12]) : Apart v xs B := by
 rintro b0 o cap rfl hne rfl
 obtain ⟨b', o', cap', e, _, _, hx⟩ := h.at hne
 cases e
 obtain ⟨x0, h0⟩ := get_of_lt (show 0 < xs.length by omega)
 obtain ⟨x1, h1⟩ := get_of_lt (show 1 < xs.length by omega)
 obtain ⟨x2, h2⟩ := get_of_lt (show 2 < xs.length by omega)
 have e0 := hx 0 x0 h0
 have e1 := hx 1 x1 h1
 have e2 := hx 2 x2 h2
 rw [hc.cell, hc.cell] at e0 e1 e2
 have ho : o = 0 ∨ o = 1 ∨ o = 2 ∨ o = 3 ∨ o = 4 ∨ o = 5 ∨ o = 6 ∨ o = 7 ∨ o = 8 ∨ 9 ≤ o := by omega
 rcases ho with rfl | rfl | rfl | rfl | rfl | rfl | rfl | rfl | rfl | ho
 all_goals first | (simp at e0; done) | (simp at e1; done) | (simp at e2; done) | skip
 rw [Array.getElem?_eq_none (show _ ≤ o + 2 * 2 by simp; omega)] at e2
 cases e2.1
set_option maxHeartbeats 2000000 in
theorem nUp_no (p : Option Addr) (n cap : Nat) (xs : List Gi) (fo lo ke sc mo : Int) (iv : Bool) (y : Int) (hy : ¬ y = 0) (hyb : (y == 0) = false) (HR : Hid (∀ W, CxsAt W (.slice p n cap) xs → Calls Tryz.prog 17 #[.slice p n cap, .agg #[.int .i64 fo, .int .i64 lo, .int .i64 ke, .int .i64 sc, .int .i64 mo, .bool iv]] W fun e w' => e = .returned (.tuple #[.agg #[.slice none 0 0, .int .i64 0, .bool false, .slice none 0 0], .int .i64 y]) ∧ Gr W w')) (w : World) (hv : CxsAt w (.slice p n cap) xs) :
 Calls Tryz.prog 6 #[.slice p n cap, .agg #[.int .i64 fo, .int .i64 lo, .int .i64 ke, .int .i64 sc, .int .i64 mo, .bool iv]] w fun e w' => e = .returned (.tuple #[.int .i64 0, .int .i64 y]) ∧ Gr w w' := by
 go_enter Tryz.func6, Tryz.ntmps6
 go_wp2_with fail
 obtain ⟨u0, hU⟩ : ∃ uu, uu = (w.alloc (.cells #[.int .i64 fo, .int .i64 lo, .int .i64 ke, .int .i64 sc, .int .i64 mo, .bool iv] 24)) := ⟨_, rfl⟩
 have ⟨gu, R0⟩ := lay1 hU
 rw [← hU]
 clear hU
 have lp := R0.lt
 obtain ⟨cp0, cp1, cp2, cp3, cp4, cp5⟩ := R0.t6
 go_wp2_with fail
 clear cp0 cp1 cp2 cp3 cp4 cp5
 refine (HR.out _ (hv.gr gu)).mono ?_
 rintro e w1 ⟨rfl, g1⟩
 have ⟨Fp_1, lp_1⟩ := CellsAt.gl (R0) g1
 have z1 := (gu).trans g1
 clear R0 gu g1
 go_wp2_with fail
 go_ret2
 exact ⟨rfl, (z1).alloc _ _⟩
set_option maxHeartbeats 2000000 in
theorem nUp_zero (p : Option Addr) (n cap : Nat) (xs : List Gi) (fo lo ke sc mo : Int) (iv : Bool) (rx : Int) (rs : Bool) (zs : List Gi) (ss : List Int) (hs : ¬ sc = 1) (hsb : (sc == 1) = false) (HR : Hid (∀ W, CxsAt W (.slice p n cap) xs → Calls Tryz.prog 17 #[.slice p n cap, .agg #[.int .i64 fo, .int .i64 lo, .int .i64 ke, .int .i64 sc, .int .i64 mo, .bool iv]] W fun e w' => ∃ vx vs, e = .returned (.tuple #[.agg #[vx, .int .i64 rx, .bool rs, vs], .int .i64 0]) ∧ CxsAt w' vx zs ∧ NumsAt w' vs ss ∧ Gr W w')) (w : World) (hv : CxsAt w (.slice p n cap) xs) :
 Calls Tryz.prog 6 #[.slice p n cap, .agg #[.int .i64 fo, .int .i64 lo, .int .i64 ke, .int .i64 sc, .int .i64 mo, .bool iv]] w fun e w' => e = .returned (.tuple #[.int .i64 0, .int .i64 0]) ∧ Gr w w' := by
 go_enter Tryz.func6, Tryz.ntmps6
 go_wp2_with fail
 obtain ⟨u0, hU⟩ : ∃ uu, uu = (w.alloc (.cells #[.int .i64 fo, .int .i64 lo, .int .i64 ke, .int .i64 sc, .int .i64 mo, .bool iv] 24)) := ⟨_, rfl⟩
 have ⟨gu, R0⟩ := lay1 hU
 rw [← hU]
 clear hU
 have lp := R0.lt
 obtain ⟨cp0, cp1, cp2, cp3, cp4, cp5⟩ := R0.t6
 go_wp2_with fail
 clear cp0 cp1 cp2 cp3 cp4 cp5
 refine (HR.out _ (hv.gr gu)).mono ?_
 rintro e w1 ⟨vx, vs, rfl, hx1, hs1, g1⟩
 have ⟨Fp_1, lp_1⟩ := CellsAt.gl (R0) g1
 have z1 := (gu).trans g1
 clear R0 gu g1
 obtain ⟨xp, xc, rfl⟩ := hx1.len
 obtain ⟨tp, tc, rfl⟩ := hs1.len
 clear hx1 hs1
 obtain ⟨cp0, cp1, cp2, cp3, cp4, cp5⟩ := Fp_1.t6
 go_wp2_with fail
 clear cp0 cp1 cp2 cp3 cp4 cp5
 go_ret2
 exact ⟨rfl, (z1).alloc _ _⟩
set_option maxHeartbeats 2000000 in
theorem nUp_yes (p : Option Addr) (n cap : Nat) (xs : List Gi) (fo lo ke mo : Int) (iv : Bool) (rx : Int) (rs : Bool) (zs : List Gi) (ss : List Int) (gm u : Int) (HR : Hid (∀ W, CxsAt W (.slice p n cap) xs → Calls Tryz.prog 17 #[.slice p n cap, .agg #[.int .i64 fo, .int .i64 lo, .int .i64 ke, .int .i64 1, .int .i64 mo, .bool iv]] W fun e w' => ∃ vx vs, e = .returned (.tuple #[.agg #[vx, .int .i64 rx, .bool rs, vs], .int .i64 0]) ∧ CxsAt w' vx zs ∧ NumsAt w' vs ss ∧ Gr W w'))
 (HM : Hid (∀ W, CxsAt W (.slice p n cap) xs → Calls Tryz.prog 18 #[.slice p n cap] W fun e w' => e = .returned (.tuple #[.int .i64 gm, .int .i64 0]) ∧ Gr W w')) (HO : CR 19 #[.int .i64 gm, .int .i64 fo] (.tuple #[.int .i64 u, .int .i64 0])) (w : World) (hv : CxsAt w (.slice p n cap) xs) :
 Calls Tryz.prog 6 #[.slice p n cap, .agg #[.int .i64 fo, .int .i64 lo, .int .i64 ke, .int .i64 1, .int .i64 mo, .bool iv]] w fun e w' => e = .returned (.tuple #[.int .i64 u, .int .i64 0]) ∧ Gr w w' := by
 go_enter Tryz.func6, Tryz.ntmps6
 go_wp2_with fail
 obtain ⟨u0, hU⟩ : ∃ uu, uu = (w.alloc (.cells #[.int .i64 fo, .int .i64 lo, .int .i64 ke, .int .i64 1, .int .i64 mo, .bool iv] 24)) := ⟨_, rfl⟩
 have ⟨gu, R0⟩ := lay1 hU
 rw [← hU]
 clear hU
 have lp := R0.lt
 obtain ⟨cp0, cp1, cp2, cp3, cp4, cp5⟩ := R0.t6
 go_wp2_with fail
 clear cp0 cp1 cp2 cp3 cp4 cp5
 refine (HR.out _ (hv.gr gu)).mono ?_
 rintro e w1 ⟨vx, vs, rfl, hx1, hs1, g1⟩
 have ⟨Fp_1, lp_1⟩ := CellsAt.gl (R0) g1
 have z1 := (gu).trans g1
 clear R0 gu g1
 obtain ⟨xp, xc, rfl⟩ := hx1.len
 obtain ⟨tp, tc, rfl⟩ := hs1.len
 clear hx1 hs1
 obtain ⟨cp0, cp1, cp2, cp3, cp4, cp5⟩ := Fp_1.t6
 go_wp2_with fail
 clear cp0 cp1 cp2 cp3 cp4 cp5
 obtain ⟨u2, hqp1⟩ : ∃ zz, zz = (w1.alloc (.cells #[.slice xp zs.length xc, .int .i64 rx, .bool rs, .slice tp ss.length tc] 27)) := ⟨_, rfl⟩
 have Yp_p1 : CellsAt u2 (w.heap.size) 24 #[.int .i64 fo, .int .i64 lo, .int .i64 ke, .int .i64 1, .int .i64 mo, .bool iv] := by rw [hqp1]; first | exact (Fp_1).alloc _ | simpa using (Fp_1).alloc _
 have Yb_p1 : CellsAt u2 (w1.heap.size) 27 #[.slice xp zs.length xc, .int .i64 rx, .bool rs, .slice tp ss.length tc] := by rw [hqp1]; first | exact CellsAt.new w1 27 #[.slice xp zs.length xc, .int .i64 rx, .bool rs, .slice tp ss.length tc] | simpa using CellsAt.new w1 27 #[.slice xp zs.length xc, .int .i64 rx, .bool rs, .slice tp ss.length tc]
 have yp1 : Gr w u2 := by rw [hqp1]; exact (z1).alloc _ _
 rw [← hqp1]
 clear hqp1
 refine (HM.out _ (hv.gr yp1)).mono ?_
 rintro e w2 ⟨rfl, g2⟩
 have ⟨Fp_2, lp_2⟩ := CellsAt.gl (Yp_p1) g2
 have ⟨Fb_2, lb_2⟩ := CellsAt.gl (Yb_p1) g2
 have z2 := (yp1).trans g2
 clear Yp_p1 Yb_p1 yp1 g2
 obtain ⟨cp0, cp1, cp2, cp3, cp4, cp5⟩ := Fp_2.t6
 go_wp2_with fail
 clear cp0 cp1 cp2 cp3 cp4 cp5
 refine (HO.out _).mono ?_
 rintro e w3 ⟨rfl, g3⟩
 have ⟨Fp_3, lp_3⟩ := CellsAt.gl (Fp_2) g3
 have ⟨Fb_3, lb_3⟩ := CellsAt.gl (Fb_2) g3
 have z3 := (z2).trans g3
 clear Fp_2 Fb_2 z2 g3
 go_wp2_with fail
 go_ret2
 exact ⟨rfl, z3⟩
set_option maxHeartbeats 4000000 in
theorem nAre_of (v : Value) (xs : List Gi) (fo : Int) (c : Int → Bool) (K : Int → Int) (g : Nat → Bool) (hg0 : g 0 = true) (HN : Hid (∀ k (x : Gi), xs[k]? = some x → g k = true → (c x.re = false ∧ c x.im = false → g (k + 1) = true) ∧ (c x.re = true ∨ c x.im = true → g xs.length = false)))
 (HC : Hid (∀ x W, Calls Tryz.prog 102 #[.int .i64 x, .int .i64 fo] W fun e w' => e = .returned (.tuple #[.int .i64 (K x), .bool (c x), .int .i64 0]) ∧ Gr W w')) (w : World) (hv : CxsAt w v xs) :
 Calls Tryz.prog 77 #[v, .int .i64 fo] w fun e w' => e = .returned (.bool (g xs.length)) ∧ Gr w w' := by
 by_cases hx0 : xs = []
 ·subst hx0
  obtain ⟨p, cap, rfl⟩ := hv.len
  rw [show ([] : List Gi).length = 0 from rfl, hg0]
  clear hv HN
  go_enter Tryz.func77, Tryz.ntmps77
  go_wp2_with fail
  go_loopw [15] (fun i wr => i = .int .i64 0 ∧ Gr w wr) (fun i _ => 0 - (intOf i).toNat)
  case atStart => exact ⟨rfl, Gr.refl _⟩
  case round =>
   obtain ⟨rfl, hg⟩ := hrel
   go_wp2_with fail
   go_ret
   exact ⟨rfl, hg⟩
 ·obtain ⟨b, o, cap, rfl, hlen, hb, hc⟩ := hv.at hx0
  have HCC := Lib.hid hc
  clear hc hv hx0
  go_enter Tryz.func77, Tryz.ntmps77
  go_wp2_with fail
  go_loopw [15] (fun i wr => ∃ k : Nat, k ≤ xs.length ∧ i = .int .i64 k ∧ g k = true ∧ Gr w wr) (fun i _ => xs.length - (intOf i).toNat)
  case atStart => exact ⟨0, Nat.zero_le _, rfl, hg0, Gr.refl _⟩
  case round =>
   obtain ⟨k, hk, rfl, hp, hg⟩ := hrel
   have HPP := Lib.hid hp
   clear hp hg0
   by_cases hlt : k < xs.length
   ·obtain ⟨x, hx⟩ := get_of_lt hlt
    have h1 := (hg.cell (p := ⟨b, o + k * 2, none⟩) hb).trans (HCC.out k x hx).1
    have h2 := (hg.cell (p := ⟨b, o + k * 2 + 1, none⟩) hb).trans (HCC.out k x hx).2
    have hlI : (k : Int) < (xs.length : Int) := by omega
    have hbl : b < wr.heap.size := Nat.lt_of_lt_of_le hb hg.size
    obtain ⟨re, im⟩ := x
    simp only at h1 h2
    have HXX := Lib.hid hx
    clear hx
    go_wp2_with fail
    obtain ⟨ua, hqqp1⟩ : ∃ zz, zz = (wr.alloc (.cells #[.int .i64 re, .int .i64 im] 58)) := ⟨_, rfl⟩
    have Ya_qp1 : CellsAt ua (wr.heap.size) 58 #[.int .i64 re, .int .i64 im] := by rw [hqqp1]; first | exact CellsAt.new wr 58 #[.int .i64 re, .int .i64 im] | simpa using CellsAt.new wr 58 #[.int .i64 re, .int .i64 im]
    have yqp1 : Gr w ua := by rw [hqqp1]; exact (hg).alloc _ _
    rw [← hqqp1]
    clear hqqp1
    refine (HC.out re _).mono ?_
    rintro e wq1 ⟨rfl, gq1⟩
    have ⟨Fa_q1, la_q1⟩ := CellsAt.gl (Ya_qp1) gq1
    have zq1 := (yqp1).trans gq1
    clear Ya_qp1 yqp1 gq1
    obtain ⟨b0, hb0⟩ : ∃ b, c re = b := ⟨_, rfl⟩
    rw [hb0]
    have B0 := Lib.hid hb0
    clear hb0
    obtain ⟨ca0, ca1⟩ := Fa_q1.t2
    go_wp2_with fail
    clear ca0 ca1
    refine (HC.out im _).mono ?_
    rintro e wq2 ⟨rfl, gq2⟩
    have ⟨Fa_q2, la_q2⟩ := CellsAt.gl (Fa_q1) gq2
    have zq2 := (zq1).trans gq2
    clear Fa_q1 zq1 gq2
    obtain ⟨b1, hb1⟩ : ∃ b, c im = b := ⟨_, rfl⟩
    rw [hb1]
    have B1 := Lib.hid hb1
    clear hb1
    cases b0
    ·cases b1
     ·go_wp2_with fail
      go_roundw
      case rel => exact ⟨k + 1, by omega, by go_num, (HN.out k ⟨re, im⟩ HXX.out HPP.out).1 ⟨B0.out, B1.out⟩, zq2⟩
      case measure => simp [intOf]; omega
     ·go_wp2_with fail
      go_ret
      exact ⟨by rw [(HN.out k ⟨re, im⟩ HXX.out HPP.out).2 (by simp [B1.out])]; rfl, zq2⟩
    ·go_wp2_with fail
     go_ret
     exact ⟨by rw [(HN.out k ⟨re, im⟩ HXX.out HPP.out).2 (by simp [B0.out])]; rfl, zq2⟩
   ·obtain rfl : k = xs.length := by omega
    have hlI : ¬ (xs.length : Int) < (xs.length : Int) := by omega
    go_wp2_with fail
    go_ret
    exact ⟨by rw [HPP.out]; rfl, hg⟩
theorem run_max2 (ts : Array TypeId) (t : TypeId) (a b N : Int) (h : (if b > a then b else a) = N) (w : World) : (Builtin.max_ ts t #[.int .i64 a, .int .i64 b]).run Tryz.prog w = .ok (.int .i64 N) w := by
 rw [← h]
 simp [Builtin.max_, Builtin.max2]
theorem run_max3 (ts : Array TypeId) (t : TypeId) (a b c N : Int) (h : (if c > (if b > a then b else a) then c else (if b > a then b else a)) = N) (w : World) : (Builtin.max_ ts t #[.int .i64 a, .int .i64 b, .int .i64 c]).run Tryz.prog w = .ok (.int .i64 N) w := by
 rw [← h]
 simp [Builtin.max_, Builtin.max2]
theorem nApart_of (a b d e N : Int) (hd : wrap64 (a - b) = d) (he : wrap64 (b - a) = e) (h : (if e > d then e else d) = N) (w : World) :
 Calls Tryz.prog 51 #[.int .i64 a, .int .i64 b] w fun e w' => e = .returned (.int .i64 N) ∧ w' = w := by
 have hmx := fun ts t => run_max2 ts t d e N h
 clear h
 go_enter Tryz.func51, Tryz.ntmps51
 go_wp2_with fail
 go_ret
 exact ⟨rfl, rfl⟩
set_option maxHeartbeats 4000000 in
theorem nView_ok (p px sp : Option Addr) (n cap cx q cl : Nat) (xs ys : List Gi) (ls : List Int) (fo lo ke sc mo ex : Int) (iv sa : Bool) (u un l P : Int) (zs : List Gi) (hz3 : 3 ≤ zs.length) (u0 : 0 ≤ u) (u1 : u ≤ 31) (h1 : ¬ ex < -u) (h2 : ¬ 20 - u < ex) (hun : -u = un) (hP : ex + u = P) (hmb : ((n : Int) == (n : Int)) = true) (HU : Hid (∀ W, CxsAt W (.slice p n cap) xs → Calls Tryz.prog 6 #[.slice p n cap, .agg #[.int .i64 fo, .int .i64 lo, .int .i64 ke, .int .i64 sc, .int .i64 mo, .bool iv]] W fun e w' => e = .returned (.tuple #[.int .i64 u, .int .i64 0]) ∧ Gr W w')) (HA : Hid (∀ W, CxsAt W (.slice px n cx) ys → Calls Tryz.prog 77 #[.slice px n cx, .int .i64 fo] W fun e w' => e = .returned (.bool true) ∧ Gr W w')) (HB : Hid (∀ W, NumsAt W (.slice sp q cl) ls → Calls Tryz.prog 78 #[.agg #[.int .i64 fo, .int .i64 lo, .int .i64 ke, .int .i64 sc, .int .i64 mo, .bool iv], .slice sp q cl] W fun e w' => e = .returned (.tuple #[.int .i64 l, .int .i64 0]) ∧ Gr W w')) (HS : Hid (∀ W, CxsAt W (.slice p n cap) xs → Calls Tryz.prog 45 #[.slice p n cap, .int .i64 un, .int .i64 mo] W fun e w' => ∃ v, e = .returned (.tuple #[v, .int .i64 0]) ∧ CxsAt w' v zs ∧ Gr W w')) (w : World) (hv : CxsAt w (.slice p n cap) xs) (hy : CxsAt w (.slice px n cx) ys) (hl : NumsAt w (.slice sp q cl) ls) :
 Calls Tryz.prog 49 #[.slice p n cap, .agg #[.int .i64 fo, .int .i64 lo, .int .i64 ke, .int .i64 sc, .int .i64 mo, .bool iv], .agg #[.slice px n cx, .int .i64 ex, .bool sa, .slice sp q cl]] w fun e w' => ∃ vz, e = .returned (.tuple #[.agg #[.slice px n cx, .int .i64 ex, .bool sa, .slice sp q cl, .int .i64 fo, .int .i64 lo, .int .i64 ke, .int .i64 sc, .int .i64 mo, .bool iv, vz, .int .i64 P, .int .i64 l], .int .i64 0]) ∧ CxsAt w' vz zs ∧ Gr w w' := by
 have VX := Lib.hid hv
 have VY := Lib.hid hy
 have VL := Lib.hid hl
 clear hv hy hl
 go_enter Tryz.func49, Tryz.ntmps49
 go_wp2_with fail
 obtain ⟨u0, hU⟩ : ∃ uu, uu = (((w.alloc (.cells #[.int .i64 fo, .int .i64 lo, .int .i64 ke, .int .i64 sc, .int .i64 mo, .bool iv] 24)).alloc (.cells #[.slice px n cx, .int .i64 ex, .bool sa, .slice sp q cl] 27)).alloc (.cells #[.slice none 0 0, .int .i64 0, .bool false, .slice none 0 0, .int .i64 0, .int .i64 0, .int .i64 0, .int .i64 0, .int .i64 0, .bool false, .slice none 0 0, .int .i64 0, .int .i64 0] 49)) := ⟨_, rfl⟩
 have ⟨gu, R0, R1, R2⟩ := lay3 hU
 rw [← hU]
 clear hU
 have lp := R0.lt
 have lb := R1.lt
 have lr := R2.lt
 obtain ⟨cp0, cp1, cp2, cp3, cp4, cp5⟩ := R0.t6
 go_wp2_with fail
 clear cp0 cp1 cp2 cp3 cp4 cp5
 refine (HU.out _ (VX.out.gr gu)).mono ?_
 rintro e w1 ⟨rfl, g1⟩
 have ⟨Fp_1, lp_1⟩ := CellsAt.gl (R0) g1
 have ⟨Fb_1, lb_1⟩ := CellsAt.gl (R1) g1
 have ⟨Fr_1, lr_1⟩ := CellsAt.gl (R2) g1
 have z1 := (gu).trans g1
 clear R0 R1 R2 gu g1
 obtain ⟨cb0, cb1, cb2, cb3⟩ := Fb_1.t4
 obtain ⟨cp0, cp1, cp2, cp3, cp4, cp5⟩ := Fp_1.t6
 go_wp2_with fail
 clear cb0 cb1 cb2 cb3 cp0 cp1 cp2 cp3 cp4 cp5
 refine (HA.out _ (VY.out.gr (z1))).mono ?_
 rintro e w2 ⟨rfl, g2⟩
 have ⟨Fp_2, lp_2⟩ := CellsAt.gl (Fp_1) g2
 have ⟨Fb_2, lb_2⟩ := CellsAt.gl (Fb_1) g2
 have ⟨Fr_2, lr_2⟩ := CellsAt.gl (Fr_1) g2
 have z2 := (z1).trans g2
 clear Fp_1 Fb_1 Fr_1 z1 g2
 obtain ⟨cb0, cb1, cb2, cb3⟩ := Fb_2.t4
 obtain ⟨cp0, cp1, cp2, cp3, cp4, cp5⟩ := Fp_2.t6
 go_wp2_with fail
 clear cb0 cb1 cb2 cb3 cp0 cp1 cp2 cp3 cp4 cp5
 refine (HB.out _ (VL.out.gr (z2))).mono ?_
 rintro e w3 ⟨rfl, g3⟩
 have ⟨Fp_3, lp_3⟩ := CellsAt.gl (Fp_2) g3
 have ⟨Fb_3, lb_3⟩ := CellsAt.gl (Fb_2) g3
 have ⟨Fr_3, lr_3⟩ := CellsAt.gl (Fr_2) g3
 have z3 := (z2).trans g3
 clear Fp_2 Fb_2 Fr_2 z2 g3
 obtain ⟨cp0, cp1, cp2, cp3, cp4, cp5⟩ := Fp_3.t6
 go_wp2_with fail
 clear cp0 cp1 cp2 cp3 cp4 cp5
 refine (HS.out _ (VX.out.gr (z3))).mono ?_
 rintro e w4 ⟨vz, rfl, hz, g4⟩
 have ⟨Fp_4, lp_4⟩ := CellsAt.gl (Fp_3) g4
 have ⟨Fb_4, lb_4⟩ := CellsAt.gl (Fb_3) g4
 have ⟨Fr_4, lr_4⟩ := CellsAt.gl (Fr_3) g4
 have z4 := (z3).trans g4
 clear Fp_3 Fb_3 Fr_3 z3 g4
 obtain ⟨zp, zc, rfl⟩ := hz.len
 obtain ⟨cp0, cp1, cp2, cp3, cp4, cp5⟩ := Fp_4.t6
 obtain ⟨cb0, cb1, cb2, cb3⟩ := Fb_4.t4
 have mr0 := CellsAt.frozen (Fr_4) 0
 have cr0 := Fr_4.at 0
 have mr1 := CellsAt.frozen (Fr_4) 1
 have cr1 := Fr_4.at 1
 have mr2 := CellsAt.frozen (Fr_4) 2
 have cr2 := Fr_4.at 2
 have mr3 := CellsAt.frozen (Fr_4) 3
 have cr3 := Fr_4.at 3
 have mr4 := CellsAt.frozen (Fr_4) 4
 have cr4 := Fr_4.at 4
 have mr5 := CellsAt.frozen (Fr_4) 5
 have cr5 := Fr_4.at 5
 have mr6 := CellsAt.frozen (Fr_4) 6
 have cr6 := Fr_4.at 6
 have mr7 := CellsAt.frozen (Fr_4) 7
 have cr7 := Fr_4.at 7
 have mr8 := CellsAt.frozen (Fr_4) 8
 have cr8 := Fr_4.at 8
 have mr9 := CellsAt.frozen (Fr_4) 9
 have cr9 := Fr_4.at 9
 have mr10 := CellsAt.frozen (Fr_4) 10
 have cr10 := Fr_4.at 10
 have mr11 := CellsAt.frozen (Fr_4) 11
 have cr11 := Fr_4.at 11
 have mr12 := CellsAt.frozen (Fr_4) 12
 have cr12 := Fr_4.at 12
 go_wp2_with fail
 clear cp0 cp1 cp2 cp3 cp4 cp5 cb0 cb1 cb2 cb3 mr0 cr0 mr1 cr1 mr2 cr2 mr3 cr3 mr4 cr4 mr5 cr5 mr6 cr6 mr7 cr7 mr8 cr8 mr9 cr9 mr10 cr10 mr11 cr11 mr12 cr12
 have ap := apart13 hz3 hz Fr_4
 have hzs := (CxsAt.set (CxsAt.set (CxsAt.set (CxsAt.set (CxsAt.set (CxsAt.set (CxsAt.set (CxsAt.set (CxsAt.set (CxsAt.set (CxsAt.set (CxsAt.set (CxsAt.set hz ap 0 (.slice px n cx)) ap 1 (.int .i64 ex)) ap 2 (.bool sa)) ap 3 (.slice sp q cl)) ap 4 (.int .i64 fo)) ap 5 (.int .i64 lo)) ap 6 (.int .i64 ke)) ap 7 (.int .i64 sc)) ap 8 (.int .i64 mo)) ap 9 (.bool iv)) ap 10 (.slice zp zs.length zc)) ap 11 (.int .i64 P)) ap 12 (.int .i64 l))
 obtain ⟨ufz, hqf⟩ : ∃ zz, zz = (((((((((((((w4.setCell ⟨w.heap.size + 1 + 1, 0, none⟩ (.slice px n cx)).setCell ⟨w.heap.size + 1 + 1, 1, none⟩ (.int .i64 ex)).setCell ⟨w.heap.size + 1 + 1, 2, none⟩ (.bool sa)).setCell ⟨w.heap.size + 1 + 1, 3, none⟩ (.slice sp q cl)).setCell ⟨w.heap.size + 1 + 1, 4, none⟩ (.int .i64 fo)).setCell ⟨w.heap.size + 1 + 1, 5, none⟩ (.int .i64 lo)).setCell ⟨w.heap.size + 1 + 1, 6, none⟩ (.int .i64 ke)).setCell ⟨w.heap.size + 1 + 1, 7, none⟩ (.int .i64 sc)).setCell ⟨w.heap.size + 1 + 1, 8, none⟩ (.int .i64 mo)).setCell ⟨w.heap.size + 1 + 1, 9, none⟩ (.bool iv)).setCell ⟨w.heap.size + 1 + 1, 10, none⟩ (.slice zp zs.length zc)).setCell ⟨w.heap.size + 1 + 1, 11, none⟩ (.int .i64 P)).setCell ⟨w.heap.size + 1 + 1, 12, none⟩ (.int .i64 l)) := ⟨_, rfl⟩
 rw [← hqf] at hzs
 have Yr : CellsAt ufz (w.heap.size + 1 + 1) 49 #[.slice px n cx, .int .i64 ex, .bool sa, .slice sp q cl, .int .i64 fo, .int .i64 lo, .int .i64 ke, .int .i64 sc, .int .i64 mo, .bool iv, .slice zp zs.length zc, .int .i64 P, .int .i64 l] := by rw [hqf]; first | exact CellsAt.set13 (Fr_4) _ _ _ _ _ _ _ _ _ _ _ _ _ | simpa using CellsAt.set13 (Fr_4) _ _ _ _ _ _ _ _ _ _ _ _ _
 have yz : Gr w ufz := by rw [hqf]; exact (((((((((((((z4).setCell (by first | omega | (simp only; omega)) _).setCell (by first | omega | (simp only; omega)) _).setCell (by first | omega | (simp only; omega)) _).setCell (by first | omega | (simp only; omega)) _).setCell (by first | omega | (simp only; omega)) _).setCell (by first | omega | (simp only; omega)) _).setCell (by first | omega | (simp only; omega)) _).setCell (by first | omega | (simp only; omega)) _).setCell (by first | omega | (simp only; omega)) _).setCell (by first | omega | (simp only; omega)) _).setCell (by first | omega | (simp only; omega)) _).setCell (by first | omega | (simp only; omega)) _).setCell (by first | omega | (simp only; omega)) _
 rw [← hqf]
 clear hqf
 have cr0 := CellsAt.cell Yr 0
 have cr1 := CellsAt.cell Yr 1
 have cr2 := CellsAt.cell Yr 2
 have cr3 := CellsAt.cell Yr 3
 have cr4 := CellsAt.cell Yr 4
 have cr5 := CellsAt.cell Yr 5
 have cr6 := CellsAt.cell Yr 6
 have cr7 := CellsAt.cell Yr 7
 have cr8 := CellsAt.cell Yr 8
 have cr9 := CellsAt.cell Yr 9
 have cr10 := CellsAt.cell Yr 10
 have cr11 := CellsAt.cell Yr 11
 have cr12 := CellsAt.cell Yr 12
 simp only [getS] at cr0 cr1 cr2 cr3 cr4 cr5 cr6 cr7 cr8 cr9 cr10 cr11 cr12
 refine bodyPost_ret (v := .tuple #[.agg #[.slice px n cx, .int .i64 ex, .bool sa, .slice sp q cl, .int .i64 fo, .int .i64 lo, .int .i64 ke, .int .i64 sc, .int .i64 mo, .bool iv, .slice zp zs.length zc, .int .i64 P, .int .i64 l], .int .i64 0]) ?_ rfl ⟨_, rfl, hzs, yz⟩
 simp [results, Tryz.results49, go_sem, *]
end
section
set_option linter.unusedVariables false
set_option linter.unusedSimpArgs false
set_option maxRecDepth 100000
def isum (f : Nat → Int) : Nat → Int
 | 0 => 0
 | m + 1 => isum f m + f m
theorem isum_congr {f g : Nat → Int} : ∀ {m : Nat}, (∀ i, i < m → f i = g i) → isum f m = isum g m
 | 0, _ => rfl
 | m + 1, h => by
   unfold isum
   rw [isum_congr (m := m) (fun i hi => h i (by omega)), h m (by omega)]
theorem isum_sub (f g : Nat → Int) : ∀ m, isum (fun i => f i - g i) m = isum f m - isum g m
 | 0 => rfl
 | m + 1 => by
   simp only [isum]
   rw [isum_sub f g m]
   omega
theorem isum_neg (f : Nat → Int) (m : Nat) : isum (fun i => -f i) m = -isum f m := by
 have h := isum_sub (fun _ => 0) f m
 have e : isum (fun _ => (0 : Int)) m = 0 := by
  induction m with
  | zero => rfl
  | succ m ih => unfold isum; rw [ih (by rw [isum_sub])]; rfl
 rw [e] at h
 simpa using h
theorem isum_bd (f : Nat → Int) (l : Int) : ∀ m, (∀ i, i < m → -l ≤ f i ∧ f i ≤ l) → -(m * l) ≤ isum f m ∧ isum f m ≤ m * l
 | 0, _ => by simp [isum]
 | m + 1, h => by
   have h1 := isum_bd f l m (fun i hi => h i (by omega))
   have h2 := h m (by omega)
   have e : ((m + 1 : Nat) : Int) * l = m * l + l := by grind
   rw [e]
   simp only [isum]
   omega
def wv (n : Nat) (iv : Bool) (i : Nat) : Gi := if iv then (rootG n i 16).conj else rootG n i 16
theorem rootG_mod (n : Nat) (i : Nat) (s : Nat) : rootG n ((i % n : Nat) : Int) s = rootG n i s := by
 unfold rootG
 rw [show (((i % n : Nat) : Int) % (n : Int)) = (i : Int) % n by rw [Int.natCast_emod, Int.emod_emod]]
theorem wv_again (n : Nat) (hn : IsLen n) (iv : Bool) (i q : Nat) : wv n iv (i + n * q) = wv n iv i := by
 have h : rootG n ((i + n * q : Nat) : Int) 16 = rootG n i 16 := by
  rw [← rootG_mod n (i + n * q), Nat.add_mul_mod_self_left, rootG_mod]
 unfold wv
 rw [h]
def gneg (a : Gi) : Gi := ⟨-a.re, -a.im⟩
theorem wv_half (n : Nat) (hn : IsLen n) (iv : Bool) (i : Nat) : wv n iv (i + n / 2) = gneg (wv n iv i) := by
 have h : rootG n ((i + n / 2 : Nat) : Int) 16 = gneg (rootG n i 16) := by
  have e : ((i + n / 2 : Nat) : Int) = (i : Int) + (n : Int) / 4 + (n : Int) / 4 := by unfold IsLen at hn; omega
  rw [e, root_quarter n _ hn, root_quarter n _ hn]
  simp [Gi.turn, gneg]
 unfold wv
 rw [h]
 cases iv <;> simp [gneg, Gi.conj]
theorem wv_zero (n : Nat) (hn : IsLen n) (iv : Bool) : wv n iv 0 = ⟨1099511627776, 0⟩ := by
 have h := root_zero n hn 16 (by omega) (by omega)
 unfold wv
 rw [show ((0 : Nat) : Int) = 0 from rfl, h]
 cases iv <;> rfl
def termG (n : Nat) (xs : List Gi) (iv : Bool) (k j : Nat) : Gi := gmul (xs.getD j ⟨0, 0⟩) (wv n iv (j * k))
def sumG (n : Nat) (xs : List Gi) (iv : Bool) (k m : Nat) : Gi := ⟨isum (fun j => (termG n xs iv k j).re) m, isum (fun j => (termG n xs iv k j).im) m⟩
def binG (n : Nat) (xs : List Gi) (iv : Bool) (k : Nat) : Gi := ⟨(sumG n xs iv k n).re / 4294967296, (sumG n xs iv k n).im / 4294967296⟩
theorem wd_times_bd (a b : Int) (ha : -2147483648 ≤ a ∧ a ≤ 2147483648) (hb : -1099511627776 ≤ b ∧ b ≤ 1099511627776) :
 (-1048576 ≤ b / 1048576 ∧ b / 1048576 ≤ 1048576) ∧ (-2251799813685248 ≤ a * (b / 1048576) ∧ a * (b / 1048576) ≤ 2251799813685248) ∧ (-2251799813685248 ≤ a * (b - b / 1048576 * 1048576) ∧ a * (b - b / 1048576 * 1048576) ≤ 2251799813685248) ∧ (-2361183241434822606848 ≤ a * b ∧ a * b ≤ 2361183241434822606848) := by
 have h1 : -1048576 ≤ b / 1048576 ∧ b / 1048576 ≤ 1048576 := by omega
 have h2 : -1048576 ≤ b - b / 1048576 * 1048576 ∧ b - b / 1048576 * 1048576 ≤ 1048576 := by omega
 exact ⟨h1, mulG_bd a _ 2147483648 1048576 (by decide) ha h1, mulG_bd a _ 2147483648 1048576 (by decide) ha h2, mulG_bd a b 2147483648 1099511627776 (by decide) ha hb⟩
theorem part_in {l : Int} {xs : List Gi} (h : allIn l xs = true) (h0 : 0 ≤ l) (j : Nat) : (-l ≤ (xs.getD j ⟨0, 0⟩).re ∧ (xs.getD j ⟨0, 0⟩).re ≤ l) ∧ (-l ≤ (xs.getD j ⟨0, 0⟩).im ∧ (xs.getD j ⟨0, 0⟩).im ≤ l) := by
 unfold allIn at h
 rw [List.all_eq_true] at h
 simp only [Bool.and_eq_true, inB_iff] at h
 rw [List.getD_eq_getElem?_getD]
 by_cases hj : j < xs.length
 ·rw [List.getElem?_eq_getElem hj]
  exact h _ (List.getElem_mem hj)
 ·rw [List.getElem?_eq_none (by omega)]
  simp only [Option.getD_none]
  omega
theorem wv_bd (n : Nat) (hn : IsLen n) (iv : Bool) (i : Nat) : (-1099511627776 ≤ (wv n iv i).re ∧ (wv n iv i).re ≤ 1099511627776) ∧ (-1099511627776 ≤ (wv n iv i).im ∧ (wv n iv i).im ≤ 1099511627776) := by
 have h := root_bd n i hn 16 (by omega) (by omega)
 unfold wv
 cases iv
 ·simp only [Bool.false_eq_true, if_false]
  simp at h
  omega
 ·simp only [if_true, Gi.conj]
  simp at h
  omega
theorem term_bd (n : Nat) (hn : IsLen n) (xs : List Gi) (iv : Bool) (hx : allIn 2147483648 xs = true) (k j : Nat) :
 (-4722366482869645213696 ≤ (termG n xs iv k j).re ∧ (termG n xs iv k j).re ≤ 4722366482869645213696) ∧ (-4722366482869645213696 ≤ (termG n xs iv k j).im ∧ (termG n xs iv k j).im ≤ 4722366482869645213696) := by
 have hw := wv_bd n hn iv (j * k)
 have ha := part_in hx (by decide) j
 unfold termG gmul
 have p1 := (wd_times_bd _ _ ha.1 hw.1).2.2.2
 have p2 := (wd_times_bd _ _ ha.2 hw.2).2.2.2
 have p3 := (wd_times_bd _ _ ha.1 hw.2).2.2.2
 have p4 := (wd_times_bd _ _ ha.2 hw.1).2.2.2
 simp only
 omega
theorem sum_bd (n : Nat) (hn : IsLen n) (xs : List Gi) (iv : Bool) (hx : allIn 2147483648 xs = true) (k m : Nat) (hm : m ≤ n) :
 (-302231454903657293676544 ≤ (sumG n xs iv k m).re ∧ (sumG n xs iv k m).re ≤ 302231454903657293676544) ∧ (-302231454903657293676544 ≤ (sumG n xs iv k m).im ∧ (sumG n xs iv k m).im ≤ 302231454903657293676544) := by
 have h64 : (m : Int) ≤ 64 := by unfold IsLen at hn; omega
 have h1 := isum_bd (fun j => (termG n xs iv k j).re) 4722366482869645213696 m (fun j _ => (term_bd n hn xs iv hx k j).1)
 have h2 := isum_bd (fun j => (termG n xs iv k j).im) 4722366482869645213696 m (fun j _ => (term_bd n hn xs iv hx k j).2)
 have c := Int.mul_le_mul_of_nonneg_right h64 (show (0 : Int) ≤ 4722366482869645213696 by decide)
 unfold sumG
 simp only
 omega
theorem sumG_next (n : Nat) (xs : List Gi) (iv : Bool) (k m : Nat) : sumG n xs iv k (m + 1) = gadd (sumG n xs iv k m) (termG n xs iv k m) := rfl
theorem IsLog.len {n : Nat} {L : Nat} (h : IsLog (n : Int) L) : IsLen (n : Int) := by
 unfold IsLen
 rcases isLog_cases h with ⟨_, h⟩ | ⟨_, h⟩ | ⟨_, h⟩ | ⟨_, h⟩ | ⟨_, h⟩ <;> omega
def binsG (n : Nat) (xs : List Gi) (iv : Bool) : List Gi := (List.range n).map (fun k => binG n xs iv k)
theorem binsG_len (n : Nat) (xs : List Gi) (iv : Bool) : (binsG n xs iv).length = n := by simp [binsG]
def slackG (n : Nat) (xs : List Gi) : Int := 2 * (n : Int) * maxG xs / 4294967296 + 2
theorem slackG_bd (n : Nat) (hn : n ≤ 64) (xs : List Gi) (hx : allIn 2147483648 xs = true) : (0 ≤ maxG xs ∧ maxG xs ≤ 2147483648) ∧ (0 ≤ 2 * (n : Int) * maxG xs ∧ 2 * (n : Int) * maxG xs ≤ 274877906944) ∧ 2 ≤ slackG n xs ∧ slackG n xs ≤ 66 := by
 have h1 := maxG_le xs 2147483648 (by omega) ((allIn_iff _ _).1 hx)
 have h0 := maxG_nonneg xs
 have h2 := Int.mul_nonneg (show 0 ≤ 2 * (n : Int) by omega) h0
 have h3 := Int.mul_le_mul (show 2 * (n : Int) ≤ 128 by omega) h1 h0 (by decide)
 unfold slackG
 refine ⟨⟨h0, h1⟩, ⟨h2, by omega⟩, by omega, by omega⟩
end
end Go.Proofs.YtcgeabpibkejpaaGreat
