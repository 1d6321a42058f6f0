import Derived.Test.YtcgeabpibkejpaaGreatUS38
namespace Go.Proofs.YtcgeabpibkejpaaGreat
section
open Go.ChangeShapes Go.WideShapes Go.ChangeAt Go.RowKit
set_option linter.unusedVariables false
set_option linter.unusedSimpArgs false
set_option maxRecDepth 100000
theorem upV_room {fo b p lo ke sc mo : Int} {L n B : Nat} (H : PlF fo b p lo ke sc mo L n B) {xs : List Gi} (hm : ManB p xs) (u : Int) (h0 : 0 ≤ u) (h1 : u ≤ 31) : allIn (2 ^ (62 + -u).toNat) xs = true := by
 refine allIn_more hm.all (Int.le_trans (show p ≤ 2 ^ 31 by rcases H.sizes with h | h <;> omega) ?_)
 have : (2 : Nat) ^ 31 ≤ 2 ^ (62 + -u).toNat := Nat.pow_le_pow_right (by decide) (by omega)
 exact_mod_cast this
theorem nearView_yes (fo lo ke sc mo ex : Int) (iv sa : Bool) (p px sp : Option Addr) (cap cx cl : Nat) (xs ys : List Gi) (ls : List Int) (hy : whyV fo lo ke sc mo ex xs ys ls = 0) (w : World) (hv : CxsAt w (.slice p xs.length cap) xs) (hyv : CxsAt w (.slice px ys.length cx) ys) (hl : NumsAt w (.slice sp ls.length cl) ls) :
 Calls Tryz.prog 49 #[.slice p xs.length cap, .agg #[.int .i64 fo, .int .i64 lo, .int .i64 ke, .int .i64 sc, .int .i64 mo, .bool iv], .agg #[.slice px ys.length cx, .int .i64 ex, .bool sa, .slice sp ls.length cl]] w fun e w' => ∃ vz, e = .returned (.tuple #[.agg #[.slice px ys.length cx, .int .i64 ex, .bool sa, .slice sp ls.length cl, .int .i64 fo, .int .i64 lo, .int .i64 ke, .int .i64 sc, .int .i64 mo, .bool iv, vz, .int .i64 (ex + upU fo sc xs), .int .i64 (ofB sc ke lo ls)], .int .i64 0]) ∧ CxsAt w' vz (upX sc (oneB fo) mo xs) ∧ Gr w w' := by
 obtain ⟨hw, hlen, hp, hex, hf⟩ := why_zero hy
 ·have HU : ∀ W, CxsAt W (.slice p xs.length cap) xs → Calls Tryz.prog 6 #[.slice p xs.length cap, .agg #[.int .i64 fo, .int .i64 lo, .int .i64 ke, .int .i64 sc, .int .i64 mo, .bool iv]] W fun e w' => e = .returned (.tuple #[.int .i64 (upU fo sc xs), .int .i64 0]) ∧ Gr W w' := fun W h => by
   have := nearUp_c fo lo ke sc mo iv _ xs W h
   rw [if_pos hw, hw] at this
   exact this
  obtain ⟨h1, h2, h3⟩ := why_yes hw
  have H := plF_of h1
  have hm := manB_iff.1 h3
  have hu := upU_bd fo sc xs
  have HA := fun W (h : CxsAt W (.slice px ys.length cx) ys) => nearAre_c H.fb _ ys W h
  rw [hp] at HA
  have h4 := H.lens.2.1
  rw [hlen] at HA hyv ⊢
  refine nView_ok p px sp xs.length cap cx ls.length cl xs ys ls fo lo ke sc mo ex iv sa (upU fo sc xs) _ _ _ (upX sc (oneB fo) mo xs) (by rw [upX_len]; omega) hu.1 hu.2 (by omega) (by omega) rfl rfl (by simp) (Lib.hid HU) (Lib.hid HA) (Lib.hid fun W h => budgetOf_ok fo lo ke sc mo iv h1 sp cl ls hf W h) (Lib.hid fun W h => ?_) w hv hyv hl
  rw [← up_shifted H mo H.kinds.1 xs]
  exact scanShifted_ok _ xs _ mo (by omega) (by omega) (by have := H.kinds.1; omega) (by have := H.kinds.1; omega) (man_wf H hm) (fun _ => upV_room H hm _ hu.1 hu.2) (by omega) W h
theorem slice_len {w : World} {p : Option Addr} {n c : Nat} {xs : List Gi} (h : CxsAt w (.slice p n c) xs) : n = xs.length := by
 obtain ⟨p', c', e⟩ := h.len
 cases e
 rfl
theorem near_facts {fo lo ke sc mo ex : Int} {xs ys : List Gi} {ls : List Int} (hy : whyV fo lo ke sc mo ex xs ys ls = 0) :
 (∃ L, IsLog ((ys.length : Nat) : Int) L) ∧ (upX sc (oneB fo) mo xs).length = ys.length ∧ allIn 2147483648 ys = true ∧ allIn 2147483648 (upX sc (oneB fo) mo xs) = true ∧ (0 ≤ ex + upU fo sc xs ∧ ex + upU fo sc xs ≤ 20) ∧ (0 ≤ ofB sc ke lo ls ∧ ofB sc ke lo ls ≤ 16778560) := by
 obtain ⟨hw, hlen, hp, hex, hf⟩ := why_zero hy
 obtain ⟨h1, h2, h3⟩ := why_yes hw
 have H := plF_of h1
 have hm := manB_iff.1 h3
 have hp2 : oneB fo ≤ 2147483648 := by rcases H.sizes with h | h <;> omega
 obtain ⟨⟨l2, l6⟩, h4, _⟩ := H.lens
 have hlo := H.lo
 exact ⟨⟨lo.toNat, l2, l6, by rw [hlen, h2]⟩, by rw [upX_len, hlen], allIn_more (manB_iff.1 hp).all hp2, allIn_more (up_man H hm).all hp2, by omega, of_bd H.kinds.2.2.2.1 H.kinds.2.2.2.2 (by omega) (by omega) hf⟩
theorem nearFar_yes (fo lo ke sc mo ex : Int) (iv sa : Bool) (p px sp : Option Addr) (cap cx cl : Nat) (xs ys : List Gi) (ls : List Int) (hy : whyV fo lo ke sc mo ex xs ys ls = 0) (w : World) (hv : CxsAt w (.slice p xs.length cap) xs) (hyv : CxsAt w (.slice px ys.length cx) ys) (hl : NumsAt w (.slice sp ls.length cl) ls) :
 Calls Tryz.prog 7 #[.slice p xs.length cap, .agg #[.int .i64 fo, .int .i64 lo, .int .i64 ke, .int .i64 sc, .int .i64 mo, .bool iv], .agg #[.slice px ys.length cx, .int .i64 ex, .bool sa, .slice sp ls.length cl]] w fun e w' => e = .returned (.tuple #[.int .i64 (farV fo sc mo ex iv xs ys), .int .i64 0]) ∧ Gr w w' := by
 obtain ⟨⟨L, hL⟩, f1, f2, f3, f4, f5⟩ := near_facts (mo := mo) hy
 have hlen := (why_zero hy).2.1
 refine nFar_told p px sp xs.length cap ys.length cx ls.length cl xs ys ls fo lo ke sc mo ex iv sa _ 0 (Lib.hid fun W a b c => nTold_int_ok p px sp xs.length cap ys.length cx ls.length cl xs ys ls fo lo ke sc mo ex iv sa _ (enters_of rfl rfl rfl) _ _ _ _ (Lib.hid fun W a b c => nearView_yes fo lo ke sc mo ex iv sa p px sp cap cx cl xs ys ls hy W a b c) (Lib.hid fun W zp k zc a b => ?_) W a b c) w hv hyv hl
 obtain rfl := slice_len b
 rw [f1] at b ⊢
 have := nearFar_c p px sp zp ys.length cx ls.length cl zc L hL ys _ rfl f1 f2 f3 fo lo ke sc mo ex (ex + upU fo sc xs) (ofB sc ke lo ls) iv sa f4.1 f4.2 W a b
 unfold farV powV
 rw [← hlen]
 exact this
theorem nearBound_yes (fo lo ke sc mo ex : Int) (iv sa : Bool) (p px sp : Option Addr) (cap cx cl : Nat) (xs ys : List Gi) (ls : List Int) (hy : whyV fo lo ke sc mo ex xs ys ls = 0) (w : World) (hv : CxsAt w (.slice p xs.length cap) xs) (hyv : CxsAt w (.slice px ys.length cx) ys) (hl : NumsAt w (.slice sp ls.length cl) ls) :
 Calls Tryz.prog 8 #[.slice p xs.length cap, .agg #[.int .i64 fo, .int .i64 lo, .int .i64 ke, .int .i64 sc, .int .i64 mo, .bool iv], .agg #[.slice px ys.length cx, .int .i64 ex, .bool sa, .slice sp ls.length cl]] w fun e w' => e = .returned (.tuple #[.int .i64 (boundV fo lo ke sc mo ex xs ls), .int .i64 0]) ∧ Gr w w' := by
 obtain ⟨⟨L, hL⟩, f1, f2, f3, f4, f5⟩ := near_facts (mo := mo) hy
 have hlen := (why_zero hy).2.1
 refine nBound_told p px sp xs.length cap ys.length cx ls.length cl xs ys ls fo lo ke sc mo ex iv sa _ 0 (Lib.hid fun W a b c => nTold_int_ok p px sp xs.length cap ys.length cx ls.length cl xs ys ls fo lo ke sc mo ex iv sa _ (enters_of rfl rfl rfl) _ _ _ _ (Lib.hid fun W a b c => nearView_yes fo lo ke sc mo ex iv sa p px sp cap cx cl xs ys ls hy W a b c) (Lib.hid fun W zp k zc a b => ?_) W a b c) w hv hyv hl
 obtain rfl := slice_len b
 rw [f1] at b ⊢
 have := nearBound_c px sp zp ys.length cx ls.length cl zc L hL _ f1 f3 fo lo ke sc mo ex (ex + upU fo sc xs) (ofB sc ke lo ls) iv sa f4.1 f4.2 f5.1 f5.2 W b
 unfold boundV powV
 rw [← hlen]
 exact this
theorem nearWithin_yes (fo lo ke sc mo ex : Int) (iv sa : Bool) (p px sp : Option Addr) (cap cx cl : Nat) (xs ys : List Gi) (ls : List Int) (hy : whyV fo lo ke sc mo ex xs ys ls = 0) (w : World) (hv : CxsAt w (.slice p xs.length cap) xs) (hyv : CxsAt w (.slice px ys.length cx) ys) (hl : NumsAt w (.slice sp ls.length cl) ls) :
 Calls Tryz.prog 9 #[.slice p xs.length cap, .agg #[.int .i64 fo, .int .i64 lo, .int .i64 ke, .int .i64 sc, .int .i64 mo, .bool iv], .agg #[.slice px ys.length cx, .int .i64 ex, .bool sa, .slice sp ls.length cl]] w fun e w' => e = .returned (.tuple #[.bool (decide (farV fo sc mo ex iv xs ys ≤ boundV fo lo ke sc mo ex xs ls)), .int .i64 0]) ∧ Gr w w' := by
 obtain ⟨⟨L, hL⟩, f1, f2, f3, f4, f5⟩ := near_facts (mo := mo) hy
 have hlen := (why_zero hy).2.1
 refine nWithin_told p px sp xs.length cap ys.length cx ls.length cl xs ys ls fo lo ke sc mo ex iv sa _ 0 (Lib.hid fun W a b c => nTold_bool_ok p px sp xs.length cap ys.length cx ls.length cl xs ys ls fo lo ke sc mo ex iv sa _ (enters_of rfl rfl rfl) _ _ _ _ (Lib.hid fun W a b c => nearView_yes fo lo ke sc mo ex iv sa p px sp cap cx cl xs ys ls hy W a b c) (Lib.hid fun W zp k zc a b => ?_) W a b c) w hv hyv hl
 obtain rfl := slice_len b
 rw [f1] at b ⊢
 have hf := fun W a b => nearFar_c p px sp zp ys.length cx ls.length cl zc L hL ys _ rfl f1 f2 f3 fo lo ke sc mo ex (ex + upU fo sc xs) (ofB sc ke lo ls) iv sa f4.1 f4.2 W a b
 have hb := fun W b => nearBound_c px sp zp ys.length cx ls.length cl zc L hL _ f1 f3 fo lo ke sc mo ex (ex + upU fo sc xs) (ofB sc ke lo ls) iv sa f4.1 f4.2 f5.1 f5.2 W b
 have := nWithin_of px sp zp ys.length cx ls.length cl ys.length zc ys _ fo lo ke sc mo ex (ex + upU fo sc xs) (ofB sc ke lo ls) _ _ iv sa (Lib.hid hf) (Lib.hid hb) W a b
 unfold farV boundV powV
 rw [← hlen]
 exact this
theorem alive17_c (w : World) : Calls Tryz.prog 12 #[] w fun e w' => e = .returned (.bool true) ∧ Gr w w' := by
 have hw : whyV 0 2 0 2 0 0 [⟨1, 0⟩, ⟨2, 0⟩, ⟨3, 0⟩, ⟨4, 0⟩] [⟨10, 0⟩, ⟨-2, 2⟩, ⟨-2, 0⟩, ⟨-2, -3⟩] [0, 0] = 0 := by kernel_rfl
 have hf : farV 0 2 0 0 false [⟨1, 0⟩, ⟨2, 0⟩, ⟨3, 0⟩, ⟨4, 0⟩] [⟨10, 0⟩, ⟨-2, 2⟩, ⟨-2, 0⟩, ⟨-2, -3⟩] = 256 := by kernel_rfl
 have hb : boundV 0 2 0 2 0 0 [⟨1, 0⟩, ⟨2, 0⟩, ⟨3, 0⟩, ⟨4, 0⟩] [0, 0] = 7298 := by kernel_rfl
 refine alive17_of (Lib.hid fun sp cl sy cy ss cs W a b c => ?_) (Lib.hid fun sp cl sy cy ss cs W a b c => ?_) w
 ·have h := nearFar_yes 0 2 0 2 0 0 false false sp sy ss cl cy cs [⟨1, 0⟩, ⟨2, 0⟩, ⟨3, 0⟩, ⟨4, 0⟩] [⟨10, 0⟩, ⟨-2, 2⟩, ⟨-2, 0⟩, ⟨-2, -3⟩] [0, 0] hw W a b c
  rw [hf] at h
  exact h
 ·have h := nearBound_yes 0 2 0 2 0 0 false false sp sy ss cl cy cs [⟨1, 0⟩, ⟨2, 0⟩, ⟨3, 0⟩, ⟨4, 0⟩] [⟨10, 0⟩, ⟨-2, 2⟩, ⟨-2, 0⟩, ⟨-2, -3⟩] [0, 0] hw W a b c
  rw [hb] at h
  exact h
theorem cxs_made {W : World} {B n : Nat} {t : TypeId} (h : CellsAt W B t (madeCells #[.int .i64 0, .int .i64 0] (n * 2))) (hn : n ≤ 1048576) : CxsAt W (.slice (some ⟨B, 0, none⟩) n n) (List.replicate n (⟨0, 0⟩ : Gi)) := by
 refine ⟨some ⟨B, 0, none⟩, n, by rw [List.length_replicate], by rw [List.length_replicate]; exact Nat.le_refl _, by unfold maxLen; omega, fun _ => ⟨B, 0, rfl, h.lt, fun j x hj => ?_⟩⟩
 have key : ∀ k, k < n * 2 → (madeCells #[.int .i64 0, .int .i64 0] (n * 2))[k]? = some (.int .i64 0) := by
  intro k hk
  unfold madeCells
  have h2 : k % 2 = 0 ∨ k % 2 = 1 := by omega
  rcases h2 with e | e <;> simp [hk, e]
 obtain ⟨hj1, rfl⟩ := List.getElem?_eq_some_iff.1 hj
 rw [List.length_replicate] at hj1
 rw [h.cell, h.cell, List.getElem_replicate]
 exact ⟨key _ (by omega), key _ (by omega)⟩
set_option maxHeartbeats 4000000 in
theorem half17_no (p : Option Addr) (l1 cap1 m1 : Nat) (fo lo ke sc mo : Int) (iv : Bool) (xs : List Gi) (hm1 : m1 ≤ cap1) (hmin1 : (if (70 : Int) < (l1 : Int) then 70 else (l1 : Int)) = (m1 : Int)) (y : Int) (hy0 : ¬ y = 0) (hyb : (y == 0) = false) (HP : Hid (∀ W, CxsAt W (.slice p m1 cap1) xs → Calls Tryz.prog 16 #[.slice p m1 cap1, .agg #[.int .i64 fo, .int .i64 lo, .int .i64 ke, .int .i64 0, .int .i64 mo, .bool iv]] W fun e w' => e = .returned (.tuple #[.agg #[.slice none 0 0, .int .i64 0, .bool false, .slice none 0 0], .int .i64 y]) ∧ Gr W w')) (AL : CR 12 #[] (.bool true)) (w : World) (hx : CxsAt w (.slice p m1 cap1) xs) :
 Calls Tryz.prog 5 #[.slice p l1 cap1, .agg #[.int .i64 fo, .int .i64 lo, .int .i64 ke, .int .i64 sc, .int .i64 mo, .bool iv]] w fun e w' => e = .returned (.bool true) ∧ Gr w w' := by
 have hcut1 := run_cut_cx p l1 cap1 m1 hm1
 have VX := Lib.hid hx
 clear hx
 go_enter Tryz.func5, Tryz.ntmps5
 go_wp2_with fail
 obtain ⟨u0, hU⟩ : ∃ uu, uu = (w.alloc (.cells #[.int .i64 fo, .int .i64 lo, .int .i64 ke, .int .i64 0, .int .i64 mo, .bool iv] 24)) := ⟨_, rfl⟩
 have ⟨gu, R0⟩ := lay1 hU
 rw [← hU]
 clear hU
 have lp := R0.lt
 refine (HP.out _ (VX.out.gr (gu))).mono ?_
 rintro e w1 ⟨rfl, g1⟩
 have ⟨Fp_1, lp_1⟩ := CellsAt.gl (R0) g1
 have z1 := (gu).trans g1
 clear R0 gu g1
 obtain ⟨cp0, cp1, cp2, cp3, cp4, cp5⟩ := Fp_1.t6
 go_wp2_with fail
 clear cp0 cp1 cp2 cp3 cp4 cp5
 obtain ⟨u2, hqp1⟩ : ∃ zz, zz = (w1.alloc (.cells #[.slice none 0 0, .int .i64 0, .bool false, .slice none 0 0] 27)) := ⟨_, rfl⟩
 have Yp_p1 : CellsAt u2 (w.heap.size) 24 #[.int .i64 fo, .int .i64 lo, .int .i64 ke, .int .i64 0, .int .i64 mo, .bool iv] := by rw [hqp1]; first | exact (Fp_1).alloc _ | simpa using (Fp_1).alloc _
 have Yb_p1 : CellsAt u2 (w1.heap.size) 27 #[.slice none 0 0, .int .i64 0, .bool false, .slice none 0 0] := by rw [hqp1]; first | exact CellsAt.new w1 27 #[.slice none 0 0, .int .i64 0, .bool false, .slice none 0 0] | simpa using CellsAt.new w1 27 #[.slice none 0 0, .int .i64 0, .bool false, .slice none 0 0]
 have yp1 : Gr w u2 := by rw [hqp1]; exact (z1).alloc _ _
 rw [← hqp1]
 clear hqp1
 refine (AL.out _).mono ?_
 rintro e w2 ⟨rfl, g2⟩
 have ⟨Fp_2, lp_2⟩ := CellsAt.gl (Yp_p1) g2
 have ⟨Fb_2, lb_2⟩ := CellsAt.gl (Yb_p1) g2
 have z2 := (yp1).trans g2
 clear Yp_p1 Yb_p1 yp1 g2
 obtain ⟨cb0, cb1, cb2, cb3⟩ := Fb_2.t4
 go_wp2_with fail
 clear cb0 cb1 cb2 cb3
 go_ret
 exact ⟨by first | rfl | (simp; done), z2⟩
set_option maxHeartbeats 8000000 in
theorem half17_yes (p : Option Addr) (l1 cap1 m1 : Nat) (fo lo ke sc mo : Int) (iv : Bool) (xs : List Gi) (hm1 : m1 ≤ cap1) (hmin1 : (if (70 : Int) < (l1 : Int) then 70 else (l1 : Int)) = (m1 : Int)) (hm70 : m1 ≤ 70) (X : List Gi) (ex : Int) (sat : Bool) (sh : List Int) (r f a b c d K : Int) (HP : Hid (∀ W, CxsAt W (.slice p m1 cap1) xs → Calls Tryz.prog 16 #[.slice p m1 cap1, .agg #[.int .i64 fo, .int .i64 lo, .int .i64 ke, .int .i64 0, .int .i64 mo, .bool iv]] W fun e w' => ∃ vx vs, e = .returned (.tuple #[.agg #[vx, .int .i64 ex, .bool sat, vs], .int .i64 0]) ∧ CxsAt w' vx X ∧ NumsAt w' vs sh ∧ Gr W w')) (HB : Hid (∀ xp xc tp tc W, CxsAt W (.slice p m1 cap1) xs → CxsAt W (.slice xp X.length xc) X → NumsAt W (.slice tp sh.length tc) sh → Calls Tryz.prog 8 #[.slice p m1 cap1, .agg #[.int .i64 fo, .int .i64 lo, .int .i64 ke, .int .i64 0, .int .i64 mo, .bool iv], .agg #[.slice xp X.length xc, .int .i64 ex, .bool sat, .slice tp sh.length tc]] W fun e w' => e = .returned (.tuple #[.int .i64 r, .int .i64 0]) ∧ Gr W w')) (HF : Hid (∀ zp zc tp tc W, CxsAt W (.slice p m1 cap1) xs → CxsAt W (.slice zp m1 zc) (List.replicate m1 (⟨0, 0⟩ : Gi)) → NumsAt W (.slice tp sh.length tc) sh → Calls Tryz.prog 7 #[.slice p m1 cap1, .agg #[.int .i64 fo, .int .i64 lo, .int .i64 ke, .int .i64 0, .int .i64 mo, .bool iv], .agg #[.slice zp m1 zc, .int .i64 ex, .bool false, .slice tp sh.length tc]] W fun e w' => e = .returned (.tuple #[.int .i64 f, .int .i64 0]) ∧ Gr W w')) (HW : Hid (∀ zp zc tp tc W, CxsAt W (.slice p m1 cap1) xs → CxsAt W (.slice zp m1 zc) (List.replicate m1 (⟨0, 0⟩ : Gi)) → NumsAt W (.slice tp sh.length tc) sh → Calls Tryz.prog 9 #[.slice p m1 cap1, .agg #[.int .i64 fo, .int .i64 lo, .int .i64 ke, .int .i64 0, .int .i64 mo, .bool iv], .agg #[.slice zp m1 zc, .int .i64 ex, .bool false, .slice tp sh.length tc]] W fun e w' => e = .returned (.tuple #[.bool (decide (f ≤ r)), .int .i64 0]) ∧ Gr W w'))
 (HE : Hid (wrap64 (6 * lo) = a ∧ wrap64 (a + 4) = b ∧ wrap64 (ex + 8) = c ∧ (∀ W, (Op.shift .shl .i64 b .i64 c).run Tryz.prog W = .ok (.int .i64 K) W) ∧ (wrap64 (K + 66) = d ∧ decide (r ≤ d) = true))) (AL : CR 12 #[] (.bool true)) (w : World) (hx : CxsAt w (.slice p m1 cap1) xs) :
 Calls Tryz.prog 5 #[.slice p l1 cap1, .agg #[.int .i64 fo, .int .i64 lo, .int .i64 ke, .int .i64 sc, .int .i64 mo, .bool iv]] w fun e w' => e = .returned (.bool true) ∧ Gr w w' := by
 have HMK := Lib.hid (run_make_cx m1 (by omega))
 have hcut1 := run_cut_cx p l1 cap1 m1 hm1
 have VX := Lib.hid hx
 clear hx
 go_enter Tryz.func5, Tryz.ntmps5
 go_wp2_with fail
 obtain ⟨u0, hU⟩ : ∃ uu, uu = (w.alloc (.cells #[.int .i64 fo, .int .i64 lo, .int .i64 ke, .int .i64 0, .int .i64 mo, .bool iv] 24)) := ⟨_, rfl⟩
 have ⟨gu, R0⟩ := lay1 hU
 rw [← hU]
 clear hU
 have lp := R0.lt
 refine (HP.out _ (VX.out.gr (gu))).mono ?_
 rintro e w1 ⟨vx, vs, rfl, hx1, hs1, g1⟩
 have ⟨Fp_1, lp_1⟩ := CellsAt.gl (R0) g1
 have z1 := (gu).trans g1
 clear R0 gu g1
 obtain ⟨xp, xc, rfl⟩ := hx1.len
 obtain ⟨tp, tc, rfl⟩ := hs1.len
 obtain ⟨cp0, cp1, cp2, cp3, cp4, cp5⟩ := Fp_1.t6
 go_wp2_with fail
 clear cp0 cp1 cp2 cp3 cp4 cp5
 have hs2 := hs1.gr ((Gr.refl _).alloc #[.slice xp X.length xc, .int .i64 ex, .bool sat, .slice tp sh.length tc] 27)
 obtain ⟨u3, hqp1⟩ : ∃ zz, zz = (w1.alloc (.cells #[.slice xp X.length xc, .int .i64 ex, .bool sat, .slice tp sh.length tc] 27)) := ⟨_, rfl⟩
 have Yp_p1 : CellsAt u3 (w.heap.size) 24 #[.int .i64 fo, .int .i64 lo, .int .i64 ke, .int .i64 0, .int .i64 mo, .bool iv] := by rw [hqp1]; first | exact (Fp_1).alloc _ | simpa using (Fp_1).alloc _
 have Yb_p1 : CellsAt u3 (w1.heap.size) 27 #[.slice xp X.length xc, .int .i64 ex, .bool sat, .slice tp sh.length tc] := by rw [hqp1]; first | exact CellsAt.new w1 27 #[.slice xp X.length xc, .int .i64 ex, .bool sat, .slice tp sh.length tc] | simpa using CellsAt.new w1 27 #[.slice xp X.length xc, .int .i64 ex, .bool sat, .slice tp sh.length tc]
 have Vx_p1 := (CxsAt.gr (hx1) ((Gr.refl w1).alloc #[.slice xp X.length xc, .int .i64 ex, .bool sat, .slice tp sh.length tc] 27))
 rw [← hqp1] at Vx_p1
 have Vs_p1 := hs2
 rw [← hqp1] at Vs_p1
 have yp1 : Gr w u3 := by rw [hqp1]; exact (z1).alloc _ _
 rw [← hqp1]
 clear hqp1
 refine (HB.out _ _ _ _ _ (VX.out.gr (yp1)) Vx_p1 Vs_p1).mono ?_
 rintro e w5 ⟨rfl, g5⟩
 have ⟨Fp_5, lp_5⟩ := CellsAt.gl (Yp_p1) g5
 have ⟨Fb_5, lb_5⟩ := CellsAt.gl (Yb_p1) g5
 have Kx_5 := CxsAt.gr (Vx_p1) g5
 have Ns_5 := NumsAt.gr (Vs_p1) g5
 have z5 := (yp1).trans g5
 clear Yp_p1 Yb_p1 yp1 g5
 obtain ⟨cb0, cb1, cb2, cb3⟩ := Fb_5.t4
 go_wp2_with fail
 clear cb0 cb1 cb2 cb3
 obtain ⟨u5, hqp2⟩ : ∃ zz, zz = w5 := ⟨_, rfl⟩
 have Yp_p2 : CellsAt u5 (w.heap.size) 24 #[.int .i64 fo, .int .i64 lo, .int .i64 ke, .int .i64 0, .int .i64 mo, .bool iv] := by rw [hqp2]; first | exact Fp_5 | simpa using Fp_5
 have Yb_p2 : CellsAt u5 (w1.heap.size) 27 #[.slice xp X.length xc, .int .i64 ex, .bool sat, .slice tp sh.length tc] := by rw [hqp2]; first | exact Fb_5 | simpa using Fb_5
 have Vs_p2 := Ns_5
 rw [← hqp2] at Vs_p2
 have yp2 : Gr w u5 := by rw [hqp2]; exact z5
 rw [← hqp2]
 clear hqp2
 have NS5 := Vs_p2
 have hmk := HMK.out
 have KS : ∀ W, Gr u5 W → W.cell? ⟨w1.heap.size, 1, none⟩ = some (.int .i64 ex) ∧ W.cell? ⟨w1.heap.size, 3, none⟩ = some (.slice tp sh.length tc) := fun W hG => ⟨(CellsAt.gr Yb_p2 hG).cell 1, (CellsAt.gr Yb_p2 hG).cell 3⟩
 have hclG := gr_closed u5
 try simp only [List.append_eq, List.cons_append, List.nil_append]
 refine wp_region_grow (S := Gr u5) rfl (Gr.drew (Gr.refl _)) ?_
 refine gT 0 hclG ?_
 refine gT 1 hclG ?_
 refine gT 3 hclG ?_
 refine gK 4 hclG KS ?_
 refine gT 5 hclG ?_
 refine gK 6 hclG KS ?_
 refine wpG_ready (rs := [2, 8]) (by kernel_rfl) (by simp) (fun w6 g6 s6 => ?_)
 replace g6 := (Gr.drew (Gr.refl u5)).trans g6
 refine AllG.cons rfl (fun K hK => ?_) (AllG.cons rfl (fun K hK => ?_) AllG.nil)
 ·have hsz6 := g6.size
  have ⟨Fp_6, lp_6⟩ := CellsAt.gl (Yp_p2) g6
  have ⟨Fb_6, lb_6⟩ := CellsAt.gl (Yb_p2) g6
  have z6 := (Gr.refl u5).trans g6
  clear Yp_p2 Yb_p2 g6
  go_simp
  have hz0 : CxsAt (w6.alloc (.cells (madeCells #[.int .i64 0, .int .i64 0] (m1 * 2)) 58)) (.slice (some ⟨w6.heap.size, 0, none⟩) m1 m1) (List.replicate m1 (⟨0, 0⟩ : Gi)) := cxs_made (CellsAt.new w6 58 (madeCells #[.int .i64 0, .int .i64 0] (m1 * 2))) (by omega)
  refine hK.out _ _ ?_ ?_
  ·exact Gr.alloc s6 _ _
  clear hK K
  try simp only [Act.put, putS]
  refine gT 7 hclG ?_
  refine wpG_ready (rs := [8]) (by kernel_rfl) (by simp) (fun w7 g7 s7 => ?_)
  refine AllG.cons rfl (fun K hK => ?_) AllG.nil
  have ⟨Fp_7, lp_7⟩ := CellsAt.gl ((Fp_6).alloc _) g7
  have ⟨Fb_7, lb_7⟩ := CellsAt.gl ((Fb_6).alloc _) g7
  have Kz_7 := CxsAt.gr (hz0) g7
  have z7 := ((z6).alloc _ _).trans g7
  clear g7
  have hsz7 := (z7).size
  go_simp
  refine hK.out _ _ ?_ ?_
  ·exact Gr.alloc s7 _ _
  clear hK K
  try simp only [Act.put, putS]
  refine wpG_ready (rs := [9]) (by kernel_rfl) (by simp) (fun w8 g8 s8 => ?_)
  refine AllG.cons rfl (fun K hK => ?_) AllG.nil
  have ⟨Fp_8, lp_8⟩ := CellsAt.gl ((Fp_7).alloc _) g8
  have ⟨Fb_8, lb_8⟩ := CellsAt.gl ((Fb_7).alloc _) g8
  have ⟨Fz_8, lz_8⟩ := CellsAt.gl (CellsAt.new w7 27 #[.slice none 0 0, .int .i64 0, .bool false, .slice none 0 0]) g8
  have Kz_8 := CxsAt.gr ((CxsAt.gr (Kz_7) ((Gr.refl w7).alloc #[.slice none 0 0, .int .i64 0, .bool false, .slice none 0 0] 27))) g8
  have z8 := ((z7).alloc _ _).trans g8
  clear g8
  have hsz8 := (z8).size
  have mz0 := CellsAt.frozen (Fz_8) 0
  have cz0 := Fz_8.at 0
  have mz1 := CellsAt.frozen (Fz_8) 1
  have cz1 := Fz_8.at 1
  have mz2 := CellsAt.frozen (Fz_8) 2
  have cz2 := Fz_8.at 2
  have mz3 := CellsAt.frozen (Fz_8) 3
  have cz3 := Fz_8.at 3
  go_simp
  clear mz0 cz0 mz1 cz1 mz2 cz2 mz3 cz3
  have AZ := CxsAt.apart Kz_8 Fz_8
  refine hK.out _ _ ?_ ?_
  ·exact (Gr.setCell (Gr.setCell (Gr.setCell (Gr.setCell s8 (by first | omega | (simp only; omega)) _) (by first | omega | (simp only; omega)) _) (by first | omega | (simp only; omega)) _) (by first | omega | (simp only; omega)) _)
  clear hK K
  try simp only [Act.put, putS]
  refine wpG_done (by kernel_rfl) (fun wh gh => ?_) _
  have ⟨Fp_h, lp_h⟩ := CellsAt.gl (((((Fp_8).other (by omega) _ _).other (by omega) _ _).other (by omega) _ _).other (by omega) _ _) gh
  have ⟨Fb_h, lb_h⟩ := CellsAt.gl (((((Fb_8).other (by omega) _ _).other (by omega) _ _).other (by omega) _ _).other (by omega) _ _) gh
  have Fz_h : CellsAt wh (w7.heap.size) 27 #[.slice (some ⟨w6.heap.size, 0, none⟩) m1 m1, .int .i64 ex, .bool false, .slice tp sh.length tc] := CellsAt.gr (CellsAt.set (CellsAt.set (CellsAt.set (CellsAt.set (Fz_8) 0 (.slice (some ⟨w6.heap.size, 0, none⟩) m1 m1)) 1 (.int .i64 ex)) 2 (.bool false)) 3 (.slice tp sh.length tc)) gh
  have lz_h := CellsAt.lt (Fz_h)
  have Kz_h := CxsAt.gr ((CxsAt.set (CxsAt.set (CxsAt.set (CxsAt.set Kz_8 AZ 0 (.slice (some ⟨w6.heap.size, 0, none⟩) m1 m1)) AZ 1 (.int .i64 ex)) AZ 2 (.bool false)) AZ 3 (.slice tp sh.length tc))) gh
  have zh := (((((z8).setCell (by first | omega | (simp only; omega)) _).setCell (by first | omega | (simp only; omega)) _).setCell (by first | omega | (simp only; omega)) _).setCell (by first | omega | (simp only; omega)) _).trans gh
  clear gh
  clear hclG KS hmk
  obtain ⟨cp0, cp1, cp2, cp3, cp4, cp5⟩ := Fp_h.t6
  obtain ⟨cz0, cz1, cz2, cz3⟩ := Fz_h.t4
  go_wp2_with fail
  clear cp0 cp1 cp2 cp3 cp4 cp5 cz0 cz1 cz2 cz3
  refine (HF.out _ _ _ _ _ (VX.out.gr ((yp2).trans (zh))) Kz_h (NS5.gr (zh))).mono ?_
  rintro e wf ⟨rfl, gf⟩
  have ⟨Fp_f, lp_f⟩ := CellsAt.gl (Fp_h) gf
  have ⟨Fb_f, lb_f⟩ := CellsAt.gl (Fb_h) gf
  have ⟨Fz_f, lz_f⟩ := CellsAt.gl (Fz_h) gf
  have Kz_f := CxsAt.gr (Kz_h) gf
  have zf := (zh).trans gf
  clear Fp_h Fb_h Fz_h zh gf
  obtain ⟨cp0, cp1, cp2, cp3, cp4, cp5⟩ := Fp_f.t6
  obtain ⟨cz0, cz1, cz2, cz3⟩ := Fz_f.t4
  go_wp2_with fail
  clear cp0 cp1 cp2 cp3 cp4 cp5 cz0 cz1 cz2 cz3
  refine (HW.out _ _ _ _ _ (VX.out.gr ((yp2).trans (zf))) Kz_f (NS5.gr (zf))).mono ?_
  rintro e wg ⟨rfl, gg⟩
  have ⟨Fp_g, lp_g⟩ := CellsAt.gl (Fp_f) gg
  have ⟨Fb_g, lb_g⟩ := CellsAt.gl (Fb_f) gg
  have ⟨Fz_g, lz_g⟩ := CellsAt.gl (Fz_f) gg
  have Kz_g := CxsAt.gr (Kz_f) gg
  have zg := (zf).trans gg
  clear Fp_f Fb_f Fz_f zf gg
  go_wp2_with fail
  refine (AL.out _).mono ?_
  rintro e wm2 ⟨rfl, gm2⟩
  have ⟨Fp_m2, lp_m2⟩ := CellsAt.gl (Fp_g) gm2
  have ⟨Fb_m2, lb_m2⟩ := CellsAt.gl (Fb_g) gm2
  have ⟨Fz_m2, lz_m2⟩ := CellsAt.gl (Fz_g) gm2
  have Kz_m2 := CxsAt.gr (Kz_g) gm2
  have zm2 := (zg).trans gm2
  clear Fp_g Fb_g Fz_g zg gm2
  obtain ⟨cp0, cp1, cp2, cp3, cp4, cp5⟩ := Fp_m2.t6
  obtain ⟨cb0, cb1, cb2, cb3⟩ := Fb_m2.t4
  obtain ⟨e1, e2, e3, e4, e5⟩ := HE.out
  go_wp2_with fail
  clear cp0 cp1 cp2 cp3 cp4 cp5 cb0 cb1 cb2 cb3
  go_ret
  exact ⟨by first | rfl | (simp; done), (yp2).trans (zm2)⟩
 ·have hsz6 := g6.size
  have ⟨Fp_6, lp_6⟩ := CellsAt.gl (Yp_p2) g6
  have ⟨Fb_6, lb_6⟩ := CellsAt.gl (Yb_p2) g6
  have z6 := (Gr.refl u5).trans g6
  clear Yp_p2 Yb_p2 g6
  go_simp
  refine hK.out _ _ ?_ ?_
  ·exact Gr.alloc s6 _ _
  clear hK K
  try simp only [Act.put, putS]
  refine wpG_ready (rs := [2]) (by kernel_rfl) (by simp) (fun w7 g7 s7 => ?_)
  refine AllG.cons rfl (fun K hK => ?_) AllG.nil
  have ⟨Fp_7, lp_7⟩ := CellsAt.gl ((Fp_6).alloc _) g7
  have ⟨Fb_7, lb_7⟩ := CellsAt.gl ((Fb_6).alloc _) g7
  have ⟨Fz_7, lz_7⟩ := CellsAt.gl (CellsAt.new w6 27 #[.slice none 0 0, .int .i64 0, .bool false, .slice none 0 0]) g7
  have z7 := ((z6).alloc _ _).trans g7
  clear g7
  go_simp
  have hz0 : CxsAt (w7.alloc (.cells (madeCells #[.int .i64 0, .int .i64 0] (m1 * 2)) 58)) (.slice (some ⟨w7.heap.size, 0, none⟩) m1 m1) (List.replicate m1 (⟨0, 0⟩ : Gi)) := cxs_made (CellsAt.new w7 58 (madeCells #[.int .i64 0, .int .i64 0] (m1 * 2))) (by omega)
  refine hK.out _ _ ?_ ?_
  ·exact Gr.alloc s7 _ _
  clear hK K
  try simp only [Act.put, putS]
  refine gT 7 hclG ?_
  refine wpG_ready (rs := [9]) (by kernel_rfl) (by simp) (fun w8 g8 s8 => ?_)
  refine AllG.cons rfl (fun K hK => ?_) AllG.nil
  have ⟨Fp_8, lp_8⟩ := CellsAt.gl ((Fp_7).alloc _) g8
  have ⟨Fb_8, lb_8⟩ := CellsAt.gl ((Fb_7).alloc _) g8
  have ⟨Fz_8, lz_8⟩ := CellsAt.gl ((Fz_7).alloc _) g8
  have Kz_8 := CxsAt.gr (hz0) g8
  have z8 := ((z7).alloc _ _).trans g8
  clear g8
  have hsz8 := (z8).size
  have mz0 := CellsAt.frozen (Fz_8) 0
  have cz0 := Fz_8.at 0
  have mz1 := CellsAt.frozen (Fz_8) 1
  have cz1 := Fz_8.at 1
  have mz2 := CellsAt.frozen (Fz_8) 2
  have cz2 := Fz_8.at 2
  have mz3 := CellsAt.frozen (Fz_8) 3
  have cz3 := Fz_8.at 3
  go_simp
  clear mz0 cz0 mz1 cz1 mz2 cz2 mz3 cz3
  have AZ := CxsAt.apart Kz_8 Fz_8
  refine hK.out _ _ ?_ ?_
  ·exact (Gr.setCell (Gr.setCell (Gr.setCell (Gr.setCell s8 (by first | omega | (simp only; omega)) _) (by first | omega | (simp only; omega)) _) (by first | omega | (simp only; omega)) _) (by first | omega | (simp only; omega)) _)
  clear hK K
  try simp only [Act.put, putS]
  refine wpG_done (by kernel_rfl) (fun wh gh => ?_) _
  have ⟨Fp_h, lp_h⟩ := CellsAt.gl (((((Fp_8).other (by omega) _ _).other (by omega) _ _).other (by omega) _ _).other (by omega) _ _) gh
  have ⟨Fb_h, lb_h⟩ := CellsAt.gl (((((Fb_8).other (by omega) _ _).other (by omega) _ _).other (by omega) _ _).other (by omega) _ _) gh
  have Fz_h : CellsAt wh (w6.heap.size) 27 #[.slice (some ⟨w7.heap.size, 0, none⟩) m1 m1, .int .i64 ex, .bool false, .slice tp sh.length tc] := CellsAt.gr (CellsAt.set (CellsAt.set (CellsAt.set (CellsAt.set (Fz_8) 0 (.slice (some ⟨w7.heap.size, 0, none⟩) m1 m1)) 1 (.int .i64 ex)) 2 (.bool false)) 3 (.slice tp sh.length tc)) gh
  have lz_h := CellsAt.lt (Fz_h)
  have Kz_h := CxsAt.gr ((CxsAt.set (CxsAt.set (CxsAt.set (CxsAt.set Kz_8 AZ 0 (.slice (some ⟨w7.heap.size, 0, none⟩) m1 m1)) AZ 1 (.int .i64 ex)) AZ 2 (.bool false)) AZ 3 (.slice tp sh.length tc))) gh
  have zh := (((((z8).setCell (by first | omega | (simp only; omega)) _).setCell (by first | omega | (simp only; omega)) _).setCell (by first | omega | (simp only; omega)) _).setCell (by first | omega | (simp only; omega)) _).trans gh
  clear gh
  clear hclG KS hmk
  obtain ⟨cp0, cp1, cp2, cp3, cp4, cp5⟩ := Fp_h.t6
  obtain ⟨cz0, cz1, cz2, cz3⟩ := Fz_h.t4
  go_wp2_with fail
  clear cp0 cp1 cp2 cp3 cp4 cp5 cz0 cz1 cz2 cz3
  refine (HF.out _ _ _ _ _ (VX.out.gr ((yp2).trans (zh))) Kz_h (NS5.gr (zh))).mono ?_
  rintro e wf ⟨rfl, gf⟩
  have ⟨Fp_f, lp_f⟩ := CellsAt.gl (Fp_h) gf
  have ⟨Fb_f, lb_f⟩ := CellsAt.gl (Fb_h) gf
  have ⟨Fz_f, lz_f⟩ := CellsAt.gl (Fz_h) gf
  have Kz_f := CxsAt.gr (Kz_h) gf
  have zf := (zh).trans gf
  clear Fp_h Fb_h Fz_h zh gf
  obtain ⟨cp0, cp1, cp2, cp3, cp4, cp5⟩ := Fp_f.t6
  obtain ⟨cz0, cz1, cz2, cz3⟩ := Fz_f.t4
  go_wp2_with fail
  clear cp0 cp1 cp2 cp3 cp4 cp5 cz0 cz1 cz2 cz3
  refine (HW.out _ _ _ _ _ (VX.out.gr ((yp2).trans (zf))) Kz_f (NS5.gr (zf))).mono ?_
  rintro e wg ⟨rfl, gg⟩
  have ⟨Fp_g, lp_g⟩ := CellsAt.gl (Fp_f) gg
  have ⟨Fb_g, lb_g⟩ := CellsAt.gl (Fb_f) gg
  have ⟨Fz_g, lz_g⟩ := CellsAt.gl (Fz_f) gg
  have Kz_g := CxsAt.gr (Kz_f) gg
  have zg := (zf).trans gg
  clear Fp_f Fb_f Fz_f zf gg
  go_wp2_with fail
  refine (AL.out _).mono ?_
  rintro e wa2 ⟨rfl, ga2⟩
  have ⟨Fp_a2, lp_a2⟩ := CellsAt.gl (Fp_g) ga2
  have ⟨Fb_a2, lb_a2⟩ := CellsAt.gl (Fb_g) ga2
  have ⟨Fz_a2, lz_a2⟩ := CellsAt.gl (Fz_g) ga2
  have Kz_a2 := CxsAt.gr (Kz_g) ga2
  have za2 := (zg).trans ga2
  clear Fp_g Fb_g Fz_g zg ga2
  obtain ⟨cp0, cp1, cp2, cp3, cp4, cp5⟩ := Fp_a2.t6
  obtain ⟨cb0, cb1, cb2, cb3⟩ := Fb_a2.t4
  obtain ⟨e1, e2, e3, e4, e5⟩ := HE.out
  go_wp2_with fail
  clear cp0 cp1 cp2 cp3 cp4 cp5 cb0 cb1 cb2 cb3
  go_ret
  exact ⟨by first | rfl | (simp; done), (yp2).trans (za2)⟩
end
section
set_option linter.unusedVariables false
set_option linter.unusedSimpArgs false
set_option maxRecDepth 100000
def A64L : List Gi := [⟨1099511627776, 0⟩, ⟨1094217178761, -107770985514⟩, ⟨1078384820155, -214504077523⟩, ⟨1052167026225, -319171378007⟩, ⟨1015816288660, -420764883643⟩, ⟨969682684934, -518306193436⟩, ⟨914210506869, -610855931251⟩, ⟨849933981865, -697522792521⟩, ⟨777472127994, -777472127994⟩, ⟨697522792521, -849933981865⟩, ⟨610855931251, -914210506869⟩, ⟨518306193436, -969682684934⟩, ⟨420764883643, -1015816288660⟩, ⟨319171378007, -1052167026225⟩, ⟨214504077523, -1078384820155⟩, ⟨107770985514, -1094217178761⟩, ⟨0, -1099511627776⟩, ⟨-107770985514, -1094217178761⟩, ⟨-214504077523, -1078384820155⟩, ⟨-319171378007, -1052167026225⟩, ⟨-420764883643, -1015816288660⟩, ⟨-518306193436, -969682684934⟩, ⟨-610855931251, -914210506869⟩, ⟨-697522792521, -849933981865⟩, ⟨-777472127994, -777472127994⟩, ⟨-849933981865, -697522792521⟩, ⟨-914210506869, -610855931251⟩, ⟨-969682684934, -518306193436⟩, ⟨-1015816288660, -420764883643⟩, ⟨-1052167026225, -319171378007⟩, ⟨-1078384820155, -214504077523⟩, ⟨-1094217178761, -107770985514⟩, ⟨-1099511627776, 0⟩, ⟨-1094217178761, 107770985514⟩, ⟨-1078384820155, 214504077523⟩, ⟨-1052167026225, 319171378007⟩, ⟨-1015816288660, 420764883643⟩, ⟨-969682684934, 518306193436⟩, ⟨-914210506869, 610855931251⟩, ⟨-849933981865, 697522792521⟩, ⟨-777472127994, 777472127994⟩, ⟨-697522792521, 849933981865⟩, ⟨-610855931251, 914210506869⟩, ⟨-518306193436, 969682684934⟩, ⟨-420764883643, 1015816288660⟩, ⟨-319171378007, 1052167026225⟩, ⟨-214504077523, 1078384820155⟩, ⟨-107770985514, 1094217178761⟩, ⟨0, 1099511627776⟩, ⟨107770985514, 1094217178761⟩, ⟨214504077523, 1078384820155⟩, ⟨319171378007, 1052167026225⟩, ⟨420764883643, 1015816288660⟩, ⟨518306193436, 969682684934⟩, ⟨610855931251, 914210506869⟩, ⟨697522792521, 849933981865⟩, ⟨777472127994, 777472127994⟩, ⟨849933981865, 697522792521⟩, ⟨914210506869, 610855931251⟩, ⟨969682684934, 518306193436⟩, ⟨1015816288660, 420764883643⟩, ⟨1052167026225, 319171378007⟩, ⟨1078384820155, 214504077523⟩, ⟨1094217178761, 107770985514⟩]
def atA (i : Nat) : Gi := A64L.getD (i % 64) ⟨0, 0⟩
theorem A64_all : ((List.range 64).all fun k : Nat => decide ((rootG 64 k 16).re = (atA k).re) && decide ((rootG 64 k 16).im = (atA k).im)) = true := by decide +kernel
theorem root64 (k : Nat) : rootG 64 k 16 = atA k := by
 have h := List.all_eq_true.1 A64_all (k % 64) (List.mem_range.2 (Nat.mod_lt _ (by decide)))
 simp only [Bool.and_eq_true, decide_eq_true_eq] at h
 have e := rootG_mod 64 k 16
 rw [show ((64 : Nat) : Int) = 64 from rfl] at e
 rw [e] at h
 have ea : atA (k % 64) = atA k := by unfold atA; rw [Nat.mod_mod]
 rw [ea] at h
 exact Gi.ext2 h.1 h.2
theorem root_in64 (n : Nat) (hn : IsLen n) : ∃ q : Nat, ∀ k : Nat, rootG n k 16 = atA (k * q) := by
 have h2 := fun (m n : Nat) (hm : (m : Int) = 4 ∨ (m : Int) = 8 ∨ (m : Int) = 16 ∨ (m : Int) = 32) (e : (n : Int) = 2 * m) (k : Nat) => root_half n m k hm e 16
 have c : n = 4 ∨ n = 8 ∨ n = 16 ∨ n = 32 ∨ n = 64 := by unfold IsLen at hn; omega
 have s5 : ∀ k : Nat, rootG 64 k 16 = atA (k * 1) := fun k => by rw [Nat.mul_one]; exact root64 k
 have s4 : ∀ k : Nat, rootG 32 k 16 = atA (k * 2) := fun k => by
  have := h2 32 64 (by decide) (by decide) k
  rw [show (k : Int) * 2 = ((k * 2 : Nat) : Int) by omega] at this
  exact this.trans (root64 _)
 have s3 : ∀ k : Nat, rootG 16 k 16 = atA (k * 4) := fun k => by
  have := h2 16 32 (by decide) (by decide) k
  rw [show (k : Int) * 2 = ((k * 2 : Nat) : Int) by omega] at this
  exact this.trans ((s4 _).trans (by rw [Nat.mul_assoc]))
 have s2 : ∀ k : Nat, rootG 8 k 16 = atA (k * 8) := fun k => by
  have := h2 8 16 (by decide) (by decide) k
  rw [show (k : Int) * 2 = ((k * 2 : Nat) : Int) by omega] at this
  exact this.trans ((s3 _).trans (by rw [Nat.mul_assoc]))
 have s1 : ∀ k : Nat, rootG 4 k 16 = atA (k * 16) := fun k => by
  have := h2 4 8 (by decide) (by decide) k
  rw [show (k : Int) * 2 = ((k * 2 : Nat) : Int) by omega] at this
  exact this.trans ((s2 _).trans (by rw [Nat.mul_assoc]))
 rcases c with rfl | rfl | rfl | rfl | rfl
 ·exact ⟨16, s1⟩
 ·exact ⟨8, s2⟩
 ·exact ⟨4, s3⟩
 ·exact ⟨2, s4⟩
 ·exact ⟨1, s5⟩
def gsubS (a b : Gi) : Gi := ⟨a.re - b.re, a.im - b.im⟩
def gup (s : Int) (a : Gi) : Gi := ⟨a.re * s, a.im * s⟩
theorem A64_prods : ((List.range 64).all fun a : Nat => (List.range 64).all fun b : Nat => decide (nq (gsubS (gmul (atA a) (atA b)) (gup 1099511627776 (atA (a + b)))) ≤ 2720083094132915643088896)) = true := by decide +kernel
theorem A64_lens : ((List.range 64).all fun a : Nat => decide (nq (atA a) ≤ 1208925819616828197961729)) = true := by decide +kernel
theorem prod_near (n : Nat) (hn : IsLen n) (iv : Bool) (a b : Nat) : Len 1649267441664 (gsubS (gmul (wv n iv a) (wv n iv b)) (gup 1099511627776 (wv n iv (a + b)))) := by
 obtain ⟨q, hq⟩ := root_in64 n hn
 have h := List.all_eq_true.1 A64_prods (a * q % 64) (List.mem_range.2 (Nat.mod_lt _ (by decide)))
 have h := of_decide_eq_true (List.all_eq_true.1 h (b * q % 64) (List.mem_range.2 (Nat.mod_lt _ (by decide))))
 have e1 : ∀ i, atA (i % 64) = atA i := fun i => by unfold atA; rw [Nat.mod_mod]
 have e2 : atA (a * q % 64 + b * q % 64) = atA ((a + b) * q) := by rw [← e1 (a * q % 64 + b * q % 64), ← Nat.add_mod, e1, Nat.add_mul]
 rw [e2, e1, e1] at h
 unfold Len
 have hw : wv n iv a = (if iv then (atA (a * q)).conj else atA (a * q)) ∧ wv n iv b = (if iv then (atA (b * q)).conj else atA (b * q)) ∧ wv n iv (a + b) = (if iv then (atA ((a + b) * q)).conj else atA ((a + b) * q)) := by
  unfold wv
  rw [hq, hq, hq]
  exact ⟨rfl, rfl, rfl⟩
 rw [hw.1, hw.2.1, hw.2.2]
 generalize atA (a * q) = x at *
 generalize atA (b * q) = y at *
 generalize atA ((a + b) * q) = z at *
 unfold nq at h
 refine Int.le_trans (Int.le_of_eq ?_) h
 cases iv
 ·rfl
 ·simp only [if_true, gsubS, gmul, gup, Gi.conj]
  grind
theorem wv_len (n : Nat) (hn : IsLen n) (iv : Bool) (a : Nat) : Len 1099511627777 (wv n iv a) := by
 obtain ⟨q, hq⟩ := root_in64 n hn
 have h := of_decide_eq_true (List.all_eq_true.1 A64_lens (a * q % 64) (List.mem_range.2 (Nat.mod_lt _ (by decide))))
 have e1 : ∀ i, atA (i % 64) = atA i := fun i => by unfold atA; rw [Nat.mod_mod]
 rw [e1] at h
 unfold wv
 rw [hq]
 unfold Len
 unfold nq at h
 cases iv
 ·exact h
 ·simp only [if_true, Gi.conj]
  refine Int.le_trans (Int.le_of_eq ?_) h
  grind
theorem tw_nears : ([4, 8, 16, 32, 64].all fun n : Nat => (List.range n).all fun k : Nat => decide (nq (gsubS (gup 134217728 (rootG n k 43)) (rootG n k 16)) ≤ 5241760000000000) && decide (nq (gsubS (gup 2048 (rootG n k 27)) (rootG n k 16)) ≤ 2073600)) = true := by decide +kernel
end
end Go.Proofs.YtcgeabpibkejpaaGreat
