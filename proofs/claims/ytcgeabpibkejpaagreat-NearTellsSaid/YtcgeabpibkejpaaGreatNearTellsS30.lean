import Derived.Test.YtcgeabpibkejpaaGreatNearTellsS29
namespace Go.Proofs.YtcgeabpibkejpaaGreat
section
open Go.ChangeShapes Go.WideShapes Go.ChangeAt Go.RowKit
set_option linter.unusedVariables false
set_option linter.unusedSimpArgs false
set_option maxRecDepth 100000
theorem nearView_no (fo lo ke sc mo ex : Int) (iv sa : Bool) (p px sp : Option Addr) (cap cx cl : Nat) (xs ys : List Gi) (ls : List Int) (hls : ls.length ≤ 10) (y : Int) (hy : whyV fo lo ke sc mo ex xs ys ls = y) (h0 : ¬ y = 0) (w : World) (hv : CxsAt w (.slice p xs.length cap) xs) (hyv : CxsAt w (.slice px ys.length cx) ys) (hl : NumsAt w (.slice sp ls.length cl) ls) :
 Calls Tryz.prog 49 #[.slice p xs.length cap, .agg #[.int .i64 fo, .int .i64 lo, .int .i64 ke, .int .i64 sc, .int .i64 mo, .bool iv], .agg #[.slice px ys.length cx, .int .i64 ex, .bool sa, .slice sp ls.length cl]] w fun e w' => e = .returned (.tuple #[.agg #[.slice none 0 0, .int .i64 0, .bool false, .slice none 0 0, .int .i64 0, .int .i64 0, .int .i64 0, .int .i64 0, .int .i64 0, .bool false, .slice none 0 0, .int .i64 0, .int .i64 0], .int .i64 y]) ∧ Gr w w' := by
 have hyb : (y == 0) = false := by simp [h0]
 by_cases hw : whyB fo lo ke sc mo false xs = 0
 ·have HU : ∀ W, CxsAt W (.slice p xs.length cap) xs → Calls Tryz.prog 6 #[.slice p xs.length cap, .agg #[.int .i64 fo, .int .i64 lo, .int .i64 ke, .int .i64 sc, .int .i64 mo, .bool iv]] W fun e w' => e = .returned (.tuple #[.int .i64 (upU fo sc xs), .int .i64 0]) ∧ Gr W w' := fun W h => by
   have := nearUp_c fo lo ke sc mo iv _ xs W h
   rw [if_pos hw, hw] at this
   exact this
  obtain ⟨h1, h2, h3⟩ := why_yes hw
  have H := plF_of h1
  have hm := manB_iff.1 h3
  have hu := upU_bd fo sc xs
  have HA := fun W (h : CxsAt W (.slice px ys.length cx) ys) => nearAre_c H.fb _ ys W h
  unfold whyV at hy
  rw [if_pos hw] at hy
  by_cases hlen : ys.length = xs.length
  ·rw [if_pos hlen] at hy
   rw [hlen] at HA hyv ⊢
   have hmb : (((xs.length : Nat) : Int) == ((xs.length : Nat) : Int)) = true := by simp
   by_cases hp : partsB (-(oneB fo)) (oneB fo - 1) ys = true
   ·rw [hp] at HA
    by_cases hlo : ex < -(upU fo sc xs)
    ·rw [if_neg (by omega)] at hy
     subst hy
     exact nView_low p px sp xs.length cap cx ls.length cl xs ys ls fo lo ke sc mo ex iv sa _ hu.1 hu.2 hlo hmb (Lib.hid HU) (Lib.hid HA) w hv hyv hl
    ·by_cases hhi : 20 - upU fo sc xs < ex
     ·rw [if_neg (by omega)] at hy
      subst hy
      exact nView_high p px sp xs.length cap cx ls.length cl xs ys ls fo lo ke sc mo ex iv sa _ hu.1 hu.2 hlo hhi hmb (Lib.hid HU) (Lib.hid HA) w hv hyv hl
     ·rw [if_pos ⟨hp, by omega, by omega⟩] at hy
      by_cases hf : fitsB sc (passL ke lo) ls = true
      ·rw [if_pos hf] at hy
       exact absurd hy.symm h0
      ·rw [if_neg hf] at hy
       subst hy
       exact nView_arg p px sp xs.length cap cx ls.length cl xs ys ls fo lo ke sc mo ex iv sa _ 1 hu.1 hu.2 hlo hhi hmb (by decide) (by decide) (Lib.hid HU) (Lib.hid HA) (Lib.hid fun W h => budgetOf_arg fo lo ke sc mo iv h1 sp cl ls hls (by simpa using hf) W h) w hv hyv hl
   ·rw [if_neg (by intro h; exact hp h.1)] at hy
    subst hy
    have hp' : partsB (-(oneB fo)) (oneB fo - 1) ys = false := by simpa using hp
    rw [hp'] at HA
    exact nView_parts p px sp xs.length cap cx ls.length cl xs ys ls fo lo ke sc mo ex iv sa _ hmb (Lib.hid HU) (Lib.hid HA) w hv hyv hl
  ·rw [if_neg hlen] at hy
   subst hy
   exact nView_size p px sp xs.length cap ys.length cx ls.length cl xs ys ls fo lo ke sc mo ex iv sa _ (by omega) (by simp; omega) (Lib.hid HU) w hv hyv hl
 ·have HU : ∀ W, CxsAt W (.slice p xs.length cap) xs → Calls Tryz.prog 6 #[.slice p xs.length cap, .agg #[.int .i64 fo, .int .i64 lo, .int .i64 ke, .int .i64 sc, .int .i64 mo, .bool iv]] W fun e w' => e = .returned (.tuple #[.int .i64 0, .int .i64 y]) ∧ Gr W w' := fun W h => by
   have := nearUp_c fo lo ke sc mo iv _ xs W h
   unfold whyV at hy
   rw [if_neg hw] at hy
   rw [if_neg hw, hy] at this
   exact this
  exact nView_up p px sp xs.length cap ys.length cx ls.length cl xs ys ls fo lo ke sc mo ex iv sa y h0 hyb (Lib.hid HU) w hv hyv hl
theorem upV_room {fo b p lo ke sc mo : Int} {L n B : Nat} (H : PlF fo b p lo ke sc mo L n B) {xs : List Gi} (hm : ManB p xs) (u : Int) (h0 : 0 ≤ u) (h1 : u ≤ 31) : allIn (2 ^ (62 + -u).toNat) xs = true := by
 refine allIn_more hm.all (Int.le_trans (show p ≤ 2 ^ 31 by rcases H.sizes with h | h <;> omega) ?_)
 have : (2 : Nat) ^ 31 ≤ 2 ^ (62 + -u).toNat := Nat.pow_le_pow_right (by decide) (by omega)
 exact_mod_cast this
theorem nearView_yes (fo lo ke sc mo ex : Int) (iv sa : Bool) (p px sp : Option Addr) (cap cx cl : Nat) (xs ys : List Gi) (ls : List Int) (hy : whyV fo lo ke sc mo ex xs ys ls = 0) (w : World) (hv : CxsAt w (.slice p xs.length cap) xs) (hyv : CxsAt w (.slice px ys.length cx) ys) (hl : NumsAt w (.slice sp ls.length cl) ls) :
 Calls Tryz.prog 49 #[.slice p xs.length cap, .agg #[.int .i64 fo, .int .i64 lo, .int .i64 ke, .int .i64 sc, .int .i64 mo, .bool iv], .agg #[.slice px ys.length cx, .int .i64 ex, .bool sa, .slice sp ls.length cl]] w fun e w' => ∃ vz, e = .returned (.tuple #[.agg #[.slice px ys.length cx, .int .i64 ex, .bool sa, .slice sp ls.length cl, .int .i64 fo, .int .i64 lo, .int .i64 ke, .int .i64 sc, .int .i64 mo, .bool iv, vz, .int .i64 (ex + upU fo sc xs), .int .i64 (ofB sc ke lo ls)], .int .i64 0]) ∧ CxsAt w' vz (upX sc (oneB fo) mo xs) ∧ Gr w w' := by
 obtain ⟨hw, hlen, hp, hex, hf⟩ := why_zero hy
 ·have HU : ∀ W, CxsAt W (.slice p xs.length cap) xs → Calls Tryz.prog 6 #[.slice p xs.length cap, .agg #[.int .i64 fo, .int .i64 lo, .int .i64 ke, .int .i64 sc, .int .i64 mo, .bool iv]] W fun e w' => e = .returned (.tuple #[.int .i64 (upU fo sc xs), .int .i64 0]) ∧ Gr W w' := fun W h => by
   have := nearUp_c fo lo ke sc mo iv _ xs W h
   rw [if_pos hw, hw] at this
   exact this
  obtain ⟨h1, h2, h3⟩ := why_yes hw
  have H := plF_of h1
  have hm := manB_iff.1 h3
  have hu := upU_bd fo sc xs
  have HA := fun W (h : CxsAt W (.slice px ys.length cx) ys) => nearAre_c H.fb _ ys W h
  rw [hp] at HA
  have h4 := H.lens.2.1
  rw [hlen] at HA hyv ⊢
  refine nView_ok p px sp xs.length cap cx ls.length cl xs ys ls fo lo ke sc mo ex iv sa (upU fo sc xs) _ _ _ (upX sc (oneB fo) mo xs) (by rw [upX_len]; omega) hu.1 hu.2 (by omega) (by omega) rfl rfl (by simp) (Lib.hid HU) (Lib.hid HA) (Lib.hid fun W h => budgetOf_ok fo lo ke sc mo iv h1 sp cl ls hf W h) (Lib.hid fun W h => ?_) w hv hyv hl
  rw [← up_shifted H mo H.kinds.1 xs]
  exact scanShifted_ok _ xs _ mo (by omega) (by omega) (by have := H.kinds.1; omega) (by have := H.kinds.1; omega) (man_wf H hm) (fun _ => upV_room H hm _ hu.1 hu.2) (by omega) W h
theorem nearFar_no (fo lo ke sc mo ex : Int) (iv sa : Bool) (p px sp : Option Addr) (cap cx cl : Nat) (xs ys : List Gi) (ls : List Int) (hls : ls.length ≤ 10) (y : Int) (hy : whyV fo lo ke sc mo ex xs ys ls = y) (h0 : ¬ y = 0) (w : World) (hv : CxsAt w (.slice p xs.length cap) xs) (hyv : CxsAt w (.slice px ys.length cx) ys) (hl : NumsAt w (.slice sp ls.length cl) ls) :
 Calls Tryz.prog 7 #[.slice p xs.length cap, .agg #[.int .i64 fo, .int .i64 lo, .int .i64 ke, .int .i64 sc, .int .i64 mo, .bool iv], .agg #[.slice px ys.length cx, .int .i64 ex, .bool sa, .slice sp ls.length cl]] w fun e w' => e = .returned (.tuple #[.int .i64 0, .int .i64 y]) ∧ Gr w w' :=
 nFar_told p px sp xs.length cap ys.length cx ls.length cl xs ys ls fo lo ke sc mo ex iv sa _ y (Lib.hid fun W a b c => nTold_int_no p px sp xs.length cap ys.length cx ls.length cl xs ys ls fo lo ke sc mo ex iv sa _ y h0 (by simp [h0]) (Lib.hid fun W a b c => nearView_no fo lo ke sc mo ex iv sa p px sp cap cx cl xs ys ls hls y hy h0 W a b c) W a b c) w hv hyv hl
theorem nearBound_no (fo lo ke sc mo ex : Int) (iv sa : Bool) (p px sp : Option Addr) (cap cx cl : Nat) (xs ys : List Gi) (ls : List Int) (hls : ls.length ≤ 10) (y : Int) (hy : whyV fo lo ke sc mo ex xs ys ls = y) (h0 : ¬ y = 0) (w : World) (hv : CxsAt w (.slice p xs.length cap) xs) (hyv : CxsAt w (.slice px ys.length cx) ys) (hl : NumsAt w (.slice sp ls.length cl) ls) :
 Calls Tryz.prog 8 #[.slice p xs.length cap, .agg #[.int .i64 fo, .int .i64 lo, .int .i64 ke, .int .i64 sc, .int .i64 mo, .bool iv], .agg #[.slice px ys.length cx, .int .i64 ex, .bool sa, .slice sp ls.length cl]] w fun e w' => e = .returned (.tuple #[.int .i64 0, .int .i64 y]) ∧ Gr w w' :=
 nBound_told p px sp xs.length cap ys.length cx ls.length cl xs ys ls fo lo ke sc mo ex iv sa _ y (Lib.hid fun W a b c => nTold_int_no p px sp xs.length cap ys.length cx ls.length cl xs ys ls fo lo ke sc mo ex iv sa _ y h0 (by simp [h0]) (Lib.hid fun W a b c => nearView_no fo lo ke sc mo ex iv sa p px sp cap cx cl xs ys ls hls y hy h0 W a b c) W a b c) w hv hyv hl
theorem nearWithin_no (fo lo ke sc mo ex : Int) (iv sa : Bool) (p px sp : Option Addr) (cap cx cl : Nat) (xs ys : List Gi) (ls : List Int) (hls : ls.length ≤ 10) (y : Int) (hy : whyV fo lo ke sc mo ex xs ys ls = y) (h0 : ¬ y = 0) (w : World) (hv : CxsAt w (.slice p xs.length cap) xs) (hyv : CxsAt w (.slice px ys.length cx) ys) (hl : NumsAt w (.slice sp ls.length cl) ls) :
 Calls Tryz.prog 9 #[.slice p xs.length cap, .agg #[.int .i64 fo, .int .i64 lo, .int .i64 ke, .int .i64 sc, .int .i64 mo, .bool iv], .agg #[.slice px ys.length cx, .int .i64 ex, .bool sa, .slice sp ls.length cl]] w fun e w' => e = .returned (.tuple #[.bool false, .int .i64 y]) ∧ Gr w w' :=
 nWithin_told p px sp xs.length cap ys.length cx ls.length cl xs ys ls fo lo ke sc mo ex iv sa _ y (Lib.hid fun W a b c => nTold_bool_no p px sp xs.length cap ys.length cx ls.length cl xs ys ls fo lo ke sc mo ex iv sa _ y h0 (by simp [h0]) (Lib.hid fun W a b c => nearView_no fo lo ke sc mo ex iv sa p px sp cap cx cl xs ys ls hls y hy h0 W a b c) W a b c) w hv hyv hl
theorem slice_len {w : World} {p : Option Addr} {n c : Nat} {xs : List Gi} (h : CxsAt w (.slice p n c) xs) : n = xs.length := by
 obtain ⟨p', c', e⟩ := h.len
 cases e
 rfl
theorem near_facts {fo lo ke sc mo ex : Int} {xs ys : List Gi} {ls : List Int} (hy : whyV fo lo ke sc mo ex xs ys ls = 0) :
 (∃ L, IsLog ((ys.length : Nat) : Int) L) ∧ (upX sc (oneB fo) mo xs).length = ys.length ∧ allIn 2147483648 ys = true ∧ allIn 2147483648 (upX sc (oneB fo) mo xs) = true ∧ (0 ≤ ex + upU fo sc xs ∧ ex + upU fo sc xs ≤ 20) ∧ (0 ≤ ofB sc ke lo ls ∧ ofB sc ke lo ls ≤ 16778560) := by
 obtain ⟨hw, hlen, hp, hex, hf⟩ := why_zero hy
 obtain ⟨h1, h2, h3⟩ := why_yes hw
 have H := plF_of h1
 have hm := manB_iff.1 h3
 have hp2 : oneB fo ≤ 2147483648 := by rcases H.sizes with h | h <;> omega
 obtain ⟨⟨l2, l6⟩, h4, _⟩ := H.lens
 have hlo := H.lo
 exact ⟨⟨lo.toNat, l2, l6, by rw [hlen, h2]⟩, by rw [upX_len, hlen], allIn_more (manB_iff.1 hp).all hp2, allIn_more (up_man H hm).all hp2, by omega, of_bd H.kinds.2.2.2.1 H.kinds.2.2.2.2 (by omega) (by omega) hf⟩
theorem nearFar_yes (fo lo ke sc mo ex : Int) (iv sa : Bool) (p px sp : Option Addr) (cap cx cl : Nat) (xs ys : List Gi) (ls : List Int) (hy : whyV fo lo ke sc mo ex xs ys ls = 0) (w : World) (hv : CxsAt w (.slice p xs.length cap) xs) (hyv : CxsAt w (.slice px ys.length cx) ys) (hl : NumsAt w (.slice sp ls.length cl) ls) :
 Calls Tryz.prog 7 #[.slice p xs.length cap, .agg #[.int .i64 fo, .int .i64 lo, .int .i64 ke, .int .i64 sc, .int .i64 mo, .bool iv], .agg #[.slice px ys.length cx, .int .i64 ex, .bool sa, .slice sp ls.length cl]] w fun e w' => e = .returned (.tuple #[.int .i64 (farV fo sc mo ex iv xs ys), .int .i64 0]) ∧ Gr w w' := by
 obtain ⟨⟨L, hL⟩, f1, f2, f3, f4, f5⟩ := near_facts (mo := mo) hy
 have hlen := (why_zero hy).2.1
 refine nFar_told p px sp xs.length cap ys.length cx ls.length cl xs ys ls fo lo ke sc mo ex iv sa _ 0 (Lib.hid fun W a b c => nTold_int_ok p px sp xs.length cap ys.length cx ls.length cl xs ys ls fo lo ke sc mo ex iv sa _ (enters_of rfl rfl rfl) _ _ _ _ (Lib.hid fun W a b c => nearView_yes fo lo ke sc mo ex iv sa p px sp cap cx cl xs ys ls hy W a b c) (Lib.hid fun W zp k zc a b => ?_) W a b c) w hv hyv hl
 obtain rfl := slice_len b
 rw [f1] at b ⊢
 have := nearFar_c p px sp zp ys.length cx ls.length cl zc L hL ys _ rfl f1 f2 f3 fo lo ke sc mo ex (ex + upU fo sc xs) (ofB sc ke lo ls) iv sa f4.1 f4.2 W a b
 unfold farV powV
 rw [← hlen]
 exact this
theorem nearBound_yes (fo lo ke sc mo ex : Int) (iv sa : Bool) (p px sp : Option Addr) (cap cx cl : Nat) (xs ys : List Gi) (ls : List Int) (hy : whyV fo lo ke sc mo ex xs ys ls = 0) (w : World) (hv : CxsAt w (.slice p xs.length cap) xs) (hyv : CxsAt w (.slice px ys.length cx) ys) (hl : NumsAt w (.slice sp ls.length cl) ls) :
 Calls Tryz.prog 8 #[.slice p xs.length cap, .agg #[.int .i64 fo, .int .i64 lo, .int .i64 ke, .int .i64 sc, .int .i64 mo, .bool iv], .agg #[.slice px ys.length cx, .int .i64 ex, .bool sa, .slice sp ls.length cl]] w fun e w' => e = .returned (.tuple #[.int .i64 (boundV fo lo ke sc mo ex xs ls), .int .i64 0]) ∧ Gr w w' := by
 obtain ⟨⟨L, hL⟩, f1, f2, f3, f4, f5⟩ := near_facts (mo := mo) hy
 have hlen := (why_zero hy).2.1
 refine nBound_told p px sp xs.length cap ys.length cx ls.length cl xs ys ls fo lo ke sc mo ex iv sa _ 0 (Lib.hid fun W a b c => nTold_int_ok p px sp xs.length cap ys.length cx ls.length cl xs ys ls fo lo ke sc mo ex iv sa _ (enters_of rfl rfl rfl) _ _ _ _ (Lib.hid fun W a b c => nearView_yes fo lo ke sc mo ex iv sa p px sp cap cx cl xs ys ls hy W a b c) (Lib.hid fun W zp k zc a b => ?_) W a b c) w hv hyv hl
 obtain rfl := slice_len b
 rw [f1] at b ⊢
 have := nearBound_c px sp zp ys.length cx ls.length cl zc L hL _ f1 f3 fo lo ke sc mo ex (ex + upU fo sc xs) (ofB sc ke lo ls) iv sa f4.1 f4.2 f5.1 f5.2 W b
 unfold boundV powV
 rw [← hlen]
 exact this
theorem nearWithin_yes (fo lo ke sc mo ex : Int) (iv sa : Bool) (p px sp : Option Addr) (cap cx cl : Nat) (xs ys : List Gi) (ls : List Int) (hy : whyV fo lo ke sc mo ex xs ys ls = 0) (w : World) (hv : CxsAt w (.slice p xs.length cap) xs) (hyv : CxsAt w (.slice px ys.length cx) ys) (hl : NumsAt w (.slice sp ls.length cl) ls) :
 Calls Tryz.prog 9 #[.slice p xs.length cap, .agg #[.int .i64 fo, .int .i64 lo, .int .i64 ke, .int .i64 sc, .int .i64 mo, .bool iv], .agg #[.slice px ys.length cx, .int .i64 ex, .bool sa, .slice sp ls.length cl]] w fun e w' => e = .returned (.tuple #[.bool (decide (farV fo sc mo ex iv xs ys ≤ boundV fo lo ke sc mo ex xs ls)), .int .i64 0]) ∧ Gr w w' := by
 obtain ⟨⟨L, hL⟩, f1, f2, f3, f4, f5⟩ := near_facts (mo := mo) hy
 have hlen := (why_zero hy).2.1
 refine nWithin_told p px sp xs.length cap ys.length cx ls.length cl xs ys ls fo lo ke sc mo ex iv sa _ 0 (Lib.hid fun W a b c => nTold_bool_ok p px sp xs.length cap ys.length cx ls.length cl xs ys ls fo lo ke sc mo ex iv sa _ (enters_of rfl rfl rfl) _ _ _ _ (Lib.hid fun W a b c => nearView_yes fo lo ke sc mo ex iv sa p px sp cap cx cl xs ys ls hy W a b c) (Lib.hid fun W zp k zc a b => ?_) W a b c) w hv hyv hl
 obtain rfl := slice_len b
 rw [f1] at b ⊢
 have hf := fun W a b => nearFar_c p px sp zp ys.length cx ls.length cl zc L hL ys _ rfl f1 f2 f3 fo lo ke sc mo ex (ex + upU fo sc xs) (ofB sc ke lo ls) iv sa f4.1 f4.2 W a b
 have hb := fun W b => nearBound_c px sp zp ys.length cx ls.length cl zc L hL _ f1 f3 fo lo ke sc mo ex (ex + upU fo sc xs) (ofB sc ke lo ls) iv sa f4.1 f4.2 f5.1 f5.2 W b
 have := nWithin_of px sp zp ys.length cx ls.length cl ys.length zc ys _ fo lo ke sc mo ex (ex + upU fo sc xs) (ofB sc ke lo ls) _ _ iv sa (Lib.hid hf) (Lib.hid hb) W a b
 unfold farV boundV powV
 rw [← hlen]
 exact this
theorem alive17_c (w : World) : Calls Tryz.prog 12 #[] w fun e w' => e = .returned (.bool true) ∧ Gr w w' := by
 have hw : whyV 0 2 0 2 0 0 [⟨1, 0⟩, ⟨2, 0⟩, ⟨3, 0⟩, ⟨4, 0⟩] [⟨10, 0⟩, ⟨-2, 2⟩, ⟨-2, 0⟩, ⟨-2, -3⟩] [0, 0] = 0 := by kernel_rfl
 have hf : farV 0 2 0 0 false [⟨1, 0⟩, ⟨2, 0⟩, ⟨3, 0⟩, ⟨4, 0⟩] [⟨10, 0⟩, ⟨-2, 2⟩, ⟨-2, 0⟩, ⟨-2, -3⟩] = 256 := by kernel_rfl
 have hb : boundV 0 2 0 2 0 0 [⟨1, 0⟩, ⟨2, 0⟩, ⟨3, 0⟩, ⟨4, 0⟩] [0, 0] = 7298 := by kernel_rfl
 refine alive17_of (Lib.hid fun sp cl sy cy ss cs W a b c => ?_) (Lib.hid fun sp cl sy cy ss cs W a b c => ?_) w
 ·have h := nearFar_yes 0 2 0 2 0 0 false false sp sy ss cl cy cs [⟨1, 0⟩, ⟨2, 0⟩, ⟨3, 0⟩, ⟨4, 0⟩] [⟨10, 0⟩, ⟨-2, 2⟩, ⟨-2, 0⟩, ⟨-2, -3⟩] [0, 0] hw W a b c
  rw [hf] at h
  exact h
 ·have h := nearBound_yes 0 2 0 2 0 0 false false sp sy ss cl cy cs [⟨1, 0⟩, ⟨2, 0⟩, ⟨3, 0⟩, ⟨4, 0⟩] [⟨10, 0⟩, ⟨-2, 2⟩, ⟨-2, 0⟩, ⟨-2, -3⟩] [0, 0] hw W a b c
  rw [hb] at h
  exact h
theorem floor20_c (x : Int) (wx : -9223372036854775808 ≤ x ∧ x ≤ 9223372036854775807) (w : World) :
 Calls Tryz.prog 63 #[.int .i64 x, .int .i64 20] w fun e w' => e = .returned (.int .i64 (x / 1048576)) ∧ Gr w w' :=
 calls_gr (floor_c x 20 wx (by decide) (by decide) w)
theorem floor12_c (x : Int) (wx : -9223372036854775808 ≤ x ∧ x ≤ 9223372036854775807) (w : World) :
 Calls Tryz.prog 63 #[.int .i64 x, .int .i64 12] w fun e w' => e = .returned (.int .i64 (x / 4096)) ∧ Gr w w' :=
 calls_gr (floor_c x 12 wx (by decide) (by decide) w)
theorem pow20_c (w : World) : Calls Tryz.prog 26 #[.int .i64 20] w fun e w' => e = .returned (.int .i64 1048576) ∧ Gr w w' := calls_gr (pow_c 20 (by decide) (by decide) w)
set_option maxHeartbeats 2000000 in
theorem norm16_of (h l up H m L : Int) (HF : CR 63 #[.int .i64 l, .int .i64 20] (.int .i64 up)) (HP : CR 26 #[.int .i64 20] (.int .i64 1048576))
 (e1 : IntKind.i64.wrap (h + up) = H) (e2 : IntKind.i64.wrap (up * 1048576) = m) (e3 : IntKind.i64.wrap (l - m) = L) (w : World) :
 Calls Tryz.prog 117 #[.agg #[.int .i64 h, .int .i64 l]] w fun e w' => e = .returned (.agg #[.int .i64 H, .int .i64 L]) ∧ Gr w w' := by
 go_enter Tryz.func117, Tryz.ntmps117
 go_wp2_with fail
 obtain ⟨u0, hU⟩ : ∃ uu, uu = ((w.alloc (.cells #[.int .i64 h, .int .i64 l] 123)).alloc (.cells #[.int .i64 0, .int .i64 0] 123)) := ⟨_, rfl⟩
 have ⟨gu, R0, R1⟩ := lay2 hU
 rw [← hU]
 clear hU
 have lp := R0.lt
 have lr := R1.lt
 obtain ⟨cp0, cp1⟩ := R0.t2
 go_wp2_with fail
 clear cp0 cp1
 refine (HF.out _).mono ?_
 rintro e w1 ⟨rfl, g1⟩
 have ⟨Fp_1, lp_1⟩ := CellsAt.gl (R0) g1
 have ⟨Fr_1, lr_1⟩ := CellsAt.gl (R1) g1
 have z1 := (gu).trans g1
 clear R0 R1 gu g1
 go_wp2_with fail
 obtain ⟨v1, hqp1⟩ : ∃ zz, zz = w1 := ⟨_, rfl⟩
 have Yp_p1 : CellsAt v1 (w.heap.size) 123 #[.int .i64 h, .int .i64 l] := by rw [hqp1]; first | exact Fp_1 | simpa using Fp_1
 have Yr_p1 : CellsAt v1 (w.heap.size + 1) 123 #[.int .i64 0, .int .i64 0] := by rw [hqp1]; first | exact Fr_1 | simpa using Fr_1
 have yp1 : Gr w v1 := by rw [hqp1]; exact z1
 rw [← hqp1]
 clear hqp1
 have KS : ∀ W, GB (w.heap.size + 1) v1 W → (W.cell? ⟨w.heap.size, 0, none⟩ = some (.int .i64 h) ∧ W.cell? ⟨w.heap.size, 1, none⟩ = some (.int .i64 l)) := fun W hG => ⟨(GB.cellsAt hG Yp_p1 (by omega)).cell 0, (GB.cellsAt hG Yp_p1 (by omega)).cell 1⟩
 have hclG := gb_closed (w.heap.size + 1) v1
 try simp only [List.append_eq, List.cons_append, List.nil_append]
 refine wp_region_grow (S := GB (w.heap.size + 1) v1) rfl (GB.drew (GB.refl _ _)) ?_
 refine gT 0 hclG ?_
 refine gK 1 hclG KS ?_
 refine gT 2 hclG ?_
 refine gT 3 hclG ?_
 refine gT 4 hclG ?_
 refine gK 5 hclG KS ?_
 refine gT 6 hclG ?_
 refine wpG_call (i := 7) hclG rfl (by kernel_rfl) (by kernel_rfl) (by kernel_rfl) (fun _ _ _ h => h) (fun W _ => HP.out W) (by rfl) ?_ ?_
 ·(intro w' hSw; go_simp; try with_reducible rfl)
 try simp only [Act.put, putS]
 refine gT 8 hclG ?_
 refine gT 9 hclG ?_
 refine gT 10 hclG ?_
 refine wpG_ready (rs := [11]) (by kernel_rfl) (by simp) (fun w2 g2 s2 => ?_)
 refine AllG.cons rfl (fun K hK => ?_) AllG.nil
 replace g2 := (Gr.drew (Gr.refl v1)).trans g2
 have ⟨Fp_2, lp_2⟩ := CellsAt.gl (Yp_p1) g2
 have ⟨Fr_2, lr_2⟩ := CellsAt.gl (Yr_p1) g2
 have z2 := (yp1).trans g2
 clear Yp_p1 Yr_p1 yp1 g2
 have mr0 := CellsAt.frozen (Fr_2) 0
 have cr0 := Fr_2.at 0
 have mr1 := CellsAt.frozen (Fr_2) 1
 have cr1 := Fr_2.at 1
 go_simp
 clear mr0 cr0 mr1 cr1
 refine hK.out _ _ ?_ ?_
 ·exact (GB.set (GB.set s2 _ _) _ _)
 clear hK K
 try simp only [Act.put, putS]
 refine wpG_done (by kernel_rfl) (fun w3 g3 => ?_) _
 have ⟨Fp_3, lp_3⟩ := CellsAt.gl (((Fp_2).other (by omega) _ _).other (by omega) _ _) g3
 have ⟨Fr_3, lr_3⟩ := CellsAt.gl (CellsAt.set2 (Fr_2) _ _) g3
 have z3 := (((z2).setCell (by first | omega | (simp only; omega)) _).setCell (by first | omega | (simp only; omega)) _).trans g3
 clear g3
 clear hclG KS
 obtain ⟨cr0, cr1⟩ := Fr_3.t2
 go_wp2_with fail
 clear cr0 cr1
 obtain ⟨uf, hqp2⟩ : ∃ zz, zz = w3 := ⟨_, rfl⟩
 have Yp_p2 : CellsAt uf (w.heap.size) 123 #[.int .i64 h, .int .i64 l] := by rw [hqp2]; first | exact Fp_3 | simpa using Fp_3
 have Yr_p2 : CellsAt uf (w.heap.size + 1) 123 #[.int .i64 H, .int .i64 L] := by rw [hqp2]; first | exact Fr_3 | simpa using Fr_3
 have yp2 : Gr w uf := by rw [hqp2]; exact z3
 rw [← hqp2]
 clear hqp2
 obtain ⟨cr0, cr1⟩ := Yr_p2.t2
 refine bodyPost_ret (v := .agg #[.int .i64 H, .int .i64 L]) ?_ rfl ⟨rfl, yp2⟩
 simp [results, Tryz.results117, go_sem, *]
theorem norm16_c (h l : Int) (h0 : -4611686018427387904 ≤ h ∧ h ≤ 4611686018427387904) (l0 : -4611686018427387904 ≤ l ∧ l ≤ 4611686018427387904) (w : World) :
 Calls Tryz.prog 117 #[.agg #[.int .i64 h, .int .i64 l]] w fun e w' => e = .returned (.agg #[.int .i64 (wdH (h * 1048576 + l)), .int .i64 (wdL (h * 1048576 + l))]) ∧ Gr w w' := by
 rw [← (wd_norm h l).1, ← (wd_norm h l).2]
 exact norm16_of h l (l / 1048576) _ (l / 1048576 * 1048576) _ (Lib.hid (floor20_c l ⟨by omega, by omega⟩)) (Lib.hid pow20_c) (IntWalk.i64_in _ ⟨by omega, by omega⟩) (IntWalk.i64_in _ ⟨by omega, by omega⟩) (IntWalk.i64_in _ ⟨by omega, by omega⟩) w
set_option maxHeartbeats 2000000 in
theorem times16_of (a b up m rest p q r0 r1 : Int) (HF : CR 63 #[.int .i64 b, .int .i64 20] (.int .i64 up)) (HP : CR 26 #[.int .i64 20] (.int .i64 1048576))
 (e1 : wrap64 (up * 1048576) = m) (e2 : wrap64 (b - m) = rest) (e3 : wrap64 (a * up) = p) (e4 : wrap64 (a * rest) = q) (HN : CR 117 #[.agg #[.int .i64 p, .int .i64 q]] (.agg #[.int .i64 r0, .int .i64 r1])) (w : World) :
 Calls Tryz.prog 88 #[.int .i64 a, .int .i64 b] w fun e w' => e = .returned (.agg #[.int .i64 r0, .int .i64 r1]) ∧ Gr w w' := by
 go_enter Tryz.func88, Tryz.ntmps88
 go_wp2_with fail
 obtain ⟨u0, hU⟩ : ∃ uu, uu = (w.alloc (.cells #[.int .i64 0, .int .i64 0] 123)) := ⟨_, rfl⟩
 have ⟨gu, R0⟩ := lay1 hU
 rw [← hU]
 clear hU
 have lr := R0.lt
 go_wp2_with fail
 refine (HF.out _).mono ?_
 rintro e w1 ⟨rfl, g1⟩
 have ⟨Fr_1, lr_1⟩ := CellsAt.gl (R0) g1
 have z1 := (gu).trans g1
 clear R0 gu g1
 go_wp2_with fail
 refine (HP.out _).mono ?_
 rintro e w2 ⟨rfl, g2⟩
 have ⟨Fr_2, lr_2⟩ := CellsAt.gl (Fr_1) g2
 have z2 := (z1).trans g2
 clear Fr_1 z1 g2
 go_wp2_with fail
 refine (HN.out _).mono ?_
 rintro e w3 ⟨rfl, g3⟩
 have ⟨Fr_3, lr_3⟩ := CellsAt.gl (Fr_2) g3
 have z3 := (z2).trans g3
 clear Fr_2 z2 g3
 have mr0 := CellsAt.frozen (Fr_3) 0
 have cr0 := Fr_3.at 0
 have mr1 := CellsAt.frozen (Fr_3) 1
 have cr1 := Fr_3.at 1
 go_wp2_with fail
 clear mr0 cr0 mr1 cr1
 obtain ⟨uf, hqp1⟩ : ∃ zz, zz = ((w3.setCell ⟨w.heap.size, 0, none⟩ (.int .i64 r0)).setCell ⟨w.heap.size, 1, none⟩ (.int .i64 r1)) := ⟨_, rfl⟩
 have Yr_p1 : CellsAt uf (w.heap.size) 123 #[.int .i64 r0, .int .i64 r1] := by rw [hqp1]; first | exact CellsAt.set2 (Fr_3) _ _ | simpa using CellsAt.set2 (Fr_3) _ _
 have yp1 : Gr w uf := by rw [hqp1]; exact ((z3).setCell (by first | omega | (simp only; omega)) _).setCell (by first | omega | (simp only; omega)) _
 rw [← hqp1]
 clear hqp1
 obtain ⟨cr0, cr1⟩ := Yr_p1.t2
 refine bodyPost_ret (v := .agg #[.int .i64 r0, .int .i64 r1]) ?_ rfl ⟨rfl, yp1⟩
 simp [results, Tryz.results88, go_sem, *]
theorem times16_c (a b : Int) (ha : -2147483648 ≤ a ∧ a ≤ 2147483648) (hb : -1099511627776 ≤ b ∧ b ≤ 1099511627776) (w : World) :
 Calls Tryz.prog 88 #[.int .i64 a, .int .i64 b] w fun e w' => e = .returned (.agg #[.int .i64 (wdH (a * b)), .int .i64 (wdL (a * b))]) ∧ Gr w w' := by
 obtain ⟨b1, b2, b3, _⟩ := wd_times_bd a b ha hb
 have hn := norm16_c (a * (b / 1048576)) (a * (b - b / 1048576 * 1048576)) ⟨by omega, by omega⟩ ⟨by omega, by omega⟩
 rw [wd_times] at hn
 exact times16_of a b (b / 1048576) (b / 1048576 * 1048576) (b - b / 1048576 * 1048576) _ _ _ _ (Lib.hid (floor20_c b ⟨by omega, by omega⟩)) (Lib.hid pow20_c) (IntWalk.wrap64_in _ ⟨by omega, by omega⟩) (IntWalk.wrap64_in _ ⟨by omega, by omega⟩) (IntWalk.wrap64_in _ ⟨by omega, by omega⟩) (IntWalk.wrap64_in _ ⟨by omega, by omega⟩) (Lib.hid hn) w
set_option maxHeartbeats 2000000 in
theorem add16_of (ah al bh bl p q r0 r1 : Int) (e1 : wrap64 (ah + bh) = p) (e2 : wrap64 (al + bl) = q) (HN : CR 117 #[.agg #[.int .i64 p, .int .i64 q]] (.agg #[.int .i64 r0, .int .i64 r1])) (w : World) :
 Calls Tryz.prog 87 #[.agg #[.int .i64 ah, .int .i64 al], .agg #[.int .i64 bh, .int .i64 bl]] w fun e w' => e = .returned (.agg #[.int .i64 r0, .int .i64 r1]) ∧ Gr w w' := by
 go_enter Tryz.func87, Tryz.ntmps87
 go_wp2_with fail
 obtain ⟨u0, hU⟩ : ∃ uu, uu = (((w.alloc (.cells #[.int .i64 ah, .int .i64 al] 123)).alloc (.cells #[.int .i64 bh, .int .i64 bl] 123)).alloc (.cells #[.int .i64 0, .int .i64 0] 123)) := ⟨_, rfl⟩
 have ⟨gu, R0, R1, R2⟩ := lay3 hU
 rw [← hU]
 clear hU
 have la := R0.lt
 have lb := R1.lt
 have lr := R2.lt
 obtain ⟨ca0, ca1⟩ := R0.t2
 obtain ⟨cb0, cb1⟩ := R1.t2
 go_wp2_with fail
 clear ca0 ca1 cb0 cb1
 refine (HN.out _).mono ?_
 rintro e w1 ⟨rfl, g1⟩
 have ⟨Fa_1, la_1⟩ := CellsAt.gl (R0) g1
 have ⟨Fb_1, lb_1⟩ := CellsAt.gl (R1) g1
 have ⟨Fr_1, lr_1⟩ := CellsAt.gl (R2) g1
 have z1 := (gu).trans g1
 clear R0 R1 R2 gu g1
 have mr0 := CellsAt.frozen (Fr_1) 0
 have cr0 := Fr_1.at 0
 have mr1 := CellsAt.frozen (Fr_1) 1
 have cr1 := Fr_1.at 1
 go_wp2_with fail
 clear mr0 cr0 mr1 cr1
 obtain ⟨uf, hqp1⟩ : ∃ zz, zz = ((w1.setCell ⟨w.heap.size + 1 + 1, 0, none⟩ (.int .i64 r0)).setCell ⟨w.heap.size + 1 + 1, 1, none⟩ (.int .i64 r1)) := ⟨_, rfl⟩
 have Ya_p1 : CellsAt uf (w.heap.size) 123 #[.int .i64 ah, .int .i64 al] := by rw [hqp1]; first | exact ((Fa_1).other (by omega) _ _).other (by omega) _ _ | simpa using ((Fa_1).other (by omega) _ _).other (by omega) _ _
 have Yb_p1 : CellsAt uf (w.heap.size + 1) 123 #[.int .i64 bh, .int .i64 bl] := by rw [hqp1]; first | exact ((Fb_1).other (by omega) _ _).other (by omega) _ _ | simpa using ((Fb_1).other (by omega) _ _).other (by omega) _ _
 have Yr_p1 : CellsAt uf (w.heap.size + 1 + 1) 123 #[.int .i64 r0, .int .i64 r1] := by rw [hqp1]; first | exact CellsAt.set2 (Fr_1) _ _ | simpa using CellsAt.set2 (Fr_1) _ _
 have yp1 : Gr w uf := by rw [hqp1]; exact ((z1).setCell (by first | omega | (simp only; omega)) _).setCell (by first | omega | (simp only; omega)) _
 rw [← hqp1]
 clear hqp1
 obtain ⟨cr0, cr1⟩ := Yr_p1.t2
 refine bodyPost_ret (v := .agg #[.int .i64 r0, .int .i64 r1]) ?_ rfl ⟨rfl, yp1⟩
 simp [results, Tryz.results87, go_sem, *]
theorem add16_c (u v : Int) (hu : Wd u) (hv : Wd v) (w : World) :
 Calls Tryz.prog 87 #[.agg #[.int .i64 (wdH (u)), .int .i64 (wdL (u))], .agg #[.int .i64 (wdH (v)), .int .i64 (wdL (v))]] w fun e w' => e = .returned (.agg #[.int .i64 (wdH (u + v)), .int .i64 (wdL (u + v))]) ∧ Gr w w' := by
 have bu := wd_in hu
 have bv := wd_in hv
 have hn := norm16_c (wdH u + wdH v) (wdL u + wdL v) ⟨by omega, by omega⟩ ⟨by omega, by omega⟩
 rw [wd_add] at hn
 exact add16_of _ _ _ _ _ _ _ _ (IntWalk.wrap64_in _ ⟨by omega, by omega⟩) (IntWalk.wrap64_in _ ⟨by omega, by omega⟩) (Lib.hid hn) w
set_option maxHeartbeats 2000000 in
theorem less16_of (ah al bh bl p q r0 r1 : Int) (e1 : wrap64 (ah - bh) = p) (e2 : wrap64 (al - bl) = q) (HN : CR 117 #[.agg #[.int .i64 p, .int .i64 q]] (.agg #[.int .i64 r0, .int .i64 r1])) (w : World) :
 Calls Tryz.prog 86 #[.agg #[.int .i64 ah, .int .i64 al], .agg #[.int .i64 bh, .int .i64 bl]] w fun e w' => e = .returned (.agg #[.int .i64 r0, .int .i64 r1]) ∧ Gr w w' := by
 go_enter Tryz.func86, Tryz.ntmps86
 go_wp2_with fail
 obtain ⟨u0, hU⟩ : ∃ uu, uu = (((w.alloc (.cells #[.int .i64 ah, .int .i64 al] 123)).alloc (.cells #[.int .i64 bh, .int .i64 bl] 123)).alloc (.cells #[.int .i64 0, .int .i64 0] 123)) := ⟨_, rfl⟩
 have ⟨gu, R0, R1, R2⟩ := lay3 hU
 rw [← hU]
 clear hU
 have la := R0.lt
 have lb := R1.lt
 have lr := R2.lt
 obtain ⟨ca0, ca1⟩ := R0.t2
 obtain ⟨cb0, cb1⟩ := R1.t2
 go_wp2_with fail
 clear ca0 ca1 cb0 cb1
 refine (HN.out _).mono ?_
 rintro e w1 ⟨rfl, g1⟩
 have ⟨Fa_1, la_1⟩ := CellsAt.gl (R0) g1
 have ⟨Fb_1, lb_1⟩ := CellsAt.gl (R1) g1
 have ⟨Fr_1, lr_1⟩ := CellsAt.gl (R2) g1
 have z1 := (gu).trans g1
 clear R0 R1 R2 gu g1
 have mr0 := CellsAt.frozen (Fr_1) 0
 have cr0 := Fr_1.at 0
 have mr1 := CellsAt.frozen (Fr_1) 1
 have cr1 := Fr_1.at 1
 go_wp2_with fail
 clear mr0 cr0 mr1 cr1
 obtain ⟨uf, hqp1⟩ : ∃ zz, zz = ((w1.setCell ⟨w.heap.size + 1 + 1, 0, none⟩ (.int .i64 r0)).setCell ⟨w.heap.size + 1 + 1, 1, none⟩ (.int .i64 r1)) := ⟨_, rfl⟩
 have Ya_p1 : CellsAt uf (w.heap.size) 123 #[.int .i64 ah, .int .i64 al] := by rw [hqp1]; first | exact ((Fa_1).other (by omega) _ _).other (by omega) _ _ | simpa using ((Fa_1).other (by omega) _ _).other (by omega) _ _
 have Yb_p1 : CellsAt uf (w.heap.size + 1) 123 #[.int .i64 bh, .int .i64 bl] := by rw [hqp1]; first | exact ((Fb_1).other (by omega) _ _).other (by omega) _ _ | simpa using ((Fb_1).other (by omega) _ _).other (by omega) _ _
 have Yr_p1 : CellsAt uf (w.heap.size + 1 + 1) 123 #[.int .i64 r0, .int .i64 r1] := by rw [hqp1]; first | exact CellsAt.set2 (Fr_1) _ _ | simpa using CellsAt.set2 (Fr_1) _ _
 have yp1 : Gr w uf := by rw [hqp1]; exact ((z1).setCell (by first | omega | (simp only; omega)) _).setCell (by first | omega | (simp only; omega)) _
 rw [← hqp1]
 clear hqp1
 obtain ⟨cr0, cr1⟩ := Yr_p1.t2
 refine bodyPost_ret (v := .agg #[.int .i64 r0, .int .i64 r1]) ?_ rfl ⟨rfl, yp1⟩
 simp [results, Tryz.results86, go_sem, *]
theorem less16_c (u v : Int) (hu : Wd u) (hv : Wd v) (w : World) :
 Calls Tryz.prog 86 #[.agg #[.int .i64 (wdH (u)), .int .i64 (wdL (u))], .agg #[.int .i64 (wdH (v)), .int .i64 (wdL (v))]] w fun e w' => e = .returned (.agg #[.int .i64 (wdH (u - v)), .int .i64 (wdL (u - v))]) ∧ Gr w w' := by
 have bu := wd_in hu
 have bv := wd_in hv
 have hn := norm16_c (wdH u - wdH v) (wdL u - wdL v) ⟨by omega, by omega⟩ ⟨by omega, by omega⟩
 rw [wd_sub] at hn
 exact less16_of _ _ _ _ _ _ _ _ (IntWalk.wrap64_in _ ⟨by omega, by omega⟩) (IntWalk.wrap64_in _ ⟨by omega, by omega⟩) (Lib.hid hn) w
set_option maxHeartbeats 2000000 in
theorem down16_of (h l r : Int) (HF : CR 63 #[.int .i64 h, .int .i64 12] (.int .i64 r)) (w : World) :
 Calls Tryz.prog 89 #[.agg #[.int .i64 h, .int .i64 l]] w fun e w' => e = .returned (.int .i64 r) ∧ Gr w w' := by
 go_enter Tryz.func89, Tryz.ntmps89
 go_wp2_with fail
 obtain ⟨u0, hU⟩ : ∃ uu, uu = (w.alloc (.cells #[.int .i64 h, .int .i64 l] 123)) := ⟨_, rfl⟩
 have ⟨gu, R0⟩ := lay1 hU
 rw [← hU]
 clear hU
 have la := R0.lt
 obtain ⟨ca0, ca1⟩ := R0.t2
 go_wp2_with fail
 clear ca0 ca1
 refine (HF.out _).mono ?_
 rintro e w1 ⟨rfl, g1⟩
 have ⟨Fa_1, la_1⟩ := CellsAt.gl (R0) g1
 have z1 := (gu).trans g1
 clear R0 gu g1
 go_wp2_with fail
 go_ret
 exact ⟨rfl, z1⟩
theorem down16_c (v : Int) (hv : Wd v) (w : World) :
 Calls Tryz.prog 89 #[.agg #[.int .i64 (wdH (v)), .int .i64 (wdL (v))]] w fun e w' => e = .returned (.int .i64 (v / 4294967296)) ∧ Gr w w' := by
 have b := wd_in hv
 rw [← wd_down]
 exact down16_of _ _ _ (Lib.hid (floor12_c (wdH v) ⟨by omega, by omega⟩)) w
end
end Go.Proofs.YtcgeabpibkejpaaGreat
