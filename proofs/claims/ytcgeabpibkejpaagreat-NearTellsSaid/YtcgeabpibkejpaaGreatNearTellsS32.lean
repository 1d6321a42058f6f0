import Derived.Test.YtcgeabpibkejpaaGreatNearTellsS31
namespace Go.Proofs.YtcgeabpibkejpaaGreat
section
open Go.ChangeShapes Go.WideShapes Go.ChangeAt Go.RowKit
set_option linter.unusedVariables false
set_option linter.unusedSimpArgs false
set_option maxRecDepth 100000
theorem refUp_c (fo lo ke sc mo : Int) (iv : Bool) (p : Option Addr) (cap : Nat) (xs : List Gi) (h0 : whyB fo lo ke sc mo false xs = 0) (w : World) (hv : CxsAt w (.slice p xs.length cap) xs) :
 Calls Tryz.prog 11 #[.slice p xs.length cap, .agg #[.int .i64 fo, .int .i64 lo, .int .i64 ke, .int .i64 sc, .int .i64 mo, .bool iv]] w fun e w' => e = .returned (.int .i64 (upU fo sc xs)) ∧ Gr w w' := by
 obtain ⟨h1, h2, h3⟩ := why_yes h0
 have H := plF_of h1
 have hm := manB_iff.1 h3
 have hp : oneB fo ≤ 2147483648 := by rcases H.sizes with h | h <;> omega
 have hp0 := (one_bd fo).1
 by_cases hs : sc = 1
 ·subst hs
  refine rUp17_yes p xs.length cap xs fo lo ke mo iv (maxG xs) _ (Lib.hid fun W h => max09_c _ xs (allIn_more hm.all hp) W h) (Lib.hid fun W => ?_) w hv
  have h := calls_gr (room09_c (maxG xs) fo _ (oneB fo) H.fb (maxG_nonneg xs) (maxG_le xs _ (by omega) ((allIn_iff _ _).1 hm.all)) W)
  unfold upU
  rw [if_pos rfl]
  exact h
 ·have : upU fo sc xs = 0 := by unfold upU; rw [if_neg hs]
  rw [this]
  exact rUp17_zero p xs.length cap xs fo lo ke sc mo iv hs (by simp [hs]) w hv
theorem refPut_c (fo lo ke sc mo : Int) (iv : Bool) (p : Option Addr) (cap : Nat) (xs : List Gi) (h0 : whyB fo lo ke sc mo false xs = 0) (w : World) (hv : CxsAt w (.slice p xs.length cap) xs) :
 Calls Tryz.prog 33 #[.slice p xs.length cap, .agg #[.int .i64 fo, .int .i64 lo, .int .i64 ke, .int .i64 sc, .int .i64 mo, .bool iv]] w fun e w' => ∃ v, e = .returned v ∧ CxsAt w' v (upX sc (oneB fo) mo xs) ∧ Gr w w' := by
 obtain ⟨h1, h2, h3⟩ := why_yes h0
 have H := plF_of h1
 have hm := manB_iff.1 h3
 have hu := upU_bd fo sc xs
 have h4 := H.lens.2.1
 refine rPut17_c p xs.length cap xs fo lo ke sc mo iv _ (upU fo sc xs) (-(upU fo sc xs)) (Lib.hid (IntWalk.wrap64_in _ ⟨by omega, by omega⟩)) (Lib.hid fun W h => refUp_c fo lo ke sc mo iv p cap xs h0 W h) (Lib.hid fun W h => ?_) w hv
 rw [← up_shifted H 0 (.inl rfl) xs]
 exact shifted09_c _ xs _ 0 (by omega) (by omega) (by decide) (by decide) (man_wf H hm) (fun _ => upV_room H hm _ hu.1 hu.2) (by omega) W h
theorem refMay17_c (fo lo ke sc mo ex : Int) (iv sa : Bool) (p px sp : Option Addr) (cap cx cl : Nat) (xs ys : List Gi) (ls : List Int) (hls : ls.length ≤ 10) (w : World) (hv : CxsAt w (.slice p xs.length cap) xs) (hyv : CxsAt w (.slice px ys.length cx) ys) (hl : NumsAt w (.slice sp ls.length cl) ls) :
 Calls Tryz.prog 13 #[.slice p xs.length cap, .agg #[.int .i64 fo, .int .i64 lo, .int .i64 ke, .int .i64 sc, .int .i64 mo, .bool iv], .agg #[.slice px ys.length cx, .int .i64 ex, .bool sa, .slice sp ls.length cl]] w fun e w' => e = .returned (.int .i64 (whyV fo lo ke sc mo ex xs ys ls)) ∧ Gr w w' := by
 have HM := fun W (h : CxsAt W (.slice p xs.length cap) xs) => may15_c _ fo lo ke sc mo iv false xs W h
 unfold whyV
 by_cases hw : whyB fo lo ke sc mo false xs = 0
 ·rw [if_pos hw]
  rw [hw] at HM
  obtain ⟨h1, h2, h3⟩ := why_yes hw
  have H := plF_of h1
  have hm := manB_iff.1 h3
  have hu := upU_bd fo sc xs
  have hq := one_bd fo
  by_cases hlen : ys.length = xs.length
  ·rw [if_pos hlen]
   rw [hlen] at hyv ⊢
   have hmb : (((xs.length : Nat) : Int) == ((xs.length : Nat) : Int)) = true := by simp
   have HU := Lib.hid fun W (h : CxsAt W (.slice p xs.length cap) xs) => refUp_c fo lo ke sc mo iv p cap xs hw W h
   have HO := Lib.hid fun W => calls_gr (rone_c fo _ (oneB fo) H.fb W)
   have HA := fun W (h : CxsAt W (.slice px xs.length cx) ys) => parts15_c (.slice px xs.length cx) ys (-(oneB fo)) (oneB fo - 1) W h
   have HW := Lib.hid (And.intro (IntWalk.i64_in (-(oneB fo)) ⟨by omega, by omega⟩) (IntWalk.i64_in (oneB fo - 1) ⟨by omega, by omega⟩))
   have HW2 := Lib.hid (And.intro (IntWalk.i64_in (-(upU fo sc xs)) ⟨by omega, by omega⟩) (IntWalk.i64_in (20 - upU fo sc xs) ⟨by omega, by omega⟩))
   by_cases hp : partsB (-(oneB fo)) (oneB fo - 1) ys = true
   ·rw [hp] at HA
    by_cases hlo : ex < -(upU fo sc xs)
    ·rw [if_neg (by omega)]
     exact rMay17_low p px sp xs.length cap cx ls.length cl xs ys ls fo lo ke sc mo ex iv sa (upU fo sc xs) _ _ _ (by simpa using hlo) hmb HW HW2 (Lib.hid HM) HO (Lib.hid HA) HU w hv hyv hl
    ·by_cases hhi : 20 - upU fo sc xs < ex
     ·rw [if_neg (by omega)]
      exact rMay17_high p px sp xs.length cap cx ls.length cl xs ys ls fo lo ke sc mo ex iv sa (upU fo sc xs) _ _ _ (by simpa using hlo) (by simpa using hhi) hmb HW HW2 (Lib.hid HM) HO (Lib.hid HA) HU w hv hyv hl
     ·rw [if_pos ⟨hp, by omega, by omega⟩]
      exact rMay17_ok p px sp xs.length cap cx ls.length cl xs ys ls fo lo ke sc mo ex iv sa (upU fo sc xs) _ _ _ (fitsB sc (passL ke lo) ls) (by simpa using hlo) (by simpa using hhi) hmb HW HW2 (Lib.hid HM) HO (Lib.hid HA) HU (Lib.hid fun W h => shifts14_c fo lo ke sc mo iv h1 sp cl ls hls W h) w hv hyv hl
   ·rw [if_neg (by intro h; exact hp h.1)]
    have hp' : partsB (-(oneB fo)) (oneB fo - 1) ys = false := by simpa using hp
    rw [hp'] at HA
    exact rMay17_parts p px sp xs.length cap cx ls.length cl xs ys ls fo lo ke sc mo ex iv sa _ _ _ hmb HW (Lib.hid HM) HO (Lib.hid HA) w hv hyv hl
  ·rw [if_neg hlen]
   exact rMay17_size p px sp xs.length cap ys.length cx ls.length cl xs ys ls fo lo ke sc mo ex iv sa (by omega) (by simp; omega) (Lib.hid HM) w hv hyv hl
 ·rw [if_neg hw]
  exact rMay17_no p px sp xs.length cap ys.length cx ls.length cl xs ys ls fo lo ke sc mo ex iv sa _ hw (by simp [hw]) (Lib.hid HM) w hv hyv hl
theorem refPlain_c (a b : Int) (ha : -2305843009213693952 ≤ a ∧ a ≤ 2305843009213693952) (hb : -2305843009213693952 ≤ b ∧ b ≤ 2305843009213693952) (w : World) :
 Calls Tryz.prog 35 #[.int .i64 a, .int .i64 b] w fun e w' => e = .returned (.int .i64 (absI (a - b))) ∧ Gr w w' := by
 by_cases h : b < a
 ·exact calls_gr (rPlain17_gt a b _ h (by rw [IntWalk.wrap64_in _ ⟨by omega, by omega⟩]; unfold absI; split <;> omega) w)
 ·exact calls_gr (rPlain17_le a b _ h (by rw [IntWalk.wrap64_in _ ⟨by omega, by omega⟩]; unfold absI; split <;> omega) w)
theorem refBound17_c (fo lo ke sc mo ex : Int) (iv sa : Bool) (p px sp : Option Addr) (cap cx cl : Nat) (xs ys : List Gi) (ls : List Int) (hy : whyV fo lo ke sc mo ex xs ys ls = 0) (w : World) (hv : CxsAt w (.slice p xs.length cap) xs) (hyv : CxsAt w (.slice px ys.length cx) ys) (hl : NumsAt w (.slice sp ls.length cl) ls) :
 Calls Tryz.prog 15 #[.slice p xs.length cap, .agg #[.int .i64 fo, .int .i64 lo, .int .i64 ke, .int .i64 sc, .int .i64 mo, .bool iv], .agg #[.slice px ys.length cx, .int .i64 ex, .bool sa, .slice sp ls.length cl]] w fun e w' => e = .returned (.int .i64 (boundV fo lo ke sc mo ex xs ls)) ∧ Gr w w' := by
 obtain ⟨hw, hlen, hp, hex, hf⟩ := why_zero hy
 obtain ⟨⟨L, hL⟩, f1, f2, f3, f4, f5⟩ := near_facts (mo := mo) hy
 obtain ⟨h1, h2, h3⟩ := why_yes hw
 have hl64 := hL.len
 have h64 : ys.length ≤ 64 := by unfold IsLen at hl64; omega
 have hu := upU_bd fo sc xs
 have hb := bound_bd (ofB sc ke lo ls) (powV fo sc ex xs) (by unfold powV; omega) f5.1 f5.2
 have hs := (slackG_bd ys.length h64 _ f3).2.2
 have hU : (ex + upU fo sc xs + 2).toNat = powV fo sc ex xs + 2 := by unfold powV; omega
 have HP := pow_c (ex + upU fo sc xs + 2) (by omega) (by omega)
 rw [hU] at HP
 unfold boundV
 rw [hlen] at hs
 exact rBound17_of p px sp xs.length cap ys.length cx ls.length cl xs ys ls fo lo ke sc mo ex iv sa (upU fo sc xs) (ofB sc ke lo ls) (ex + upU fo sc xs) (ex + upU fo sc xs + 2) _ (ofB sc ke lo ls * 2 ^ (powV fo sc ex xs + 2)) (slackG xs.length (upX sc (oneB fo) mo xs)) _ (upX sc (oneB fo) mo xs)
  (Lib.hid ⟨IntWalk.i64_in _ ⟨by omega, by omega⟩, IntWalk.i64_in _ ⟨by omega, by omega⟩, IntWalk.i64_in _ ⟨by omega, by omega⟩, IntWalk.i64_in _ ⟨by omega, by omega⟩⟩) (Lib.hid fun W h => of14_c fo lo ke sc mo iv h1 sp cl ls hf W h) (Lib.hid fun W h => refUp_c fo lo ke sc mo iv p cap xs hw W h) (Lib.hid fun W => calls_gr (HP W)) (Lib.hid fun W h => refPut_c fo lo ke sc mo iv p cap xs hw W h)
  (Lib.hid fun v W h => by
   obtain ⟨q, c, rfl⟩ := h.len
   rw [f1, hlen] at h ⊢
   exact rslack16_c xs.length (by omega) q c _ (by rw [f1, hlen]) f3 W h) w hv hyv hl
theorem refFar17_c (fo lo ke sc mo ex : Int) (iv sa : Bool) (p px sp : Option Addr) (cap cx cl : Nat) (xs ys : List Gi) (ls : List Int) (hy : whyV fo lo ke sc mo ex xs ys ls = 0) (w : World) (hv : CxsAt w (.slice p xs.length cap) xs) (hyv : CxsAt w (.slice px ys.length cx) ys) (hl : NumsAt w (.slice sp ls.length cl) ls) :
 Calls Tryz.prog 14 #[.slice p xs.length cap, .agg #[.int .i64 fo, .int .i64 lo, .int .i64 ke, .int .i64 sc, .int .i64 mo, .bool iv], .agg #[.slice px ys.length cx, .int .i64 ex, .bool sa, .slice sp ls.length cl]] w fun e w' => e = .returned (.int .i64 (farV fo sc mo ex iv xs ys)) ∧ Gr w w' := by
 obtain ⟨hw, hlen, hp, hex, hf⟩ := why_zero hy
 obtain ⟨⟨L, hL⟩, f1, f2, f3, f4, f5⟩ := near_facts (mo := mo) hy
 have hl64 := hL.len
 have h64 : 4 ≤ ys.length ∧ ys.length ≤ 64 := by unfold IsLen at hl64; omega
 have hu := upU_bd fo sc xs
 have hU : (ex + upU fo sc xs + 8).toNat = powV fo sc ex xs + 8 := by unfold powV; omega
 have hP : powV fo sc ex xs ≤ 20 := by unfold powV; omega
 have HP := pow_c (ex + upU fo sc xs + 8) (by omega) (by omega)
 rw [hU] at HP
 have e : farV fo sc mo ex iv xs ys = farT ys (binsG ys.length (upX sc (oneB fo) mo xs) iv) (powV fo sc ex xs) ys.length := by unfold farV; rw [hlen]; rfl
 rw [e]
 generalize powV fo sc ex xs = P at *
 have ub : ∀ j, (-576460752303423488 ≤ (ys.getD j ⟨0, 0⟩).re * 2 ^ (P + 8) ∧ (ys.getD j ⟨0, 0⟩).re * 2 ^ (P + 8) ≤ 576460752303423488) ∧ (-576460752303423488 ≤ (ys.getD j ⟨0, 0⟩).im * 2 ^ (P + 8) ∧ (ys.getD j ⟨0, 0⟩).im * 2 ^ (P + 8) ≤ 576460752303423488) := fun j => by
  have h := part_in f2 (by decide) j
  exact ⟨up_part _ _ hP h.1, up_part _ _ hP h.2⟩
 have hmore : ∀ f d : Int, (if d < f then f else d) = max f d := fun f d => by split <;> omega
 refine rFar17_of p px sp xs.length cap ys.length cx ls.length cl xs ys ls fo lo ke sc mo ex iv sa (by omega) (by omega) (upX sc (oneB fo) mo xs) (binsG ys.length (upX sc (oneB fo) mo xs) iv) rfl (binsG_len _ _ _) (upU fo sc xs) (ex + upU fo sc xs) (ex + upU fo sc xs + 8) (2 ^ (P + 8))
  (fun j => ⟨(ys.getD j ⟨0, 0⟩).re * 2 ^ (P + 8), (ys.getD j ⟨0, 0⟩).im * 2 ^ (P + 8)⟩) (fun j => absI ((ys.getD j ⟨0, 0⟩).re * 2 ^ (P + 8) - ((binsG ys.length (upX sc (oneB fo) mo xs) iv).getD j ⟨0, 0⟩).re)) (fun j => absI ((ys.getD j ⟨0, 0⟩).im * 2 ^ (P + 8) - ((binsG ys.length (upX sc (oneB fo) mo xs) iv).getD j ⟨0, 0⟩).im)) (farT ys (binsG ys.length (upX sc (oneB fo) mo xs) iv) P)
  (fun j => max (farT ys (binsG ys.length (upX sc (oneB fo) mo xs) iv) P j) (absI ((ys.getD j ⟨0, 0⟩).re * 2 ^ (P + 8) - ((binsG ys.length (upX sc (oneB fo) mo xs) iv).getD j ⟨0, 0⟩).re))) rfl (Lib.hid ⟨IntWalk.i64_in _ ⟨by omega, by omega⟩, IntWalk.i64_in _ ⟨by omega, by omega⟩⟩)
  (Lib.hid fun W h => refUp_c fo lo ke sc mo iv p cap xs hw W h) (Lib.hid fun W => calls_gr (HP W)) (Lib.hid fun W h => refPut_c fo lo ke sc mo iv p cap xs hw W h)
  (Lib.hid fun v W h => ?_) (Lib.hid fun j x hx => ?_) (Lib.hid fun j b hj hb W => ?_) (Lib.hid fun j b hj hb W => ?_) (Lib.hid fun j W => ?_) (Lib.hid fun j W => ?_) w hv hyv
 ·obtain ⟨q, c, rfl⟩ := h.len
  rw [f1] at h ⊢
  exact rall16_c ys.length L hL iv q c _ f1 f3 W h
 ·have h := ub j
  rw [getD_of hx] at h ⊢
  exact ⟨IntWalk.i64_in _ ⟨by omega, by omega⟩, IntWalk.i64_in _ ⟨by omega, by omega⟩⟩
 ·have h := ub j
  have hbd := bin_bd ys.length hl64 (upX sc (oneB fo) mo xs) iv f3 j
  rw [getD_of hb]
  rw [← bins_at hb] at hbd
  exact refPlain_c _ _ ⟨by dsimp only; omega, by dsimp only; omega⟩ ⟨by omega, by omega⟩ W
 ·have h := ub j
  have hbd := bin_bd ys.length hl64 (upX sc (oneB fo) mo xs) iv f3 j
  rw [getD_of hb]
  rw [← bins_at hb] at hbd
  exact refPlain_c _ _ ⟨by dsimp only; omega, by dsimp only; omega⟩ ⟨by omega, by omega⟩ W
 ·have h := calls_gr (rMore17_c (farT ys (binsG ys.length (upX sc (oneB fo) mo xs) iv) P j) (absI ((ys.getD j ⟨0, 0⟩).re * 2 ^ (P + 8) - ((binsG ys.length (upX sc (oneB fo) mo xs) iv).getD j ⟨0, 0⟩).re)) W)
  rw [hmore] at h
  exact h
 ·have h := calls_gr (rMore17_c (max (farT ys (binsG ys.length (upX sc (oneB fo) mo xs) iv) P j) (absI ((ys.getD j ⟨0, 0⟩).re * 2 ^ (P + 8) - ((binsG ys.length (upX sc (oneB fo) mo xs) iv).getD j ⟨0, 0⟩).re))) (absI ((ys.getD j ⟨0, 0⟩).im * 2 ^ (P + 8) - ((binsG ys.length (upX sc (oneB fo) mo xs) iv).getD j ⟨0, 0⟩).im)) W)
  rw [hmore] at h
  rw [farT_next]
  exact h
theorem tells17_all (p q sp : Option Addr) (l1 cap1 m1 l2 cap2 m2 l3 cap3 m3 : Nat) (fo lo ke sc mo ex : Int) (iv sa : Bool) (xs ys : List Gi) (ls : List Int) (hxn : xs.length = m1) (hyn : ys.length = m2) (hln : ls.length = m3) (h10 : m3 ≤ 10) (hm1 : m1 ≤ cap1) (hmin1 : (if (70 : Int) < (l1 : Int) then 70 else (l1 : Int)) = (m1 : Int)) (hm2 : m2 ≤ cap2) (hmin2 : (if (70 : Int) < (l2 : Int) then 70 else (l2 : Int)) = (m2 : Int)) (hm3 : m3 ≤ cap3) (hmin3 : (if (10 : Int) < (l3 : Int) then 10 else (l3 : Int)) = (m3 : Int))
 (w : World) (hx : CxsAt w (.slice p m1 cap1) xs) (hy : CxsAt w (.slice q m2 cap2) ys) (hs : NumsAt w (.slice sp m3 cap3) ls) :
 Calls Tryz.prog 3 #[.slice p l1 cap1, .agg #[.int .i64 fo, .int .i64 lo, .int .i64 ke, .int .i64 sc, .int .i64 mo, .bool iv], .agg #[.slice q l2 cap2, .int .i64 ex, .bool sa, .slice sp l3 cap3]] w fun e w' => e = .returned (.bool true) ∧ Gr w w' := by
 subst hxn hyn hln
 have HM := Lib.hid fun W a b c => refMay17_c fo lo ke sc mo ex iv sa p q sp cap1 cap2 cap3 xs ys ls h10 W a b c
 have H15 := Lib.hid fun W (h : CxsAt W (.slice p xs.length cap1) xs) => may15_c _ fo lo ke sc mo iv false xs W h
 have HU := Lib.hid fun W (h : CxsAt W (.slice p xs.length cap1) xs) => nearUp_c fo lo ke sc mo iv _ xs W h
 have HA := Lib.hid alive17_c
 obtain ⟨y, hy0⟩ : ∃ y, whyV fo lo ke sc mo ex xs ys ls = y := ⟨_, rfl⟩
 obtain ⟨y0, hy1⟩ : ∃ y, whyB fo lo ke sc mo false xs = y := ⟨_, rfl⟩
 rw [hy0] at HM
 by_cases h0 : y = 0
 ·subst h0
  obtain ⟨hw, _⟩ := why_zero hy0
  rw [hw] at H15
  simp only [hw, if_true] at HU
  exact tells17_of p q sp l1 cap1 _ l2 cap2 _ l3 cap3 _ fo lo ke sc mo ex iv sa xs ys ls hm1 hmin1 hm2 hmin2 hm3 hmin3 _ 0 0 (farV fo sc mo ex iv xs ys) (boundV fo lo ke sc mo ex xs ls) _ (.inr (.inr ⟨rfl, rfl, rfl⟩)) HU
   (Lib.hid fun W a b c => nearFar_yes fo lo ke sc mo ex iv sa p q sp cap1 cap2 cap3 xs ys ls hy0 W a b c) (Lib.hid fun W a b c => nearBound_yes fo lo ke sc mo ex iv sa p q sp cap1 cap2 cap3 xs ys ls hy0 W a b c) (Lib.hid fun W a b c => nearWithin_yes fo lo ke sc mo ex iv sa p q sp cap1 cap2 cap3 xs ys ls hy0 W a b c) H15
   (Lib.hid fun _ W h => refUp_c fo lo ke sc mo iv p cap1 xs hw W h) HM (Lib.hid fun _ W a b c => refFar17_c fo lo ke sc mo ex iv sa p q sp cap1 cap2 cap3 xs ys ls hy0 W a b c) (Lib.hid fun _ W a b c => refBound17_c fo lo ke sc mo ex iv sa p q sp cap1 cap2 cap3 xs ys ls hy0 W a b c) HA w hx hy hs
 ·have hyb : (y == 0) = false := by simp [h0]
  have HF := Lib.hid fun W a b c => nearFar_no fo lo ke sc mo ex iv sa p q sp cap1 cap2 cap3 xs ys ls h10 y hy0 h0 W a b c
  have HB := Lib.hid fun W a b c => nearBound_no fo lo ke sc mo ex iv sa p q sp cap1 cap2 cap3 xs ys ls h10 y hy0 h0 W a b c
  have HW := Lib.hid fun W a b c => nearWithin_no fo lo ke sc mo ex iv sa p q sp cap1 cap2 cap3 xs ys ls h10 y hy0 h0 W a b c
  by_cases h1 : y0 = 0
  ·subst h1
   rw [hy1] at H15
   simp only [hy1, if_true] at HU
   exact tells17_of p q sp l1 cap1 _ l2 cap2 _ l3 cap3 _ fo lo ke sc mo ex iv sa xs ys ls hm1 hmin1 hm2 hmin2 hm3 hmin3 _ 0 y 0 0 false (.inr (.inl ⟨rfl, h0, hyb, rfl, rfl, rfl⟩)) HU HF HB HW H15 (Lib.hid fun _ W h => refUp_c fo lo ke sc mo iv p cap1 xs hy1 W h) HM (Lib.hid fun h => absurd h h0) (Lib.hid fun h => absurd h h0) HA w hx hy hs
  ·have e : y = y0 := by
    rw [← hy0]
    unfold whyV
    rw [hy1, if_neg h1]
   rw [hy1] at H15
   simp only [hy1, h1, if_false] at HU
   exact tells17_of p q sp l1 cap1 _ l2 cap2 _ l3 cap3 _ fo lo ke sc mo ex iv sa xs ys ls hm1 hmin1 hm2 hmin2 hm3 hmin3 0 y0 y 0 0 false (.inl ⟨h1, by simp [h1], rfl, e, rfl, rfl, rfl⟩) HU HF HB HW H15 (Lib.hid fun h => absurd h h1) HM (Lib.hid fun h => absurd h h0) (Lib.hid fun h => absurd h h0) HA w hx hy hs
end
section
open Go.ChangeShapes Go.WideShapes Go.ChangeAt Go.RowKit Go.Joins
set_option linter.unusedVariables false
set_option linter.unusedSimpArgs false
set_option maxRecDepth 100000
theorem array4 {α : Type} {cs : Array α} (h : cs.size = 4) : ∃ c0 c1 c2 c3, cs = #[c0, c1, c2, c3] := by
 obtain ⟨l⟩ := cs
 match l, h with
 | [c0, c1, c2, c3], _ => exact ⟨c0, c1, c2, c3, rfl⟩
theorem cellsBlock : Tryz.prog.cellsOf 27 = 4 := by kernel_rfl
theorem block_open {H : Type} {enc : TypeId × Value → H} {W : World} {r : Reach} {b0 : Nat} {v : Value} {d : DataW H} {p : List MemPlace} (hv : Value.okWide Tryz.prog W r b0 27 v) (h : DataW.Trod enc Tryz.prog W 0 (fun _ => true) true 27 v d p) :
 ∃ (a : Option Addr) (cap : Nat) (xs : List Gi) (ex : Int) (sa : Bool) (a' : Option Addr) (cap' : Nat) (ls : List Int), v = .agg #[.slice a xs.length cap, .int .i64 ex, .bool sa, .slice a' ls.length cap'] ∧
  CxsAt W (.slice a xs.length cap) xs ∧ NumsAt W (.slice a' ls.length cap') ls := by
 obtain ⟨cs, rfl, hsz⟩ := okWide_struct Tryz.underlying27 hv
 obtain ⟨c0, c1, c2, c3, rfl⟩ := array4 (hsz.trans cellsBlock)
 obtain ⟨fuel, hf⟩ := h
 obtain ⟨xs, n, _, hx, hl, hlen, hf⟩ := DataW.trod_struct Tryz.underlying27 hf
 have k : Tryz.prog.cellsOf 3 = 1 := by kernel_rfl
 have kb : Tryz.prog.cellsOf 4 = 1 := by kernel_rfl
 have kc : Tryz.prog.cellsOf 22 = 1 := by kernel_rfl
 have ki : Tryz.prog.cellsOf 25 = 1 := by kernel_rfl
 match xs, hlen with
 | [y0, y1, y2, y3], _ =>
   have h0 := hf 0 _ rfl
   have h1 := hf 1 _ rfl
   have h2 := hf 2 _ rfl
   have h3 := hf 3 _ rfl
   simp [k, kb, kc, ki, Value.cells] at h0 h1 h2 h3
   obtain ⟨x1, e1, _, w1⟩ := DataW.trod_int Tryz.underlying3 h1
   obtain ⟨x2, e2, _⟩ := DataW.trod_bool Tryz.underlying4 h2
   simp at e1 e2
   subst e1 e2
   obtain ⟨a, la, ca, rfl⟩ : ∃ a l c, c0 = .slice a l c := by
    rcases Go.Deep.open_slice_pairs Tryz.underlying22 Tryz.underlying58 (by kernel_rfl) rfl rfl (by kernel_rfl) (by kernel_rfl) h0 with ⟨hcs, _⟩ | ⟨a', l, c, m, n, V0, V1, D0, D1, P0, P1, hcs, _⟩
    ·simp at hcs; exact ⟨_, _, _, hcs⟩
    ·simp at hcs; exact ⟨_, _, _, hcs⟩
   obtain ⟨b, lb, cb, rfl⟩ : ∃ a l c, c3 = .slice a l c := by
    rcases open_ints Tryz.underlying25 Tryz.underlying3 (by kernel_rfl) h3 with ⟨hcs, _⟩ | ⟨a', l, c, zs, hcs, _⟩
    ·simp at hcs; exact ⟨_, _, _, hcs⟩
    ·simp at hcs; exact ⟨_, _, _, hcs⟩
   obtain ⟨us, rfl, hu, _⟩ := cxs_open h0
   obtain ⟨ls, rfl, hn, _⟩ := nums_open h3
   exact ⟨a, ca, us, x1, x2, b, cb, ls, rfl, hu, hn⟩
end
end Go.Proofs.YtcgeabpibkejpaaGreat
