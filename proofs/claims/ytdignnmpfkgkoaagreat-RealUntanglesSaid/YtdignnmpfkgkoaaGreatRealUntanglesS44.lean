import Derived.Test.YtdignnmpfkgkoaaGreatRealUntanglesS43
namespace Go.Proofs.YtdignnmpfkgkoaaGreat
section
open Go.ChangeShapes Go.WideShapes Go.ChangeAt Go.RowKit
set_option linter.unusedVariables false
set_option linter.unusedSimpArgs false
set_option maxRecDepth 100000
theorem whyU_of {fo lo ke sc mo : Int} {iv : Bool} {xs : List Gi} {ex : Int} (hk : okR fo lo ke sc mo iv = true) :
 whyU fo lo ke sc mo iv xs ex = if whyB fo lo ke sc mo true xs = 0 then (if -100 ≤ ex ∧ ex ≤ 100 then 0 else 2) else whyB fo lo ke sc mo true xs := by
 unfold whyU whyB
 rw [if_pos hk, if_pos (okR_iff.1 hk).1]
 simp only [if_true]
 by_cases hl : (xs.length : Int) = 2 ^ lo.toNat
 ·simp only [if_pos hl]
  by_cases hp : partsB (-(oneB fo)) (oneB fo) xs = true
  ·simp only [if_pos hp, if_true, hp, true_and]
  ·simp only [if_neg hp]
   rw [if_neg (fun h => hp h.1)]
   rfl
 ·simp only [if_neg hl]
  rfl
theorem realUntangles_all (q sp : Option Addr) (l2 cap2 m2 l3 cap3 m3 : Nat) (fo lo ke sc mo ex : Int) (iv sa : Bool) (ys : List Gi) (ls : List Int) (hyl : ys.length = m2) (hll : ls.length = m3) (h10 : m3 ≤ 10) (hm2 : m2 ≤ cap2) (hmin2 : (if (70 : Int) < (l2 : Int) then 70 else (l2 : Int)) = (m2 : Int)) (hm3 : m3 ≤ cap3) (hmin3 : (if (10 : Int) < (l3 : Int) then 10 else (l3 : Int)) = (m3 : Int)) (w : World) (hy : CxsAt w (.slice q m2 cap2) ys) (hs : NumsAt w (.slice sp m3 cap3) ls) :
 CW 4 #[.agg #[.slice q l2 cap2, .int .i64 ex, .bool sa, .slice sp l3 cap3], .agg #[.int .i64 fo, .int .i64 lo, .int .i64 ke, .int .i64 sc, .int .i64 mo, .bool iv]] w (.bool true) :=by
 delta CW
 have HA := Lib.hid alive18_c
 have HPL := Lib.hid fun W => rPlan18_c fo lo ke sc mo iv W
 by_cases hk : okR fo lo ke sc mo iv = true
 ·rw [hk] at HPL
  obtain ⟨h1, h5, hiv⟩ := okR_iff.1 hk
  have hf := okF_iff.1 h1
  have H := plF_of h1
  have HSH := Lib.hid fun W (h : NumsAt W (.slice sp m3 cap3) ls) => by
   have := shifts14_c fo lo ke sc mo iv h1 sp cap3 ls (by omega) W (by rw [hll]; exact h)
   rw [hll] at this
   exact this
  have HM := Lib.hid fun W h => may15_c (.slice q m2 cap2) fo lo ke sc mo iv true ys W h
  have hU := whyU_of (xs := ys) (ex := ex) hk
  by_cases hw : whyB fo lo ke sc mo true ys = 0
  ·rw [hw] at HM
   rw [if_pos hw] at hU
   by_cases ha : ex < -100
   ·rw [if_neg (by omega)] at hU
    have HU := (Lib.hid fun W (h : CxsAt W (.slice q m2 cap2) ys) (h' : NumsAt W (.slice sp m3 cap3) ls) => realUntangle_no fo lo ke sc mo iv q sp m2 cap2 m3 cap3 ys hyl ex _ sa hU (by decide) W h)
    have hd : decide (ex < -100) = true := decide_eq_true ha
    cases hfit : fitsB sc (passL ke lo) ls
    ·rw [hfit] at HSH
     have HLS := Lib.hid fun W h => realLoss_bad fo lo ke sc mo iv sp m3 cap3 ls hll h10 hk hfit W h
     exact unt18_ln q sp l2 cap2 m2 l3 cap3 m3 fo lo ke sc mo ex iv sa ys ls hm2 hmin2 hm3 hmin3 hd HU HLS HPL HSH HM HA w hy hs
    ·rw [hfit] at HSH
     have HLS := Lib.hid fun W h => realLoss_ok fo lo ke sc mo iv sp m3 cap3 ls hll hk hfit W h
     have HOF := Lib.hid fun W (h : NumsAt W (.slice sp m3 cap3) ls) => by
      have := of14_c fo lo ke sc mo iv h1 sp cap3 ls hfit W (by rw [hll]; exact h)
      rw [hll] at this
      exact this
     have hob := of_bd (by omega) (by omega) (by omega) (by omega) hfit
     have hn : IntKind.i64.wrap (ofB sc ke lo ls + 256) = ofB sc ke lo ls + 256 := IntWalk.i64_in _ ⟨by omega, by omega⟩
     exact unt18_ly q sp l2 cap2 m2 l3 cap3 m3 fo lo ke sc mo ex iv sa ys ls hm2 hmin2 hm3 hmin3 (ofB sc ke lo ls + 256) (ofB sc ke lo ls) hd HU HLS HPL HSH hn HOF HM HA w hy hs
   ·have hd : decide (ex < -100) = false := decide_eq_false ha
    by_cases hb : 100 < ex
    ·rw [if_neg (by omega)] at hU
     have HU := (Lib.hid fun W (h : CxsAt W (.slice q m2 cap2) ys) (h' : NumsAt W (.slice sp m3 cap3) ls) => realUntangle_no fo lo ke sc mo iv q sp m2 cap2 m3 cap3 ys hyl ex _ sa hU (by decide) W h)
     have hd2 : decide (100 < ex) = true := decide_eq_true hb
     cases hfit : fitsB sc (passL ke lo) ls
     ·rw [hfit] at HSH
      have HLS := Lib.hid fun W h => realLoss_bad fo lo ke sc mo iv sp m3 cap3 ls hll h10 hk hfit W h
      exact unt18_hn q sp l2 cap2 m2 l3 cap3 m3 fo lo ke sc mo ex iv sa ys ls hm2 hmin2 hm3 hmin3 hd hd2 HU HLS HPL HSH HM HA w hy hs
     ·rw [hfit] at HSH
      have HLS := Lib.hid fun W h => realLoss_ok fo lo ke sc mo iv sp m3 cap3 ls hll hk hfit W h
      have HOF := Lib.hid fun W (h : NumsAt W (.slice sp m3 cap3) ls) => by
       have := of14_c fo lo ke sc mo iv h1 sp cap3 ls hfit W (by rw [hll]; exact h)
       rw [hll] at this
       exact this
      have hob := of_bd (by omega) (by omega) (by omega) (by omega) hfit
      have hn : IntKind.i64.wrap (ofB sc ke lo ls + 256) = ofB sc ke lo ls + 256 := IntWalk.i64_in _ ⟨by omega, by omega⟩
      exact unt18_hy q sp l2 cap2 m2 l3 cap3 m3 fo lo ke sc mo ex iv sa ys ls hm2 hmin2 hm3 hmin3 (ofB sc ke lo ls + 256) (ofB sc ke lo ls) hd hd2 HU HLS HPL HSH hn HOF HM HA w hy hs
    ·have hd2 : decide (100 < ex) = false := decide_eq_false hb
     rw [if_pos (by omega)] at hU
     have hyes := whyU_yes hU
     obtain rfl : m2 = 2 ^ lo.toNat := by omega
     have HU := Lib.hid fun W h h' => realUntangle_yes fo lo ke sc mo iv q sp _ cap2 m3 cap3 ⟨ys, ex, sa, ls⟩ hyl (by simp only; omega) hU W h h'
     have HUN := Lib.hid fun W (h : CxsAt W (.slice q (2 ^ lo.toNat) cap2) ys) => runt18_c H (by omega) iv ⟨ys, ex, sa, ls⟩ q sp cap2 m3 cap3 hyes.2.1 (open_in hyes.2.2.1) (by simp only; omega) (by simp only; omega) W h
     simp only at HU HUN
     cases hfit : fitsB sc (passL ke lo) ls
     ·rw [hfit] at HSH
      have HLS := Lib.hid fun W h => realLoss_bad fo lo ke sc mo iv sp m3 cap3 ls hll h10 hk hfit W h
      exact unt18_Kn q sp l2 cap2 _ l3 cap3 m3 fo lo ke sc mo ex iv sa ys ls hm2 hmin2 hm3 hmin3 _ _ _ hd hd2 HU HLS HPL HSH HM HUN HA w hy hs
     ·rw [hfit] at HSH
      have HLS := Lib.hid fun W h => realLoss_ok fo lo ke sc mo iv sp m3 cap3 ls hll hk hfit W h
      have HOF := Lib.hid fun W (h : NumsAt W (.slice sp m3 cap3) ls) => by
       have := of14_c fo lo ke sc mo iv h1 sp cap3 ls hfit W (by rw [hll]; exact h)
       rw [hll] at this
       exact this
      have hob := of_bd (by omega) (by omega) (by omega) (by omega) hfit
      have hn : IntKind.i64.wrap (ofB sc ke lo ls + 256) = ofB sc ke lo ls + 256 := IntWalk.i64_in _ ⟨by omega, by omega⟩
      exact unt18_Ky q sp l2 cap2 _ l3 cap3 m3 fo lo ke sc mo ex iv sa ys ls hm2 hmin2 hm3 hmin3 (ofB sc ke lo ls + 256) (ofB sc ke lo ls) _ _ _ hd hd2 HU HLS HPL HSH hn HOF HM HUN HA w hy hs
  ·rw [if_neg hw] at hU
   have hwb : (whyB fo lo ke sc mo true ys == 0) = false := by simp [hw]
   have HU := Lib.hid fun W (h : CxsAt W (.slice q m2 cap2) ys) (h' : NumsAt W (.slice sp m3 cap3) ls) => realUntangle_no fo lo ke sc mo iv q sp m2 cap2 m3 cap3 ys hyl ex _ sa hU hw W h
   cases hfit : fitsB sc (passL ke lo) ls
   ·rw [hfit] at HSH
    have HLS := Lib.hid fun W h => realLoss_bad fo lo ke sc mo iv sp m3 cap3 ls hll h10 hk hfit W h
    exact unt18_Mn q sp l2 cap2 m2 l3 cap3 m3 fo lo ke sc mo ex iv sa ys ls hm2 hmin2 hm3 hmin3 _ hw hwb HU HLS HPL HSH HM HA w hy hs
   ·rw [hfit] at HSH
    have HLS := Lib.hid fun W h => realLoss_ok fo lo ke sc mo iv sp m3 cap3 ls hll hk hfit W h
    have HOF := Lib.hid fun W (h : NumsAt W (.slice sp m3 cap3) ls) => by
     have := of14_c fo lo ke sc mo iv h1 sp cap3 ls hfit W (by rw [hll]; exact h)
     rw [hll] at this
     exact this
    have hob := of_bd (by omega) (by omega) (by omega) (by omega) hfit
    have hn : IntKind.i64.wrap (ofB sc ke lo ls + 256) = ofB sc ke lo ls + 256 := IntWalk.i64_in _ ⟨by omega, by omega⟩
    exact unt18_My q sp l2 cap2 m2 l3 cap3 m3 fo lo ke sc mo ex iv sa ys ls hm2 hmin2 hm3 hmin3 (ofB sc ke lo ls + 256) (ofB sc ke lo ls) _ hw hwb HU HLS HPL HSH hn HOF HM HA w hy hs
 ·have hk' : okR fo lo ke sc mo iv = false := by simpa using hk
  rw [hk'] at HPL
  exact unt18_P q sp l2 cap2 m2 l3 cap3 m3 fo lo ke sc mo ex iv sa ys ls hm2 hmin2 hm3 hmin3 (Lib.hid fun W h h' => realUntangle_no fo lo ke sc mo iv q sp m2 cap2 m3 cap3 ys hyl ex 4 sa (by unfold whyU; rw [if_neg hk]) (by decide) W h) (Lib.hid fun W h => realLoss_plan fo lo ke sc mo iv _ hk' W) HPL HA w hy hs
end
section
open Go.ChangeShapes Go.WideShapes Go.ChangeAt Go.RowKit Go.Joins
set_option linter.unusedVariables false
set_option linter.unusedSimpArgs false
set_option maxRecDepth 100000
theorem array4 {α : Type} {cs : Array α} (h : cs.size = 4) : ∃ c0 c1 c2 c3, cs = #[c0, c1, c2, c3] := by
 obtain ⟨l⟩ := cs
 match l, h with
 | [c0, c1, c2, c3], _ => exact ⟨c0, c1, c2, c3, rfl⟩
theorem cellsBlock : Tryz.prog.cellsOf 27 = 4 := by kernel_rfl
theorem block_open {H : Type} {enc : TypeId × Value → H} {W : World} {r : Reach} {b0 : Nat} {v : Value} {d : DataW H} {p : List MemPlace} (hv : Value.okWide Tryz.prog W r b0 27 v) (h : DataW.Trod enc Tryz.prog W 0 (fun _ => true) true 27 v d p) :
 ∃ (a : Option Addr) (cap : Nat) (xs : List Gi) (ex : Int) (sa : Bool) (a' : Option Addr) (cap' : Nat) (ls : List Int), v = .agg #[.slice a xs.length cap, .int .i64 ex, .bool sa, .slice a' ls.length cap'] ∧
  CxsAt W (.slice a xs.length cap) xs ∧ NumsAt W (.slice a' ls.length cap') ls := by
 obtain ⟨cs, rfl, hsz⟩ := okWide_struct Tryz.underlying27 hv
 obtain ⟨c0, c1, c2, c3, rfl⟩ := array4 (hsz.trans cellsBlock)
 obtain ⟨fuel, hf⟩ := h
 obtain ⟨xs, n, _, hx, hl, hlen, hf⟩ := DataW.trod_struct Tryz.underlying27 hf
 have k : Tryz.prog.cellsOf 3 = 1 := by kernel_rfl
 have kb : Tryz.prog.cellsOf 4 = 1 := by kernel_rfl
 have kc : Tryz.prog.cellsOf 25 = 1 := by kernel_rfl
 have ki : Tryz.prog.cellsOf 22 = 1 := by kernel_rfl
 match xs, hlen with
 | [y0, y1, y2, y3], _ =>
   have h0 := hf 0 _ rfl
   have h1 := hf 1 _ rfl
   have h2 := hf 2 _ rfl
   have h3 := hf 3 _ rfl
   simp [k, kb, kc, ki, Value.cells] at h0 h1 h2 h3
   obtain ⟨x1, e1, _, w1⟩ := DataW.trod_int Tryz.underlying3 h1
   obtain ⟨x2, e2, _⟩ := DataW.trod_bool Tryz.underlying4 h2
   simp at e1 e2
   subst e1 e2
   obtain ⟨a, la, ca, rfl⟩ : ∃ a l c, c0 = .slice a l c := by
    rcases Go.Deep.open_slice_pairs Tryz.underlying25 Tryz.underlying50 (by kernel_rfl) rfl rfl (by kernel_rfl) (by kernel_rfl) h0 with ⟨hcs, _⟩ | ⟨a', l, c, m, n, V0, V1, D0, D1, P0, P1, hcs, _⟩
    ·simp at hcs; exact ⟨_, _, _, hcs⟩
    ·simp at hcs; exact ⟨_, _, _, hcs⟩
   obtain ⟨b, lb, cb, rfl⟩ : ∃ a l c, c3 = .slice a l c := by
    rcases open_ints Tryz.underlying22 Tryz.underlying3 (by kernel_rfl) h3 with ⟨hcs, _⟩ | ⟨a', l, c, zs, hcs, _⟩
    ·simp at hcs; exact ⟨_, _, _, hcs⟩
    ·simp at hcs; exact ⟨_, _, _, hcs⟩
   obtain ⟨us, rfl, hu, _⟩ := cxs_open h0
   obtain ⟨ls, rfl, hn, _⟩ := nums_open h3
   exact ⟨a, ca, us, x1, x2, b, cb, ls, rfl, hu, hn⟩
end
end Go.Proofs.YtdignnmpfkgkoaaGreat
