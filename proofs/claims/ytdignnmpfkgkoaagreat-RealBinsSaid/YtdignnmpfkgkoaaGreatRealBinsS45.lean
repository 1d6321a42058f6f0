import Derived.Test.YtdignnmpfkgkoaaGreatRealBinsS43
import Derived.Test.YtdignnmpfkgkoaaGreatRealBinsS44
namespace Go.Proofs.YtdignnmpfkgkoaaGreat
set_option maxHeartbeats 16000000
section
open Go.ChangeShapes Go.WideShapes Go.ChangeAt Go.RowKit
set_option linter.unusedVariables false
set_option linter.unusedSimpArgs false
set_option maxRecDepth 100000
set_option maxHeartbeats 16000000
theorem untV_len (fo lo sc mo : Int) (k : BV) : (untV fo lo sc mo k).X.length = k.X.length + 1 := by
 unfold untV untB
 simp only
 split
 ·rw [List.length_map, untL_len]
 ·rw [untL_len]
theorem alive18_c (w : World) : CW 12 #[] w (.bool true) :=by
 delta CW
 have e : (binV 0 2 0 2 0 [4, 4, 4, 4, 4, 4, 4, 4]).X = [⟨16, 0⟩, ⟨0, 0⟩, ⟨0, 0⟩, ⟨0, 0⟩, ⟨0, 0⟩] ∧ (binV 0 2 0 2 0 [4, 4, 4, 4, 4, 4, 4, 4]).ex = 1 := ⟨by kernel_rfl, by kernel_rfl⟩
 refine alive18_of (binV 0 2 0 2 0 [4, 4, 4, 4, 4, 4, 4, 4]).sat (runF 0 2 0 2 0 false (packG [4, 4, 4, 4, 4, 4, 4, 4])).sh (kh fun sp cl W h => ?_) w
 have h := realBins_yes 0 2 0 2 0 false sp 8 cl [4, 4, 4, 4, 4, 4, 4, 4] rfl (by decide +kernel) W h
 rw [e.1, e.2] at h
 exact h
theorem realBins_all (p : Option Addr) (l1 cap1 m1 : Nat) (fo lo ke sc mo : Int) (iv : Bool) (xs : List Int) (hxl : xs.length = m1) (h140 : m1 ≤ 140) (hm1 : m1 ≤ cap1) (hmin1 : (if (140 : Int) < (l1 : Int) then 140 else (l1 : Int)) = (m1 : Int)) (w : World) (hx : NumsAt w (.slice p m1 cap1) xs) :
 CW 3 #[.slice p l1 cap1, .agg #[fo, lo, ke, sc, mo, iv]] w (.bool true) :=by
 delta CW
 have HA := kh alive18_c
 have HPL := kh fun W => rPlan18_c fo lo ke sc mo iv W
 have HRP := kh fun W h => rPack18_c (.slice p m1 cap1) xs (by omega) W h
 by_cases hk : okR fo lo ke sc mo iv = true
 ·rw [hk] at HPL
  obtain ⟨h1, h5, hiv⟩ := okR_iff.1 hk;have hf := okF_iff.1 h1;have H := plF_of h1
  have e2 : ((2 ^ lo.toNat : Nat) : Int) = 2 ^ lo.toNat := by simp
  have HNU := kh fun W => rNum18_c H p m1 cap1 iv W
  by_cases hl : m1 = 2 * 2 ^ lo.toNat
  ·have hl2 : m1 / 2 = 2 ^ lo.toNat := by omega
   have hL : IsLog ((m1 / 2 : Nat) : Int) lo.toNat := ⟨by omega, by omega, by rw [hl2]⟩
   have HK := kh fun W h => realPack_yes p m1 cap1 (by omega) (by omega) _ hL xs hxl W h
   have HPS := kh fun W => rPacks18_yes m1 lo.toNat hL (by omega) (by omega) W
   rw [show ((m1 : Int) == ((2 * 2 ^ lo.toNat : Nat) : Int)) = true by simp only [beq_iff_eq]; omega] at HNU
   by_cases hp : partsB (-(oneB fo)) (oneB fo - 1) (packG xs) = true
   ·have h0 : whyR fo lo ke sc mo iv xs = 0 := by unfold whyR; rw [if_pos hk, if_pos (by omega), if_pos hp]
    obtain ⟨_, _, hw⟩ := whyR_yes h0;subst hiv;obtain ⟨r1, r2, ⟨r3, r4⟩, r5, r6⟩ := runF_facts (iv := false) hw;refine bins18_Dy p l1 cap1 m1 fo lo ke sc mo false xs hm1 hmin1 (packG xs) (binV fo lo ke sc mo xs).X (runF fo lo ke sc mo false (packG xs)).X (runF fo lo ke sc mo false (packG xs)).sh (runF fo lo ke sc mo false (packG xs)).ex (binV fo lo ke sc mo xs).ex (runF fo lo ke sc mo false (packG xs)).sat (binV fo lo ke sc mo xs).sat
     (kh fun e => ?_) (kh fun W h => realBins_yes fo lo ke sc mo false p m1 cap1 xs hxl h0 W h) HK HPS HRP HPL HNU (kh fun v W h => ?_) (kh fun v W h => ?_) (kh fun px cx sp cl W h => ?_) HA w hx
    ·have := untV_len fo lo sc mo (runF fo lo ke sc mo false (packG xs))
     rw [show (untV fo lo sc mo (runF fo lo ke sc mo false (packG xs))).X = [] from e] at this
     simp at this
    ·have := may15_c v fo lo ke sc mo false false (packG xs) W h
     rw [hw] at this
     exact this
    ·exact run15_c H false v (packG xs) (by rw [packG_len]; omega) (manB_iff.1 hp) W h
    ·rw [r1] at h ⊢
     exact runt18_c H (by omega) false (runF fo lo ke sc mo false (packG xs)) px sp cx _ cl r1 r2.all (by omega) (by omega) W h
   ·have h0 : whyR fo lo ke sc mo iv xs = 2 := by unfold whyR; rw [if_pos hk, if_pos (by omega), if_neg hp]
    have hw : whyB fo lo ke sc mo false (packG xs) = 2 := by
     unfold whyB;rw [if_pos h1, if_pos (by rw [packG_len]; omega)];simp only [Bool.false_eq_true, if_false];rw [if_neg hp]
    exact bins18_Cy p l1 cap1 m1 fo lo ke sc mo iv xs hm1 hmin1 (packG xs) (kh fun W h => realBins_no fo lo ke sc mo iv p m1 cap1 xs hxl (by omega) 2 h0 (by decide) W h) HK HPS HRP HPL HNU (kh fun v W h => by
     have := may15_c v fo lo ke sc mo iv false (packG xs) W h
     rw [hw] at this
     exact this) HA w hx
  ·have h0 : whyR fo lo ke sc mo iv xs = 3 := by unfold whyR; rw [if_pos hk, if_neg (by omega)]
   have HB := kh fun W h => realBins_no fo lo ke sc mo iv p m1 cap1 xs hxl (by omega) 3 h0 (by decide) W h
   rw [show ((m1 : Int) == ((2 * 2 ^ lo.toNat : Nat) : Int)) = false by simp only [beq_eq_false_iff_ne, ne_eq]; omega] at HNU
   by_cases hL : m1 % 2 = 0 ∧ ∃ L, IsLog ((m1 / 2 : Nat) : Int) L
   ·obtain ⟨he, L, hL⟩ := hL
    exact bins18_By p l1 cap1 m1 fo lo ke sc mo iv xs hm1 hmin1 (packG xs) HB (kh fun W h => realPack_yes p m1 cap1 (by omega) he L hL xs hxl W h) (kh fun W => rPacks18_yes m1 L hL he (by omega) W) HRP HPL HNU HA w hx
   ·exact bins18_Bn p l1 cap1 m1 fo lo ke sc mo iv xs hm1 hmin1 HB (kh fun W h => realPack_no p m1 cap1 (by omega) (fun a b => hL ⟨a, b⟩) W) (kh fun W => rPacks18_no m1 (fun a b => hL ⟨a, b⟩) (by omega) W) HPL HNU HA w hx
 ·rw [show okR fo lo ke sc mo iv = false by simpa using hk] at HPL
  have h0 : whyR fo lo ke sc mo iv xs = 4 := by unfold whyR; rw [if_neg hk]
  have HB := kh fun W h => realBins_no fo lo ke sc mo iv p m1 cap1 xs hxl (by omega) 4 h0 (by decide) W h
  by_cases hL : m1 % 2 = 0 ∧ ∃ L, IsLog ((m1 / 2 : Nat) : Int) L
  ·obtain ⟨he, L, hL⟩ := hL
   exact bins18_Ay p l1 cap1 m1 fo lo ke sc mo iv xs hm1 hmin1 (packG xs) HB (kh fun W h => realPack_yes p m1 cap1 (by omega) he L hL xs hxl W h) (kh fun W => rPacks18_yes m1 L hL he (by omega) W) HRP HPL HA w hx
  ·exact bins18_An p l1 cap1 m1 fo lo ke sc mo iv xs hm1 hmin1 HB (kh fun W h => realPack_no p m1 cap1 (by omega) (fun a b => hL ⟨a, b⟩) W) (kh fun W => rPacks18_no m1 (fun a b => hL ⟨a, b⟩) (by omega) W) HPL HA w hx
end
end Go.Proofs.YtdignnmpfkgkoaaGreat
