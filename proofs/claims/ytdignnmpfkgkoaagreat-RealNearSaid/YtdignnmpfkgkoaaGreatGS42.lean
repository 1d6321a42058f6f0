import Derived.Test.YtdignnmpfkgkoaaGreatGS41
namespace Go.Proofs.YtdignnmpfkgkoaaGreat
section
open Go.ChangeShapes Go.WideShapes Go.ChangeAt Go.RowKit
set_option linter.unusedVariables false
set_option linter.unusedSimpArgs false
set_option maxRecDepth 100000
theorem enters_b1 : Enters 29 := enters_of Tryz.func29 (by kernel_rfl) (by kernel_rfl)
theorem enters_b2 : Enters 31 := enters_of Tryz.func31 (by kernel_rfl) (by kernel_rfl)
theorem okR_iff {fo lo ke sc mo : Int} {iv : Bool} : okR fo lo ke sc mo iv = true ↔ okF fo lo ke sc mo = true ∧ lo ≤ 5 ∧ iv = false := by
 unfold okR
 simp only [Bool.and_eq_true, decide_eq_true_eq, Bool.not_eq_true', and_assoc]
theorem rlPlan_c (fo lo ke sc mo : Int) (iv : Bool) (w : World) : Calls Tryz.prog 30 #[.agg #[.int .i64 fo, .int .i64 lo, .int .i64 ke, .int .i64 sc, .int .i64 mo, .bool iv]] w fun e w' => e = .returned (.int .i64 (if okR fo lo ke sc mo iv = true then 0 else 4)) ∧ Gr w w' := by
 by_cases hk : okF fo lo ke sc mo = true
 ·have HC := Lib.hid fun W => check_c fo lo ke sc mo iv 0 (by rw [if_pos hk]) W
  by_cases h5 : (5 : Int) < lo
  ·rw [if_neg (by rw [okR_iff]; omega)]
   exact rlPlan_long fo lo ke sc mo iv h5 HC w
  ·have h := rlPlan_ok fo lo ke sc mo iv h5 HC w
   have e : (if okR fo lo ke sc mo iv = true then (0 : Int) else 4) = if iv = true then 4 else 0 := by
    cases iv
    ·rw [if_pos (okR_iff.2 ⟨hk, by omega, rfl⟩), if_neg (by decide)]
    ·rw [if_neg (by rw [okR_iff]; simp), if_pos rfl]
   rw [e]
   exact h
 ·rw [if_neg (by rw [okR_iff]; exact fun h => hk h.1)]
  exact rlPlan_bad fo lo ke sc mo iv (Lib.hid fun W => check_c fo lo ke sc mo iv 4 (by rw [if_neg hk]) W) w
def whyR (fo lo ke sc mo : Int) (iv : Bool) (rs : List Int) : Int :=
 if okR fo lo ke sc mo iv = true then (if (rs.length : Int) = 2 * 2 ^ lo.toNat then (if partsB (-(oneB fo)) (oneB fo - 1) (packG rs) = true then 0 else 2) else 3) else 4
def bitB (fo : Int) : Nat := if fo = 0 then 13 else 29
def untV (fo lo sc mo : Int) (k : BV) : BV := untB sc mo (oneB fo) (bitB fo) (tw (2 * 2 ^ lo.toNat) (bitB fo)) k
def binV (fo lo ke sc mo : Int) (rs : List Int) : BV := untV fo lo sc mo (runF fo lo ke sc mo false (packG rs))
theorem sh_lo {lo : Int} (c : Int) (h2 : 2 ≤ lo) (h5 : lo ≤ 5) (hc : c = 1 ∨ c = 2) (W : World) : (Op.shift .shl .i64 c .i64 lo).run Tryz.prog W = .ok (.int .i64 (c * 2 ^ lo.toNat)) W := by
 have h : lo = 2 ∨ lo = 3 ∨ lo = 4 ∨ lo = 5 := by omega
 rcases h with rfl | rfl | rfl | rfl <;> rcases hc with rfl | rfl <;> exact shl_run _ _ _ (by decide) (by decide) (by decide) W
theorem askB_c (fo lo ke sc mo : Int) (iv : Bool) (px : Option Addr) (m cx : Nat) (A B Q : Nat) (W : World) (hq : CellsAt W Q 96 #[.func (.func 29) #[] #[.pointer (some ⟨B, 0, none⟩)], .func (.func 31) #[] #[.pointer (some ⟨A, 0, none⟩), .pointer (some ⟨B, 0, none⟩)]]) (ha : CellsAt W A 22 #[.slice px m cx]) (hb : CellsAt W B 24 #[.int .i64 fo, .int .i64 lo, .int .i64 ke, .int .i64 sc, .int .i64 mo, .bool iv]) :
 Calls Tryz.prog 28 #[.slice (some ⟨Q, 0, none⟩) 2 2] W fun e w' => e = .returned (.int .i64 (if okR fo lo ke sc mo iv = true then (if (m : Int) = 2 * 2 ^ lo.toNat then 0 else 3) else 4)) ∧ Gr W w' := by
 have H := fun k y hk hy hQ => rlFirst_c Q 2 k (fun j => match j with | 0 => 29 | _ => 31) (fun j => match j with | 0 => #[.pointer (some ⟨B, 0, none⟩)] | _ => #[.pointer (some ⟨A, 0, none⟩), .pointer (some ⟨B, 0, none⟩)]) y (by decide) hk hy
  (fun j hj => match j, hj with | 0, _ => enters_b1 | 1, _ => enters_b2) W hq.lt (fun j hj => match j, hj with | 0, _ => hq.cell 0 | 1, _ => hq.cell 1) hQ
 have A1 := fun W' (g : Gr W W') => rlAsk_planb B fo lo ke sc mo iv _ (Lib.hid fun V => rlPlan_c fo lo ke sc mo iv V) W' (hb.gr g)
 by_cases hk : okR fo lo ke sc mo iv = true
 ·rw [if_pos hk] at A1 ⊢
  obtain ⟨h1, h5, hiv⟩ := okR_iff.1 hk
  have hf := okF_iff.1 h1
  have A2 := fun W' (g : Gr W W') => rlAsk_sizeb A B fo lo ke sc mo iv px m cx _ _ (Lib.hid fun V => sh_lo 2 hf.1.2.1.1 h5 (.inr rfl) V) (Lib.hid fun V => rlSize_c (m : Int) (2 * 2 ^ lo.toNat) V) W' (ha.gr g) (hb.gr g)
  by_cases hl : (m : Int) = 2 * 2 ^ lo.toNat
  ·rw [if_pos hl] at A2 ⊢
   exact H 2 0 (by decide) (by decide) (Lib.hid fun j hj hjk W' g => match j, hj with | 0, _ => A1 W' g | 1, _ => A2 W' g)
  ·rw [if_neg hl] at A2 ⊢
   exact H 1 3 (by decide) (by decide) (Lib.hid fun j hj hjk W' g => match j, hj with | 0, _ => A1 W' g | 1, _ => A2 W' g)
 ·rw [if_neg hk] at A1 ⊢
  exact H 0 4 (by decide) (by decide) (Lib.hid fun j hj hjk W' g => match j, hj with | 0, _ => A1 W' g | 1, _ => absurd hjk (by decide))
theorem whyR_yes {fo lo ke sc mo : Int} {iv : Bool} {rs : List Int} (h : whyR fo lo ke sc mo iv rs = 0) : (okF fo lo ke sc mo = true ∧ lo ≤ 5 ∧ iv = false) ∧ rs.length = 2 * 2 ^ lo.toNat ∧ whyB fo lo ke sc mo false (packG rs) = 0 := by
 unfold whyR at h
 split at h
 ·rename_i h1
  split at h
  ·rename_i h2
   split at h
   ·rename_i h3
    have e : ((2 ^ lo.toNat : Nat) : Int) = 2 ^ lo.toNat := by simp
    have hl : rs.length = 2 * 2 ^ lo.toNat := by omega
    obtain ⟨k1, k2, k3⟩ := okR_iff.1 h1
    refine ⟨⟨k1, k2, k3⟩, hl, ?_⟩
    unfold whyB
    rw [if_pos k1, if_pos (by rw [packG_len]; omega)]
    simp only [Bool.false_eq_true, if_false]
    rw [if_pos h3]
   ·cases h
  ·cases h
 ·cases h
theorem realLoss_ok (fo lo ke sc mo : Int) (iv : Bool) (sp : Option Addr) (m cl : Nat) (ls : List Int) (hlm : ls.length = m) (hk : okR fo lo ke sc mo iv = true) (hf : fitsB sc (passL ke lo) ls = true) (w : World) (hn : NumsAt w (.slice sp m cl) ls) : Calls Tryz.prog 20 #[.agg #[.int .i64 fo, .int .i64 lo, .int .i64 ke, .int .i64 sc, .int .i64 mo, .bool iv], .slice sp m cl] w fun e w' => e = .returned (.tuple #[.int .i64 (ofB sc ke lo ls + 256), .int .i64 0]) ∧ Gr w w' := by
 subst hlm
 have h1 := (okR_iff.1 hk).1
 have hk' := okF_iff.1 h1
 have hb := of_bd (by omega) (by omega) (by omega) (by omega) hf
 exact rlLoss_ok fo lo ke sc mo iv _ (ofB sc ke lo ls) _ (IntWalk.wrap64_in _ ⟨by omega, by omega⟩) (IntWalk.i64_in _ ⟨by omega, by omega⟩) ls (Lib.hid fun W => by have := rlPlan_c fo lo ke sc mo iv W; rw [if_pos hk] at this; exact this) (Lib.hid fun W h => budgetOf_ok fo lo ke sc mo iv h1 sp cl ls hf W h) w hn
theorem realPack_yes (px : Option Addr) (n cap : Nat) (hn : n ≤ 1000) (h2 : n % 2 = 0) (L : Nat) (hL : IsLog ((n / 2 : Nat) : Int) L) (rs : List Int) (hrn : rs.length = n) (w : World) (hv : NumsAt w (.slice px n cap) rs) :
 Calls Tryz.prog 8 #[.slice px n cap] w fun e w' => ∃ u, e = .returned (.tuple #[u, .int .i64 0]) ∧ CxsAt w' u (packG rs) ∧ Gr w w' := by
 have hl := isLog_cases hL
 refine rlPack_yes px n cap (n / 2) (by omega) (by omega) (L : Int) (by omega) (by omega) rs (packG rs) hrn (by rw [packG_len, hrn]) (Lib.hid fun j z hz => ?_) (Lib.hid fun W => calls_gr (log08_yes _ L hL W)) w hv
 have hj := (List.getElem?_eq_some_iff.1 hz).1
 rw [packG_len] at hj
 have e := packG_at rs j hj
 rw [List.getD_eq_getElem?_getD, hz] at e
 simp only [Option.getD_some] at e
 subst e
 simp only
 have a1 : 2 * j < rs.length := by omega
 have a2 : 2 * j + 1 < rs.length := by omega
 refine ⟨?_, ?_⟩
 ·rw [List.getD_eq_getElem?_getD, List.getElem?_eq_getElem a1]; rfl
 ·rw [List.getD_eq_getElem?_getD, List.getElem?_eq_getElem a2]; rfl
theorem runF_facts {fo lo ke sc mo : Int} {iv : Bool} {xs : List Gi} (h0 : whyB fo lo ke sc mo false xs = 0) :
 (runF fo lo ke sc mo iv xs).X.length = 2 ^ lo.toNat ∧ ManB (oneB fo) (runF fo lo ke sc mo iv xs).X ∧ (-100 ≤ (runF fo lo ke sc mo iv xs).ex ∧ (runF fo lo ke sc mo iv xs).ex ≤ 100) ∧ (runF fo lo ke sc mo iv xs).sh.length ≤ 20 ∧ fitsB sc (passL ke lo) (runF fo lo ke sc mo iv xs).sh = true := by
 obtain ⟨h1, h2, h3⟩ := why_yes h0
 have H := plF_of h1
 have hm := manB_iff.1 h3
 have hp := run_pow H iv xs
 have hf : fitsB sc (passL ke lo) (runF fo lo ke sc mo iv xs).sh = true := run_fits H iv xs
 have hr := run_man H iv h2 hm
 have hlen : (runF fo lo ke sc mo iv xs).X.length = 2 ^ lo.toNat := by
  unfold runF runB15
  split
  ·exact sL_len _ _ _ _ _ _
  ·exact (behind_man H iv h2 hm _ (Nat.le_refl _)).1
 have hrm := room_le (oneB fo) (maxG xs)
 have hp2 : 0 ≤ (runF fo lo ke sc mo iv xs).ex + (if sc = 1 then (room (oneB fo) (maxG xs) : Int) else 0) ∧ (runF fo lo ke sc mo iv xs).ex + (if sc = 1 then (room (oneB fo) (maxG xs) : Int) else 0) ≤ 20 := hp
 refine ⟨hlen, hr, ?_, ?_, hf⟩
 ·split at hp2 <;> omega
 ·have := fitsB_len sc _ _ hf
  have h7 : (passL ke lo).length ≤ 7 := by
   by_cases hke : ke = 2
   ·subst hke
    have hk := (okF_iff.1 h1).1.2.1
    have hl : lo = 2 ∨ lo = 3 ∨ lo = 4 ∨ lo = 5 ∨ lo = 6 := by omega
    rcases hl with rfl | rfl | rfl | rfl | rfl <;> decide +kernel
   ·have := (passL_len7 H).1; omega
  omega
theorem realBins_no (fo lo ke sc mo : Int) (iv : Bool) (px : Option Addr) (m cx : Nat) (rs : List Int) (hrm : rs.length = m) (hm : m ≤ 1000) (y : Int) (hy : whyR fo lo ke sc mo iv rs = y) (h0 : ¬ y = 0) (w : World) (hv : NumsAt w (.slice px m cx) rs) :
 Calls Tryz.prog 7 #[.slice px m cx, .agg #[.int .i64 fo, .int .i64 lo, .int .i64 ke, .int .i64 sc, .int .i64 mo, .bool iv]] w fun e w' => e = .returned (.tuple #[.agg #[.slice none 0 0, .int .i64 0, .bool false, .slice none 0 0], .int .i64 y]) ∧ Gr w w' := by
 have HA := fun A B Q W hq ha hb => askB_c fo lo ke sc mo iv px m cx A B Q W hq ha hb
 unfold whyR at hy
 by_cases hk : okR fo lo ke sc mo iv = true
 ·obtain ⟨h1, h5, hiv⟩ := okR_iff.1 hk
  have hf := okF_iff.1 h1
  simp only [if_pos hk] at HA
  rw [if_pos hk] at hy
  by_cases hl : (m : Int) = 2 * 2 ^ lo.toNat
  ·simp only [if_pos hl] at HA
   rw [hrm, if_pos hl] at hy
   by_cases hp : partsB (-(oneB fo)) (oneB fo - 1) (packG rs) = true
   ·rw [if_pos hp] at hy
    exact absurd hy.symm h0
   ·rw [if_neg hp] at hy
    subst hy
    have e : ((2 ^ lo.toNat : Nat) : Int) = 2 ^ lo.toNat := by simp
    have hl2 : m / 2 = 2 ^ lo.toNat := by omega
    have hw : whyB fo lo ke sc mo false (packG rs) = 2 := by
     unfold whyB
     rw [if_pos h1, if_pos (by rw [packG_len, hrm, hl2, e])]
     simp only [Bool.false_eq_true, if_false]
     rw [if_neg hp]
    have hL : IsLog ((m / 2 : Nat) : Int) lo.toNat := ⟨by omega, by omega, by rw [hl2]⟩
    exact rlBins_run px m cx rs fo lo ke sc mo iv (packG rs) 2 (by decide) (by decide) (Lib.hid HA) (Lib.hid fun W h => realPack_yes px m cx hm (by omega) _ hL rs hrm W h) (Lib.hid fun u W h => fftRun_said.2 fo lo ke sc mo iv u (packG rs) 2 hw (by decide) W h) w hv
  ·simp only [if_neg hl] at HA
   rw [hrm, if_neg hl] at hy
   subst hy
   exact rlBins_ask px m cx rs fo lo ke sc mo iv 3 (by decide) (by decide) (Lib.hid HA) w
 ·simp only [if_neg hk] at HA
  rw [if_neg hk] at hy
  subst hy
  exact rlBins_ask px m cx rs fo lo ke sc mo iv 4 (by decide) (by decide) (Lib.hid HA) w
theorem realBins_yes (fo lo ke sc mo : Int) (iv : Bool) (px : Option Addr) (m cx : Nat) (rs : List Int) (hrm : rs.length = m) (h0 : whyR fo lo ke sc mo iv rs = 0) (w : World) (hv : NumsAt w (.slice px m cx) rs) :
 Calls Tryz.prog 7 #[.slice px m cx, .agg #[.int .i64 fo, .int .i64 lo, .int .i64 ke, .int .i64 sc, .int .i64 mo, .bool iv]] w fun e w' => ∃ vx vs, e = .returned (.tuple #[.agg #[vx, .int .i64 (binV fo lo ke sc mo rs).ex, .bool (binV fo lo ke sc mo rs).sat, vs], .int .i64 0]) ∧ CxsAt w' vx (binV fo lo ke sc mo rs).X ∧ NumsAt w' vs (runF fo lo ke sc mo false (packG rs)).sh ∧ Gr w w' := by
 obtain ⟨⟨h1, h5, hiv⟩, hl, hw⟩ := whyR_yes h0
 have hk : okR fo lo ke sc mo iv = true := okR_iff.2 ⟨h1, h5, hiv⟩
 have hf := okF_iff.1 h1
 have H := plF_of h1
 have e : ((2 ^ lo.toNat : Nat) : Int) = 2 ^ lo.toNat := by simp
 have hlen := H.lens.2.1
 have HA := fun A B Q W hq ha hb => askB_c fo lo ke sc mo iv px m cx A B Q W hq ha hb
 simp only [if_pos hk] at HA
 simp only [if_pos (show (m : Int) = 2 * 2 ^ lo.toNat by omega)] at HA
 have hl2 : m / 2 = 2 ^ lo.toNat := by omega
 have hL : IsLog ((m / 2 : Nat) : Int) lo.toNat := ⟨by omega, by omega, by rw [hl2]⟩
 subst hiv
 obtain ⟨r1, r2, ⟨r3, r4⟩, r5, r6⟩ := runF_facts (iv := false) hw
 exact rlBins_yes px m cx rs fo lo ke sc mo false (packG rs) _ _ _ _ _ _ _ _ (Lib.hid HA) (Lib.hid fun W h => realPack_yes px m cx (by omega) (by omega) _ hL rs hrm W h) (Lib.hid fun u W h => fftRun_said.1 fo lo ke sc mo false u (packG rs) hw W h)
  (Lib.hid fun px' cx' sp' cl' W hx hs => by
   rw [r1] at hx ⊢
   exact rlUnt_c H (by omega) false (runF fo lo ke sc mo false (packG rs)) px' sp' cx' _ cl' r1 r2.all r5 (by omega) (by omega) W hx hs) w hv
theorem cut140 (n : Nat) : ∃ m : Nat, m ≤ n ∧ m ≤ 140 ∧ (if (140 : Int) < (n : Int) then 140 else (n : Int)) = (m : Int) := by
 by_cases h : (140 : Int) < (n : Int)
 ·exact ⟨140, by omega, by omega, by rw [if_pos h]; rfl⟩
 ·exact ⟨n, Nat.le_refl _, by omega, by rw [if_neg h]⟩
set_option maxHeartbeats 2000000 in
theorem alive18_of (sa : Bool) (sh : List Int) (HO : Hid (∀ sp cl W, NumsAt W (.slice sp 8 cl) [4, 4, 4, 4, 4, 4, 4, 4] → Calls Tryz.prog 7 #[.slice sp 8 cl, .agg #[.int .i64 0, .int .i64 2, .int .i64 0, .int .i64 2, .int .i64 0, .bool false]] W fun e w' => ∃ vx vs, e = .returned (.tuple #[.agg #[vx, .int .i64 1, .bool sa, vs], .int .i64 0]) ∧ CxsAt w' vx [⟨16, 0⟩, ⟨0, 0⟩, ⟨0, 0⟩, ⟨0, 0⟩, ⟨0, 0⟩] ∧ NumsAt w' vs sh ∧ Gr W w')) (w : World) :
 Calls Tryz.prog 12 #[] w fun e w' => e = .returned (.bool true) ∧ Gr w w' := by
 go_enter Tryz.func12, Tryz.ntmps12
 go_wp2_with fail
 obtain ⟨u1, hu⟩ : ∃ uu, uu = w.alloc (.cells #[.int .i64 4, .int .i64 4, .int .i64 4, .int .i64 4, .int .i64 4, .int .i64 4, .int .i64 4, .int .i64 4] 3) := ⟨_, rfl⟩
 have N1 : NumsAt u1 (.slice (some ⟨w.heap.size, 0, none⟩) 8 8) [4, 4, 4, 4, 4, 4, 4, 4] := by
  rw [hu]
  exact nums_of_cells (ls := [4, 4, 4, 4, 4, 4, 4, 4]) (CellsAt.new w 3 #[.int .i64 4, .int .i64 4, .int .i64 4, .int .i64 4, .int .i64 4, .int .i64 4, .int .i64 4, .int .i64 4]) (fun j x hj => by
   match j, hj with
   | 0, hj => cases hj; rfl
   | 1, hj => cases hj; rfl
   | 2, hj => cases hj; rfl
   | 3, hj => cases hj; rfl
   | 4, hj => cases hj; rfl
   | 5, hj => cases hj; rfl
   | 6, hj => cases hj; rfl
   | 7, hj => cases hj; rfl) (Nat.le_refl _) (by unfold maxLen; simp)
 have g1 : Gr w u1 := by rw [hu]; exact (Gr.refl w).alloc _ _
 rw [← hu]
 clear hu
 refine (HO.out _ _ _ N1).mono ?_
 rintro e w2 ⟨vx, vs, rfl, hx, hs, g2⟩
 obtain ⟨b, oo, cap, rfl, hln, hb, hc⟩ := hx.at (by simp)
 obtain ⟨ps, cs, rfl⟩ := hs.len
 rw [show ([⟨16, 0⟩, ⟨0, 0⟩, ⟨0, 0⟩, ⟨0, 0⟩, ⟨0, 0⟩] : List Gi).length = 5 from rfl]
 have h0 := hc 0 _ rfl
 have h1 := hc 4 _ rfl
 simp only [Nat.zero_mul, Nat.add_zero, Nat.one_mul] at h0 h1
 obtain ⟨a0, a1⟩ := h0
 obtain ⟨b0, b1⟩ := h1
 clear hc hln
 go_wp2_with fail
 go_ret
 exact ⟨by first | rfl | (simp; done), (g1.trans g2).alloc _ _⟩
theorem untV_len (fo lo sc mo : Int) (k : BV) : (untV fo lo sc mo k).X.length = k.X.length + 1 := by
 unfold untV untB
 simp only
 split
 ·rw [List.length_map, untL_len]
 ·rw [untL_len]
theorem alive18_c (w : World) : Calls Tryz.prog 12 #[] w fun e w' => e = .returned (.bool true) ∧ Gr w w' := by
 have e : (binV 0 2 0 2 0 [4, 4, 4, 4, 4, 4, 4, 4]).X = [⟨16, 0⟩, ⟨0, 0⟩, ⟨0, 0⟩, ⟨0, 0⟩, ⟨0, 0⟩] ∧ (binV 0 2 0 2 0 [4, 4, 4, 4, 4, 4, 4, 4]).ex = 1 := ⟨by kernel_rfl, by kernel_rfl⟩
 refine alive18_of (binV 0 2 0 2 0 [4, 4, 4, 4, 4, 4, 4, 4]).sat (runF 0 2 0 2 0 false (packG [4, 4, 4, 4, 4, 4, 4, 4])).sh (Lib.hid fun sp cl W h => ?_) w
 have h := realBins_yes 0 2 0 2 0 false sp 8 cl [4, 4, 4, 4, 4, 4, 4, 4] rfl (by decide +kernel) W h
 rw [e.1, e.2] at h
 exact h
end
end Go.Proofs.YtdignnmpfkgkoaaGreat
