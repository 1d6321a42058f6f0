import Derived.LoopN
import Derived.Deep.AppendLies
import Derived.Lib.SliceRun
import Derived.BigRegion
import Derived.Test.YtcgeabpibkejpaaGreatUS4
namespace Go.Proofs.YtcgeabpibkejpaaGreat
section
open Go.ChangeShapes Go.WideShapes Go.ChangeAt Go.RowKit
set_option linter.unusedVariables false
set_option linter.unusedSimpArgs false
set_option maxRecDepth 100000
set_option maxHeartbeats 1000000 in
theorem passKernel_c (fo lo ke sc mo h : Int) (iv : Bool) (w : World) :
 Calls Tryz.prog 66 #[.agg #[.int .i64 fo, .int .i64 lo, .int .i64 ke, .int .i64 sc, .int .i64 mo, .bool iv], .int .i64 h] w fun e w' => e = .returned (.int .i64 (passK ke lo h)) ∧ Gr w w' := by
 by_cases hk : ke = 0
 ·subst hk
  go_enter Tryz.func66, Tryz.ntmps66
  go_wp2_with fail
  go_ret
  exact ⟨by simp [passK, *], (Gr.refl w).alloc _ _⟩
 ·have hk' : (ke == 0) = false := by simp [hk]
  obtain ⟨r, hr⟩ : ∃ r, lo.tmod 2 = r := ⟨_, rfl⟩
  by_cases hl : r = 1
  ·have hl' : (r == 1) = true := by simp [hl]
   by_cases hh : h = 1
   ·have hh' : (h == 1) = true := by simp [hh]
    go_enter Tryz.func66, Tryz.ntmps66
    go_wp2_with fail
    go_ret
    exact ⟨by simp [passK, *], (Gr.refl w).alloc _ _⟩
   ·have hh' : (h == 1) = false := by simp [hh]
    go_enter Tryz.func66, Tryz.ntmps66
    go_wp2_with fail
    go_ret
    exact ⟨by simp [passK, *], (Gr.refl w).alloc _ _⟩
  ·have hl' : (r == 1) = false := by simp [hl]
   go_enter Tryz.func66, Tryz.ntmps66
   go_wp2_with fail
   go_ret
   exact ⟨by simp [passK, *], (Gr.refl w).alloc _ _⟩
theorem info_pass : (Tryz.prog.info? 74).map (fun i => (i.zero, i.size, i.bytes)) = some (some (.agg #[.int .i64 0, .int .i64 0]), 2, 16) := by kernel_rfl
set_option maxHeartbeats 4000000 in
theorem passes_new (fo lo ke sc mo n : Int) (iv : Bool) (hok : okF fo lo ke sc mo = true) (w : World) :
 Calls Tryz.prog 39 #[.agg #[.int .i64 fo, .int .i64 lo, .int .i64 ke, .int .i64 sc, .int .i64 mo, .bool iv]] w fun e w' => ∃ v, e = .returned (.tuple #[v, .int .i64 0]) ∧ CxsAt w' v (passL ke lo) ∧ Gr w w' ∧ (∀ b, v.ownBlock = some b → w.heap.size ≤ b) := by
 have HC := Lib.hid (check_c fo lo ke sc mo iv 0 (by rw [if_pos hok]))
 have hf := okF_iff.1 hok
 obtain ⟨n, hn⟩ : ∃ n : Int, n = 2 ^ lo.toNat := ⟨_, rfl⟩
 obtain ⟨i0, hi, hz0, hz1, hz2⟩ := info_parts info_pass
 by_cases hk : ke = 2
 ·subst hk
  clear hok hf hn
  go_enter Tryz.func39, Tryz.ntmps39
  go_wp2_with fail
  obtain ⟨u0, hu⟩ : ∃ uu, uu = w.alloc (.cells #[.int .i64 fo, .int .i64 lo, .int .i64 2, .int .i64 sc, .int .i64 mo, .bool iv] 24) := ⟨_, rfl⟩
  have R0 : CellsAt u0 w.heap.size 24 #[.int .i64 fo, .int .i64 lo, .int .i64 2, .int .i64 sc, .int .i64 mo, .bool iv] := by rw [hu]; exact CellsAt.new w 24 _
  have gu : Gr w u0 := by rw [hu]; exact (Gr.refl w).alloc _ _
  rw [← hu]
  clear hu
  refine (HC.out _).mono ?_
  rintro e w1 ⟨rfl, g1⟩
  have R1 := R0.gr g1
  have l1 := R1.lt
  have c2 := R1.cell 2
  simp only [getS] at c2
  go_wp2_with fail
  go_ret2
  exact ⟨_, rfl, by unfold passL; rw [if_pos rfl]; exact CxsAt.nil _, gu.trans g1, fun b e => by cases e⟩
 ·have hR := passL_rest ke lo n hk (by omega) (by omega) hn
  obtain ⟨n0, n1, hs⟩ := pow_log lo n (by omega) (by omega) hn
  generalize passL ke lo = L at *
  have hl0 : ¬ lo < 0 := by omega
  have hk' : (ke == 2) = false := by simp [hk]
  have HS := Lib.hid hs
  have HF := Lib.hid hf
  clear hn hs hf hok
  go_enter Tryz.func39, Tryz.ntmps39
  go_wp2_with fail
  obtain ⟨u0, hu⟩ : ∃ uu, uu = w.alloc (.cells #[.int .i64 fo, .int .i64 lo, .int .i64 ke, .int .i64 sc, .int .i64 mo, .bool iv] 24) := ⟨_, rfl⟩
  have R0 : CellsAt u0 w.heap.size 24 #[.int .i64 fo, .int .i64 lo, .int .i64 ke, .int .i64 sc, .int .i64 mo, .bool iv] := by rw [hu]; exact CellsAt.new w 24 _
  have gu : Gr w u0 := by rw [hu]; exact (Gr.refl w).alloc _ _
  rw [← hu]
  clear hu
  refine (HC.out _).mono ?_
  rintro e w1 ⟨rfl, g1⟩
  have R1 := R0.gr g1
  have gu1 := gu.trans g1
  clear R0 gu g1 HC
  have l1 := R1.lt
  have c2 := R1.cell 2
  simp only [getS] at c2
  go_wp2_with fail
  clear c2 hk'
  go_loopw [5, 6] (fun v i wr => ∃ (h : Int) (pre rest : List Gi), i = .int .i64 h ∧ 1 ≤ h ∧ h ≤ 256 ∧ pre.length ≤ h ∧ pre ++ rest = L ∧ Rest ke lo n h rest ∧ wr.ownsRow (w.heap.size + 1) 74 2 v pre.length (gcells pre) ∧ CellsAt wr w.heap.size 24 #[.int .i64 fo, .int .i64 lo, .int .i64 ke, .int .i64 sc, .int .i64 mo, .bool iv] ∧ Gr w wr)
   (fun _ i _ => 400 - (intOf i).toNat)
  case atStart => exact ⟨1, [], L, rfl, by omega, by omega, by simp, rfl, hR, World.ownsRow_nil _ _ _ _, R1, gu1⟩
  case round =>
   clear hR R1 gu1 l1
   obtain ⟨h, pre, rest, rfl, hh1, hh2, hln, hL, hR, hrow, hP, hg⟩ := hrel
   have hs := HS.out
   have hsw : wrap64 (2 ^ min lo.toNat 64) = n := by rw [hs]; exact IntWalk.wrap64_in _ ⟨by omega, by omega⟩
   have l1 := hP.lt
   have c0 := hP.cell 0
   have c1 := hP.cell 1
   have c2 := hP.cell 2
   have c3 := hP.cell 3
   have c4 := hP.cell 4
   have c5 := hP.cell 5
   simp only [getS] at c0 c1 c2 c3 c4 c5
   by_cases hlt : h < n
   ·obtain ⟨l', hl', hR'⟩ := hR.step hh1 hlt
    have HK := Lib.hid (passKernel_c fo lo ke sc mo h iv)
    have hk2 := passK_two ke lo h
    clear hR hs
    generalize passK ke lo h = k at *
    have hm1 : h * 2 ≤ h * k := Int.mul_le_mul_of_nonneg_left hk2.1 (by omega)
    have hm2 : h * k ≤ h * 4 := Int.mul_le_mul_of_nonneg_left hk2.2 (by omega)
    generalize hp : h * k = p at *
    have hpw : wrap64 p = p := IntWalk.wrap64_in _ ⟨by omega, by omega⟩
    rw [← hp] at hpw
    go_wp2_with fail
    refine (HK.out _).mono ?_
    rintro e w2 ⟨rfl, g2⟩
    have hrow2 := ownsRow_gr hrow g2
    have hP2 := hP.gr g2
    have hg2 := hg.trans g2
    have hz := hP2.lt
    clear hrow hP hg g2 c0 c1 c2 c3 c4 c5 l1 HK
    go_wp2_with (at_builtin; refine wpList_append_own_at _ rfl (.tmp 24) (.tmp 28) 64 rfl (w.heap.size + 1) 74 i0 (.agg #[.int .i64 0, .int .i64 0]) 2 16 Tryz.underlying64 hi hz0 hz1 hz2 rfl (by decide) _ _ _ rfl (hrow2.alloc _) ⟨_, 0, none⟩ 1 1 [.int .i64 k, .int .i64 h] rfl rfl (news_two _ _ _ _) (by simp [Value.oneCell']) (by unfold maxLen; omega) (by omega) (by simp; omega) ?_; intro v' w3 hown' hgrow _ hblk)
    have hg3 := (hg2.allocO _).grown hgrow (fun k e => by have := (hrow2.lt k e).1; omega)
    have hP3 := (hP2.alloc _).grown hgrow (fun e => by have := (hrow2.lt _ e.symm).1; omega)
    go_roundw
    case rel =>
     refine ⟨p, pre ++ [⟨k, h⟩], l', by first | rfl | rw [hp], by omega, by omega, by simp; omega, by rw [List.append_assoc, ← hL, hl']; rfl, hR', ?_, hP3, hg3⟩
     rw [List.length_append, gcells_snoc]
     exact hown'
    case measure => simp [intOf]; omega
   ·have hl := hR.done hlt
    subst hl
    go_wp2_with fail
    go_ret2
    refine ⟨_, rfl, ?_, hg, fun b e => Nat.le_of_succ_le (hrow.lt b e).1⟩
    rw [← hL, List.append_nil]
    exact CxsAt.of_row hrow
theorem passes_ok (fo lo ke sc mo n : Int) (iv : Bool) (hok : okF fo lo ke sc mo = true) (w : World) :
 Calls Tryz.prog 39 #[.agg #[.int .i64 fo, .int .i64 lo, .int .i64 ke, .int .i64 sc, .int .i64 mo, .bool iv]] w fun e w' => ∃ v, e = .returned (.tuple #[v, .int .i64 0]) ∧ CxsAt w' v (passL ke lo) ∧ Gr w w' :=
 (passes_new fo lo ke sc mo n iv hok w).mono fun e w' ⟨v, h1, h2, h3, _⟩ => ⟨v, h1, h2, h3⟩
theorem CxsAt.grown {W w' : World} {b o n c : Nat} {xs : List Gi} {row : Option Nat} (h : CxsAt W (.slice (some ⟨b, o, none⟩) n c) xs) (hg : W.grownBy w' row) (hne : some b ≠ row) : CxsAt w' (.slice (some ⟨b, o, none⟩) n c) xs := by
 obtain ⟨p, cap, hv, hl, hm, hc⟩ := h
 refine ⟨p, cap, hv, hl, hm, fun hx => ?_⟩
 obtain ⟨b', o', hp, hbb, hc⟩ := hc hx
 have hb : b' = b := by
  rw [hp] at hv
  cases hv
  rfl
 have hs := hg.block b' hbb (by rw [hb]; exact hne)
 refine ⟨b', o', hp, Nat.lt_of_lt_of_le hbb hg.size, fun j x hj => ?_⟩
 have := hc j x hj
 unfold World.cell? at this ⊢
 rw [hs]
 exact this
end
section
open Go.ChangeShapes Go.WideShapes Go.ChangeAt Go.RowKit
set_option linter.unusedVariables false
set_option maxRecDepth 100000
def FB (f b p : Int) : Prop := (f = 0 ∧ b = 15 ∧ p = 32768) ∨ (f = 1 ∧ b = 31 ∧ p = 2147483648)
def clampI (p x : Int) : Int := if x < -p then -p else if p - 1 < x then p - 1 else x
theorem clampI_low {p x : Int} (h : x < -p) : clampI p x = -p := if_pos h
theorem clampI_high {p x : Int} (h0 : 0 < p) (h : p - 1 < x) : clampI p x = p - 1 := by rw [clampI, if_neg (by omega), if_pos h]
theorem clampI_mid {p x : Int} (h0 : -p ≤ x) (h1 : x < p) : clampI p x = x := by rw [clampI, if_neg (by omega), if_neg (by omega)]
theorem clampI_bd (p x : Int) (h0 : 0 < p) : -p ≤ clampI p x ∧ clampI p x < p := by
 unfold clampI
 split
 ·omega
 ·split <;> omega
theorem FB.pos {f b p : Int} (h : FB f b p) : 0 < p ∧ p ≤ 2147483648 ∧ 0 ≤ b ∧ b ≤ 31 ∧ 0 ≤ f ∧ f ≤ 1 := by
 rcases h with ⟨rfl, rfl, rfl⟩ | ⟨rfl, rfl, rfl⟩ <;> omega
theorem FB.pow {f b p : Int} (h : FB f b p) : (2 : Int) ^ b.toNat = p := by
 rcases h with ⟨rfl, rfl, rfl⟩ | ⟨rfl, rfl, rfl⟩ <;> rfl
theorem FB.of {f : Int} (h0 : 0 ≤ f) (h1 : f ≤ 1) : ∃ b p, FB f b p := by
 by_cases h : f = 0
 ·exact ⟨15, 32768, .inl ⟨h, rfl, rfl⟩⟩
 ·exact ⟨31, 2147483648, .inr ⟨by omega, rfl, rfl⟩⟩
theorem clamped_low (b p x : Int) (hb : Hid ((b = 15 ∧ p = 32768) ∨ (b = 31 ∧ p = 2147483648))) (h : x < -p) (w : World) :
 Calls Tryz.prog 137 #[.int .i64 x, .int .i64 b] w fun e w' => e = .returned (.int .i64 (-p)) ∧ Gr w w' := by
 rcases hb.out with ⟨rfl, rfl⟩ | ⟨rfl, rfl⟩ <;> clear hb
 all_goals
  go_enter Tryz.func137, Tryz.ntmps137
  go_wp2
  go_region
  all_goals (go_wp2; go_ret; exact ⟨rfl, by repeat (first | exact Gr.refl _ | assumption | apply Gr.drew | apply Gr.alloc)⟩)
theorem clamped_high (b p x : Int) (hb : Hid ((b = 15 ∧ p = 32768) ∨ (b = 31 ∧ p = 2147483648))) (h : p - 1 < x) (w : World) :
 Calls Tryz.prog 137 #[.int .i64 x, .int .i64 b] w fun e w' => e = .returned (.int .i64 (p - 1)) ∧ Gr w w' := by
 rcases hb.out with ⟨rfl, rfl⟩ | ⟨rfl, rfl⟩ <;> clear hb
 all_goals
  go_enter Tryz.func137, Tryz.ntmps137
  go_wp2
  go_region
  all_goals (go_wp2; go_ret; exact ⟨rfl, by repeat (first | exact Gr.refl _ | assumption | apply Gr.drew | apply Gr.alloc)⟩)
theorem clamped_mid' (b p x : Int) (hb : Hid ((b = 15 ∧ p = 32768) ∨ (b = 31 ∧ p = 2147483648))) (h0 : -p < x) (h1 : x ≤ p - 1) (w : World) :
 Calls Tryz.prog 137 #[.int .i64 x, .int .i64 b] w fun e w' => e = .returned (.int .i64 x) ∧ Gr w w' := by
 rcases hb.out with ⟨rfl, rfl⟩ | ⟨rfl, rfl⟩ <;> clear hb
 all_goals
  go_enter Tryz.func137, Tryz.ntmps137
  go_wp2
  go_region
  all_goals (go_wp2; go_ret; exact ⟨rfl, by repeat (first | exact Gr.refl _ | assumption | apply Gr.drew | apply Gr.alloc)⟩)
theorem clamped_least (b p : Int) (hb : Hid ((b = 15 ∧ p = 32768) ∨ (b = 31 ∧ p = 2147483648))) (w : World) :
 Calls Tryz.prog 137 #[.int .i64 (-p), .int .i64 b] w fun e w' => e = .returned (.int .i64 (-p)) ∧ Gr w w' := by
 rcases hb.out with ⟨rfl, rfl⟩ | ⟨rfl, rfl⟩ <;> clear hb
 all_goals
  go_enter Tryz.func137, Tryz.ntmps137
  go_wp2
  go_region
  all_goals (go_wp2; go_ret; exact ⟨rfl, by repeat (first | exact Gr.refl _ | assumption | apply Gr.drew | apply Gr.alloc)⟩)
theorem clamped_mid (b p x : Int) (hb : Hid ((b = 15 ∧ p = 32768) ∨ (b = 31 ∧ p = 2147483648))) (h0 : -p ≤ x) (h1 : x ≤ p - 1) (w : World) :
 Calls Tryz.prog 137 #[.int .i64 x, .int .i64 b] w fun e w' => e = .returned (.int .i64 x) ∧ Gr w w' := by
 by_cases hx : -p < x
 ·exact clamped_mid' b p x hb hx h1 w
 ·obtain rfl : x = -p := by omega
  exact clamped_least b p hb w
theorem FB.bp {f b p : Int} (h : FB f b p) : Hid ((b = 15 ∧ p = 32768) ∨ (b = 31 ∧ p = 2147483648)) := by
 rcases h with ⟨_, h⟩ | ⟨_, h⟩
 ·exact Lib.hid (.inl h)
 ·exact Lib.hid (.inr h)
theorem clamped_c (f b p x : Int) (H : FB f b p) (w : World) :
 Calls Tryz.prog 137 #[.int .i64 x, .int .i64 b] w fun e w' => e = .returned (.int .i64 (clampI p x)) ∧ Gr w w' := by
 have hp := H.pos
 by_cases h0 : x < -p
 ·rw [clampI_low h0]; exact clamped_low b p x H.bp h0 w
 ·by_cases h1 : p - 1 < x
  ·rw [clampI_high hp.1 h1]; exact clamped_high b p x H.bp h1 w
  ·rw [clampI_mid (by omega) (by omega)]; exact clamped_mid b p x H.bp (by omega) (by omega) w
theorem bits_c (f b p : Int) (H : FB f b p) (w : World) :
 Calls Tryz.prog 67 #[.int .i64 f] w fun e w' => e = .returned (.tuple #[.int .i64 b, .int .i64 0]) ∧ w' = w := by
 rcases H with ⟨rfl, rfl, rfl⟩ | ⟨rfl, rfl, rfl⟩
 all_goals
  go_enter Tryz.func67, Tryz.ntmps67
  go_wp2
  go_ret2
  exact ⟨rfl, rfl⟩
theorem clamp_c (f b p x : Int) (H : FB f b p) (w : World) :
 Calls Tryz.prog 102 #[.int .i64 x, .int .i64 f] w fun e w' => e = .returned (.tuple #[.int .i64 (clampI p x), .bool (clampI p x != x), .int .i64 0]) ∧ Gr w w' := by
 have HB := Lib.hid (bits_c f b p H)
 have HC := Lib.hid (clamped_c f b p x H)
 generalize clampI p x = y at HC ⊢
 clear H
 go_enter Tryz.func102, Tryz.ntmps102
 go_wp2_with (first
  | (go_at_call 67; refine (HB.out _).mono ?_; rintro e w1 ⟨rfl, rfl⟩)
  | (go_at_call 137; refine (HC.out _).mono ?_; rintro e w1 ⟨rfl, hg⟩))
 go_ret3
 exact ⟨rfl, hg⟩
end
section
open Go.ChangeShapes Go.WideShapes Go.ChangeAt Go.RowKit
set_option linter.unusedVariables false
end
section
open Go.ChangeShapes Go.WideShapes Go.ChangeAt Go.RowKit
set_option linter.unusedVariables false
end
section
end
section
open Go.ChangeShapes Go.WideShapes Go.ChangeAt Go.RowKit
set_option linter.unusedVariables false
end
section
open Go.ChangeShapes Go.WideShapes Go.ChangeAt Go.RowKit
set_option linter.unusedVariables false
set_option linter.unusedSimpArgs false
set_option maxRecDepth 100000
def clampG (p : Int) (a : Gi) : Gi := ⟨clampI p a.re, clampI p a.im⟩
def Apart (v : Value) (xs : List Gi) (B : Nat) : Prop := ∀ b o cap, v = .slice (some ⟨b, o, none⟩) xs.length cap → xs ≠ [] → b ≠ B
theorem CxsAt.set {W : World} {v : Value} {xs : List Gi} {B : Nat} (h : CxsAt W v xs) (ha : Apart v xs B) (j : Nat) (u : Value) : CxsAt (W.setCell ⟨B, j, none⟩ u) v xs := by
 obtain ⟨p, cap, hv, hl, hm, hc⟩ := h
 refine ⟨p, cap, hv, hl, hm, fun hx => ?_⟩
 obtain ⟨b, o, hp, hb, hcc⟩ := hc hx
 subst hp
 have hne := ha b o cap hv hx
 have hh : (W.setCell ⟨B, j, none⟩ u).heap[b]? = W.heap[b]? := Below.heap_setCell _ _ _ _ hne
 refine ⟨b, o, rfl, Nat.lt_of_lt_of_le hb (KeepsWalks.setCell W _ u).size, fun k x hk => ?_⟩
 have := hcc k x hk
 unfold World.cell? at this ⊢
 rw [hh]
 exact this
theorem CxsAt.apart {W : World} {v : Value} {xs : List Gi} {B : Nat} {t : TypeId} {pa pb : Option Addr} {na nb ca cb : Nat} {e : Int} {s : Bool} (h : CxsAt W v xs) (hc : CellsAt W B t #[.slice pa na ca, .int .i64 e, .bool s, .slice pb nb cb]) : Apart v xs B := by
 intro b o cap hv hx hb
 subst hb
 obtain ⟨p, cap', hv', _, _, hcc⟩ := h
 obtain ⟨b', o', hp, _, hk⟩ := hcc hx
 subst hp
 rw [hv] at hv'
 cases hv'
 cases xs with
 | nil => exact hx rfl
 | cons x xs =>
   have h2 := hk 0 x rfl
   rw [hc.cell, hc.cell, Nat.zero_mul, Nat.add_zero] at h2
   obtain ⟨h1, h2⟩ := h2
   clear hk hx
   match o, h1, h2 with
   | 0, h1, _ => simp at h1
   | 1, _, h2 => simp at h2
   | 2, h1, _ => simp at h1
   | 3, h1, _ => simp at h1
   | n + 4, h1, _ => simp at h1
theorem cxs_of_cells {W : World} {B : Nat} {t : TypeId} {xs : List Gi} (h : CellsAt W B t (gcells xs).toArray) (hl : xs.length ≤ maxLen) : CxsAt W (.slice (some ⟨B, 0, none⟩) xs.length xs.length) xs := by
 refine ⟨_, _, rfl, Nat.le_refl _, hl, fun _ => ⟨B, 0, rfl, h.lt, fun j x hj => ?_⟩⟩
 have k := gcells_at xs j x hj
 rw [Nat.zero_add, h.cell, h.cell]
 simpa using k
theorem NumsAt.set {W : World} {v : Value} {ls : List Int} {B : Nat} (h : NumsAt W v ls) (ha : v.ownBlock ≠ some B) (j : Nat) (u : Value) : NumsAt (W.setCell ⟨B, j, none⟩ u) v ls := by
 obtain ⟨p, cap, hv, hl, hm, hc⟩ := h
 refine ⟨p, cap, hv, hl, hm, fun hx => ?_⟩
 obtain ⟨b, o, hp, hb, hcc⟩ := hc hx
 subst hp
 subst hv
 have hne : b ≠ B := fun e => ha (by rw [e]; rfl)
 have hh : (W.setCell ⟨B, j, none⟩ u).heap[b]? = W.heap[b]? := Below.heap_setCell _ _ _ _ hne
 refine ⟨b, o, rfl, Nat.lt_of_lt_of_le hb (KeepsWalks.setCell W _ u).size, fun k x hk => ?_⟩
 have := hcc k x hk
 unfold World.cell? at this ⊢
 rw [hh]
 exact this
structure BV where
 X : List Gi
 ex : Int
 sat : Bool
 sh : List Int
def BlkAt (w : World) (v : Value) (b : BV) : Prop := ∃ vx vs, v = .agg #[vx, .int .i64 b.ex, .bool b.sat, vs] ∧ CxsAt w vx b.X ∧ NumsAt w vs b.sh
theorem BlkAt.gr {w w' : World} {v : Value} {b : BV} (h : BlkAt w v b) (g : Gr w w') : BlkAt w' v b := by
 obtain ⟨vx, vs, rfl, hx, hs⟩ := h
 exact ⟨vx, vs, rfl, hx.gr g, hs.gr g⟩
section
variable {Q : Exit → Act → World → Prop}
theorem run_append_nums (w : World) (base n : Nat) (ty : TypeId) (v : Value) (zs ls : List Int) (hown : w.ownsRow base 3 1 v n (zs.map (Value.int .i64))) (sp : Option Addr) (c : Nat) (hN : NumsAt w (.slice sp ls.length c) ls) (hl : n + ls.length ≤ 1000) (hbase : base ≤ w.heap.size) :
 ∃ v' w', (Builtin.append_ #[25, 25] ty #[v, .slice sp ls.length c]).run Tryz.prog w = .ok v' w' ∧ w'.ownsRow base 3 1 v' (n + ls.length) ((zs ++ ls).map (Value.int .i64)) ∧ w.grownBy w' v.ownBlock ∧ (v'.ownBlock = v.ownBlock ∨ v'.ownBlock = some w.heap.size) := by
 obtain ⟨i0, hi, hz0, hz1, hz2⟩ := info_parts info_int
 by_cases hx : ls = []
 ·subst hx
  refine ⟨v, w, ?_, by simpa using hown, ⟨rfl, rfl, rfl, Nat.le_refl _, fun _ _ _ => rfl⟩, .inl rfl⟩
  rcases hown.2 with ⟨rfl, rfl⟩ | ⟨g, cap, cur, rfl, hbg, hg, hnc, hcm, hcs, htake⟩
  ·cases sp <;> simp [Builtin.append_, run_underlying Tryz.underlying25, sizeOf, typeInfo, hi, Builtin.lenOf, Builtin.firstCells, loadCells, loadCellsFrom]
  ·cases sp <;> simp [Builtin.append_, run_underlying Tryz.underlying25, sizeOf, typeInfo, hi, Builtin.lenOf, Builtin.firstCells, loadCells, loadCellsFrom, hnc, storeCells]
 ·obtain ⟨b, o, cap, hsl, _, hb, hc⟩ := hN.at hx
  cases hsl
  obtain ⟨v', w', h1, h2, h3, h4, h5⟩ := run_append_own_at (P := Tryz.prog) w base 25 ty 3 i0 (.int .i64 0) 1 8 Tryz.underlying25 hi hz0 hz1 hz2 rfl (by decide) v n _ hown ⟨b, o, none⟩ ls.length c (ls.map (Value.int .i64)) (by simp) (fun j u hj => by
   rw [List.getElem?_map] at hj
   obtain ⟨x, hx, rfl⟩ := Option.map_eq_some_iff.1 hj
   rw [show (⟨b, o, none⟩ : Addr).add j = ⟨b, o + j, none⟩ by unfold Addr.add; split <;> simp_all]
   exact hc j x hx) (fun u hu => by obtain ⟨x, _, rfl⟩ := List.mem_map.1 hu; rfl) (by unfold maxLen; omega) (by omega) hbase
  exact ⟨v', w', h1, by rw [List.map_append]; exact h2, h3, h5⟩
theorem wpList_append_nums {ops : Array Oper} {rest : List Oper} {o : Oper} {a : Act} {w : World} (hgd : o.guard = none) (s x : Operand)
 (ho : o.op = .call { callee := .builtin .append, args := #[s, x], argTypes := #[25, 25] }) (base : Nat) (v : Value) (n : Nat) (zs ls : List Int) (hs : a.eval s = v) (hown : w.ownsRow base 3 1 v n (zs.map (Value.int .i64)))
 (sp : Option Addr) (c : Nat) (hx : a.eval x = .slice sp ls.length c) (hN : NumsAt w (.slice sp ls.length c) ls) (hl : n + ls.length ≤ 1000) (hbase : base ≤ w.heap.size)
 (h : ∀ v' w', w'.ownsRow base 3 1 v' (n + ls.length) ((zs ++ ls).map (Value.int .i64)) → w.grownBy w' v.ownBlock → (v'.ownBlock = v.ownBlock ∨ v'.ownBlock = some w.heap.size) → wpList Tryz.prog ops Q rest (a.put o.dst v') w') :
 wpList Tryz.prog ops Q (o :: rest) a w := by
 refine wpList_plain hgd fun K hK => ?_
 obtain ⟨v', w', hr, h2, h3, h5⟩ := run_append_nums w base n o.type v zs ls hown sp c hN hl hbase
 unfold Oper.wp execOp
 simp only [ho, resolve, invoke, builtin, Sem.run_bind, Sem.run_pure, Result.andThen_ok, List.map_toArray, List.map_cons, List.map_nil, hs, hx, hr]
 exact hK _ _ (h v' w' h2 h3 h5)
end
end
section
open Go.ChangeShapes Go.WideShapes Go.ChangeAt Go.RowKit
set_option linter.unusedVariables false
set_option linter.unusedSimpArgs false
set_option maxRecDepth 100000
theorem nums_of_cells {W : World} {B cap : Nat} {t : TypeId} {c : Array Value} {ls : List Int} (h : CellsAt W B t c) (hc : ∀ (j : Nat) x, ls[j]? = some x → c[j]? = some (.int .i64 x)) (h1 : ls.length ≤ cap) (h2 : cap ≤ maxLen) : NumsAt W (.slice (some ⟨B, 0, none⟩) ls.length cap) ls := by
 refine ⟨_, cap, rfl, h1, h2, fun _ => ⟨B, 0, rfl, h.lt, fun j x hj => ?_⟩⟩
 rw [Nat.zero_add, h.cell]
 exact hc j x hj
set_option maxHeartbeats 4000000 in
theorem alive17_of (HF : Hid (∀ sp cl sy cy ss cs W, CxsAt W (.slice sp 4 cl) [⟨1, 0⟩, ⟨2, 0⟩, ⟨3, 0⟩, ⟨4, 0⟩] → CxsAt W (.slice sy 4 cy) [⟨10, 0⟩, ⟨-2, 2⟩, ⟨-2, 0⟩, ⟨-2, -3⟩] → NumsAt W (.slice ss 2 cs) [0, 0] → Calls Tryz.prog 7 #[.slice sp 4 cl, .agg #[.int .i64 0, .int .i64 2, .int .i64 0, .int .i64 2, .int .i64 0, .bool false], .agg #[.slice sy 4 cy, .int .i64 0, .bool false, .slice ss 2 cs]] W fun e w' => e = .returned (.tuple #[.int .i64 256, .int .i64 0]) ∧ Gr W w')) (HB : Hid (∀ sp cl sy cy ss cs W, CxsAt W (.slice sp 4 cl) [⟨1, 0⟩, ⟨2, 0⟩, ⟨3, 0⟩, ⟨4, 0⟩] → CxsAt W (.slice sy 4 cy) [⟨10, 0⟩, ⟨-2, 2⟩, ⟨-2, 0⟩, ⟨-2, -3⟩] → NumsAt W (.slice ss 2 cs) [0, 0] → Calls Tryz.prog 8 #[.slice sp 4 cl, .agg #[.int .i64 0, .int .i64 2, .int .i64 0, .int .i64 2, .int .i64 0, .bool false], .agg #[.slice sy 4 cy, .int .i64 0, .bool false, .slice ss 2 cs]] W fun e w' => e = .returned (.tuple #[.int .i64 7298, .int .i64 0]) ∧ Gr W w')) (w : World) :
 Calls Tryz.prog 12 #[] w fun e w' => e = .returned (.bool true) ∧ Gr w w' := by
 go_enter Tryz.func12, Tryz.ntmps12
 go_wp2_with fail
 obtain ⟨u0, hU⟩ : ∃ uu, uu = (((((w.alloc (.cells #[.int .i64 1, .int .i64 0, .int .i64 2, .int .i64 0, .int .i64 3, .int .i64 0, .int .i64 4, .int .i64 0] 58)).alloc (.cells #[.int .i64 0, .int .i64 2, .int .i64 0, .int .i64 2, .int .i64 0, .bool false] 24)).alloc (.cells #[.int .i64 10, .int .i64 0, .int .i64 (-2), .int .i64 2, .int .i64 (-2), .int .i64 0, .int .i64 (-2), .int .i64 (-3)] 58)).alloc (.cells #[.int .i64 0, .int .i64 0] 3)).alloc (.cells #[.slice (some ⟨w.heap.size + 1 + 1, 0, none⟩) 4 4, .int .i64 0, .bool false, .slice (some ⟨w.heap.size + 1 + 1 + 1, 0, none⟩) 2 2] 27)) := ⟨_, rfl⟩
 have ⟨gu, R0, R1, R2, R3, R4⟩ := lay5 hU
 rw [← hU]
 clear hU
 have lx := R0.lt
 have lp := R1.lt
 have ly := R2.lt
 have ls := R3.lt
 have lb := R4.lt
 have NX : CxsAt u0 (.slice (some ⟨w.heap.size, 0, none⟩) 4 4) [⟨1, 0⟩, ⟨2, 0⟩, ⟨3, 0⟩, ⟨4, 0⟩] := cxs_of_cells (xs := [⟨1, 0⟩, ⟨2, 0⟩, ⟨3, 0⟩, ⟨4, 0⟩]) R0 (by unfold maxLen; simp)
 have NY : CxsAt u0 (.slice (some ⟨w.heap.size + 1 + 1, 0, none⟩) 4 4) [⟨10, 0⟩, ⟨-2, 2⟩, ⟨-2, 0⟩, ⟨-2, -3⟩] := cxs_of_cells (xs := [⟨10, 0⟩, ⟨-2, 2⟩, ⟨-2, 0⟩, ⟨-2, -3⟩]) R2 (by unfold maxLen; simp)
 have NS : NumsAt u0 (.slice (some ⟨w.heap.size + 1 + 1 + 1, 0, none⟩) 2 2) [0, 0] := nums_of_cells (ls := [0, 0]) R3 (fun j x hj => by
  match j, hj with
  | 0, hj => cases hj; rfl
  | 1, hj => cases hj; rfl) (Nat.le_refl _) (by unfold maxLen; simp)
 obtain ⟨cp0, cp1, cp2, cp3, cp4, cp5⟩ := R1.t6
 obtain ⟨cb0, cb1, cb2, cb3⟩ := R4.t4
 go_wp2_with fail
 clear cp0 cp1 cp2 cp3 cp4 cp5 cb0 cb1 cb2 cb3
 refine (HF.out _ _ _ _ _ _ _ NX NY NS).mono ?_
 rintro e w1 ⟨rfl, g1⟩
 have ⟨Fp_1, lp_1⟩ := CellsAt.gl (R1) g1
 have ⟨Fb_1, lb_1⟩ := CellsAt.gl (R4) g1
 have Kx_1 := CxsAt.gr (NX) g1
 have Ky_1 := CxsAt.gr (NY) g1
 have Ns_1 := NumsAt.gr (NS) g1
 have z1 := (gu).trans g1
 clear R1 R4 gu g1
 obtain ⟨cp0, cp1, cp2, cp3, cp4, cp5⟩ := Fp_1.t6
 obtain ⟨cb0, cb1, cb2, cb3⟩ := Fb_1.t4
 go_wp2_with fail
 clear cp0 cp1 cp2 cp3 cp4 cp5 cb0 cb1 cb2 cb3
 refine (HB.out _ _ _ _ _ _ _ Kx_1 Ky_1 Ns_1).mono ?_
 rintro e w2 ⟨rfl, g2⟩
 have ⟨Fp_2, lp_2⟩ := CellsAt.gl (Fp_1) g2
 have ⟨Fb_2, lb_2⟩ := CellsAt.gl (Fb_1) g2
 have Kx_2 := CxsAt.gr (Kx_1) g2
 have Ky_2 := CxsAt.gr (Ky_1) g2
 have Ns_2 := NumsAt.gr (Ns_1) g2
 have z2 := (z1).trans g2
 clear Fp_1 Fb_1 z1 g2
 go_wp2_with fail
 go_ret
 exact ⟨by first | rfl | (simp; done), z2⟩
set_option maxHeartbeats 4000000 in
theorem runs17_no (p : Option Addr) (l1 cap1 m1 : Nat) (fo lo ke sc mo : Int) (iv : Bool) (xs : List Gi) (hm1 : m1 ≤ cap1) (hmin1 : (if (70 : Int) < (l1 : Int) then 70 else (l1 : Int)) = (m1 : Int)) (y : Int) (hy0 : ¬ y = 0) (hyb : (y == 0) = false) (HP : Hid (∀ W, CxsAt W (.slice p m1 cap1) xs → Calls Tryz.prog 16 #[.slice p m1 cap1, .agg #[.int .i64 fo, .int .i64 lo, .int .i64 ke, .int .i64 sc, .int .i64 mo, .bool iv]] W fun e w' => e = .returned (.tuple #[.agg #[.slice none 0 0, .int .i64 0, .bool false, .slice none 0 0], .int .i64 y]) ∧ Gr W w')) (AL : CR 12 #[] (.bool true)) (w : World) (hx : CxsAt w (.slice p m1 cap1) xs) :
 Calls Tryz.prog 4 #[.slice p l1 cap1, .agg #[.int .i64 fo, .int .i64 lo, .int .i64 ke, .int .i64 sc, .int .i64 mo, .bool iv]] w fun e w' => e = .returned (.bool true) ∧ Gr w w' := by
 have hcut1 := run_cut_cx p l1 cap1 m1 hm1
 have VX := Lib.hid hx
 clear hx
 go_enter Tryz.func4, Tryz.ntmps4
 go_wp2_with fail
 obtain ⟨u0, hU⟩ : ∃ uu, uu = (w.alloc (.cells #[.int .i64 fo, .int .i64 lo, .int .i64 ke, .int .i64 sc, .int .i64 mo, .bool iv] 24)) := ⟨_, rfl⟩
 have ⟨gu, R0⟩ := lay1 hU
 rw [← hU]
 clear hU
 have lp := R0.lt
 obtain ⟨cp0, cp1, cp2, cp3, cp4, cp5⟩ := R0.t6
 go_wp2_with fail
 clear cp0 cp1 cp2 cp3 cp4 cp5
 refine (HP.out _ (VX.out.gr (gu))).mono ?_
 rintro e w1 ⟨rfl, g1⟩
 have ⟨Fp_1, lp_1⟩ := CellsAt.gl (R0) g1
 have z1 := (gu).trans g1
 clear R0 gu g1
 obtain ⟨cp0, cp1, cp2, cp3, cp4, cp5⟩ := Fp_1.t6
 go_wp2_with fail
 clear cp0 cp1 cp2 cp3 cp4 cp5
 obtain ⟨u2, hqp1⟩ : ∃ zz, zz = (w1.alloc (.cells #[.slice none 0 0, .int .i64 0, .bool false, .slice none 0 0] 27)) := ⟨_, rfl⟩
 have Yp_p1 : CellsAt u2 (w.heap.size) 24 #[.int .i64 fo, .int .i64 lo, .int .i64 ke, .int .i64 sc, .int .i64 mo, .bool iv] := by rw [hqp1]; first | exact (Fp_1).alloc _ | simpa using (Fp_1).alloc _
 have Yb_p1 : CellsAt u2 (w1.heap.size) 27 #[.slice none 0 0, .int .i64 0, .bool false, .slice none 0 0] := by rw [hqp1]; first | exact CellsAt.new w1 27 #[.slice none 0 0, .int .i64 0, .bool false, .slice none 0 0] | simpa using CellsAt.new w1 27 #[.slice none 0 0, .int .i64 0, .bool false, .slice none 0 0]
 have yp1 : Gr w u2 := by rw [hqp1]; exact (z1).alloc _ _
 rw [← hqp1]
 clear hqp1
 refine (AL.out _).mono ?_
 rintro e w2 ⟨rfl, g2⟩
 have ⟨Fp_2, lp_2⟩ := CellsAt.gl (Yp_p1) g2
 have ⟨Fb_2, lb_2⟩ := CellsAt.gl (Yb_p1) g2
 have z2 := (yp1).trans g2
 clear Yp_p1 Yb_p1 yp1 g2
 obtain ⟨cb0, cb1, cb2, cb3⟩ := Fb_2.t4
 go_wp2_with fail
 clear cb0 cb1 cb2 cb3
 go_ret
 exact ⟨by first | rfl | (simp; done), z2⟩
set_option maxHeartbeats 4000000 in
theorem runs17_f (p : Option Addr) (l1 cap1 m1 : Nat) (fo lo ke sc mo : Int) (iv : Bool) (xs : List Gi) (hm1 : m1 ≤ cap1) (hmin1 : (if (70 : Int) < (l1 : Int) then 70 else (l1 : Int)) = (m1 : Int)) (X : List Gi) (ex : Int) (sh : List Int) (HP : Hid (∀ W, CxsAt W (.slice p m1 cap1) xs → Calls Tryz.prog 16 #[.slice p m1 cap1, .agg #[.int .i64 fo, .int .i64 lo, .int .i64 ke, .int .i64 sc, .int .i64 mo, .bool iv]] W fun e w' => ∃ vx vs, e = .returned (.tuple #[.agg #[vx, .int .i64 ex, .bool false, vs], .int .i64 0]) ∧ CxsAt w' vx X ∧ NumsAt w' vs sh ∧ Gr W w')) (HW : Hid (∀ xp xc tp tc W, CxsAt W (.slice p m1 cap1) xs → CxsAt W (.slice xp X.length xc) X → NumsAt W (.slice tp sh.length tc) sh → Calls Tryz.prog 9 #[.slice p m1 cap1, .agg #[.int .i64 fo, .int .i64 lo, .int .i64 ke, .int .i64 sc, .int .i64 mo, .bool iv], .agg #[.slice xp X.length xc, .int .i64 ex, .bool false, .slice tp sh.length tc]] W fun e w' => e = .returned (.tuple #[.bool true, .int .i64 0]) ∧ Gr W w')) (AL : CR 12 #[] (.bool true)) (w : World) (hx : CxsAt w (.slice p m1 cap1) xs) :
 Calls Tryz.prog 4 #[.slice p l1 cap1, .agg #[.int .i64 fo, .int .i64 lo, .int .i64 ke, .int .i64 sc, .int .i64 mo, .bool iv]] w fun e w' => e = .returned (.bool true) ∧ Gr w w' := by
 have hcut1 := run_cut_cx p l1 cap1 m1 hm1
 have VX := Lib.hid hx
 clear hx
 go_enter Tryz.func4, Tryz.ntmps4
 go_wp2_with fail
 obtain ⟨u0, hU⟩ : ∃ uu, uu = (w.alloc (.cells #[.int .i64 fo, .int .i64 lo, .int .i64 ke, .int .i64 sc, .int .i64 mo, .bool iv] 24)) := ⟨_, rfl⟩
 have ⟨gu, R0⟩ := lay1 hU
 rw [← hU]
 clear hU
 have lp := R0.lt
 obtain ⟨cp0, cp1, cp2, cp3, cp4, cp5⟩ := R0.t6
 go_wp2_with fail
 clear cp0 cp1 cp2 cp3 cp4 cp5
 refine (HP.out _ (VX.out.gr (gu))).mono ?_
 rintro e w1 ⟨vx, vs, rfl, hx1, hs1, g1⟩
 have ⟨Fp_1, lp_1⟩ := CellsAt.gl (R0) g1
 have z1 := (gu).trans g1
 clear R0 gu g1
 obtain ⟨xp, xc, rfl⟩ := hx1.len
 obtain ⟨tp, tc, rfl⟩ := hs1.len
 obtain ⟨cp0, cp1, cp2, cp3, cp4, cp5⟩ := Fp_1.t6
 go_wp2_with fail
 clear cp0 cp1 cp2 cp3 cp4 cp5
 have hs2 := hs1.gr ((Gr.refl _).alloc #[.slice xp X.length xc, .int .i64 ex, .bool false, .slice tp sh.length tc] 27)
 obtain ⟨u3, hqp1⟩ : ∃ zz, zz = (w1.alloc (.cells #[.slice xp X.length xc, .int .i64 ex, .bool false, .slice tp sh.length tc] 27)) := ⟨_, rfl⟩
 have Yp_p1 : CellsAt u3 (w.heap.size) 24 #[.int .i64 fo, .int .i64 lo, .int .i64 ke, .int .i64 sc, .int .i64 mo, .bool iv] := by rw [hqp1]; first | exact (Fp_1).alloc _ | simpa using (Fp_1).alloc _
 have Yb_p1 : CellsAt u3 (w1.heap.size) 27 #[.slice xp X.length xc, .int .i64 ex, .bool false, .slice tp sh.length tc] := by rw [hqp1]; first | exact CellsAt.new w1 27 #[.slice xp X.length xc, .int .i64 ex, .bool false, .slice tp sh.length tc] | simpa using CellsAt.new w1 27 #[.slice xp X.length xc, .int .i64 ex, .bool false, .slice tp sh.length tc]
 have Vx_p1 := (CxsAt.gr (hx1) ((Gr.refl w1).alloc #[.slice xp X.length xc, .int .i64 ex, .bool false, .slice tp sh.length tc] 27))
 rw [← hqp1] at Vx_p1
 have Vs_p1 := hs2
 rw [← hqp1] at Vs_p1
 have yp1 : Gr w u3 := by rw [hqp1]; exact (z1).alloc _ _
 rw [← hqp1]
 clear hqp1
 refine (HW.out _ _ _ _ _ (VX.out.gr (yp1)) Vx_p1 Vs_p1).mono ?_
 rintro e w5 ⟨rfl, g5⟩
 have ⟨Fp_5, lp_5⟩ := CellsAt.gl (Yp_p1) g5
 have ⟨Fb_5, lb_5⟩ := CellsAt.gl (Yb_p1) g5
 have Kx_5 := CxsAt.gr (Vx_p1) g5
 have Ns_5 := NumsAt.gr (Vs_p1) g5
 have z5 := (yp1).trans g5
 clear Yp_p1 Yb_p1 yp1 g5
 go_wp2_with fail
 refine (AL.out _).mono ?_
 rintro e w2 ⟨rfl, g2⟩
 have ⟨Fp_2, lp_2⟩ := CellsAt.gl (Fp_5) g2
 have ⟨Fb_2, lb_2⟩ := CellsAt.gl (Fb_5) g2
 have Kx_2 := CxsAt.gr (Kx_5) g2
 have Ns_2 := NumsAt.gr (Ns_5) g2
 have z2 := (z5).trans g2
 clear Fp_5 Fb_5 z5 g2
 obtain ⟨cp0, cp1, cp2, cp3, cp4, cp5⟩ := Fp_2.t6
 obtain ⟨cb0, cb1, cb2, cb3⟩ := Fb_2.t4
 by_cases hsc : sc = 2
 ·subst hsc
  go_wp2_with fail
  go_ret
  exact ⟨by first | rfl | (simp; done), z2⟩
 ·have hscb : (sc == 2) = false := by simp [hsc]
  go_wp2_with fail
  go_ret
  exact ⟨by first | rfl | (simp; done), z2⟩
set_option maxHeartbeats 4000000 in
theorem runs17_t (p : Option Addr) (l1 cap1 m1 : Nat) (fo lo ke mo : Int) (iv : Bool) (xs : List Gi) (hm1 : m1 ≤ cap1) (hmin1 : (if (70 : Int) < (l1 : Int) then 70 else (l1 : Int)) = (m1 : Int)) (X : List Gi) (ex : Int) (sh : List Int) (is : Bool) (HP : Hid (∀ W, CxsAt W (.slice p m1 cap1) xs → Calls Tryz.prog 16 #[.slice p m1 cap1, .agg #[.int .i64 fo, .int .i64 lo, .int .i64 ke, .int .i64 2, .int .i64 mo, .bool iv]] W fun e w' => ∃ vx vs, e = .returned (.tuple #[.agg #[vx, .int .i64 ex, .bool true, vs], .int .i64 0]) ∧ CxsAt w' vx X ∧ NumsAt w' vs sh ∧ Gr W w')) (HW : Hid (∀ xp xc tp tc W, CxsAt W (.slice p m1 cap1) xs → CxsAt W (.slice xp X.length xc) X → NumsAt W (.slice tp sh.length tc) sh → Calls Tryz.prog 9 #[.slice p m1 cap1, .agg #[.int .i64 fo, .int .i64 lo, .int .i64 ke, .int .i64 2, .int .i64 mo, .bool iv], .agg #[.slice xp X.length xc, .int .i64 ex, .bool true, .slice tp sh.length tc]] W fun e w' => e = .returned (.tuple #[.bool is, .int .i64 0]) ∧ Gr W w')) (AL : CR 12 #[] (.bool true)) (w : World) (hx : CxsAt w (.slice p m1 cap1) xs) :
 Calls Tryz.prog 4 #[.slice p l1 cap1, .agg #[.int .i64 fo, .int .i64 lo, .int .i64 ke, .int .i64 2, .int .i64 mo, .bool iv]] w fun e w' => e = .returned (.bool true) ∧ Gr w w' := by
 have hcut1 := run_cut_cx p l1 cap1 m1 hm1
 have VX := Lib.hid hx
 clear hx
 go_enter Tryz.func4, Tryz.ntmps4
 go_wp2_with fail
 obtain ⟨u0, hU⟩ : ∃ uu, uu = (w.alloc (.cells #[.int .i64 fo, .int .i64 lo, .int .i64 ke, .int .i64 2, .int .i64 mo, .bool iv] 24)) := ⟨_, rfl⟩
 have ⟨gu, R0⟩ := lay1 hU
 rw [← hU]
 clear hU
 have lp := R0.lt
 obtain ⟨cp0, cp1, cp2, cp3, cp4, cp5⟩ := R0.t6
 go_wp2_with fail
 clear cp0 cp1 cp2 cp3 cp4 cp5
 refine (HP.out _ (VX.out.gr (gu))).mono ?_
 rintro e w1 ⟨vx, vs, rfl, hx1, hs1, g1⟩
 have ⟨Fp_1, lp_1⟩ := CellsAt.gl (R0) g1
 have z1 := (gu).trans g1
 clear R0 gu g1
 obtain ⟨xp, xc, rfl⟩ := hx1.len
 obtain ⟨tp, tc, rfl⟩ := hs1.len
 obtain ⟨cp0, cp1, cp2, cp3, cp4, cp5⟩ := Fp_1.t6
 go_wp2_with fail
 clear cp0 cp1 cp2 cp3 cp4 cp5
 have hs2 := hs1.gr ((Gr.refl _).alloc #[.slice xp X.length xc, .int .i64 ex, .bool true, .slice tp sh.length tc] 27)
 obtain ⟨u3, hqp1⟩ : ∃ zz, zz = (w1.alloc (.cells #[.slice xp X.length xc, .int .i64 ex, .bool true, .slice tp sh.length tc] 27)) := ⟨_, rfl⟩
 have Yp_p1 : CellsAt u3 (w.heap.size) 24 #[.int .i64 fo, .int .i64 lo, .int .i64 ke, .int .i64 2, .int .i64 mo, .bool iv] := by rw [hqp1]; first | exact (Fp_1).alloc _ | simpa using (Fp_1).alloc _
 have Yb_p1 : CellsAt u3 (w1.heap.size) 27 #[.slice xp X.length xc, .int .i64 ex, .bool true, .slice tp sh.length tc] := by rw [hqp1]; first | exact CellsAt.new w1 27 #[.slice xp X.length xc, .int .i64 ex, .bool true, .slice tp sh.length tc] | simpa using CellsAt.new w1 27 #[.slice xp X.length xc, .int .i64 ex, .bool true, .slice tp sh.length tc]
 have Vx_p1 := (CxsAt.gr (hx1) ((Gr.refl w1).alloc #[.slice xp X.length xc, .int .i64 ex, .bool true, .slice tp sh.length tc] 27))
 rw [← hqp1] at Vx_p1
 have Vs_p1 := hs2
 rw [← hqp1] at Vs_p1
 have yp1 : Gr w u3 := by rw [hqp1]; exact (z1).alloc _ _
 rw [← hqp1]
 clear hqp1
 refine (HW.out _ _ _ _ _ (VX.out.gr (yp1)) Vx_p1 Vs_p1).mono ?_
 rintro e w5 ⟨rfl, g5⟩
 have ⟨Fp_5, lp_5⟩ := CellsAt.gl (Yp_p1) g5
 have ⟨Fb_5, lb_5⟩ := CellsAt.gl (Yb_p1) g5
 have Kx_5 := CxsAt.gr (Vx_p1) g5
 have Ns_5 := NumsAt.gr (Vs_p1) g5
 have z5 := (yp1).trans g5
 clear Yp_p1 Yb_p1 yp1 g5
 go_wp2_with fail
 refine (AL.out _).mono ?_
 rintro e w2 ⟨rfl, g2⟩
 have ⟨Fp_2, lp_2⟩ := CellsAt.gl (Fp_5) g2
 have ⟨Fb_2, lb_2⟩ := CellsAt.gl (Fb_5) g2
 have Kx_2 := CxsAt.gr (Kx_5) g2
 have Ns_2 := NumsAt.gr (Ns_5) g2
 have z2 := (z5).trans g2
 clear Fp_5 Fb_5 z5 g2
 obtain ⟨cp0, cp1, cp2, cp3, cp4, cp5⟩ := Fp_2.t6
 obtain ⟨cb0, cb1, cb2, cb3⟩ := Fb_2.t4
 cases is
 all_goals
  go_wp2_with fail
  go_ret
  exact ⟨by first | rfl | (simp; done), z2⟩
end
end Go.Proofs.YtcgeabpibkejpaaGreat
