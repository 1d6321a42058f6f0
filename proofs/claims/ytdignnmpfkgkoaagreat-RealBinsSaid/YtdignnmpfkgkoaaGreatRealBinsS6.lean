import Derived.Test.YtdignnmpfkgkoaaGreatRealBinsS5
namespace Go.Proofs.YtdignnmpfkgkoaaGreat
section
open Go.ChangeShapes Go.WideShapes Go.ChangeAt Go.RowKit
set_option linter.unusedVariables false
set_option maxRecDepth 100000
set_option maxHeartbeats 16000000
def FB (f b p : Int) : Prop := (f = 0 ∧ b = 15 ∧ p = 32768) ∨ (f = 1 ∧ b = 31 ∧ p = 2147483648)
def clampI (p x : Int) : Int := if x < -p then -p else if p - 1 < x then p - 1 else x
theorem clampI_low {p x : Int} (h : x < -p) : clampI p x = -p := if_pos h
theorem clampI_high {p x : Int} (h0 : 0 < p) (h : p - 1 < x) : clampI p x = p - 1 := by rw [clampI, if_neg (by omega), if_pos h]
theorem clampI_mid {p x : Int} (h0 : -p ≤ x) (h1 : x < p) : clampI p x = x := by rw [clampI, if_neg (by omega), if_neg (by omega)]
theorem FB.pos {f b p : Int} (h : FB f b p) : 0 < p ∧ p ≤ 2147483648 ∧ 0 ≤ b ∧ b ≤ 31 ∧ 0 ≤ f ∧ f ≤ 1 := by
 rcases h with ⟨rfl, rfl, rfl⟩ | ⟨rfl, rfl, rfl⟩ <;> omega
theorem FB.pow {f b p : Int} (h : FB f b p) : (2 : Int) ^ b.toNat = p := by
 rcases h with ⟨rfl, rfl, rfl⟩ | ⟨rfl, rfl, rfl⟩ <;> rfl
theorem FB.of {f : Int} (h0 : 0 ≤ f) (h1 : f ≤ 1) : ∃ b p, FB f b p := by
 by_cases h : f = 0
 ·exact ⟨15, 32768, .inl ⟨h, rfl, rfl⟩⟩
 ·exact ⟨31, 2147483648, .inr ⟨by omega, rfl, rfl⟩⟩
theorem clamped_low (b p x : Int) (hb : Hid ((b = 15 ∧ p = 32768) ∨ (b = 31 ∧ p = 2147483648))) (h : x < -p) (w : World) :
 CW 59 #[x, b] w (.int .i64 (-p)) :=by
 delta CW
 rcases hb.out with ⟨rfl, rfl⟩ | ⟨rfl, rfl⟩ <;> clear hb
 all_goals
  go_in
  go_wp2
  go_region
  all_goals (go_wp2; go_ret; exact ⟨rfl, by repeat (first | exact Gr.refl _ | assumption | apply Gr.drew | apply Gr.alloc)⟩)
theorem clamped_high (b p x : Int) (hb : Hid ((b = 15 ∧ p = 32768) ∨ (b = 31 ∧ p = 2147483648))) (h : p - 1 < x) (w : World) :
 CW 59 #[x, b] w (.int .i64 (p - 1)) :=by
 delta CW
 rcases hb.out with ⟨rfl, rfl⟩ | ⟨rfl, rfl⟩ <;> clear hb
 all_goals
  go_in
  go_wp2
  go_region
  all_goals (go_wp2; go_ret; exact ⟨rfl, by repeat (first | exact Gr.refl _ | assumption | apply Gr.drew | apply Gr.alloc)⟩)
theorem clamped_mid' (b p x : Int) (hb : Hid ((b = 15 ∧ p = 32768) ∨ (b = 31 ∧ p = 2147483648))) (h0 : -p < x) (h1 : x ≤ p - 1) (w : World) :
 CW 59 #[x, b] w (.int .i64 x) :=by
 delta CW
 rcases hb.out with ⟨rfl, rfl⟩ | ⟨rfl, rfl⟩ <;> clear hb
 all_goals
  go_in
  go_wp2
  go_region
  all_goals (go_wp2; go_ret; exact ⟨rfl, by repeat (first | exact Gr.refl _ | assumption | apply Gr.drew | apply Gr.alloc)⟩)
theorem clamped_least (b p : Int) (hb : Hid ((b = 15 ∧ p = 32768) ∨ (b = 31 ∧ p = 2147483648))) (w : World) :
 CW 59 #[.int .i64 (-p), b] w (.int .i64 (-p)) :=by
 delta CW
 rcases hb.out with ⟨rfl, rfl⟩ | ⟨rfl, rfl⟩ <;> clear hb
 all_goals
  go_in
  go_wp2
  go_region
  all_goals (go_wp2; go_ret; exact ⟨rfl, by repeat (first | exact Gr.refl _ | assumption | apply Gr.drew | apply Gr.alloc)⟩)
theorem clamped_mid (b p x : Int) (hb : Hid ((b = 15 ∧ p = 32768) ∨ (b = 31 ∧ p = 2147483648))) (h0 : -p ≤ x) (h1 : x ≤ p - 1) (w : World) :
 CW 59 #[x, b] w (.int .i64 x) :=by
 delta CW
 by_cases hx : -p < x
 ·exact clamped_mid' b p x hb hx h1 w
 ·obtain rfl : x = -p := by omega
  exact clamped_least b p hb w
theorem FB.bp {f b p : Int} (h : FB f b p) : Hid ((b = 15 ∧ p = 32768) ∨ (b = 31 ∧ p = 2147483648)) := by
 rcases h with ⟨_, h⟩ | ⟨_, h⟩
 ·exact kh (.inl h)
 ·exact kh (.inr h)
theorem clamped_c (f b p x : Int) (H : FB f b p) (w : World) :
 CW 59 #[x, b] w (.int .i64 (clampI p x)) :=by
 delta CW
 have hp := H.pos
 by_cases h0 : x < -p
 ·rw [clampI_low h0]; exact clamped_low b p x H.bp h0 w
 ·by_cases h1 : p - 1 < x
  ·rw [clampI_high hp.1 h1]; exact clamped_high b p x H.bp h1 w
  ·rw [clampI_mid (by omega) (by omega)]; exact clamped_mid b p x H.bp (by omega) (by omega) w
theorem bits_c (f b p : Int) (H : FB f b p) (w : World) :
 Calls Tryz.prog 58 #[f] w fun e w' => e = .returned (.tuple #[b, .int .i64 0]) ∧ w' = w := by
 rcases H with ⟨rfl, rfl, rfl⟩ | ⟨rfl, rfl, rfl⟩
 all_goals
  go_in
  go_wp2
  go_ret2
  exact ⟨rfl, rfl⟩
theorem clamp_c (f b p x : Int) (H : FB f b p) (w : World) :
 CW 23 #[x, f] w (.tuple #[(clampI p x), .bool (clampI p x != x), .int .i64 0]) :=by
 delta CW
 have HB := kh (bits_c f b p H)
 have HC := kh (clamped_c f b p x H)
 generalize clampI p x = y at HC ⊢
 clear H
 go_in
 go_wp2_with (first
  | (go_at_call 58; refine (HB.out _).mono ?_; rintro e w1 ⟨rfl, rfl⟩)
  | (go_at_call 59; refine (HC.out _).mono ?_; rintro e w1 ⟨rfl, hg⟩))
 go_ret3
 exact ⟨rfl, hg⟩
end
section
open Go.ChangeShapes Go.WideShapes Go.ChangeAt Go.RowKit
set_option linter.unusedVariables false
end
section
open Go.ChangeShapes Go.WideShapes Go.ChangeAt Go.RowKit
set_option linter.unusedVariables false
end
section
end
section
open Go.ChangeShapes Go.WideShapes Go.ChangeAt Go.RowKit
set_option linter.unusedVariables false
theorem rbits_c (f b p : Int) (H : FB f b p) (w : World) : Calls Tryz.prog 76 #[f] w fun e w' => e = .returned (.int .i64 b) ∧ w' = w := by
 rcases H with ⟨rfl, rfl, rfl⟩ | ⟨rfl, rfl, rfl⟩
 all_goals
  go_in
  go_wp2
  go_ret
  exact ⟨rfl, rfl⟩
theorem rone_c (f b p : Int) (H : FB f b p) (w : World) : Calls Tryz.prog 39 #[f] w fun e w' => e = .returned (.int .i64 p) ∧ w' = w := by
 have hp := H.pos
 have HB := kh (rbits_c f b p H)
 have HP := kh fun W => (pow_c b (by omega) (by omega) W).mono fun e w' ⟨he, hw⟩ => (⟨by rw [he, H.pow], hw⟩ : e = Ending.returned (.int .i64 p) ∧ w' = W)
 clear H hp
 go_in
 go_wp2_with fail
 refine (HB.out _).mono ?_
 rintro e w1 ⟨rfl, rfl⟩
 go_wp2_with fail
 refine (HP.out _).mono ?_
 rintro e w2 ⟨rfl, rfl⟩
 go_wp2
 go_ret
 exact ⟨rfl, rfl⟩
theorem rclamp_c (f b p x : Int) (H : FB f b p) (w : World) :
 CW 86 #[x, f] w (.agg #[(clampI p x), .bool (clampI p x != x), .int .i64 0]) :=by
 delta CW
 have hp := H.pos
 have HP := kh (rone_c f b p H)
 clear H
 obtain ⟨p0, p1, _⟩ := hp
 by_cases h0 : x < -p
 ·have e1 : (-p != x) = true := by simp; omega
  rw [clampI_low h0, e1];clear e1;go_in
  go_wp2_with (go_at_call 39; refine (HP.out _).mono ?_; rintro e w1 ⟨rfl, rfl⟩)
  exact bodyPost_ret (v := .agg #[.int .i64 (-p), true, .int .i64 0]) (by simp [results, Tryz.results86, go_sem]) rfl ⟨rfl, by repeat (first | exact Gr.refl _ | assumption | apply Gr.drew | apply Gr.alloc)⟩
 ·by_cases h1 : p ≤ x
  ·have e1 : (p - 1 != x) = true := by simp; omega
   rw [clampI_high p0 (by omega), e1];clear e1;go_in
   go_wp2_with (go_at_call 39; refine (HP.out _).mono ?_; rintro e w1 ⟨rfl, rfl⟩)
   exact bodyPost_ret (v := .agg #[.int .i64 (p - 1), true, .int .i64 0]) (by simp [results, Tryz.results86, go_sem]) rfl ⟨rfl, by repeat (first | exact Gr.refl _ | assumption | apply Gr.drew | apply Gr.alloc)⟩
  ·have e1 : (x != x) = false := by simp
   rw [clampI_mid (by omega) (by omega), e1];clear e1;go_in
   go_wp2_with (go_at_call 39; refine (HP.out _).mono ?_; rintro e w1 ⟨rfl, rfl⟩)
   exact bodyPost_ret (v := .agg #[x, false, .int .i64 0]) (by simp [results, Tryz.results86, go_sem]) rfl ⟨rfl, by repeat (first | exact Gr.refl _ | assumption | apply Gr.drew | apply Gr.alloc)⟩
end
section
open Go.ChangeShapes Go.WideShapes Go.ChangeAt Go.RowKit
set_option linter.unusedVariables false
set_option maxRecDepth 100000
set_option maxHeartbeats 16000000
theorem within1_1_o (p : Nat) (HE : Enters p) (pn pl k : Nat) (l : Int) (x00 x01 v0 : Int) (w : World) (HP0 : CR p #[.agg #[x00, x01]] (.int .i64 v0)) (hn : w.cell? ⟨pn, 0, none⟩ = some (.slice (some ⟨k, 0, none⟩) 1 1)) (ln : pn < w.heap.size) (hlw : w.cell? ⟨pl, 0, none⟩ = some (.int .i64 l)) (llw : pl < w.heap.size)
 (lk : k < w.heap.size) (c00 : w.cell? ⟨k, 0, none⟩ = some (.int .i64 x00)) (c01 : w.cell? ⟨k, 1, none⟩ = some (.int .i64 x01)) (l0 : 0 ≤ l) (l1 : l ≤ 4611686018427387904) (h00 : decide (v0 < -l) = false) (h01 : decide (l < v0) = false) :
 CW 190 #[.func (.func p) #[] #[], .pointer (some ⟨pn, 0, none⟩), .pointer (some ⟨pl, 0, none⟩)] w (.bool true) :=by
 delta CW
 unfold Enters at HE
 have hw : IntKind.i64.wrap (-l) = -l := IntWalk.i64_in _ (by omega)
 go_in
 go_wp2_with fail
 refine wp_loop_rounds 2 ?_
 rw [rounds_succ]
 go_wp2_with fail
 obtain ⟨a0, hW⟩ : ∃ u, u = w.alloc (.cells #[x00, x01] 50) := ⟨_, rfl⟩
 have ga0 : Gr w a0 := by rw [hW]; exact (Gr.refl w).alloc _ _
 have za0 : w.heap.size < a0.heap.size := by rw [hW]; simp
 have d0a0 : a0.cell? ⟨w.heap.size, 0, none⟩ = some (.int .i64 x00) := by rw [hW]; go_simp
 have d1a0 : a0.cell? ⟨w.heap.size, 1, none⟩ = some (.int .i64 x01) := by rw [hW]; go_simp
 have hla0 := (ga0.cell (p := ⟨pl, 0, none⟩) llw).trans hlw
 have lla0 := Nat.lt_trans llw za0
 rw [← hW]
 clear hW
 go_region_held3 (fun W => W.cell? ⟨w.heap.size, 0, none⟩ = some (.int .i64 x00) ∧ W.cell? ⟨w.heap.size, 1, none⟩ = some (.int .i64 x01) ∧ W.cell? ⟨pl, 0, none⟩ = some (.int .i64 l) ∧ Gr a0 W)
  (first | (go_split_ands; refine ⟨?_, ?_, ?_, ?_⟩; (all_goals (first | assumption | exact Gr.refl _ | exact Gr.drew (Gr.refl _) | exact Gr.drew (by assumption) | (go_keep; done) | ((refine (Gr.cell (by assumption) ?_).trans ?_ <;> (first | assumption)); done)))))
  (first | (go_split_ands; refine (HP0.out _).mono ?_; rintro e w' ⟨rfl, hg⟩; have hgw : Gr a0 w' := Gr.trans (by first | assumption | exact Gr.drew (Gr.refl _)) hg))
 obtain ⟨b0, hB⟩ : ∃ u, u = w' := ⟨_, rfl⟩
 subst hB
 have gb0 : Gr w b0 := (ga0.trans hgw)
 have llb0 : pl < b0.heap.size := Nat.lt_of_lt_of_le llw gb0.size
 have hlb0 := (gb0.cell (p := ⟨pl, 0, none⟩) llw).trans hlw
 go_wp2_with fail
 rw [rounds_succ]
 go_wp2_with fail
 go_ret
 exact ⟨rfl, gb0⟩
theorem within1_1_l (p : Nat) (HE : Enters p) (pn pl k : Nat) (l : Int) (x00 x01 v0 : Int) (w : World) (HP0 : CR p #[.agg #[x00, x01]] (.int .i64 v0)) (hn : w.cell? ⟨pn, 0, none⟩ = some (.slice (some ⟨k, 0, none⟩) 1 1)) (ln : pn < w.heap.size) (hlw : w.cell? ⟨pl, 0, none⟩ = some (.int .i64 l)) (llw : pl < w.heap.size)
 (lk : k < w.heap.size) (c00 : w.cell? ⟨k, 0, none⟩ = some (.int .i64 x00)) (c01 : w.cell? ⟨k, 1, none⟩ = some (.int .i64 x01)) (l0 : 0 ≤ l) (l1 : l ≤ 4611686018427387904) (h00 : decide (v0 < -l) = true) :
 CW 190 #[.func (.func p) #[] #[], .pointer (some ⟨pn, 0, none⟩), .pointer (some ⟨pl, 0, none⟩)] w (.bool false) :=by
 delta CW
 unfold Enters at HE
 have hw : IntKind.i64.wrap (-l) = -l := IntWalk.i64_in _ (by omega)
 go_in
 go_wp2_with fail
 refine wp_loop_rounds 2 ?_
 rw [rounds_succ]
 go_wp2_with fail
 obtain ⟨a0, hW⟩ : ∃ u, u = w.alloc (.cells #[x00, x01] 50) := ⟨_, rfl⟩
 have ga0 : Gr w a0 := by rw [hW]; exact (Gr.refl w).alloc _ _
 have za0 : w.heap.size < a0.heap.size := by rw [hW]; simp
 have d0a0 : a0.cell? ⟨w.heap.size, 0, none⟩ = some (.int .i64 x00) := by rw [hW]; go_simp
 have d1a0 : a0.cell? ⟨w.heap.size, 1, none⟩ = some (.int .i64 x01) := by rw [hW]; go_simp
 have hla0 := (ga0.cell (p := ⟨pl, 0, none⟩) llw).trans hlw
 have lla0 := Nat.lt_trans llw za0
 rw [← hW]
 clear hW
 refine wp_region_held_drew (S := fun W => W.cell? ⟨w.heap.size, 0, none⟩ = some (.int .i64 x00) ∧ W.cell? ⟨w.heap.size, 1, none⟩ = some (.int .i64 x01) ∧ W.cell? ⟨pl, 0, none⟩ = some (.int .i64 l) ∧ Gr a0 W) rfl (⟨d0a0, d1a0, hla0, (Gr.refl a0).drew⟩) (fun hS => ?_)
 refine hT 0 ?_
 refine hT 1 ?_
 refine hT 3 ?_
 refine hT 4 ?_
 refine hR 2 fun K hK => ?_
 go_simp
 (go_split_ands; refine (HP0.out _).mono ?_; rintro e w' ⟨rfl, hg⟩; have hgw : Gr a0 w' := Gr.trans (by first | assumption | exact Gr.drew (Gr.refl _)) hg)
 refine hK.out _ _ ?_ (fun hHeld => ?_)
 ·exact ⟨(hgw.cell (p := ⟨w.heap.size, 0, none⟩) za0).trans d0a0, (hgw.cell (p := ⟨w.heap.size, 1, none⟩) za0).trans d1a0, (hgw.cell (p := ⟨pl, 0, none⟩) lla0).trans hla0, hgw⟩
 clear hK K
 try simp only [Act.put, putS]
 refine hT 5 ?_
 refine hT 6 ?_
 refine hN 7 ?_
 refine hN 8 ?_
 refine hN 9 ?_
 refine hN 10 ?_
 refine hN 11 ?_
 refine hT 12 ?_
 refine wpAnyH_done (by kernel_rfl) ?_ _
 obtain ⟨b0, hB⟩ : ∃ u, u = w' := ⟨_, rfl⟩
 subst hB
 have gb0 : Gr w b0 := (ga0.trans hgw)
 have llb0 : pl < b0.heap.size := Nat.lt_of_lt_of_le llw gb0.size
 have hlb0 := (gb0.cell (p := ⟨pl, 0, none⟩) llw).trans hlw
 go_wp2_with fail
 go_ret
 exact ⟨rfl, gb0⟩
theorem within1_1_h (p : Nat) (HE : Enters p) (pn pl k : Nat) (l : Int) (x00 x01 v0 : Int) (w : World) (HP0 : CR p #[.agg #[x00, x01]] (.int .i64 v0)) (hn : w.cell? ⟨pn, 0, none⟩ = some (.slice (some ⟨k, 0, none⟩) 1 1)) (ln : pn < w.heap.size) (hlw : w.cell? ⟨pl, 0, none⟩ = some (.int .i64 l)) (llw : pl < w.heap.size)
 (lk : k < w.heap.size) (c00 : w.cell? ⟨k, 0, none⟩ = some (.int .i64 x00)) (c01 : w.cell? ⟨k, 1, none⟩ = some (.int .i64 x01)) (l0 : 0 ≤ l) (l1 : l ≤ 4611686018427387904) (h00 : decide (v0 < -l) = false) (h01 : decide (l < v0) = true) :
 CW 190 #[.func (.func p) #[] #[], .pointer (some ⟨pn, 0, none⟩), .pointer (some ⟨pl, 0, none⟩)] w (.bool false) :=by
 delta CW
 unfold Enters at HE
 have hw : IntKind.i64.wrap (-l) = -l := IntWalk.i64_in _ (by omega)
 go_in
 go_wp2_with fail
 refine wp_loop_rounds 2 ?_
 rw [rounds_succ]
 go_wp2_with fail
 obtain ⟨a0, hW⟩ : ∃ u, u = w.alloc (.cells #[x00, x01] 50) := ⟨_, rfl⟩
 have ga0 : Gr w a0 := by rw [hW]; exact (Gr.refl w).alloc _ _
 have za0 : w.heap.size < a0.heap.size := by rw [hW]; simp
 have d0a0 : a0.cell? ⟨w.heap.size, 0, none⟩ = some (.int .i64 x00) := by rw [hW]; go_simp
 have d1a0 : a0.cell? ⟨w.heap.size, 1, none⟩ = some (.int .i64 x01) := by rw [hW]; go_simp
 have hla0 := (ga0.cell (p := ⟨pl, 0, none⟩) llw).trans hlw
 have lla0 := Nat.lt_trans llw za0
 rw [← hW]
 clear hW
 go_region_held3 (fun W => W.cell? ⟨w.heap.size, 0, none⟩ = some (.int .i64 x00) ∧ W.cell? ⟨w.heap.size, 1, none⟩ = some (.int .i64 x01) ∧ W.cell? ⟨pl, 0, none⟩ = some (.int .i64 l) ∧ Gr a0 W)
  (first | (go_split_ands; refine ⟨?_, ?_, ?_, ?_⟩; (all_goals (first | assumption | exact Gr.refl _ | exact Gr.drew (Gr.refl _) | exact Gr.drew (by assumption) | (go_keep; done) | ((refine (Gr.cell (by assumption) ?_).trans ?_ <;> (first | assumption)); done)))))
  (first | (go_split_ands; refine (HP0.out _).mono ?_; rintro e w' ⟨rfl, hg⟩; have hgw : Gr a0 w' := Gr.trans (by first | assumption | exact Gr.drew (Gr.refl _)) hg))
 obtain ⟨b0, hB⟩ : ∃ u, u = w' := ⟨_, rfl⟩
 subst hB
 have gb0 : Gr w b0 := (ga0.trans hgw)
 have llb0 : pl < b0.heap.size := Nat.lt_of_lt_of_le llw gb0.size
 have hlb0 := (gb0.cell (p := ⟨pl, 0, none⟩) llw).trans hlw
 go_wp2_with fail
 go_ret
 exact ⟨rfl, gb0⟩
theorem within1_2_l (p : Nat) (HE : Enters p) (pn pl k : Nat) (l : Int) (x00 x01 v0 : Int) (x10 x11 v1 : Int) (w : World) (HP0 : CR p #[.agg #[x00, x01]] (.int .i64 v0)) (HP1 : CR p #[.agg #[x10, x11]] (.int .i64 v1)) (hn : w.cell? ⟨pn, 0, none⟩ = some (.slice (some ⟨k, 0, none⟩) 2 2)) (ln : pn < w.heap.size) (hlw : w.cell? ⟨pl, 0, none⟩ = some (.int .i64 l)) (llw : pl < w.heap.size)
 (lk : k < w.heap.size) (c00 : w.cell? ⟨k, 0, none⟩ = some (.int .i64 x00)) (c01 : w.cell? ⟨k, 1, none⟩ = some (.int .i64 x01)) (c10 : w.cell? ⟨k, 2, none⟩ = some (.int .i64 x10)) (c11 : w.cell? ⟨k, 3, none⟩ = some (.int .i64 x11)) (l0 : 0 ≤ l) (l1 : l ≤ 4611686018427387904) (h00 : decide (v0 < -l) = true) :
 CW 190 #[.func (.func p) #[] #[], .pointer (some ⟨pn, 0, none⟩), .pointer (some ⟨pl, 0, none⟩)] w (.bool false) :=by
 delta CW
 unfold Enters at HE
 have hw : IntKind.i64.wrap (-l) = -l := IntWalk.i64_in _ (by omega)
 go_in
 go_wp2_with fail
 refine wp_loop_rounds 3 ?_
 rw [rounds_succ]
 go_wp2_with fail
 obtain ⟨a0, hW⟩ : ∃ u, u = w.alloc (.cells #[x00, x01] 50) := ⟨_, rfl⟩
 have ga0 : Gr w a0 := by rw [hW]; exact (Gr.refl w).alloc _ _
 have za0 : w.heap.size < a0.heap.size := by rw [hW]; simp
 have d0a0 : a0.cell? ⟨w.heap.size, 0, none⟩ = some (.int .i64 x00) := by rw [hW]; go_simp
 have d1a0 : a0.cell? ⟨w.heap.size, 1, none⟩ = some (.int .i64 x01) := by rw [hW]; go_simp
 have hla0 := (ga0.cell (p := ⟨pl, 0, none⟩) llw).trans hlw
 have lla0 := Nat.lt_trans llw za0
 rw [← hW]
 clear hW
 refine wp_region_held_drew (S := fun W => W.cell? ⟨w.heap.size, 0, none⟩ = some (.int .i64 x00) ∧ W.cell? ⟨w.heap.size, 1, none⟩ = some (.int .i64 x01) ∧ W.cell? ⟨pl, 0, none⟩ = some (.int .i64 l) ∧ Gr a0 W) rfl (⟨d0a0, d1a0, hla0, (Gr.refl a0).drew⟩) (fun hS => ?_)
 refine hT 0 ?_
 refine hT 1 ?_
 refine hT 3 ?_
 refine hT 4 ?_
 refine hR 2 fun K hK => ?_
 go_simp
 (go_split_ands; refine (HP0.out _).mono ?_; rintro e w' ⟨rfl, hg⟩; have hgw : Gr a0 w' := Gr.trans (by first | assumption | exact Gr.drew (Gr.refl _)) hg)
 refine hK.out _ _ ?_ (fun hHeld => ?_)
 ·exact ⟨(hgw.cell (p := ⟨w.heap.size, 0, none⟩) za0).trans d0a0, (hgw.cell (p := ⟨w.heap.size, 1, none⟩) za0).trans d1a0, (hgw.cell (p := ⟨pl, 0, none⟩) lla0).trans hla0, hgw⟩
 clear hK K
 try simp only [Act.put, putS]
 refine hT 5 ?_
 refine hT 6 ?_
 refine hN 7 ?_
 refine hN 8 ?_
 refine hN 9 ?_
 refine hN 10 ?_
 refine hN 11 ?_
 refine hT 12 ?_
 refine wpAnyH_done (by kernel_rfl) ?_ _
 obtain ⟨b0, hB⟩ : ∃ u, u = w' := ⟨_, rfl⟩
 subst hB
 have gb0 : Gr w b0 := (ga0.trans hgw)
 have llb0 : pl < b0.heap.size := Nat.lt_of_lt_of_le llw gb0.size
 have hlb0 := (gb0.cell (p := ⟨pl, 0, none⟩) llw).trans hlw
 go_wp2_with fail
 go_ret
 exact ⟨rfl, gb0⟩
theorem within1_2_h (p : Nat) (HE : Enters p) (pn pl k : Nat) (l : Int) (x00 x01 v0 : Int) (x10 x11 v1 : Int) (w : World) (HP0 : CR p #[.agg #[x00, x01]] (.int .i64 v0)) (HP1 : CR p #[.agg #[x10, x11]] (.int .i64 v1)) (hn : w.cell? ⟨pn, 0, none⟩ = some (.slice (some ⟨k, 0, none⟩) 2 2)) (ln : pn < w.heap.size) (hlw : w.cell? ⟨pl, 0, none⟩ = some (.int .i64 l)) (llw : pl < w.heap.size)
 (lk : k < w.heap.size) (c00 : w.cell? ⟨k, 0, none⟩ = some (.int .i64 x00)) (c01 : w.cell? ⟨k, 1, none⟩ = some (.int .i64 x01)) (c10 : w.cell? ⟨k, 2, none⟩ = some (.int .i64 x10)) (c11 : w.cell? ⟨k, 3, none⟩ = some (.int .i64 x11)) (l0 : 0 ≤ l) (l1 : l ≤ 4611686018427387904) (h00 : decide (v0 < -l) = false) (h01 : decide (l < v0) = true) :
 CW 190 #[.func (.func p) #[] #[], .pointer (some ⟨pn, 0, none⟩), .pointer (some ⟨pl, 0, none⟩)] w (.bool false) :=by
 delta CW
 unfold Enters at HE
 have hw : IntKind.i64.wrap (-l) = -l := IntWalk.i64_in _ (by omega)
 go_in
 go_wp2_with fail
 refine wp_loop_rounds 3 ?_
 rw [rounds_succ]
 go_wp2_with fail
 obtain ⟨a0, hW⟩ : ∃ u, u = w.alloc (.cells #[x00, x01] 50) := ⟨_, rfl⟩
 have ga0 : Gr w a0 := by rw [hW]; exact (Gr.refl w).alloc _ _
 have za0 : w.heap.size < a0.heap.size := by rw [hW]; simp
 have d0a0 : a0.cell? ⟨w.heap.size, 0, none⟩ = some (.int .i64 x00) := by rw [hW]; go_simp
 have d1a0 : a0.cell? ⟨w.heap.size, 1, none⟩ = some (.int .i64 x01) := by rw [hW]; go_simp
 have hla0 := (ga0.cell (p := ⟨pl, 0, none⟩) llw).trans hlw
 have lla0 := Nat.lt_trans llw za0
 rw [← hW]
 clear hW
 go_region_held3 (fun W => W.cell? ⟨w.heap.size, 0, none⟩ = some (.int .i64 x00) ∧ W.cell? ⟨w.heap.size, 1, none⟩ = some (.int .i64 x01) ∧ W.cell? ⟨pl, 0, none⟩ = some (.int .i64 l) ∧ Gr a0 W)
  (first | (go_split_ands; refine ⟨?_, ?_, ?_, ?_⟩; (all_goals (first | assumption | exact Gr.refl _ | exact Gr.drew (Gr.refl _) | exact Gr.drew (by assumption) | (go_keep; done) | ((refine (Gr.cell (by assumption) ?_).trans ?_ <;> (first | assumption)); done)))))
  (first | (go_split_ands; refine (HP0.out _).mono ?_; rintro e w' ⟨rfl, hg⟩; have hgw : Gr a0 w' := Gr.trans (by first | assumption | exact Gr.drew (Gr.refl _)) hg))
 obtain ⟨b0, hB⟩ : ∃ u, u = w' := ⟨_, rfl⟩
 subst hB
 have gb0 : Gr w b0 := (ga0.trans hgw)
 have llb0 : pl < b0.heap.size := Nat.lt_of_lt_of_le llw gb0.size
 have hlb0 := (gb0.cell (p := ⟨pl, 0, none⟩) llw).trans hlw
 go_wp2_with fail
 go_ret
 exact ⟨rfl, gb0⟩
theorem within1_2_ol (p : Nat) (HE : Enters p) (pn pl k : Nat) (l : Int) (x00 x01 v0 : Int) (x10 x11 v1 : Int) (w : World) (HP0 : CR p #[.agg #[x00, x01]] (.int .i64 v0)) (HP1 : CR p #[.agg #[x10, x11]] (.int .i64 v1)) (hn : w.cell? ⟨pn, 0, none⟩ = some (.slice (some ⟨k, 0, none⟩) 2 2)) (ln : pn < w.heap.size) (hlw : w.cell? ⟨pl, 0, none⟩ = some (.int .i64 l)) (llw : pl < w.heap.size)
 (lk : k < w.heap.size) (c00 : w.cell? ⟨k, 0, none⟩ = some (.int .i64 x00)) (c01 : w.cell? ⟨k, 1, none⟩ = some (.int .i64 x01)) (c10 : w.cell? ⟨k, 2, none⟩ = some (.int .i64 x10)) (c11 : w.cell? ⟨k, 3, none⟩ = some (.int .i64 x11)) (l0 : 0 ≤ l) (l1 : l ≤ 4611686018427387904) (h00 : decide (v0 < -l) = false) (h01 : decide (l < v0) = false) (h10 : decide (v1 < -l) = true) :
 CW 190 #[.func (.func p) #[] #[], .pointer (some ⟨pn, 0, none⟩), .pointer (some ⟨pl, 0, none⟩)] w (.bool false) :=by
 delta CW
 unfold Enters at HE
 have hw : IntKind.i64.wrap (-l) = -l := IntWalk.i64_in _ (by omega)
 go_in
 go_wp2_with fail
 refine wp_loop_rounds 3 ?_
 rw [rounds_succ]
 go_wp2_with fail
 obtain ⟨a0, hW⟩ : ∃ u, u = w.alloc (.cells #[x00, x01] 50) := ⟨_, rfl⟩
 have ga0 : Gr w a0 := by rw [hW]; exact (Gr.refl w).alloc _ _
 have za0 : w.heap.size < a0.heap.size := by rw [hW]; simp
 have d0a0 : a0.cell? ⟨w.heap.size, 0, none⟩ = some (.int .i64 x00) := by rw [hW]; go_simp
 have d1a0 : a0.cell? ⟨w.heap.size, 1, none⟩ = some (.int .i64 x01) := by rw [hW]; go_simp
 have hla0 := (ga0.cell (p := ⟨pl, 0, none⟩) llw).trans hlw
 have lla0 := Nat.lt_trans llw za0
 rw [← hW]
 clear hW
 go_region_held3 (fun W => W.cell? ⟨w.heap.size, 0, none⟩ = some (.int .i64 x00) ∧ W.cell? ⟨w.heap.size, 1, none⟩ = some (.int .i64 x01) ∧ W.cell? ⟨pl, 0, none⟩ = some (.int .i64 l) ∧ Gr a0 W)
  (first | (go_split_ands; refine ⟨?_, ?_, ?_, ?_⟩; (all_goals (first | assumption | exact Gr.refl _ | exact Gr.drew (Gr.refl _) | exact Gr.drew (by assumption) | (go_keep; done) | ((refine (Gr.cell (by assumption) ?_).trans ?_ <;> (first | assumption)); done)))))
  (first | (go_split_ands; refine (HP0.out _).mono ?_; rintro e w' ⟨rfl, hg⟩; have hgw : Gr a0 w' := Gr.trans (by first | assumption | exact Gr.drew (Gr.refl _)) hg))
 obtain ⟨b0, hB⟩ : ∃ u, u = w' := ⟨_, rfl⟩
 subst hB
 have gb0 : Gr w b0 := (ga0.trans hgw)
 have llb0 : pl < b0.heap.size := Nat.lt_of_lt_of_le llw gb0.size
 have hlb0 := (gb0.cell (p := ⟨pl, 0, none⟩) llw).trans hlw
 have c10b := (gb0.cell (p := ⟨k, 2, none⟩) lk).trans c10
 have c11b := (gb0.cell (p := ⟨k, 3, none⟩) lk).trans c11
 go_wp2_with fail
 rw [rounds_succ]
 go_wp2_with fail
 obtain ⟨a1, hW⟩ : ∃ u, u = b0.alloc (.cells #[x10, x11] 50) := ⟨_, rfl⟩
 have ga1 : Gr b0 a1 := by rw [hW]; exact (Gr.refl b0).alloc _ _
 have za1 : b0.heap.size < a1.heap.size := by rw [hW]; simp
 have d0a1 : a1.cell? ⟨b0.heap.size, 0, none⟩ = some (.int .i64 x10) := by rw [hW]; go_simp
 have d1a1 : a1.cell? ⟨b0.heap.size, 1, none⟩ = some (.int .i64 x11) := by rw [hW]; go_simp
 have hla1 := (ga1.cell (p := ⟨pl, 0, none⟩) llb0).trans hlb0
 have lla1 := Nat.lt_trans llb0 za1
 rw [← hW]
 clear hW
 refine wp_region_held_drew (S := fun W => W.cell? ⟨b0.heap.size, 0, none⟩ = some (.int .i64 x10) ∧ W.cell? ⟨b0.heap.size, 1, none⟩ = some (.int .i64 x11) ∧ W.cell? ⟨pl, 0, none⟩ = some (.int .i64 l) ∧ Gr a1 W) rfl (⟨d0a1, d1a1, hla1, (Gr.refl a1).drew⟩) (fun hS => ?_)
 refine hT 0 ?_
 refine hT 1 ?_
 refine hT 3 ?_
 refine hT 4 ?_
 refine hR 2 fun K hK => ?_
 go_simp
 (go_split_ands; refine (HP1.out _).mono ?_; rintro e w' ⟨rfl, hg⟩; have hgw : Gr a1 w' := Gr.trans (by first | assumption | exact Gr.drew (Gr.refl _)) hg)
 refine hK.out _ _ ?_ (fun hHeld => ?_)
 ·exact ⟨(hgw.cell (p := ⟨b0.heap.size, 0, none⟩) za1).trans d0a1, (hgw.cell (p := ⟨b0.heap.size, 1, none⟩) za1).trans d1a1, (hgw.cell (p := ⟨pl, 0, none⟩) lla1).trans hla1, hgw⟩
 clear hK K
 try simp only [Act.put, putS]
 refine hT 5 ?_
 refine hT 6 ?_
 refine hN 7 ?_
 refine hN 8 ?_
 refine hN 9 ?_
 refine hN 10 ?_
 refine hN 11 ?_
 refine hT 12 ?_
 refine wpAnyH_done (by kernel_rfl) ?_ _
 obtain ⟨b1, hB⟩ : ∃ u, u = w' := ⟨_, rfl⟩
 subst hB
 have gb1 : Gr w b1 := gb0.trans (ga1.trans hgw)
 have llb1 : pl < b1.heap.size := Nat.lt_of_lt_of_le llw gb1.size
 have hlb1 := (gb1.cell (p := ⟨pl, 0, none⟩) llw).trans hlw
 go_wp2_with fail
 go_ret
 exact ⟨rfl, gb1⟩
theorem within1_2_oh (p : Nat) (HE : Enters p) (pn pl k : Nat) (l : Int) (x00 x01 v0 : Int) (x10 x11 v1 : Int) (w : World) (HP0 : CR p #[.agg #[x00, x01]] (.int .i64 v0)) (HP1 : CR p #[.agg #[x10, x11]] (.int .i64 v1)) (hn : w.cell? ⟨pn, 0, none⟩ = some (.slice (some ⟨k, 0, none⟩) 2 2)) (ln : pn < w.heap.size) (hlw : w.cell? ⟨pl, 0, none⟩ = some (.int .i64 l)) (llw : pl < w.heap.size)
 (lk : k < w.heap.size) (c00 : w.cell? ⟨k, 0, none⟩ = some (.int .i64 x00)) (c01 : w.cell? ⟨k, 1, none⟩ = some (.int .i64 x01)) (c10 : w.cell? ⟨k, 2, none⟩ = some (.int .i64 x10)) (c11 : w.cell? ⟨k, 3, none⟩ = some (.int .i64 x11)) (l0 : 0 ≤ l) (l1 : l ≤ 4611686018427387904) (h00 : decide (v0 < -l) = false) (h01 : decide (l < v0) = false) (h10 : decide (v1 < -l) = false) (h11 : decide (l < v1) = true) :
 CW 190 #[.func (.func p) #[] #[], .pointer (some ⟨pn, 0, none⟩), .pointer (some ⟨pl, 0, none⟩)] w (.bool false) :=by
 delta CW
 unfold Enters at HE
 have hw : IntKind.i64.wrap (-l) = -l := IntWalk.i64_in _ (by omega)
 go_in
 go_wp2_with fail
 refine wp_loop_rounds 3 ?_
 rw [rounds_succ]
 go_wp2_with fail
 obtain ⟨a0, hW⟩ : ∃ u, u = w.alloc (.cells #[x00, x01] 50) := ⟨_, rfl⟩
 have ga0 : Gr w a0 := by rw [hW]; exact (Gr.refl w).alloc _ _
 have za0 : w.heap.size < a0.heap.size := by rw [hW]; simp
 have d0a0 : a0.cell? ⟨w.heap.size, 0, none⟩ = some (.int .i64 x00) := by rw [hW]; go_simp
 have d1a0 : a0.cell? ⟨w.heap.size, 1, none⟩ = some (.int .i64 x01) := by rw [hW]; go_simp
 have hla0 := (ga0.cell (p := ⟨pl, 0, none⟩) llw).trans hlw
 have lla0 := Nat.lt_trans llw za0
 rw [← hW]
 clear hW
 go_region_held3 (fun W => W.cell? ⟨w.heap.size, 0, none⟩ = some (.int .i64 x00) ∧ W.cell? ⟨w.heap.size, 1, none⟩ = some (.int .i64 x01) ∧ W.cell? ⟨pl, 0, none⟩ = some (.int .i64 l) ∧ Gr a0 W)
  (first | (go_split_ands; refine ⟨?_, ?_, ?_, ?_⟩; (all_goals (first | assumption | exact Gr.refl _ | exact Gr.drew (Gr.refl _) | exact Gr.drew (by assumption) | (go_keep; done) | ((refine (Gr.cell (by assumption) ?_).trans ?_ <;> (first | assumption)); done)))))
  (first | (go_split_ands; refine (HP0.out _).mono ?_; rintro e w' ⟨rfl, hg⟩; have hgw : Gr a0 w' := Gr.trans (by first | assumption | exact Gr.drew (Gr.refl _)) hg))
 obtain ⟨b0, hB⟩ : ∃ u, u = w' := ⟨_, rfl⟩
 subst hB
 have gb0 : Gr w b0 := (ga0.trans hgw)
 have llb0 : pl < b0.heap.size := Nat.lt_of_lt_of_le llw gb0.size
 have hlb0 := (gb0.cell (p := ⟨pl, 0, none⟩) llw).trans hlw
 have c10b := (gb0.cell (p := ⟨k, 2, none⟩) lk).trans c10
 have c11b := (gb0.cell (p := ⟨k, 3, none⟩) lk).trans c11
 go_wp2_with fail
 rw [rounds_succ]
 go_wp2_with fail
 obtain ⟨a1, hW⟩ : ∃ u, u = b0.alloc (.cells #[x10, x11] 50) := ⟨_, rfl⟩
 have ga1 : Gr b0 a1 := by rw [hW]; exact (Gr.refl b0).alloc _ _
 have za1 : b0.heap.size < a1.heap.size := by rw [hW]; simp
 have d0a1 : a1.cell? ⟨b0.heap.size, 0, none⟩ = some (.int .i64 x10) := by rw [hW]; go_simp
 have d1a1 : a1.cell? ⟨b0.heap.size, 1, none⟩ = some (.int .i64 x11) := by rw [hW]; go_simp
 have hla1 := (ga1.cell (p := ⟨pl, 0, none⟩) llb0).trans hlb0
 have lla1 := Nat.lt_trans llb0 za1
 rw [← hW]
 clear hW
 go_region_held3 (fun W => W.cell? ⟨b0.heap.size, 0, none⟩ = some (.int .i64 x10) ∧ W.cell? ⟨b0.heap.size, 1, none⟩ = some (.int .i64 x11) ∧ W.cell? ⟨pl, 0, none⟩ = some (.int .i64 l) ∧ Gr a1 W)
  (first | (go_split_ands; refine ⟨?_, ?_, ?_, ?_⟩; (all_goals (first | assumption | exact Gr.refl _ | exact Gr.drew (Gr.refl _) | exact Gr.drew (by assumption) | (go_keep; done) | ((refine (Gr.cell (by assumption) ?_).trans ?_ <;> (first | assumption)); done)))))
  (first | (go_split_ands; refine (HP1.out _).mono ?_; rintro e w' ⟨rfl, hg⟩; have hgw : Gr a1 w' := Gr.trans (by first | assumption | exact Gr.drew (Gr.refl _)) hg))
 obtain ⟨b1, hB⟩ : ∃ u, u = w' := ⟨_, rfl⟩
 subst hB
 have gb1 : Gr w b1 := gb0.trans (ga1.trans hgw)
 have llb1 : pl < b1.heap.size := Nat.lt_of_lt_of_le llw gb1.size
 have hlb1 := (gb1.cell (p := ⟨pl, 0, none⟩) llw).trans hlw
 go_wp2_with fail
 go_ret
 exact ⟨rfl, gb1⟩
theorem within1_2_oo (p : Nat) (HE : Enters p) (pn pl k : Nat) (l : Int) (x00 x01 v0 : Int) (x10 x11 v1 : Int) (w : World) (HP0 : CR p #[.agg #[x00, x01]] (.int .i64 v0)) (HP1 : CR p #[.agg #[x10, x11]] (.int .i64 v1)) (hn : w.cell? ⟨pn, 0, none⟩ = some (.slice (some ⟨k, 0, none⟩) 2 2)) (ln : pn < w.heap.size) (hlw : w.cell? ⟨pl, 0, none⟩ = some (.int .i64 l)) (llw : pl < w.heap.size)
 (lk : k < w.heap.size) (c00 : w.cell? ⟨k, 0, none⟩ = some (.int .i64 x00)) (c01 : w.cell? ⟨k, 1, none⟩ = some (.int .i64 x01)) (c10 : w.cell? ⟨k, 2, none⟩ = some (.int .i64 x10)) (c11 : w.cell? ⟨k, 3, none⟩ = some (.int .i64 x11)) (l0 : 0 ≤ l) (l1 : l ≤ 4611686018427387904) (h00 : decide (v0 < -l) = false) (h01 : decide (l < v0) = false) (h10 : decide (v1 < -l) = false) (h11 : decide (l < v1) = false) :
 CW 190 #[.func (.func p) #[] #[], .pointer (some ⟨pn, 0, none⟩), .pointer (some ⟨pl, 0, none⟩)] w (.bool true) :=by
 delta CW
 unfold Enters at HE
 have hw : IntKind.i64.wrap (-l) = -l := IntWalk.i64_in _ (by omega)
 go_in
 go_wp2_with fail
 refine wp_loop_rounds 3 ?_
 rw [rounds_succ]
 go_wp2_with fail
 obtain ⟨a0, hW⟩ : ∃ u, u = w.alloc (.cells #[x00, x01] 50) := ⟨_, rfl⟩
 have ga0 : Gr w a0 := by rw [hW]; exact (Gr.refl w).alloc _ _
 have za0 : w.heap.size < a0.heap.size := by rw [hW]; simp
 have d0a0 : a0.cell? ⟨w.heap.size, 0, none⟩ = some (.int .i64 x00) := by rw [hW]; go_simp
 have d1a0 : a0.cell? ⟨w.heap.size, 1, none⟩ = some (.int .i64 x01) := by rw [hW]; go_simp
 have hla0 := (ga0.cell (p := ⟨pl, 0, none⟩) llw).trans hlw
 have lla0 := Nat.lt_trans llw za0
 rw [← hW]
 clear hW
 go_region_held3 (fun W => W.cell? ⟨w.heap.size, 0, none⟩ = some (.int .i64 x00) ∧ W.cell? ⟨w.heap.size, 1, none⟩ = some (.int .i64 x01) ∧ W.cell? ⟨pl, 0, none⟩ = some (.int .i64 l) ∧ Gr a0 W)
  (first | (go_split_ands; refine ⟨?_, ?_, ?_, ?_⟩; (all_goals (first | assumption | exact Gr.refl _ | exact Gr.drew (Gr.refl _) | exact Gr.drew (by assumption) | (go_keep; done) | ((refine (Gr.cell (by assumption) ?_).trans ?_ <;> (first | assumption)); done)))))
  (first | (go_split_ands; refine (HP0.out _).mono ?_; rintro e w' ⟨rfl, hg⟩; have hgw : Gr a0 w' := Gr.trans (by first | assumption | exact Gr.drew (Gr.refl _)) hg))
 obtain ⟨b0, hB⟩ : ∃ u, u = w' := ⟨_, rfl⟩
 subst hB
 have gb0 : Gr w b0 := (ga0.trans hgw)
 have llb0 : pl < b0.heap.size := Nat.lt_of_lt_of_le llw gb0.size
 have hlb0 := (gb0.cell (p := ⟨pl, 0, none⟩) llw).trans hlw
 have c10b := (gb0.cell (p := ⟨k, 2, none⟩) lk).trans c10
 have c11b := (gb0.cell (p := ⟨k, 3, none⟩) lk).trans c11
 go_wp2_with fail
 rw [rounds_succ]
 go_wp2_with fail
 obtain ⟨a1, hW⟩ : ∃ u, u = b0.alloc (.cells #[x10, x11] 50) := ⟨_, rfl⟩
 have ga1 : Gr b0 a1 := by rw [hW]; exact (Gr.refl b0).alloc _ _
 have za1 : b0.heap.size < a1.heap.size := by rw [hW]; simp
 have d0a1 : a1.cell? ⟨b0.heap.size, 0, none⟩ = some (.int .i64 x10) := by rw [hW]; go_simp
 have d1a1 : a1.cell? ⟨b0.heap.size, 1, none⟩ = some (.int .i64 x11) := by rw [hW]; go_simp
 have hla1 := (ga1.cell (p := ⟨pl, 0, none⟩) llb0).trans hlb0
 have lla1 := Nat.lt_trans llb0 za1
 rw [← hW]
 clear hW
 go_region_held3 (fun W => W.cell? ⟨b0.heap.size, 0, none⟩ = some (.int .i64 x10) ∧ W.cell? ⟨b0.heap.size, 1, none⟩ = some (.int .i64 x11) ∧ W.cell? ⟨pl, 0, none⟩ = some (.int .i64 l) ∧ Gr a1 W)
  (first | (go_split_ands; refine ⟨?_, ?_, ?_, ?_⟩; (all_goals (first | assumption | exact Gr.refl _ | exact Gr.drew (Gr.refl _) | exact Gr.drew (by assumption) | (go_keep; done) | ((refine (Gr.cell (by assumption) ?_).trans ?_ <;> (first | assumption)); done)))))
  (first | (go_split_ands; refine (HP1.out _).mono ?_; rintro e w' ⟨rfl, hg⟩; have hgw : Gr a1 w' := Gr.trans (by first | assumption | exact Gr.drew (Gr.refl _)) hg))
 obtain ⟨b1, hB⟩ : ∃ u, u = w' := ⟨_, rfl⟩
 subst hB
 have gb1 : Gr w b1 := gb0.trans (ga1.trans hgw)
 have llb1 : pl < b1.heap.size := Nat.lt_of_lt_of_le llw gb1.size
 have hlb1 := (gb1.cell (p := ⟨pl, 0, none⟩) llw).trans hlw
 go_wp2_with fail
 rw [rounds_succ]
 go_wp2_with fail
 go_ret
 exact ⟨rfl, gb1⟩
end
end Go.Proofs.YtdignnmpfkgkoaaGreat
