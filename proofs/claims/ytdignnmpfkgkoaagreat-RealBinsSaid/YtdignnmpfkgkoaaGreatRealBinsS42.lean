import Derived.Lib.SmallJoins
import Derived.Test.YtdignnmpfkgkoaaGreatRealBinsS39
import Derived.Test.YtdignnmpfkgkoaaGreatRealBinsS41
namespace Go.Proofs.YtdignnmpfkgkoaaGreat
set_option maxHeartbeats 16000000
section
open Go.ChangeShapes Go.WideShapes Go.ChangeAt Go.RowKit
set_option linter.unusedVariables false
set_option maxRecDepth 100000
set_option linter.unusedSimpArgs false
set_option maxHeartbeats 16000000
theorem fErr_c (px pw : Option Addr) (cx cw : Nat) (xs ws : List Gi) (n m : Nat) (hh : Int) (part : Bool) (b s mo e : Int) (inv : Bool) (inx inw : Bool) (hp : part = true ↔ QuarterOk hh n) (hx : inx = allIn 2147483648 xs) (hw : ∀ B : Nat, b = (B : Int) → B ≤ 29 → inw = allIn (2 ^ B) ws)
 (h : WhyIs n m part b s mo inx inw e) (w : World) (hvx : CxsAt w (.slice px n cx) xs) (hvw : CxsAt w (.slice pw m cw) ws) :
 Calls Tryz.prog 186 #[.agg #[b, s, mo, inv], .slice px n cx, .slice pw m cw, hh] w fun e' w' => e' = .returned (.int .i64 e) ∧ Gr w w' := by
 have VX := kh hvx
 have VW := kh hvw
 have HP := kh fun L (hL : IsLog (n : Int) L) => fQuarters_c hh n L hL part hp
 clear hvx hvw hp
 rcases h with ⟨h1, rfl⟩ | ⟨⟨L, h1⟩, h2, rfl⟩ | ⟨⟨L, h1⟩, h2, h3, rfl⟩ | ⟨⟨L, h1⟩, h2, h3, h4, h5, rfl⟩ | ⟨⟨L, h1⟩, h2, h3, h4, h5, h6, rfl⟩
 ·have HL := kh (log08_none n h1)
  clear h1 hx hw;go_in
  go_wp2_with (first | (go_at_call 34; refine (HL.out _).mono ?_; rintro e wz ⟨rfl, rfl⟩))
  go_ret
  exact ⟨rfl, (Gr.refl _).alloc _ _⟩
 ·have HL := kh (log08_yes n L h1)
  have hne : ((m : Int) != n) = true := by simp; omega
  clear h1 hx hw h2;go_in
  go_wp2_with (first | (go_at_call 34; refine (HL.out _).mono ?_; rintro e wz ⟨rfl, rfl⟩))
  go_ret
  exact ⟨rfl, (Gr.refl _).alloc _ _⟩
 ·have HL := kh (log08_yes n L h1)
  have HP2 := kh (HP.out L h1);subst h2;clear h1 hx hw HP
  rcases h3 with rfl | h3
  ·go_in
   go_wp2_with (first | (go_at_call 34; refine (HL.out _).mono ?_; rintro e wz ⟨rfl, rfl⟩) | (go_at_call 205; refine (HP2.out _).mono ?_; rintro e wz ⟨rfl, rfl⟩))
   go_ret
   exact ⟨rfl, (Gr.refl _).alloc _ _⟩
  ·have HS := kh (fMayBe_no b s mo inv h3)
   clear h3
   cases part
   ·go_in
    go_wp2_with (first | (go_at_call 34; refine (HL.out _).mono ?_; rintro e wz ⟨rfl, rfl⟩) | (go_at_call 205; refine (HP2.out _).mono ?_; rintro e wz ⟨rfl, rfl⟩))
    go_ret
    exact ⟨rfl, (Gr.refl _).alloc _ _⟩
   ·go_in
    go_wp2_with (first | (go_at_call 34; refine (HL.out _).mono ?_; rintro e wz ⟨rfl, rfl⟩) | (go_at_call 205; refine (HP2.out _).mono ?_; rintro e wz ⟨rfl, rfl⟩))
    refine (HS.out _).mono ?_;rintro e w2 ⟨rfl, g2⟩;go_wp2_with fail
    go_ret
    exact ⟨rfl, ((Gr.refl _).alloc _ _).trans g2⟩
 ·have HL := kh (log08_yes n L h1)
  have HP2 := kh (HP.out L h1);have HS := kh (fMayBe_yes b s mo inv h4);subst h2;subst h3
  obtain ⟨B, rfl⟩ : ∃ B : Nat, b = (B : Int) := ⟨b.toNat, by have := h4.1.1; omega⟩
  have hB : B ≤ 29 := by have := h4.1.2; omega
  have HN := kh fun W (hW : CxsAt W (.slice px m cx) xs) => fWithin_c _ xs 2147483648 (by omega) (by omega) W hW
  have hPb : (2 : Int) ^ B ≤ 2147483648 := pow_le31 B (by omega)
  have hP0 := pow_pos2 B
  have hPw : wrap64 (2 ^ B) = 2 ^ B := IntWalk.wrap64_in _ ⟨by omega, by omega⟩
  have HR := kh fun W (hW : CxsAt W (.slice pw m cw) ws) => fWithin_c _ ws (2 ^ B) (by omega) hPb W hW
  rw [← hx] at HN;rw [← hw B rfl hB] at HR;rw [← hPw] at HR;clear h1 hx hw h4 HP hPb hP0 hPw
  cases inx
  ·clear HR h5
   go_in
   go_wp2_with (first | (go_at_call 34; refine (HL.out _).mono ?_; rintro e wz ⟨rfl, rfl⟩) | (go_at_call 205; refine (HP2.out _).mono ?_; rintro e wz ⟨rfl, rfl⟩))
   refine (HS.out _).mono ?_;rintro e w2 ⟨rfl, g2⟩;have gw2 := ((Gr.refl _).alloc _ _).trans g2;go_wp2_with fail;refine (HN.out _ (VX.out.gr gw2)).mono ?_;rintro e w3 ⟨rfl, g3⟩;go_wp2_with fail
   go_ret
   exact ⟨rfl, gw2.trans g3⟩
  ·rw [Bool.true_and] at h5
   subst h5;go_in
   go_wp2_with (first | (go_at_call 34; refine (HL.out _).mono ?_; rintro e wz ⟨rfl, rfl⟩) | (go_at_call 205; refine (HP2.out _).mono ?_; rintro e wz ⟨rfl, rfl⟩))
   refine (HS.out _).mono ?_;rintro e w2 ⟨rfl, g2⟩;have gw2 := ((Gr.refl _).alloc _ _).trans g2;go_wp2_with fail;refine (HN.out _ (VX.out.gr gw2)).mono ?_;rintro e w3 ⟨rfl, g3⟩;have gw3 := gw2.trans g3;have c0 := (g2.trans g3).cell (p := ⟨w.heap.size, 0, none⟩) (by simp);go_wp2_with fail;refine (HR.out _ (VW.out.gr gw3)).mono ?_;rintro e w4 ⟨rfl, g4⟩;go_wp2_with fail
   go_ret
   exact ⟨rfl, gw3.trans g4⟩
 ·have HL := kh (log08_yes n L h1)
  have HP2 := kh (HP.out L h1);have HS := kh (fMayBe_yes b s mo inv h4);subst h2;subst h3;subst h5;subst h6
  obtain ⟨B, rfl⟩ : ∃ B : Nat, b = (B : Int) := ⟨b.toNat, by have := h4.1.1; omega⟩
  have hB : B ≤ 29 := by have := h4.1.2; omega
  have HN := kh fun W (hW : CxsAt W (.slice px m cx) xs) => fWithin_c _ xs 2147483648 (by omega) (by omega) W hW
  have hPb : (2 : Int) ^ B ≤ 2147483648 := pow_le31 B (by omega)
  have hP0 := pow_pos2 B
  have hPw : wrap64 (2 ^ B) = 2 ^ B := IntWalk.wrap64_in _ ⟨by omega, by omega⟩
  have HR := kh fun W (hW : CxsAt W (.slice pw m cw) ws) => fWithin_c _ ws (2 ^ B) (by omega) hPb W hW
  rw [← hx] at HN;rw [← hw B rfl hB] at HR;rw [← hPw] at HR;clear h1 hx hw h4 HP hPb hP0 hPw;go_in
  go_wp2_with (first | (go_at_call 34; refine (HL.out _).mono ?_; rintro e wz ⟨rfl, rfl⟩) | (go_at_call 205; refine (HP2.out _).mono ?_; rintro e wz ⟨rfl, rfl⟩))
  refine (HS.out _).mono ?_;rintro e w2 ⟨rfl, g2⟩;have gw2 := ((Gr.refl _).alloc _ _).trans g2;go_wp2_with fail;refine (HN.out _ (VX.out.gr gw2)).mono ?_;rintro e w3 ⟨rfl, g3⟩;have gw3 := gw2.trans g3;have c0 := (g2.trans g3).cell (p := ⟨w.heap.size, 0, none⟩) (by simp);go_wp2_with fail;refine (HR.out _ (VW.out.gr gw3)).mono ?_;rintro e w4 ⟨rfl, g4⟩;go_wp2_with fail
  go_ret
  exact ⟨rfl, gw3.trans g4⟩
end
section
open Go.ChangeShapes Go.WideShapes Go.ChangeAt Go.RowKit
set_option linter.unusedVariables false
set_option maxRecDepth 100000
set_option maxHeartbeats 16000000
theorem quarter_units (n k : Nat) (hL : ∃ L, IsLog (n : Int) L) (hk : 4 * 2 ^ k ≤ n) : ∃ u, n = 4 * 2 ^ k * u ∧ 1 ≤ u ∧ n ≤ 64 := by
 obtain ⟨L, l0, l1, hn⟩ := hL
 have hn' : n = 2 ^ L := by exact Int.ofNat.inj hn
 have hp := pow_le L l1
 have hkL : k + 2 ≤ L := by
  refine Classical.byContradiction fun h => ?_
  have := Nat.pow_lt_pow_right (a := 2) (by omega) (show L < k + 2 by omega)
  rw [Nat.pow_add] at this
  omega
 refine ⟨2 ^ (L - (k + 2)), ?_, Nat.one_le_two_pow, by omega⟩
 have e : L = (k + 2) + (L - (k + 2)) := by omega
 rw [hn', show 4 * 2 ^ k = 2 ^ (k + 2) by rw [Nat.pow_add]; omega, ← Nat.pow_add, ← e]
theorem fourPass_yes (px pw : Option Addr) (cx cw : Nat) (xs ws : List Gi) (n k bits s : Nat) (mo : Int) (inv : Bool) (hn : xs.length = n) (hm : ws.length = n) (hL : ∃ L, IsLog (n : Int) L) (hk : 4 * 2 ^ k ≤ n)
 (hS : SetsOk2 bits s mo) (hx : allIn 2147483648 xs = true) (hw : allIn (2 ^ bits) ws = true) (w : World) (hvx : CxsAt w (.slice px n cx) xs) (hvw : CxsAt w (.slice pw n cw) ws) :
 Calls Tryz.prog 155 #[.slice px n cx, .slice pw n cw, .int .i64 ((2 ^ k : Nat) : Int), bits, s, mo, inv] w fun e w' => ∃ v', e = .returned (.tuple #[v', .int .i64 0]) ∧ CxsAt w' v' (fourL xs ws (2 ^ k) bits s mo inv) ∧ Gr w w' := by
 obtain ⟨u, hu, hu1, hn64⟩ := quarter_units n k hL hk
 have h1 : 1 ≤ 2 ^ k := Nat.one_le_two_pow
 have hb : bits ≤ 29 := by have := hS.1.2; omega
 have hErr : ∀ W, CxsAt W (.slice px n cx) xs → CxsAt W (.slice pw n cw) ws → Calls Tryz.prog 186 #[.agg #[bits, s, mo, inv], .slice px n cx, .slice pw n cw, .int .i64 ((2 ^ k : Nat) : Int)] W fun e' w' => e' = .returned (.int .i64 0) ∧ Gr W w' := fun W h1 h2 =>
  fErr_c px pw cx cw xs ws n n _ true bits s mo 0 inv true true (by simp only [true_iff]; exact ⟨k, hk, rfl⟩) hx.symm (fun B hB _ => by rw [show B = bits by omega]; exact hw.symm) (.inr (.inr (.inr (.inr ⟨hL, rfl, rfl, hS, rfl, rfl, rfl⟩)))) W h1 h2
 obtain ⟨bx, ox, capx, hvv, _, hbx, _⟩ := hvx.at (by intro e; rw [e] at hn; simp at hn; omega)
 rw [hn] at hvv
 cases hvv
 obtain ⟨bw, ow, capw, hvv, _, hbw, _⟩ := hvw.at (by intro e; rw [e] at hm; simp at hm; omega)
 rw [hm] at hvv
 cases hvv
 generalize 2 ^ k = h at *
 have hxg : ∀ i, Bd 2147483648 (xs.getD i ⟨0, 0⟩) := by
  intro i
  rw [List.getD_eq_getElem?_getD]
  cases e : xs[i]? with
  | none => exact Bd.mk (by simp)
  | some a => exact (allIn_iff _ xs).1 hx a (List.mem_of_getElem? e)
 have hd : ∀ k i, 4 * h * k ≤ i → doneTo xs ws h bits s mo inv k i = xs.getD i ⟨0, 0⟩ := fun k i hi => by unfold doneTo; rw [if_neg (by omega)]
 refine (fPass_of bx ox bw ow cx cw xs ws n h u bits s mo inv hn hu h1 hu1 hn64 (doneTo xs ws h bits s mo inv) (fun i => hd 0 i (by omega)) (kh hErr) (kh fun k hk B W hne hv hbW hy => ?_) w hvx hvw hbw).mono ?_
 ·have hku : 4 * h * (k + 1) ≤ 4 * h * u := Nat.mul_le_mul_left _ hk
  have hks : 4 * h * (k + 1) = 4 * h * k + 4 * h := Nat.mul_succ _ _
  refine (fMake_c bits s mo inv hb (by have := hS.2.1.2; omega) hS.2.2.1 hS.2.2.2 B (4 * h * k) n h u n (4 * h) bw ow cw ws (doneTo xs ws h bits s mo inv k) h1 (by omega) hn64 hu hn64 hu1 hne (Nat.le_refl _) hm hw (fun i hi => by rw [hd k _ (by omega)]; exact hxg _) W hv hbW hy.lt hy).mono ?_;rintro e w' ⟨he, hr, hg⟩
  exact ⟨he, hr.eq (fun i _ => done_next xs ws h u bits s mo inv k i h1 hu1 (by rw [hn]; exact hu)), hg⟩
 ·rintro e w' ⟨v', he, hc, hg⟩
  refine ⟨v', he, ?_, hg⟩
  have e2 : fourL xs ws h bits s mo inv = (List.range n).map (doneTo xs ws h bits s mo inv u) := by
   unfold fourL;rw [hn];refine List.map_congr_left fun i hi => ?_
   have := List.mem_range.1 hi
   unfold doneTo;rw [if_pos (by omega)]
  rw [e2]
  exact hc
end
section
open Go.ChangeShapes Go.WideShapes Go.ChangeAt Go.RowKit
set_option linter.unusedVariables false
set_option linter.unusedSimpArgs false
set_option maxRecDepth 100000
set_option maxHeartbeats 16000000
theorem lo_of {fo lo ke sc mo : Int} (h : okF fo lo ke sc mo = true) : (lo = 2 ∧ (2 : Int) ^ lo.toNat = 4) ∨ (lo = 3 ∧ (2 : Int) ^ lo.toNat = 8) ∨ (lo = 4 ∧ (2 : Int) ^ lo.toNat = 16) ∨ (lo = 5 ∧ (2 : Int) ^ lo.toNat = 32) ∨ (lo = 6 ∧ (2 : Int) ^ lo.toNat = 64) := by
 have hf := okF_iff.1 h
 have hl : lo = 2 ∨ lo = 3 ∨ lo = 4 ∨ lo = 5 ∨ lo = 6 := by omega
 rcases hl with rfl | rfl | rfl | rfl | rfl <;> simp
theorem one_bd (fo : Int) : 0 ≤ oneB fo ∧ oneB fo ≤ 2147483648 := by unfold oneB; split <;> omega
theorem ftNum_c (fo lo ke sc mo : Int) (iv : Bool) (v : Value) (xs : List Gi) (w : World) (hv : CxsAt w v xs) :
 CW 104 #[v, .agg #[fo, lo, ke, sc, mo, iv]] w (.int .i64 (whyB fo lo ke sc mo false xs)) :=by
 delta CW
 obtain ⟨p, cap, rfl⟩ := hv.len
 unfold whyB
 by_cases hk : okF fo lo ke sc mo = true
 ·rw [if_pos hk]
  obtain ⟨b, hb, _⟩ := fb_of hk;have HC := kh fun W => check_c fo lo ke sc mo iv 0 (by rw [if_pos hk]) W
  by_cases hn : (xs.length : Int) = 2 ^ lo.toNat
  ·rw [if_pos hn]
   simp only [Bool.false_eq_true, if_false]
   exact ftNum_parts p xs.length cap xs fo lo ke sc mo _ (oneB fo) iv _ (lo_of hk) hn (one_bd fo).1 (one_bd fo).2 HC (kh fun W => ftOne_c fo b (oneB fo) lo ke sc mo iv hb W) (kh fun W h => ftWithin_c _ xs _ _ W h) w hv
  ·rw [if_neg hn]
   exact ftNum_size p xs.length cap fo lo ke sc mo _ iv (lo_of hk) hn HC w
 ·rw [if_neg hk]
  exact ftNum_plan _ fo lo ke sc mo iv (kh fun W => check_c fo lo ke sc mo iv 4 (by rw [if_neg hk]) W) w
section
variable {fo b p lo ke sc mo : Int} {L n B : Nat}
theorem ftAhead_c (H : PlF fo b p lo ke sc mo L n B) (v : Value) (xs : List Gi) (hm : ManB p xs) (hl : xs.length ≤ 1048576) (w : World) (hv : CxsAt w v xs) : Calls Tryz.prog (ahF sc) #[rcV fo sc, v] w fun e w' => e = .returned (.int .i64 (atFirst sc p xs)) ∧ Gr w w' := by
 obtain ⟨_, hsc, _⟩ := H.kinds
 have hp : p ≤ 2147483648 ∧ 0 ≤ p := by rcases H.sizes with h | h <;> omega
 rcases hsc with rfl | rfl | rfl
 ·exact ftAhead_0 v w
 ·have hg := maxG_le xs p hp.2 ((allIn_iff p xs).1 hm.all)
  have hr := room_le p (maxG xs)
  exact ftAhead_1 fo (maxG xs) (room p (maxG xs) : Nat) v (IntWalk.i64_in _ ⟨by omega, by omega⟩) w (kh fun W g => scanMax_yes v xs (allIn_more hm.all hp.1) hl W (hv.gr g)) (kh fun W => scanRoom_ok (maxG xs) fo b p H.fb (maxG_nonneg xs) hg W)
 ·exact ftAhead_2 fo v w
theorem ftShift_c (H : PlF fo b p lo ke sc mo L n B) (k : Int) (hk : k = 2 ∨ k = 4) (v : Value) (xs : List Gi) (hx : allIn p xs = true) (hl : xs.length ≤ 1048576) (w : World) (hv : CxsAt w v xs) : Calls Tryz.prog (shF sc) #[rcV fo sc, v, k] w fun e w' => e = .returned (.int .i64 (shOf sc k p xs)) ∧ Gr w w' := by
 obtain ⟨_, hsc, _⟩ := H.kinds
 have hp : p ≤ 2147483648 ∧ 0 ≤ p := by rcases H.sizes with h | h <;> omega
 rcases hsc with rfl | rfl | rfl
 ·exact ftShift_0 v k hk w
 ·have hg := maxG_le xs p hp.2 ((allIn_iff p xs).1 hx)
  exact ftShift_1 fo (maxG xs) _ k v w (kh fun W g => scanMax_yes v xs (allIn_more hx hp.1) hl W (hv.gr g)) (kh fun W => scanPre_ok k (maxG xs) fo b p H.fb hk (maxG_nonneg xs) hg W)
 ·exact ftShift_2 fo k v w
theorem ftFitted_c (H : PlF fo b p lo ke sc mo L n B) (v : Value) (ys : List Gi) (hl : ys.length ≤ 1048576) (w : World) (hv : CxsAt w v ys) : Calls Tryz.prog (fiF sc) #[rcV fo sc, v] w fun e w' => ∃ v', e = .returned (.tuple #[v', .bool (if sc = 2 then ys.any (offG p) else false)]) ∧ CxsAt w' v' (if sc = 2 then ys.map (clampG p) else ys) ∧ Gr w w' := by
 obtain ⟨_, hsc, _⟩ := H.kinds
 rcases hsc with rfl | rfl | rfl
 ·exact (ftFitted_0 v w).mono fun e w' ⟨h, g⟩ => ⟨v, h, hv.gr g, g⟩
 ·exact (ftFitted_1 fo v w).mono fun e w' ⟨h, g⟩ => ⟨v, h, hv.gr g, g⟩
 ·exact ftFitted_2 fo p v ys hl (kh fun x W => clamp_c fo b p x H.fb W) w hv
theorem ft_methods (hsc : sc = 0 ∨ sc = 1 ∨ sc = 2) (fo : Int) : (∀ n W, (method (n + 1) (scT sc) (rcV fo sc) "headroom/fft.ahead").run Tryz.prog W = .ok (ahF sc, rcV fo sc) W) ∧ (∀ n W, (method (n + 1) (scT sc) (rcV fo sc) "headroom/fft.shift").run Tryz.prog W = .ok (shF sc, rcV fo sc) W) ∧
 (∀ n W, (method (n + 1) (scT sc) (rcV fo sc) "headroom/fft.fitted").run Tryz.prog W = .ok (fiF sc, rcV fo sc) W) ∧ Enters (ahF sc) ∧ Enters (shF sc) ∧ Enters (fiF sc) := by
 rcases hsc with rfl | rfl | rfl <;> exact ⟨fun _ _ => by kernel_rfl, fun _ _ => by kernel_rfl, fun _ _ => by kernel_rfl, fun _ _ => by kernel_rfl, fun _ _ => by kernel_rfl, fun _ _ => by kernel_rfl⟩
theorem ps_enters (k : Int) : Enters (psF k) := by unfold psF; split <;> exact fun _ _ => by kernel_rfl
theorem two_pow (n h u m : Nat) (hn : n ≤ 64) (hL : n = 4 ∨ n = 8 ∨ n = 16 ∨ n = 32 ∨ n = 64) (h1 : 1 ≤ h) (u1 : 1 ≤ u) (hm : m = 2 ∨ m = 4) (e : n = m * h * u) : ∃ k, h = 2 ^ k := by
 have hh : h ≤ 64 := by
  have : h * 1 ≤ h * u := Nat.mul_le_mul_left h u1
  rw [Nat.mul_assoc] at e
  rcases hm with rfl | rfl <;> omega
 have hd : h ∣ 64 := by
  have : h ∣ n := ⟨m * u, by rw [e, Nat.mul_comm m h, Nat.mul_assoc]⟩
  refine Nat.dvd_trans this ?_
  rcases hL with rfl | rfl | rfl | rfl | rfl <;> decide
 have key : ∀ h : Fin 65, h.val ∣ 64 → ∃ k : Fin 7, h.val = 2 ^ k.val := by decide +kernel
 obtain ⟨k, hk⟩ := key ⟨h, by omega⟩ hd
 exact ⟨k.val, hk⟩
theorem ftPass_c (H : PlF fo b p lo ke sc mo L n B) (iv : Bool) (q : Gi) (hq : Fits n q) (px pw : Option Addr) (cx cw : Nat) (xs : List Gi) (hl : xs.length = n) (hx : allIn p xs = true) (s : Int) (s0 : 0 ≤ s) (s3 : s ≤ 3)
 (w : World) (hvx : CxsAt w (.slice px xs.length cx) xs) (hvw : CxsAt w (.slice pw (tw n B).length cw) (tw n B)) :
 Calls Tryz.prog (psF q.re) #[.slice px xs.length cx, .slice pw (tw n B).length cw, q.im, B, s, mo, iv] w fun e w' => ∃ v', e = .returned (.tuple #[v', .int .i64 0]) ∧ CxsAt w' v' (passV B mo iv (tw n B) xs s q) ∧ Gr w w' := by
 obtain ⟨hmo, _⟩ := H.kinds
 obtain ⟨⟨l2, l6⟩, h4, hlen⟩ := H.lens
 have hp : p ≤ 2147483648 ∧ B ≤ 29 := by rcases H.sizes with h | h <;> omega
 have hs : ((s.toNat : Nat) : Int) = s := Int.toNat_of_nonneg s0
 obtain ⟨re, im⟩ := q
 obtain ⟨hre, h, u, him, h1, u1, hn⟩ := hq
 simp only at hre him hn
 subst him
 have hL : n = 4 ∨ n = 8 ∨ n = 16 ∨ n = 32 ∨ n = 64 := by unfold IsLen at hlen; omega
 have hI : ∃ L, IsLog (n : Int) L := ⟨L, l2, l6, by rw [H.n]⟩
 have hS : SetsOk2 B s.toNat mo := ⟨by omega, by omega, by omega, by omega⟩
 rw [tw_len] at hvw ⊢
 rw [hl] at hvx ⊢
 unfold passV
 simp only [Int.toNat_natCast]
 rcases hre with rfl | rfl
 ·have hn' : n = 2 * h * u := Int.ofNat.inj (by simpa using hn)
  obtain ⟨k, rfl⟩ := two_pow n h u 2 h4.2 hL h1 u1 (.inl rfl) hn'
  have hk : 2 ^ k < n := by
   have : 2 ^ k * 1 ≤ 2 ^ k * u := Nat.mul_le_mul_left _ u1
   rw [Nat.mul_assoc] at hn'
   omega
  have h := twoPass_yes px pw cx cw xs (tw n B) n k B s.toNat mo iv hl (tw_len n B) hI hk hS (allIn_more hx hp.1) (tw_in H) w hvx hvw;rw [hs] at h;rw [if_neg (by decide)]
  exact h
 ·have hn' : n = 4 * h * u := Int.ofNat.inj (by simpa using hn)
  obtain ⟨k, rfl⟩ := two_pow n h u 4 h4.2 hL h1 u1 (.inr rfl) hn'
  have hk : 4 * 2 ^ k ≤ n := by
   have : 2 ^ k * 1 ≤ 2 ^ k * u := Nat.mul_le_mul_left _ u1
   rw [Nat.mul_assoc] at hn'
   omega
  have h := fourPass_yes px pw cx cw xs (tw n B) n k B s.toNat mo iv hl (tw_len n B) hI hk hS (allIn_more hx hp.1) (tw_in H) w hvx hvw;rw [hs] at h;rw [if_pos rfl]
  exact h
theorem ftBehind_c (H : PlF fo b p lo ke sc mo L n B) (iv : Bool) (q : Gi) (hq : Fits n q) (k : BV) (hl : k.X.length = n) (hx : allIn p k.X = true) (hsh : k.sh.length ≤ 20) (e0 : -1000 ≤ k.ex) (e1 : k.ex ≤ 1000)
 (mB : Nat) (vw vx vs : Value) (w : World) (hvx : CxsAt w vx k.X) (hvs : NumsAt w vs k.sh) (hvw : CxsAt w vw (tw n B)) (hm : KMap w mB) :
 Calls Tryz.prog 66 #[.agg #[fo, lo, ke, sc, mo, iv, .iface (scT sc) (rcV fo sc), .map (some mB), vw, B], .agg #[vx, k.ex, k.sat, vs], .agg #[q.re, q.im]] w fun e w' =>
  ∃ ux us, e = .returned (.agg #[ux, (nextB sc mo p iv B (tw n B) k q).ex, (nextB sc mo p iv B (tw n B) k q).sat, us]) ∧ CxsAt w' ux (nextB sc mo p iv B (tw n B) k q).X ∧ NumsAt w' us (nextB sc mo p iv B (tw n B) k q).sh ∧ Gr w w' ∧ ∀ b, us.ownBlock = some b → w.heap.size ≤ b := by
 obtain ⟨bp, bc, rfl⟩ := hvx.len
 obtain ⟨sp, sl, rfl⟩ := hvs.len
 obtain ⟨wp, wc, rfl⟩ := hvw.len
 obtain ⟨_, h4, _⟩ := H.lens
 obtain ⟨_, hsc, _⟩ := H.kinds
 obtain ⟨X, ex, sat, sh⟩ := k
 simp only at hl hx hsh e0 e1 hvx hvs ⊢
 have hsb := shOf_bd sc q.re p X
 obtain ⟨_, m2, m3, _, n2, n3⟩ := ft_methods hsc fo
 have hY : (passV B mo iv (tw n B) X (shOf sc q.re p X) q).length = n := by rw [passV_len]; exact hl
 have h := ftBehind_of X (tw n B) (passV B mo iv (tw n B) X (shOf sc q.re p X) q) _ sh fo lo ke sc mo (shOf sc q.re p X) B ex (ex + shOf sc q.re p X) q.re q.im iv sat _ bp sp wp bc sl wc mB hsh (scT sc) (rcV fo sc) (shF sc) (fiF sc) (psF q.re) n2 n3 (ps_enters _) m2 m3
  (kh fun W hm => by
   have := hm.look q.re hq.1
   unfold passF at this;unfold psF
   split <;> rename_i hc <;> simpa only [hc, if_true, if_false] using this) (IntWalk.wrap64_in _ ⟨by omega, by omega⟩)
  (kh fun W h => ftShift_c H q.re hq.1 _ X hx (by omega) W h) (kh fun W h h' => ftPass_c H iv q hq bp wp bc wc X hl hx _ hsb.1 hsb.2 W h h') (kh fun v W h => ftFitted_c H v _ (by omega) W h) w hvx hvs hvw hm
 refine h.mono fun e w' ⟨ux, us, h1, h2, h3, h4, h5⟩ => ⟨ux, us, ?_, ?_, h3, h4, h5⟩
 ·rw [h1]
  simp only [nextB, stepV]
  by_cases h2 : sc = 2
  ·rw [if_pos h2, if_pos h2]
  ·rw [if_neg h2, if_neg h2, Bool.or_false]
 ·simp only [nextB, stepV]
  exact h2
theorem ftTransform_c (H : PlF fo b p lo ke sc mo L n B) (iv : Bool) (w : World) :
 Calls Tryz.prog 65 #[.agg #[fo, lo, ke, sc, mo, iv]] w fun e w' => ∃ B' v, e = .returned (.agg #[fo, lo, ke, sc, mo, iv, .iface (scT sc) (rcV fo sc), .map (some B'), v, B]) ∧ KMap w' B' ∧ CxsAt w' v (tw n B) ∧ Gr w w' := by
 obtain ⟨⟨l2, l6⟩, h4, _⟩ := H.lens
 refine ftOf_c fo lo ke sc mo b B _ _ iv (tw n B) (by rw [tw_len]; omega) ?_ (kh fun W => calls_gr (bits_c fo b p H.fb W)) (kh fun W => ?_) (kh fun W => ftScale_c fo lo ke sc mo iv W) (kh fun W => ftKernels_c W) w
 ·rw [H.bits, show ((B : Int) + 2 - 2) = B by omega]
  exact IntWalk.i64_in _ ⟨by omega, by rcases H.sizes with h | h <;> omega⟩
 ·have h := rTwiddles_ok lo n fo b p (by have := H.lo; omega) (by have := H.lo; omega) (by rw [H.lo, H.n, Int.toNat_natCast]; simp) H.fb W
  rw [show (56 - (b - 2)).toNat = 56 - B by have := H.bits; omega] at h
  exact h
theorem ftReady_c (H : PlF fo b p lo ke sc mo L n B) (iv : Bool) (v : Value) (xs : List Gi) (hwhy : whyB fo lo ke sc mo false xs = 0) (hl : xs.length = n) (hm : ManB p xs) (w : World) (hv : CxsAt w v xs) :
 Calls Tryz.prog 60 #[v, .agg #[fo, lo, ke, sc, mo, iv]] w fun e w' =>
  ∃ u, e = .returned (.tuple #[.agg #[u, (readyB ke sc mo p L xs).ex, false, .slice none 0 0], .int .i64 0]) ∧ CxsAt w' u (readyB ke sc mo p L xs).X ∧ Gr w w' := by
 obtain ⟨hmo, hsc, hks, _⟩ := H.kinds
 obtain ⟨⟨l2, l6⟩, h4, _⟩ := H.lens
 have hl2 : xs.length = 2 ^ L := by rw [hl, H.n]
 have hfl := flipL_len L xs
 obtain ⟨m1, _, _, n1, _, _⟩ := ft_methods hsc fo
 have hb := first_bd sc p xs
 have hN := fun W (h : CxsAt W v xs) => ftNum_c fo lo ke sc mo iv v xs W h
 rw [hwhy] at hN
 have HSH : ∀ ys : List Gi, ManB p ys → ys.length ≤ 1048576 → ∀ (u : Value) W, CxsAt W u ys → Calls Tryz.prog 107 #[u, (atFirst sc p xs), mo] W fun e w' => ∃ u, e = .returned (.tuple #[u, .int .i64 0]) ∧ CxsAt w' u (ys.map (shG (atFirst sc p xs) mo)) ∧ Gr W w' :=
  fun ys h1 h2 u W h3 => scanShifted_ok u ys _ mo (by omega) (by omega) (by omega) (by omega) (man_wf H h1) (first_room H h1) h2 W h3
 unfold readyB
 by_cases hke : ke = 2
 ·subst hke
  rw [if_pos rfl]
  exact ftReady_split v xs _ fo lo sc mo _ iv _ _ _ n1 m1 (kh hN) (kh fun W => ftScale_c fo lo 2 sc mo iv W) (kh fun W h => ftAhead_c H v xs hm (by omega) W h) (kh (HSH xs hm (by omega))) w hv
 ·rw [if_neg hke]
  have h64 := pow_le L l6
  exact ftReady_row v xs (flipL L xs) _ fo lo ke sc mo _ iv _ _ _ n1 m1 hke (by simp [hke]) (kh hN) (kh fun W => ftScale_c fo lo ke sc mo iv W) (kh fun W h => ftAhead_c H v xs hm (by omega) W h) (kh fun W h => flip08_ok v xs L l2 l6 hl2 W h) (kh (HSH (flipL L xs) (flip_man hl2 hm) (by omega))) w hv
theorem ftRun_c (H : PlF fo b p lo ke sc mo L n B) (iv : Bool) (v : Value) (xs : List Gi) (hwhy : whyB fo lo ke sc mo false xs = 0) (hl : xs.length = n) (hm : ManB p xs) (w : World) (hv : CxsAt w v xs) :
 Calls Tryz.prog 25 #[v, .agg #[fo, lo, ke, sc, mo, iv]] w fun e w' =>
  ∃ vx vs, e = .returned (.tuple #[.agg #[vx, (runB15 ke lo sc mo p iv L B (tw n B) xs).ex, (runB15 ke lo sc mo p iv L B (tw n B) xs).sat, vs], .int .i64 0]) ∧ CxsAt w' vx (runB15 ke lo sc mo p iv L B (tw n B) xs).X ∧ NumsAt w' vs (runB15 ke lo sc mo p iv L B (tw n B) xs).sh ∧ Gr w w' := by
 obtain ⟨hmo, hsc, hks, _⟩ := H.kinds
 obtain ⟨⟨l2, l6⟩, h4, _⟩ := H.lens
 have HR := kh fun W (h : CxsAt W v xs) => ftReady_c H iv v xs hwhy hl hm W h
 unfold runB15
 by_cases hke : ke = 2
 ·have hs := hks hke
  subst hke;subst hs;rw [if_pos rfl];have hrl := ready_len H hl
  have hh : allIn (p / 2) (readyB 2 0 mo p L xs).X = true := by
   rw [allIn_bd]
   intro y hy
   obtain ⟨a, ha, rfl⟩ := ready_mem H hl hy
   exact bd_iff.2 ((ready_part H hm a ha).2 rfl)
  have hy : RunYes n fo mo (readyB 2 0 mo p L xs).X L B := ⟨⟨l2, l6, by rw [H.n]⟩, by omega, by
   rcases H.sizes with ⟨h1, _, h2, h3⟩ | ⟨h1, _, h2, h3⟩
   ·left; subst h2; exact ⟨h1, h3, hh⟩
   ·right; subst h2; exact ⟨h1, h3, hh⟩⟩
  have h := ftRun_split v xs (readyB 2 0 mo p L xs).X (sL B mo iv (tw n B) L (readyB 2 0 mo p L xs).X) fo lo 0 mo 1 (1 + lo) iv HR (kh fun u W hu => ?_) w hv
  ·exact h.mono fun e w' ⟨vx, h1, h2, h3⟩ => ⟨vx, _, h1, h2, NumsAt.nil _, h3⟩
  ·obtain ⟨px, cx, rfl⟩ := hu.len
   refine ftSplit_c _ _ (readyB 2 0 mo p L xs).X (sL B mo iv (tw n B) L (readyB 2 0 mo p L xs).X) fo lo 2 0 mo 1 (1 + lo) iv false (IntWalk.wrap64_in _ ⟨by have := H.lo; omega, by have := H.lo; omega⟩) (kh fun W h => ?_) W hu;rw [hrl] at h ⊢
   exact sRun_yes px cx n fo mo iv _ L B hrl hy W h
 ·rw [if_neg hke]
  obtain ⟨h6, hfit⟩ := passL_len7 H;refine ftRun_passes v xs (passL ke lo) (tw n B) (behindB ke lo sc mo p iv L B (tw n B) xs) fo lo ke sc mo B iv (scT sc) (rcV fo sc) hke (by simp [hke]) (by omega) rfl rfl HR (kh fun W => passes_ok fo lo ke sc mo n iv H.ok W) (kh fun W => ftTransform_c H iv W) (kh fun j q hq B' v vx vs W hvx hvs hvw hK => ?_) w hv;have hj := (List.getElem?_eq_some_iff.1 hq).1;obtain ⟨a1, a2⟩ := behind_man H iv hl hm j (by omega);obtain ⟨b1, b2, b3⟩ := behind_may H iv hl hm j (by omega);rw [behindB_next hq]
  exact ftBehind_c H iv q (hfit q (List.mem_of_getElem? hq)) _ a1 a2.all (by omega) (by omega) (by omega) B' v vx vs W hvx hvs hvw hK
end
theorem fftReady_said : FftSaid 60 readyF := by
 refine ⟨fun fo lo ke sc mo iv v xs h0 W hv => ?_, fun fo lo ke sc mo iv v xs y hy h0 W hv => ?_⟩
 ·obtain ⟨h1, h2, h3⟩ := why_yes h0
  exact (ftReady_c (plF_of h1) iv v xs h0 h2 (manB_iff.1 h3) W hv).mono fun e w' ⟨u, a, b, c⟩ => ⟨u, _, a, b, NumsAt.nil _, c⟩
 ·have hN := fun W (h : CxsAt W v xs) => ftNum_c fo lo ke sc mo iv v xs W h
  rw [hy] at hN
  exact ftReady_no v xs fo lo ke sc mo y iv h0 (by simp [h0]) (kh hN) W hv
theorem fftRun_said : FftSaid 25 runF := by
 refine ⟨fun fo lo ke sc mo iv v xs h0 W hv => ?_, fun fo lo ke sc mo iv v xs y hy h0 W hv => ?_⟩
 ·obtain ⟨h1, h2, h3⟩ := why_yes h0
  exact ftRun_c (plF_of h1) iv v xs h0 h2 (manB_iff.1 h3) W hv
 ·exact ftRun_no v xs fo lo ke sc mo y iv h0 (by simp [h0]) (kh fun W h => fftReady_said.2 fo lo ke sc mo iv v xs y hy h0 W h) W hv
end
section
open Go.ChangeShapes Go.WideShapes Go.ChangeAt Go.RowKit Go.MapKept
set_option linter.unusedVariables false
set_option linter.unusedSimpArgs false
set_option maxRecDepth 100000
set_option maxHeartbeats 16000000
def keyV (x : Int × Int) : Value := .agg #[.int .i64 x.1, .int .i64 x.2]
theorem und_map : ∃ k e, Tryz.prog.underlying 170 = some (.map k e) ∧ k = 173 ∧ e = 128 := ⟨_, _, by kernel_rfl, rfl, rfl⟩
theorem key_check (e : Bool) (x : Int × Int) (w : World) : (Instr.checkKey e 10000 173 (keyV x)).run Tryz.prog w = .ok () w := by kernel_rfl
theorem fields_kind : (Tryz.prog.fieldsOf 173).toList.map (fun f => (f.name, f.type, f.offset)) = [("kernel", 3, 0), ("scale", 3, 1)] := by kernel_rfl
theorem key_equal (x y : Int × Int) (w : World) : (Op.equal 173 (keyV x) (keyV y)).run Tryz.prog w = .ok (x == y) w := by
 obtain ⟨a, b⟩ := x
 obtain ⟨c, d⟩ := y
 rw [show ((a, b) == (c, d)) = ((a == c) && (b == d)) from rfl]
 refine (run_equalIn_struct w 9999 173 #[a, b] #[c, d] (by kernel_rfl) (by kernel_rfl)).trans ?_
 have h := fields_kind
 generalize (Tryz.prog.fieldsOf 173).toList = L at h ⊢
 obtain ⟨f, g, rfl⟩ : ∃ f g, L = [f, g] := by
  rcases L with _ | ⟨f, _ | ⟨g, _ | ⟨h3, L⟩⟩⟩
  ·simp at h
  ·simp at h
  ·exact ⟨f, g, rfl⟩
  ·simp only [List.map_cons, List.cons.injEq, reduceCtorEq, and_false] at h
 simp only [List.map_cons, List.map_nil, List.cons.injEq, Prod.mk.injEq, and_true] at h
 obtain ⟨⟨n1, t1, o1⟩, n2, t2, o2⟩ := h
 have p1 : ∀ (u v : Value) (w : World), (part 3 #[u, v] 0).run Tryz.prog w = .ok u w := fun _ _ _ => by kernel_rfl
 have p2 : ∀ (u v : Value) (w : World), (part 3 #[u, v] 1).run Tryz.prog w = .ok v w := fun _ _ _ => by kernel_rfl
 have q : ∀ a b : Int, (Op.equalIn 9999 3 (.int .i64 a) (.int .i64 b)).run Tryz.prog w = .ok (a == b) w := fun a b => run_equalIn_int w 9998 _ .i64 .i64 a b (by kernel_rfl)
 have s1 : ("kernel" = "_") = False := by simp
 have s2 : ("scale" = "_") = False := by simp
 cases h1 : (a == c) <;> cases h2 : (b == d) <;> simp [Op.eqFields, n1, n2, t1, t2, o1, o2, p1, p2, q, h1, h2, s1, s2]
def MapHas (W : World) (B : Nat) (ps : List ((Int × Int) × Value)) : Prop := ∃ es clk, W.heap[B]? = some (.map es clk) ∧ es.toList.map (fun e => (e.key, e.val)) = ps.map (fun p => (keyV p.1, p.2))
theorem MapHas.gr {W W' : World} {B : Nat} {ps : List ((Int × Int) × Value)} (h : MapHas W B ps) (g : Gr W W') : MapHas W' B ps := by
 obtain ⟨es, clk, hb, he⟩ := h
 exact ⟨es, clk, (g.block (Array.getElem?_eq_some_iff.1 hb).1).trans hb, he⟩
theorem MapHas.lt {W : World} {B : Nat} {ps : List ((Int × Int) × Value)} (h : MapHas W B ps) : B < W.heap.size := by
 obtain ⟨es, clk, hb, he⟩ := h
 exact (Array.getElem?_eq_some_iff.1 hb).1
theorem find_asking (x : Int × Int) (w : World) : ∀ (l : List MapEntry) (ps : List ((Int × Int) × Value)) (i : Nat), l.map (fun e => (e.key, e.val)) = ps.map (fun p => (keyV p.1, p.2)) →
 ∃ r, (Instr.findAsking 173 (keyV x) l i).run Tryz.prog w = .ok r w ∧ r.map (·.2) = (ps.find? (fun p => x == p.1)).map (·.2) := by
 intro l
 induction l with
 | nil =>
   intro ps i h
   cases ps with
   | nil => exact ⟨none, rfl, rfl⟩
   | cons p ps => cases h
 | cons e l ih =>
   intro ps i h
   cases ps with
   | nil => cases h
   | cons p ps =>
     simp only [List.map_cons, List.cons.injEq, Prod.mk.injEq] at h;obtain ⟨⟨hk, hv⟩, ht⟩ := h;have he := key_equal x p.1 w;rw [← hk] at he
     cases hx : (x == p.1)
     ·obtain ⟨r, hr, hm⟩ := ih ps (i + 1) ht
      refine ⟨r, ?_, ?_⟩
      ·simp [Instr.findAsking, he, hx, hr, Result.andThen]
      ·rw [hm, List.find?_cons, hx]
     ·refine ⟨some (i, e.val), ?_, ?_⟩
      ·simp [Instr.findAsking, he, hx, Result.andThen]
      ·rw [List.find?_cons, hx, hv]; rfl
theorem run_find (x : Int × Int) (w : World) (l : List MapEntry) (ps : List ((Int × Int) × Value)) (h : l.map (fun e => (e.key, e.val)) = ps.map (fun p => (keyV p.1, p.2))) :
 ∃ r, (Instr.findKey 173 (keyV x) l).run Tryz.prog w = .ok r w ∧ r.map (·.2) = (ps.find? (fun p => x == p.1)).map (·.2) := by
 cases l with
 | nil =>
   cases ps with
   | nil => exact ⟨none, by kernel_rfl, rfl⟩
   | cons p ps => cases h
 | cons e l =>
   obtain ⟨r, hr, hm⟩ := find_asking x w (e :: l) ps 0 h;refine ⟨r, ?_, hm⟩;rw [← hr]
   have hn : ∀ d, Tryz.prog.underlying 173 = some d → Instr.findNow d (keyV x) (e :: l) 0 = none := by
    intro d hd
    have hfs : Tryz.prog.underlying 173 = some (.struct (Tryz.prog.fieldsOf 173)) := by kernel_rfl
    rw [hfs] at hd
    cases hd
    simp [Instr.findNow, Instr.sameNow]
   have hd : Tryz.prog.underlying 173 = some (.struct (Tryz.prog.fieldsOf 173)) := by kernel_rfl
   simp [Instr.findKey, run_underlying hd, hn _ hd, Result.andThen]
theorem zero_rule (w : World) : (zeroValue 128).run Tryz.prog w = .ok (.agg #[.int .i64 0, .int .i64 0, .int .i64 0, .int .i64 0]) w := by kernel_rfl
def zeroR : Value := .agg #[.int .i64 0, .int .i64 0, .int .i64 0, .int .i64 0]
theorem run_lookup (x : Int × Int) (w : World) (B : Nat) (ps : List ((Int × Int) × Value)) (h : MapHas w B ps) (ok : Bool) :
 (Instr.lookup 170 (.map (some B)) (keyV x) ok).run Tryz.prog w =
  .ok (if ok = true then .tuple #[((ps.find? (fun p => x == p.1)).map (·.2)).getD zeroR, (ps.find? (fun p => x == p.1)).isSome] else ((ps.find? (fun p => x == p.1)).map (·.2)).getD zeroR) w := by
 obtain ⟨es, clk, hb, he⟩ := h
 obtain ⟨r, hr, hm⟩ := run_find x w es.toList ps he
 obtain ⟨k, e, hu, rfl, rfl⟩ := und_map
 have hz := zero_rule w
 cases hf : ps.find? (fun p => x == p.1) with
 | none =>
   rw [hf] at hm
   cases r with
   | some r => cases hm
   | none => cases ok <;> simp [Instr.lookup, run_underlying hu, MapKept.run_getObj_map hb, key_check, hr, hz, Result.andThen, zeroR]
 | some p =>
   rw [hf] at hm
   cases r with
   | none => cases hm
   | some r =>
     simp only [Option.map_some, Option.some.injEq] at hm;obtain ⟨i, v⟩ := r
     simp only at hm
     subst hm
     cases ok <;> simp [Instr.lookup, run_underlying hu, MapKept.run_getObj_map hb, key_check, hr, Result.andThen]
def rulesN : List ((Int × Int) × (Int × Int × Int × Int)) := [((2, 0), (2, 224, 1, 1)), ((2, 1), (2, 224, 0, 2)), ((2, 2), (2, 608, 0, 0)), ((4, 0), (4, 288, 2, 2)), ((4, 1), (4, 288, 0, 3)), ((4, 2), (4, 1632, 0, 0))]
def ruleR (r : Int × Int × Int × Int) : Value := .agg #[.int .i64 r.1, .int .i64 r.2.1, .int .i64 r.2.2.1, .int .i64 r.2.2.2]
def entR (p : (Int × Int) × (Int × Int × Int × Int)) : (Int × Int) × Value := (p.1, ruleR p.2)
def rulesL : List ((Int × Int) × Value) := rulesN.map entR
def ruleOf (x : Int × Int) : Option (Int × Int × Int × Int) := (rulesN.find? (fun p => x == p.1)).map (·.2)
def RulesAt (W : World) (B : Nat) : Prop := ∃ ps, MapHas W B ps ∧ ∀ p, p ∈ ps ↔ p ∈ rulesL
theorem RulesAt.gr {W W' : World} {B : Nat} (h : RulesAt W B) (g : Gr W W') : RulesAt W' B := by
 obtain ⟨ps, hm, hp⟩ := h
 exact ⟨ps, hm.gr g, hp⟩
theorem RulesAt.lt {W : World} {B : Nat} (h : RulesAt W B) : B < W.heap.size := by
 obtain ⟨ps, hm, hp⟩ := h
 exact hm.lt
theorem rules_keys : ∀ p q, p ∈ rulesL → q ∈ rulesL → p.1 = q.1 → p = q := by
 intro p q hp hq h
 simp only [rulesL, rulesN, entR, List.map_cons, List.map_nil, List.mem_cons, List.not_mem_nil, or_false] at hp hq
 rcases hp with rfl | rfl | rfl | rfl | rfl | rfl <;> rcases hq with rfl | rfl | rfl | rfl | rfl | rfl <;> first | rfl | (simp at h)
theorem find_rules (ps : List ((Int × Int) × Value)) (h : ∀ p, p ∈ ps ↔ p ∈ rulesL) (x : Int × Int) : ps.find? (fun p => x == p.1) = rulesL.find? (fun p => x == p.1) := by
 cases hf : ps.find? (fun p => x == p.1) with
 | none =>
   rw [List.find?_eq_none] at hf
   symm
   rw [List.find?_eq_none]
   exact fun p hp => hf p ((h p).2 hp)
 | some p =>
   have hp := (h p).1 (List.mem_of_find?_eq_some hf);have hx := List.find?_some hf
   cases hg : rulesL.find? (fun p => x == p.1) with
   | none =>
     rw [List.find?_eq_none] at hg
     exact absurd hx (hg p hp)
   | some q =>
     have hq := List.mem_of_find?_eq_some hg;have hy := List.find?_some hg;simp only [beq_iff_eq] at hx hy;rw [rules_keys p q hp hq (hx.symm.trans hy)]
theorem find_ruleOf (x : Int × Int) : rulesL.find? (fun p => x == p.1) = (rulesN.find? (fun p => x == p.1)).map entR := by
 unfold rulesL
 rw [List.find?_map]
 rfl
theorem RulesAt.look {W : World} {B : Nat} (h : RulesAt W B) (k s : Int) (ok : Bool) :
 (Instr.lookup 170 (.map (some B)) (.agg #[k, s]) ok).run Tryz.prog W =
  .ok (if ok = true then .tuple #[((ruleOf (k, s)).map ruleR).getD zeroR, (ruleOf (k, s)).isSome] else ((ruleOf (k, s)).map ruleR).getD zeroR) W := by
 obtain ⟨ps, hm, hp⟩ := h
 have := run_lookup (k, s) W B ps hm ok
 rw [find_rules ps hp, find_ruleOf] at this
 unfold ruleOf
 cases hf : rulesN.find? (fun p => (k, s) == p.1) with
 | none => rw [hf] at this; exact this
 | some p => rw [hf] at this; exact this
section
variable {ops : Array Oper} {Q : Exit → Act → World → Prop} {md : Region.Mode}
end
end
section
open Go.ChangeShapes Go.WideShapes Go.ChangeAt Go.RowKit Go.Joins
set_option linter.unusedVariables false
set_option linter.unusedSimpArgs false
set_option maxRecDepth 100000
set_option maxHeartbeats 16000000
theorem array6 {α : Type} {cs : Array α} (h : cs.size = 6) : ∃ c0 c1 c2 c3 c4 c5, cs = #[c0, c1, c2, c3, c4, c5] := by
 obtain ⟨l⟩ := cs
 match l, h with
 | [c0, c1, c2, c3, c4, c5], _ => exact ⟨c0, c1, c2, c3, c4, c5, rfl⟩
theorem cellsPlan : Tryz.prog.cellsOf 24 = 6 := by kernel_rfl
theorem plan_open {H : Type} {enc : TypeId × Value → H} {W : World} {r : Reach} {b0 : Nat} {v : Value} {d : DataW H} {p : List MemPlace} (hv : Value.okWide Tryz.prog W r b0 24 v) (h : DataW.Trod enc Tryz.prog W 0 (fun _ => true) true 24 v d p) :
 ∃ (fo lo ke sc mo : Int) (iv : Bool), v = .agg #[fo, lo, ke, sc, mo, iv] ∧ p = [] ∧
  (∀ (W' : World) (sp : Nat → Bool), DataW.Trod enc Tryz.prog W' 0 sp true 24 v d []) ∧ ((Lit.int .i64 fo).wf = true ∧ (Lit.int .i64 lo).wf = true ∧ (Lit.int .i64 ke).wf = true ∧ (Lit.int .i64 sc).wf = true ∧ (Lit.int .i64 mo).wf = true) := by
 obtain ⟨cs, rfl, hsz⟩ := okWide_struct Tryz.underlying24 hv
 obtain ⟨c0, c1, c2, c3, c4, c5, rfl⟩ := array6 (hsz.trans cellsPlan)
 obtain ⟨fuel, hf⟩ := h
 obtain ⟨xs, n, _, hx, hl, hlen, hf⟩ := DataW.trod_struct Tryz.underlying24 hf
 have k : Tryz.prog.cellsOf 3 = 1 := by kernel_rfl
 have kb : Tryz.prog.cellsOf 4 = 1 := by kernel_rfl
 match xs, hlen with
 | [y0, y1, y2, y3, y4, y5], _ =>
   have h0 := hf 0 _ rfl;have h1 := hf 1 _ rfl;have h2 := hf 2 _ rfl;have h3 := hf 3 _ rfl;have h4 := hf 4 _ rfl;have h5 := hf 5 _ rfl
   simp [k, kb, Value.cells] at h0 h1 h2 h3 h4 h5
   obtain ⟨x0, e0, rfl, w0⟩ := DataW.trod_int Tryz.underlying3 h0;obtain ⟨x1, e1, rfl, w1⟩ := DataW.trod_int Tryz.underlying3 h1;obtain ⟨x2, e2, rfl, w2⟩ := DataW.trod_int Tryz.underlying3 h2;obtain ⟨x3, e3, rfl, w3⟩ := DataW.trod_int Tryz.underlying3 h3;obtain ⟨x4, e4, rfl, w4⟩ := DataW.trod_int Tryz.underlying3 h4;obtain ⟨x5, e5, rfl⟩ := DataW.trod_bool Tryz.underlying4 h5
   simp at e0 e1 e2 e3 e4 e5
   subst e0 e1 e2 e3 e4 e5;simp only [Prod.mk.injEq] at hx;obtain ⟨rfl, hp⟩ := hx;refine ⟨x0, x1, x2, x3, x4, x5, rfl, by simpa using hp, fun W' sp => ⟨2, ?_⟩, w0, w1, w2, w3, w4⟩
   have := trod_struct_mk (enc := enc) (w := W') (base := 0) (spare := sp) (held := true) (n := 1) (cs := [.int .i64 x0, .int .i64 x1, .int .i64 x2, .int .i64 x3, .int .i64 x4, .bool x5]) (xs := [(.lit (.int .i64 x0), []), (.lit (.int .i64 x1), []), (.lit (.int .i64 x2), []), (.lit (.int .i64 x3), []), (.lit (.int .i64 x4), []), (.lit (.bool x5), [])]) Tryz.underlying24 (by simp [cellsPlan])
    (by simp [k, kb, DataW.trod, Tryz.underlying3, Tryz.underlying4, w0, w1, w2, w3, w4])
   simpa [Value.cells] using this
end
section
open Go.ChangeShapes Go.WideShapes Go.ChangeAt Go.RowKit
set_option linter.unusedVariables false
set_option linter.unusedSimpArgs false
set_option maxRecDepth 100000
set_option maxHeartbeats 16000000
theorem MapHas.made (w : World) : MapHas (w.alloc (.map #[] 0)) w.heap.size [] := ⟨#[], 0, (MapKept.heap_alloc w _).1, rfl⟩
end
end Go.Proofs.YtdignnmpfkgkoaaGreat
