import Derived.Laws.Cover1
import Derived.Handy
import Derived.MapKept
import Derived.Test.YtdignnmpfkgkoaaGreatRealBinsS7
namespace Go.Proofs.YtdignnmpfkgkoaaGreat
section
open Go.ChangeShapes Go.WideShapes Go.ChangeAt Go.RowKit
set_option linter.unusedVariables false
set_option maxRecDepth 100000
set_option maxHeartbeats 16000000
theorem sMayBe_c (a : Int) (w : World) :
 Calls Tryz.prog 108 #[a] w fun e w' => e = .returned (.bool (inB 2147483648 a)) ∧ w' = w := by
 by_cases h0 : -2147483648 ≤ a
 ·by_cases h1 : a ≤ 2147483648
  ·rw [inB_true h0 h1]
   go_in;go_wp2_with fail
   go_ret
   exact ⟨rfl, rfl⟩
  ·rw [inB_false (.inr (by omega))]
   go_in;go_wp2_with fail
   go_ret
   exact ⟨by simp, rfl⟩
 ·rw [inB_false (.inl (by omega))]
  go_in;go_wp2_with fail
  go_ret
  exact ⟨by simp, rfl⟩
theorem sGreatest_c (B : Nat) (m re im : Int) (h0 : 0 ≤ m) (h1 : m ≤ 2147483648) (r0 : -2147483648 ≤ re ∧ re ≤ 2147483648) (i0 : -2147483648 ≤ im ∧ im ≤ 2147483648) (w : World)
 (hB : B < w.heap.size) (c0 : w.cell? ⟨B, 0, none⟩ = some (.int .i64 m)) (c1 : w.cell? ⟨B, 1, none⟩ = some (.int .i64 re)) (c2 : w.cell? ⟨B, 2, none⟩ = some (.int .i64 im)) :
 Calls Tryz.prog 109 #[.slice (some ⟨B, 0, none⟩) 3 3] w fun e w' => e = .returned (.int .i64 (max (max m (absI re)) (absI im))) ∧ w' = w := by
 obtain ⟨p, hp⟩ : ∃ p, absI re = p := ⟨_, rfl⟩
 obtain ⟨q, hq⟩ : ∃ q, absI im = q := ⟨_, rfl⟩
 have HP := kh (show (re < 0 ∧ p = -re) ∨ (0 ≤ re ∧ p = re) by rw [← hp]; unfold absI; split <;> omega)
 have HQ := kh (show (im < 0 ∧ q = -im) ∨ (0 ≤ im ∧ q = im) by rw [← hq]; unfold absI; split <;> omega)
 rw [hp, hq]
 clear hp hq
 go_in
 go_wp2_with fail
 refine wp_loop_rounds 4 ?_
 rw [rounds_succ]
 go_wp2_with fail
 all_goals
  rw [rounds_succ];go_wp2_with fail
 all_goals
  rw [rounds_succ];go_wp2_with fail
 all_goals
  rw [rounds_succ];go_wp2_with fail
 all_goals
  go_ret
  have hp := HP.out;have hq := HQ.out
  exact ⟨congrArg (fun z => Ending.returned (.int .i64 z)) (by omega), rfl⟩
theorem sBits_ok (m f b p : Int) (H : FB f b p) (h0 : 0 ≤ m) (h1 : m ≤ p) (w : World) :
 Calls Tryz.prog 110 #[m, f] w fun e w' => e = .returned (.tuple #[b, .int .i64 0]) ∧ w' = w := by
 have HB := kh (bits_c f b p H)
 rcases H with ⟨rfl, rfl, rfl⟩ | ⟨rfl, rfl, rfl⟩
 all_goals
  go_in
  go_wp2_with (go_at_call 58; refine (HB.out _).mono ?_; rintro e wz ⟨rfl, rfl⟩)
  go_ret2
  exact ⟨rfl, rfl⟩
theorem sMost_2 (w : World) : Calls Tryz.prog 263 #[.int .i64 2] w fun e w' => e = .returned (.tuple #[.int .i64 2, true]) ∧ w' = w := by
 go_in
 go_wp2_with fail
 go_ret2
 exact ⟨rfl, rfl⟩
theorem sMost_4 (w : World) : Calls Tryz.prog 263 #[.int .i64 4] w fun e w' => e = .returned (.tuple #[.int .i64 3, true]) ∧ w' = w := by
 go_in
 go_wp2_with fail
 go_ret2
 exact ⟨rfl, rfl⟩
theorem sMode_yes (mo : Int) (m0 : 0 ≤ mo) (m1 : mo ≤ 2) (w : World) : CW 149 #[mo] w (.bool true) :=by
 delta CW
 have HS := kh (shift_ok 0 0 mo (by omega) (by omega) (by omega) m0 m1)
 generalize rnd 0 (Int.toNat 0) mo = r at HS
 clear m0 m1
 go_in
 go_wp2_with (go_at_call 70; refine (HS.out _).mono ?_; rintro e wz ⟨rfl, hg⟩)
 go_ret
 exact ⟨rfl, hg⟩
end
section
open Go.ChangeShapes Go.WideShapes Go.ChangeAt Go.RowKit
set_option linter.unusedVariables false
theorem scanMax_yes (v : Value) (xs : List Gi) (hn : allIn 2147483648 xs = true) (hl : xs.length ≤ 1048576) (w : World) (hv : CxsAt w v xs) :
 CW 61 #[v] w (.tuple #[(maxG xs), .int .i64 0]) :=by
 delta CW
 by_cases hx : xs = []
 ·subst hx
  obtain ⟨p, cap, rfl⟩ := hv.len;rw [show ([] : List Gi).length = 0 from rfl];clear hv hn;go_in;go_wp2_with fail;refine wp_loop_rounds 1 ?_;rw [rounds_succ];go_wp2_with fail
  go_ret2
  exact ⟨rfl, Gr.refl _⟩
 ·obtain ⟨b, o, cap, rfl, hlen, hb, hc⟩ := hv.at hx
  have HC := kh hc;have HB := kh ((allIn_iff _ _).1 hn)
  have HA : maxG (xs.take xs.length) = maxG xs := by rw [List.take_length]
  have HS := kh fun (k : Nat) (a : Gi) (h : xs[k]? = some a) => (by rw [take_snoc h, maxG_snoc] : maxG (xs.take (k + 1)) = mx (maxG (xs.take k)) a)
  have HT := kh fun (k : Nat) => (maxG_le (xs.take k) 2147483648 (by omega) (fun a ha => HB.out a (List.mem_of_mem_take ha)))
  have HZ := kh fun (k : Nat) => maxG_nonneg (xs.take k)
  clear hc hv hx hn;go_in;go_wp2_with fail
  go_loopw [4, 6, 9] (fun m _ i wr => ∃ k : Nat, k ≤ xs.length ∧ i = .int .i64 k ∧ m = .int .i64 (maxG (xs.take k)) ∧ Gr w wr) (fun _ _ i _ => xs.length - (intOf i).toNat)
  case atStart => exact ⟨0, Nat.zero_le _, rfl, rfl, Gr.refl _⟩
  case round =>
   obtain ⟨k, hk, rfl, rfl, hl⟩ := hrel
   by_cases hlt : k < xs.length
   ·obtain ⟨x, hx⟩ := get_of_lt hlt
    have h1 := (hl.cell (p := ⟨b, o + k * 2, none⟩) hb).trans (HC.out k x hx).1;have h2 := (hl.cell (p := ⟨b, o + k * 2 + 1, none⟩) hb).trans (HC.out k x hx).2
    have hbl : b < wr.heap.size := Nat.lt_of_lt_of_le hb hl.size
    have hbd := HB.out x (List.mem_of_getElem? hx);have hr := absI_le.1 hbd.1;have hi := absI_le.1 hbd.2;have hs := HS.out k x hx;have ht := HT.out k;have hz := HZ.out k;unfold mx at hs;have HQ := kh hs;have HG := kh fun B => sGreatest_c B (maxG (xs.take k)) x.re x.im hz ht hr hi
    clear hs hx HC HB HS HT HZ HA;obtain ⟨re, im⟩ := x
    simp only at h1 h2 HQ hbd HG hr hi
    have m0 := inB_true hr.1 hr.2;have m1 := inB_true hi.1 hi.2;generalize max (max (maxG (xs.take k)) (absI re)) (absI im) = mm at *;generalize maxG (xs.take k) = m at *;clear hr hi hbd;have HM := kh (sMayBe_c re);have HN := kh (sMayBe_c im);rw [m0] at HM;rw [m1] at HN;clear m0 m1
    go_wp2_with (first | (go_at_call 108; ((with_reducible refine (HM.out _).mono ?_); rintro e w' ⟨rfl, rfl⟩)) | (go_at_call 108; ((with_reducible refine (HN.out _).mono ?_); rintro e w' ⟨rfl, rfl⟩)))
    refine (HG.out _ _ (by simp) (by go_simp) (by go_simp) (by go_simp)).mono ?_;rintro e w2 ⟨rfl, rfl⟩;go_wp2_with fail
    go_roundw
    case rel => exact ⟨k + 1, by omega, by go_num, by rw [HQ.out], (hl.alloc _ _).alloc _ _⟩
    case measure => simp [intOf] <;> omega
   ·obtain rfl : k = xs.length := by omega
    have HL := kh HA;clear HA HC HB HS HT HZ;go_wp2_with fail
    go_ret2
    exact ⟨by rw [← HL.out]; rfl, hl⟩
theorem pow_le30 (n : Nat) (h : (2 : Int) ^ n ≤ 1073741824) : n ≤ 30 := by
 rcases Nat.lt_or_ge 30 n with g | g
 ·have h1 : (2 : Nat) ^ 31 ≤ 2 ^ n := Nat.pow_le_pow_right (by decide) g
  have h2 : ((2 ^ 31 : Nat) : Int) ≤ ((2 ^ n : Nat) : Int) := Int.ofNat_le.2 h1
  rw [Int.natCast_pow] at h2
  have h3 : ((2 ^ 31 : Nat) : Int) = 2147483648 := by decide
  have h4 : ((2 : Nat) : Int) ^ n = 2 ^ n := rfl
  omega
 ·exact g
theorem room_next (m q : Int) (k : Nat) (hm : 0 < m) (hm1 : m ≤ 2147483648) (hq : q ≤ 1073741824) (h : 0 < k → m * 2 ^ k ≤ q) :
 0 ≤ m * 2 ^ (k + 1) ∧ m * 2 ^ (k + 1) ≤ 4294967296 ∧ (m * 2 ^ (k + 1) ≤ q → k + 1 ≤ 30) := by
 have hp := pow_pos2 k
 have h1 : 0 ≤ m * 2 ^ k := Int.mul_nonneg (by omega) (by omega)
 have h2 : m * 2 ^ k ≤ 2147483648 := by
  rcases Nat.eq_zero_or_pos k with h0 | h0
  ·subst h0; omega
  ·have := h h0; omega
 have e : m * 2 ^ (k + 1) = m * 2 ^ k * 2 := by rw [Int.pow_succ, Int.mul_assoc]
 refine ⟨by omega, by omega, fun g => pow_le30 _ ?_⟩
 have h3 := pow_pos2 (k + 1)
 have h4 : 1 * (2 : Int) ^ (k + 1) ≤ m * 2 ^ (k + 1) := Int.mul_le_mul_of_nonneg_right (by omega) (by omega)
 omega
theorem scanRoom_15 (m : Int) (h0 : 0 < m) (h1 : m ≤ 32768) (w : World) :
 CW 62 #[m, .int .i64 0] w (.tuple #[(room 32768 m : Nat), .int .i64 0]) :=by
 delta CW
 have HB := kh (sBits_ok m 0 15 32768 (by first | exact .inl ⟨rfl, rfl, rfl⟩ | exact .inr ⟨rfl, rfl, rfl⟩) (by omega) h1)
 have HU := kh fun (s : Nat) (a : s ≤ 31) (b : 0 < s → m * 2 ^ s ≤ 16384) (c : 16384 < m * 2 ^ (s + 1)) => room_unique 32768 m s (by omega) a (fun h => ⟨h0, b h⟩) (fun _ => c)
 have HN := kh fun (k : Nat) (h : 0 < k → m * 2 ^ k ≤ 16384) => room_next m 16384 k h0 (by omega) (by omega) h
 have hm2 : (m == 0) = false := by simp; omega
 go_in
 go_wp2_with (go_at_call 110; ((with_reducible refine (HB.out _).mono ?_); rintro e w' ⟨rfl, rfl⟩))
 go_loop [9] (fun s => ∃ k : Nat, k ≤ 30 ∧ s = .int .i64 k ∧ (0 < k → m * 2 ^ k ≤ 16384)) (fun s => 31 - (intOf s).toNat)
 case atStart => exact ⟨0, by omega, rfl, fun h => absurd h (by omega)⟩
 case round =>
  obtain ⟨k, hk, rfl, hf⟩ := hrel;obtain ⟨n0, n1, n2⟩ := HN.out k hf;have hu := HU.out k (by omega) hf;have HK := kh n2
  obtain ⟨t, ht⟩ : ∃ t, m * 2 ^ (k + 1) = t := ⟨_, rfl⟩
  rw [ht] at n0 n1 hu;have HT := kh ht
  have hw : wrap64 (m * 2 ^ (k + 1)) = t := by rw [ht]; exact IntWalk.wrap64_in _ (by omega)
  have HF := kh hf;have HV := kh hu;clear hf hu n2 ht
  by_cases hle : t ≤ 16384
  ·go_wp2_with fail
   go_round
   case rel => exact ⟨k + 1, HK.out (by rw [HT.out]; exact hle), by go_num, fun _ => by rw [HT.out]; exact hle⟩
   case measure => simp [intOf] <;> omega
  ·go_wp2_with fail
   go_ret2
   exact ⟨by rw [← HV.out (by omega)]; rfl, Gr.refl _⟩
theorem scanRoom_31 (m : Int) (h0 : 0 < m) (h1 : m ≤ 2147483648) (w : World) :
 CW 62 #[m, .int .i64 1] w (.tuple #[(room 2147483648 m : Nat), .int .i64 0]) :=by
 delta CW
 have HB := kh (sBits_ok m 1 31 2147483648 (by first | exact .inl ⟨rfl, rfl, rfl⟩ | exact .inr ⟨rfl, rfl, rfl⟩) (by omega) h1)
 have HU := kh fun (s : Nat) (a : s ≤ 31) (b : 0 < s → m * 2 ^ s ≤ 1073741824) (c : 1073741824 < m * 2 ^ (s + 1)) => room_unique 2147483648 m s (by omega) a (fun h => ⟨h0, b h⟩) (fun _ => c)
 have HN := kh fun (k : Nat) (h : 0 < k → m * 2 ^ k ≤ 1073741824) => room_next m 1073741824 k h0 (by omega) (by omega) h
 have hm2 : (m == 0) = false := by simp; omega
 go_in
 go_wp2_with (go_at_call 110; ((with_reducible refine (HB.out _).mono ?_); rintro e w' ⟨rfl, rfl⟩))
 go_loop [9] (fun s => ∃ k : Nat, k ≤ 30 ∧ s = .int .i64 k ∧ (0 < k → m * 2 ^ k ≤ 1073741824)) (fun s => 31 - (intOf s).toNat)
 case atStart => exact ⟨0, by omega, rfl, fun h => absurd h (by omega)⟩
 case round =>
  obtain ⟨k, hk, rfl, hf⟩ := hrel;obtain ⟨n0, n1, n2⟩ := HN.out k hf;have hu := HU.out k (by omega) hf;have HK := kh n2
  obtain ⟨t, ht⟩ : ∃ t, m * 2 ^ (k + 1) = t := ⟨_, rfl⟩
  rw [ht] at n0 n1 hu;have HT := kh ht
  have hw : wrap64 (m * 2 ^ (k + 1)) = t := by rw [ht]; exact IntWalk.wrap64_in _ (by omega)
  have HF := kh hf;have HV := kh hu;clear hf hu n2 ht
  by_cases hle : t ≤ 1073741824
  ·go_wp2_with fail
   go_round
   case rel => exact ⟨k + 1, HK.out (by rw [HT.out]; exact hle), by go_num, fun _ => by rw [HT.out]; exact hle⟩
   case measure => simp [intOf] <;> omega
  ·go_wp2_with fail
   go_ret2
   exact ⟨by rw [← HV.out (by omega)]; rfl, Gr.refl _⟩
theorem scanRoom_ok (m f b p : Int) (H : FB f b p) (h0 : 0 ≤ m) (h1 : m ≤ p) (w : World) :
 CW 62 #[m, f] w (.tuple #[(room p m : Nat), .int .i64 0]) :=by
 delta CW
 by_cases hz : m = 0
 ·have HB := kh (sBits_ok m f b p H h0 h1)
  subst hz
  have hr : room p 0 = 0 := by
   rcases Nat.eq_zero_or_pos (room p 0) with h | h
   ·exact h
   ·exact absurd (room_fits p 0 h).1 (by omega)
  rw [hr];clear H hr h1 h0;go_in
  go_wp2_with (go_at_call 110; ((with_reducible refine (HB.out _).mono ?_); rintro e w' ⟨rfl, rfl⟩))
  go_ret2
  exact ⟨rfl, Gr.refl _⟩
 ·rcases H with ⟨rfl, rfl, rfl⟩ | ⟨rfl, rfl, rfl⟩
  ·exact scanRoom_15 m (by omega) h1 w
  ·exact scanRoom_31 m (by omega) h1 w
end
section
open Go.ChangeShapes Go.WideShapes Go.ChangeAt Go.RowKit
set_option linter.unusedVariables false
theorem scanPre_15_2 (m : Int) (h0 : 0 ≤ m) (h1 : m ≤ 32768) (w : World) :
 CW 262 #[.int .i64 2, m, .int .i64 0] w (.tuple #[(preOf 2 32768 m), .int .i64 0]) :=by
 delta CW
 have HB := kh (sBits_ok m 0 15 32768 (by first | exact .inl ⟨rfl, rfl, rfl⟩ | exact .inr ⟨rfl, rfl, rfl⟩) (by omega) h1)
 have HM := kh sMost_2
 by_cases c0 : m ≤ 8192
 ·go_in
  go_wp2_with (first | (go_at_call 263; ((with_reducible refine (HM.out _).mono ?_); rintro e w' ⟨rfl, rfl⟩)) | (go_at_call 110; ((with_reducible refine (HB.out _).mono ?_); rintro e w' ⟨rfl, rfl⟩)))
  refine wp_loop_rounds 1 ?_;rw [rounds_succ];go_wp2_with fail
  go_ret2
  refine ⟨?_, Gr.refl _⟩;rw [show preOf 2 32768 m = 0 by unfold preOf; omega]
  rfl
 ·skip
  by_cases c1 : m ≤ 16384
  ·go_in
   go_wp2_with (first | (go_at_call 263; ((with_reducible refine (HM.out _).mono ?_); rintro e w' ⟨rfl, rfl⟩)) | (go_at_call 110; ((with_reducible refine (HB.out _).mono ?_); rintro e w' ⟨rfl, rfl⟩)))
   refine wp_loop_rounds 2 ?_;rw [rounds_succ];go_wp2_with fail;rw [rounds_succ];go_wp2_with fail
   go_ret2
   refine ⟨?_, Gr.refl _⟩;rw [show preOf 2 32768 m = 1 by unfold preOf; omega]
   rfl
  ·skip
   go_in
   go_wp2_with (first | (go_at_call 263; ((with_reducible refine (HM.out _).mono ?_); rintro e w' ⟨rfl, rfl⟩)) | (go_at_call 110; ((with_reducible refine (HB.out _).mono ?_); rintro e w' ⟨rfl, rfl⟩)))
   refine wp_loop_rounds 3 ?_;rw [rounds_succ];go_wp2_with fail;rw [rounds_succ];go_wp2_with fail;rw [rounds_succ];go_wp2_with fail
   go_ret2
   refine ⟨?_, Gr.refl _⟩;rw [show preOf 2 32768 m = 2 by unfold preOf; omega]
   rfl
theorem scanPre_15_4 (m : Int) (h0 : 0 ≤ m) (h1 : m ≤ 32768) (w : World) :
 CW 262 #[.int .i64 4, m, .int .i64 0] w (.tuple #[(preOf 4 32768 m), .int .i64 0]) :=by
 delta CW
 have HB := kh (sBits_ok m 0 15 32768 (by first | exact .inl ⟨rfl, rfl, rfl⟩ | exact .inr ⟨rfl, rfl, rfl⟩) (by omega) h1)
 have HM := kh sMost_4
 by_cases c0 : m ≤ 4096
 ·go_in
  go_wp2_with (first | (go_at_call 263; ((with_reducible refine (HM.out _).mono ?_); rintro e w' ⟨rfl, rfl⟩)) | (go_at_call 110; ((with_reducible refine (HB.out _).mono ?_); rintro e w' ⟨rfl, rfl⟩)))
  refine wp_loop_rounds 1 ?_;rw [rounds_succ];go_wp2_with fail
  go_ret2
  refine ⟨?_, Gr.refl _⟩;rw [show preOf 4 32768 m = 0 by unfold preOf; omega]
  rfl
 ·skip
  by_cases c1 : m ≤ 8192
  ·go_in
   go_wp2_with (first | (go_at_call 263; ((with_reducible refine (HM.out _).mono ?_); rintro e w' ⟨rfl, rfl⟩)) | (go_at_call 110; ((with_reducible refine (HB.out _).mono ?_); rintro e w' ⟨rfl, rfl⟩)))
   refine wp_loop_rounds 2 ?_;rw [rounds_succ];go_wp2_with fail;rw [rounds_succ];go_wp2_with fail
   go_ret2
   refine ⟨?_, Gr.refl _⟩;rw [show preOf 4 32768 m = 1 by unfold preOf; omega]
   rfl
  ·skip
   by_cases c2 : m ≤ 16384
   ·go_in
    go_wp2_with (first | (go_at_call 263; ((with_reducible refine (HM.out _).mono ?_); rintro e w' ⟨rfl, rfl⟩)) | (go_at_call 110; ((with_reducible refine (HB.out _).mono ?_); rintro e w' ⟨rfl, rfl⟩)))
    refine wp_loop_rounds 3 ?_;rw [rounds_succ];go_wp2_with fail;rw [rounds_succ];go_wp2_with fail;rw [rounds_succ];go_wp2_with fail
    go_ret2
    refine ⟨?_, Gr.refl _⟩;rw [show preOf 4 32768 m = 2 by unfold preOf; omega]
    rfl
   ·skip
    go_in
    go_wp2_with (first | (go_at_call 263; ((with_reducible refine (HM.out _).mono ?_); rintro e w' ⟨rfl, rfl⟩)) | (go_at_call 110; ((with_reducible refine (HB.out _).mono ?_); rintro e w' ⟨rfl, rfl⟩)))
    refine wp_loop_rounds 4 ?_;rw [rounds_succ];go_wp2_with fail;rw [rounds_succ];go_wp2_with fail;rw [rounds_succ];go_wp2_with fail;rw [rounds_succ];go_wp2_with fail
    go_ret2
    refine ⟨?_, Gr.refl _⟩;rw [show preOf 4 32768 m = 3 by unfold preOf; omega]
    rfl
theorem scanPre_31_2 (m : Int) (h0 : 0 ≤ m) (h1 : m ≤ 2147483648) (w : World) :
 CW 262 #[.int .i64 2, m, .int .i64 1] w (.tuple #[(preOf 2 2147483648 m), .int .i64 0]) :=by
 delta CW
 have HB := kh (sBits_ok m 1 31 2147483648 (by first | exact .inl ⟨rfl, rfl, rfl⟩ | exact .inr ⟨rfl, rfl, rfl⟩) (by omega) h1)
 have HM := kh sMost_2
 by_cases c0 : m ≤ 536870912
 ·go_in
  go_wp2_with (first | (go_at_call 263; ((with_reducible refine (HM.out _).mono ?_); rintro e w' ⟨rfl, rfl⟩)) | (go_at_call 110; ((with_reducible refine (HB.out _).mono ?_); rintro e w' ⟨rfl, rfl⟩)))
  refine wp_loop_rounds 1 ?_;rw [rounds_succ];go_wp2_with fail
  go_ret2
  refine ⟨?_, Gr.refl _⟩;rw [show preOf 2 2147483648 m = 0 by unfold preOf; omega]
  rfl
 ·skip
  by_cases c1 : m ≤ 1073741824
  ·go_in
   go_wp2_with (first | (go_at_call 263; ((with_reducible refine (HM.out _).mono ?_); rintro e w' ⟨rfl, rfl⟩)) | (go_at_call 110; ((with_reducible refine (HB.out _).mono ?_); rintro e w' ⟨rfl, rfl⟩)))
   refine wp_loop_rounds 2 ?_;rw [rounds_succ];go_wp2_with fail;rw [rounds_succ];go_wp2_with fail
   go_ret2
   refine ⟨?_, Gr.refl _⟩;rw [show preOf 2 2147483648 m = 1 by unfold preOf; omega]
   rfl
  ·skip
   go_in
   go_wp2_with (first | (go_at_call 263; ((with_reducible refine (HM.out _).mono ?_); rintro e w' ⟨rfl, rfl⟩)) | (go_at_call 110; ((with_reducible refine (HB.out _).mono ?_); rintro e w' ⟨rfl, rfl⟩)))
   refine wp_loop_rounds 3 ?_;rw [rounds_succ];go_wp2_with fail;rw [rounds_succ];go_wp2_with fail;rw [rounds_succ];go_wp2_with fail
   go_ret2
   refine ⟨?_, Gr.refl _⟩;rw [show preOf 2 2147483648 m = 2 by unfold preOf; omega]
   rfl
theorem scanPre_31_4 (m : Int) (h0 : 0 ≤ m) (h1 : m ≤ 2147483648) (w : World) :
 CW 262 #[.int .i64 4, m, .int .i64 1] w (.tuple #[(preOf 4 2147483648 m), .int .i64 0]) :=by
 delta CW
 have HB := kh (sBits_ok m 1 31 2147483648 (by first | exact .inl ⟨rfl, rfl, rfl⟩ | exact .inr ⟨rfl, rfl, rfl⟩) (by omega) h1)
 have HM := kh sMost_4
 by_cases c0 : m ≤ 268435456
 ·go_in
  go_wp2_with (first | (go_at_call 263; ((with_reducible refine (HM.out _).mono ?_); rintro e w' ⟨rfl, rfl⟩)) | (go_at_call 110; ((with_reducible refine (HB.out _).mono ?_); rintro e w' ⟨rfl, rfl⟩)))
  refine wp_loop_rounds 1 ?_;rw [rounds_succ];go_wp2_with fail
  go_ret2
  refine ⟨?_, Gr.refl _⟩;rw [show preOf 4 2147483648 m = 0 by unfold preOf; omega]
  rfl
 ·skip
  by_cases c1 : m ≤ 536870912
  ·go_in
   go_wp2_with (first | (go_at_call 263; ((with_reducible refine (HM.out _).mono ?_); rintro e w' ⟨rfl, rfl⟩)) | (go_at_call 110; ((with_reducible refine (HB.out _).mono ?_); rintro e w' ⟨rfl, rfl⟩)))
   refine wp_loop_rounds 2 ?_;rw [rounds_succ];go_wp2_with fail;rw [rounds_succ];go_wp2_with fail
   go_ret2
   refine ⟨?_, Gr.refl _⟩;rw [show preOf 4 2147483648 m = 1 by unfold preOf; omega]
   rfl
  ·skip
   by_cases c2 : m ≤ 1073741824
   ·go_in
    go_wp2_with (first | (go_at_call 263; ((with_reducible refine (HM.out _).mono ?_); rintro e w' ⟨rfl, rfl⟩)) | (go_at_call 110; ((with_reducible refine (HB.out _).mono ?_); rintro e w' ⟨rfl, rfl⟩)))
    refine wp_loop_rounds 3 ?_;rw [rounds_succ];go_wp2_with fail;rw [rounds_succ];go_wp2_with fail;rw [rounds_succ];go_wp2_with fail
    go_ret2
    refine ⟨?_, Gr.refl _⟩;rw [show preOf 4 2147483648 m = 2 by unfold preOf; omega]
    rfl
   ·skip
    go_in
    go_wp2_with (first | (go_at_call 263; ((with_reducible refine (HM.out _).mono ?_); rintro e w' ⟨rfl, rfl⟩)) | (go_at_call 110; ((with_reducible refine (HB.out _).mono ?_); rintro e w' ⟨rfl, rfl⟩)))
    refine wp_loop_rounds 4 ?_;rw [rounds_succ];go_wp2_with fail;rw [rounds_succ];go_wp2_with fail;rw [rounds_succ];go_wp2_with fail;rw [rounds_succ];go_wp2_with fail
    go_ret2
    refine ⟨?_, Gr.refl _⟩;rw [show preOf 4 2147483648 m = 3 by unfold preOf; omega]
    rfl
theorem scanPre_ok (kernel m f b p : Int) (H : FB f b p) (hk : kernel = 2 ∨ kernel = 4) (h0 : 0 ≤ m) (h1 : m ≤ p) (w : World) :
 CW 262 #[kernel, m, f] w (.tuple #[(preOf kernel p m), .int .i64 0]) :=by
 delta CW
 rcases H with ⟨rfl, rfl, rfl⟩ | ⟨rfl, rfl, rfl⟩ <;> rcases hk with rfl | rfl
 ·exact scanPre_15_2 m h0 h1 w
 ·exact scanPre_15_4 m h0 h1 w
 ·exact scanPre_31_2 m h0 h1 w
 ·exact scanPre_31_4 m h0 h1 w
end
section
open Go.ChangeShapes Go.WideShapes Go.ChangeAt Go.RowKit
set_option linter.unusedVariables false
set_option linter.unusedSimpArgs false
set_option maxRecDepth 100000
set_option maxHeartbeats 16000000
theorem ftOne_c (fo b p lo ke sc mo : Int) (iv : Bool) (H : FB fo b p) (w : World) :
 CW 146 #[.agg #[fo, lo, ke, sc, mo, iv]] w (.int .i64 p) :=by
 delta CW
 have HB := kh (bits_c fo b p H)
 rcases H with ⟨rfl, rfl, rfl⟩ | ⟨rfl, rfl, rfl⟩ <;>
 ·go_in
  go_wp2_with (go_at_call 58; ((with_reducible refine (HB.out _).mono ?_); rintro e w' ⟨rfl, rfl⟩))
  go_ret
  exact ⟨rfl, (Gr.refl _).alloc _ _⟩
def scT (sc : Int) : TypeId := if sc = 0 then 176 else if sc = 1 then 178 else 179
def rcV (fo sc : Int) : Value := if sc = 0 then .agg #[] else .agg #[fo]
theorem ftScale_c (fo lo ke sc mo : Int) (iv : Bool) (w : World) :
 CW 105 #[.agg #[fo, lo, ke, sc, mo, iv]] w (.iface (scT sc) (rcV fo sc)) :=by
 delta CW
 by_cases h0 : sc = 0
 ·subst h0
  rw [show scT 0 = 176 from rfl, show rcV fo 0 = .agg #[] from rfl];go_in;go_wp2_with fail
  go_ret
  exact ⟨rfl, (Gr.refl _).alloc _ _⟩
 ·by_cases h1 : sc = 1
  ·subst h1
   rw [show scT 1 = 178 from rfl, show rcV fo 1 = .agg #[fo] from rfl];go_in;go_wp2_with fail
   go_ret
   exact ⟨rfl, (Gr.refl _).alloc _ _⟩
  ·rw [show scT sc = 179 by unfold scT; rw [if_neg h0, if_neg h1], show rcV fo sc = .agg #[fo] by unfold rcV; rw [if_neg h0]]
   have e0 : (sc == 0) = false := by simp [h0]
   have e1 : (sc == 1) = false := by simp [h1]
   clear h0 h1;go_in;go_wp2_with fail
   go_ret
   exact ⟨rfl, (Gr.refl _).alloc _ _⟩
theorem ftAhead_0 (v : Value) (w : World) : CW 256 #[.agg #[], v] w (.int .i64 1) :=by
 delta CW
 go_in
 go_wp2_with fail
 go_ret
 exact ⟨rfl, (Gr.refl _).alloc _ _⟩
theorem ftAhead_2 (fo : Int) (v : Value) (w : World) : CW 264 #[.agg #[fo], v] w (.int .i64 0) :=by
 delta CW
 go_in
 go_wp2_with fail
 go_ret
 exact ⟨rfl, (Gr.refl _).alloc _ _⟩
theorem ftShift_0 (v : Value) (k : Int) (hk : k = 2 ∨ k = 4) (w : World) : CW 258 #[.agg #[], v, k] w (.int .i64 (if k = 4 then 2 else 1)) :=by
 delta CW
 rcases hk with rfl | rfl
 ·rw [if_neg (by decide)]
  go_in;go_wp2_with fail
  go_ret
  exact ⟨rfl, (Gr.refl _).alloc _ _⟩
 ·rw [if_pos rfl]
  go_in;go_wp2_with fail
  go_ret
  exact ⟨rfl, (Gr.refl _).alloc _ _⟩
theorem ftShift_2 (fo k : Int) (v : Value) (w : World) : CW 266 #[.agg #[fo], v, k] w (.int .i64 0) :=by
 delta CW
 go_in
 go_wp2_with fail
 go_ret
 exact ⟨rfl, (Gr.refl _).alloc _ _⟩
theorem ftFitted_0 (v : Value) (w : World) : CW 257 #[.agg #[], v] w (.tuple #[v, false]) :=by
 delta CW
 go_in
 go_wp2_with fail
 go_ret2
 exact ⟨rfl, (Gr.refl _).alloc _ _⟩
theorem ftFitted_1 (fo : Int) (v : Value) (w : World) : CW 260 #[.agg #[fo], v] w (.tuple #[v, false]) :=by
 delta CW
 go_in
 go_wp2_with fail
 go_ret2
 exact ⟨rfl, (Gr.refl _).alloc _ _⟩
theorem ftAhead_1 (fo m r : Int) (v : Value) (hr : IntKind.i64.wrap (-r) = -r) (w : World) (HM : Hid (∀ W, Gr w W → Calls Tryz.prog 61 #[v] W fun e w' => e = .returned (.tuple #[m, .int .i64 0]) ∧ Gr W w'))
 (HR : CR 62 #[m, fo] (.tuple #[r, .int .i64 0])) :
 CW 259 #[.agg #[fo], v] w (.int .i64 (-r)) :=by
 delta CW
 go_in
 go_wp2_with fail
 have R0 := CellsAt.new w 178 #[fo]
 have y0 := (Gr.refl w).alloc #[fo] 178
 refine (HM.out _ y0).mono ?_
 rintro e w1 ⟨rfl, g1⟩
 have c0 := (R0.gr g1).cell 0
 simp only [List.getElem?_toArray, List.getElem?_cons_zero] at c0
 have y1 := y0.trans g1
 clear R0 y0 g1
 go_wp2_with (go_at_call 62; ((with_reducible refine (HR.out _).mono ?_); rintro e w2 ⟨rfl, g2⟩))
 go_ret
 exact ⟨rfl, y1.trans g2⟩
theorem ftShift_1 (fo m s k : Int) (v : Value) (w : World) (HM : Hid (∀ W, Gr w W → Calls Tryz.prog 61 #[v] W fun e w' => e = .returned (.tuple #[m, .int .i64 0]) ∧ Gr W w'))
 (HR : CR 262 #[k, m, fo] (.tuple #[s, .int .i64 0])) :
 CW 261 #[.agg #[fo], v, k] w (.int .i64 s) :=by
 delta CW
 go_in
 go_wp2_with fail
 have R0 := CellsAt.new w 178 #[fo]
 have y0 := (Gr.refl w).alloc #[fo] 178
 refine (HM.out _ y0).mono ?_
 rintro e w1 ⟨rfl, g1⟩
 have c0 := (R0.gr g1).cell 0
 simp only [List.getElem?_toArray, List.getElem?_cons_zero] at c0
 have y1 := y0.trans g1
 clear R0 y0 g1
 go_wp2_with (go_at_call 262; ((with_reducible refine (HR.out _).mono ?_); rintro e w2 ⟨rfl, g2⟩))
 go_ret
 exact ⟨rfl, y1.trans g2⟩
end
section
set_option linter.unusedVariables false
set_option maxRecDepth 100000
set_option maxHeartbeats 16000000
def gadd (a b : Gi) : Gi := ⟨a.re + b.re, a.im + b.im⟩
def gscale (bits : Nat) (a : Gi) : Gi := ⟨a.re * 2 ^ bits, a.im * 2 ^ bits⟩
def turns1 (inv : Bool) (q : Int) : Int := if inv then q else -q
def quadSum (inv : Bool) (q : Int) (t0 t1 t2 t3 : Gi) : Gi := gadd (gadd (gadd t0 (Gi.turn (turns1 inv q) t1)) (Gi.turn (2 * q) t2)) (Gi.turn (-(turns1 inv q)) t3)
def grnd (n : Nat) (mo : Int) (a : Gi) : Gi := ⟨rnd a.re n mo, rnd a.im n mo⟩
def quadOut (bits s : Nat) (mo : Int) (inv : Bool) (q : Int) (a0 a1 a2 a3 w1 w2 w3 : Gi) : Gi :=
 grnd (bits + s) mo (quadSum inv q (gscale bits a0) (gmul a1 w1) (gmul a2 w2) (gmul a3 w3))
def Bd (l : Int) (a : Gi) : Prop := absI a.re ≤ l ∧ absI a.im ≤ l
theorem Bd.le {l : Int} {a : Gi} (h : Bd l a) : (-l ≤ a.re ∧ a.re ≤ l) ∧ (-l ≤ a.im ∧ a.im ≤ l) := ⟨absI_le.1 h.1, absI_le.1 h.2⟩
theorem Bd.mk {l : Int} {a : Gi} (h : (-l ≤ a.re ∧ a.re ≤ l) ∧ (-l ≤ a.im ∧ a.im ≤ l)) : Bd l a := ⟨absI_le.2 h.1, absI_le.2 h.2⟩
theorem Bd.turn {l : Int} {a : Gi} (h : Bd l a) (q : Int) : Bd l (Gi.turn q a) := by
 have := h.le
 unfold Gi.turn
 split
 ·exact h
 ·split
  ·exact Bd.mk (by simp only; omega)
  ·split
   ·exact Bd.mk (by simp only; omega)
   ·exact Bd.mk (by simp only; omega)
theorem Bd.add {l m : Int} {a b : Gi} (h : Bd l a) (k : Bd m b) : Bd (l + m) (gadd a b) := by
 have := h.le
 have := k.le
 exact Bd.mk (by unfold gadd; simp only; omega)
theorem Bd.scale {l : Int} {a : Gi} (h : Bd l a) (bits : Nat) : Bd (l * 2 ^ bits) (gscale bits a) := by
 have hb := Int.le_of_lt (pow_pos2 bits)
 obtain ⟨⟨h1, h2⟩, h3, h4⟩ := h.le
 refine Bd.mk ⟨⟨?_, ?_⟩, ?_, ?_⟩
 ·rw [← Int.neg_mul]; exact Int.mul_le_mul_of_nonneg_right h1 hb
 ·exact Int.mul_le_mul_of_nonneg_right h2 hb
 ·rw [← Int.neg_mul]; exact Int.mul_le_mul_of_nonneg_right h3 hb
 ·exact Int.mul_le_mul_of_nonneg_right h4 hb
theorem Bd.mul {l m : Int} {a w : Gi} (h : Bd l a) (k : Bd m w) : Bd (2 * (l * m)) (gmul a w) := by
 have h0 : 0 ≤ l := Int.le_trans (absI_nonneg _) h.1
 exact gmul_bd a w l m h0 h k
theorem Bd.mono {l m : Int} {a : Gi} (h : Bd l a) (e : l ≤ m) : Bd m a := ⟨Int.le_trans h.1 e, Int.le_trans h.2 e⟩
theorem quadSum_bd (inv : Bool) (q L M : Int) (t0 t1 t2 t3 : Gi) (h0 : Bd L t0) (h1 : Bd M t1) (h2 : Bd M t2) (h3 : Bd M t3) : Bd (L + M + M + M) (quadSum inv q t0 t1 t2 t3) :=
 ((h0.add (h1.turn _)).add (h2.turn _)).add (h3.turn _)
theorem key_grow (t m : Int) (k : Int) (bits s : Nat) (mo : Int) (hm : mo = 0 ∨ mo = 1 ∨ mo = 2) (ht : absI t ≤ k * (m * 2 ^ bits)) : (absI (rnd t (bits + s) mo) - 1) * 2 ^ s ≤ k * m := by
 have hb := pow_pos2 bits
 have g := rnd_grow t _ (bits + s) mo hm ht
 rw [Int.pow_add, Int.mul_comm (2 ^ bits) (2 ^ s), ← Int.mul_assoc] at g
 generalize (absI (rnd t (bits + s) mo) - 1) * 2 ^ s = y at *
 have g2 : y * 2 ^ bits < (k * m) * 2 ^ bits + 1 := by rw [Int.mul_assoc]; exact g
 refine Int.not_lt.1 fun h => ?_
 have g3 : (k * m + 1) * 2 ^ bits ≤ y * 2 ^ bits := Int.mul_le_mul_of_nonneg_right (by omega) (Int.le_of_lt hb)
 rw [Int.add_mul, Int.one_mul] at g3
 omega
theorem quad_grow (bits s : Nat) (mo : Int) (inv : Bool) (q m : Int) (a0 a1 a2 a3 w1 w2 w3 : Gi) (hm : mo = 0 ∨ mo = 1 ∨ mo = 2) (h0 : Bd m a0) (h1 : Bd m a1) (h2 : Bd m a2) (h3 : Bd m a3) (k1 : Bd (2 ^ bits) w1) (k2 : Bd (2 ^ bits) w2) (k3 : Bd (2 ^ bits) w3) :
 (absI (quadOut bits s mo inv q a0 a1 a2 a3 w1 w2 w3).re - 1) * 2 ^ s ≤ 7 * m ∧ (absI (quadOut bits s mo inv q a0 a1 a2 a3 w1 w2 w3).im - 1) * 2 ^ s ≤ 7 * m := by
 have h := quadSum_bd inv q _ _ _ _ _ _ (h0.scale bits) (h1.mul k1) (h2.mul k2) (h3.mul k3)
 have h' : Bd (7 * (m * 2 ^ bits)) (quadSum inv q (gscale bits a0) (gmul a1 w1) (gmul a2 w2) (gmul a3 w3)) := h.mono (by omega)
 exact ⟨key_grow _ m 7 bits s mo hm h'.1, key_grow _ m 7 bits s mo hm h'.2⟩
def fourAt (xs ws : List Gi) (h bits s : Nat) (mo : Int) (inv : Bool) (i : Nat) : Gi :=
 let u := xs.length / (4 * h)
 let g := i - i % (4 * h)
 let j := i % h
 quadOut bits s mo inv (((i - g) / h : Nat) : Int) (xs.getD (g + j) ⟨0, 0⟩) (xs.getD (g + 2 * h + j) ⟨0, 0⟩) (xs.getD (g + h + j) ⟨0, 0⟩) (xs.getD (g + 3 * h + j) ⟨0, 0⟩)
  (rootOf ws inv (j * u)) (rootOf ws inv (2 * j * u)) (rootOf ws inv (3 * j * u))
def fourL (xs ws : List Gi) (h bits s : Nat) (mo : Int) (inv : Bool) : List Gi := (List.range xs.length).map (fourAt xs ws h bits s mo inv)
theorem fourL_len (xs ws : List Gi) (h bits s : Nat) (mo : Int) (inv : Bool) : (fourL xs ws h bits s mo inv).length = xs.length := by unfold fourL; simp
end
end Go.Proofs.YtdignnmpfkgkoaaGreat
