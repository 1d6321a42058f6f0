import Derived.Test.YtcgeabpibkejpaaGreatNearTellsS14
namespace Go.Proofs.YtcgeabpibkejpaaGreat
section
open Go.ChangeShapes Go.WideShapes Go.ChangeAt Go.RowKit
set_option linter.unusedVariables false
set_option maxRecDepth 100000
theorem plain09_c (n : Int) (h0 : -9223372036854775807 ≤ n) (h1 : n ≤ 9223372036854775807) (w : World) :
 Calls Tryz.prog 55 #[.int .i64 n] w fun e w' => e = .returned (.int .i64 (absI n)) ∧ w' = w := by
 unfold absI
 by_cases h : n < 0
 ·rw [if_pos h]
  go_enter Tryz.func55, Tryz.ntmps55
  go_wp2
  go_ret
  exact ⟨by simp, rfl⟩
 ·rw [if_neg h]
  go_enter Tryz.func55, Tryz.ntmps55
  go_wp2
  go_ret
  exact ⟨rfl, rfl⟩
theorem rshift03_c (x y s mo : Int) (wx : -9223372036854775808 ≤ x ∧ x ≤ 9223372036854775807) (wy : -9223372036854775808 ≤ y ∧ y ≤ 9223372036854775807) (s0 : 0 ≤ s) (s1 : s ≤ 62) (m0 : 0 ≤ mo) (m1 : mo ≤ 2) (w : World) :
 Calls Tryz.prog 90 #[.agg #[.int .i64 x, .int .i64 y], .int .i64 s, .int .i64 mo] w fun e w' => e = .returned (.agg #[.int .i64 (rnd x s.toNat mo), .int .i64 (rnd y s.toNat mo)]) ∧ Gr w w' := by
 have HX := Lib.hid (refShift_c x s mo wx s0 s1 m0 m1)
 have HY := Lib.hid (refShift_c y s mo wy s0 s1 m0 m1)
 generalize rnd x s.toNat mo = r0 at HX ⊢
 generalize rnd y s.toNat mo = r1 at HY ⊢
 clear wx wy s0 s1 m0 m1
 go_enter Tryz.func90, Tryz.ntmps90
 go_wp2_with fail
 go_region_held3 (fun W => W.cell? ⟨w.heap.size, 0, none⟩ = some (.int .i64 x) ∧ W.cell? ⟨w.heap.size, 1, none⟩ = some (.int .i64 y))
  (go_keep)
  (first | (go_at_call 118; ((with_reducible refine (HX.out _).mono ?_); rintro e w' ⟨rfl, rfl⟩)) | (go_at_call 118; ((with_reducible refine (HY.out _).mono ?_); rintro e w' ⟨rfl, rfl⟩)))
 go_wp2
 refine bodyPost_ret (v := .agg #[.int .i64 r0, .int .i64 r1]) ?_ rfl ⟨rfl, ?_⟩
 ·simp [results, Tryz.results90, go_sem]
 ·exact by repeat (first | exact Gr.refl _ | assumption | apply Gr.drew | apply Gr.alloc | (refine Gr.setCell ?_ (by first | (simp; done) | (simp; omega)) _))
end
section
open Go.ChangeShapes Go.WideShapes Go.ChangeAt Go.RowKit
set_option linter.unusedVariables false
set_option maxHeartbeats 2000000 in
theorem max09_c (v : Value) (xs : List Gi) (hn : allIn 2147483648 xs = true) (w : World) (hv : CxsAt w v xs) :
 Calls Tryz.prog 30 #[v] w fun e w' => e = .returned (.int .i64 (maxG xs)) ∧ Gr w w' := by
 by_cases hx : xs = []
 ·subst hx
  obtain ⟨p, cap, rfl⟩ := hv.len
  rw [show ([] : List Gi).length = 0 from rfl]
  clear hv
  go_enter Tryz.func30, Tryz.ntmps30
  go_wp2_with fail
  refine wp_loop_rounds 1 ?_
  rw [rounds_succ]
  go_wp2_with fail
  go_ret
  exact ⟨rfl, Gr.refl _⟩
 ·obtain ⟨b, o, cap, rfl, hlen, hb, hc⟩ := hv.at hx
  have HC := Lib.hid hc
  have HB := Lib.hid ((allIn_iff _ _).1 hn)
  have HA : maxG (xs.take xs.length) = maxG xs := by rw [List.take_length]
  have HS := Lib.hid fun (k : Nat) (a : Gi) (h : xs[k]? = some a) => (by rw [take_snoc h, maxG_snoc] : maxG (xs.take (k + 1)) = mx (maxG (xs.take k)) a)
  have HT := Lib.hid fun (k : Nat) => (maxG_le (xs.take k) 2147483648 (by omega) (fun a ha => HB.out a (List.mem_of_mem_take ha)))
  have HZ := Lib.hid fun (k : Nat) => maxG_nonneg (xs.take k)
  clear hc hv hx hn
  go_enter Tryz.func30, Tryz.ntmps30
  go_wp2_with fail
  go_loopw [3, 5, 8] (fun m _ i wr => ∃ k : Nat, k ≤ xs.length ∧ i = .int .i64 k ∧ m = .int .i64 (maxG (xs.take k)) ∧ Gr w wr) (fun _ _ i _ => xs.length - (intOf i).toNat)
  case atStart => exact ⟨0, Nat.zero_le _, rfl, rfl, Gr.refl _⟩
  case round =>
   obtain ⟨k, hk, rfl, rfl, hl⟩ := hrel
   by_cases hlt : k < xs.length
   ·obtain ⟨x, hx⟩ := get_of_lt hlt
    have h1 := (hl.cell (p := ⟨b, o + k * 2, none⟩) hb).trans (HC.out k x hx).1
    have h2 := (hl.cell (p := ⟨b, o + k * 2 + 1, none⟩) hb).trans (HC.out k x hx).2
    have hbl : b < wr.heap.size := Nat.lt_of_lt_of_le hb hl.size
    have hbd := HB.out x (List.mem_of_getElem? hx)
    have hr := absI_bd x.re
    have hi := absI_bd x.im
    have HR := Lib.hid (plain09_c x.re (by omega) (by omega))
    have HI := Lib.hid (plain09_c x.im (by omega) (by omega))
    have hs := HS.out k x hx
    have ht := HT.out k
    have hz := HZ.out k
    unfold mx at hs
    have HQ := Lib.hid hs
    clear hs hx HC HB HS HT HZ HA hr hi
    obtain ⟨re, im⟩ := x
    simp only at h1 h2 HR HI HQ hbd
    generalize absI re = p at *
    generalize absI im = q at *
    generalize maxG (xs.take k) = m at *
    by_cases c1 : m < p
    ·by_cases c2 : p < q
     ·go_wp2_with (first | (go_at_call 55; with_reducible refine (HR.out _).mono ?_; rintro e wz ⟨rfl, rfl⟩) | (go_at_call 55; with_reducible refine (HI.out _).mono ?_; rintro e wz ⟨rfl, rfl⟩))
      go_roundw
      case rel => exact ⟨k + 1, by omega, by go_num, by rw [HQ.out]; congr 1; omega, hl.alloc _ _⟩
      case measure => simp [intOf]; omega
     ·go_wp2_with (first | (go_at_call 55; with_reducible refine (HR.out _).mono ?_; rintro e wz ⟨rfl, rfl⟩) | (go_at_call 55; with_reducible refine (HI.out _).mono ?_; rintro e wz ⟨rfl, rfl⟩))
      go_roundw
      case rel => exact ⟨k + 1, by omega, by go_num, by rw [HQ.out]; congr 1; omega, hl.alloc _ _⟩
      case measure => simp [intOf]; omega
    ·by_cases c2 : m < q
     ·go_wp2_with (first | (go_at_call 55; with_reducible refine (HR.out _).mono ?_; rintro e wz ⟨rfl, rfl⟩) | (go_at_call 55; with_reducible refine (HI.out _).mono ?_; rintro e wz ⟨rfl, rfl⟩))
      go_roundw
      case rel => exact ⟨k + 1, by omega, by go_num, by rw [HQ.out]; congr 1; omega, hl.alloc _ _⟩
      case measure => simp [intOf]; omega
     ·go_wp2_with (first | (go_at_call 55; with_reducible refine (HR.out _).mono ?_; rintro e wz ⟨rfl, rfl⟩) | (go_at_call 55; with_reducible refine (HI.out _).mono ?_; rintro e wz ⟨rfl, rfl⟩))
      go_roundw
      case rel => exact ⟨k + 1, by omega, by go_num, by rw [HQ.out]; congr 1; omega, hl.alloc _ _⟩
      case measure => simp [intOf]; omega
   ·obtain rfl : k = xs.length := by omega
    have HL := Lib.hid HA
    clear HA HC HB HS HT HZ
    go_wp2_with fail
    go_ret
    exact ⟨by rw [← HL.out]; rfl, hl⟩
set_option maxHeartbeats 1000000 in
theorem room09_c (m f b p : Int) (H : FB f b p) (h0 : 0 ≤ m) (h1 : m ≤ p) (w : World) :
 Calls Tryz.prog 29 #[.int .i64 m, .int .i64 f] w fun e w' => e = .returned (.int .i64 (room p m : Nat)) ∧ w' = w := by
 have HO := Lib.hid (rone_c f b p H)
 have hp := H.pos
 have ht : p.tdiv 2 = p / 2 := Int.tdiv_eq_ediv_of_nonneg (by omega)
 have HS := Lib.hid (roomTo_succ p m)
 have HZ : roomTo p m 0 = 0 := rfl
 have hr : room p m = roomTo p m 31 := rfl
 rw [hr]
 have HB := Lib.hid hp
 clear H hr
 obtain ⟨q, hq⟩ : ∃ q, p / 2 = q := ⟨_, rfl⟩
 rw [hq] at ht
 have hqb : q ≤ 1073741824 := by omega
 have hq0 : 0 ≤ q := by omega
 have HQ := Lib.hid hq
 go_enter Tryz.func29, Tryz.ntmps29
 go_wp2_with fail
 go_loop [5] (fun i => ∃ k : Nat, k ≤ 31 ∧ i = .int .i64 k ∧ roomTo p m 31 = roomTo p m k) (fun i => (intOf i).toNat)
 case atStart => exact ⟨31, by omega, rfl, rfl⟩
 case round =>
  obtain ⟨k, hk, rfl, he⟩ := hrel
  have HE := Lib.hid he
  clear he
  cases k with
  | zero =>
    rw [HZ] at HE
    clear HS HO
    go_wp2_with fail
    go_ret
    exact ⟨by rw [HE.out]; rfl, rfl⟩
  | succ j =>
    have HP := Lib.hid (pow_c ((j + 1 : Nat) : Int) (by omega) (by omega))
    have hs := HS.out j
    have hpow : (2 : Int) ^ (j + 1) ≤ 2147483648 := pow_le31 (j + 1) (by omega)
    have hpos : (0 : Int) < 2 ^ (j + 1) := pow_pos2 _
    rw [Int.toNat_natCast] at HP
    rw [hq] at hs
    have HE2 := Lib.hid (HE.out.trans hs)
    generalize (2 : Int) ^ (j + 1) = P at *
    clear HS HE hs hq HZ
    by_cases hm : 0 < m
    ·have hmul : m * P ≤ 4611686018427387904 := by
      have := Int.mul_le_mul (show m ≤ 2147483648 by omega) hpow (by omega) (by omega)
      omega
     have hmul0 : 0 ≤ m * P := Int.mul_nonneg (by omega) (by omega)
     obtain ⟨t, ht2⟩ : ∃ t, m * P = t := ⟨_, rfl⟩
     rw [ht2] at hmul hmul0
     have hw : wrap64 (m * P) = t := by rw [ht2]; exact IntWalk.wrap64_in _ (by omega)
     have HT2 := Lib.hid ht2
     clear ht2
     by_cases hle : t ≤ q
     ·have HF := Lib.hid (HE2.out.trans (if_pos ⟨hm, by rw [HT2.out]; exact hle⟩))
      clear HE2
      go_wp2_with (first | (go_at_call 26; refine (HP.out _).mono ?_; rintro e wz ⟨rfl, rfl⟩) | (go_at_call 27; refine (HO.out _).mono ?_; rintro e wz ⟨rfl, rfl⟩))
      go_ret
      exact ⟨by rw [HF.out]; rfl, rfl⟩
     ·have HF := Lib.hid (HE2.out.trans (if_neg (by rw [HT2.out]; exact fun h => hle h.2)))
      clear HE2
      go_wp2_with (first | (go_at_call 26; refine (HP.out _).mono ?_; rintro e wz ⟨rfl, rfl⟩) | (go_at_call 27; refine (HO.out _).mono ?_; rintro e wz ⟨rfl, rfl⟩))
      go_round
      case rel => exact ⟨j, by omega, by go_num, HF.out⟩
      case measure => simp [intOf] <;> omega
    ·have HF := Lib.hid (HE2.out.trans (if_neg (fun h => hm h.1)))
     clear HE2
     go_wp2_with fail
     go_round
     case rel => exact ⟨j, by omega, by go_num, HF.out⟩
     case measure => simp [intOf] <;> omega
end
section
open Go.ChangeShapes Go.WideShapes Go.ChangeAt Go.RowKit
set_option linter.unusedVariables false
theorem map_take_snoc {α β : Type} (f : α → β) {xs : List α} {k : Nat} {x : α} (h : xs[k]? = some x) : (xs.take (k + 1)).map f = (xs.take k).map f ++ [f x] := by
 rw [take_snoc h, List.map_append]; rfl
set_option maxRecDepth 10000 in set_option maxHeartbeats 4000000 in
theorem shifted09_c (v : Value) (xs : List Gi) (s mo : Int) (s0 : -62 ≤ s) (s1 : s ≤ 62) (m0 : 0 ≤ mo) (m1 : mo ≤ 2) (hb : ∀ a ∈ xs, (Lit.int .i64 a.re).wf = true ∧ (Lit.int .i64 a.im).wf = true)
 (hu : s < 0 → allIn (2 ^ (62 + s).toNat) xs = true) (hlm : xs.length ≤ 1048576) (w : World) (hv : CxsAt w v xs) :
 Calls Tryz.prog 60 #[v, .int .i64 s, .int .i64 mo] w fun e w' => ∃ v', e = .returned v' ∧ CxsAt w' v' (xs.map (shG s mo)) ∧ Gr w w' := by
 obtain ⟨i0, hi, hz0, hz1, hz2⟩ := info_parts info_cx
 by_cases hx : xs = []
 ·subst hx
  obtain ⟨p, cap, rfl⟩ := hv.len
  rw [show ([] : List Gi).length = 0 from rfl]
  clear hv hb hu
  go_enter Tryz.func60, Tryz.ntmps60
  go_wp2_with fail
  refine wp_loop_rounds 1 ?_
  rw [rounds_succ]
  go_wp2_with fail
  go_ret
  exact ⟨.slice (some ⟨w.heap.size, 0, none⟩) 0 0, rfl, ⟨_, 0, rfl, Nat.le_refl _, Nat.zero_le _, fun h => absurd rfl h⟩, (Gr.refl _).alloc _ _⟩
 ·obtain ⟨b, o, cap, rfl, hlen, hbb, hc⟩ := hv.at hx
  have HC := Lib.hid hc
  have HM := Lib.hid fun (k : Nat) (a : Gi) (h : xs[k]? = some a) => map_take_snoc (shG s mo) h
  have HT : (xs.take xs.length).map (shG s mo) = xs.map (shG s mo) := by rw [List.take_length]
  have HB := Lib.hid hb
  have HU := Lib.hid hu
  have HSH := Lib.hid fun (a : Gi) (ha : a ∈ xs) (h : 0 ≤ s) => rshift03_c a.re a.im s mo (bounds_i64 (hb a ha).1) (bounds_i64 (hb a ha).2) h s1 m0 m1
  clear hc hv hx hb hu
  go_enter Tryz.func60, Tryz.ntmps60
  go_wp2_with fail
  have hs0 : ((w.alloc (.cells #[] 58)).ownsRow w.heap.size 58 2 (.slice (some ⟨w.heap.size, 0, none⟩) 0 0) 0 []) := World.ownsRow_made w #[] 0 (Nat.le_refl _) (by unfold maxLen; omega) (by simp)
  go_loopw [7, 9, 10, 14] (fun out _ _ i wr => ∃ j : Nat, j ≤ xs.length ∧ i = .int .i64 j ∧ wr.ownsRow w.heap.size 58 2 out j (gcells ((xs.take j).map (shG s mo))) ∧ Gr w wr)
   (fun _ _ _ i _ => xs.length - (intOf i).toNat)
  case atStart => exact ⟨0, by omega, rfl, hs0, (Gr.refl _).alloc _ _⟩
  case round =>
   clear hs0
   obtain ⟨j, hj, rfl, hrow, hg⟩ := hrel
   by_cases hlt : j < xs.length
   ·obtain ⟨x, hx⟩ := get_of_lt hlt
    have h1 := (hg.cell (p := ⟨b, o + j * 2, none⟩) hbb).trans (HC.out j x hx).1
    have h2 := (hg.cell (p := ⟨b, o + j * 2 + 1, none⟩) hbb).trans (HC.out j x hx).2
    have hbl : b < wr.heap.size := Nat.lt_of_lt_of_le hbb hg.size
    have hmem := List.mem_of_getElem? hx
    have HM1 := Lib.hid (HM.out j x hx)
    have hgs := hg.size
    by_cases hs : 0 ≤ s
    ·have HSH1 := Lib.hid (HSH.out x hmem hs)
     have hv : shG s mo x = ⟨rnd x.re s.toNat mo, rnd x.im s.toNat mo⟩ := by unfold shG; rw [if_pos hs]
     rw [hv] at HM1
     generalize rnd x.re s.toNat mo = r0 at *
     generalize rnd x.im s.toNat mo = r1 at *
     obtain ⟨re, im⟩ := x
     simp only at h1 h2 HSH1
     clear hx hmem HC HM HT HB HU HSH hv
     go_wp2_with fail
     refine (HSH1.out _).mono ?_
     rintro e w2 ⟨rfl, hg2⟩
     have hrow2 := ownsRow_gr (hrow.alloc (.cells #[.int .i64 re, .int .i64 im] 58)) hg2
     have hg3 := (hg.alloc #[.int .i64 re, .int .i64 im] 58).trans hg2
     have hsz := hg3.size
     clear hrow hg hg2 HSH1
     go_wp2_with (at_builtin; refine wpList_append_own_at _ rfl (.tmp 20) (.tmp 25) 22 rfl w.heap.size 58 i0 (.agg #[.int .i64 0, .int .i64 0]) 2 16 Tryz.underlying22 hi hz0 hz1 hz2 rfl (by decide) _ _ _ rfl (hrow2.alloc _) ⟨w2.heap.size, 0, none⟩ 1 1 [.int .i64 r0, .int .i64 r1] rfl rfl (news_two _ _ _ _) (by simp [Value.oneCell']) (by unfold maxLen; omega) (by omega) (by simp; omega) ?_; intro v' w3 hown' hgrow _ hblk)
     have e : gcells ((xs.take j).map (shG s mo)) ++ [.int .i64 r0, .int .i64 r1] = gcells ((xs.take (j + 1)).map (shG s mo)) := by
      rw [HM1.out, gcells_snoc]
     rw [e] at hown'
     have hg4 := (hg3.allocO _).grown hgrow (fun k e => (hrow2.lt k e).1)
     go_roundw
     case rel => exact ⟨j + 1, by omega, by go_num, hown', hg4⟩
     case measure => simp [intOf] <;> omega
    ·have HP := Lib.hid (pow_c (-s) (by omega) (by omega))
     have hin := (allIn_iff _ _).1 (HU.out (by omega)) x hmem
     have hv : shG s mo x = ⟨x.re * 2 ^ (-s).toNat, x.im * 2 ^ (-s).toNat⟩ := by unfold shG; rw [if_neg hs]
     rw [hv] at HM1
     have hpp : (2 : Int) ^ (62 + s).toNat * 2 ^ (-s).toNat = 4611686018427387904 := by
      rw [← Int.pow_add, show (62 + s).toNat + (-s).toNat = 62 by omega]; rfl
     have hl0 := pow_pos2 (62 + s).toNat
     have hp0 := pow_pos2 (-s).toNat
     generalize (2 : Int) ^ (62 + s).toNat = l at *
     generalize (2 : Int) ^ (-s).toNat = P at *
     obtain ⟨re, im⟩ := x
     simp only at h1 h2 hin HM1
     have hre := absI_le.1 hin.1
     have him := absI_le.1 hin.2
     have b1 : re * P ≤ l * P := Int.mul_le_mul_of_nonneg_right hre.2 (by omega)
     have b2 : -l * P ≤ re * P := Int.mul_le_mul_of_nonneg_right hre.1 (by omega)
     have b3 : im * P ≤ l * P := Int.mul_le_mul_of_nonneg_right him.2 (by omega)
     have b4 : -l * P ≤ im * P := Int.mul_le_mul_of_nonneg_right him.1 (by omega)
     rw [Int.neg_mul] at b2 b4
     rw [hpp] at b1 b2 b3 b4
     obtain ⟨r0, hr0⟩ : ∃ r0, re * P = r0 := ⟨_, rfl⟩
     obtain ⟨r1, hr1⟩ : ∃ r1, im * P = r1 := ⟨_, rfl⟩
     rw [hr0, hr1] at HM1
     rw [hr0] at b1 b2
     rw [hr1] at b3 b4
     have hw0 : wrap64 (re * P) = r0 := by rw [hr0]; exact IntWalk.wrap64_in _ (by omega)
     have hw1 : wrap64 (im * P) = r1 := by rw [hr1]; exact IntWalk.wrap64_in _ (by omega)
     clear hx hmem HC HM HT HB HU HSH hv hpp hl0 hp0 hr0 hr1 b1 b2 b3 b4 hin hre him
     have hrow2 := hrow.alloc (.cells #[.int .i64 re, .int .i64 im] 58)
     have hg3 := (hg.alloc #[.int .i64 re, .int .i64 im] 58)
     have hsz := hg3.size
     clear hrow hg
     go_wp2_with (first
      | (go_at_call 26; refine (HP.out _).mono ?_; rintro e wz ⟨rfl, rfl⟩)
      | (at_builtin; refine wpList_append_own_at _ rfl (.tmp 30) (.tmp 40) 22 rfl w.heap.size 58 i0 (.agg #[.int .i64 0, .int .i64 0]) 2 16 Tryz.underlying22 hi hz0 hz1 hz2 rfl (by decide) _ _ _ rfl (hrow2.alloc _) ⟨wr.heap.size + 1, 0, none⟩ 1 1 [.int .i64 r0, .int .i64 r1] rfl rfl (by have := news_two (wr.alloc (.cells #[.int .i64 re, .int .i64 im] 58)) (.int .i64 r0) (.int .i64 r1) 58; rwa [World.size_alloc] at this) (by simp [Value.oneCell']) (by unfold maxLen; omega) (by omega) (by simp; omega) ?_; intro v' w3 hown' hgrow _ hblk))
     have e : gcells ((xs.take j).map (shG s mo)) ++ [.int .i64 r0, .int .i64 r1] = gcells ((xs.take (j + 1)).map (shG s mo)) := by
      rw [HM1.out, gcells_snoc]
     rw [e] at hown'
     have hg4 := (hg3.allocO _).grown hgrow (fun k e => (hrow2.lt k e).1)
     go_roundw
     case rel => exact ⟨j + 1, by omega, by go_num, hown', hg4⟩
     case measure => simp [intOf] <;> omega
   ·obtain rfl : j = xs.length := by omega
    have HL := Lib.hid HT
    clear HT HC HM HB HU HSH
    go_wp2_with fail
    go_ret
    refine ⟨_, rfl, ?_, hg⟩
    have := CxsAt.of_row hrow
    rw [HL.out] at this
    exact this
end
section
open Go.ChangeShapes Go.WideShapes Go.ChangeAt Go.RowKit
set_option linter.unusedVariables false
set_option maxRecDepth 100000
end
section
open Go.ChangeShapes Go.WideShapes Go.ChangeAt Go.RowKit
set_option linter.unusedVariables false
end
section
open Go.ChangeShapes Go.WideShapes Go.ChangeAt Go.RowKit
set_option linter.unusedVariables false
theorem root10_c (v : Value) (ws : List Gi) (k : Nat) (inv : Bool) (hk : k < ws.length) (hb : ∀ a ∈ ws, absI a.im ≤ 4611686018427387904) (w : World) (hv : CxsAt w v ws) :
 Calls Tryz.prog 85 #[v, .int .i64 k, .bool inv] w fun e w' => e = .returned (.agg #[.int .i64 (rootOf ws inv k).re, .int .i64 (rootOf ws inv k).im]) ∧ Gr w w' := by
 obtain ⟨x, hx⟩ := get_of_lt hk
 obtain ⟨b, o, cap, rfl, hlen, hbl, hc⟩ := hv.at (by intro e; rw [e] at hk; simp at hk)
 have h1 := (hc k x hx).1
 have h2 := (hc k x hx).2
 have hbd := absI_le.1 (hb x (List.mem_of_getElem? hx))
 have hg : ws.getD k ⟨0, 0⟩ = x := by rw [List.getD_eq_getElem?_getD, hx]; rfl
 have HC := Lib.hid (rconj_c x.re x.im (-x.im) (IntWalk.wrap64_in _ (by omega)))
 have hki : (k : Int) < ws.length := by omega
 unfold rootOf
 rw [hg]
 obtain ⟨re, im⟩ := x
 simp only at h1 h2 HC
 clear hc hv hb hbd hx hg
 cases inv
 ·simp only [Bool.false_eq_true, if_false]
  go_enter Tryz.func85, Tryz.ntmps85
  go_wp2_with fail
  refine bodyPost_ret (v := .agg #[.int .i64 re, .int .i64 im]) ?_ rfl ⟨rfl, ?_⟩
  ·simp [results, Tryz.results85, go_sem]
  ·exact by repeat (first | exact Gr.refl _ | assumption | apply Gr.drew | apply Gr.alloc | (refine Gr.setCell ?_ (by first | (simp; done) | (simp; omega)) _))
 ·simp only [if_true, Gi.conj]
  go_enter Tryz.func85, Tryz.ntmps85
  go_wp2_with fail
  have R0 := CellsAt.new w 58 #[.int .i64 0, .int .i64 0]
  have g0 := (Gr.refl w).alloc #[.int .i64 0, .int .i64 0] 58
  refine (HC.out _).mono ?_
  rintro e w2 ⟨rfl, g2⟩
  have R2 := R0.gr g2
  have gw := g0.trans g2
  have c0 := R2.cell 0
  have c1 := R2.cell 1
  have f0 := R2.frozen 0
  have f1 := R2.frozen 1
  have hl2 := R2.lt
  simp only [getS] at c0 c1
  clear R0 g0 R2 g2
  go_wp2_with fail
  refine bodyPost_ret (v := .agg #[.int .i64 re, .int .i64 (-im)]) ?_ rfl ⟨rfl, ?_⟩
  ·simp [results, Tryz.f85, go_sem, c0, c1]
  ·exact Gr.setCell (Gr.setCell gw (by simp) _) (by simp) _
end
section
open Go.ChangeShapes Go.WideShapes Go.ChangeAt Go.RowKit
set_option linter.unusedVariables false
end
end Go.Proofs.YtcgeabpibkejpaaGreat
