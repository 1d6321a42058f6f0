/- What reference 9's Max, Room, Pre, May, Up, Ups and Shifted answer. -/
import Derived.Test.YtmmhgcemkbgajaaRef09
namespace Go.Proofs.Ytmmhgcemkbgajaa
open Go.ChangeShapes Go.WideShapes Go.ChangeAt Go.RowKit
set_option linter.unusedVariables false

set_option maxHeartbeats 2000000 in
theorem max09_c (v : Value) (xs : List Gi) (hn : allIn 2147483648 xs = true) (w : World) (hv : CxsAt w v xs) :
    Calls Try.prog 10 #[v] w fun e w' => e = .returned (.int .i64 (maxG xs)) ∧ Gr w w' := by
  by_cases hx : xs = []
  · subst hx
    obtain ⟨p, cap, rfl⟩ := hv.len
    rw [show ([] : List Gi).length = 0 from rfl]
    clear hv
    go_enter Try.func10, Try.ntmps10
    go_wp2_with fail
    refine wp_loop_rounds 1 ?_
    rw [rounds_succ]
    go_wp2_with fail
    go_ret
    exact ⟨rfl, Gr.refl _⟩
  · obtain ⟨b, o, cap, rfl, hlen, hb, hc⟩ := hv.at hx
    have HC := Lib.hid hc
    have HB := Lib.hid ((allIn_iff _ _).1 hn)
    have HA : maxG (xs.take xs.length) = maxG xs := by rw [List.take_length]
    have HS := Lib.hid fun (k : Nat) (a : Gi) (h : xs[k]? = some a) => (by rw [take_snoc h, maxG_snoc] : maxG (xs.take (k + 1)) = mx (maxG (xs.take k)) a)
    have HT := Lib.hid fun (k : Nat) => (maxG_le (xs.take k) 2147483648 (by omega) (fun a ha => HB.out a (List.mem_of_mem_take ha)))
    have HZ := Lib.hid fun (k : Nat) => maxG_nonneg (xs.take k)
    clear hc hv hx hn
    go_enter Try.func10, Try.ntmps10
    go_wp2_with fail
    go_loopw [3, 5, 8] (fun m _ i wr => ∃ k : Nat, k ≤ xs.length ∧ i = .int .i64 k ∧ m = .int .i64 (maxG (xs.take k)) ∧ Gr w wr) (fun _ _ i _ => xs.length - (intOf i).toNat)
    case atStart => exact ⟨0, Nat.zero_le _, rfl, rfl, Gr.refl _⟩
    case round =>
      obtain ⟨k, hk, rfl, rfl, hl⟩ := hrel
      by_cases hlt : k < xs.length
      · obtain ⟨x, hx⟩ := get_of_lt hlt
        have h1 := (hl.cell (p := ⟨b, o + k * 2, none⟩) hb).trans (HC.out k x hx).1
        have h2 := (hl.cell (p := ⟨b, o + k * 2 + 1, none⟩) hb).trans (HC.out k x hx).2
        have hbl : b < wr.heap.size := Nat.lt_of_lt_of_le hb hl.size
        have hbd := HB.out x (List.mem_of_getElem? hx)
        have hr := absI_bd x.re
        have hi := absI_bd x.im
        have HR := Lib.hid (plain09_c x.re (by omega) (by omega))
        have HI := Lib.hid (plain09_c x.im (by omega) (by omega))
        have hs := HS.out k x hx
        have ht := HT.out k
        have hz := HZ.out k
        unfold mx at hs
        have HQ := Lib.hid hs
        clear hs hx HC HB HS HT HZ HA hr hi
        obtain ⟨re, im⟩ := x
        simp only at h1 h2 HR HI HQ hbd
        generalize absI re = p at *
        generalize absI im = q at *
        generalize maxG (xs.take k) = m at *
        by_cases c1 : m < p
        · by_cases c2 : p < q
          · go_wp2_with (first | (go_at_call 26; with_reducible refine (HR.out _).mono ?_; rintro e wz ⟨rfl, rfl⟩) | (go_at_call 26; with_reducible refine (HI.out _).mono ?_; rintro e wz ⟨rfl, rfl⟩))
            go_roundw
            case rel => exact ⟨k + 1, by omega, by go_num, by rw [HQ.out]; congr 1; omega, hl.alloc _ _⟩
            case measure => simp [intOf]; omega
          · go_wp2_with (first | (go_at_call 26; with_reducible refine (HR.out _).mono ?_; rintro e wz ⟨rfl, rfl⟩) | (go_at_call 26; with_reducible refine (HI.out _).mono ?_; rintro e wz ⟨rfl, rfl⟩))
            go_roundw
            case rel => exact ⟨k + 1, by omega, by go_num, by rw [HQ.out]; congr 1; omega, hl.alloc _ _⟩
            case measure => simp [intOf]; omega
        · by_cases c2 : m < q
          · go_wp2_with (first | (go_at_call 26; with_reducible refine (HR.out _).mono ?_; rintro e wz ⟨rfl, rfl⟩) | (go_at_call 26; with_reducible refine (HI.out _).mono ?_; rintro e wz ⟨rfl, rfl⟩))
            go_roundw
            case rel => exact ⟨k + 1, by omega, by go_num, by rw [HQ.out]; congr 1; omega, hl.alloc _ _⟩
            case measure => simp [intOf]; omega
          · go_wp2_with (first | (go_at_call 26; with_reducible refine (HR.out _).mono ?_; rintro e wz ⟨rfl, rfl⟩) | (go_at_call 26; with_reducible refine (HI.out _).mono ?_; rintro e wz ⟨rfl, rfl⟩))
            go_roundw
            case rel => exact ⟨k + 1, by omega, by go_num, by rw [HQ.out]; congr 1; omega, hl.alloc _ _⟩
            case measure => simp [intOf]; omega
      · obtain rfl : k = xs.length := by omega
        have HL := Lib.hid HA
        clear HA HC HB HS HT HZ
        go_wp2_with fail
        go_ret
        exact ⟨by rw [← HL.out]; rfl, hl⟩

theorem may09_yes (m f b p : Int) (H : FB f b p) (h0 : 0 ≤ m) (h1 : m ≤ p) (w : World) :
    Calls Try.prog 13 #[.int .i64 m, .int .i64 f] w fun e w' => e = .returned (.bool true) ∧ w' = w := by
  have HO := Lib.hid (rone_c f b p H)
  clear H
  go_enter Try.func13, Try.ntmps13
  go_wp2_with (go_at_call 29; refine (HO.out _).mono ?_; rintro e wz ⟨rfl, rfl⟩)
  go_ret
  exact ⟨by simp <;> omega, rfl⟩
theorem may09_no (m f b p : Int) (H : FB f b p) (h : m < 0 ∨ p < m) (w : World) :
    Calls Try.prog 13 #[.int .i64 m, .int .i64 f] w fun e w' => e = .returned (.bool false) ∧ w' = w := by
  have HO := Lib.hid (rone_c f b p H)
  clear H
  by_cases h0 : m < 0
  · clear h
    go_enter Try.func13, Try.ntmps13
    go_wp2_with (go_at_call 29; refine (HO.out _).mono ?_; rintro e wz ⟨rfl, rfl⟩)
    go_ret
    exact ⟨by simp <;> omega, rfl⟩
  · have h1 : p < m := by omega
    clear h
    go_enter Try.func13, Try.ntmps13
    go_wp2_with (go_at_call 29; refine (HO.out _).mono ?_; rintro e wz ⟨rfl, rfl⟩)
    go_ret
    exact ⟨by simp <;> omega, rfl⟩

set_option maxHeartbeats 1000000 in
theorem room09_c (m f b p : Int) (H : FB f b p) (h0 : 0 ≤ m) (h1 : m ≤ p) (w : World) :
    Calls Try.prog 15 #[.int .i64 m, .int .i64 f] w fun e w' => e = .returned (.int .i64 (room p m : Nat)) ∧ w' = w := by
  have HO := Lib.hid (rone_c f b p H)
  have hp := H.pos
  have ht : p.tdiv 2 = p / 2 := Int.tdiv_eq_ediv_of_nonneg (by omega)
  have HS := Lib.hid (roomTo_succ p m)
  have HZ : roomTo p m 0 = 0 := rfl
  have hr : room p m = roomTo p m 31 := rfl
  rw [hr]
  have HB := Lib.hid hp
  clear H hr
  obtain ⟨q, hq⟩ : ∃ q, p / 2 = q := ⟨_, rfl⟩
  rw [hq] at ht
  have hqb : q ≤ 1073741824 := by omega
  have hq0 : 0 ≤ q := by omega
  have HQ := Lib.hid hq
  go_enter Try.func15, Try.ntmps15
  go_wp2_with fail
  go_loop [5] (fun i => ∃ k : Nat, k ≤ 31 ∧ i = .int .i64 k ∧ roomTo p m 31 = roomTo p m k) (fun i => (intOf i).toNat)
  case atStart => exact ⟨31, by omega, rfl, rfl⟩
  case round =>
    obtain ⟨k, hk, rfl, he⟩ := hrel
    have HE := Lib.hid he
    clear he
    cases k with
    | zero =>
      rw [HZ] at HE
      clear HS HO
      go_wp2_with fail
      go_ret
      exact ⟨by rw [HE.out]; rfl, rfl⟩
    | succ j =>
      have HP := Lib.hid (pow_c ((j + 1 : Nat) : Int) (by omega) (by omega))
      have hs := HS.out j
      have hpow : (2 : Int) ^ (j + 1) ≤ 2147483648 := pow_le31 (j + 1) (by omega)
      have hpos : (0 : Int) < 2 ^ (j + 1) := pow_pos2 _
      rw [Int.toNat_natCast] at HP
      rw [hq] at hs
      have HE2 := Lib.hid (HE.out.trans hs)
      generalize (2 : Int) ^ (j + 1) = P at *
      clear HS HE hs hq HZ
      by_cases hm : 0 < m
      · have hmul : m * P ≤ 4611686018427387904 := by
          have := Int.mul_le_mul (show m ≤ 2147483648 by omega) hpow (by omega) (by omega)
          omega
        have hmul0 : 0 ≤ m * P := Int.mul_nonneg (by omega) (by omega)
        obtain ⟨t, ht2⟩ : ∃ t, m * P = t := ⟨_, rfl⟩
        rw [ht2] at hmul hmul0
        have hw : wrap64 (m * P) = t := by rw [ht2]; exact IntWalk.wrap64_in _ (by omega)
        have HT2 := Lib.hid ht2
        clear ht2
        by_cases hle : t ≤ q
        · have HF := Lib.hid (HE2.out.trans (if_pos ⟨hm, by rw [HT2.out]; exact hle⟩))
          clear HE2
          go_wp2_with (first | (go_at_call 25; refine (HP.out _).mono ?_; rintro e wz ⟨rfl, rfl⟩) | (go_at_call 29; refine (HO.out _).mono ?_; rintro e wz ⟨rfl, rfl⟩))
          go_ret
          exact ⟨by rw [HF.out]; rfl, rfl⟩
        · have HF := Lib.hid (HE2.out.trans (if_neg (by rw [HT2.out]; exact fun h => hle h.2)))
          clear HE2
          go_wp2_with (first | (go_at_call 25; refine (HP.out _).mono ?_; rintro e wz ⟨rfl, rfl⟩) | (go_at_call 29; refine (HO.out _).mono ?_; rintro e wz ⟨rfl, rfl⟩))
          go_round
          case rel => exact ⟨j, by omega, by go_num, HF.out⟩
          case measure => simp [intOf] <;> omega
      · have HF := Lib.hid (HE2.out.trans (if_neg (fun h => hm h.1)))
        clear HE2
        go_wp2_with fail
        go_round
        case rel => exact ⟨j, by omega, by go_num, HF.out⟩
        case measure => simp [intOf] <;> omega

theorem pre09_c (kernel m f b p : Int) (H : FB f b p) (hk : kernel = 2 ∨ kernel = 4) (h0 : 0 ≤ m) (h1 : m ≤ p) (w : World) :
    Calls Try.prog 16 #[.int .i64 kernel, .int .i64 m, .int .i64 f] w fun e w' => e = .returned (.int .i64 (preOf kernel p m)) ∧ w' = w := by
  have hp := H.pos
  have HO := Lib.hid (rone_c f b p H)
  have e8 : p.tdiv 8 = p / 8 := Int.tdiv_eq_ediv_of_nonneg (by omega)
  have e4 : p.tdiv 4 = p / 4 := Int.tdiv_eq_ediv_of_nonneg (by omega)
  have e2 : p.tdiv 2 = p / 2 := Int.tdiv_eq_ediv_of_nonneg (by omega)
  have d84 : p / 8 ≤ p / 4 ∧ p / 4 ≤ p / 2 ∧ 0 ≤ p / 8 ∧ p / 2 ≤ 1073741824 := by omega
  clear H hp
  have two : ∀ W, Calls Try.prog 16 #[.int .i64 2, .int .i64 m, .int .i64 f] W fun e w' => e = .returned (.int .i64 (preOf 2 p m)) ∧ w' = W := by
    intro w
    unfold preOf
    rw [if_neg (by omega)]
    generalize p / 8 = p8 at *
    generalize p / 4 = p4 at *
    generalize p / 2 = p2 at *
    by_cases c1 : m ≤ p4
    · rw [if_pos c1]
      go_enter Try.func16, Try.ntmps16
      go_wp2_with (go_at_call 29; refine (HO.out _).mono ?_; rintro e wz ⟨rfl, rfl⟩)
      go_ret
      exact ⟨rfl, rfl⟩
    · by_cases c2 : m ≤ p2
      · rw [if_neg c1, if_pos c2]
        go_enter Try.func16, Try.ntmps16
        go_wp2_with (go_at_call 29; refine (HO.out _).mono ?_; rintro e wz ⟨rfl, rfl⟩)
        go_ret
        exact ⟨rfl, rfl⟩
      · rw [if_neg c1, if_neg c2]
        go_enter Try.func16, Try.ntmps16
        go_wp2_with (go_at_call 29; refine (HO.out _).mono ?_; rintro e wz ⟨rfl, rfl⟩)
        go_ret
        exact ⟨rfl, rfl⟩
  rcases hk with rfl | rfl
  · exact two w
  · have HT := Lib.hid two
    have hb : 0 ≤ preOf 2 p m ∧ preOf 2 p m ≤ 2 := by unfold preOf; rw [if_neg (by omega)]; split <;> (try split) <;> omega
    have hv : preOf 4 p m = if m ≤ p / 8 then 0 else 1 + preOf 2 p m := by unfold preOf; rw [if_pos rfl, if_neg (show ¬ (2 : Int) = 4 by omega)]
    rw [hv]
    clear two hv
    generalize preOf 2 p m = t at *
    generalize p / 8 = p8 at *
    by_cases c : m ≤ p8
    · rw [if_pos c]
      go_enter Try.func16, Try.ntmps16
      go_wp2_with (go_at_call 29; refine (HO.out _).mono ?_; rintro e wz ⟨rfl, rfl⟩)
      go_ret
      exact ⟨rfl, rfl⟩
    · rw [if_neg c]
      go_enter Try.func16, Try.ntmps16
      go_wp2_with (first | (go_at_call 29; refine (HO.out _).mono ?_; rintro e wz ⟨rfl, rfl⟩) | (go_at_call 16; refine (HT.out _).mono ?_; rintro e wz ⟨rfl, rfl⟩))
      go_ret
      exact ⟨rfl, rfl⟩

end Go.Proofs.Ytmmhgcemkbgajaa
