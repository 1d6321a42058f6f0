/- What reference 9's functions answer. · What reference 9's Max, Room, Pre, May, Up, Ups and Shifted answer. · What reference 9's Up, Ups and Shifted answer. -/
import Derived.Test.YtpkkokcidbcopaaGreatTwoMath
import Derived.Test.YtpkkokcidbcopaaGreatSat
import Derived.Test.YtpkkokcidbcopaaGreatCx4
import Derived.Test.YtpkkokcidbcopaaGreatCxs
import Derived.Maps.AppendAt
namespace Go.Proofs.YtpkkokcidbcopaaGreat
open Go.ChangeShapes Go.WideShapes Go.ChangeAt Go.RowKit
set_option linter.unusedVariables false
set_option maxRecDepth 100000

theorem plain09_c (n : Int) (h0 : -9223372036854775807 ≤ n) (h1 : n ≤ 9223372036854775807) (w : World) :
    Calls Tryz.prog 43 #[.int .i64 n] w fun e w' => e = .returned (.int .i64 (absI n)) ∧ w' = w := by
  unfold absI
  by_cases h : n < 0
  · rw [if_pos h]
    go_enter Tryz.func43, Tryz.ntmps43
    go_wp2
    go_ret
    exact ⟨by simp, rfl⟩
  · rw [if_neg h]
    go_enter Tryz.func43, Tryz.ntmps43
    go_wp2
    go_ret
    exact ⟨rfl, rfl⟩

/-- Reference 3's shift, in any mode. -/
theorem rshift03_c (x y s mo : Int) (wx : -9223372036854775808 ≤ x ∧ x ≤ 9223372036854775807) (wy : -9223372036854775808 ≤ y ∧ y ≤ 9223372036854775807) (s0 : 0 ≤ s) (s1 : s ≤ 62) (m0 : 0 ≤ mo) (m1 : mo ≤ 2) (w : World) :
    Calls Tryz.prog 64 #[.agg #[.int .i64 x, .int .i64 y], .int .i64 s, .int .i64 mo] w fun e w' => e = .returned (.agg #[.int .i64 (rnd x s.toNat mo), .int .i64 (rnd y s.toNat mo)]) ∧ Gr w w' := by
  have HX := Lib.hid (refShift_c x s mo wx s0 s1 m0 m1)
  have HY := Lib.hid (refShift_c y s mo wy s0 s1 m0 m1)
  generalize rnd x s.toNat mo = r0 at HX ⊢
  generalize rnd y s.toNat mo = r1 at HY ⊢
  clear wx wy s0 s1 m0 m1
  go_enter Tryz.func64, Tryz.ntmps64
  go_wp2_with fail
  go_region_held3 (fun W => W.cell? ⟨w.heap.size, 0, none⟩ = some (.int .i64 x) ∧ W.cell? ⟨w.heap.size, 1, none⟩ = some (.int .i64 y))
    (go_keep)
    (first | (go_at_call 79; ((with_reducible refine (HX.out _).mono ?_); rintro e w' ⟨rfl, rfl⟩)) | (go_at_call 79; ((with_reducible refine (HY.out _).mono ?_); rintro e w' ⟨rfl, rfl⟩)))
  go_wp2
  refine bodyPost_ret (v := .agg #[.int .i64 r0, .int .i64 r1]) ?_ rfl ⟨rfl, ?_⟩
  · simp [results, Tryz.results64, go_sem]
  · exact by repeat (first | exact Gr.refl _ | assumption | apply Gr.drew | apply Gr.alloc | (refine Gr.setCell ?_ (by first | (simp; done) | (simp; omega)) _))

set_option maxHeartbeats 2000000 in
theorem narrow09_c (v : Value) (xs : List Gi) (w : World) (hv : CxsAt w v xs) :
    Calls Tryz.prog 21 #[v] w fun e w' => e = .returned (.bool (allIn 2147483648 xs)) ∧ Gr w w' := by
  by_cases hx : xs = []
  · subst hx
    obtain ⟨p, cap, rfl⟩ := hv.len
    rw [show ([] : List Gi).length = 0 from rfl]
    clear hv
    go_enter Tryz.func21, Tryz.ntmps21
    go_wp2_with fail
    refine wp_loop_rounds 1 ?_
    rw [rounds_succ]
    go_wp2_with fail
    go_ret
    exact ⟨rfl, Gr.refl _⟩
  · obtain ⟨b, o, cap, rfl, hlen, hb, hc⟩ := hv.at hx
    have HC := Lib.hid hc
    have HP := Lib.hid rpow31
    have HN := Lib.hid fun (k : Nat) (a : Gi) (h : xs[k]? = some a) => allIn_no (l := 2147483648) h
    have HS := Lib.hid fun (k : Nat) (a : Gi) (h : xs[k]? = some a) => allIn_snoc (l := 2147483648) h
    have HA : allIn 2147483648 (xs.take xs.length) = allIn 2147483648 xs := by rw [List.take_length]
    clear hc hv hx
    go_enter Tryz.func21, Tryz.ntmps21
    go_wp2_with fail
    go_loopw [4, 7] (fun _ i wr => ∃ k : Nat, k ≤ xs.length ∧ i = .int .i64 k ∧ allIn 2147483648 (xs.take k) = true ∧ Gr w wr) (fun _ i _ => xs.length - (intOf i).toNat)
    case atStart => exact ⟨0, Nat.zero_le _, rfl, rfl, Gr.refl _⟩
    case round =>
      obtain ⟨k, hk, rfl, hall, hl⟩ := hrel
      by_cases hlt : k < xs.length
      · obtain ⟨x, hx⟩ := get_of_lt hlt
        have h1 := (hl.cell (p := ⟨b, o + k * 2, none⟩) hb).trans (HC.out k x hx).1
        have h2 := (hl.cell (p := ⟨b, o + k * 2 + 1, none⟩) hb).trans (HC.out k x hx).2
        have hbl : b < wr.heap.size := Nat.lt_of_lt_of_le hb hl.size
        have HW := Lib.hid (rwithin_c x.re x.im 2147483648 (by decide) (by decide))
        have HN1 := Lib.hid (HN.out k x hx)
        have HS1 := Lib.hid (HS.out k x hx hall)
        have hgs := hl.size
        obtain ⟨re, im⟩ := x
        simp only at h1 h2 HW HN1 HS1
        generalize (inB 2147483648 re && inB 2147483648 im) = q at HW HN1 HS1
        clear hx hall HA HN HS HC
        go_wp2_with fail
        obtain ⟨u, hU⟩ : ∃ u, u = wr.alloc (.cells #[.int .i64 re, .int .i64 im] 24) := ⟨_, rfl⟩
        have gu : Gr wr u := by rw [hU]; exact (Gr.refl wr).alloc _ _
        have zu : wr.heap.size < u.heap.size := by rw [hU]; simp
        have d0 : u.cell? ⟨wr.heap.size, 0, none⟩ = some (.int .i64 re) := by rw [hU]; go_simp
        have d1 : u.cell? ⟨wr.heap.size, 1, none⟩ = some (.int .i64 im) := by rw [hU]; go_simp
        rw [← hU]
        clear hU
        cases q
        · have HN2 := Lib.hid (HN1.out rfl)
          clear HN1 HS1
          go_region_held3 (fun W => W.cell? ⟨wr.heap.size, 0, none⟩ = some (.int .i64 re) ∧ W.cell? ⟨wr.heap.size, 1, none⟩ = some (.int .i64 im) ∧ Gr u W) (first | (go_split_ands; refine ⟨?_, ?_, ?_⟩; (all_goals (first | assumption | exact Gr.refl _ | exact Gr.drew (Gr.refl _) | exact Gr.drew (by assumption) | (go_keep; done) | ((refine (Gr.cell (by assumption) ?_).trans ?_ <;> (first | assumption)); done)))))
            (first | (go_at_call 40; refine (HP.out _).mono ?_; rintro e w' ⟨rfl, rfl⟩) | (go_at_call 41; go_split_ands; ((with_reducible refine (HW.out _).mono ?_); rintro e w' ⟨rfl, hg⟩; have hgw : Gr u w' := Gr.trans (by first | assumption | exact Gr.drew (Gr.refl _) | exact Gr.drew (by assumption) | exact Gr.refl _) hg)))
          go_wp2_with fail
          go_ret
          exact ⟨by rw [HN2.out]; rfl, (hl.trans gu).trans hgw⟩
        · have HS2 := Lib.hid (HS1.out rfl)
          clear HN1 HS1
          go_region_held3 (fun W => W.cell? ⟨wr.heap.size, 0, none⟩ = some (.int .i64 re) ∧ W.cell? ⟨wr.heap.size, 1, none⟩ = some (.int .i64 im) ∧ Gr u W) (first | (go_split_ands; refine ⟨?_, ?_, ?_⟩; (all_goals (first | assumption | exact Gr.refl _ | exact Gr.drew (Gr.refl _) | exact Gr.drew (by assumption) | (go_keep; done) | ((refine (Gr.cell (by assumption) ?_).trans ?_ <;> (first | assumption)); done)))))
            (first | (go_at_call 40; refine (HP.out _).mono ?_; rintro e w' ⟨rfl, rfl⟩) | (go_at_call 41; go_split_ands; ((with_reducible refine (HW.out _).mono ?_); rintro e w' ⟨rfl, hg⟩; have hgw : Gr u w' := Gr.trans (by first | assumption | exact Gr.drew (Gr.refl _) | exact Gr.drew (by assumption) | exact Gr.refl _) hg)))
          go_wp2_with fail
          go_roundw
          case rel => exact ⟨k + 1, by omega, by go_num, HS2.out, (hl.trans gu).trans hgw⟩
          case measure => simp [intOf]; omega
      · obtain rfl : k = xs.length := by omega
        rw [HA] at hall
        have HL := Lib.hid hall
        clear hall HA
        go_wp2_with fail
        go_ret
        exact ⟨by rw [HL.out]; rfl, hl⟩

end Go.Proofs.YtpkkokcidbcopaaGreat

namespace Go.Proofs.YtpkkokcidbcopaaGreat
open Go.ChangeShapes Go.WideShapes Go.ChangeAt Go.RowKit
set_option linter.unusedVariables false

set_option maxHeartbeats 2000000 in
theorem max09_c (v : Value) (xs : List Gi) (hn : allIn 2147483648 xs = true) (w : World) (hv : CxsAt w v xs) :
    Calls Tryz.prog 23 #[v] w fun e w' => e = .returned (.int .i64 (maxG xs)) ∧ Gr w w' := by
  by_cases hx : xs = []
  · subst hx
    obtain ⟨p, cap, rfl⟩ := hv.len
    rw [show ([] : List Gi).length = 0 from rfl]
    clear hv
    go_enter Tryz.func23, Tryz.ntmps23
    go_wp2_with fail
    refine wp_loop_rounds 1 ?_
    rw [rounds_succ]
    go_wp2_with fail
    go_ret
    exact ⟨rfl, Gr.refl _⟩
  · obtain ⟨b, o, cap, rfl, hlen, hb, hc⟩ := hv.at hx
    have HC := Lib.hid hc
    have HB := Lib.hid ((allIn_iff _ _).1 hn)
    have HA : maxG (xs.take xs.length) = maxG xs := by rw [List.take_length]
    have HS := Lib.hid fun (k : Nat) (a : Gi) (h : xs[k]? = some a) => (by rw [take_snoc h, maxG_snoc] : maxG (xs.take (k + 1)) = mx (maxG (xs.take k)) a)
    have HT := Lib.hid fun (k : Nat) => (maxG_le (xs.take k) 2147483648 (by omega) (fun a ha => HB.out a (List.mem_of_mem_take ha)))
    have HZ := Lib.hid fun (k : Nat) => maxG_nonneg (xs.take k)
    clear hc hv hx hn
    go_enter Tryz.func23, Tryz.ntmps23
    go_wp2_with fail
    go_loopw [3, 5, 8] (fun m _ i wr => ∃ k : Nat, k ≤ xs.length ∧ i = .int .i64 k ∧ m = .int .i64 (maxG (xs.take k)) ∧ Gr w wr) (fun _ _ i _ => xs.length - (intOf i).toNat)
    case atStart => exact ⟨0, Nat.zero_le _, rfl, rfl, Gr.refl _⟩
    case round =>
      obtain ⟨k, hk, rfl, rfl, hl⟩ := hrel
      by_cases hlt : k < xs.length
      · obtain ⟨x, hx⟩ := get_of_lt hlt
        have h1 := (hl.cell (p := ⟨b, o + k * 2, none⟩) hb).trans (HC.out k x hx).1
        have h2 := (hl.cell (p := ⟨b, o + k * 2 + 1, none⟩) hb).trans (HC.out k x hx).2
        have hbl : b < wr.heap.size := Nat.lt_of_lt_of_le hb hl.size
        have hbd := HB.out x (List.mem_of_getElem? hx)
        have hr := absI_bd x.re
        have hi := absI_bd x.im
        have HR := Lib.hid (plain09_c x.re (by omega) (by omega))
        have HI := Lib.hid (plain09_c x.im (by omega) (by omega))
        have hs := HS.out k x hx
        have ht := HT.out k
        have hz := HZ.out k
        unfold mx at hs
        have HQ := Lib.hid hs
        clear hs hx HC HB HS HT HZ HA hr hi
        obtain ⟨re, im⟩ := x
        simp only at h1 h2 HR HI HQ hbd
        generalize absI re = p at *
        generalize absI im = q at *
        generalize maxG (xs.take k) = m at *
        by_cases c1 : m < p
        · by_cases c2 : p < q
          · go_wp2_with (first | (go_at_call 43; with_reducible refine (HR.out _).mono ?_; rintro e wz ⟨rfl, rfl⟩) | (go_at_call 43; with_reducible refine (HI.out _).mono ?_; rintro e wz ⟨rfl, rfl⟩))
            go_roundw
            case rel => exact ⟨k + 1, by omega, by go_num, by rw [HQ.out]; congr 1; omega, hl.alloc _ _⟩
            case measure => simp [intOf]; omega
          · go_wp2_with (first | (go_at_call 43; with_reducible refine (HR.out _).mono ?_; rintro e wz ⟨rfl, rfl⟩) | (go_at_call 43; with_reducible refine (HI.out _).mono ?_; rintro e wz ⟨rfl, rfl⟩))
            go_roundw
            case rel => exact ⟨k + 1, by omega, by go_num, by rw [HQ.out]; congr 1; omega, hl.alloc _ _⟩
            case measure => simp [intOf]; omega
        · by_cases c2 : m < q
          · go_wp2_with (first | (go_at_call 43; with_reducible refine (HR.out _).mono ?_; rintro e wz ⟨rfl, rfl⟩) | (go_at_call 43; with_reducible refine (HI.out _).mono ?_; rintro e wz ⟨rfl, rfl⟩))
            go_roundw
            case rel => exact ⟨k + 1, by omega, by go_num, by rw [HQ.out]; congr 1; omega, hl.alloc _ _⟩
            case measure => simp [intOf]; omega
          · go_wp2_with (first | (go_at_call 43; with_reducible refine (HR.out _).mono ?_; rintro e wz ⟨rfl, rfl⟩) | (go_at_call 43; with_reducible refine (HI.out _).mono ?_; rintro e wz ⟨rfl, rfl⟩))
            go_roundw
            case rel => exact ⟨k + 1, by omega, by go_num, by rw [HQ.out]; congr 1; omega, hl.alloc _ _⟩
            case measure => simp [intOf]; omega
      · obtain rfl : k = xs.length := by omega
        have HL := Lib.hid HA
        clear HA HC HB HS HT HZ
        go_wp2_with fail
        go_ret
        exact ⟨by rw [← HL.out]; rfl, hl⟩

end Go.Proofs.YtpkkokcidbcopaaGreat

namespace Go.Proofs.YtpkkokcidbcopaaGreat
open Go.ChangeShapes Go.WideShapes Go.ChangeAt Go.RowKit
set_option linter.unusedVariables false

theorem map_take_snoc {α β : Type} (f : α → β) {xs : List α} {k : Nat} {x : α} (h : xs[k]? = some x) : (xs.take (k + 1)).map f = (xs.take k).map f ++ [f x] := by
  rw [take_snoc h, List.map_append]; rfl

end Go.Proofs.YtpkkokcidbcopaaGreat
