/- What reference 9's functions answer. · What reference 9's Max, Room, Pre, May, Up, Ups and Shifted answer. · What reference 9's Up, Ups and Shifted answer. -/
import Derived.Test.YtmhcbphkkcmecaaTwoMath
import Derived.Test.YtmhcbphkkcmecaaSat
import Derived.Test.YtmhcbphkkcmecaaCx4
import Derived.Test.YtmhcbphkkcmecaaCxs
import Derived.Maps.AppendAt
namespace Go.Proofs.Ytmhcbphkkcmecaa
open Go.ChangeShapes Go.WideShapes Go.ChangeAt Go.RowKit
set_option linter.unusedVariables false
set_option maxRecDepth 100000

/-- Reference 3's shift, in any mode. -/
theorem rshift03_c (x y s mo : Int) (wx : -9223372036854775808 ≤ x ∧ x ≤ 9223372036854775807) (wy : -9223372036854775808 ≤ y ∧ y ≤ 9223372036854775807) (s0 : 0 ≤ s) (s1 : s ≤ 62) (m0 : 0 ≤ mo) (m1 : mo ≤ 2) (w : World) :
    Calls Try.prog 36 #[.agg #[.int .i64 x, .int .i64 y], .int .i64 s, .int .i64 mo] w fun e w' => e = .returned (.agg #[.int .i64 (rnd x s.toNat mo), .int .i64 (rnd y s.toNat mo)]) ∧ Gr w w' := by
  have HX := Lib.hid (refShift_c x s mo wx s0 s1 m0 m1)
  have HY := Lib.hid (refShift_c y s mo wy s0 s1 m0 m1)
  generalize rnd x s.toNat mo = r0 at HX ⊢
  generalize rnd y s.toNat mo = r1 at HY ⊢
  clear wx wy s0 s1 m0 m1
  go_enter Try.func36, Try.ntmps36
  go_wp2_with fail
  go_region_held3 (fun W => W.cell? ⟨w.heap.size, 0, none⟩ = some (.int .i64 x) ∧ W.cell? ⟨w.heap.size, 1, none⟩ = some (.int .i64 y))
    (go_keep)
    (first | (go_at_call 62; ((with_reducible refine (HX.out _).mono ?_); rintro e w' ⟨rfl, rfl⟩)) | (go_at_call 62; ((with_reducible refine (HY.out _).mono ?_); rintro e w' ⟨rfl, rfl⟩)))
  go_wp2
  refine bodyPost_ret (v := .agg #[.int .i64 r0, .int .i64 r1]) ?_ rfl ⟨rfl, ?_⟩
  · simp [results, Try.results36, go_sem]
  · exact by repeat (first | exact Gr.refl _ | assumption | apply Gr.drew | apply Gr.alloc | (refine Gr.setCell ?_ (by first | (simp; done) | (simp; omega)) _))

set_option maxHeartbeats 2000000 in
theorem narrow09_c (v : Value) (xs : List Gi) (w : World) (hv : CxsAt w v xs) :
    Calls Try.prog 40 #[v] w fun e w' => e = .returned (.bool (allIn 2147483648 xs)) ∧ Gr w w' := by
  by_cases hx : xs = []
  · subst hx
    obtain ⟨p, cap, rfl⟩ := hv.len
    rw [show ([] : List Gi).length = 0 from rfl]
    clear hv
    go_enter Try.func40, Try.ntmps40
    go_wp2_with fail
    refine wp_loop_rounds 1 ?_
    rw [rounds_succ]
    go_wp2_with fail
    go_ret
    exact ⟨rfl, Gr.refl _⟩
  · obtain ⟨b, o, cap, rfl, hlen, hb, hc⟩ := hv.at hx
    have HC := Lib.hid hc
    have HP := Lib.hid rpow31
    have HN := Lib.hid fun (k : Nat) (a : Gi) (h : xs[k]? = some a) => allIn_no (l := 2147483648) h
    have HS := Lib.hid fun (k : Nat) (a : Gi) (h : xs[k]? = some a) => allIn_snoc (l := 2147483648) h
    have HA : allIn 2147483648 (xs.take xs.length) = allIn 2147483648 xs := by rw [List.take_length]
    clear hc hv hx
    go_enter Try.func40, Try.ntmps40
    go_wp2_with fail
    go_loopw [4, 7] (fun _ i wr => ∃ k : Nat, k ≤ xs.length ∧ i = .int .i64 k ∧ allIn 2147483648 (xs.take k) = true ∧ Gr w wr) (fun _ i _ => xs.length - (intOf i).toNat)
    case atStart => exact ⟨0, Nat.zero_le _, rfl, rfl, Gr.refl _⟩
    case round =>
      obtain ⟨k, hk, rfl, hall, hl⟩ := hrel
      by_cases hlt : k < xs.length
      · obtain ⟨x, hx⟩ := get_of_lt hlt
        have h1 := (hl.cell (p := ⟨b, o + k * 2, none⟩) hb).trans (HC.out k x hx).1
        have h2 := (hl.cell (p := ⟨b, o + k * 2 + 1, none⟩) hb).trans (HC.out k x hx).2
        have hbl : b < wr.heap.size := Nat.lt_of_lt_of_le hb hl.size
        have HW := Lib.hid (rwithin_c x.re x.im 2147483648 (by decide) (by decide))
        have HN1 := Lib.hid (HN.out k x hx)
        have HS1 := Lib.hid (HS.out k x hx hall)
        have hgs := hl.size
        obtain ⟨re, im⟩ := x
        simp only at h1 h2 HW HN1 HS1
        generalize (inB 2147483648 re && inB 2147483648 im) = q at HW HN1 HS1
        clear hx hall HA HN HS HC
        go_wp2_with fail
        obtain ⟨u, hU⟩ : ∃ u, u = wr.alloc (.cells #[.int .i64 re, .int .i64 im] 23) := ⟨_, rfl⟩
        have gu : Gr wr u := by rw [hU]; exact (Gr.refl wr).alloc _ _
        have zu : wr.heap.size < u.heap.size := by rw [hU]; simp
        have d0 : u.cell? ⟨wr.heap.size, 0, none⟩ = some (.int .i64 re) := by rw [hU]; go_simp
        have d1 : u.cell? ⟨wr.heap.size, 1, none⟩ = some (.int .i64 im) := by rw [hU]; go_simp
        rw [← hU]
        clear hU
        cases q
        · have HN2 := Lib.hid (HN1.out rfl)
          clear HN1 HS1
          go_region_held3 (fun W => W.cell? ⟨wr.heap.size, 0, none⟩ = some (.int .i64 re) ∧ W.cell? ⟨wr.heap.size, 1, none⟩ = some (.int .i64 im) ∧ Gr u W) (first | (go_split_ands; refine ⟨?_, ?_, ?_⟩; (all_goals (first | assumption | exact Gr.refl _ | exact Gr.drew (Gr.refl _) | exact Gr.drew (by assumption) | (go_keep; done) | ((refine (Gr.cell (by assumption) ?_).trans ?_ <;> (first | assumption)); done)))))
            (first | (go_at_call 14; refine (HP.out _).mono ?_; rintro e w' ⟨rfl, rfl⟩) | (go_at_call 13; go_split_ands; ((with_reducible refine (HW.out _).mono ?_); rintro e w' ⟨rfl, hg⟩; have hgw : Gr u w' := Gr.trans (by first | assumption | exact Gr.drew (Gr.refl _) | exact Gr.drew (by assumption) | exact Gr.refl _) hg)))
          go_wp2_with fail
          go_ret
          exact ⟨by rw [HN2.out]; rfl, (hl.trans gu).trans hgw⟩
        · have HS2 := Lib.hid (HS1.out rfl)
          clear HN1 HS1
          go_region_held3 (fun W => W.cell? ⟨wr.heap.size, 0, none⟩ = some (.int .i64 re) ∧ W.cell? ⟨wr.heap.size, 1, none⟩ = some (.int .i64 im) ∧ Gr u W) (first | (go_split_ands; refine ⟨?_, ?_, ?_⟩; (all_goals (first | assumption | exact Gr.refl _ | exact Gr.drew (Gr.refl _) | exact Gr.drew (by assumption) | (go_keep; done) | ((refine (Gr.cell (by assumption) ?_).trans ?_ <;> (first | assumption)); done)))))
            (first | (go_at_call 14; refine (HP.out _).mono ?_; rintro e w' ⟨rfl, rfl⟩) | (go_at_call 13; go_split_ands; ((with_reducible refine (HW.out _).mono ?_); rintro e w' ⟨rfl, hg⟩; have hgw : Gr u w' := Gr.trans (by first | assumption | exact Gr.drew (Gr.refl _) | exact Gr.drew (by assumption) | exact Gr.refl _) hg)))
          go_wp2_with fail
          go_roundw
          case rel => exact ⟨k + 1, by omega, by go_num, HS2.out, (hl.trans gu).trans hgw⟩
          case measure => simp [intOf]; omega
      · obtain rfl : k = xs.length := by omega
        rw [HA] at hall
        have HL := Lib.hid hall
        clear hall HA
        go_wp2_with fail
        go_ret
        exact ⟨by rw [HL.out]; rfl, hl⟩

end Go.Proofs.Ytmhcbphkkcmecaa

namespace Go.Proofs.Ytmhcbphkkcmecaa
open Go.ChangeShapes Go.WideShapes Go.ChangeAt Go.RowKit
set_option linter.unusedVariables false

end Go.Proofs.Ytmhcbphkkcmecaa

namespace Go.Proofs.Ytmhcbphkkcmecaa
open Go.ChangeShapes Go.WideShapes Go.ChangeAt Go.RowKit
set_option linter.unusedVariables false

theorem map_take_snoc {α β : Type} (f : α → β) {xs : List α} {k : Nat} {x : α} (h : xs[k]? = some x) : (xs.take (k + 1)).map f = (xs.take k).map f ++ [f x] := by
  rw [take_snoc h, List.map_append]; rfl

end Go.Proofs.Ytmhcbphkkcmecaa
