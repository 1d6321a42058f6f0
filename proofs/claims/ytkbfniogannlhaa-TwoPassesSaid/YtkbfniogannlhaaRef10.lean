/- What reference 10's functions on settings, roots and halves answer. -/
import Derived.Test.YtkbfniogannlhaaTwoMath
import Derived.Test.YtkbfniogannlhaaRef09c
namespace Go.Proofs.Ytkbfniogannlhaa
open Go.ChangeShapes Go.WideShapes Go.ChangeAt Go.RowKit
set_option linter.unusedVariables false

/-- May bits, a shift and a mode be? -/
def SetsOk (b s mo : Int) : Prop := (0 ≤ b ∧ b ≤ 29) ∧ (0 ≤ s ∧ s ≤ 3) ∧ 0 ≤ mo ∧ mo ≤ 2

theorem settings10_yes (b s mo : Int) (h : SetsOk b s mo) (w : World) :
    Calls Try.prog 9 #[.int .i64 b, .int .i64 s, .int .i64 mo] w fun e w' => e = .returned (.bool true) ∧ w' = w := by
  obtain ⟨⟨h1, h2⟩, ⟨h3, h4⟩, h5, h6⟩ := h
  go_enter Try.func9, Try.ntmps9
  go_wp2_with fail
  go_ret
  exact ⟨by simp <;> omega, rfl⟩

theorem settings10_no (b s mo : Int) (h : ¬ SetsOk b s mo) (w : World) :
    Calls Try.prog 9 #[.int .i64 b, .int .i64 s, .int .i64 mo] w fun e w' => e = .returned (.bool false) ∧ w' = w := by
  unfold SetsOk at h
  have hc : b < 0 ∨ (0 ≤ b ∧ 29 < b) ∨ (0 ≤ b ∧ b ≤ 29 ∧ s < 0) ∨ (0 ≤ b ∧ b ≤ 29 ∧ 0 ≤ s ∧ 3 < s) ∨ (0 ≤ b ∧ b ≤ 29 ∧ 0 ≤ s ∧ s ≤ 3 ∧ mo < 0) ∨ (0 ≤ b ∧ b ≤ 29 ∧ 0 ≤ s ∧ s ≤ 3 ∧ 0 ≤ mo ∧ 2 < mo) := by omega
  clear h
  rcases hc with h1 | ⟨h1, h2⟩ | ⟨h1, h2, h3⟩ | ⟨h1, h2, h3, h4⟩ | ⟨h1, h2, h3, h4, h5⟩ | ⟨h1, h2, h3, h4, h5, h6⟩
  all_goals
    go_enter Try.func9, Try.ntmps9
    go_wp2_with fail
    go_ret
    exact ⟨by simp <;> omega, rfl⟩

theorem pow08_c' (k : Nat) (p : Int) (h : (2 : Int) ^ k = p) (h1 : k ≤ 62) (w : World) :
    Calls Try.prog 8 #[.int .i64 (k : Int)] w fun e w' => e = .returned (.int .i64 p) ∧ w' = w := by
  have := pow_c (k : Int) (by omega) (by omega) w
  rwa [Int.toNat_natCast, h] at this

theorem scale10_c (x y : Int) (bits : Nat) (P r0 r1 : Int) (hb : bits ≤ 29) (hP : (2 : Int) ^ bits = P) (h0 : wrap64 (x * P) = r0) (h1 : wrap64 (y * P) = r1) (w : World) :
    Calls Try.prog 25 #[.agg #[.int .i64 x, .int .i64 y], .int .i64 bits] w fun e w' => e = .returned (.agg #[.int .i64 r0, .int .i64 r1]) ∧ Gr w w' := by
  have HP := Lib.hid (pow08_c' bits P hP (by omega))
  clear hP hb
  go_enter Try.func25, Try.ntmps25
  go_wp2_with (go_at_call 8; refine (HP.out _).mono ?_; rintro e wz ⟨rfl, rfl⟩)
  refine bodyPost_ret (v := .agg #[.int .i64 r0, .int .i64 r1]) ?_ rfl ⟨rfl, ?_⟩
  · simp [results, Try.results25, go_sem]
  · exact by repeat (first | exact Gr.refl _ | assumption | apply Gr.drew | apply Gr.alloc | (refine Gr.setCell ?_ (by first | (simp; done) | (simp; omega)) _))

/-- Which halves may be. -/
def HalfOk (h : Int) (n : Nat) : Prop := ∃ k : Nat, 2 ^ k < n ∧ h = ((2 ^ k : Nat) : Int)

set_option maxHeartbeats 1000000 in
theorem half10_c (h : Int) (n : Nat) (hn : n ≤ 70) (b : Bool) (hb : b = true ↔ HalfOk h n) (w : World) :
    Calls Try.prog 16 #[.int .i64 h, .int .i64 n] w fun e w' => e = .returned (.bool b) ∧ w' = w := by
  have HB := Lib.hid hb
  clear hb
  go_enter Try.func16, Try.ntmps16
  go_wp2_with fail
  go_loop [5] (fun v => ∃ j p : Nat, j ≤ 7 ∧ p = 2 ^ j ∧ p ≤ 128 ∧ v = .int .i64 p ∧ ∀ i, i < j → h ≠ ((2 ^ i : Nat) : Int)) (fun v => 128 - (intOf v).toNat)
  case atStart => exact ⟨0, 1, by omega, rfl, by omega, rfl, fun i hi => absurd hi (Nat.not_lt_zero _)⟩
  case round =>
    obtain ⟨j, p, hj, hp, hp128, rfl, hall⟩ := hrel
    have HP := Lib.hid (And.intro hp hall)
    have hp1 : 1 ≤ p := by rw [hp]; exact Nat.one_le_two_pow
    clear hp hall
    by_cases hlt : p < n
    · have hlt2 : (p : Int) < n := by omega
      by_cases he : h = (p : Int)
      · obtain rfl : b = true := HB.out.2 ⟨j, by rw [← HP.out.1]; exact hlt, by rw [← HP.out.1]; exact he⟩
        have he2 : (h == (p : Int)) = true := by simpa using he
        clear he
        go_wp2_with fail
        go_ret
        exact ⟨rfl, rfl⟩
      · have he2 : (h == (p : Int)) = false := by simpa using he
        have HE := Lib.hid he
        clear he
        have hj6 : j ≤ 6 := by
          rcases Nat.lt_or_ge j 7 with g | g
          · omega
          · have e7 : j = 7 := by omega
            have := HP.out.1
            rw [e7] at this
            omega
        go_wp2_with fail
        go_round
        case rel =>
          refine ⟨j + 1, 2 * p, by omega, by rw [HP.out.1, Nat.pow_succ]; omega, ?_, by go_num, fun i hi => ?_⟩
          · have : 2 ^ (j + 1) ≤ 2 ^ 7 := Nat.pow_le_pow_right (by omega) (by omega)
            rw [HP.out.1]
            rw [Nat.pow_succ] at this
            omega
          · rcases Nat.lt_or_ge i j with g | g
            · exact HP.out.2 i g
            · obtain rfl : i = j := by omega
              rw [← HP.out.1]
              exact HE.out
        case measure => simp [intOf] <;> omega
    · have hlt2 : (n : Int) ≤ p := by omega
      have hbf : b = false := by
        cases hbb : b
        · rfl
        · obtain ⟨k, h1, h2⟩ := HB.out.1 hbb
          have hkj : k < j := by
            rcases Nat.lt_or_ge k j with g | g
            · exact g
            · have := Nat.pow_le_pow_right (n := 2) (by omega) g
              have := HP.out.1
              omega
          exact absurd h2 (HP.out.2 k hkj)
      subst hbf
      clear HB
      go_wp2_with fail
      go_ret
      exact ⟨rfl, rfl⟩

set_option maxHeartbeats 2000000 in
theorem roots10_c (v : Value) (xs : List Gi) (bits : Nat) (l : Int) (hb29 : bits ≤ 29) (hl2 : (2 : Int) ^ bits = l) (w : World) (hv : CxsAt w v xs) :
    Calls Try.prog 34 #[v, .int .i64 bits] w fun e w' => e = .returned (.bool (allIn l xs)) ∧ Gr w w' := by
  have hl0 : 0 ≤ l := by rw [← hl2]; exact Int.le_of_lt (pow_pos2 _)
  have hl1 : l ≤ 2147483648 := by rw [← hl2]; exact pow_le31 _ (by omega)
  by_cases hx : xs = []
  · subst hx
    obtain ⟨p, cap, rfl⟩ := hv.len
    rw [show ([] : List Gi).length = 0 from rfl]
    clear hv
    go_enter Try.func34, Try.ntmps34
    go_wp2_with fail
    refine wp_loop_rounds 1 ?_
    rw [rounds_succ]
    go_wp2_with fail
    go_ret
    exact ⟨rfl, Gr.refl _⟩
  · obtain ⟨b, o, cap, rfl, hlen, hb, hc⟩ := hv.at hx
    have HC := Lib.hid hc
    have HP := Lib.hid (pow08_c' bits l hl2 (by omega))
    have HN := Lib.hid fun (k : Nat) (a : Gi) (h : xs[k]? = some a) => allIn_no (l := l) h
    have HS := Lib.hid fun (k : Nat) (a : Gi) (h : xs[k]? = some a) => allIn_snoc (l := l) h
    have HA : allIn l (xs.take xs.length) = allIn l xs := by rw [List.take_length]
    clear hc hv hx
    go_enter Try.func34, Try.ntmps34
    go_wp2_with fail
    go_loopw [6, 9] (fun _ i wr => ∃ k : Nat, k ≤ xs.length ∧ i = .int .i64 k ∧ allIn l (xs.take k) = true ∧ Gr w wr) (fun _ i _ => xs.length - (intOf i).toNat)
    case atStart => exact ⟨0, Nat.zero_le _, rfl, rfl, Gr.refl _⟩
    case round =>
      obtain ⟨k, hk, rfl, hall, hl⟩ := hrel
      by_cases hlt : k < xs.length
      · obtain ⟨x, hx⟩ := get_of_lt hlt
        have h1 := (hl.cell (p := ⟨b, o + k * 2, none⟩) hb).trans (HC.out k x hx).1
        have h2 := (hl.cell (p := ⟨b, o + k * 2 + 1, none⟩) hb).trans (HC.out k x hx).2
        have hbl : b < wr.heap.size := Nat.lt_of_lt_of_le hb hl.size
        have HW := Lib.hid (rwithin_c x.re x.im l (by omega) (by omega))
        have HN1 := Lib.hid (HN.out k x hx)
        have HS1 := Lib.hid (HS.out k x hx hall)
        have hgs := hl.size
        obtain ⟨re, im⟩ := x
        simp only at h1 h2 HW HN1 HS1
        generalize (inB l re && inB l im) = q at HW HN1 HS1
        clear hx hall HA HN HS HC
        go_wp2_with fail
        obtain ⟨u, hU⟩ : ∃ u, u = wr.alloc (.cells #[.int .i64 re, .int .i64 im] 23) := ⟨_, rfl⟩
        have gu : Gr wr u := by rw [hU]; exact (Gr.refl wr).alloc _ _
        have zu : wr.heap.size < u.heap.size := by rw [hU]; simp
        have d0 : u.cell? ⟨wr.heap.size, 0, none⟩ = some (.int .i64 re) := by rw [hU]; go_simp
        have d1 : u.cell? ⟨wr.heap.size, 1, none⟩ = some (.int .i64 im) := by rw [hU]; go_simp
        rw [← hU]
        clear hU
        cases q
        · have HN2 := Lib.hid (HN1.out rfl)
          clear HN1 HS1
          go_region_held3 (fun W => W.cell? ⟨wr.heap.size, 0, none⟩ = some (.int .i64 re) ∧ W.cell? ⟨wr.heap.size, 1, none⟩ = some (.int .i64 im) ∧ Gr u W) (first | (go_split_ands; refine ⟨?_, ?_, ?_⟩; (all_goals (first | assumption | exact Gr.refl _ | exact Gr.drew (Gr.refl _) | exact Gr.drew (by assumption) | (go_keep; done) | ((refine (Gr.cell (by assumption) ?_).trans ?_ <;> (first | assumption)); done)))))
            (first | (go_at_call 8; refine (HP.out _).mono ?_; rintro e w' ⟨rfl, rfl⟩) | (go_at_call 11; go_split_ands; ((with_reducible refine (HW.out _).mono ?_); rintro e w' ⟨rfl, hg⟩; have hgw : Gr u w' := Gr.trans (by first | assumption | exact Gr.drew (Gr.refl _) | exact Gr.drew (by assumption) | exact Gr.refl _) hg)))
          go_wp2_with fail
          go_ret
          exact ⟨by rw [HN2.out]; rfl, (hl.trans gu).trans hgw⟩
        · have HS2 := Lib.hid (HS1.out rfl)
          clear HN1 HS1
          go_region_held3 (fun W => W.cell? ⟨wr.heap.size, 0, none⟩ = some (.int .i64 re) ∧ W.cell? ⟨wr.heap.size, 1, none⟩ = some (.int .i64 im) ∧ Gr u W) (first | (go_split_ands; refine ⟨?_, ?_, ?_⟩; (all_goals (first | assumption | exact Gr.refl _ | exact Gr.drew (Gr.refl _) | exact Gr.drew (by assumption) | (go_keep; done) | ((refine (Gr.cell (by assumption) ?_).trans ?_ <;> (first | assumption)); done)))))
            (first | (go_at_call 8; refine (HP.out _).mono ?_; rintro e w' ⟨rfl, rfl⟩) | (go_at_call 11; go_split_ands; ((with_reducible refine (HW.out _).mono ?_); rintro e w' ⟨rfl, hg⟩; have hgw : Gr u w' := Gr.trans (by first | assumption | exact Gr.drew (Gr.refl _) | exact Gr.drew (by assumption) | exact Gr.refl _) hg)))
          go_wp2_with fail
          go_roundw
          case rel => exact ⟨k + 1, by omega, by go_num, HS2.out, (hl.trans gu).trans hgw⟩
          case measure => simp [intOf]; omega
      · obtain rfl : k = xs.length := by omega
        rw [HA] at hall
        have HL := Lib.hid hall
        clear hall HA
        go_wp2_with fail
        go_ret
        exact ⟨by rw [HL.out]; rfl, hl⟩

end Go.Proofs.Ytkbfniogannlhaa
