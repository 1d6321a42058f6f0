/- What package scan's small functions answer. · What package scan's Max, Room and Pre answer. · What package scan's Pre and Shifted answer. -/
import Derived.Test.YtpkkokcidbcopaaTwoMath
import Derived.Test.YtpkkokcidbcopaaSat
import Derived.Test.YtpkkokcidbcopaaCx4
import Derived.Test.YtpkkokcidbcopaaCxs
import Derived.Laws.Cover1
namespace Go.Proofs.Ytpkkokcidbcopaa
open Go.ChangeShapes Go.WideShapes Go.ChangeAt Go.RowKit
set_option linter.unusedVariables false
set_option maxRecDepth 100000

theorem sMayBe_c (a : Int) (w : World) :
    Calls Try.prog 23 #[.int .i64 a] w fun e w' => e = .returned (.bool (inB 2147483648 a)) ∧ w' = w := by
  by_cases h0 : -2147483648 ≤ a
  · by_cases h1 : a ≤ 2147483648
    · rw [inB_true h0 h1]
      go_enter Try.func23, Try.ntmps23
      go_wp2_with fail
      go_ret
      exact ⟨rfl, rfl⟩
    · rw [inB_false (.inr (by omega))]
      go_enter Try.func23, Try.ntmps23
      go_wp2_with fail
      go_ret
      exact ⟨by simp, rfl⟩
  · rw [inB_false (.inl (by omega))]
    go_enter Try.func23, Try.ntmps23
    go_wp2_with fail
    go_ret
    exact ⟨by simp, rfl⟩

theorem sGreatest_c (B : Nat) (m re im : Int) (h0 : 0 ≤ m) (h1 : m ≤ 2147483648) (r0 : -2147483648 ≤ re ∧ re ≤ 2147483648) (i0 : -2147483648 ≤ im ∧ im ≤ 2147483648) (w : World)
    (hB : B < w.heap.size) (c0 : w.cell? ⟨B, 0, none⟩ = some (.int .i64 m)) (c1 : w.cell? ⟨B, 1, none⟩ = some (.int .i64 re)) (c2 : w.cell? ⟨B, 2, none⟩ = some (.int .i64 im)) :
    Calls Try.prog 24 #[.slice (some ⟨B, 0, none⟩) 3 3] w fun e w' => e = .returned (.int .i64 (max (max m (absI re)) (absI im))) ∧ w' = w := by
  obtain ⟨p, hp⟩ : ∃ p, absI re = p := ⟨_, rfl⟩
  obtain ⟨q, hq⟩ : ∃ q, absI im = q := ⟨_, rfl⟩
  have HP := Lib.hid (show (re < 0 ∧ p = -re) ∨ (0 ≤ re ∧ p = re) by rw [← hp]; unfold absI; split <;> omega)
  have HQ := Lib.hid (show (im < 0 ∧ q = -im) ∨ (0 ≤ im ∧ q = im) by rw [← hq]; unfold absI; split <;> omega)
  rw [hp, hq]
  clear hp hq
  go_enter Try.func24, Try.ntmps24
  go_wp2_with fail
  refine wp_loop_rounds 4 ?_
  rw [rounds_succ]
  go_wp2_with fail
  all_goals
    rw [rounds_succ]
    go_wp2_with fail
  all_goals
    rw [rounds_succ]
    go_wp2_with fail
  all_goals
    rw [rounds_succ]
    go_wp2_with fail
  all_goals
    go_ret
    have hp := HP.out
    have hq := HQ.out
    exact ⟨congrArg (fun z => Ending.returned (.int .i64 z)) (by omega), rfl⟩

end Go.Proofs.Ytpkkokcidbcopaa

namespace Go.Proofs.Ytpkkokcidbcopaa
open Go.ChangeShapes Go.WideShapes Go.ChangeAt Go.RowKit
set_option linter.unusedVariables false

set_option maxHeartbeats 2000000 in
theorem scanMax_yes (v : Value) (xs : List Gi) (hn : allIn 2147483648 xs = true) (hl : xs.length ≤ 1048576) (w : World) (hv : CxsAt w v xs) :
    Calls Try.prog 14 #[v] w fun e w' => e = .returned (.tuple #[.int .i64 (maxG xs), .int .i64 0]) ∧ Gr w w' := by
  by_cases hx : xs = []
  · subst hx
    obtain ⟨p, cap, rfl⟩ := hv.len
    rw [show ([] : List Gi).length = 0 from rfl]
    clear hv hn
    go_enter Try.func14, Try.ntmps14
    go_wp2_with fail
    refine wp_loop_rounds 1 ?_
    rw [rounds_succ]
    go_wp2_with fail
    go_ret2
    exact ⟨rfl, Gr.refl _⟩
  · obtain ⟨b, o, cap, rfl, hlen, hb, hc⟩ := hv.at hx
    have HC := Lib.hid hc
    have HB := Lib.hid ((allIn_iff _ _).1 hn)
    have HA : maxG (xs.take xs.length) = maxG xs := by rw [List.take_length]
    have HS := Lib.hid fun (k : Nat) (a : Gi) (h : xs[k]? = some a) => (by rw [take_snoc h, maxG_snoc] : maxG (xs.take (k + 1)) = mx (maxG (xs.take k)) a)
    have HT := Lib.hid fun (k : Nat) => (maxG_le (xs.take k) 2147483648 (by omega) (fun a ha => HB.out a (List.mem_of_mem_take ha)))
    have HZ := Lib.hid fun (k : Nat) => maxG_nonneg (xs.take k)
    clear hc hv hx hn
    go_enter Try.func14, Try.ntmps14
    go_wp2_with fail
    go_loopw [4, 6, 9] (fun m _ i wr => ∃ k : Nat, k ≤ xs.length ∧ i = .int .i64 k ∧ m = .int .i64 (maxG (xs.take k)) ∧ Gr w wr) (fun _ _ i _ => xs.length - (intOf i).toNat)
    case atStart => exact ⟨0, Nat.zero_le _, rfl, rfl, Gr.refl _⟩
    case round =>
      obtain ⟨k, hk, rfl, rfl, hl⟩ := hrel
      by_cases hlt : k < xs.length
      · obtain ⟨x, hx⟩ := get_of_lt hlt
        have h1 := (hl.cell (p := ⟨b, o + k * 2, none⟩) hb).trans (HC.out k x hx).1
        have h2 := (hl.cell (p := ⟨b, o + k * 2 + 1, none⟩) hb).trans (HC.out k x hx).2
        have hbl : b < wr.heap.size := Nat.lt_of_lt_of_le hb hl.size
        have hbd := HB.out x (List.mem_of_getElem? hx)
        have hr := absI_le.1 hbd.1
        have hi := absI_le.1 hbd.2
        have hs := HS.out k x hx
        have ht := HT.out k
        have hz := HZ.out k
        unfold mx at hs
        have HQ := Lib.hid hs
        have HG := Lib.hid fun B => sGreatest_c B (maxG (xs.take k)) x.re x.im hz ht hr hi
        clear hs hx HC HB HS HT HZ HA
        obtain ⟨re, im⟩ := x
        simp only at h1 h2 HQ hbd HG hr hi
        have m0 := inB_true hr.1 hr.2
        have m1 := inB_true hi.1 hi.2
        generalize max (max (maxG (xs.take k)) (absI re)) (absI im) = mm at *
        generalize maxG (xs.take k) = m at *
        clear hr hi hbd
        have HM := Lib.hid (sMayBe_c re)
        have HN := Lib.hid (sMayBe_c im)
        rw [m0] at HM
        rw [m1] at HN
        clear m0 m1
        go_wp2_with (first | (go_at_call 23; ((with_reducible refine (HM.out _).mono ?_); rintro e w' ⟨rfl, rfl⟩)) | (go_at_call 23; ((with_reducible refine (HN.out _).mono ?_); rintro e w' ⟨rfl, rfl⟩)))
        refine (HG.out _ _ (by simp) (by go_simp) (by go_simp) (by go_simp)).mono ?_
        rintro e w2 ⟨rfl, rfl⟩
        go_wp2_with fail
        go_roundw
        case rel => exact ⟨k + 1, by omega, by go_num, by rw [HQ.out], (hl.alloc _ _).alloc _ _⟩
        case measure => simp [intOf] <;> omega
      · obtain rfl : k = xs.length := by omega
        have HL := Lib.hid HA
        clear HA HC HB HS HT HZ
        go_wp2_with fail
        go_ret2
        exact ⟨by rw [← HL.out]; rfl, hl⟩

set_option maxHeartbeats 2000000 in
theorem scanMax_no (v : Value) (xs : List Gi) (hn : allIn 2147483648 xs = false) (hl : xs.length ≤ 1048576) (w : World) (hv : CxsAt w v xs) :
    Calls Try.prog 14 #[v] w fun e w' => e = .returned (.tuple #[.int .i64 0, .int .i64 2]) ∧ Gr w w' := by
  by_cases hx : xs = []
  · subst hx
    cases hn
  · obtain ⟨b, o, cap, rfl, hlen, hb, hc⟩ := hv.at hx
    have HC := Lib.hid hc
    have HX := Lib.hid hn
    have HA : allIn 2147483648 (xs.take xs.length) = allIn 2147483648 xs := by rw [List.take_length]
    have HE := Lib.hid fun (k : Nat) (a : Gi) (h : xs[k]? = some a) => allIn_snoc (l := 2147483648) h
    have HS := Lib.hid fun (k : Nat) (a : Gi) (h : xs[k]? = some a) => (by rw [take_snoc h, maxG_snoc] : maxG (xs.take (k + 1)) = mx (maxG (xs.take k)) a)
    have HT := Lib.hid fun (k : Nat) (h : allIn 2147483648 (xs.take k) = true) => (maxG_le (xs.take k) 2147483648 (by omega) (fun a ha => (allIn_iff _ _).1 h a ha))
    have HZ := Lib.hid fun (k : Nat) => maxG_nonneg (xs.take k)
    clear hc hv hx hn
    go_enter Try.func14, Try.ntmps14
    go_wp2_with fail
    go_loopw [4, 6, 9] (fun m _ i wr => ∃ k : Nat, k ≤ xs.length ∧ i = .int .i64 k ∧ m = .int .i64 (maxG (xs.take k)) ∧ allIn 2147483648 (xs.take k) = true ∧ Gr w wr) (fun _ _ i _ => xs.length - (intOf i).toNat)
    case atStart => exact ⟨0, Nat.zero_le _, rfl, rfl, rfl, Gr.refl _⟩
    case round =>
      obtain ⟨k, hk, rfl, rfl, hall, hl⟩ := hrel
      by_cases hlt : k < xs.length
      · obtain ⟨x, hx⟩ := get_of_lt hlt
        have h1 := (hl.cell (p := ⟨b, o + k * 2, none⟩) hb).trans (HC.out k x hx).1
        have h2 := (hl.cell (p := ⟨b, o + k * 2 + 1, none⟩) hb).trans (HC.out k x hx).2
        have hbl : b < wr.heap.size := Nat.lt_of_lt_of_le hb hl.size
        have hs := HS.out k x hx
        have ht := HT.out k hall
        have hz := HZ.out k
        have he := HE.out k x hx hall
        unfold mx at hs
        have HQ := Lib.hid hs
        have HG := Lib.hid fun B hr hi => sGreatest_c B (maxG (xs.take k)) x.re x.im hz ht hr hi
        clear hs hx HC HE HS HT HZ HA hall
        obtain ⟨re, im⟩ := x
        simp only at h1 h2 HQ HG he
        have HM := Lib.hid (sMayBe_c re)
        have HN := Lib.hid (sMayBe_c im)
        have HI := Lib.hid (And.intro (inB_iff (l := 2147483648) (a := re)).1 (inB_iff (l := 2147483648) (a := im)).1)
        generalize inB 2147483648 re = q0 at *
        generalize inB 2147483648 im = q1 at *
        generalize max (max (maxG (xs.take k)) (absI re)) (absI im) = mm at *
        generalize maxG (xs.take k) = m at *
        have HY := Lib.hid he
        clear he
        cases q0
        · go_wp2_with (first | (go_at_call 23; ((with_reducible refine (HM.out _).mono ?_); rintro e w' ⟨rfl, rfl⟩)) | (go_at_call 23; ((with_reducible refine (HN.out _).mono ?_); rintro e w' ⟨rfl, rfl⟩)))
          go_ret2
          exact ⟨rfl, hl.alloc _ _⟩
        · cases q1
          · go_wp2_with (first | (go_at_call 23; ((with_reducible refine (HM.out _).mono ?_); rintro e w' ⟨rfl, rfl⟩)) | (go_at_call 23; ((with_reducible refine (HN.out _).mono ?_); rintro e w' ⟨rfl, rfl⟩)))
            go_ret2
            exact ⟨rfl, hl.alloc _ _⟩
          · have HG2 := Lib.hid fun B => HG.out B (HI.out.1 rfl) (HI.out.2 rfl)
            clear HG HI
            go_wp2_with (first | (go_at_call 23; ((with_reducible refine (HM.out _).mono ?_); rintro e w' ⟨rfl, rfl⟩)) | (go_at_call 23; ((with_reducible refine (HN.out _).mono ?_); rintro e w' ⟨rfl, rfl⟩)))
            refine (HG2.out _ _ (by simp) (by go_simp) (by go_simp) (by go_simp)).mono ?_
            rintro e w2 ⟨rfl, rfl⟩
            go_wp2_with fail
            go_roundw
            case rel => exact ⟨k + 1, by omega, by go_num, by rw [HQ.out], HY.out rfl, (hl.alloc _ _).alloc _ _⟩
            case measure => simp [intOf] <;> omega
      · obtain rfl : k = xs.length := by omega
        rw [HA, HX.out] at hall
        cases hall

theorem shl_one (n : Nat) (h : n ≤ 61) : IntKind.i64.wrap (1 * 2 ^ min ((n : Nat) : Int).toNat 64) = 2 ^ n := by
  rw [Int.toNat_natCast, show min n 64 = n by omega, Int.one_mul]
  have := pow_pos2 n
  have := pow_le62 n (by omega)
  exact IntWalk.i64_in _ ⟨by omega, by omega⟩

theorem pow_le30 (n : Nat) (h : (2 : Int) ^ n ≤ 1073741824) : n ≤ 30 := by
  rcases Nat.lt_or_ge 30 n with g | g
  · have h1 : (2 : Nat) ^ 31 ≤ 2 ^ n := Nat.pow_le_pow_right (by decide) g
    have h2 : ((2 ^ 31 : Nat) : Int) ≤ ((2 ^ n : Nat) : Int) := Int.ofNat_le.2 h1
    rw [Int.natCast_pow] at h2
    have h3 : ((2 ^ 31 : Nat) : Int) = 2147483648 := by decide
    have h4 : ((2 : Nat) : Int) ^ n = 2 ^ n := rfl
    omega
  · exact g
/-- One more shift of what fits so far. -/
theorem room_next (m q : Int) (k : Nat) (hm : 0 < m) (hm1 : m ≤ 2147483648) (hq : q ≤ 1073741824) (h : 0 < k → m * 2 ^ k ≤ q) :
    0 ≤ m * 2 ^ (k + 1) ∧ m * 2 ^ (k + 1) ≤ 4294967296 ∧ (m * 2 ^ (k + 1) ≤ q → k + 1 ≤ 30) := by
  have hp := pow_pos2 k
  have h1 : 0 ≤ m * 2 ^ k := Int.mul_nonneg (by omega) (by omega)
  have h2 : m * 2 ^ k ≤ 2147483648 := by
    rcases Nat.eq_zero_or_pos k with h0 | h0
    · subst h0; omega
    · have := h h0; omega
  have e : m * 2 ^ (k + 1) = m * 2 ^ k * 2 := by rw [Int.pow_succ, Int.mul_assoc]
  refine ⟨by omega, by omega, fun g => pow_le30 _ ?_⟩
  have h3 := pow_pos2 (k + 1)
  have h4 : 1 * (2 : Int) ^ (k + 1) ≤ m * 2 ^ (k + 1) := Int.mul_le_mul_of_nonneg_right (by omega) (by omega)
  omega

end Go.Proofs.Ytpkkokcidbcopaa

namespace Go.Proofs.Ytpkkokcidbcopaa
open Go.ChangeShapes Go.WideShapes Go.ChangeAt Go.RowKit
set_option linter.unusedVariables false

end Go.Proofs.Ytpkkokcidbcopaa
