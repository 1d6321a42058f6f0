/- What reference 9's Up, Ups and Shifted answer. -/
import Derived.Test.YtmmhgcemkbgajaaRef09b
namespace Go.Proofs.Ytmmhgcemkbgajaa
open Go.ChangeShapes Go.WideShapes Go.ChangeAt Go.RowKit
set_option linter.unusedVariables false

theorem up09_c (n s l : Int) (s0 : 0 ≤ s) (s1 : s ≤ 62) (hl : (2 : Int) ^ (62 - s).toNat = l) (w : World) :
    Calls Try.prog 32 #[.int .i64 n, .int .i64 s] w fun e w' => e = .returned (.bool (inB l n)) ∧ w' = w := by
  have HP := Lib.hid (pow_c (62 - s) (by omega) (by omega))
  rw [hl] at HP
  have hb : l ≤ 4611686018427387904 := by rw [← hl]; exact pow_le62 _ (by omega)
  have hb0 : 0 < l := by rw [← hl]; exact pow_pos2 _
  clear hl
  by_cases h1 : n ≤ l
  · by_cases h2 : -l ≤ n
    · rw [inB_true h2 h1]
      go_enter Try.func32, Try.ntmps32
      go_wp2_with (go_at_call 25; refine (HP.out _).mono ?_; rintro e wz ⟨rfl, rfl⟩)
      go_ret
      exact ⟨by simp <;> omega, rfl⟩
    · rw [inB_false (by omega)]
      go_enter Try.func32, Try.ntmps32
      go_wp2_with (go_at_call 25; refine (HP.out _).mono ?_; rintro e wz ⟨rfl, rfl⟩)
      go_ret
      exact ⟨by simp <;> omega, rfl⟩
  · rw [inB_false (by omega)]
    go_enter Try.func32, Try.ntmps32
    go_wp2_with (go_at_call 25; refine (HP.out _).mono ?_; rintro e wz ⟨rfl, rfl⟩)
    go_ret
    exact ⟨by simp <;> omega, rfl⟩

set_option maxHeartbeats 2000000 in
theorem ups09_c (v : Value) (xs : List Gi) (s l : Int) (s0 : 0 ≤ s) (s1 : s ≤ 62) (hl : (2 : Int) ^ (62 - s).toNat = l) (w : World) (hv : CxsAt w v xs) :
    Calls Try.prog 18 #[v, .int .i64 s] w fun e w' => e = .returned (.bool (allIn l xs)) ∧ Gr w w' := by
  have HU := Lib.hid fun n => up09_c n s l s0 s1 hl
  clear s0 s1 hl
  by_cases hx : xs = []
  · subst hx
    obtain ⟨p, cap, rfl⟩ := hv.len
    rw [show ([] : List Gi).length = 0 from rfl]
    clear hv
    go_enter Try.func18, Try.ntmps18
    go_wp2_with fail
    refine wp_loop_rounds 1 ?_
    rw [rounds_succ]
    go_wp2_with fail
    go_ret
    exact ⟨rfl, Gr.refl _⟩
  · obtain ⟨b, o, cap, rfl, hlen, hb, hc⟩ := hv.at hx
    have HC := Lib.hid hc
    have HN := Lib.hid fun (k : Nat) (a : Gi) (h : xs[k]? = some a) => allIn_no (l := l) h
    have HS := Lib.hid fun (k : Nat) (a : Gi) (h : xs[k]? = some a) => allIn_snoc (l := l) h
    have HA : allIn l (xs.take xs.length) = allIn l xs := by rw [List.take_length]
    clear hc hv hx
    go_enter Try.func18, Try.ntmps18
    go_wp2_with fail
    go_loopw [6, 9] (fun _ i wr => ∃ k : Nat, k ≤ xs.length ∧ i = .int .i64 k ∧ allIn l (xs.take k) = true ∧ Gr w wr) (fun _ i _ => xs.length - (intOf i).toNat)
    case atStart => exact ⟨0, Nat.zero_le _, rfl, rfl, Gr.refl _⟩
    case round =>
      obtain ⟨k, hk, rfl, hall, hg⟩ := hrel
      by_cases hlt : k < xs.length
      · obtain ⟨x, hx⟩ := get_of_lt hlt
        have h1 := (hg.cell (p := ⟨b, o + k * 2, none⟩) hb).trans (HC.out k x hx).1
        have h2 := (hg.cell (p := ⟨b, o + k * 2 + 1, none⟩) hb).trans (HC.out k x hx).2
        have hbl : b < wr.heap.size := Nat.lt_of_lt_of_le hb hg.size
        have HX := Lib.hid (HU.out x.re)
        have HY := Lib.hid (HU.out x.im)
        have hn := HN.out k x hx
        have hs := HS.out k x hx hall
        obtain ⟨re, im⟩ := x
        simp only at h1 h2 HX HY hn hs
        clear hx hall HA HN HS HC HU
        generalize inB l re = q0 at *
        generalize inB l im = q1 at *
        cases q0
        · have HN2 := Lib.hid (hn rfl)
          clear hn hs
          go_wp2_with (first | (go_at_call 32; with_reducible refine (HX.out _).mono ?_; rintro e wz ⟨rfl, rfl⟩) | (go_at_call 32; with_reducible refine (HY.out _).mono ?_; rintro e wz ⟨rfl, rfl⟩))
          go_ret
          exact ⟨by rw [HN2.out]; rfl, hg.alloc _ _⟩
        · cases q1
          · have HN2 := Lib.hid (hn rfl)
            clear hn hs
            go_wp2_with (first | (go_at_call 32; with_reducible refine (HX.out _).mono ?_; rintro e wz ⟨rfl, rfl⟩) | (go_at_call 32; with_reducible refine (HY.out _).mono ?_; rintro e wz ⟨rfl, rfl⟩))
            go_ret
            exact ⟨by rw [HN2.out]; rfl, hg.alloc _ _⟩
          · have HS2 := Lib.hid (hs rfl)
            clear hn hs
            go_wp2_with (first | (go_at_call 32; with_reducible refine (HX.out _).mono ?_; rintro e wz ⟨rfl, rfl⟩) | (go_at_call 32; with_reducible refine (HY.out _).mono ?_; rintro e wz ⟨rfl, rfl⟩))
            go_roundw
            case rel => exact ⟨k + 1, by omega, by go_num, HS2.out, hg.alloc _ _⟩
            case measure => simp [intOf] <;> omega
      · obtain rfl : k = xs.length := by omega
        rw [HA] at hall
        have HL := Lib.hid hall
        clear hall HA
        go_wp2_with fail
        go_ret
        exact ⟨by rw [HL.out]; rfl, hg⟩

theorem map_take_snoc {α β : Type} (f : α → β) {xs : List α} {k : Nat} {x : α} (h : xs[k]? = some x) : (xs.take (k + 1)).map f = (xs.take k).map f ++ [f x] := by
  rw [take_snoc h, List.map_append]; rfl

set_option maxRecDepth 10000 in set_option maxHeartbeats 4000000 in
theorem shifted09_c (v : Value) (xs : List Gi) (s mo : Int) (s0 : -62 ≤ s) (s1 : s ≤ 62) (m0 : 0 ≤ mo) (m1 : mo ≤ 2) (hb : ∀ a ∈ xs, (Lit.int .i64 a.re).wf = true ∧ (Lit.int .i64 a.im).wf = true)
    (hu : s < 0 → allIn (2 ^ (62 + s).toNat) xs = true) (hlm : xs.length ≤ 1048576) (w : World) (hv : CxsAt w v xs) :
    Calls Try.prog 20 #[v, .int .i64 s, .int .i64 mo] w fun e w' => ∃ v', e = .returned v' ∧ CxsAt w' v' (xs.map (shG s mo)) ∧ Gr w w' := by
  obtain ⟨i0, hi, hz0, hz1, hz2⟩ := info_parts info_cx
  by_cases hx : xs = []
  · subst hx
    obtain ⟨p, cap, rfl⟩ := hv.len
    rw [show ([] : List Gi).length = 0 from rfl]
    clear hv hb hu
    go_enter Try.func20, Try.ntmps20
    go_wp2_with fail
    refine wp_loop_rounds 1 ?_
    rw [rounds_succ]
    go_wp2_with fail
    go_ret
    exact ⟨.slice (some ⟨w.heap.size, 0, none⟩) 0 0, rfl, ⟨_, 0, rfl, Nat.le_refl _, Nat.zero_le _, fun h => absurd rfl h⟩, (Gr.refl _).alloc _ _⟩
  · obtain ⟨b, o, cap, rfl, hlen, hbb, hc⟩ := hv.at hx
    have HC := Lib.hid hc
    have HM := Lib.hid fun (k : Nat) (a : Gi) (h : xs[k]? = some a) => map_take_snoc (shG s mo) h
    have HT : (xs.take xs.length).map (shG s mo) = xs.map (shG s mo) := by rw [List.take_length]
    have HB := Lib.hid hb
    have HU := Lib.hid hu
    have HSH := Lib.hid fun (a : Gi) (ha : a ∈ xs) (h : 0 ≤ s) => rshift03_c a.re a.im s mo (bounds_i64 (hb a ha).1) (bounds_i64 (hb a ha).2) h s1 m0 m1
    clear hc hv hx hb hu
    go_enter Try.func20, Try.ntmps20
    go_wp2_with fail
    have hs0 : ((w.alloc (.cells #[] 45)).ownsRow w.heap.size 45 2 (.slice (some ⟨w.heap.size, 0, none⟩) 0 0) 0 []) := World.ownsRow_made w #[] 0 (Nat.le_refl _) (by unfold maxLen; omega) (by simp)
    go_loopw [7, 9, 10, 14] (fun out _ _ i wr => ∃ j : Nat, j ≤ xs.length ∧ i = .int .i64 j ∧ wr.ownsRow w.heap.size 45 2 out j (gcells ((xs.take j).map (shG s mo))) ∧ Gr w wr)
      (fun _ _ _ i _ => xs.length - (intOf i).toNat)
    case atStart => exact ⟨0, by omega, rfl, hs0, (Gr.refl _).alloc _ _⟩
    case round =>
      clear hs0
      obtain ⟨j, hj, rfl, hrow, hg⟩ := hrel
      by_cases hlt : j < xs.length
      · obtain ⟨x, hx⟩ := get_of_lt hlt
        have h1 := (hg.cell (p := ⟨b, o + j * 2, none⟩) hbb).trans (HC.out j x hx).1
        have h2 := (hg.cell (p := ⟨b, o + j * 2 + 1, none⟩) hbb).trans (HC.out j x hx).2
        have hbl : b < wr.heap.size := Nat.lt_of_lt_of_le hbb hg.size
        have hmem := List.mem_of_getElem? hx
        have HM1 := Lib.hid (HM.out j x hx)
        have hgs := hg.size
        by_cases hs : 0 ≤ s
        · have HSH1 := Lib.hid (HSH.out x hmem hs)
          have hv : shG s mo x = ⟨rnd x.re s.toNat mo, rnd x.im s.toNat mo⟩ := by unfold shG; rw [if_pos hs]
          rw [hv] at HM1
          generalize rnd x.re s.toNat mo = r0 at *
          generalize rnd x.im s.toNat mo = r1 at *
          obtain ⟨re, im⟩ := x
          simp only at h1 h2 HSH1
          clear hx hmem HC HM HT HB HU HSH hv
          go_wp2_with fail
          refine (HSH1.out _).mono ?_
          rintro e w2 ⟨rfl, hg2⟩
          have hrow2 := ownsRow_gr (hrow.alloc (.cells #[.int .i64 re, .int .i64 im] 45)) hg2
          have hg3 := (hg.alloc #[.int .i64 re, .int .i64 im] 45).trans hg2
          have hsz := hg3.size
          clear hrow hg hg2 HSH1
          go_wp2_with (at_builtin; refine wpList_append_own_at _ rfl (.tmp 20) (.tmp 25) 22 rfl w.heap.size 45 i0 (.agg #[.int .i64 0, .int .i64 0]) 2 16 Try.underlying22 hi hz0 hz1 hz2 rfl (by decide) _ _ _ rfl (hrow2.alloc _) ⟨w2.heap.size, 0, none⟩ 1 1 [.int .i64 r0, .int .i64 r1] rfl rfl (news_two _ _ _ _) (by simp [Value.oneCell']) (by unfold maxLen; omega) (by omega) (by simp; omega) ?_; intro v' w3 hown' hgrow _ hblk)
          have e : gcells ((xs.take j).map (shG s mo)) ++ [.int .i64 r0, .int .i64 r1] = gcells ((xs.take (j + 1)).map (shG s mo)) := by
            rw [HM1.out, gcells_snoc]
          rw [e] at hown'
          have hg4 := (hg3.allocO _).grown hgrow (fun k e => (hrow2.lt k e).1)
          go_roundw
          case rel => exact ⟨j + 1, by omega, by go_num, hown', hg4⟩
          case measure => simp [intOf] <;> omega
        · have HP := Lib.hid (pow_c (-s) (by omega) (by omega))
          have hin := (allIn_iff _ _).1 (HU.out (by omega)) x hmem
          have hv : shG s mo x = ⟨x.re * 2 ^ (-s).toNat, x.im * 2 ^ (-s).toNat⟩ := by unfold shG; rw [if_neg hs]
          rw [hv] at HM1
          have hpp : (2 : Int) ^ (62 + s).toNat * 2 ^ (-s).toNat = 4611686018427387904 := by
            rw [← Int.pow_add, show (62 + s).toNat + (-s).toNat = 62 by omega]; rfl
          have hl0 := pow_pos2 (62 + s).toNat
          have hp0 := pow_pos2 (-s).toNat
          generalize (2 : Int) ^ (62 + s).toNat = l at *
          generalize (2 : Int) ^ (-s).toNat = P at *
          obtain ⟨re, im⟩ := x
          simp only at h1 h2 hin HM1
          have hre := absI_le.1 hin.1
          have him := absI_le.1 hin.2
          have b1 : re * P ≤ l * P := Int.mul_le_mul_of_nonneg_right hre.2 (by omega)
          have b2 : -l * P ≤ re * P := Int.mul_le_mul_of_nonneg_right hre.1 (by omega)
          have b3 : im * P ≤ l * P := Int.mul_le_mul_of_nonneg_right him.2 (by omega)
          have b4 : -l * P ≤ im * P := Int.mul_le_mul_of_nonneg_right him.1 (by omega)
          rw [Int.neg_mul] at b2 b4
          rw [hpp] at b1 b2 b3 b4
          obtain ⟨r0, hr0⟩ : ∃ r0, re * P = r0 := ⟨_, rfl⟩
          obtain ⟨r1, hr1⟩ : ∃ r1, im * P = r1 := ⟨_, rfl⟩
          rw [hr0, hr1] at HM1
          rw [hr0] at b1 b2
          rw [hr1] at b3 b4
          have hw0 : wrap64 (re * P) = r0 := by rw [hr0]; exact IntWalk.wrap64_in _ (by omega)
          have hw1 : wrap64 (im * P) = r1 := by rw [hr1]; exact IntWalk.wrap64_in _ (by omega)
          clear hx hmem HC HM HT HB HU HSH hv hpp hl0 hp0 hr0 hr1 b1 b2 b3 b4 hin hre him
          have hrow2 := hrow.alloc (.cells #[.int .i64 re, .int .i64 im] 45)
          have hg3 := (hg.alloc #[.int .i64 re, .int .i64 im] 45)
          have hsz := hg3.size
          clear hrow hg
          go_wp2_with (first
            | (go_at_call 25; refine (HP.out _).mono ?_; rintro e wz ⟨rfl, rfl⟩)
            | (at_builtin; refine wpList_append_own_at _ rfl (.tmp 30) (.tmp 40) 22 rfl w.heap.size 45 i0 (.agg #[.int .i64 0, .int .i64 0]) 2 16 Try.underlying22 hi hz0 hz1 hz2 rfl (by decide) _ _ _ rfl (hrow2.alloc _) ⟨wr.heap.size + 1, 0, none⟩ 1 1 [.int .i64 r0, .int .i64 r1] rfl rfl (by have := news_two (wr.alloc (.cells #[.int .i64 re, .int .i64 im] 45)) (.int .i64 r0) (.int .i64 r1) 45; rwa [World.size_alloc] at this) (by simp [Value.oneCell']) (by unfold maxLen; omega) (by omega) (by simp; omega) ?_; intro v' w3 hown' hgrow _ hblk))
          have e : gcells ((xs.take j).map (shG s mo)) ++ [.int .i64 r0, .int .i64 r1] = gcells ((xs.take (j + 1)).map (shG s mo)) := by
            rw [HM1.out, gcells_snoc]
          rw [e] at hown'
          have hg4 := (hg3.allocO _).grown hgrow (fun k e => (hrow2.lt k e).1)
          go_roundw
          case rel => exact ⟨j + 1, by omega, by go_num, hown', hg4⟩
          case measure => simp [intOf] <;> omega
      · obtain rfl : j = xs.length := by omega
        have HL := Lib.hid HT
        clear HT HC HM HB HU HSH
        go_wp2_with fail
        go_ret
        refine ⟨_, rfl, ?_, hg⟩
        have := CxsAt.of_row hrow
        rw [HL.out] at this
        exact this

end Go.Proofs.Ytmmhgcemkbgajaa
