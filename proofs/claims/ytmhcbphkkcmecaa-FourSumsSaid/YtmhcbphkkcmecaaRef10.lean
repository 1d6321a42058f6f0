/- What reference 10's functions on settings, roots and halves answer. · What reference 10's Up and Down answer. · Reference 10's pairs and roots, in numbers. · Why a pass of kernel 2 or 4 may not be: what reference 10's May answers. -/
import Derived.Test.YtmhcbphkkcmecaaTwoMath
import Derived.Test.YtmhcbphkkcmecaaRef09
import Derived.Test.YtmhcbphkkcmecaaCxs
import Derived.Test.YtmhcbphkkcmecaaFlip
import Derived.Deep.Cut
import Derived.Deep.CutRange
namespace Go.Proofs.Ytmhcbphkkcmecaa
open Go.ChangeShapes Go.WideShapes Go.ChangeAt Go.RowKit
set_option linter.unusedVariables false
set_option maxRecDepth 100000

/-- May bits, a shift and a mode be? -/
def SetsOk (b s mo : Int) : Prop := (0 ≤ b ∧ b ≤ 29) ∧ (0 ≤ s ∧ s ≤ 3) ∧ 0 ≤ mo ∧ mo ≤ 2

theorem settings10_yes (b s mo : Int) (h : SetsOk b s mo) (w : World) :
    Calls Try.prog 11 #[.int .i64 b, .int .i64 s, .int .i64 mo] w fun e w' => e = .returned (.bool true) ∧ w' = w := by
  obtain ⟨⟨h1, h2⟩, ⟨h3, h4⟩, h5, h6⟩ := h
  go_enter Try.func11, Try.ntmps11
  go_wp2_with fail
  go_ret
  exact ⟨by simp <;> omega, rfl⟩

theorem settings10_no (b s mo : Int) (h : ¬ SetsOk b s mo) (w : World) :
    Calls Try.prog 11 #[.int .i64 b, .int .i64 s, .int .i64 mo] w fun e w' => e = .returned (.bool false) ∧ w' = w := by
  unfold SetsOk at h
  have hc : b < 0 ∨ (0 ≤ b ∧ 29 < b) ∨ (0 ≤ b ∧ b ≤ 29 ∧ s < 0) ∨ (0 ≤ b ∧ b ≤ 29 ∧ 0 ≤ s ∧ 3 < s) ∨ (0 ≤ b ∧ b ≤ 29 ∧ 0 ≤ s ∧ s ≤ 3 ∧ mo < 0) ∨ (0 ≤ b ∧ b ≤ 29 ∧ 0 ≤ s ∧ s ≤ 3 ∧ 0 ≤ mo ∧ 2 < mo) := by omega
  clear h
  rcases hc with h1 | ⟨h1, h2⟩ | ⟨h1, h2, h3⟩ | ⟨h1, h2, h3, h4⟩ | ⟨h1, h2, h3, h4, h5⟩ | ⟨h1, h2, h3, h4, h5, h6⟩
  all_goals
    go_enter Try.func11, Try.ntmps11
    go_wp2_with fail
    go_ret
    exact ⟨by simp <;> omega, rfl⟩

theorem pow08_c' (k : Nat) (p : Int) (h : (2 : Int) ^ k = p) (h1 : k ≤ 62) (w : World) :
    Calls Try.prog 14 #[.int .i64 (k : Int)] w fun e w' => e = .returned (.int .i64 p) ∧ w' = w := by
  have := pow_c (k : Int) (by omega) (by omega) w
  rwa [Int.toNat_natCast, h] at this

theorem scale10_c (x y : Int) (bits : Nat) (P r0 r1 : Int) (hb : bits ≤ 29) (hP : (2 : Int) ^ bits = P) (h0 : wrap64 (x * P) = r0) (h1 : wrap64 (y * P) = r1) (w : World) :
    Calls Try.prog 32 #[.agg #[.int .i64 x, .int .i64 y], .int .i64 bits] w fun e w' => e = .returned (.agg #[.int .i64 r0, .int .i64 r1]) ∧ Gr w w' := by
  have HP := Lib.hid (pow08_c' bits P hP (by omega))
  clear hP hb
  go_enter Try.func32, Try.ntmps32
  go_wp2_with (go_at_call 14; refine (HP.out _).mono ?_; rintro e wz ⟨rfl, rfl⟩)
  refine bodyPost_ret (v := .agg #[.int .i64 r0, .int .i64 r1]) ?_ rfl ⟨rfl, ?_⟩
  · simp [results, Try.results32, go_sem]
  · exact by repeat (first | exact Gr.refl _ | assumption | apply Gr.drew | apply Gr.alloc | (refine Gr.setCell ?_ (by first | (simp; done) | (simp; omega)) _))

/-- Which halves may be. -/
def HalfOk (h : Int) (n : Nat) : Prop := ∃ k : Nat, 2 ^ k < n ∧ h = ((2 ^ k : Nat) : Int)

set_option maxHeartbeats 1000000 in
theorem half10_c (h : Int) (n : Nat) (hn : n ≤ 70) (b : Bool) (hb : b = true ↔ HalfOk h n) (w : World) :
    Calls Try.prog 42 #[.int .i64 h, .int .i64 n] w fun e w' => e = .returned (.bool b) ∧ w' = w := by
  have HB := Lib.hid hb
  clear hb
  go_enter Try.func42, Try.ntmps42
  go_wp2_with fail
  go_loop [5] (fun v => ∃ j p : Nat, j ≤ 7 ∧ p = 2 ^ j ∧ p ≤ 128 ∧ v = .int .i64 p ∧ ∀ i, i < j → h ≠ ((2 ^ i : Nat) : Int)) (fun v => 128 - (intOf v).toNat)
  case atStart => exact ⟨0, 1, by omega, rfl, by omega, rfl, fun i hi => absurd hi (Nat.not_lt_zero _)⟩
  case round =>
    obtain ⟨j, p, hj, hp, hp128, rfl, hall⟩ := hrel
    have HP := Lib.hid (And.intro hp hall)
    have hp1 : 1 ≤ p := by rw [hp]; exact Nat.one_le_two_pow
    clear hp hall
    by_cases hlt : p < n
    · have hlt2 : (p : Int) < n := by omega
      by_cases he : h = (p : Int)
      · obtain rfl : b = true := HB.out.2 ⟨j, by rw [← HP.out.1]; exact hlt, by rw [← HP.out.1]; exact he⟩
        have he2 : (h == (p : Int)) = true := by simpa using he
        clear he
        go_wp2_with fail
        go_ret
        exact ⟨rfl, rfl⟩
      · have he2 : (h == (p : Int)) = false := by simpa using he
        have HE := Lib.hid he
        clear he
        have hj6 : j ≤ 6 := by
          rcases Nat.lt_or_ge j 7 with g | g
          · omega
          · have e7 : j = 7 := by omega
            have := HP.out.1
            rw [e7] at this
            omega
        go_wp2_with fail
        go_round
        case rel =>
          refine ⟨j + 1, 2 * p, by omega, by rw [HP.out.1, Nat.pow_succ]; omega, ?_, by go_num, fun i hi => ?_⟩
          · have : 2 ^ (j + 1) ≤ 2 ^ 7 := Nat.pow_le_pow_right (by omega) (by omega)
            rw [HP.out.1]
            rw [Nat.pow_succ] at this
            omega
          · rcases Nat.lt_or_ge i j with g | g
            · exact HP.out.2 i g
            · obtain rfl : i = j := by omega
              rw [← HP.out.1]
              exact HE.out
        case measure => simp [intOf] <;> omega
    · have hlt2 : (n : Int) ≤ p := by omega
      have hbf : b = false := by
        cases hbb : b
        · rfl
        · obtain ⟨k, h1, h2⟩ := HB.out.1 hbb
          have hkj : k < j := by
            rcases Nat.lt_or_ge k j with g | g
            · exact g
            · have := Nat.pow_le_pow_right (n := 2) (by omega) g
              have := HP.out.1
              omega
          exact absurd h2 (HP.out.2 k hkj)
      subst hbf
      clear HB
      go_wp2_with fail
      go_ret
      exact ⟨rfl, rfl⟩

set_option maxHeartbeats 2000000 in
theorem roots10_c (v : Value) (xs : List Gi) (bits : Nat) (l : Int) (hb29 : bits ≤ 29) (hl2 : (2 : Int) ^ bits = l) (w : World) (hv : CxsAt w v xs) :
    Calls Try.prog 41 #[v, .int .i64 bits] w fun e w' => e = .returned (.bool (allIn l xs)) ∧ Gr w w' := by
  have hl0 : 0 ≤ l := by rw [← hl2]; exact Int.le_of_lt (pow_pos2 _)
  have hl1 : l ≤ 2147483648 := by rw [← hl2]; exact pow_le31 _ (by omega)
  by_cases hx : xs = []
  · subst hx
    obtain ⟨p, cap, rfl⟩ := hv.len
    rw [show ([] : List Gi).length = 0 from rfl]
    clear hv
    go_enter Try.func41, Try.ntmps41
    go_wp2_with fail
    refine wp_loop_rounds 1 ?_
    rw [rounds_succ]
    go_wp2_with fail
    go_ret
    exact ⟨rfl, Gr.refl _⟩
  · obtain ⟨b, o, cap, rfl, hlen, hb, hc⟩ := hv.at hx
    have HC := Lib.hid hc
    have HP := Lib.hid (pow08_c' bits l hl2 (by omega))
    have HN := Lib.hid fun (k : Nat) (a : Gi) (h : xs[k]? = some a) => allIn_no (l := l) h
    have HS := Lib.hid fun (k : Nat) (a : Gi) (h : xs[k]? = some a) => allIn_snoc (l := l) h
    have HA : allIn l (xs.take xs.length) = allIn l xs := by rw [List.take_length]
    clear hc hv hx
    go_enter Try.func41, Try.ntmps41
    go_wp2_with fail
    go_loopw [6, 9] (fun _ i wr => ∃ k : Nat, k ≤ xs.length ∧ i = .int .i64 k ∧ allIn l (xs.take k) = true ∧ Gr w wr) (fun _ i _ => xs.length - (intOf i).toNat)
    case atStart => exact ⟨0, Nat.zero_le _, rfl, rfl, Gr.refl _⟩
    case round =>
      obtain ⟨k, hk, rfl, hall, hl⟩ := hrel
      by_cases hlt : k < xs.length
      · obtain ⟨x, hx⟩ := get_of_lt hlt
        have h1 := (hl.cell (p := ⟨b, o + k * 2, none⟩) hb).trans (HC.out k x hx).1
        have h2 := (hl.cell (p := ⟨b, o + k * 2 + 1, none⟩) hb).trans (HC.out k x hx).2
        have hbl : b < wr.heap.size := Nat.lt_of_lt_of_le hb hl.size
        have HW := Lib.hid (rwithin_c x.re x.im l (by omega) (by omega))
        have HN1 := Lib.hid (HN.out k x hx)
        have HS1 := Lib.hid (HS.out k x hx hall)
        have hgs := hl.size
        obtain ⟨re, im⟩ := x
        simp only at h1 h2 HW HN1 HS1
        generalize (inB l re && inB l im) = q at HW HN1 HS1
        clear hx hall HA HN HS HC
        go_wp2_with fail
        obtain ⟨u, hU⟩ : ∃ u, u = wr.alloc (.cells #[.int .i64 re, .int .i64 im] 23) := ⟨_, rfl⟩
        have gu : Gr wr u := by rw [hU]; exact (Gr.refl wr).alloc _ _
        have zu : wr.heap.size < u.heap.size := by rw [hU]; simp
        have d0 : u.cell? ⟨wr.heap.size, 0, none⟩ = some (.int .i64 re) := by rw [hU]; go_simp
        have d1 : u.cell? ⟨wr.heap.size, 1, none⟩ = some (.int .i64 im) := by rw [hU]; go_simp
        rw [← hU]
        clear hU
        cases q
        · have HN2 := Lib.hid (HN1.out rfl)
          clear HN1 HS1
          go_region_held3 (fun W => W.cell? ⟨wr.heap.size, 0, none⟩ = some (.int .i64 re) ∧ W.cell? ⟨wr.heap.size, 1, none⟩ = some (.int .i64 im) ∧ Gr u W) (first | (go_split_ands; refine ⟨?_, ?_, ?_⟩; (all_goals (first | assumption | exact Gr.refl _ | exact Gr.drew (Gr.refl _) | exact Gr.drew (by assumption) | (go_keep; done) | ((refine (Gr.cell (by assumption) ?_).trans ?_ <;> (first | assumption)); done)))))
            (first | (go_at_call 14; refine (HP.out _).mono ?_; rintro e w' ⟨rfl, rfl⟩) | (go_at_call 13; go_split_ands; ((with_reducible refine (HW.out _).mono ?_); rintro e w' ⟨rfl, hg⟩; have hgw : Gr u w' := Gr.trans (by first | assumption | exact Gr.drew (Gr.refl _) | exact Gr.drew (by assumption) | exact Gr.refl _) hg)))
          go_wp2_with fail
          go_ret
          exact ⟨by rw [HN2.out]; rfl, (hl.trans gu).trans hgw⟩
        · have HS2 := Lib.hid (HS1.out rfl)
          clear HN1 HS1
          go_region_held3 (fun W => W.cell? ⟨wr.heap.size, 0, none⟩ = some (.int .i64 re) ∧ W.cell? ⟨wr.heap.size, 1, none⟩ = some (.int .i64 im) ∧ Gr u W) (first | (go_split_ands; refine ⟨?_, ?_, ?_⟩; (all_goals (first | assumption | exact Gr.refl _ | exact Gr.drew (Gr.refl _) | exact Gr.drew (by assumption) | (go_keep; done) | ((refine (Gr.cell (by assumption) ?_).trans ?_ <;> (first | assumption)); done)))))
            (first | (go_at_call 14; refine (HP.out _).mono ?_; rintro e w' ⟨rfl, rfl⟩) | (go_at_call 13; go_split_ands; ((with_reducible refine (HW.out _).mono ?_); rintro e w' ⟨rfl, hg⟩; have hgw : Gr u w' := Gr.trans (by first | assumption | exact Gr.drew (Gr.refl _) | exact Gr.drew (by assumption) | exact Gr.refl _) hg)))
          go_wp2_with fail
          go_roundw
          case rel => exact ⟨k + 1, by omega, by go_num, HS2.out, (hl.trans gu).trans hgw⟩
          case measure => simp [intOf]; omega
      · obtain rfl : k = xs.length := by omega
        rw [HA] at hall
        have HL := Lib.hid hall
        clear hall HA
        go_wp2_with fail
        go_ret
        exact ⟨by rw [HL.out]; rfl, hl⟩

end Go.Proofs.Ytmhcbphkkcmecaa

namespace Go.Proofs.Ytmhcbphkkcmecaa
open Go.ChangeShapes Go.WideShapes Go.ChangeAt Go.RowKit
set_option linter.unusedVariables false

end Go.Proofs.Ytmhcbphkkcmecaa

namespace Go.Proofs.Ytmhcbphkkcmecaa
open Go.ChangeShapes Go.WideShapes Go.ChangeAt Go.RowKit
set_option linter.unusedVariables false

/-- The numbers of a pair: nothing runs over. -/
theorem pair_nums (a b w : Gi) (bits : Nat) (hb : bits ≤ 29) (ha : absI a.re ≤ 2147483648 ∧ absI a.im ≤ 2147483648) (hbb : absI b.re ≤ 2147483648 ∧ absI b.im ≤ 2147483648) (hw : absI w.re ≤ 2 ^ bits ∧ absI w.im ≤ 2 ^ bits) :
    (∀ x y : Int, (x = b.re ∨ x = b.im) → (y = w.re ∨ y = w.im) → -1152921504606846976 ≤ x * y ∧ x * y ≤ 1152921504606846976) ∧
    (-1152921504606846976 ≤ a.re * 2 ^ bits ∧ a.re * 2 ^ bits ≤ 1152921504606846976) ∧ (-1152921504606846976 ≤ a.im * 2 ^ bits ∧ a.im * 2 ^ bits ≤ 1152921504606846976) ∧ (2 : Int) ^ bits ≤ 536870912 ∧ 0 < (2 : Int) ^ bits := by
  have hp := pow_pos2 bits
  have hp2 : (2 : Int) ^ bits ≤ 536870912 := by
    have h1 : (2 : Nat) ^ bits ≤ 2 ^ 29 := Nat.pow_le_pow_right (by decide) hb
    have h2 : ((2 ^ bits : Nat) : Int) ≤ ((2 ^ 29 : Nat) : Int) := Int.ofNat_le.2 h1
    rw [Int.natCast_pow] at h2
    simpa using h2
  have hq : (2147483648 : Int) * 2 ^ bits ≤ 1152921504606846976 := by omega
  have a1 := absI_le.1 ha.1
  have a2 := absI_le.1 ha.2
  have b1 := absI_le.1 hbb.1
  have b2 := absI_le.1 hbb.2
  have w1 := absI_le.1 hw.1
  have w2 := absI_le.1 hw.2
  have m1 := mulG_bd a.re (2 ^ bits) 2147483648 (2 ^ bits) (by omega) a1 (by omega)
  have m2 := mulG_bd a.im (2 ^ bits) 2147483648 (2 ^ bits) (by omega) a2 (by omega)
  refine ⟨fun x y hx hy => ?_, by omega, by omega, hp2, hp⟩
  have hx2 : -2147483648 ≤ x ∧ x ≤ 2147483648 := by rcases hx with rfl | rfl <;> assumption
  have hy2 : -(2 ^ bits) ≤ y ∧ y ≤ 2 ^ bits := by rcases hy with rfl | rfl <;> assumption
  have m3 := mulG_bd x y 2147483648 (2 ^ bits) (by omega) hx2 hy2
  generalize x * y = t at *
  omega

theorem root10_c (v : Value) (ws : List Gi) (k : Nat) (inv : Bool) (hk : k < ws.length) (hb : ∀ a ∈ ws, absI a.im ≤ 4611686018427387904) (w : World) (hv : CxsAt w v ws) :
    Calls Try.prog 43 #[v, .int .i64 k, .bool inv] w fun e w' => e = .returned (.agg #[.int .i64 (rootOf ws inv k).re, .int .i64 (rootOf ws inv k).im]) ∧ Gr w w' := by
  obtain ⟨x, hx⟩ := get_of_lt hk
  obtain ⟨b, o, cap, rfl, hlen, hbl, hc⟩ := hv.at (by intro e; rw [e] at hk; simp at hk)
  have h1 := (hc k x hx).1
  have h2 := (hc k x hx).2
  have hbd := absI_le.1 (hb x (List.mem_of_getElem? hx))
  have hg : ws.getD k ⟨0, 0⟩ = x := by rw [List.getD_eq_getElem?_getD, hx]; rfl
  have HC := Lib.hid (rconj_c x.re x.im (-x.im) (IntWalk.wrap64_in _ (by omega)))
  have hki : (k : Int) < ws.length := by omega
  unfold rootOf
  rw [hg]
  obtain ⟨re, im⟩ := x
  simp only at h1 h2 HC
  clear hc hv hb hbd hx hg
  cases inv
  · simp only [Bool.false_eq_true, if_false]
    go_enter Try.func43, Try.ntmps43
    go_wp2_with fail
    refine bodyPost_ret (v := .agg #[.int .i64 re, .int .i64 im]) ?_ rfl ⟨rfl, ?_⟩
    · simp [results, Try.results43, go_sem]
    · exact by repeat (first | exact Gr.refl _ | assumption | apply Gr.drew | apply Gr.alloc | (refine Gr.setCell ?_ (by first | (simp; done) | (simp; omega)) _))
  · simp only [if_true, Gi.conj]
    go_enter Try.func43, Try.ntmps43
    go_wp2_with fail
    have R0 := CellsAt.new w 23 #[.int .i64 0, .int .i64 0]
    have g0 := (Gr.refl w).alloc #[.int .i64 0, .int .i64 0] 23
    refine (HC.out _).mono ?_
    rintro e w2 ⟨rfl, g2⟩
    have R2 := R0.gr g2
    have gw := g0.trans g2
    have c0 := R2.cell 0
    have c1 := R2.cell 1
    have f0 := R2.frozen 0
    have f1 := R2.frozen 1
    have hl2 := R2.lt
    simp only [List.getElem?_toArray, List.getElem?_cons_zero, List.getElem?_cons_succ] at c0 c1
    clear R0 g0 R2 g2
    go_wp2_with fail
    refine bodyPost_ret (v := .agg #[.int .i64 re, .int .i64 (-im)]) ?_ rfl ⟨rfl, ?_⟩
    · simp [results, Try.f43, go_sem, c0, c1]
    · exact Gr.setCell (Gr.setCell gw (by simp) _) (by simp) _

end Go.Proofs.Ytmhcbphkkcmecaa

namespace Go.Proofs.Ytmhcbphkkcmecaa
open Go.ChangeShapes Go.WideShapes Go.ChangeAt Go.RowKit
set_option linter.unusedVariables false

/-- Why a pass of n numbers, m roots, may not be: e; 0: it may. part: its halves or quarters may be; inx, inw: no part is too great. -/
def WhyIs (n m : Nat) (part : Bool) (b s mo : Int) (inx inw : Bool) (e : Int) : Prop :=
  ((¬ ∃ L, IsLog (n : Int) L) ∧ e = 3) ∨
  ((∃ L, IsLog (n : Int) L) ∧ m ≠ n ∧ e = 5) ∨
  ((∃ L, IsLog (n : Int) L) ∧ m = n ∧ (part = false ∨ ¬ SetsOk b s mo) ∧ e = 1) ∨
  ((∃ L, IsLog (n : Int) L) ∧ m = n ∧ part = true ∧ SetsOk b s mo ∧ (inx && inw) = false ∧ e = 2) ∨
  ((∃ L, IsLog (n : Int) L) ∧ m = n ∧ part = true ∧ SetsOk b s mo ∧ inx = true ∧ inw = true ∧ e = 0)

theorem whyIs_ex (n m : Nat) (part : Bool) (b s mo : Int) (inx inw : Bool) : ∃ e, WhyIs n m part b s mo inx inw e := by
  unfold WhyIs
  by_cases h1 : ∃ L, IsLog (n : Int) L
  · by_cases h2 : m = n
    · by_cases h3 : part = true ∧ SetsOk b s mo
      · by_cases h4 : (inx && inw) = true
        · rw [Bool.and_eq_true] at h4
          exact ⟨0, .inr (.inr (.inr (.inr ⟨h1, h2, h3.1, h3.2, h4.1, h4.2, rfl⟩)))⟩
        · exact ⟨2, .inr (.inr (.inr (.inl ⟨h1, h2, h3.1, h3.2, by simpa using h4, rfl⟩)))⟩
      · refine ⟨1, .inr (.inr (.inl ⟨h1, h2, ?_, rfl⟩))⟩
        cases part
        · exact .inl rfl
        · exact .inr fun h => h3 ⟨rfl, h⟩
    · exact ⟨5, .inr (.inl ⟨h1, h2, rfl⟩)⟩
  · exact ⟨3, .inl ⟨h1, rfl⟩⟩

theorem rlog08_none (n : Nat) (h : ¬ ∃ L, IsLog (n : Int) L) (w : World) : Calls Try.prog 39 #[.int .i64 n] w fun e w' => e = .returned (.int .i64 (-1)) ∧ w' = w := by
  have h4 : (n : Int) ≠ 4 := fun e => h ⟨2, by omega, by omega, by rw [e]; try rfl⟩
  have h8 : (n : Int) ≠ 8 := fun e => h ⟨3, by omega, by omega, by rw [e]; try rfl⟩
  have h16 : (n : Int) ≠ 16 := fun e => h ⟨4, by omega, by omega, by rw [e]; try rfl⟩
  have h32 : (n : Int) ≠ 32 := fun e => h ⟨5, by omega, by omega, by rw [e]; try rfl⟩
  have h64 : (n : Int) ≠ 64 := fun e => h ⟨6, by omega, by omega, by rw [e]; try rfl⟩
  exact rlog08_no n h4 h8 h16 h32 h64 w

set_option maxHeartbeats 2000000 in
theorem may10_c (px pw : Option Addr) (cx cw : Nat) (xs ws : List Gi) (n m : Nat) (part : Bool) (b s mo e : Int) (inx inw : Bool) (hn : xs.length = n) (hm : ws.length = m) (hx : inx = allIn 2147483648 xs) (hw : ∀ B : Nat, b = (B : Int) → B ≤ 29 → inw = allIn (2 ^ B) ws)
    (h : WhyIs n m part b s mo inx inw e) (w : World) (hvx : CxsAt w (.slice px n cx) xs) (hvw : CxsAt w (.slice pw m cw) ws) :
    Calls Try.prog 18 #[.slice px n cx, .slice pw m cw, .bool part, .int .i64 b, .int .i64 s, .int .i64 mo] w fun e' w' => e' = .returned (.int .i64 e) ∧ Gr w w' := by
  have VX := Lib.hid hvx
  have VW := Lib.hid hvw
  clear hvx hvw hn hm
  rcases h with ⟨h1, rfl⟩ | ⟨⟨L, h1⟩, h2, rfl⟩ | ⟨⟨L, h1⟩, h2, h3, rfl⟩ | ⟨⟨L, h1⟩, h2, h3, h4, h5, rfl⟩ | ⟨⟨L, h1⟩, h2, h3, h4, h5, h6, rfl⟩
  · have HL := Lib.hid (rlog08_none n h1)
    clear h1 hx hw
    go_enter Try.func18, Try.ntmps18
    go_wp2_with (first | (go_at_call 39; refine (HL.out _).mono ?_; rintro e wz ⟨rfl, rfl⟩))
    go_ret
    exact ⟨rfl, Gr.refl _⟩
  · have HL := Lib.hid (rlog08_yes n L h1)
    have hne : ((m : Int) != n) = true := by simp; omega
    clear h1 hx hw h2
    go_enter Try.func18, Try.ntmps18
    go_wp2_with (first | (go_at_call 39; refine (HL.out _).mono ?_; rintro e wz ⟨rfl, rfl⟩))
    go_ret
    exact ⟨rfl, Gr.refl _⟩
  · have HL := Lib.hid (rlog08_yes n L h1)
    subst h2
    clear h1 hx hw
    rcases h3 with rfl | h3
    · go_enter Try.func18, Try.ntmps18
      go_wp2_with (first | (go_at_call 39; refine (HL.out _).mono ?_; rintro e wz ⟨rfl, rfl⟩))
      go_ret
      exact ⟨rfl, Gr.refl _⟩
    · have HS := Lib.hid (settings10_no b s mo h3)
      clear h3
      cases part
      all_goals
        go_enter Try.func18, Try.ntmps18
        go_wp2_with (first | (go_at_call 39; refine (HL.out _).mono ?_; rintro e wz ⟨rfl, rfl⟩) | (go_at_call 11; refine (HS.out _).mono ?_; rintro e wz ⟨rfl, rfl⟩))
        go_ret
        exact ⟨rfl, Gr.refl _⟩
  · have HL := Lib.hid (rlog08_yes n L h1)
    have HS := Lib.hid (settings10_yes b s mo h4)
    subst h2
    subst h3
    obtain ⟨B, rfl⟩ : ∃ B : Nat, b = (B : Int) := ⟨b.toNat, by have := h4.1.1; omega⟩
    have hB : B ≤ 29 := by have := h4.1.2; omega
    have HN := Lib.hid fun W (hW : CxsAt W (.slice px m cx) xs) => narrow09_c _ xs W hW
    have HR := Lib.hid fun W (hW : CxsAt W (.slice pw m cw) ws) => roots10_c _ ws B _ hB rfl W hW
    rw [← hx] at HN
    rw [← hw B rfl hB] at HR
    clear h1 hx hw h4 hB
    cases inx
    · clear h5 HR
      go_enter Try.func18, Try.ntmps18
      go_wp2_with (first | (go_at_call 39; refine (HL.out _).mono ?_; rintro e wz ⟨rfl, hwz⟩; subst wz) | (go_at_call 11; refine (HS.out _).mono ?_; rintro e wz ⟨rfl, hwz⟩; subst wz))
      refine (HN.out _ VX.out).mono ?_
      rintro e w2 ⟨rfl, g2⟩
      go_wp2_with fail
      go_ret
      exact ⟨rfl, g2⟩
    · obtain rfl : inw = false := by simpa using h5
      clear h5
      go_enter Try.func18, Try.ntmps18
      go_wp2_with (first | (go_at_call 39; refine (HL.out _).mono ?_; rintro e wz ⟨rfl, hwz⟩; subst wz) | (go_at_call 11; refine (HS.out _).mono ?_; rintro e wz ⟨rfl, hwz⟩; subst wz))
      refine (HN.out _ VX.out).mono ?_
      rintro e w2 ⟨rfl, g2⟩
      have V2 := Lib.hid (VW.out.gr g2)
      go_wp2_with fail
      refine (HR.out _ V2.out).mono ?_
      rintro e w3 ⟨rfl, g3⟩
      go_wp2_with fail
      go_ret
      exact ⟨rfl, g2.trans g3⟩
  · have HL := Lib.hid (rlog08_yes n L h1)
    have HS := Lib.hid (settings10_yes b s mo h4)
    subst h2
    subst h3
    subst h5
    subst h6
    obtain ⟨B, rfl⟩ : ∃ B : Nat, b = (B : Int) := ⟨b.toNat, by have := h4.1.1; omega⟩
    have hB : B ≤ 29 := by have := h4.1.2; omega
    have HN := Lib.hid fun W (hW : CxsAt W (.slice px m cx) xs) => narrow09_c _ xs W hW
    have HR := Lib.hid fun W (hW : CxsAt W (.slice pw m cw) ws) => roots10_c _ ws B _ hB rfl W hW
    rw [← hx] at HN
    rw [← hw B rfl hB] at HR
    clear h1 hx hw h4 hB
    go_enter Try.func18, Try.ntmps18
    go_wp2_with (first | (go_at_call 39; refine (HL.out _).mono ?_; rintro e wz ⟨rfl, hwz⟩; subst wz) | (go_at_call 11; refine (HS.out _).mono ?_; rintro e wz ⟨rfl, hwz⟩; subst wz))
    refine (HN.out _ VX.out).mono ?_
    rintro e w2 ⟨rfl, g2⟩
    have V2 := Lib.hid (VW.out.gr g2)
    go_wp2_with fail
    refine (HR.out _ V2.out).mono ?_
    rintro e w3 ⟨rfl, g3⟩
    go_wp2_with fail
    go_ret
    exact ⟨rfl, g2.trans g3⟩

end Go.Proofs.Ytmhcbphkkcmecaa
