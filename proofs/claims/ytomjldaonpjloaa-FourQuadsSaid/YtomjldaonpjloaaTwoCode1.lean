/- What package two's small functions answer. -/
import Derived.Test.YtomjldaonpjloaaTwoMath
import Derived.Test.YtomjldaonpjloaaCx4
import Derived.Test.YtomjldaonpjloaaCxs
import Derived.Laws.Cover1
namespace Go.Proofs.Ytomjldaonpjloaa
open Go.ChangeShapes Go.WideShapes Go.ChangeAt Go.RowKit
set_option linter.unusedVariables false
set_option maxRecDepth 100000

theorem tDown_c (b s mo n : Int) (hn : IntKind.i64.wrap (b + s) = n) (w : World) :
    Calls Try.prog 65 #[.agg #[.int .i64 b, .int .i64 s, .int .i64 mo]] w fun e w' => e = .returned (.int .i64 n) ∧ Gr w w' := by
  go_enter Try.func65, Try.ntmps65
  go_wp2_with fail
  go_ret
  exact ⟨by rw [← hn]; rfl, (Gr.refl w).alloc _ _⟩

/-- May bits, a shift and a mode be? -/
def SetsOk2 (b s mo : Int) : Prop := (0 ≤ b ∧ b ≤ 29) ∧ (0 ≤ s ∧ s ≤ 3) ∧ 0 ≤ mo ∧ mo ≤ 2

set_option maxHeartbeats 1000000 in
theorem tMayBe_last (b s mo x e : Int) (hb : 0 ≤ b ∧ b ≤ 29) (hs : 0 ≤ s ∧ s ≤ 3) (z : Bool) (hz : (e == 0) = z)
    (HS : Hid (∀ W, Calls Try.prog 49 #[.int .i64 0, .int .i64 (b + s), .int .i64 mo] W fun e' w' => e' = .returned (.tuple #[.int .i64 x, .int .i64 e]) ∧ Gr W w')) (w : World) :
    Calls Try.prog 59 #[.agg #[.int .i64 b, .int .i64 s, .int .i64 mo]] w fun e w' => e = .returned (.bool z) ∧ Gr w w' := by
  have HD := Lib.hid (tDown_c b s mo (b + s) (IntWalk.i64_in _ ⟨by omega, by omega⟩))
  go_enter Try.func59, Try.ntmps59
  go_wp2_with fail
  obtain ⟨u, hU⟩ : ∃ u, u = w.alloc (.cells #[.int .i64 b, .int .i64 s, .int .i64 mo] 72) := ⟨_, rfl⟩
  have gu : Gr w u := by rw [hU]; exact (Gr.refl w).alloc _ _
  have zu : w.heap.size < u.heap.size := by rw [hU]; simp
  have d0 : u.cell? ⟨w.heap.size, 0, none⟩ = some (.int .i64 b) := by rw [hU]; go_simp
  have d1 : u.cell? ⟨w.heap.size, 1, none⟩ = some (.int .i64 s) := by rw [hU]; go_simp
  have d2 : u.cell? ⟨w.heap.size, 2, none⟩ = some (.int .i64 mo) := by rw [hU]; go_simp
  rw [← hU]
  clear hU
  go_region_held3 (fun W => W.cell? ⟨w.heap.size, 0, none⟩ = some (.int .i64 b) ∧ W.cell? ⟨w.heap.size, 1, none⟩ = some (.int .i64 s) ∧ W.cell? ⟨w.heap.size, 2, none⟩ = some (.int .i64 mo) ∧ Gr u W) (first | (go_split_ands; refine ⟨?_, ?_, ?_, ?_⟩; (all_goals (first | assumption | exact Gr.refl _ | exact Gr.drew (Gr.refl _) | exact Gr.drew (by assumption) | (go_keep; done) | ((refine (Gr.cell (by assumption) ?_).trans ?_ <;> (first | assumption)); done)))))
    (first | (go_at_call 65; go_split_ands; ((with_reducible refine (HD.out _).mono ?_); rintro e w' ⟨rfl, hg⟩; have hgw : Gr u w' := Gr.trans (by first | assumption | exact Gr.drew (Gr.refl _) | exact Gr.drew (by assumption) | exact Gr.refl _) hg)) | (go_at_call 49; go_split_ands; ((with_reducible refine (HS.out _).mono ?_); rintro e w' ⟨rfl, hg⟩; have hgw : Gr u w' := Gr.trans (by first | assumption | exact Gr.drew (Gr.refl _) | exact Gr.drew (by assumption) | exact Gr.refl _) hg)))
  go_wp2_with fail
  go_ret
  exact ⟨rfl, gu.trans (by (try go_split_ands); assumption)⟩

theorem tMayBe_yes (b s mo : Int) (h : SetsOk2 b s mo) (w : World) :
    Calls Try.prog 59 #[.agg #[.int .i64 b, .int .i64 s, .int .i64 mo]] w fun e w' => e = .returned (.bool true) ∧ Gr w w' := by
  obtain ⟨h1, h2, h3, h4⟩ := h
  exact tMayBe_last b s mo _ 0 h1 h2 true rfl (Lib.hid (shift_ok 0 (b + s) mo (by omega) (by omega) (by omega) h3 h4)) w

theorem tMayBe_no (b s mo : Int) (h : ¬ SetsOk2 b s mo) (w : World) :
    Calls Try.prog 59 #[.agg #[.int .i64 b, .int .i64 s, .int .i64 mo]] w fun e w' => e = .returned (.bool false) ∧ Gr w w' := by
  unfold SetsOk2 at h
  by_cases hb : 0 ≤ b ∧ b ≤ 29
  · by_cases hs : 0 ≤ s ∧ s ≤ 3
    · exact tMayBe_last b s mo 0 1 hb hs false rfl (Lib.hid (shift_bad 0 (b + s) mo (.inl (by omega)))) w
    · have hc : s < 0 ∨ (0 ≤ s ∧ 3 < s) := by omega
      obtain ⟨b0, b1⟩ := hb
      clear h hs
      rcases hc with h1 | ⟨h1, h2⟩
      all_goals
        go_enter Try.func59, Try.ntmps59
        go_wp2_with fail
        go_ret
        exact ⟨rfl, (Gr.refl w).alloc _ _⟩
  · have hc : b < 0 ∨ (0 ≤ b ∧ 29 < b) := by omega
    clear h hb
    rcases hc with h1 | ⟨h1, h2⟩
    all_goals
      go_enter Try.func59, Try.ntmps59
      go_wp2_with fail
      go_ret
      exact ⟨rfl, (Gr.refl w).alloc _ _⟩

set_option maxHeartbeats 2000000 in
theorem tWithin_c (v : Value) (xs : List Gi) (l : Int) (hl0 : 0 ≤ l) (hl1 : l ≤ 2147483648) (w : World) (hv : CxsAt w v xs) :
    Calls Try.prog 60 #[.int .i64 l, v] w fun e w' => e = .returned (.bool (allIn l xs)) ∧ Gr w w' := by
  by_cases hx : xs = []
  · subst hx
    obtain ⟨p, cap, rfl⟩ := hv.len
    rw [show ([] : List Gi).length = 0 from rfl]
    clear hv
    go_enter Try.func60, Try.ntmps60
    go_wp2_with fail
    refine wp_loop_rounds 1 ?_
    rw [rounds_succ]
    go_wp2_with fail
    go_ret
    exact ⟨rfl, Gr.refl _⟩
  · obtain ⟨b, o, cap, rfl, hlen, hb, hc⟩ := hv.at hx
    have HC := Lib.hid hc
    have HN := Lib.hid fun (k : Nat) (a : Gi) (h : xs[k]? = some a) => allIn_no (l := l) h
    have HS := Lib.hid fun (k : Nat) (a : Gi) (h : xs[k]? = some a) => allIn_snoc (l := l) h
    have HA : allIn l (xs.take xs.length) = allIn l xs := by rw [List.take_length]
    clear hc hv hx
    go_enter Try.func60, Try.ntmps60
    go_wp2_with fail
    go_loopw [6, 9] (fun _ i wr => ∃ k : Nat, k ≤ xs.length ∧ i = .int .i64 k ∧ allIn l (xs.take k) = true ∧ Gr w wr) (fun _ i _ => xs.length - (intOf i).toNat)
    case atStart => exact ⟨0, Nat.zero_le _, rfl, rfl, Gr.refl _⟩
    case round =>
      obtain ⟨k, hk, rfl, hall, hl⟩ := hrel
      by_cases hlt : k < xs.length
      · obtain ⟨x, hx⟩ := get_of_lt hlt
        have h1 := (hl.cell (p := ⟨b, o + k * 2, none⟩) hb).trans (HC.out k x hx).1
        have h2 := (hl.cell (p := ⟨b, o + k * 2 + 1, none⟩) hb).trans (HC.out k x hx).2
        have hbl : b < wr.heap.size := Nat.lt_of_lt_of_le hb hl.size
        have HN1 := Lib.hid (HN.out k x hx)
        have HS1 := Lib.hid (HS.out k x hx hall)
        obtain ⟨re, im⟩ := x
        simp only at h1 h2 HN1 HS1
        clear hx hall HA HN HS HC
        have hll : IntKind.i64.wrap (-l) = -l := IntWalk.i64_in _ ⟨by omega, by omega⟩
        have hu : ∀ a b, ∀ c d : Int, (inB l a && inB l b) = true → -l ≤ a ∧ a ≤ l ∧ -l ≤ b ∧ b ≤ l := by
          intro a b c d h
          rw [Bool.and_eq_true, inB_iff, inB_iff] at h
          omega
        by_cases hq : (inB l re && inB l im) = true
        · have HS2 := Lib.hid (HS1.out hq)
          obtain ⟨q1, q2, q3, q4⟩ := hu re im 0 0 hq
          clear HN1 HS1 hq hu
          by_cases hm : im < re
          · go_wp2_with fail
            go_roundw
            case rel => exact ⟨k + 1, by omega, by go_num, HS2.out, hl.alloc _ _⟩
            case measure => simp [intOf]; omega
          · go_wp2_with fail
            go_roundw
            case rel => exact ⟨k + 1, by omega, by go_num, HS2.out, hl.alloc _ _⟩
            case measure => simp [intOf]; omega
        · have hq' : (inB l re && inB l im) = false := by simpa using hq
          have HN2 := Lib.hid (HN1.out hq')
          have hor : re < -l ∨ l < re ∨ im < -l ∨ l < im := by
            refine Classical.byContradiction fun h => hq ?_
            rw [Bool.and_eq_true, inB_iff, inB_iff]
            omega
          clear HN1 HS1 hq hq' hu
          have hcs : (im < re ∧ im < -l) ∨ (im < re ∧ -l ≤ im ∧ l < re) ∨ (re ≤ im ∧ re < -l) ∨ (re ≤ im ∧ -l ≤ re ∧ l < im) := by omega
          clear hor
          rcases hcs with ⟨t1, t2⟩ | ⟨t1, t2, t3⟩ | ⟨t1, t2⟩ | ⟨t1, t2, t3⟩
          all_goals
            go_wp2_with fail
          all_goals
            go_ret
            exact ⟨by rw [HN2.out]; rfl, hl.alloc _ _⟩
      · obtain rfl : k = xs.length := by omega
        rw [HA] at hall
        have HL := Lib.hid hall
        clear hall HA
        go_wp2_with fail
        go_ret
        exact ⟨by rw [HL.out]; rfl, hl⟩

/-- Which halves may be. -/
def HalfOk2 (h : Int) (n : Nat) : Prop := ∃ k : Nat, 2 ^ k < n ∧ h = ((2 ^ k : Nat) : Int)

set_option maxHeartbeats 1000000 in
theorem tHalves_c (h : Int) (n : Nat) (hn : n ≤ 70) (b : Bool) (hb : b = true ↔ HalfOk2 h n) (w : World) :
    Calls Try.prog 58 #[.int .i64 h, .int .i64 n] w fun e w' => e = .returned (.bool b) ∧ w' = w := by
  have HB := Lib.hid hb
  clear hb
  go_enter Try.func58, Try.ntmps58
  go_wp2_with fail
  go_loop [5] (fun v => ∃ j p : Nat, j ≤ 7 ∧ p = 2 ^ j ∧ p ≤ 128 ∧ v = .int .i64 p ∧ ∀ i, i < j → h ≠ ((2 ^ i : Nat) : Int)) (fun v => 128 - (intOf v).toNat)
  case atStart => exact ⟨0, 1, by omega, rfl, by omega, rfl, fun i hi => absurd hi (Nat.not_lt_zero _)⟩
  case round =>
    obtain ⟨j, p, hj, hp, hp128, rfl, hall⟩ := hrel
    have HP := Lib.hid (And.intro hp hall)
    have hp1 : 1 ≤ p := by rw [hp]; exact Nat.one_le_two_pow
    clear hp hall
    by_cases hlt : p < n
    · have hlt2 : (p : Int) < n := by omega
      by_cases he : h = (p : Int)
      · obtain rfl : b = true := HB.out.2 ⟨j, by rw [← HP.out.1]; exact hlt, by rw [← HP.out.1]; exact he⟩
        have he2 : (h == (p : Int)) = true := by simpa using he
        clear he
        go_wp2_with fail
        go_ret
        exact ⟨rfl, rfl⟩
      · have he2 : (h == (p : Int)) = false := by simpa using he
        have HE := Lib.hid he
        clear he
        have hj6 : j ≤ 6 := by
          rcases Nat.lt_or_ge j 7 with g | g
          · omega
          · have e7 : j = 7 := by omega
            have := HP.out.1
            rw [e7] at this
            omega
        go_wp2_with fail
        go_round
        case rel =>
          refine ⟨j + 1, 2 * p, by omega, by rw [HP.out.1, Nat.pow_succ]; omega, ?_, by go_num, fun i hi => ?_⟩
          · have : 2 ^ (j + 1) ≤ 2 ^ 7 := Nat.pow_le_pow_right (by omega) (by omega)
            rw [HP.out.1]
            rw [Nat.pow_succ] at this
            omega
          · rcases Nat.lt_or_ge i j with g | g
            · exact HP.out.2 i g
            · obtain rfl : i = j := by omega
              rw [← HP.out.1]
              exact HE.out
        case measure => simp [intOf] <;> omega
    · have hlt2 : (n : Int) ≤ p := by omega
      have hbf : b = false := by
        cases hbb : b
        · rfl
        · obtain ⟨k, h1, h2⟩ := HB.out.1 hbb
          have hkj : k < j := by
            rcases Nat.lt_or_ge k j with g | g
            · exact g
            · have := Nat.pow_le_pow_right (n := 2) (by omega) g
              have := HP.out.1
              omega
          exact absurd h2 (HP.out.2 k hkj)
      subst hbf
      clear HB
      go_wp2_with fail
      go_ret
      exact ⟨rfl, rfl⟩

theorem tAsked_c (g : Gi) (inv : Bool) (l : Int) (hl : l ≤ 2147483648) (hg : absI g.re ≤ l ∧ absI g.im ≤ l) (w : World) :
    Calls Try.prog 45 #[.agg #[.int .i64 g.re, .int .i64 g.im], .bool inv] w fun e w' => e = .returned (.agg #[.int .i64 (if inv then g.conj else g).re, .int .i64 (if inv then g.conj else g).im]) ∧ Gr w w' := by
  have h1 := absI_le.1 hg.1
  have h2 := absI_le.1 hg.2
  have HC := Lib.hid (cxconj_ok g.re g.im (by simp only [Bool.and_eq_true, inB_iff]; omega))
  obtain ⟨re, im⟩ := g
  simp only at HC
  clear hg h1 h2
  cases inv
  · simp only [Bool.false_eq_true, if_false]
    go_enter Try.func45, Try.ntmps45
    go_wp2_with fail
    refine bodyPost_ret (v := .agg #[.int .i64 re, .int .i64 im]) ?_ rfl ⟨rfl, ?_⟩
    · simp [results, Try.results45, go_sem]
    · exact by repeat (first | exact Gr.refl _ | assumption | apply Gr.drew | apply Gr.alloc | (refine Gr.setCell ?_ (by first | (simp; done) | (simp; omega)) _))
  · simp only [if_true, Gi.conj]
    go_enter Try.func45, Try.ntmps45
    go_wp2_with fail
    have R0 := (CellsAt.new w 39 #[.int .i64 re, .int .i64 im]).alloc (.cells #[.int .i64 0, .int .i64 0] 39)
    have R1 := CellsAt.new (w.alloc (.cells #[.int .i64 re, .int .i64 im] 39)) 39 #[.int .i64 0, .int .i64 0]
    have g0 := ((Gr.refl w).alloc #[.int .i64 re, .int .i64 im] 39).alloc #[.int .i64 0, .int .i64 0] 39
    rw [World.size_alloc] at R1
    refine (HC.out _).mono ?_
    rintro e w2 ⟨rfl, g2⟩
    have S0 := R0.gr g2
    have S1 := R1.gr g2
    have gw := g0.trans g2
    have c0 := S0.cell 0
    have c1 := S0.cell 1
    have f0 := S0.frozen 0
    have f1 := S0.frozen 1
    have c2 := S1.cell 0
    have c3 := S1.cell 1
    have f2 := S1.frozen 0
    have f3 := S1.frozen 1
    have hl2 := S1.lt
    have hl0 := S0.lt
    simp only [List.getElem?_toArray, List.getElem?_cons_zero, List.getElem?_cons_succ] at c0 c1 c2 c3
    clear R0 R1 g0 S0 S1 g2
    go_wp2_with fail
    refine bodyPost_ret (v := .agg #[.int .i64 re, .int .i64 (-im)]) ?_ rfl ⟨rfl, ?_⟩
    · simp [results, Try.f45, go_sem, c2, c3]
    · exact ((((gw.setCell (a := ⟨w.heap.size, 0, none⟩) (by simp) _).setCell (a := ⟨w.heap.size, 1, none⟩) (by simp) _)).setCell (by simp) _).setCell (by simp) _

end Go.Proofs.Ytomjldaonpjloaa
