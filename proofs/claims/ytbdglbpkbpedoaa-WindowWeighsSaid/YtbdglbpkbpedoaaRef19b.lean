/- Reference 19: what may be; numbers weighed. -/
import Derived.Test.YtbdglbpkbpedoaaRef19
import Derived.Test.YtbdglbpkbpedoaaGrow
namespace Go.Proofs.Ytbdglbpkbpedoaa
open Go.ChangeShapes Go.WideShapes Go.ChangeAt Go.RowKit
set_option linter.unusedVariables false
set_option linter.unusedSimpArgs false
set_option maxRecDepth 100000

/-- All are mantissas, where p is the value of 1. -/
def mAll (p : Int) (ls : List Int) : Bool := ls.all fun x => decide (-p ≤ x) && decide (x < p)
theorem mAll_snoc {p : Int} {ls : List Int} {k : Nat} {x : Int} (hx : ls[k]? = some x) (h : mAll p (ls.take k) = true) (h0 : -p ≤ x) (h1 : x < p) : mAll p (ls.take (k + 1)) = true := by
  unfold mAll at *
  rw [List.take_add_one, hx, List.all_append, h]
  simp [h0, h1]
theorem mAll_no {p : Int} {ls : List Int} {k : Nat} {x : Int} (hx : ls[k]? = some x) (h : x < -p ∨ p ≤ x) : mAll p ls = false := by
  unfold mAll
  rw [List.all_eq_false]
  refine ⟨x, List.mem_of_getElem? hx, ?_⟩
  simp only [Bool.and_eq_true, decide_eq_true_eq]
  omega

theorem rMay19_of (kind log bits : Int) (b : Bool) (k0 : 0 ≤ kind) (k1 : kind ≤ 3) (HM : Hid (∀ W, Calls Try.prog 19 #[.int .i64 log, .int .i64 bits] W fun e w' => e = .returned (.bool b) ∧ w' = W)) (w : World) :
    Calls Try.prog 9 #[.int .i64 kind, .int .i64 log, .int .i64 bits] w fun e w' => e = .returned (.bool b) ∧ w' = w := by
  go_enter Try.func9, Try.ntmps9
  go_wp2_with fail
  refine (HM.out _).mono ?_
  rintro e w1 ⟨rfl, hw⟩
  subst hw
  go_wp2_with fail
  go_ret
  exact ⟨by first | rfl | (cases b <;> rfl), rfl⟩
theorem rMay19_kind (kind log bits : Int) (hk : kind < 0 ∨ 3 < kind) (w : World) :
    Calls Try.prog 9 #[.int .i64 kind, .int .i64 log, .int .i64 bits] w fun e w' => e = .returned (.bool false) ∧ w' = w := by
  by_cases h0 : kind < 0
  · have h1 : ¬ 0 ≤ kind := by omega
    go_enter Try.func9, Try.ntmps9
    go_wp2_with fail
    go_ret
    exact ⟨rfl, rfl⟩
  · have h1 : 0 ≤ kind := by omega
    have h2 : ¬ kind ≤ 3 := by omega
    go_enter Try.func9, Try.ntmps9
    go_wp2_with fail
    go_ret
    exact ⟨rfl, rfl⟩

set_option maxHeartbeats 1000000 in
theorem rMant_of (v : Value) (ls : List Int) (fo p : Int) (hl : ls.length ≤ 64) (hne : ls ≠ [])
    (HY : Hid (∀ x, -p ≤ x → x < p → ∀ W, Calls Try.prog 52 #[.int .i64 x, .int .i64 fo] W fun e w' => e = .returned (.bool true) ∧ w' = W)) (HN : Hid (∀ x, x < -p ∨ p ≤ x → ∀ W, Calls Try.prog 52 #[.int .i64 x, .int .i64 fo] W fun e w' => e = .returned (.bool false) ∧ w' = W)) (w : World) (hv : NumsAt w v ls) :
    Calls Try.prog 28 #[v, .int .i64 fo] w fun e w' => e = .returned (.bool (mAll p ls)) ∧ w' = w := by
  obtain ⟨yb, yo, cap, rfl, _, hbb, hc⟩ := hv.at hne
  have HC := Lib.hid hc
  have HL := Lib.hid hl
  clear hc hv hl hne
  go_enter Try.func28, Try.ntmps28
  go_wp2_with fail
  go_loopw [6, 9] (fun _ i wr => ∃ j : Nat, j ≤ ls.length ∧ i = .int .i64 j ∧ mAll p (ls.take j) = true ∧ wr = w) (fun _ i _ => ls.length - (intOf i).toNat)
  case atStart => exact ⟨0, by omega, rfl, rfl, rfl⟩
  case round =>
    obtain ⟨j, hj, rfl, hm, rfl⟩ := hrel
    by_cases hlt : j < ls.length
    · obtain ⟨x, hx⟩ := get_of_lt hlt
      have hlI : (j : Int) < (ls.length : Int) := by omega
      have h1 := HC.out j x hx
      by_cases hin : -p ≤ x ∧ x < p
      · have H1 := Lib.hid (HY.out x hin.1 hin.2)
        have hs := Lib.hid (mAll_snoc hx hm hin.1 hin.2)
        clear hm hx hin HY HN
        go_wp2_with fail
        refine (H1.out _).mono ?_
        rintro e w1 ⟨rfl, hw⟩
        subst hw
        go_wp2_with fail
        have HL1 := HL.out
        go_roundw
        case rel => exact ⟨j + 1, by omega, by go_num, hs.out, by trivial⟩
        case measure => simp [intOf]; omega
      · have H1 := Lib.hid (HN.out x (by omega))
        have hs := Lib.hid (mAll_no hx (show x < -p ∨ p ≤ x by omega))
        clear hm hx hin HY HN
        go_wp2_with fail
        refine (H1.out _).mono ?_
        rintro e w1 ⟨rfl, hw⟩
        subst hw
        go_wp2_with fail
        go_ret
        exact ⟨by first | rfl | (rw [hs.out]; rfl), rfl⟩
    · obtain rfl : j = ls.length := by omega
      have hlI : ¬ (ls.length : Int) < (ls.length : Int) := by omega
      rw [List.take_length] at hm
      go_wp2_with fail
      go_ret
      exact ⟨by first | rfl | (rw [hm]; rfl), rfl⟩

theorem rWhy19_size (px : Option Addr) (n cx : Nat) (kind fo mo : Int) (HL : Hid (∀ W, Calls Try.prog 26 #[.int .i64 (n : Int)] W fun e w' => e = .returned (.int .i64 (-1)) ∧ w' = W)) (w : World) : Calls Try.prog 15 #[.slice px n cx, .int .i64 kind, .int .i64 fo, .int .i64 mo] w fun e w' => e = .returned (.int .i64 3) ∧ w' = w := by
  go_enter Try.func15, Try.ntmps15
  go_wp2_with fail
  refine (HL.out _).mono ?_
  rintro e w1 ⟨rfl, hw⟩
  subst hw
  go_wp2_with fail
  go_ret
  exact ⟨by first | rfl | (simp; done), rfl⟩

set_option maxHeartbeats 1000000 in
theorem rWhy19_klo (px : Option Addr) (n cx : Nat) (kind fo mo : Int) (L : Nat) (h0 : kind < 0) (HL : Hid (∀ W, Calls Try.prog 26 #[.int .i64 (n : Int)] W fun e w' => e = .returned (.int .i64 (L : Int)) ∧ w' = W)) (w : World) : Calls Try.prog 15 #[.slice px n cx, .int .i64 kind, .int .i64 fo, .int .i64 mo] w fun e w' => e = .returned (.int .i64 1) ∧ w' = w := by
  have hL : ¬ (L : Int) < 0 := by omega
  go_enter Try.func15, Try.ntmps15
  go_wp2_with fail
  refine (HL.out _).mono ?_
  rintro e w1 ⟨rfl, hw⟩
  subst hw
  go_wp2_with fail
  go_ret
  exact ⟨by first | rfl | (simp; done), rfl⟩

set_option maxHeartbeats 1000000 in
theorem rWhy19_khi (px : Option Addr) (n cx : Nat) (kind fo mo : Int) (L : Nat) (h0 : ¬ kind < 0) (h1 : 3 < kind) (HL : Hid (∀ W, Calls Try.prog 26 #[.int .i64 (n : Int)] W fun e w' => e = .returned (.int .i64 (L : Int)) ∧ w' = W)) (w : World) : Calls Try.prog 15 #[.slice px n cx, .int .i64 kind, .int .i64 fo, .int .i64 mo] w fun e w' => e = .returned (.int .i64 1) ∧ w' = w := by
  have hL : ¬ (L : Int) < 0 := by omega
  go_enter Try.func15, Try.ntmps15
  go_wp2_with fail
  refine (HL.out _).mono ?_
  rintro e w1 ⟨rfl, hw⟩
  subst hw
  go_wp2_with fail
  go_ret
  exact ⟨by first | rfl | (simp; done), rfl⟩

set_option maxHeartbeats 1000000 in
theorem rWhy19_fmt (px : Option Addr) (n cx : Nat) (kind fo mo : Int) (L : Nat) (h0 : ¬ kind < 0) (h1 : ¬ 3 < kind) (HL : Hid (∀ W, Calls Try.prog 26 #[.int .i64 (n : Int)] W fun e w' => e = .returned (.int .i64 (L : Int)) ∧ w' = W)) (HF : Hid (∀ W, Calls Try.prog 27 #[.int .i64 fo] W fun e w' => e = .returned (.bool false) ∧ w' = W)) (w : World) : Calls Try.prog 15 #[.slice px n cx, .int .i64 kind, .int .i64 fo, .int .i64 mo] w fun e w' => e = .returned (.int .i64 1) ∧ w' = w := by
  have hL : ¬ (L : Int) < 0 := by omega
  go_enter Try.func15, Try.ntmps15
  go_wp2_with fail
  refine (HL.out _).mono ?_
  rintro e w1 ⟨rfl, hw⟩
  subst hw
  go_wp2_with fail
  refine (HF.out _).mono ?_
  rintro e w2 ⟨rfl, hw⟩
  subst hw
  go_wp2_with fail
  go_ret
  exact ⟨by first | rfl | (simp; done), rfl⟩

set_option maxHeartbeats 1000000 in
theorem rWhy19_mlo (px : Option Addr) (n cx : Nat) (kind fo mo : Int) (L : Nat) (h0 : ¬ kind < 0) (h1 : ¬ 3 < kind) (h2 : mo < 0) (HL : Hid (∀ W, Calls Try.prog 26 #[.int .i64 (n : Int)] W fun e w' => e = .returned (.int .i64 (L : Int)) ∧ w' = W)) (HF : Hid (∀ W, Calls Try.prog 27 #[.int .i64 fo] W fun e w' => e = .returned (.bool true) ∧ w' = W)) (w : World) : Calls Try.prog 15 #[.slice px n cx, .int .i64 kind, .int .i64 fo, .int .i64 mo] w fun e w' => e = .returned (.int .i64 1) ∧ w' = w := by
  have hL : ¬ (L : Int) < 0 := by omega
  go_enter Try.func15, Try.ntmps15
  go_wp2_with fail
  refine (HL.out _).mono ?_
  rintro e w1 ⟨rfl, hw⟩
  subst hw
  go_wp2_with fail
  refine (HF.out _).mono ?_
  rintro e w2 ⟨rfl, hw⟩
  subst hw
  go_wp2_with fail
  go_ret
  exact ⟨by first | rfl | (simp; done), rfl⟩

set_option maxHeartbeats 1000000 in
theorem rWhy19_mhi (px : Option Addr) (n cx : Nat) (kind fo mo : Int) (L : Nat) (h0 : ¬ kind < 0) (h1 : ¬ 3 < kind) (h2 : ¬ mo < 0) (h3 : 2 < mo) (HL : Hid (∀ W, Calls Try.prog 26 #[.int .i64 (n : Int)] W fun e w' => e = .returned (.int .i64 (L : Int)) ∧ w' = W)) (HF : Hid (∀ W, Calls Try.prog 27 #[.int .i64 fo] W fun e w' => e = .returned (.bool true) ∧ w' = W)) (w : World) : Calls Try.prog 15 #[.slice px n cx, .int .i64 kind, .int .i64 fo, .int .i64 mo] w fun e w' => e = .returned (.int .i64 1) ∧ w' = w := by
  have hL : ¬ (L : Int) < 0 := by omega
  go_enter Try.func15, Try.ntmps15
  go_wp2_with fail
  refine (HL.out _).mono ?_
  rintro e w1 ⟨rfl, hw⟩
  subst hw
  go_wp2_with fail
  refine (HF.out _).mono ?_
  rintro e w2 ⟨rfl, hw⟩
  subst hw
  go_wp2_with fail
  go_ret
  exact ⟨by first | rfl | (simp; done), rfl⟩

set_option maxHeartbeats 1000000 in
theorem rWhy19_ok (px : Option Addr) (n cx : Nat) (kind fo mo : Int) (L : Nat) (h0 : ¬ kind < 0) (h1 : ¬ 3 < kind) (h2 : ¬ mo < 0) (h3 : ¬ 2 < mo) (HL : Hid (∀ W, Calls Try.prog 26 #[.int .i64 (n : Int)] W fun e w' => e = .returned (.int .i64 (L : Int)) ∧ w' = W)) (HF : Hid (∀ W, Calls Try.prog 27 #[.int .i64 fo] W fun e w' => e = .returned (.bool true) ∧ w' = W)) (b : Bool) (v : Value) (ls : List Int) (HMA : Hid (∀ W, NumsAt W (.slice px n cx) ls → Calls Try.prog 28 #[.slice px n cx, .int .i64 fo] W fun e w' => e = .returned (.bool b) ∧ w' = W)) (w : World) (hv : NumsAt w (.slice px n cx) ls) : Calls Try.prog 15 #[.slice px n cx, .int .i64 kind, .int .i64 fo, .int .i64 mo] w fun e w' => e = .returned (.int .i64 (if b then 0 else 2)) ∧ w' = w := by
  have hL : ¬ (L : Int) < 0 := by omega
  cases b
  all_goals
    go_enter Try.func15, Try.ntmps15
    go_wp2_with fail
    refine (HL.out _).mono ?_
    rintro e w1 ⟨rfl, hw⟩
    subst hw
    go_wp2_with fail
    refine (HF.out _).mono ?_
    rintro e w2 ⟨rfl, hw⟩
    subst hw
    go_wp2_with fail
    refine (HMA.out _ hv).mono ?_
    rintro e w3 ⟨rfl, hw⟩
    subst hw
    go_wp2_with fail
    go_ret
    exact ⟨by first | rfl | (simp; done), rfl⟩

set_option maxHeartbeats 2000000 in
/-- Numbers weighed. -/
theorem rApply19_of (xb xo cx n L : Nat) (kind fo mo b : Int) (X T P Y : Nat → Int) (hn : 0 < n ∧ n ≤ 64)
    (HB : Hid (∀ W, Calls Try.prog 29 #[.int .i64 fo] W fun e w' => e = .returned (.int .i64 b) ∧ w' = W)) (HL : Hid (∀ W, Calls Try.prog 26 #[.int .i64 (n : Int)] W fun e w' => e = .returned (.int .i64 (L : Int)) ∧ w' = W))
    (HT : Hid (∀ W, Calls Try.prog 11 #[.int .i64 kind, .int .i64 (L : Int), .int .i64 b] W fun e w' => ∃ v, e = .returned v ∧ NumsAt w' v ((List.range n).map T) ∧ Gr W w'))
    (HS : Hid (∀ k, k < n → wrap64 (X k * T k) = P k ∧ ∀ W, Calls Try.prog 30 #[.int .i64 (P k), .int .i64 b, .int .i64 mo] W fun e w' => e = .returned (.int .i64 (Y k)) ∧ w' = W))
    (w : World) (hxb : xb < w.heap.size) (hx : ∀ k, k < n → w.cell? ⟨xb, xo + k, none⟩ = some (.int .i64 (X k))) :
    Calls Try.prog 16 #[.slice (some ⟨xb, xo, none⟩) n cx, .int .i64 kind, .int .i64 fo, .int .i64 mo] w fun e w' => ∃ v, e = .returned v ∧ NumsAt w' v ((List.range n).map Y) ∧ Gr w w' := by
  obtain ⟨i0, hi, hz0, hz1, hz2⟩ := info_parts info_int
  have HX := Lib.hid hx
  have HN := Lib.hid hn
  clear hx hn
  go_enter Try.func16, Try.ntmps16
  go_wp2_with fail
  refine (HB.out _).mono ?_
  rintro e w1 ⟨rfl, hw⟩
  subst hw
  go_wp2_with fail
  refine (HL.out _).mono ?_
  rintro e w2 ⟨rfl, hw⟩
  subst hw
  go_wp2_with fail
  refine (HT.out _).mono ?_
  rintro e w3 ⟨vt, rfl, hv, g3⟩
  obtain ⟨tb, ti, tc, hsl, _, htb, hct⟩ := hv.at (by have := HN.out; intro e; have := congrArg List.length e; simp at this; omega)
  rw [List.length_map, List.length_range] at hsl
  subst hsl
  have HTC := Lib.hid (show ∀ k, k < n → w3.cell? ⟨tb, ti + k, none⟩ = some (.int .i64 (T k)) from fun k hk => hct k _ (by rw [List.getElem?_map, List.getElem?_range hk]; rfl))
  have hxb3 : xb < w3.heap.size := Nat.lt_of_lt_of_le hxb g3.size
  have HXC := Lib.hid (show ∀ k, k < n → w3.cell? ⟨xb, xo + k, none⟩ = some (.int .i64 (X k)) from fun k hk => (g3.cell (p := ⟨xb, xo + k, none⟩) hxb).trans (HX.out k hk))
  clear hv hct HT HX hxb
  go_wp2_with fail
  have row0 : (w3.alloc (.cells #[] 3)).ownsRow w3.heap.size 3 1 (.slice (some ⟨w3.heap.size, 0, none⟩) 0 0) 0 [] := World.ownsRow_made w3 #[] 0 (Nat.le_refl _) (by unfold maxLen; omega) (by simp)
  go_loopw [11, 12, 13, 25] (fun v _ _ i wr => ∃ j : Nat, j ≤ n ∧ i = .int .i64 j ∧ wr.ownsRow w3.heap.size 3 1 v j (((List.range j).map Y).map (Value.int .i64)) ∧ w3.heap.size < wr.heap.size ∧ Gr w3 wr)
    (fun _ _ _ i _ => n - (intOf i).toNat)
  case atStart => exact ⟨0, by omega, rfl, row0, by simp, (Gr.refl _).alloc _ _⟩
  case round =>
    clear row0
    obtain ⟨j, hj, rfl, hrow, hsz, hg⟩ := hrel
    have hn64 := HN.out
    by_cases hlt : j < n
    · have hlI : (j : Int) < (n : Int) := by omega
      have h1 := (hg.cell (p := ⟨xb, xo + j, none⟩) hxb3).trans (HXC.out j hlt)
      have h2 := (hg.cell (p := ⟨tb, ti + j, none⟩) htb).trans (HTC.out j hlt)
      have hbx : xb < wr.heap.size := Nat.lt_of_lt_of_le hxb3 hg.size
      have hbt : tb < wr.heap.size := Nat.lt_of_lt_of_le htb hg.size
      have ep := (HS.out j hlt).1
      have HS1 := Lib.hid (HS.out j hlt).2
      have HTK := Lib.hid (show (List.range (j + 1)).map Y = (List.range j).map Y ++ [Y j] by rw [List.range_succ, List.map_append]; rfl)
      generalize Y j = r at *
      generalize X j = x at *
      generalize T j = t at *
      generalize P j = pp at *
      have EP := Lib.hid ep
      clear ep hlt
      go_wp2_with fail
      rw [EP.out]
      refine (HS1.out _).mono ?_
      rintro e w4 ⟨rfl, hw⟩
      subst hw
      have hrow2 := hrow
      clear hrow h1 h2 HS1
      go_wp2_with (at_builtin; refine wpList_append_own_at _ rfl (.tmp 30) (.tmp 40) 22 rfl w3.heap.size 3 i0 (.int .i64 0) 1 8 Try.underlying22 hi hz0 hz1 hz2 rfl (by decide) _ _ _ rfl (hrow2.alloc _) ⟨_, 0, none⟩ 1 1 [.int .i64 r] rfl rfl (cell_one_new _ _ _) (by simp [Value.oneCell']) (by unfold maxLen; omega) (by omega) (by simp; omega) ?_; intro v1 W1 hown1 hgrow1 _ hblk)
      have hg3 := (hg.allocO _).grown hgrow1 (fun k e => (hrow2.lt k e).1)
      have hs3 := hg3.size
      have hs4 := hgrow1.size
      rw [World.size_alloc] at hs4
      go_roundw
      case rel =>
        refine ⟨j + 1, by omega, by go_num, ?_, by omega, hg3⟩
        rw [HTK.out, List.map_append]
        exact hown1
      case measure => simp [intOf]; omega
    · obtain rfl : j = n := by omega
      have hlI : ¬ (j : Int) < (j : Int) := by omega
      go_wp2_with fail
      go_ret
      exact ⟨_, rfl, NumsAt.of_row hrow, g3.trans hg⟩

end Go.Proofs.Ytbdglbpkbpedoaa
