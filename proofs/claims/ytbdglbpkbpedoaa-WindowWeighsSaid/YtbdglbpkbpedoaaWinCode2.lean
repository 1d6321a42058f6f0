/- Package window: tables, sums, numbers weighed. -/
import Derived.Test.YtbdglbpkbpedoaaWinCode1
import Derived.Test.YtbdglbpkbpedoaaWinNum
namespace Go.Proofs.Ytbdglbpkbpedoaa
open Go.ChangeShapes Go.WideShapes Go.ChangeAt Go.RowKit Go.MapKept
set_option linter.unusedVariables false
set_option linter.unusedSimpArgs false
set_option maxRecDepth 100000

/-- A made slice filled by number. -/
theorem NumsAt.of_put {W : World} {B : Nat} {t : TypeId} {c : Array Value} {f : Nat → Int} {n : Nat} (h : CellsAt W B t c) (hn : n ≤ 1048576) (hc : ∀ j, j < n → c[j]? = some (.int .i64 (f j))) : NumsAt W (.slice (some ⟨B, 0, none⟩) n n) ((List.range n).map f) := by
  refine ⟨some ⟨B, 0, none⟩, n, by simp, by simp, by unfold maxLen; omega, fun _ => ⟨B, 0, rfl, h.lt, fun j x hj => ?_⟩⟩
  rw [List.getElem?_map] at hj
  obtain ⟨i, hi, rfl⟩ := Option.map_eq_some_iff.1 hj
  obtain ⟨hl, rfl⟩ := List.getElem?_eq_some_iff.1 hi
  simp only [List.length_range] at hl
  have := hc j hl
  rw [Nat.zero_add, h.cell]
  simpa using this

theorem whTable_bad (kind log bits : Int) (HR : Hid (∀ W, Calls Try.prog 17 #[.int .i64 log, .int .i64 bits] W fun e w' => e = .returned (.tuple #[.slice none 0 0, .int .i64 1]) ∧ Gr W w')) (w : World) :
    Calls Try.prog 7 #[.int .i64 kind, .int .i64 log, .int .i64 bits] w fun e w' => e = .returned (.tuple #[.slice none 0 0, .int .i64 1]) ∧ Gr w w' := by
  go_enter Try.func7, Try.ntmps7
  go_wp2_with fail
  refine (HR.out _).mono ?_
  rintro e w1 ⟨rfl, g1⟩
  go_wp2_with fail
  go_ret2
  exact ⟨rfl, g1⟩

theorem whTable_none (kind log bits : Int) (n : Nat) (T : List Gi) (HR : Hid (∀ W, Calls Try.prog 17 #[.int .i64 log, .int .i64 bits] W fun e w' => ∃ p cap, e = .returned (.tuple #[.slice p n cap, .int .i64 0]) ∧ CxsAt w' (.slice p n cap) T ∧ Gr W w'))
    (HF : Hid (∀ p cap W, CxsAt W (.slice p n cap) T → Calls Try.prog 18 #[.slice p n cap, .int .i64 bits] W fun e w' => ∃ B z, e = .returned (.map (some B)) ∧ (Instr.lookup 43 (.map (some B)) (.int .i64 kind) true).run Try.prog w' = .ok (.tuple #[z, .bool false]) w' ∧ Gr W w')) (w : World) :
    Calls Try.prog 7 #[.int .i64 kind, .int .i64 log, .int .i64 bits] w fun e w' => e = .returned (.tuple #[.slice none 0 0, .int .i64 1]) ∧ Gr w w' := by
  go_enter Try.func7, Try.ntmps7
  go_wp2_with fail
  refine (HR.out _).mono ?_
  rintro e w1 ⟨p, cap, rfl, hT, g1⟩
  have HF1 := Lib.hid (HF.out p cap w1 hT)
  clear HF HR
  go_wp2_with fail
  refine (HF1.out).mono ?_
  rintro e w2 ⟨B, z, rfl, hlk, g2⟩
  go_wp2_with fail
  go_ret2
  exact ⟨rfl, g1.trans g2⟩

set_option maxHeartbeats 2000000 in
theorem whTable_of (kind log bits : Int) (n : Nat) (T : List Gi) (f : Nat → Int) (hn : n ≤ 64) (HR : Hid (∀ W, Calls Try.prog 17 #[.int .i64 log, .int .i64 bits] W fun e w' => ∃ p cap, e = .returned (.tuple #[.slice p n cap, .int .i64 0]) ∧ CxsAt w' (.slice p n cap) T ∧ Gr W w'))
    (HF : Hid (∀ p cap W, CxsAt W (.slice p n cap) T → Calls Try.prog 18 #[.slice p n cap, .int .i64 bits] W fun e w' => ∃ B F K, e = .returned (.map (some B)) ∧ (Instr.lookup 43 (.map (some B)) (.int .i64 kind) true).run Try.prog w' = .ok (.tuple #[.func (.func F) #[] K, .bool true]) w' ∧ Enters F ∧ (∀ k : Nat, k < n → ∀ W, Gr w' W → Calls Try.prog F (#[.int .i64 k] ++ K) W fun e w' => e = .returned (.int .i64 (f k)) ∧ Gr W w') ∧ Gr W w')) (w : World) :
    Calls Try.prog 7 #[.int .i64 kind, .int .i64 log, .int .i64 bits] w fun e w' => ∃ v, e = .returned (.tuple #[v, .int .i64 0]) ∧ NumsAt w' v ((List.range n).map f) ∧ Gr w w' := by
  have hmk := run_make_row' (P := Try.prog) 22 3 (.int .i64 0) 8 Try.underlying22 info_int rfl .i64 .i64 n (by omega) (by omega)
  go_enter Try.func7, Try.ntmps7
  go_wp2_with fail
  refine (HR.out _).mono ?_
  rintro e w1 ⟨p, cap, rfl, hT, g1⟩
  have HF1 := Lib.hid (HF.out p cap w1 hT)
  clear HF HR
  go_wp2_with fail
  refine (HF1.out).mono ?_
  rintro e w2 ⟨B, F, K, rfl, hlk, hE, hC, g2⟩
  have HC := Lib.hid hC
  have HEN := Lib.hid hE
  have y2 := g1.trans g2
  clear hC HF1 g1 g2 hT hE
  go_wp2_with fail
  have M0 := MadeAt.start w2 (.int .i64 0) n 3
  go_loopw [13, 38] (fun _ i wr => ∃ k : Nat, ∃ c : Array Value, k ≤ n ∧ i = .int .i64 k ∧ CellsAt wr w2.heap.size 3 c ∧ c.size = n ∧ (∀ j, j < k → c[j]? = some (.int .i64 (f j))) ∧ Gr w2 wr) (fun _ i _ => n - (intOf i).toNat)
  case atStart => exact ⟨0, _, by omega, rfl, M0.1, M0.2, fun j hj => absurd hj (Nat.not_lt_zero _), (Gr.refl _).alloc _ _⟩
  case round =>
    clear M0 hmk hlk
    obtain ⟨k, c, hk, rfl, hC, hs, hj, hg⟩ := hrel
    by_cases hlt : k < n
    · have hlI : (k : Int) < (n : Int) := by omega
      have hE := HEN.out
      have HC1 := Lib.hid (HC.out k hlt)
      have HS := Lib.hid hs
      have HJ := Lib.hid hj
      clear hs hj HC HEN
      unfold Enters at hE
      generalize hfk : f k = x at *
      have HFK := Lib.hid hfk
      clear hfk
      go_wp2_with fail
      refine (HC1.out _ hg).mono ?_
      rintro e w3 ⟨rfl, hg2⟩
      have hC2 := hC.gr hg2
      have hg3 := hg.trans hg2
      have lC := hC2.lt
      have q0 := hC2.cell k
      rw [Array.getElem?_eq_getElem (show k < c.size by rw [HS.out]; omega)] at q0
      have f0 := hC2.frozen k
      clear hC hg hg2 HC1
      go_wp2_with fail
      have hC3 := hC2.set k (.int .i64 x)
      have hg4 := hg3.setCell (a := ⟨w2.heap.size, k, none⟩) (by simp) (.int .i64 x)
      go_roundw
      case rel =>
        refine ⟨k + 1, _, by omega, by go_num, hC3, by simpa using HS.out, fun j hj => ?_, hg4⟩
        by_cases e : j = k
        · subst e
          rw [Array.getElem?_setIfInBounds, if_pos rfl, if_pos (by rw [HS.out]; omega), HFK.out]
        · rw [Array.getElem?_setIfInBounds, if_neg (by omega)]
          exact HJ.out j (by omega)
      case measure => simp [intOf]; omega
    · obtain rfl : k = n := by omega
      have hlI : ¬ (k : Int) < (k : Int) := by omega
      go_wp2_with fail
      go_ret2
      exact ⟨_, rfl, NumsAt.of_put hC (by omega) hj, y2.trans hg⟩

theorem whSum_no (kind log bits : Int) (HT : Hid (∀ W, Calls Try.prog 7 #[.int .i64 kind, .int .i64 log, .int .i64 bits] W fun e w' => e = .returned (.tuple #[.slice none 0 0, .int .i64 1]) ∧ Gr W w')) (w : World) :
    Calls Try.prog 8 #[.int .i64 kind, .int .i64 log, .int .i64 bits] w fun e w' => e = .returned (.tuple #[.int .i64 0, .int .i64 1]) ∧ Gr w w' := by
  go_enter Try.func8, Try.ntmps8
  go_wp2_with fail
  refine (HT.out _).mono ?_
  rintro e w1 ⟨rfl, g1⟩
  go_wp2_with fail
  go_loopw [10, 12, 22] (fun a _ i wr => i = .int .i64 0 ∧ a = .int .i64 0 ∧ wr = w1) (fun _ _ _ _ => 0)
  case atStart => exact ⟨rfl, rfl, rfl⟩
  case round =>
    obtain ⟨rfl, rfl, rfl⟩ := hrel
    go_wp2_with fail
    go_ret2
    exact ⟨rfl, g1⟩

set_option maxHeartbeats 1000000 in
theorem whSum_of (kind log bits : Int) (ls : List Int) (hl : ls.length ≤ 64) (hb : ∀ x ∈ ls, -8796093022208 ≤ x ∧ x ≤ 8796093022208) (hne : ls ≠ [])
    (HT : Hid (∀ W, Calls Try.prog 7 #[.int .i64 kind, .int .i64 log, .int .i64 bits] W fun e w' => ∃ v, e = .returned (.tuple #[v, .int .i64 0]) ∧ NumsAt w' v ls ∧ Gr W w')) (w : World) :
    Calls Try.prog 8 #[.int .i64 kind, .int .i64 log, .int .i64 bits] w fun e w' => e = .returned (.tuple #[.int .i64 (addL ls), .int .i64 0]) ∧ Gr w w' := by
  have HB := Lib.hid hb
  have HL := Lib.hid hl
  have HNE := Lib.hid hne
  clear hb hl hne
  go_enter Try.func8, Try.ntmps8
  go_wp2_with fail
  refine (HT.out _).mono ?_
  rintro e w1 ⟨v, rfl, hv, g1⟩
  obtain ⟨yb, yo, cap, rfl, _, hbb, hc⟩ := hv.at HNE.out
  have HC := Lib.hid hc
  clear hc hv HT
  go_wp2_with fail
  go_loopw [10, 12, 22] (fun a _ i wr => ∃ j : Nat, j ≤ ls.length ∧ i = .int .i64 j ∧ a = .int .i64 (addL (ls.take j)) ∧ wr = w1) (fun _ _ i _ => ls.length - (intOf i).toNat)
  case atStart => exact ⟨0, by omega, rfl, rfl, rfl⟩
  case round =>
    obtain ⟨j, hj, rfl, rfl, rfl⟩ := hrel
    by_cases hlt : j < ls.length
    · obtain ⟨x, hx⟩ := get_of_lt hlt
      have hlI : (j : Int) < (ls.length : Int) := by omega
      have h1 := HC.out j x hx
      have es : addL (ls.take (j + 1)) = addL (ls.take j) + x := by rw [take_snoc hx, addL_snoc]
      have hx1 := HB.out x (List.mem_of_getElem? hx)
      have hx2 := addL_bd (ls.take j) 8796093022208 (fun y hy => HB.out y (List.mem_of_mem_take hy))
      rw [List.length_take, Nat.min_eq_left hj] at hx2
      have HL1 := HL.out
      have hw : wrap64 (addL (ls.take j) + x) = addL (ls.take (j + 1)) := by rw [es]; exact IntWalk.wrap64_in _ ⟨by omega, by omega⟩
      clear hx1 hx2 es hx
      go_wp2_with fail
      go_roundw
      case rel => exact ⟨j + 1, by omega, by go_num, by first | rfl | (simp [hw]), by trivial⟩
      case measure => simp [intOf]; omega
    · obtain rfl : j = ls.length := by omega
      have hlI : ¬ (ls.length : Int) < (ls.length : Int) := by omega
      go_wp2_with fail
      go_ret2
      exact ⟨by simp [List.take_length], g1⟩

theorem whOf_bad (kind log fo : Int) (HB : Hid (∀ W, Calls Try.prog 47 #[.int .i64 fo] W fun e w' => e = .returned (.tuple #[.int .i64 0, .int .i64 1]) ∧ Gr W w')) (w : World) :
    Calls Try.prog 23 #[.int .i64 kind, .int .i64 log, .int .i64 fo] w fun e w' => e = .returned (.tuple #[.slice none 0 0, .int .i64 0, .int .i64 1]) ∧ Gr w w' := by
  go_enter Try.func23, Try.ntmps23
  go_wp2_with fail
  refine (HB.out _).mono ?_
  rintro e w1 ⟨rfl, g1⟩
  go_wp2_with fail
  go_ret3
  exact ⟨rfl, g1⟩
theorem whOf_ok (kind log fo b z y : Int) (ls : List Int) (hz : wrap64 (b - 2) = z) (HB : Hid (∀ W, Calls Try.prog 47 #[.int .i64 fo] W fun e w' => e = .returned (.tuple #[.int .i64 b, .int .i64 0]) ∧ Gr W w'))
    (HT : Hid (∀ W, Calls Try.prog 7 #[.int .i64 kind, .int .i64 log, .int .i64 z] W fun e w' => ∃ v, e = .returned (.tuple #[v, .int .i64 y]) ∧ NumsAt w' v ls ∧ Gr W w')) (w : World) :
    Calls Try.prog 23 #[.int .i64 kind, .int .i64 log, .int .i64 fo] w fun e w' => ∃ v, e = .returned (.tuple #[v, .int .i64 z, .int .i64 y]) ∧ NumsAt w' v ls ∧ Gr w w' := by
  go_enter Try.func23, Try.ntmps23
  go_wp2_with fail
  refine (HB.out _).mono ?_
  rintro e w1 ⟨rfl, g1⟩
  go_wp2_with fail
  refine (HT.out _).mono ?_
  rintro e w2 ⟨v, rfl, hv, g2⟩
  go_wp2_with fail
  go_ret3
  exact ⟨v, rfl, hv, g1.trans g2⟩

theorem whApply_size (px : Option Addr) (n cx : Nat) (kind fo mo : Int) (HL : Hid (∀ W, Calls Try.prog 22 #[.int .i64 (n : Int)] W fun e w' => e = .returned (.tuple #[.int .i64 0, .int .i64 3]) ∧ Gr W w')) (w : World) :
    Calls Try.prog 14 #[.slice px n cx, .int .i64 kind, .int .i64 fo, .int .i64 mo] w fun e w' => e = .returned (.tuple #[.slice none 0 0, .int .i64 3]) ∧ Gr w w' := by
  go_enter Try.func14, Try.ntmps14
  go_wp2_with fail
  refine (HL.out _).mono ?_
  rintro e w1 ⟨rfl, g1⟩
  go_wp2_with fail
  go_ret2
  exact ⟨rfl, g1⟩

theorem whApply_kind (px : Option Addr) (n cx : Nat) (kind fo mo : Int) (L z : Int) (ls : List Int) (HL : Hid (∀ W, Calls Try.prog 22 #[.int .i64 (n : Int)] W fun e w' => e = .returned (.tuple #[.int .i64 L, .int .i64 0]) ∧ Gr W w')) (HO : Hid (∀ W, Calls Try.prog 23 #[.int .i64 kind, .int .i64 L, .int .i64 fo] W fun e w' => ∃ v, e = .returned (.tuple #[v, .int .i64 z, .int .i64 1]) ∧ NumsAt w' v ls ∧ Gr W w')) (w : World) :
    Calls Try.prog 14 #[.slice px n cx, .int .i64 kind, .int .i64 fo, .int .i64 mo] w fun e w' => e = .returned (.tuple #[.slice none 0 0, .int .i64 1]) ∧ Gr w w' := by
  go_enter Try.func14, Try.ntmps14
  go_wp2_with fail
  refine (HL.out _).mono ?_
  rintro e w1 ⟨rfl, g1⟩
  go_wp2_with fail
  refine (HO.out _).mono ?_
  rintro e w2 ⟨vt, rfl, hv, g2⟩
  go_wp2_with fail
  go_ret2
  exact ⟨rfl, g1.trans g2⟩

theorem whApply_mode (px : Option Addr) (n cx : Nat) (kind fo mo : Int) (L z s : Int) (ls : List Int) (HL : Hid (∀ W, Calls Try.prog 22 #[.int .i64 (n : Int)] W fun e w' => e = .returned (.tuple #[.int .i64 L, .int .i64 0]) ∧ Gr W w')) (HO : Hid (∀ W, Calls Try.prog 23 #[.int .i64 kind, .int .i64 L, .int .i64 fo] W fun e w' => ∃ v, e = .returned (.tuple #[v, .int .i64 z, .int .i64 0]) ∧ NumsAt w' v ls ∧ Gr W w')) (HM : Hid (∀ W, Calls Try.prog 24 #[.int .i64 0, .int .i64 z, .int .i64 mo] W fun e w' => e = .returned (.tuple #[.int .i64 s, .int .i64 1]) ∧ Gr W w')) (w : World) :
    Calls Try.prog 14 #[.slice px n cx, .int .i64 kind, .int .i64 fo, .int .i64 mo] w fun e w' => e = .returned (.tuple #[.slice none 0 0, .int .i64 1]) ∧ Gr w w' := by
  go_enter Try.func14, Try.ntmps14
  go_wp2_with fail
  refine (HL.out _).mono ?_
  rintro e w1 ⟨rfl, g1⟩
  go_wp2_with fail
  refine (HO.out _).mono ?_
  rintro e w2 ⟨vt, rfl, hv, g2⟩
  go_wp2_with fail
  refine (HM.out _).mono ?_
  rintro e w3 ⟨rfl, g3⟩
  go_wp2_with fail
  go_ret2
  exact ⟨rfl, (g1.trans g2).trans g3⟩

set_option maxHeartbeats 2000000 in
theorem whApply_range (xb xo cx n : Nat) (kind fo mo : Int) (L z s : Int) (X T P Y : Nat → Int) (m : Nat) (hm : m < n) (hn : 0 < n ∧ n ≤ 64) (HL : Hid (∀ W, Calls Try.prog 22 #[.int .i64 (n : Int)] W fun e w' => e = .returned (.tuple #[.int .i64 L, .int .i64 0]) ∧ Gr W w'))
    (HO : Hid (∀ W, Calls Try.prog 23 #[.int .i64 kind, .int .i64 L, .int .i64 fo] W fun e w' => ∃ v, e = .returned (.tuple #[v, .int .i64 z, .int .i64 0]) ∧ NumsAt w' v ((List.range n).map T) ∧ Gr W w'))
    (HM : Hid (∀ W, Calls Try.prog 24 #[.int .i64 0, .int .i64 z, .int .i64 mo] W fun e w' => e = .returned (.tuple #[.int .i64 s, .int .i64 0]) ∧ Gr W w'))
    (HC : Hid (∀ k, k < m → ∀ W, Calls Try.prog 25 #[.int .i64 (X k), .int .i64 fo] W fun e w' => e = .returned (.tuple #[.int .i64 (X k), .bool false, .int .i64 0]) ∧ Gr W w')) (c : Int) (HC2 : Hid (∀ W, Calls Try.prog 25 #[.int .i64 (X m), .int .i64 fo] W fun e w' => e = .returned (.tuple #[.int .i64 c, .bool true, .int .i64 0]) ∧ Gr W w'))
    (HS : Hid (∀ k, k < m → wrap64 (X k * T k) = P k ∧ ∀ W, Calls Try.prog 24 #[.int .i64 (P k), .int .i64 z, .int .i64 mo] W fun e w' => e = .returned (.tuple #[.int .i64 (Y k), .int .i64 0]) ∧ Gr W w'))
    (w : World) (hxb : xb < w.heap.size) (hx : ∀ k, k < n → w.cell? ⟨xb, xo + k, none⟩ = some (.int .i64 (X k))) :
    Calls Try.prog 14 #[.slice (some ⟨xb, xo, none⟩) n cx, .int .i64 kind, .int .i64 fo, .int .i64 mo] w fun e w' => e = .returned (.tuple #[.slice none 0 0, .int .i64 2]) ∧ Gr w w' := by
  have hmk := run_make_row' (P := Try.prog) 22 3 (.int .i64 0) 8 Try.underlying22 info_int rfl .i64 .i64 n (by omega) (by omega)
  have HX := Lib.hid hx
  have HN := Lib.hid hn
  clear hx hn
  go_enter Try.func14, Try.ntmps14
  go_wp2_with fail
  refine (HL.out _).mono ?_
  rintro e w1 ⟨rfl, g1⟩
  go_wp2_with fail
  refine (HO.out _).mono ?_
  rintro e w2 ⟨vt, rfl, hv, g2⟩
  obtain ⟨tb, ti, tc, hsl, _, htb, hct⟩ := hv.at (by have := HN.out; intro e; have := congrArg List.length e; simp at this; omega)
  rw [List.length_map, List.length_range] at hsl
  subst hsl
  have HTC := Lib.hid (show ∀ k, k < n → w2.cell? ⟨tb, ti + k, none⟩ = some (.int .i64 (T k)) from fun k hk => hct k _ (by rw [List.getElem?_map, List.getElem?_range hk]; rfl))
  have y2 := g1.trans g2
  clear hv hct HO HL g1 g2
  go_wp2_with fail
  refine (HM.out _).mono ?_
  rintro e w3 ⟨rfl, g3⟩
  have y3 := y2.trans g3
  have hxb3 : xb < w3.heap.size := Nat.lt_of_lt_of_le hxb y3.size
  have htb3 : tb < w3.heap.size := Nat.lt_of_lt_of_le htb g3.size
  have HXC := Lib.hid (show ∀ k, k < n → w3.cell? ⟨xb, xo + k, none⟩ = some (.int .i64 (X k)) from fun k hk => (y3.cell (p := ⟨xb, xo + k, none⟩) hxb).trans (HX.out k hk))
  have HTC3 := Lib.hid (show ∀ k, k < n → w3.cell? ⟨tb, ti + k, none⟩ = some (.int .i64 (T k)) from fun k hk => (g3.cell (p := ⟨tb, ti + k, none⟩) htb).trans (HTC.out k hk))
  clear y2 g3 HTC HX hxb htb HM
  go_wp2_with fail
  have M0 := MadeAt.start w3 (.int .i64 0) n 3
  go_loopw [17, 18, 19, 20, 21, 56] (fun _ _ _ _ _ i wr => ∃ k : Nat, ∃ c : Array Value, k ≤ m ∧ i = .int .i64 k ∧ CellsAt wr w3.heap.size 3 c ∧ c.size = n ∧ (∀ j, j < k → c[j]? = some (.int .i64 (Y j))) ∧ Gr w3 wr) (fun _ _ _ _ _ i _ => m - (intOf i).toNat)
  case atStart => exact ⟨0, _, by omega, rfl, M0.1, M0.2, fun j hj => absurd hj (Nat.not_lt_zero _), (Gr.refl _).alloc _ _⟩
  case round =>
    clear M0 hmk
    obtain ⟨k, cc, hk, rfl, hC, hs, hj, hg⟩ := hrel
    have hn64 := HN.out
    by_cases hlt : k < m
    · have hlI : (k : Int) < (n : Int) := by omega
      have hkn : k < n := by omega
      have h1 := (hg.cell (p := ⟨xb, xo + k, none⟩) hxb3).trans (HXC.out k hkn)
      have hbx : xb < wr.heap.size := Nat.lt_of_lt_of_le hxb3 hg.size
      have HC1 := Lib.hid (HC.out k hlt)
      have ep := Lib.hid (HS.out k hlt).1
      have HS1 := Lib.hid (HS.out k hlt).2
      have HTK := Lib.hid (HTC3.out k hkn)
      have HSZ := Lib.hid hs
      have HJ := Lib.hid hj
      clear hs hj HC HS
      generalize hyk : Y k = r at *
      have HYK := Lib.hid hyk
      clear hyk
      generalize X k = x at *
      generalize T k = t at *
      generalize P k = pp at *
      go_wp2_with fail
      refine (HC1.out _).mono ?_
      rintro e w4 ⟨rfl, g4⟩
      have hg4 := hg.trans g4
      have hC4 := hC.gr g4
      have h2 := (hg4.cell (p := ⟨tb, ti + k, none⟩) htb3).trans HTK.out
      have hbt : tb < w4.heap.size := Nat.lt_of_lt_of_le htb3 hg4.size
      clear hC hg g4 h1 hbx HC1
      go_wp2_with fail
      rw [ep.out]
      refine (HS1.out _).mono ?_
      rintro e w5 ⟨rfl, g5⟩
      have hg5 := hg4.trans g5
      have hC5 := hC4.gr g5
      have lC := hC5.lt
      have q0 := hC5.cell k
      rw [Array.getElem?_eq_getElem (show k < cc.size by rw [HSZ.out]; omega)] at q0
      have f0 := hC5.frozen k
      clear hC4 hg4 g5 h2 hbt HS1
      go_wp2_with fail
      have hC6 := hC5.set k (.int .i64 r)
      have hg6 := hg5.setCell (a := ⟨w3.heap.size, k, none⟩) (by simp) (.int .i64 r)
      go_roundw
      case rel =>
        refine ⟨k + 1, _, by omega, by go_num, hC6, by simpa using HSZ.out, fun j hj => ?_, hg6⟩
        by_cases e : j = k
        · subst e
          rw [Array.getElem?_setIfInBounds, if_pos rfl, if_pos (by rw [HSZ.out]; omega), HYK.out]
        · rw [Array.getElem?_setIfInBounds, if_neg (by omega)]
          exact HJ.out j (by omega)
      case measure => simp [intOf]; omega
    · obtain rfl : k = m := by omega
      have hlI : (k : Int) < (n : Int) := by omega
      have h1 := (hg.cell (p := ⟨xb, xo + k, none⟩) hxb3).trans (HXC.out k hm)
      have hbx : xb < wr.heap.size := Nat.lt_of_lt_of_le hxb3 hg.size
      clear hj hs HC HS
      generalize X k = x at *
      go_wp2_with fail
      refine (HC2.out _).mono ?_
      rintro e w4 ⟨rfl, g4⟩
      go_wp2_with fail
      go_ret2
      exact ⟨rfl, (y3.trans hg).trans g4⟩

set_option maxHeartbeats 2000000 in
theorem whApply_yes (xb xo cx n : Nat) (kind fo mo : Int) (L z s : Int) (X T P Y : Nat → Int) (hn : 0 < n ∧ n ≤ 64) (HL : Hid (∀ W, Calls Try.prog 22 #[.int .i64 (n : Int)] W fun e w' => e = .returned (.tuple #[.int .i64 L, .int .i64 0]) ∧ Gr W w'))
    (HO : Hid (∀ W, Calls Try.prog 23 #[.int .i64 kind, .int .i64 L, .int .i64 fo] W fun e w' => ∃ v, e = .returned (.tuple #[v, .int .i64 z, .int .i64 0]) ∧ NumsAt w' v ((List.range n).map T) ∧ Gr W w'))
    (HM : Hid (∀ W, Calls Try.prog 24 #[.int .i64 0, .int .i64 z, .int .i64 mo] W fun e w' => e = .returned (.tuple #[.int .i64 s, .int .i64 0]) ∧ Gr W w'))
    (HC : Hid (∀ k, k < n → ∀ W, Calls Try.prog 25 #[.int .i64 (X k), .int .i64 fo] W fun e w' => e = .returned (.tuple #[.int .i64 (X k), .bool false, .int .i64 0]) ∧ Gr W w'))
    (HS : Hid (∀ k, k < n → wrap64 (X k * T k) = P k ∧ ∀ W, Calls Try.prog 24 #[.int .i64 (P k), .int .i64 z, .int .i64 mo] W fun e w' => e = .returned (.tuple #[.int .i64 (Y k), .int .i64 0]) ∧ Gr W w'))
    (w : World) (hxb : xb < w.heap.size) (hx : ∀ k, k < n → w.cell? ⟨xb, xo + k, none⟩ = some (.int .i64 (X k))) :
    Calls Try.prog 14 #[.slice (some ⟨xb, xo, none⟩) n cx, .int .i64 kind, .int .i64 fo, .int .i64 mo] w fun e w' => ∃ v, e = .returned (.tuple #[v, .int .i64 0]) ∧ NumsAt w' v ((List.range n).map Y) ∧ Gr w w' := by
  have hmk := run_make_row' (P := Try.prog) 22 3 (.int .i64 0) 8 Try.underlying22 info_int rfl .i64 .i64 n (by omega) (by omega)
  have HX := Lib.hid hx
  have HN := Lib.hid hn
  clear hx hn
  go_enter Try.func14, Try.ntmps14
  go_wp2_with fail
  refine (HL.out _).mono ?_
  rintro e w1 ⟨rfl, g1⟩
  go_wp2_with fail
  refine (HO.out _).mono ?_
  rintro e w2 ⟨vt, rfl, hv, g2⟩
  obtain ⟨tb, ti, tc, hsl, _, htb, hct⟩ := hv.at (by have := HN.out; intro e; have := congrArg List.length e; simp at this; omega)
  rw [List.length_map, List.length_range] at hsl
  subst hsl
  have HTC := Lib.hid (show ∀ k, k < n → w2.cell? ⟨tb, ti + k, none⟩ = some (.int .i64 (T k)) from fun k hk => hct k _ (by rw [List.getElem?_map, List.getElem?_range hk]; rfl))
  have y2 := g1.trans g2
  clear hv hct HO HL g1 g2
  go_wp2_with fail
  refine (HM.out _).mono ?_
  rintro e w3 ⟨rfl, g3⟩
  have y3 := y2.trans g3
  have hxb3 : xb < w3.heap.size := Nat.lt_of_lt_of_le hxb y3.size
  have htb3 : tb < w3.heap.size := Nat.lt_of_lt_of_le htb g3.size
  have HXC := Lib.hid (show ∀ k, k < n → w3.cell? ⟨xb, xo + k, none⟩ = some (.int .i64 (X k)) from fun k hk => (y3.cell (p := ⟨xb, xo + k, none⟩) hxb).trans (HX.out k hk))
  have HTC3 := Lib.hid (show ∀ k, k < n → w3.cell? ⟨tb, ti + k, none⟩ = some (.int .i64 (T k)) from fun k hk => (g3.cell (p := ⟨tb, ti + k, none⟩) htb).trans (HTC.out k hk))
  clear y2 g3 HTC HX hxb htb HM
  go_wp2_with fail
  have M0 := MadeAt.start w3 (.int .i64 0) n 3
  go_loopw [17, 18, 19, 20, 21, 56] (fun _ _ _ _ _ i wr => ∃ k : Nat, ∃ c : Array Value, k ≤ n ∧ i = .int .i64 k ∧ CellsAt wr w3.heap.size 3 c ∧ c.size = n ∧ (∀ j, j < k → c[j]? = some (.int .i64 (Y j))) ∧ Gr w3 wr) (fun _ _ _ _ _ i _ => n - (intOf i).toNat)
  case atStart => exact ⟨0, _, by omega, rfl, M0.1, M0.2, fun j hj => absurd hj (Nat.not_lt_zero _), (Gr.refl _).alloc _ _⟩
  case round =>
    clear M0 hmk
    obtain ⟨k, cc, hk, rfl, hC, hs, hj, hg⟩ := hrel
    have hn64 := HN.out
    by_cases hlt : k < n
    · have hlI : (k : Int) < (n : Int) := by omega
      have hkn : k < n := by omega
      have h1 := (hg.cell (p := ⟨xb, xo + k, none⟩) hxb3).trans (HXC.out k hkn)
      have hbx : xb < wr.heap.size := Nat.lt_of_lt_of_le hxb3 hg.size
      have HC1 := Lib.hid (HC.out k hlt)
      have ep := Lib.hid (HS.out k hlt).1
      have HS1 := Lib.hid (HS.out k hlt).2
      have HTK := Lib.hid (HTC3.out k hkn)
      have HSZ := Lib.hid hs
      have HJ := Lib.hid hj
      clear hs hj HC HS
      generalize hyk : Y k = r at *
      have HYK := Lib.hid hyk
      clear hyk
      generalize X k = x at *
      generalize T k = t at *
      generalize P k = pp at *
      go_wp2_with fail
      refine (HC1.out _).mono ?_
      rintro e w4 ⟨rfl, g4⟩
      have hg4 := hg.trans g4
      have hC4 := hC.gr g4
      have h2 := (hg4.cell (p := ⟨tb, ti + k, none⟩) htb3).trans HTK.out
      have hbt : tb < w4.heap.size := Nat.lt_of_lt_of_le htb3 hg4.size
      clear hC hg g4 h1 hbx HC1
      go_wp2_with fail
      rw [ep.out]
      refine (HS1.out _).mono ?_
      rintro e w5 ⟨rfl, g5⟩
      have hg5 := hg4.trans g5
      have hC5 := hC4.gr g5
      have lC := hC5.lt
      have q0 := hC5.cell k
      rw [Array.getElem?_eq_getElem (show k < cc.size by rw [HSZ.out]; omega)] at q0
      have f0 := hC5.frozen k
      clear hC4 hg4 g5 h2 hbt HS1
      go_wp2_with fail
      have hC6 := hC5.set k (.int .i64 r)
      have hg6 := hg5.setCell (a := ⟨w3.heap.size, k, none⟩) (by simp) (.int .i64 r)
      go_roundw
      case rel =>
        refine ⟨k + 1, _, by omega, by go_num, hC6, by simpa using HSZ.out, fun j hj => ?_, hg6⟩
        by_cases e : j = k
        · subst e
          rw [Array.getElem?_setIfInBounds, if_pos rfl, if_pos (by rw [HSZ.out]; omega), HYK.out]
        · rw [Array.getElem?_setIfInBounds, if_neg (by omega)]
          exact HJ.out j (by omega)
      case measure => simp [intOf]; omega
    · obtain rfl : k = n := by omega
      have hlI : ¬ (k : Int) < (k : Int) := by omega
      go_wp2_with fail
      go_ret2
      exact ⟨_, rfl, NumsAt.of_put hC (by omega) hj, y3.trans hg⟩

end Go.Proofs.Ytbdglbpkbpedoaa
