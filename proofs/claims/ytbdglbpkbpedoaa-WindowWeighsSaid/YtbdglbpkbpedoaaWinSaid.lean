/- Package window in numbers. -/
import Derived.Test.YtbdglbpkbpedoaaWinCode2
import Derived.Test.YtbdglbpkbpedoaaRootCode
import Derived.Test.YtbdglbpkbpedoaaFlip
namespace Go.Proofs.Ytbdglbpkbpedoaa
open Go.ChangeShapes Go.WideShapes Go.ChangeAt Go.RowKit Go.MapKept
set_option linter.unusedVariables false
set_option linter.unusedSimpArgs false
set_option maxRecDepth 100000

theorem islen19 {n L : Nat} (h : IsLog (n : Int) L) : IsLen (n : Int) ∧ 4 ≤ n ∧ n ≤ 64 ∧ 2 ≤ L ∧ L ≤ 6 ∧ (n : Int) = 2 ^ (L : Int).toNat := by
  rcases isLog_cases h with ⟨rfl, hh⟩ | ⟨rfl, hh⟩ | ⟨rfl, hh⟩ | ⟨rfl, hh⟩ | ⟨rfl, hh⟩ <;> exact ⟨by unfold IsLen; omega, by omega, by omega, by omega, by omega, by rw [hh]; rfl⟩
theorem roots_at (n s j : Nat) (hj : j < n) : (rootsL (n : Int) s)[j]? = some (rootG n j s) := by
  unfold rootsL
  rw [List.getElem?_map, Int.toNat_natCast, List.getElem?_range hj]
  rfl
theorem roots_len (n s : Nat) : (rootsL (n : Int) s).length = n := by rw [rootsL_len]; omega
theorem whC_c (n s : Nat) (hn : 4 ≤ n ∧ n ≤ 64) (pa : Nat) (p : Option Addr) (cap j : Nat) (hj : j ≤ 126) (W : World) (hp : CellsAt W pa 37 #[.slice p n cap]) (hv : CxsAt W (.slice p n cap) (rootsL n s)) :
    Calls Try.prog 35 #[.int .i64 j, .pointer (some ⟨pa, 0, none⟩)] W fun e w' => e = .returned (.int .i64 (rootG n ((j % n : Nat) : Int) s).re) ∧ Gr W w' := by
  obtain ⟨yb, yo, cp, hsl, _, hb, hc⟩ := hv.at (by intro e; have := roots_len n s; rw [e] at this; simp at this; omega)
  rw [roots_len] at hsl
  cases hsl
  have hm : j % n < n := Nat.mod_lt _ (by omega)
  exact whRoot_c pa yb yo cap n j (j % n) _ (by omega) (by omega) (by rw [Int.tmod_eq_emod_of_nonneg (by omega)]; rfl) (IntWalk.i64_in _ ⟨by omega, by omega⟩) W (hp.cell 0) hp.lt hb (hc _ _ (roots_at n s _ hm)).1
theorem enters_f2 : Enters 36 := enters_of Try.func36 (by kernel_rfl) (by kernel_rfl)
theorem enters_f3 : Enters 37 := enters_of Try.func37 (by kernel_rfl) (by kernel_rfl)
theorem enters_f4 : Enters 39 := enters_of Try.func39 (by kernel_rfl) (by kernel_rfl)
theorem enters_f5 : Enters 41 := enters_of Try.func41 (by kernel_rfl) (by kernel_rfl)
theorem winW_0 (n s k : Nat) : winW 0 n s k = 2 ^ (56 - s) := rfl
theorem winW_1 (n s k : Nat) : winW 1 n s k = rnd (2 ^ (56 - s) - (rootG n k s).re) 1 1 := rfl
theorem winW_2 (n s k : Nat) : winW 2 n s k = (25 * 2 ^ (56 - s) - 21 * (rootG n k s).re) / 46 := rfl
theorem winW_3 (n s k : Nat) : winW 3 n s k = (21 * 2 ^ (56 - s) - 25 * (rootG n k s).re + 4 * (rootG n ((2 * k % n : Nat) : Int) s).re) / 50 := rfl
theorem whShl (bits : Int) (s : Nat) (b0 : 0 ≤ bits) (b1 : bits ≤ 40) (hs : s = (56 - bits).toNat) (hO : (1 : Int) ≤ 2 ^ (56 - s) ∧ (2 : Int) ^ (56 - s) ≤ 1099511627776) : IntKind.i64.wrap (1 * 2 ^ bits.toNat) = 2 ^ (56 - s) := by
  rw [Int.one_mul, show bits.toNat = 56 - s by omega]
  exact IntWalk.i64_in _ ⟨by omega, by omega⟩

theorem whForms_yes (kind bits : Int) (n L s : Nat) (hL : IsLog (n : Int) L) (k0 : 0 ≤ kind) (k1 : kind ≤ 3) (b0 : 0 ≤ bits) (b1 : bits ≤ 40) (hs : s = (56 - bits).toNat) (p : Option Addr) (cap : Nat) (W : World) (hv : CxsAt W (.slice p n cap) (rootsL n s)) :
    Calls Try.prog 18 #[.slice p n cap, .int .i64 bits] W fun e w' => ∃ B F K, e = .returned (.map (some B)) ∧ (Instr.lookup 43 (.map (some B)) (.int .i64 kind) true).run Try.prog w' = .ok (.tuple #[.func (.func F) #[] K, .bool true]) w' ∧ Enters F ∧
      (∀ k : Nat, k < n → ∀ W, Gr w' W → Calls Try.prog F (#[.int .i64 k] ++ K) W fun e w' => e = .returned (.int .i64 (winW kind n s k)) ∧ Gr W w') ∧ Gr W w' := by
  obtain ⟨hn, hn4, hn64, _, _, _⟩ := islen19 hL
  have hb : ∀ k : Int, _ := fun k => root_re40 n hn k s (by omega) (by omega)
  have hOO := (hb 0).2
  refine (whForms_c p n cap bits (2 ^ (56 - s)) b0 b1 (whShl bits s b0 b1 hs hOO) W).mono ?_
  rintro e w1 ⟨B, pa, po, pc, rfl, hA, hO, hC, hM, g⟩
  have hc : ∀ j : Nat, j ≤ 126 → ∀ W', Gr w1 W' → Calls Try.prog 35 #[.int .i64 j, .pointer (some ⟨pa, 0, none⟩)] W' fun e w' => e = .returned (.int .i64 (rootG n ((j % n : Nat) : Int) s).re) ∧ Gr W' w' :=
    fun j hj W' g' => whC_c n s ⟨hn4, hn64⟩ pa p cap j hj W' (hA.gr g') (hv.gr (g.trans g'))
  have hck : ∀ k : Nat, k < n → ∀ u, Gr w1 u → ∀ W', Gr u W' → Calls Try.prog 35 #[.int .i64 k, .pointer (some ⟨pa, 0, none⟩)] W' fun e w' => e = .returned (.int .i64 (rootG n k s).re) ∧ Gr W' w' := fun k hk u gu W' gv => by
    have := hc k (by omega) W' (gu.trans gv)
    rwa [Nat.mod_eq_of_lt hk] at this
  have ho : ∀ O : Int, O = 2 ^ (56 - s) → 1 ≤ O ∧ O ≤ 1099511627776 := fun O h => by rw [h]; exact hOO
  rcases (by omega : kind = 0 ∨ kind = 1 ∨ kind = 2 ∨ kind = 3) with rfl | rfl | rfl | rfl
  · refine ⟨B, _, _, rfl, hM.look 0 _ (.inl ⟨rfl, rfl⟩), enters_f2, fun k hk W' g' => ?_, g⟩
    exact whOne_c po k _ W' ((hO.gr g').cell 0) (hO.gr g').lt
  · refine ⟨B, _, _, rfl, hM.look 1 _ (.inr (.inl ⟨rfl, rfl⟩)), enters_f3, fun k hk W' g' => ?_, g⟩
    have h1 := (hb k).1
    rw [winW_1]
    have hO' := hO.gr g'
    generalize hOe : (2 : Int) ^ (56 - s) = O at *
    have h2 := ho O rfl
    have hck1 := Lib.hid (hck k hk W' g')
    generalize (rootG n k s).re = c at *
    exact whForm_3 po pc pa k O c (O - c) _ W' hO' (hC.gr g') (IntWalk.i64_in _ ⟨by omega, by omega⟩) hck1 (Lib.hid fun W => whHalved_c _ _ (Lib.hid (shift_ok _ 1 1 ⟨by omega, by omega⟩ (by decide) (by decide) (by decide) (by decide))) W)
  · refine ⟨B, _, _, rfl, hM.look 2 _ (.inr (.inr (.inl ⟨rfl, rfl⟩))), enters_f4, fun k hk W' g' => ?_, g⟩
    have h1 := (hb k).1
    rw [winW_2]
    have hO' := hO.gr g'
    generalize hOe : (2 : Int) ^ (56 - s) = O at *
    have h2 := ho O rfl
    have hck1 := Lib.hid (hck k hk W' g')
    generalize (rootG n k s).re = c at *
    exact whForm_4 po pc pa k O c (25 * O) (21 * c) (25 * O - 21 * c) _ W' hO' (hC.gr g') (IntWalk.i64_in _ ⟨by omega, by omega⟩) (IntWalk.i64_in _ ⟨by omega, by omega⟩) (IntWalk.i64_in _ ⟨by omega, by omega⟩) hck1 (Lib.hid fun W => whDivided_c _ 46 _ (Lib.hid fun W => calls_gr (div_ok _ 46 ⟨by omega, by omega⟩ (by decide) W)) W)
  · refine ⟨B, _, _, rfl, hM.look 3 _ (.inr (.inr (.inr ⟨rfl, rfl⟩))), enters_f5, fun k hk W' g' => ?_, g⟩
    have h1 := (hb k).1
    have h3 := (hb ((2 * k % n : Nat) : Int)).1
    rw [winW_3]
    have hO' := hO.gr g'
    generalize hOe : (2 : Int) ^ (56 - s) = O at *
    have h2 := ho O rfl
    have hck1 := Lib.hid (hck k hk W' g')
    have hck2 := Lib.hid fun W2 (gv : Gr W' W2) => hc (2 * k) (by omega) W2 (g'.trans gv)
    generalize (rootG n k s).re = c at *
    generalize (rootG n ((2 * k % n : Nat) : Int) s).re = d at *
    exact whForm_5 po pc pa k ((2 * k : Nat) : Int) O c d (21 * O) (25 * c) (21 * O - 25 * c) (4 * d) (21 * O - 25 * c + 4 * d) _ W' hO' (hC.gr g') (IntWalk.i64_in _ ⟨by omega, by omega⟩) (IntWalk.i64_in _ ⟨by omega, by omega⟩) (IntWalk.i64_in _ ⟨by omega, by omega⟩) (by rw [IntWalk.i64_in _ ⟨by omega, by omega⟩]; omega) (IntWalk.i64_in _ ⟨by omega, by omega⟩) (IntWalk.i64_in _ ⟨by omega, by omega⟩) hck1 hck2 (Lib.hid fun W => whDivided_c _ 50 _ (Lib.hid fun W => calls_gr (div_ok _ 50 ⟨by omega, by omega⟩ (by decide) W)) W)
theorem whRoots (bits : Int) (n L s : Nat) (hL : IsLog (n : Int) L) (b0 : 0 ≤ bits) (b1 : bits ≤ 40) (hs : s = (56 - bits).toNat) (W : World) :
    Calls Try.prog 17 #[.int .i64 (L : Int), .int .i64 bits] W fun e w' => ∃ p cap, e = .returned (.tuple #[.slice p n cap, .int .i64 0]) ∧ CxsAt w' (.slice p n cap) (rootsL n s) ∧ Gr W w' := by
  obtain ⟨hn, hn4, hn64, l0, l1, hp⟩ := islen19 hL
  refine (rTable_ok (L : Int) n bits (by omega) (by omega) hp b0 b1 W).mono ?_
  rintro e w' ⟨v, rfl, h2, h3⟩
  rw [← hs] at h2
  obtain ⟨p, cap, rfl⟩ := h2.len
  rw [roots_len] at h2 ⊢
  exact ⟨p, cap, rfl, h2, h3⟩
/-- The weights. -/
theorem whTable_yes (kind bits : Int) (n L s : Nat) (hL : IsLog (n : Int) L) (k0 : 0 ≤ kind) (k1 : kind ≤ 3) (b0 : 0 ≤ bits) (b1 : bits ≤ 40) (hs : s = (56 - bits).toNat) (w : World) :
    Calls Try.prog 7 #[.int .i64 kind, .int .i64 (L : Int), .int .i64 bits] w fun e w' => ∃ v, e = .returned (.tuple #[v, .int .i64 0]) ∧ NumsAt w' v (winL kind n s) ∧ Gr w w' :=
  whTable_of kind L bits n (rootsL n s) (winW kind n s) (islen19 hL).2.2.1 (Lib.hid (whRoots bits n L s hL b0 b1 hs)) (Lib.hid fun p cap W hv => whForms_yes kind bits n L s hL k0 k1 b0 b1 hs p cap W hv) w
theorem isLog_nat (log : Int) (h0 : 2 ≤ log) (h1 : log ≤ 6) : ∃ n L : Nat, log = (L : Int) ∧ IsLog (n : Int) L := ⟨2 ^ log.toNat, log.toNat, by omega, by omega, by omega, rfl⟩
theorem whTable_no (kind log bits : Int) (h : (kind < 0 ∨ 3 < kind) ∨ log < 2 ∨ 6 < log ∨ bits < 0 ∨ 40 < bits) (w : World) :
    Calls Try.prog 7 #[.int .i64 kind, .int .i64 log, .int .i64 bits] w fun e w' => e = .returned (.tuple #[.slice none 0 0, .int .i64 1]) ∧ Gr w w' := by
  by_cases hb : log < 2 ∨ 6 < log ∨ bits < 0 ∨ 40 < bits
  · exact whTable_bad kind log bits (Lib.hid (rTable_bad log bits hb)) w
  · have hk : kind < 0 ∨ 3 < kind := by omega
    obtain ⟨n, L, rfl, hL⟩ := isLog_nat log (by omega) (by omega)
    obtain ⟨hn, hn4, hn64, _, _, _⟩ := islen19 hL
    have hO := (root_re40 n hn 0 (56 - bits).toNat (by omega) (by omega)).2
    refine whTable_none kind L bits n (rootsL n (56 - bits).toNat) (Lib.hid (whRoots bits n L _ hL (by omega) (by omega) rfl)) (Lib.hid fun p cap W hv => ?_) w
    refine (whForms_c p n cap bits (2 ^ (56 - (56 - bits).toNat)) (by omega) (by omega) (whShl bits _ (by omega) (by omega) rfl hO) W).mono ?_
    rintro e w1 ⟨B, pa, po, pc, rfl, hA, hO, hC, hM, g⟩
    obtain ⟨z, hz⟩ := hM.none kind hk
    exact ⟨B, z, rfl, hz, g⟩
theorem whSum_bad (kind log bits : Int) (h : (kind < 0 ∨ 3 < kind) ∨ log < 2 ∨ 6 < log ∨ bits < 0 ∨ 40 < bits) (w : World) :
    Calls Try.prog 8 #[.int .i64 kind, .int .i64 log, .int .i64 bits] w fun e w' => e = .returned (.tuple #[.int .i64 0, .int .i64 1]) ∧ Gr w w' := whSum_no kind log bits (Lib.hid (whTable_no kind log bits h)) w
theorem whSum_yes (kind bits : Int) (n L s : Nat) (hL : IsLog (n : Int) L) (k0 : 0 ≤ kind) (k1 : kind ≤ 3) (b0 : 0 ≤ bits) (b1 : bits ≤ 40) (hs : s = (56 - bits).toNat) (w : World) :
    Calls Try.prog 8 #[.int .i64 kind, .int .i64 (L : Int), .int .i64 bits] w fun e w' => e = .returned (.tuple #[.int .i64 (addL (winL kind n s)), .int .i64 0]) ∧ Gr w w' := by
  obtain ⟨hn, hn4, hn64, _, _, _⟩ := islen19 hL
  exact whSum_of kind L bits (winL kind n s) (by rw [winL_len]; omega) (winL_bd kind n hn s (by omega) (by omega)) (by intro e; have := winL_len kind n s; rw [e] at this; simp at this; omega) (Lib.hid (whTable_yes kind bits n L s hL k0 k1 b0 b1 hs)) w
end Go.Proofs.Ytbdglbpkbpedoaa
