/- Reference 19 in numbers. -/
import Derived.Test.YtbdglbpkbpedoaaWinSaid2
import Derived.Test.YtbdglbpkbpedoaaLaw07
namespace Go.Proofs.Ytbdglbpkbpedoaa
open Go.ChangeShapes Go.WideShapes Go.ChangeAt Go.RowKit
set_option linter.unusedVariables false
set_option linter.unusedSimpArgs false
set_option maxRecDepth 100000

theorem rMay19_yes (kind bits : Int) (n L : Nat) (hL : IsLog (n : Int) L) (k0 : 0 ≤ kind) (k1 : kind ≤ 3) (b0 : 0 ≤ bits) (b1 : bits ≤ 40) (w : World) :
    Calls Try.prog 9 #[.int .i64 kind, .int .i64 (L : Int), .int .i64 bits] w fun e w' => e = .returned (.bool true) ∧ w' = w := by
  obtain ⟨_, _, _, l0, l1, _⟩ := islen19 hL
  exact rMay19_of kind L bits true k0 k1 (Lib.hid (may07_yes (L : Int) bits (by omega) (by omega) b0 b1)) w
theorem rMay19_no (kind log bits : Int) (h : (kind < 0 ∨ 3 < kind) ∨ log < 2 ∨ 6 < log ∨ bits < 0 ∨ 40 < bits) (w : World) :
    Calls Try.prog 9 #[.int .i64 kind, .int .i64 log, .int .i64 bits] w fun e w' => e = .returned (.bool false) ∧ w' = w := by
  by_cases hk : kind < 0 ∨ 3 < kind
  · exact rMay19_kind kind log bits hk w
  · exact rMay19_of kind log bits false (by omega) (by omega) (Lib.hid (may07_no log bits (by omega))) w
theorem rWin_yes (kind bits : Int) (n L s : Nat) (hL : IsLog (n : Int) L) (k0 : 0 ≤ kind) (k1 : kind ≤ 3) (b0 : 0 ≤ bits) (b1 : bits ≤ 40) (hs : s = (56 - bits).toNat) (w : World) :
    Calls Try.prog 11 #[.int .i64 kind, .int .i64 (L : Int), .int .i64 bits] w fun e w' => ∃ v, e = .returned v ∧ NumsAt w' v (winL kind n s) ∧ Gr w w' := by
  obtain ⟨hn, hn4, hn64, l0, l1, hp⟩ := islen19 hL
  refine rWin_of kind L bits n (winW kind n s) hn64 (rootsL n s) (roots_len n s) (by intro e; have := roots_len n s; rw [e] at this; simp at this; omega) (Lib.hid fun W => ?_) (Lib.hid fun k hk v W hv => rWeight_c kind n s bits hn k0 k1 b0 b1 hs k hk v W hv) w
  have := table07_new (L : Int) n bits (by omega) (by omega) hp b0 b1 W
  rw [← hs] at this
  exact this
theorem rSumW (kind : Int) (n L s : Nat) (hL : IsLog (n : Int) L) (s0 : 16 ≤ s) (s1 : s ≤ 56) (v : Value) (w : World) (hv : NumsAt w v (winL kind n s)) :
    Calls Try.prog 13 #[v] w fun e w' => e = .returned (.int .i64 (addL (winL kind n s))) ∧ w' = w := by
  obtain ⟨hn, hn4, hn64, _, _, _⟩ := islen19 hL
  exact rSum_c v (winL kind n s) (by rw [winL_len]; omega) (winL_bd kind n hn s s0 s1) (by intro e; have := winL_len kind n s; rw [e] at this; simp at this; omega) w hv
theorem rWhy_size (px : Option Addr) (n cx : Nat) (kind fo mo : Int) (h : ¬ ∃ L, IsLog (n : Int) L) (w : World) :
    Calls Try.prog 15 #[.slice px n cx, .int .i64 kind, .int .i64 fo, .int .i64 mo] w fun e w' => e = .returned (.int .i64 3) ∧ w' = w :=
  rWhy19_size px n cx kind fo mo (Lib.hid (rlog08_no n (noLog h).1 (noLog h).2.1 (noLog h).2.2.1 (noLog h).2.2.2.1 (noLog h).2.2.2.2)) w
theorem rWhy_arg (px : Option Addr) (n cx L : Nat) (kind fo mo : Int) (hL : IsLog (n : Int) L) (h : (kind < 0 ∨ 3 < kind) ∨ (fo < 0 ∨ 1 < fo) ∨ mo < 0 ∨ 2 < mo) (w : World) :
    Calls Try.prog 15 #[.slice px n cx, .int .i64 kind, .int .i64 fo, .int .i64 mo] w fun e w' => e = .returned (.int .i64 1) ∧ w' = w := by
  have HL := Lib.hid (rlog08_yes (n : Int) L hL)
  by_cases h0 : kind < 0
  · exact rWhy19_klo px n cx kind fo mo L h0 HL w
  by_cases h1 : 3 < kind
  · exact rWhy19_khi px n cx kind fo mo L h0 h1 HL w
  by_cases hf : fo < 0 ∨ 1 < fo
  · exact rWhy19_fmt px n cx kind fo mo L h0 h1 HL (Lib.hid (rfmt_no fo hf)) w
  have HF : Hid (∀ W, Calls Try.prog 27 #[.int .i64 fo] W fun e w' => e = .returned (.bool true) ∧ w' = W) := by
    rcases (by omega : fo = 0 ∨ fo = 1) with rfl | rfl
    · exact Lib.hid (rfmt_yes 0 15 32768 (.inl ⟨rfl, rfl, rfl⟩))
    · exact Lib.hid (rfmt_yes 1 31 2147483648 (.inr ⟨rfl, rfl, rfl⟩))
  by_cases h2 : mo < 0
  · exact rWhy19_mlo px n cx kind fo mo L h0 h1 h2 HL HF w
  · exact rWhy19_mhi px n cx kind fo mo L h0 h1 h2 (by omega) HL HF w
theorem rWhy_ok (px : Option Addr) (n cx L : Nat) (kind fo b p mo : Int) (xs : List Int) (H : FB fo b p) (hL : IsLog (n : Int) L) (k0 : 0 ≤ kind) (k1 : kind ≤ 3) (m0 : 0 ≤ mo) (m1 : mo ≤ 2) (hn : xs.length = n) (w : World) (hv : NumsAt w (.slice px n cx) xs) :
    Calls Try.prog 15 #[.slice px n cx, .int .i64 kind, .int .i64 fo, .int .i64 mo] w fun e w' => e = .returned (.int .i64 (if mAll p xs then 0 else 2)) ∧ w' = w := by
  obtain ⟨hi, hn4, hn64, _, _, _⟩ := islen19 hL
  exact rWhy19_ok px n cx kind fo mo L (by omega) (by omega) (by omega) (by omega) (Lib.hid (rlog08_yes (n : Int) L hL)) (Lib.hid (rfmt_yes fo b p H)) (mAll p xs) (.slice px n cx) xs
    (Lib.hid fun W h => rMant_of (.slice px n cx) xs fo p (by omega) (by intro e; rw [e] at hn; simp at hn; omega) (Lib.hid fun x h0 h1 W => rin_yes fo b p x H h0 h1 W) (Lib.hid fun x h W => rin_no fo b p x H h W) W h) w hv
theorem rApp_yes (px : Option Addr) (n cx L : Nat) (kind fo b p mo : Int) (xs : List Int) (H : FB fo b p) (hL : IsLog (n : Int) L) (k0 : 0 ≤ kind) (k1 : kind ≤ 3) (m0 : 0 ≤ mo) (m1 : mo ≤ 2) (hn : xs.length = n) (hm : mAll p xs = true) (s : Nat) (hs : s = (56 - (b - 2)).toNat) (w : World) (hv : NumsAt w (.slice px n cx) xs) :
    Calls Try.prog 16 #[.slice px n cx, .int .i64 kind, .int .i64 fo, .int .i64 mo] w fun e w' => ∃ v, e = .returned v ∧ NumsAt w' v (wgL kind n s (b - 2) mo xs) ∧ Gr w w' := by
  obtain ⟨hi, hn4, hn64, _, _, _⟩ := islen19 hL
  obtain ⟨z, s', rfl, hz, z0, z1, hs', s0, s1, hzs, hp, hpO⟩ := fb_nums H
  obtain rfl : s = s' := by omega
  obtain ⟨xb, xo, rfl, hb, hc⟩ := whApp_cells hn (by omega) hv
  have hin : ∀ k, k < n → -p ≤ xs.getD k 0 ∧ xs.getD k 0 < p := fun k hk => mAll_in hm k _ (getD_at (by omega))
  refine rApply19_of xb xo cx n L kind fo mo (b - 2) (fun k => xs.getD k 0) (winW kind n s) (fun k => xs.getD k 0 * winW kind n s k) (wgAt kind n s (b - 2) mo xs) ⟨by omega, hn64⟩ (Lib.hid (bits07_c fo b p H)) (Lib.hid (rlog08_yes (n : Int) L hL)) (Lib.hid (rWin_yes kind (b - 2) n L s hL k0 k1 (by omega) (by omega) hs)) (Lib.hid fun k hk => ?_) w hb hc
  have h := wg_shift (kind := kind) (mo := mo) hi m0 m1 z0 z1 s0 s1 hp hpO xs k (by omega) (hin k hk)
  exact ⟨h.1, fun W => refShift_c _ (b - 2) mo h.2 (by omega) (by omega) m0 m1 W⟩
end Go.Proofs.Ytbdglbpkbpedoaa
