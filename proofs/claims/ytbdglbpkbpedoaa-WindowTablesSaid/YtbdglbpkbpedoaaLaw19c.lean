/- The laws of windows, whole. -/
import Derived.Test.YtbdglbpkbpedoaaLaw19b
import Derived.Test.YtbdglbpkbpedoaaRefNum19
namespace Go.Proofs.Ytbdglbpkbpedoaa
open Go.ChangeShapes Go.WideShapes Go.ChangeAt Go.RowKit
set_option linter.unusedVariables false
set_option linter.unusedSimpArgs false
set_option maxRecDepth 100000

theorem isLog_4 : IsLog ((4 : Nat) : Int) 2 := ⟨by decide, by decide, rfl⟩
theorem hann4 : winL 1 4 43 = [0, 4096, 8192, 4096] := by decide +kernel
theorem alive19_c (w : World) : Calls Try.prog 10 #[] w fun e w' => e = .returned (.bool true) ∧ Gr w w' := by
  refine alive19_of (Lib.hid fun W => ?_) w
  have := whTable_yes 1 13 4 2 43 isLog_4 (by decide) (by decide) (by decide) (by decide) rfl W
  rw [hann4] at this
  exact this
theorem tables19_all (kind log bits : Int) (w : World) : Calls Try.prog 3 #[.int .i64 kind, .int .i64 log, .int .i64 bits] w fun e w' => e = .returned (.bool true) ∧ Gr w w' := by
  by_cases h : (kind < 0 ∨ 3 < kind) ∨ log < 2 ∨ 6 < log ∨ bits < 0 ∨ 40 < bits
  · exact tables19_no kind log bits (Lib.hid (whTable_no kind log bits h)) (Lib.hid (whSum_bad kind log bits h)) (Lib.hid (rMay19_no kind log bits h)) (Lib.hid alive19_c) w
  · obtain ⟨n, L, rfl, hL⟩ := isLog_nat log (by omega) (by omega)
    have k0 : 0 ≤ kind := by omega
    have k1 : kind ≤ 3 := by omega
    have b0 : 0 ≤ bits := by omega
    have b1 : bits ≤ 40 := by omega
    exact tables19_yes kind L bits _ _ (Lib.hid (whTable_yes kind bits n L _ hL k0 k1 b0 b1 rfl)) (Lib.hid (whSum_yes kind bits n L _ hL k0 k1 b0 b1 rfl)) (Lib.hid (rMay19_yes kind bits n L hL k0 k1 b0 b1)) (Lib.hid (rWin_yes kind bits n L _ hL k0 k1 b0 b1 rfl)) (Lib.hid fun v W hv => rSumW kind n L _ hL (by omega) (by omega) v W hv) (Lib.hid alive19_c) w
theorem fb_of {fo : Int} (h : ¬ (fo < 0 ∨ 1 < fo)) : ∃ b p, FB fo b p := by
  rcases (by omega : fo = 0 ∨ fo = 1) with rfl | rfl
  · exact ⟨15, 32768, .inl ⟨rfl, rfl, rfl⟩⟩
  · exact ⟨31, 2147483648, .inr ⟨rfl, rfl, rfl⟩⟩
theorem weighs19_all (p : Option Addr) (l1 cap1 m1 : Nat) (kind fo mo : Int) (xs : List Int) (hl : xs.length = m1) (hm1 : m1 ≤ cap1) (hmin1 : (if (70 : Int) < (l1 : Int) then 70 else (l1 : Int)) = (m1 : Int)) (w : World) (hx : NumsAt w (.slice p m1 cap1) xs) :
    Calls Try.prog 4 #[.slice p l1 cap1, .int .i64 kind, .int .i64 fo, .int .i64 mo] w fun e w' => e = .returned (.bool true) ∧ Gr w w' := by
  by_cases hlog : ∃ L, IsLog (m1 : Int) L
  · obtain ⟨L, hL⟩ := hlog
    by_cases ha : (kind < 0 ∨ 3 < kind) ∨ (fo < 0 ∨ 1 < fo) ∨ mo < 0 ∨ 2 < mo
    · exact weighs19_no p l1 cap1 m1 kind fo mo xs hm1 hmin1 1 (by decide) rfl (Lib.hid fun W _ => whApp_arg p m1 cap1 L kind fo mo hL ha W) (Lib.hid fun W _ => rWhy_arg p m1 cap1 L kind fo mo hL ha W) (Lib.hid alive19_c) w hx
    · obtain ⟨b, q, H⟩ := fb_of (fo := fo) (by omega)
      have k0 : 0 ≤ kind := by omega
      have k1 : kind ≤ 3 := by omega
      have m0 : 0 ≤ mo := by omega
      have m1' : mo ≤ 2 := by omega
      have HW := fun W hv => rWhy_ok p m1 cap1 L kind fo b q mo xs H hL k0 k1 m0 m1' hl W hv
      cases hm : mAll q xs
      · rw [hm] at HW
        exact weighs19_no p l1 cap1 m1 kind fo mo xs hm1 hmin1 2 (by decide) rfl (Lib.hid fun W hv => whApp_range p m1 cap1 L kind fo b q mo xs H hL k0 k1 m0 m1' hl hm W hv) (Lib.hid HW) (Lib.hid alive19_c) w hx
      · rw [hm] at HW
        exact weighs19_yes p l1 cap1 m1 kind fo mo xs hm1 hmin1 _ (Lib.hid fun W hv => whApp_yes p m1 cap1 L kind fo b q mo xs H hL k0 k1 m0 m1' hl hm _ rfl W hv) (Lib.hid HW) (Lib.hid fun W hv => rApp_yes p m1 cap1 L kind fo b q mo xs H hL k0 k1 m0 m1' hl hm _ rfl W hv) (Lib.hid alive19_c) w hx
  · exact weighs19_no p l1 cap1 m1 kind fo mo xs hm1 hmin1 3 (by decide) rfl (Lib.hid fun W _ => whApp_size p m1 cap1 kind fo mo hlog W) (Lib.hid fun W _ => rWhy_size p m1 cap1 kind fo mo hlog W) (Lib.hid alive19_c) w hx
theorem wg_less (kind fo b p mo : Int) (n s : Nat) (hn : IsLen (n : Int)) (H : FB fo b p) (m0 : 0 ≤ mo) (m1 : mo ≤ 2) (hs : s = (56 - (b - 2)).toNat) (xs : List Int) (k : Nat) (hk : k < n) (hx : -p ≤ xs.getD k 0 ∧ xs.getD k 0 < p) :
    (∃ ny A nn B m : Int, IntKind.i64.wrap (-(wgAt kind n s (b - 2) mo xs k)) = ny ∧ (if ny > wgAt kind n s (b - 2) mo xs k then ny else wgAt kind n s (b - 2) mo xs k) = A ∧ IntKind.i64.wrap (-(xs.getD k 0)) = nn ∧ (if nn > xs.getD k 0 then nn else xs.getD k 0) = B ∧ IntKind.i64.wrap (B + 1) = m ∧ A ≤ m) ∧ (xs.getD k 0 = 0 → wgAt kind n s (b - 2) mo xs k = 0) ∧ (kind = 0 → wgAt kind n s (b - 2) mo xs k = xs.getD k 0) := by
  obtain ⟨z, s', rfl, hz, z0, z1, hs', s0, s1, hzs, hp, _⟩ := fb_nums H
  obtain rfl : s = s' := by omega
  have hm3 : mo = 0 ∨ mo = 1 ∨ mo = 2 := by omega
  have hw := win_in kind n hn s s0 s1 k hk
  rw [← hzs] at hw
  have h := weigh_bd (xs.getD k 0) (winW kind n s k) (b - 2).toNat mo hm3 hw.1 hw.2
  have hp2 : p ≤ 2147483648 := by rcases H with ⟨_, _, rfl⟩ | ⟨_, _, rfl⟩ <;> decide
  refine ⟨?_, fun h0 => ?_, fun h0 => ?_⟩
  · unfold wgAt
    generalize rnd (xs.getD k 0 * winW kind n s k) (b - 2).toNat mo = y at *
    generalize xs.getD k 0 = x at *
    have hb : -2147483649 ≤ y ∧ y ≤ 2147483649 := by split at h <;> omega
    refine ⟨-y, _, -x, _, (if -x > x then -x else x) + 1, IntWalk.i64_in _ ⟨by omega, by omega⟩, rfl, IntWalk.i64_in _ ⟨by omega, by omega⟩, rfl, IntWalk.i64_in _ ?_, ?_⟩
    · split <;> exact ⟨by omega, by omega⟩
    · split at h <;> split <;> split <;> omega
  · unfold wgAt
    rw [h0, show (0 : Int) * winW kind n s k = 0 * 2 ^ (b - 2).toNat by rw [Int.zero_mul, Int.zero_mul]]
    exact rnd_mul 0 _ mo hm3
  · subst h0
    unfold wgAt
    rw [winW_0, ← hzs]
    exact rnd_mul _ _ mo hm3
theorem less19_all (p : Option Addr) (l1 cap1 m1 : Nat) (kind fo mo : Int) (xs : List Int) (hl : xs.length = m1) (hm1 : m1 ≤ cap1) (hmin1 : (if (70 : Int) < (l1 : Int) then 70 else (l1 : Int)) = (m1 : Int)) (w : World) (hx : NumsAt w (.slice p m1 cap1) xs) :
    Calls Try.prog 6 #[.slice p l1 cap1, .int .i64 kind, .int .i64 fo, .int .i64 mo] w fun e w' => e = .returned (.bool true) ∧ Gr w w' := by
  by_cases hlog : ∃ L, IsLog (m1 : Int) L
  · obtain ⟨L, hL⟩ := hlog
    by_cases ha : (kind < 0 ∨ 3 < kind) ∨ (fo < 0 ∨ 1 < fo) ∨ mo < 0 ∨ 2 < mo
    · exact less19_no p l1 cap1 m1 kind fo mo xs hm1 hmin1 1 (by decide) rfl (Lib.hid fun W _ => whApp_arg p m1 cap1 L kind fo mo hL ha W) (Lib.hid alive19_c) w hx
    · obtain ⟨b, q, H⟩ := fb_of (fo := fo) (by omega)
      have k0 : 0 ≤ kind := by omega
      have k1 : kind ≤ 3 := by omega
      have m0 : 0 ≤ mo := by omega
      have m1' : mo ≤ 2 := by omega
      obtain ⟨hi, hn4, hn64, _, _, _⟩ := islen19 hL
      cases hm : mAll q xs
      · exact less19_no p l1 cap1 m1 kind fo mo xs hm1 hmin1 2 (by decide) rfl (Lib.hid fun W hv => whApp_range p m1 cap1 L kind fo b q mo xs H hL k0 k1 m0 m1' hl hm W hv) (Lib.hid alive19_c) w hx
      · exact less19_yes p l1 cap1 m1 kind fo mo xs hm1 hmin1 hl (by omega) _ (Lib.hid fun k hk => wg_less kind fo b q mo m1 _ hi H m0 m1' rfl xs k hk (mAll_in hm k _ (getD_at (by omega)))) (Lib.hid fun W hv => whApp_yes p m1 cap1 L kind fo b q mo xs H hL k0 k1 m0 m1' hl hm _ rfl W hv) (Lib.hid alive19_c) w hx
  · exact less19_no p l1 cap1 m1 kind fo mo xs hm1 hmin1 3 (by decide) rfl (Lib.hid fun W _ => whApp_size p m1 cap1 kind fo mo hlog W) (Lib.hid alive19_c) w hx
theorem modP (a : Int) (d : Int) (h0 : 0 < d) (h1 : d ≤ 28) : ∃ r q m : Int, a.tmod d = r ∧ wrap64 (r + d) = q ∧ q.tmod d = m ∧ 0 ≤ m ∧ m < d := by
  have a1 := Int.lt_tmod_of_pos a h0
  have a2 := Int.tmod_lt_of_pos a h0
  refine ⟨a.tmod d, a.tmod d + d, (a.tmod d + d).tmod d, rfl, ?_, rfl, ?_⟩
  · generalize a.tmod d = r at *
    exact IntWalk.wrap64_in _ ⟨by omega, by omega⟩
  · generalize a.tmod d = r at *
    exact ⟨Int.tmod_nonneg _ (by omega), Int.tmod_lt_of_pos _ h0⟩
theorem mirrors19_all (a0 a1 a2 : Int) (w : World) : Calls Try.prog 5 #[.int .i64 a0, .int .i64 a1, .int .i64 a2] w fun e w' => e = .returned (.bool true) ∧ Gr w w' := by
  obtain ⟨r0, q0, K, x1, x2, x3, k0, k1⟩ := modP a0 4 (by decide) (by decide)
  obtain ⟨r1, q1, s1, x4, x5, x6, l0, l1⟩ := modP a1 5 (by decide) (by decide)
  obtain ⟨r2, q2, s2, x7, x8, x9, b0, b1⟩ := modP a2 28 (by decide) (by decide)
  have HN := Lib.hid (And.intro (And.intro x1 (And.intro x2 x3)) (And.intro (And.intro x4 (And.intro x5 (And.intro x6 (show wrap64 (s1 + 2) = s1 + 2 from IntWalk.wrap64_in _ ⟨by clear x1 x2 x3 x4 x5 x6 x7 x8 x9; omega, by clear x1 x2 x3 x4 x5 x6 x7 x8 x9; omega⟩)))) (And.intro x7 (And.intro x8 (And.intro x9 (show wrap64 (s2 + 13) = s2 + 13 from IntWalk.wrap64_in _ ⟨by clear x1 x2 x3 x4 x5 x6 x7 x8 x9; omega, by clear x1 x2 x3 x4 x5 x6 x7 x8 x9; omega⟩))))))
  clear x1 x2 x3 x4 x5 x6 x7 x8 x9
  obtain ⟨n, L, hLe, hL⟩ := isLog_nat (s1 + 2) (by omega) (by omega)
  obtain ⟨hi, hn4, hn64, hL0, hL1, hnp⟩ := islen19 hL
  obtain ⟨s, hs⟩ : ∃ s, s = (56 - (s2 + 13)).toNat := ⟨_, rfl⟩
  have hO := (root_re40 n hi 0 s (by omega) (by omega)).2
  have e2 : (n : Int) / 2 = ((n / 2 : Nat) : Int) := by omega
  refine mirrors19_of a0 a1 a2 r0 q0 K r1 q1 s1 (s1 + 2) r2 q2 s2 (s2 + 13) (2 ^ (56 - s)) n (n / 2) (winW K n s) HN (Lib.hid (shl_one (s1 + 2) n (by omega) (by omega) ?_)) (Lib.hid (shl_one (s2 + 13) _ (by omega) (by omega) (whShl (s2 + 13) s (by omega) (by omega) hs hO))) (Lib.hid ⟨hn4, hn64, e2⟩) (Lib.hid ⟨k0, by omega⟩) (Lib.hid fun W => ?_) (Lib.hid alive19_c) (Lib.hid fun k hk => ?_) w
  · rw [hLe, Int.one_mul, ← hnp]
    exact IntWalk.i64_in _ ⟨by omega, by omega⟩
  · have := whTable_yes K (s2 + 13) n L s hL k0 (by omega) (by omega) (by omega) hs W
    rw [hLe]
    exact this
  · have s0 : 16 ≤ s := by omega
    have s1' : s ≤ 43 := by omega
    have hw := win_in K n hi s s0 s1' k hk
    have hw2 := win_in K n hi s s0 s1' ((k + n / 2) % n) (Nat.mod_lt _ (by omega))
    refine ⟨(k + n / 2) % n, (n - k) % n, _, 2 ^ (56 - s) + 1, rfl, Nat.mod_lt _ (by omega), rfl, rfl, Nat.mod_lt _ (by omega), win_mirror K n hi s s0 s1' k hk, hw.1, hw.2, IntWalk.wrap64_in _ ⟨by omega, by omega⟩, by omega, fun hk1 => ?_, fun hk0 => ?_⟩
    · subst hk1
      rw [IntWalk.wrap64_in _ ⟨by omega, by omega⟩]
      exact win_hann n hi s s0 s1' k hk
    · subst hk0
      rfl
end Go.Proofs.Ytbdglbpkbpedoaa
