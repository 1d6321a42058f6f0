/- Package window's Apply in numbers. -/
import Derived.Test.YtbdglbpkbpedoaaWinSaid
import Derived.Test.YtbdglbpkbpedoaaRef19b
namespace Go.Proofs.Ytbdglbpkbpedoaa
open Go.ChangeShapes Go.WideShapes Go.ChangeAt Go.RowKit Go.MapKept
set_option linter.unusedVariables false
set_option linter.unusedSimpArgs false
set_option maxRecDepth 100000

/-- Numbers weighed, each. -/
def wgAt (kind : Int) (n s : Nat) (b : Int) (mo : Int) (xs : List Int) (k : Nat) : Int := rnd (xs.getD k 0 * winW kind n s k) b.toNat mo
def wgL (kind : Int) (n s : Nat) (b : Int) (mo : Int) (xs : List Int) : List Int := (List.range n).map (wgAt kind n s b mo xs)
theorem prod_bd19 {x p W O : Int} (h0 : -p ≤ x) (h1 : x ≤ p) (w0 : 0 ≤ W) (w1 : W ≤ O) (hp : 0 ≤ p) : -(p * O) ≤ x * W ∧ x * W ≤ p * O := by
  have a := Int.mul_le_mul_of_nonneg_right h1 w0
  have b := Int.mul_le_mul_of_nonneg_left w1 hp
  have c := Int.mul_le_mul_of_nonneg_right h0 w0
  rw [Int.neg_mul] at c
  omega
theorem first_bad (p : Int) : ∀ xs : List Int, mAll p xs = false → ∃ (m : Nat) (x : Int), xs[m]? = some x ∧ (x < -p ∨ p ≤ x) ∧ ∀ (k : Nat) (y : Int), k < m → xs[k]? = some y → -p ≤ y ∧ y < p := by
  intro xs
  induction xs with
  | nil => intro h; simp [mAll] at h
  | cons a xs ih =>
    intro h
    by_cases ha : -p ≤ a ∧ a < p
    · have h2 : mAll p xs = false := by
        unfold mAll at h ⊢
        rw [List.all_cons] at h
        simpa [ha.1, ha.2] using h
      obtain ⟨m, x, h3, h4, h5⟩ := ih h2
      refine ⟨m + 1, x, by simpa using h3, h4, fun k y hk hy => ?_⟩
      cases k with
      | zero => simp at hy; subst hy; exact ha
      | succ k => exact h5 k y (by omega) (by simpa using hy)
    · exact ⟨0, a, rfl, by omega, fun k y hk => absurd hk (Nat.not_lt_zero _)⟩
theorem mAll_in {p : Int} {xs : List Int} (h : mAll p xs = true) : ∀ (k : Nat) (x : Int), xs[k]? = some x → -p ≤ x ∧ x < p := by
  intro k x hx
  unfold mAll at h
  have := List.all_eq_true.1 h x (List.mem_of_getElem? hx)
  simpa using this
theorem noLog {n : Nat} (h : ¬ ∃ L, IsLog (n : Int) L) : (n : Int) ≠ 4 ∧ (n : Int) ≠ 8 ∧ (n : Int) ≠ 16 ∧ (n : Int) ≠ 32 ∧ (n : Int) ≠ 64 :=
  ⟨fun e => h ⟨2, by omega, by omega, by rw [e]; rfl⟩, fun e => h ⟨3, by omega, by omega, by rw [e]; rfl⟩, fun e => h ⟨4, by omega, by omega, by rw [e]; rfl⟩, fun e => h ⟨5, by omega, by omega, by rw [e]; rfl⟩, fun e => h ⟨6, by omega, by omega, by rw [e]; rfl⟩⟩
/-- A format's twiddle bits. -/
theorem fb_nums {fo b p : Int} (H : FB fo b p) : ∃ z : Int, ∃ s : Nat, z = b - 2 ∧ wrap64 (b - 2) = z ∧ 13 ≤ z ∧ z ≤ 29 ∧ s = (56 - z).toNat ∧ 16 ≤ s ∧ s ≤ 43 ∧ z.toNat = 56 - s ∧ 0 ≤ p ∧ p * 2 ^ (56 - s) ≤ 1152921504606846976 := by
  rcases H with ⟨_, rfl, rfl⟩ | ⟨_, rfl, rfl⟩
  · exact ⟨13, 43, rfl, IntWalk.wrap64_in 13 ⟨by decide, by decide⟩, by decide, by decide, rfl, by decide, by decide, rfl, by decide, by decide⟩
  · exact ⟨29, 27, rfl, IntWalk.wrap64_in 29 ⟨by decide, by decide⟩, by decide, by decide, rfl, by decide, by decide, rfl, by decide, by decide⟩
theorem whWeights_yes (kind fo b p : Int) (n L s : Nat) (z : Int) (H : FB fo b p) (hL : IsLog (n : Int) L) (k0 : 0 ≤ kind) (k1 : kind ≤ 3) (hz : wrap64 (b - 2) = z) (z0 : 0 ≤ z) (z1 : z ≤ 40) (hs : s = (56 - z).toNat) (w : World) :
    Calls Try.prog 23 #[.int .i64 kind, .int .i64 (L : Int), .int .i64 fo] w fun e w' => ∃ v, e = .returned (.tuple #[v, .int .i64 z, .int .i64 0]) ∧ NumsAt w' v (winL kind n s) ∧ Gr w w' :=
  whOf_ok kind L fo b z 0 (winL kind n s) hz (Lib.hid fun W => calls_gr (bits_c fo b p H W)) (Lib.hid (whTable_yes kind z n L s hL k0 k1 z0 z1 hs)) w
theorem whApp_size (px : Option Addr) (n cx : Nat) (kind fo mo : Int) (h : ¬ ∃ L, IsLog (n : Int) L) (w : World) :
    Calls Try.prog 14 #[.slice px n cx, .int .i64 kind, .int .i64 fo, .int .i64 mo] w fun e w' => e = .returned (.tuple #[.slice none 0 0, .int .i64 3]) ∧ Gr w w' :=
  whApply_size px n cx kind fo mo (Lib.hid fun W => calls_gr (log08_no n (noLog h).1 (noLog h).2.1 (noLog h).2.2.1 (noLog h).2.2.2.1 (noLog h).2.2.2.2 W)) w
theorem whApp_arg (px : Option Addr) (n cx L : Nat) (kind fo mo : Int) (hL : IsLog (n : Int) L) (h : (kind < 0 ∨ 3 < kind) ∨ (fo < 0 ∨ 1 < fo) ∨ mo < 0 ∨ 2 < mo) (w : World) :
    Calls Try.prog 14 #[.slice px n cx, .int .i64 kind, .int .i64 fo, .int .i64 mo] w fun e w' => e = .returned (.tuple #[.slice none 0 0, .int .i64 1]) ∧ Gr w w' := by
  have HL := Lib.hid fun W => calls_gr (log08_yes (n : Int) L hL W)
  by_cases hf : fo < 0 ∨ 1 < fo
  · refine whApply_kind px n cx kind fo mo L 0 [] HL (Lib.hid fun W => ?_) w
    refine (whOf_bad kind L fo (Lib.hid fun W => calls_gr (bits_bad fo hf W)) W).mono ?_
    rintro e w' ⟨rfl, g⟩
    exact ⟨_, rfl, NumsAt.nil _, g⟩
  · obtain ⟨b, p, H⟩ : ∃ b p, FB fo b p := by
      rcases (by omega : fo = 0 ∨ fo = 1) with rfl | rfl
      · exact ⟨15, 32768, .inl ⟨rfl, rfl, rfl⟩⟩
      · exact ⟨31, 2147483648, .inr ⟨rfl, rfl, rfl⟩⟩
    obtain ⟨z, s, _, hz, z0, z1, hs, _⟩ := fb_nums H
    by_cases hk : kind < 0 ∨ 3 < kind
    · refine whApply_kind px n cx kind fo mo L z [] HL (Lib.hid (whOf_ok kind L fo b z 1 [] hz (Lib.hid fun W => calls_gr (bits_c fo b p H W)) (Lib.hid fun W => ?_))) w
      refine (whTable_no kind L z (.inl hk) W).mono ?_
      rintro e w' ⟨rfl, g⟩
      exact ⟨_, rfl, NumsAt.nil _, g⟩
    · exact whApply_mode px n cx kind fo mo L z 0 (winL kind n s) HL (Lib.hid (whWeights_yes kind fo b p n L s z H hL (by omega) (by omega) hz (by omega) (by omega) hs)) (Lib.hid (shift_bad_mode 0 z mo (by omega))) w
theorem whApp_cells {px : Option Addr} {n cx : Nat} {xs : List Int} {w : World} (hn : xs.length = n) (h4 : 0 < n) (hv : NumsAt w (.slice px n cx) xs) : ∃ xb xo, px = some ⟨xb, xo, none⟩ ∧ xb < w.heap.size ∧ ∀ k, k < n → w.cell? ⟨xb, xo + k, none⟩ = some (.int .i64 (xs.getD k 0)) := by
  obtain ⟨xb, xo, c, hsl, _, hb, hc⟩ := hv.at (by intro e; rw [e] at hn; simp at hn; omega)
  cases hsl
  refine ⟨xb, xo, rfl, hb, fun k hk => hc k _ ?_⟩
  rw [List.getD_eq_getElem?_getD, List.getElem?_eq_getElem (by omega)]
  rfl
theorem wg_shift {kind p mo : Int} {n s : Nat} {z : Int} (hn : IsLen (n : Int)) (m0 : 0 ≤ mo) (m1 : mo ≤ 2) (z0 : 13 ≤ z) (z1 : z ≤ 29) (s0 : 16 ≤ s) (s1 : s ≤ 43) (hp : 0 ≤ p) (hpO : p * 2 ^ (56 - s) ≤ 1152921504606846976) (xs : List Int) (k : Nat) (hk : k < n) (hx : -p ≤ xs.getD k 0 ∧ xs.getD k 0 < p) :
    wrap64 (xs.getD k 0 * winW kind n s k) = xs.getD k 0 * winW kind n s k ∧ (-9223372036854775808 ≤ xs.getD k 0 * winW kind n s k ∧ xs.getD k 0 * winW kind n s k ≤ 9223372036854775807) := by
  have h := win_in kind n hn s s0 s1 k hk
  have h2 := prod_bd19 hx.1 (show xs.getD k 0 ≤ p by omega) h.1 h.2 hp
  generalize xs.getD k 0 * winW kind n s k = y at *
  generalize p * 2 ^ (56 - s) = q at *
  exact ⟨IntWalk.wrap64_in _ ⟨by omega, by omega⟩, by omega, by omega⟩
theorem getD_at {xs : List Int} {k : Nat} (hk : k < xs.length) : xs[k]? = some (xs.getD k 0) := by
  rw [List.getD_eq_getElem?_getD, List.getElem?_eq_getElem hk]
  rfl
theorem clampI_in {p x : Int} (h : -p ≤ x ∧ x < p) : clampI p x = x := by unfold clampI; rw [if_neg (by omega), if_neg (by omega)]
theorem clampI_out {p x : Int} (h : x < -p ∨ p ≤ x) (hp : 0 ≤ p) : (clampI p x != x) = true := by
  unfold clampI
  rw [bne_iff_ne]
  by_cases h1 : x < -p
  · rw [if_pos h1]; omega
  · rw [if_neg h1, if_pos (by omega)]; omega
theorem clamp_ok19 (fo b p x : Int) (H : FB fo b p) (h : -p ≤ x ∧ x < p) (W : World) : Calls Try.prog 25 #[.int .i64 x, .int .i64 fo] W fun e w' => e = .returned (.tuple #[.int .i64 x, .bool false, .int .i64 0]) ∧ Gr W w' := by
  have := clamp_c fo b p x H W
  rw [clampI_in h, show (x != x) = false by simp] at this
  exact this
theorem clamp_no19 (fo b p x : Int) (H : FB fo b p) (h : x < -p ∨ p ≤ x) (hp : 0 ≤ p) (W : World) : Calls Try.prog 25 #[.int .i64 x, .int .i64 fo] W fun e w' => e = .returned (.tuple #[.int .i64 (clampI p x), .bool true, .int .i64 0]) ∧ Gr W w' := by
  have := clamp_c fo b p x H W
  rw [clampI_out h hp] at this
  exact this
theorem whApp_range (px : Option Addr) (n cx L : Nat) (kind fo b p mo : Int) (xs : List Int) (H : FB fo b p) (hL : IsLog (n : Int) L) (k0 : 0 ≤ kind) (k1 : kind ≤ 3) (m0 : 0 ≤ mo) (m1 : mo ≤ 2) (hn : xs.length = n) (hm : mAll p xs = false) (w : World) (hv : NumsAt w (.slice px n cx) xs) :
    Calls Try.prog 14 #[.slice px n cx, .int .i64 kind, .int .i64 fo, .int .i64 mo] w fun e w' => e = .returned (.tuple #[.slice none 0 0, .int .i64 2]) ∧ Gr w w' := by
  obtain ⟨hi, hn4, hn64, _, _, _⟩ := islen19 hL
  obtain ⟨z, s, _, hz, z0, z1, hs, s0, s1, hzs, hp, hpO⟩ := fb_nums H
  obtain ⟨xb, xo, rfl, hb, hc⟩ := whApp_cells hn (by omega) hv
  obtain ⟨m, x, hx, hbad, hgood⟩ := first_bad p xs hm
  have hml : m < n := by rw [← hn]; exact (List.getElem?_eq_some_iff.1 hx).1
  have hxe : xs.getD m 0 = x := by
    have := getD_at (xs := xs) (k := m) (by omega)
    rw [hx] at this
    cases this
    rfl
  have hin : ∀ k, k < m → -p ≤ xs.getD k 0 ∧ xs.getD k 0 < p := fun k hk => hgood k _ hk (getD_at (by omega))
  refine whApply_range xb xo cx n kind fo mo L z (rnd 0 z.toNat mo) (fun k => xs.getD k 0) (winW kind n s) (fun k => xs.getD k 0 * winW kind n s k) (wgAt kind n s z mo xs) m hml ⟨by omega, hn64⟩ (Lib.hid fun W => calls_gr (log08_yes (n : Int) L hL W)) (Lib.hid (whWeights_yes kind fo b p n L s z H hL k0 k1 hz (by omega) (by omega) hs))
    (Lib.hid (shift_ok 0 z mo (by decide) (by omega) (by omega) m0 m1)) (Lib.hid fun k hk W => clamp_ok19 fo b p _ H (hin k hk) W) (clampI p x) (Lib.hid fun W => ?_) (Lib.hid fun k hk => ?_) w hb hc
  · rw [hxe]
    exact clamp_no19 fo b p x H hbad hp W
  · have h := wg_shift (kind := kind) hi m0 m1 z0 z1 s0 s1 hp hpO xs k (by omega) (hin k hk)
    exact ⟨h.1, fun W => shift_ok _ z mo h.2 (by omega) (by omega) m0 m1 W⟩
/-- The numbers weighed. -/
theorem whApp_yes (px : Option Addr) (n cx L : Nat) (kind fo b p mo : Int) (xs : List Int) (H : FB fo b p) (hL : IsLog (n : Int) L) (k0 : 0 ≤ kind) (k1 : kind ≤ 3) (m0 : 0 ≤ mo) (m1 : mo ≤ 2) (hn : xs.length = n) (hm : mAll p xs = true) (s : Nat) (hs : s = (56 - (b - 2)).toNat) (w : World) (hv : NumsAt w (.slice px n cx) xs) :
    Calls Try.prog 14 #[.slice px n cx, .int .i64 kind, .int .i64 fo, .int .i64 mo] w fun e w' => ∃ v, e = .returned (.tuple #[v, .int .i64 0]) ∧ NumsAt w' v (wgL kind n s (b - 2) mo xs) ∧ Gr w w' := by
  obtain ⟨hi, hn4, hn64, _, _, _⟩ := islen19 hL
  obtain ⟨z, s', rfl, hz, z0, z1, hs', s0, s1, hzs, hp, hpO⟩ := fb_nums H
  obtain rfl : s = s' := by omega
  obtain ⟨xb, xo, rfl, hb, hc⟩ := whApp_cells hn (by omega) hv
  have hin : ∀ k, k < n → -p ≤ xs.getD k 0 ∧ xs.getD k 0 < p := fun k hk => mAll_in hm k _ (getD_at (by omega))
  refine whApply_yes xb xo cx n kind fo mo L (b - 2) (rnd 0 (b - 2).toNat mo) (fun k => xs.getD k 0) (winW kind n s) (fun k => xs.getD k 0 * winW kind n s k) (wgAt kind n s (b - 2) mo xs) ⟨by omega, hn64⟩ (Lib.hid fun W => calls_gr (log08_yes (n : Int) L hL W)) (Lib.hid (whWeights_yes kind fo b p n L s (b - 2) H hL k0 k1 hz (by omega) (by omega) hs))
    (Lib.hid (shift_ok 0 (b - 2) mo (by decide) (by omega) (by omega) m0 m1)) (Lib.hid fun k hk W => clamp_ok19 fo b p _ H (hin k hk) W) (Lib.hid fun k hk => ?_) w hb hc
  have h := wg_shift (kind := kind) hi m0 m1 z0 z1 s0 s1 hp hpO xs k (by omega) (hin k hk)
  exact ⟨h.1, fun W => shift_ok _ (b - 2) mo h.2 (by omega) (by omega) m0 m1 W⟩
end Go.Proofs.Ytbdglbpkbpedoaa
