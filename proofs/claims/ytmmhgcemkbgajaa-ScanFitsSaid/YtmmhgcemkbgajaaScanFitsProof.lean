/- Proved: for every input, the law ScanFits answers true at this commit, and its arguments read afterwards as before. No condition. -/
import Derived.Test.YtmmhgcemkbgajaaRows
import Derived.WalkKit
import Derived.ProofKit
import Derived.OpenShut
import Derived.Lib.SmallJoins
import Derived.ChangeOld
import Derived.Below
import Derived.Test.YtmmhgcemkbgajaaScanCode
import Derived.Test.YtmmhgcemkbgajaaCxsArg
namespace Go.Proofs.Ytmmhgcemkbgajaa.scanFits
open Go.ChangeShapes Go.WideShapes Go.ChangeAt Go.RowKit Go.Joins
set_option linter.unusedVariables false

theorem own : ownKnob Try.prog.godebug = none := by kernel_rfl
theorem laidOut : laidOutB Try.prog = true := by kernel_rfl


theorem shifts_both (sp0 : Option Addr) (sc0 n : Nat) (s : Nat) (mo : Int) (ys : List Gi) (hs : s ≤ 31) (m0 : 0 ≤ mo) (m1 : mo ≤ 2) (hl : ys.length ≤ 70) (hb : ∀ a ∈ ys, (Lit.int .i64 a.re).wf = true ∧ (Lit.int .i64 a.im).wf = true) (W : World) (hW : CxsAt W (.slice sp0 n sc0) ys) :
    Calls Try.prog 17 #[.slice sp0 n sc0, .int .i64 (-(s : Int)), .int .i64 mo] W fun e w' => (e = .returned (.tuple #[.slice none 0 0, .int .i64 2]) ∧ Gr W w') ∨ (∃ v', e = .returned (.tuple #[v', .int .i64 0]) ∧ CxsAt w' v' (ys.map (shG (-(s : Int)) mo)) ∧ (∀ a ∈ ys.map (shG (-(s : Int)) mo), (Lit.int .i64 a.re).wf = true ∧ (Lit.int .i64 a.im).wf = true) ∧ Gr W w') := by
  by_cases hr : (-(s : Int)) < 0 ∧ allIn (2 ^ (62 + -(s : Int)).toNat) ys = false
  · exact (scanShifted_range _ ys _ mo (by omega) hr.1 m0 m1 hb hr.2 (by omega) W hW).mono fun e w' h => .inl h
  · have hu : (-(s : Int)) < 0 → allIn (2 ^ (62 + -(s : Int)).toNat) ys = true := by
      intro g
      cases e : allIn (2 ^ (62 + -(s : Int)).toNat) ys
      · exact absurd ⟨g, e⟩ hr
      · rfl
    have hbu := upG_bd s ys mo hs hu hb (by omega)
    exact (scanShifted_ok _ ys _ mo (by omega) (by omega) m0 m1 hb hu (by omega) W hW).mono fun e w' ⟨v', h1, h2, h3⟩ => .inr ⟨v', h1, h2, hbu, h3⟩

set_option maxHeartbeats 2000000 in
theorem fits_15 (sp0 : Option Addr) (len sc0 n : Nat) (a1 a2 a3 r r2 q q2 mo : Int) (ys : List Gi) (hcap : n ≤ sc0) (h70 : n ≤ 70) (hl : ys.length = n) (hmin : (if (70 : Int) < (len : Int) then 70 else (len : Int)) = (n : Int))
    (h1 : a2.tmod 2 = r) (h2 : wrap64 (r + 2) = r2) (h3 : r2.tmod 2 = 0) (k1 : a3.tmod 3 = q) (k2 : wrap64 (q + 3) = q2) (k3 : q2.tmod 3 = mo) (m0 : 0 ≤ mo) (m1 : mo < 3)
    (hb : ∀ a ∈ ys, (Lit.int .i64 a.re).wf = true ∧ (Lit.int .i64 a.im).wf = true) (w : World) (hc : CxsAt w (.slice sp0 n sc0) ys) :
    Calls Try.prog 6 #[.slice sp0 len sc0, .int .i64 a1, .int .i64 a2, .int .i64 a3] w fun e w' => e = .returned (.bool true) ∧ Gr w w' := by
  have H : FB 0 15 32768 := (.inl ⟨rfl, rfl, rfl⟩)
  obtain ⟨u, u2, m, l1, l2, l4, g0, g1⟩ := rem_again a1 32769 (by omega) (by omega)
  have q1 := Int.lt_tmod_of_pos a1 (show (0 : Int) < 32769 by omega)
  have q3 := Int.tmod_lt_of_pos a1 (show (0 : Int) < 32769 by omega)
  rw [l1] at q1 q3
  obtain ⟨u1, hu⟩ : ∃ u1, u1 = u + 32768 := ⟨_, rfl⟩
  have hu1 : wrap64 (u + 32768) = u1 := by rw [hu]; exact IntWalk.wrap64_in _ (by omega)
  have hu2 : wrap64 (u1 + 1) = u2 := by rw [show u1 + 1 = u + 32769 by omega]; exact l2
  obtain ⟨t2, t4, e2, e4, b2, b4, d2, d4, n2b, n4b⟩ := fit_nums 15 32768 m (by omega) g0 (by omega)
  obtain ⟨n2, hn2⟩ : ∃ n2 : Nat, n2 = 15 - 2 + t2 := ⟨_, rfl⟩
  obtain ⟨n4, hn4⟩ : ∃ n4 : Nat, n4 = 15 - 3 + t4 := ⟨_, rfl⟩
  rw [← hn2] at d2 n2b
  rw [← hn4] at d4 n4b
  have v2 : IntKind.i64.wrap (13 + (t2 : Int)) = (n2 : Int) := by rw [IntWalk.i64_in _ ⟨by omega, by omega⟩]; omega
  have v4 : IntKind.i64.wrap (12 + (t4 : Int)) = (n4 : Int) := by rw [IntWalk.i64_in _ ⟨by omega, by omega⟩]; omega
  have x2 := shl_num n2 n2b
  have x4 := shl_num n4 n4b
  generalize (2 : Int) ^ n2 = X2 at *
  generalize (2 : Int) ^ n4 = X4 at *
  have c2 : decide (X2 < m) = false := by simpa using d2
  have c4 : decide (X4 < m) = false := by simpa using d4
  have HB := Lib.hid (bits_c 0 15 32768 H)
  have HR := Lib.hid (scanRoom_ok m 0 15 32768 H g0 (by omega))
  have HP := Lib.hid (scanPre_ok 2 m 0 15 32768 H (.inl rfl) g0 (by omega))
  have HQ := Lib.hid (scanPre_ok 4 m 0 15 32768 H (.inr rfl) g0 (by omega))
  rw [e2] at HP
  rw [e4] at HQ
  have AL := Lib.hid alive09_c
  have hfit := room_fits 32768 m
  have hle := room_le 32768 m
  have hgr := room_great 32768 m
  generalize room 32768 m = s at *
  have HS := Lib.hid fun W hW => shifts_both sp0 sc0 n s mo ys hle m0 (by omega) (by omega) hb W hW
  have HT := Lib.hid fun (hQ : ∀ a ∈ ys.map (shG (-(s : Int)) mo), (Lit.int .i64 a.re).wf = true ∧ (Lit.int .i64 a.im).wf = true) v W hW => scanShifted_ok v (ys.map (shG (-(s : Int)) mo)) s mo (by omega) (by omega) m0 (by omega) hQ (fun h => absurd h (by omega)) (by rw [List.length_map]; omega) W hW
  rw [map_back s ys mo (by omega)] at HT
  have hw : wrap64 (-(s : Int)) = -(s : Int) := IntWalk.wrap64_in _ (by omega)
  have hp0 := pow_pos2 s
  have hp1 := pow_le31 s hle
  by_cases hm : 0 < m
  · have hg := hgr hm (by omega)
    rw [Int.pow_succ, ← Int.mul_assoc] at hg
    have hm' : decide (0 < m) = true := by simpa using hm
    by_cases hs : 0 < s
    · have hf2 := (hfit hs).2
      have hmul0 : 0 ≤ m * 2 ^ s := Int.mul_nonneg g0 (by omega)
      have e1 : IntKind.i64.wrap (m * 2 ^ min ((s : Nat) : Int).toNat 64) = m * 2 ^ s := by
        rw [Int.toNat_natCast, show min s 64 = s by omega]
        exact IntWalk.i64_in _ ⟨by omega, by omega⟩
      generalize m * 2 ^ s = t at *
      have hs' : decide ((0 : Int) < (s : Int)) = true := by simpa using hs
      have y1 : decide (t ≤ 8192) = false := by simp; omega
      have y2 : decide (16384 < t) = false := by simp; omega
      exact scanFits_15a sp0 len sc0 n t2 t4 n2 n4 a1 a2 a3 r r2 0 q q2 mo u u1 u2 (s : Int) m t X2 X4 ys (ys.map (shG (-(s : Int)) mo)) (∀ a ∈ ys.map (shG (-(s : Int)) mo), (Lit.int .i64 a.re).wf = true ∧ (Lit.int .i64 a.im).wf = true) hcap hmin h1 h2 h3 k1 k2 k3 l1 hu1 hu2 l4 hm' hs' y1 y2 (by omega) e1 b2 b4 (by rfl) (by rfl) (by rfl) (by rfl) (by rfl) v2 v4 x2 x4 c2 c4 hw HB HR HP HQ AL HS HT w hc
    · obtain rfl : s = 0 := by omega
      have e1 : IntKind.i64.wrap (m * 2 ^ min (((0 : Nat) : Int)).toNat 64) = m := by
        rw [Int.toNat_natCast, show min 0 64 = 0 by rfl, Int.pow_zero, Int.mul_one]
        exact IntWalk.i64_in _ ⟨by omega, by omega⟩
      rw [Int.pow_zero, Int.mul_one] at hg
      have y1 : decide (m ≤ 8192) = false := by simp; omega
      have hs' : decide ((0 : Int) < ((0 : Nat) : Int)) = false := by decide
      exact scanFits_15b sp0 len sc0 n t2 t4 n2 n4 a1 a2 a3 r r2 0 q q2 mo u u1 u2 ((0 : Nat) : Int) m m X2 X4 ys (ys.map (shG (-((0 : Nat) : Int)) mo)) (∀ a ∈ ys.map (shG (-((0 : Nat) : Int)) mo), (Lit.int .i64 a.re).wf = true ∧ (Lit.int .i64 a.im).wf = true) hcap hmin h1 h2 h3 k1 k2 k3 l1 hu1 hu2 l4 hm' hs' y1 (by omega) e1 b2 b4 (by rfl) (by rfl) (by rfl) (by rfl) (by rfl) v2 v4 x2 x4 c2 c4 hw HB HR HP HQ AL HS HT w hc
  · have hm' : decide (0 < m) = false := by simpa using hm
    obtain rfl : s = 0 := by
      rcases Nat.eq_zero_or_pos s with h | h
      · exact h
      · exact absurd (hfit h).1 hm
    have e1 : IntKind.i64.wrap (m * 2 ^ min (((0 : Nat) : Int)).toNat 64) = m := by
      rw [Int.toNat_natCast, show min 0 64 = 0 by rfl, Int.pow_zero, Int.mul_one]
      exact IntWalk.i64_in _ ⟨by omega, by omega⟩
    have hs' : decide ((0 : Int) < ((0 : Nat) : Int)) = false := by decide
    exact scanFits_15c sp0 len sc0 n t2 t4 n2 n4 a1 a2 a3 r r2 0 q q2 mo u u1 u2 ((0 : Nat) : Int) m m X2 X4 ys (ys.map (shG (-((0 : Nat) : Int)) mo)) (∀ a ∈ ys.map (shG (-((0 : Nat) : Int)) mo), (Lit.int .i64 a.re).wf = true ∧ (Lit.int .i64 a.im).wf = true) hcap hmin h1 h2 h3 k1 k2 k3 l1 hu1 hu2 l4 hm' hs' (by omega) e1 b2 b4 (by rfl) (by rfl) (by rfl) (by rfl) (by rfl) v2 v4 x2 x4 c2 c4 hw HB HR HP HQ AL HS HT w hc

set_option maxHeartbeats 2000000 in
theorem fits_31 (sp0 : Option Addr) (len sc0 n : Nat) (a1 a2 a3 r r2 q q2 mo : Int) (ys : List Gi) (hcap : n ≤ sc0) (h70 : n ≤ 70) (hl : ys.length = n) (hmin : (if (70 : Int) < (len : Int) then 70 else (len : Int)) = (n : Int))
    (h1 : a2.tmod 2 = r) (h2 : wrap64 (r + 2) = r2) (h3 : r2.tmod 2 = 1) (k1 : a3.tmod 3 = q) (k2 : wrap64 (q + 3) = q2) (k3 : q2.tmod 3 = mo) (m0 : 0 ≤ mo) (m1 : mo < 3)
    (hb : ∀ a ∈ ys, (Lit.int .i64 a.re).wf = true ∧ (Lit.int .i64 a.im).wf = true) (w : World) (hc : CxsAt w (.slice sp0 n sc0) ys) :
    Calls Try.prog 6 #[.slice sp0 len sc0, .int .i64 a1, .int .i64 a2, .int .i64 a3] w fun e w' => e = .returned (.bool true) ∧ Gr w w' := by
  have H : FB 1 31 2147483648 := (.inr ⟨rfl, rfl, rfl⟩)
  obtain ⟨u, u2, m, l1, l2, l4, g0, g1⟩ := rem_again a1 2147483649 (by omega) (by omega)
  have q1 := Int.lt_tmod_of_pos a1 (show (0 : Int) < 2147483649 by omega)
  have q3 := Int.tmod_lt_of_pos a1 (show (0 : Int) < 2147483649 by omega)
  rw [l1] at q1 q3
  obtain ⟨u1, hu⟩ : ∃ u1, u1 = u + 2147483648 := ⟨_, rfl⟩
  have hu1 : wrap64 (u + 2147483648) = u1 := by rw [hu]; exact IntWalk.wrap64_in _ (by omega)
  have hu2 : wrap64 (u1 + 1) = u2 := by rw [show u1 + 1 = u + 2147483649 by omega]; exact l2
  obtain ⟨t2, t4, e2, e4, b2, b4, d2, d4, n2b, n4b⟩ := fit_nums 31 2147483648 m (by omega) g0 (by omega)
  obtain ⟨n2, hn2⟩ : ∃ n2 : Nat, n2 = 31 - 2 + t2 := ⟨_, rfl⟩
  obtain ⟨n4, hn4⟩ : ∃ n4 : Nat, n4 = 31 - 3 + t4 := ⟨_, rfl⟩
  rw [← hn2] at d2 n2b
  rw [← hn4] at d4 n4b
  have v2 : IntKind.i64.wrap (29 + (t2 : Int)) = (n2 : Int) := by rw [IntWalk.i64_in _ ⟨by omega, by omega⟩]; omega
  have v4 : IntKind.i64.wrap (28 + (t4 : Int)) = (n4 : Int) := by rw [IntWalk.i64_in _ ⟨by omega, by omega⟩]; omega
  have x2 := shl_num n2 n2b
  have x4 := shl_num n4 n4b
  generalize (2 : Int) ^ n2 = X2 at *
  generalize (2 : Int) ^ n4 = X4 at *
  have c2 : decide (X2 < m) = false := by simpa using d2
  have c4 : decide (X4 < m) = false := by simpa using d4
  have HB := Lib.hid (bits_c 1 31 2147483648 H)
  have HR := Lib.hid (scanRoom_ok m 1 31 2147483648 H g0 (by omega))
  have HP := Lib.hid (scanPre_ok 2 m 1 31 2147483648 H (.inl rfl) g0 (by omega))
  have HQ := Lib.hid (scanPre_ok 4 m 1 31 2147483648 H (.inr rfl) g0 (by omega))
  rw [e2] at HP
  rw [e4] at HQ
  have AL := Lib.hid alive09_c
  have hfit := room_fits 2147483648 m
  have hle := room_le 2147483648 m
  have hgr := room_great 2147483648 m
  generalize room 2147483648 m = s at *
  have HS := Lib.hid fun W hW => shifts_both sp0 sc0 n s mo ys hle m0 (by omega) (by omega) hb W hW
  have HT := Lib.hid fun (hQ : ∀ a ∈ ys.map (shG (-(s : Int)) mo), (Lit.int .i64 a.re).wf = true ∧ (Lit.int .i64 a.im).wf = true) v W hW => scanShifted_ok v (ys.map (shG (-(s : Int)) mo)) s mo (by omega) (by omega) m0 (by omega) hQ (fun h => absurd h (by omega)) (by rw [List.length_map]; omega) W hW
  rw [map_back s ys mo (by omega)] at HT
  have hw : wrap64 (-(s : Int)) = -(s : Int) := IntWalk.wrap64_in _ (by omega)
  have hp0 := pow_pos2 s
  have hp1 := pow_le31 s hle
  by_cases hm : 0 < m
  · have hg := hgr hm (by omega)
    rw [Int.pow_succ, ← Int.mul_assoc] at hg
    have hm' : decide (0 < m) = true := by simpa using hm
    by_cases hs : 0 < s
    · have hf2 := (hfit hs).2
      have hmul0 : 0 ≤ m * 2 ^ s := Int.mul_nonneg g0 (by omega)
      have e1 : IntKind.i64.wrap (m * 2 ^ min ((s : Nat) : Int).toNat 64) = m * 2 ^ s := by
        rw [Int.toNat_natCast, show min s 64 = s by omega]
        exact IntWalk.i64_in _ ⟨by omega, by omega⟩
      generalize m * 2 ^ s = t at *
      have hs' : decide ((0 : Int) < (s : Int)) = true := by simpa using hs
      have y1 : decide (t ≤ 536870912) = false := by simp; omega
      have y2 : decide (1073741824 < t) = false := by simp; omega
      exact scanFits_31a sp0 len sc0 n t2 t4 n2 n4 a1 a2 a3 r r2 1 q q2 mo u u1 u2 (s : Int) m t X2 X4 ys (ys.map (shG (-(s : Int)) mo)) (∀ a ∈ ys.map (shG (-(s : Int)) mo), (Lit.int .i64 a.re).wf = true ∧ (Lit.int .i64 a.im).wf = true) hcap hmin h1 h2 h3 k1 k2 k3 l1 hu1 hu2 l4 hm' hs' y1 y2 (by omega) e1 b2 b4 (by rfl) (by rfl) (by rfl) (by rfl) (by rfl) v2 v4 x2 x4 c2 c4 hw HB HR HP HQ AL HS HT w hc
    · obtain rfl : s = 0 := by omega
      have e1 : IntKind.i64.wrap (m * 2 ^ min (((0 : Nat) : Int)).toNat 64) = m := by
        rw [Int.toNat_natCast, show min 0 64 = 0 by rfl, Int.pow_zero, Int.mul_one]
        exact IntWalk.i64_in _ ⟨by omega, by omega⟩
      rw [Int.pow_zero, Int.mul_one] at hg
      have y1 : decide (m ≤ 536870912) = false := by simp; omega
      have hs' : decide ((0 : Int) < ((0 : Nat) : Int)) = false := by decide
      exact scanFits_31b sp0 len sc0 n t2 t4 n2 n4 a1 a2 a3 r r2 1 q q2 mo u u1 u2 ((0 : Nat) : Int) m m X2 X4 ys (ys.map (shG (-((0 : Nat) : Int)) mo)) (∀ a ∈ ys.map (shG (-((0 : Nat) : Int)) mo), (Lit.int .i64 a.re).wf = true ∧ (Lit.int .i64 a.im).wf = true) hcap hmin h1 h2 h3 k1 k2 k3 l1 hu1 hu2 l4 hm' hs' y1 (by omega) e1 b2 b4 (by rfl) (by rfl) (by rfl) (by rfl) (by rfl) v2 v4 x2 x4 c2 c4 hw HB HR HP HQ AL HS HT w hc
  · have hm' : decide (0 < m) = false := by simpa using hm
    obtain rfl : s = 0 := by
      rcases Nat.eq_zero_or_pos s with h | h
      · exact h
      · exact absurd (hfit h).1 hm
    have e1 : IntKind.i64.wrap (m * 2 ^ min (((0 : Nat) : Int)).toNat 64) = m := by
      rw [Int.toNat_natCast, show min 0 64 = 0 by rfl, Int.pow_zero, Int.mul_one]
      exact IntWalk.i64_in _ ⟨by omega, by omega⟩
    have hs' : decide ((0 : Int) < ((0 : Nat) : Int)) = false := by decide
    exact scanFits_31c sp0 len sc0 n t2 t4 n2 n4 a1 a2 a3 r r2 1 q q2 mo u u1 u2 ((0 : Nat) : Int) m m X2 X4 ys (ys.map (shG (-((0 : Nat) : Int)) mo)) (∀ a ∈ ys.map (shG (-((0 : Nat) : Int)) mo), (Lit.int .i64 a.re).wf = true ∧ (Lit.int .i64 a.im).wf = true) hcap hmin h1 h2 h3 k1 k2 k3 l1 hu1 hu2 l4 hm' hs' (by omega) e1 b2 b4 (by rfl) (by rfl) (by rfl) (by rfl) (by rfl) v2 v4 x2 x4 c2 c4 hw HB HR HP HQ AL HS HT w hc


set_option maxHeartbeats 4000000 in
set_option maxRecDepth 100000 in
theorem walk (w : World) (sp0 : Option Addr) (sc0 : Nat) (xs0 : List Gi) (a1 : Int) (a2 : Int) (a3 : Int) (wx0 : ∀ g ∈ xs0, (Lit.int .i64 g.re).wf = true ∧ (Lit.int .i64 g.im).wf = true) (hx0 : CxsAt w (.slice sp0 xs0.length sc0) xs0) (w1 : (Lit.int .i64 a1).wf = true) (w2 : (Lit.int .i64 a2).wf = true) (w3 : (Lit.int .i64 a3).wf = true) :
    Calls Try.prog 6 #[.slice sp0 xs0.length sc0, .int .i64 a1, .int .i64 a2, .int .i64 a3] w fun e w' => e = .returned (.bool true) ∧ Gr w w' := by
  obtain ⟨n, hn, h70, hmin⟩ := cut70 xs0.length
  obtain ⟨hc, hl, hcap, _⟩ := hx0.cut n hn
  have hb : ∀ a ∈ xs0.take n, (Lit.int .i64 a.re).wf = true ∧ (Lit.int .i64 a.im).wf = true := fun a ha => wx0 a (List.mem_of_mem_take ha)
  generalize xs0.take n = ys at *
  obtain ⟨r, r2, f, h1, h2, h3, f0, f1⟩ := rem_again a2 2 (by omega) (by omega)
  obtain ⟨q, q2, mo, k1, k2, k3, m0, m1⟩ := rem_again a3 3 (by omega) (by omega)
  have hf : f = 0 ∨ f = 1 := by omega
  rcases hf with rfl | rfl
  · exact fits_15 sp0 xs0.length sc0 n a1 a2 a3 r r2 q q2 mo ys hcap h70 hl hmin h1 h2 h3 k1 k2 k3 m0 m1 hb w hc
  · exact fits_31 sp0 xs0.length sc0 n a1 a2 a3 r r2 q q2 mo ys hcap h70 hl hmin h1 h2 h3 k1 k2 k3 m0 m1 hb w hc

set_option maxHeartbeats 4000000 in
set_option maxRecDepth 100000 in
theorem lifted (os : Os) (started : os.Started) (H : Type) (enc : TypeId × Value → H) :
    ReturnsInHanded {} Try.checked os 6 .any (Rows.scanFitsSpec.pre6 enc Try.prog Try.f6 Rows.scanFitsRow.domain false) (Rows.scanFitsSpec.post enc Try.prog Try.f6 false true false false) := by
  refine returnsInHanded_of_change (C := Try.checked) own started (by kernel_rfl) Try.func6
    (ChangeSpec.witness6 (enc := enc) (C := Try.checked) false ⟨#[], #[.slice none 0 0, .int .i64 0, .int .i64 0, .int .i64 0], []⟩ 8 (by kernel_rfl) (by kernel_rfl) (by kernel_rfl) (by kernel_rfl)) ?_
  intro W base args ds gs before hval0 hW hcnd _
  have hval : ∀ (j : Nat) t v, Try.f6.params[j]? = some t → args[j]? = some v → Value.okWide Try.prog W .any base t v := hval0
  have hW' := hW
  obtain ⟨p, q, hA0, hV, rfl, hfz, hnd⟩ := hW
  have hA : DataW.TrodAll enc Try.prog W 0 (fun _ => true) true Try.f6.params.toList args.toList ds p := hA0
  rw [Try.params6] at hA hval
  obtain ⟨v0, vs0, d0, ds0, p0, q0, hargs, rfl, rfl, h0, r0⟩ := trodAll_cons hA
  obtain ⟨v1, vs1, d1, ds1, p1, q1, rfl, rfl, rfl, h1, r1⟩ := trodAll_cons r0
  obtain ⟨v2, vs2, d2, ds2, p2, q2, rfl, rfl, rfl, h2, r2⟩ := trodAll_cons r1
  obtain ⟨v3, vs3, d3, ds3, p3, q3, rfl, rfl, rfl, h3, r3⟩ := trodAll_cons r2
  obtain ⟨rfl, rfl, rfl⟩ := trodAll_nil r3
  obtain rfl : args = #[v0, v1, v2, v3] := by cases args; simp_all
  obtain ⟨rfl, rfl⟩ := trodVars_none hV
  obtain ⟨sp0, sn0, sc0, rfl⟩ := okWide_slice Try.underlying22 (hval 0 22 v0 rfl rfl)
  have k0 := h0
  have lt0 : ∀ x ∈ p0, x.block < W.heap.size := by obtain ⟨m, hm⟩ := k0; exact DataW.trod_lt m _ _ _ hm
  obtain ⟨xs0, rfl, hx0, wx0⟩ : ∃ xs : List Gi, sn0 = xs.length ∧ CxsAt W (.slice sp0 sn0 sc0) xs ∧ ∀ g ∈ xs, (Lit.int .i64 g.re).wf = true ∧ (Lit.int .i64 g.im).wf = true := by
    obtain ⟨fuel, hf⟩ := h0
    exact cxs_open hf
  obtain ⟨a1, rfl, rfl, rfl, w1⟩ := open_int Try.underlying3 (hval 1 3 v1 rfl rfl) h1
  obtain ⟨a2, rfl, rfl, rfl, w2⟩ := open_int Try.underlying3 (hval 2 3 v2 rfl rfl) h2
  obtain ⟨a3, rfl, rfl, rfl, w3⟩ := open_int Try.underlying3 (hval 3 3 v3 rfl rfl) h3
  clear hA0 hval0
  refine (walk W sp0 sc0 xs0 a1 a2 a3 wx0 hx0 w1 w2 w3).mono fun e W' ⟨he, hg⟩ => ?_
  subst he
  exact ⟨_, rfl, _, _, _, [], _, [], hW', trodAll_mk1 (shut_bool Try.underlying4 _), (trodAll_cons_mk (Below.trod laidOut (by kernel_rfl) (of_decide_eq_true (by kernel_rfl)) k0 hg.out lt0) (trodAll_cons_mk (shut_int Try.underlying3 w1) (trodAll_cons_mk (shut_int Try.underlying3 w2) (trodAll_cons_mk (shut_int Try.underlying3 w3) trodAll_mk0)))), rfl, hg.out.frame _, fun h => by cases h⟩

theorem over : Rows.scanFitsRow.holds Try.pinned (OpenSpec.ofChange Rows.scanFitsSpec) :=
  OpenClaim.holds_of_wide 6 Try.f6 rfl rfl rfl rfl rfl rfl rfl ⟨rfl, rfl, rfl, rfl, rfl⟩ rfl rfl rfl rfl rfl (by kernel_rfl) Try.func6 (by kernel_rfl)
    (of_decide_eq_true (by kernel_rfl)) (by unfold Func.isWrapper; first | (rw [if_pos (by decide +kernel)]; kernel_rfl) | (rw [if_neg (by decide +kernel)]; exact ⟨rfl, rfl⟩))
    (fun os started H enc _ => lifted os started H enc)

/-- THE STATEMENT -/
theorem proved : Rows.ScanFitsSaid :=
  over
#print axioms proved
end Go.Proofs.Ytmmhgcemkbgajaa.scanFits
