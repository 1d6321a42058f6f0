/- ScanShifts, from what package scan's functions answer. -/
import Derived.Test.YtmmhgcemkbgajaaScanCore
namespace Go.Proofs.Ytmmhgcemkbgajaa
open Go.ChangeShapes Go.WideShapes Go.ChangeAt Go.RowKit
set_option linter.unusedVariables false

theorem scanShifts_a (p : Option Addr) (len cap m : Nat) (s mo : Int) (xs : List Gi) (hm : m ≤ cap) (hmin : (if (70 : Int) < (len : Int) then 70 else (len : Int)) = (m : Int)) (h : s < -62 ∨ 62 < s ∨ mo < 0 ∨ 2 < mo)
    (HS : Hid (∀ W, CxsAt W (.slice p m cap) xs → Calls Try.prog 17 #[.slice p m cap, .int .i64 s, .int .i64 mo] W fun e w' => e = .returned (.tuple #[.slice none 0 0, .int .i64 1]) ∧ Gr W w'))
    (AL : Hid (∀ W, Calls Try.prog 9 #[] W fun e w' => e = .returned (.bool true) ∧ Gr W w'))
    (w : World) (hv : CxsAt w (.slice p m cap) xs) :
    Calls Try.prog 5 #[.slice p len cap, .int .i64 s, .int .i64 mo] w fun e w' => e = .returned (.bool true) ∧ Gr w w' := by
  have hcut := run_cut_cx p len cap m hm
  have V := Lib.hid hv
  clear hv
  have hc : s < -62 ∨ (-62 ≤ s ∧ 62 < s) ∨ (-62 ≤ s ∧ s ≤ 62 ∧ mo < 0) ∨ (-62 ≤ s ∧ s ≤ 62 ∧ 0 ≤ mo ∧ 2 < mo) := by omega
  clear h
  rcases hc with h | ⟨h1, h2⟩ | ⟨h1, h2, h3⟩ | ⟨h1, h2, h3, h4⟩
  all_goals
    go_enter Try.func5, Try.ntmps5
    go_wp2_with fail
    refine (HS.out _ V.out).mono ?_
    rintro e w1 ⟨rfl, g1⟩
    go_wp2_with fail
    refine (AL.out _).mono ?_
    rintro e w3 ⟨rfl, g3⟩
    go_wp2_with fail
    go_ret
    exact ⟨rfl, g1.trans g3⟩

theorem scanShifts_r (p : Option Addr) (len cap m : Nat) (s mo : Int) (xs : List Gi) (hm : m ≤ cap) (hmin : (if (70 : Int) < (len : Int) then 70 else (len : Int)) = (m : Int)) (s0 : -62 ≤ s) (s1 : s < 0) (m0 : 0 ≤ mo) (m1 : mo ≤ 2) (hn : allIn (2 ^ (62 + s).toNat) xs = false)
    (HS : Hid (∀ W, CxsAt W (.slice p m cap) xs → Calls Try.prog 17 #[.slice p m cap, .int .i64 s, .int .i64 mo] W fun e w' => e = .returned (.tuple #[.slice none 0 0, .int .i64 2]) ∧ Gr W w'))
    (AL : Hid (∀ W, Calls Try.prog 9 #[] W fun e w' => e = .returned (.bool true) ∧ Gr W w'))
    (w : World) (hv : CxsAt w (.slice p m cap) xs) :
    Calls Try.prog 5 #[.slice p len cap, .int .i64 s, .int .i64 mo] w fun e w' => e = .returned (.bool true) ∧ Gr w w' := by
  have hcut := run_cut_cx p len cap m hm
  have HU := Lib.hid fun W (h : CxsAt W (.slice p m cap) xs) => ups09_c _ xs (-s) _ (by omega) (by omega) rfl W h
  rw [show 62 - -s = 62 + s by omega, hn] at HU
  have V := Lib.hid hv
  have hw : wrap64 (-s) = -s := IntWalk.wrap64_in _ (by omega)
  have s1' : s ≤ 62 := by omega
  clear hv hn
  go_enter Try.func5, Try.ntmps5
  go_wp2_with fail
  refine (HS.out _ V.out).mono ?_
  rintro e w1 ⟨rfl, g1⟩
  have V1 := Lib.hid (V.out.gr g1)
  go_wp2_with fail
  refine (HU.out _ V1.out).mono ?_
  rintro e w2 ⟨rfl, g2⟩
  go_wp2_with fail
  refine (AL.out _).mono ?_
  rintro e w3 ⟨rfl, g3⟩
  go_wp2_with fail
  go_ret
  exact ⟨rfl, (g1.trans g2).trans g3⟩

theorem scanShifts_t (p : Option Addr) (len cap m : Nat) (s mo : Int) (xs : List Gi) (hm : m ≤ cap) (hmin : (if (70 : Int) < (len : Int) then 70 else (len : Int)) = (m : Int)) (s0 : -62 ≤ s) (s1 : s ≤ 62) (m0 : 0 ≤ mo) (m1 : mo ≤ 2)
    (hn : s < 0 → allIn (2 ^ (62 + s).toNat) xs = true) (hb : ∀ a ∈ xs, (Lit.int .i64 a.re).wf = true ∧ (Lit.int .i64 a.im).wf = true) (hl : xs.length ≤ 70)
    (HS : Hid (∀ W, CxsAt W (.slice p m cap) xs → Calls Try.prog 17 #[.slice p m cap, .int .i64 s, .int .i64 mo] W fun e w' => ∃ v', e = .returned (.tuple #[v', .int .i64 0]) ∧ CxsAt w' v' (xs.map (shG s mo)) ∧ Gr W w'))
    (AL : Hid (∀ W, Calls Try.prog 9 #[] W fun e w' => e = .returned (.bool true) ∧ Gr W w'))
    (w : World) (hv : CxsAt w (.slice p m cap) xs) :
    Calls Try.prog 5 #[.slice p len cap, .int .i64 s, .int .i64 mo] w fun e w' => e = .returned (.bool true) ∧ Gr w w' := by
  have hcut := run_cut_cx p len cap m hm
  have HR := Lib.hid fun W (h : CxsAt W (.slice p m cap) xs) => shifted09_c _ xs s mo s0 s1 m0 m1 hb hn (by omega) W h
  have HU := Lib.hid fun W (h0 : s < 0) (h : CxsAt W (.slice p m cap) xs) => ups09_c _ xs (-s) _ (by omega) (by omega) rfl W h
  have V := Lib.hid hv
  have HN := Lib.hid hn
  clear hv hn hb hl
  generalize xs.map (shG s mo) = ys at *
  by_cases hs : s < 0
  · have HU1 := Lib.hid fun W => HU.out W hs
    rw [show 62 - -s = 62 + s by omega, HN.out hs] at HU1
    have hw : wrap64 (-s) = -s := IntWalk.wrap64_in _ (by omega)
    clear HU HN
    go_enter Try.func5, Try.ntmps5
    go_wp2_with fail
    refine (HS.out _ V.out).mono ?_
    rintro e w1 ⟨v1, rfl, hI1, g1⟩
    obtain ⟨p1, c1, rfl⟩ := hI1.len
    have J1 := Lib.hid hI1
    have V1 := Lib.hid (V.out.gr g1)
    clear hI1
    go_wp2_with fail
    refine (HU1.out _ V1.out).mono ?_
    rintro e w2 ⟨rfl, g2⟩
    go_wp2_with fail
    refine (AL.out _).mono ?_
    rintro e w3 ⟨rfl, g3⟩
    have g23 := g2.trans g3
    have V3 := Lib.hid (V1.out.gr g23)
    go_wp2_with fail
    refine (HR.out _ V3.out).mono ?_
    rintro e w4 ⟨v4, rfl, hI4, g4⟩
    have HS4 := Lib.hid (same03_c _ _ ys w4 (J1.out.gr (g23.trans g4)) hI4)
    go_wp2_with fail
    refine HS4.out.mono ?_
    rintro e w5 ⟨rfl, g5⟩
    go_wp2_with fail
    go_ret
    exact ⟨rfl, ((g1.trans g23).trans g4).trans g5⟩
  · have hs0 : 0 ≤ s := by omega
    clear HU HN s0 hs
    go_enter Try.func5, Try.ntmps5
    go_wp2_with fail
    refine (HS.out _ V.out).mono ?_
    rintro e w1 ⟨v1, rfl, hI1, g1⟩
    obtain ⟨p1, c1, rfl⟩ := hI1.len
    have J1 := Lib.hid hI1
    have V1 := Lib.hid (V.out.gr g1)
    clear hI1
    go_wp2_with fail
    refine (AL.out _).mono ?_
    rintro e w3 ⟨rfl, g3⟩
    have V3 := Lib.hid (V1.out.gr g3)
    go_wp2_with fail
    refine (HR.out _ V3.out).mono ?_
    rintro e w4 ⟨v4, rfl, hI4, g4⟩
    have HS4 := Lib.hid (same03_c _ _ ys w4 (J1.out.gr (g3.trans g4)) hI4)
    go_wp2_with fail
    refine HS4.out.mono ?_
    rintro e w5 ⟨rfl, g5⟩
    go_wp2_with fail
    go_ret
    exact ⟨rfl, ((g1.trans g3).trans g4).trans g5⟩

end Go.Proofs.Ytmmhgcemkbgajaa
