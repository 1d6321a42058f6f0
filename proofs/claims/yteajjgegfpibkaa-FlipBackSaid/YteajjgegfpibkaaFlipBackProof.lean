/- Proved: for every input, the law FlipBack answers true at this commit, and its arguments read afterwards as before. No condition. -/
import Derived.Test.YteajjgegfpibkaaRows
import Derived.WalkKit
import Derived.ProofKit
import Derived.OpenShut
import Derived.Lib.SmallJoins
import Derived.ChangeOld
import Derived.Below
import Derived.Test.YteajjgegfpibkaaRef08b
import Derived.Test.YteajjgegfpibkaaCxsArg
namespace Go.Proofs.Yteajjgegfpibkaa.flipBack
open Go.ChangeShapes Go.WideShapes Go.ChangeAt Go.RowKit Go.Joins
set_option linter.unusedVariables false

theorem own : ownKnob Try.prog.godebug = none := by kernel_rfl
theorem laidOut : laidOutB Try.prog = true := by kernel_rfl


theorem len_m {w : World} {v : Value} {xs : List Gi} {m : Nat} (h : CxsAt w v xs) (hl : xs.length = m) : ∃ p cap, v = .slice p m cap := by subst hl; exact h.len
theorem same_m {v : Value} {w : World} {xs : List Int} {m : Nat} (h : IntsAt w v xs) (hx : xs ≠ []) (hl : xs.length = m) : ∃ b o cap, v = .slice (some ⟨b, o, none⟩) m cap ∧ b < w.heap.size ∧ ∀ j x, xs[j]? = some x → w.cell? ⟨b, o + j, none⟩ = some (.int .i64 x) := by
  subst hl
  obtain ⟨b, o, cap, hv, _, hb, hc⟩ := same_len h hx
  exact ⟨b, o, cap, hv, hb, hc⟩

set_option maxHeartbeats 4000000 in
set_option maxRecDepth 100000 in
theorem core_ok (p : Option Addr) (cap m L : Nat) (ys zs : List Gi) (hm : m ≤ cap) (l0 : 3 ≤ L) (l1 : L ≤ 6) (hL : m = 2 ^ L) (hz : zs.length = m) (hy : ys.length = m)
    (HF : Hid (∀ W, CxsAt W (.slice p m cap) ys → Calls Try.prog 16 #[.slice p m cap] W fun e w' => ∃ v', e = .returned (.tuple #[v', .int .i64 0]) ∧ CxsAt w' v' zs ∧ Gr W w'))
    (HZ : Hid (∀ v W, CxsAt W v zs → Calls Try.prog 16 #[v] W fun e w' => ∃ v', e = .returned (.tuple #[v', .int .i64 0]) ∧ CxsAt w' v' ys ∧ Gr W w'))
    (w : World) (hv : CxsAt w (.slice p m cap) ys) :
    Calls Try.prog 5 #[.slice p m cap] w fun e w' => e = .returned (.bool true) ∧ Gr w w' := by
  have HA := Lib.hid alive08_c
  have hcut := run_cut_cx p m cap m hm
  have HG := Lib.hid (log08_yes m L ⟨by omega, l1, by rw [hL]⟩)
  have HR := Lib.hid (row08_ok L (by omega) l1)
  have HH := Lib.hid (row08_ok (L - 1) (by omega) (by omega))
  rw [show ((L - 1 : Nat) : Int) = (L : Int) - 1 by omega] at HH
  have HLn := Lib.hid hL
  have h64 : m ≤ 64 := by rw [hL]; exact pow_le L l1
  have h4 : 8 ≤ m := by rw [hL]; exact Nat.pow_le_pow_right (n := 2) (by omega) l0
  have hrl : (rowL L).length = m := by rw [rowL_len, hL]
  have hhl : (rowL (L - 1)).length = 2 ^ (L - 1) := rowL_len (L - 1)
  have hm2 : m = 2 * 2 ^ (L - 1) := by rw [hL, ← Nat.pow_succ']; congr 1; omega
  have HRa := Lib.hid fun j (hj : j < m) => rowL_at L j (by rw [← hL]; exact hj)
  have HHa := Lib.hid fun j (hj : j < 2 ^ (L - 1)) => rowL_at (L - 1) j hj
  have HE := Lib.hid fun j (hj : j < 2 ^ (L - 1)) => fl_half (L - 1) j (by omega) hj
  rw [show L - 1 + 1 = L by omega] at HE
  have HFl := Lib.hid fun j => fl_lt L j
  rw [← hL] at HFl
  have HSl := Lib.hid fun j (hj : j ≤ m) => seen_lt L j l1 (by rw [← hL]; exact hj)
  have HSn := Lib.hid fun j (hj : j < m) => seen_new L j l1 (by rw [← hL]; exact hj)
  have hrne : rowL L ≠ [] := by intro e; rw [e] at hrl; simp at hrl; omega
  have hhne : rowL (L - 1) ≠ [] := by intro e; rw [e] at hhl; simp at hhl; omega
  obtain ⟨h, hh⟩ : ∃ h, 2 ^ (L - 1) = h := ⟨_, rfl⟩
  rw [hh] at hhl hm2 HHa HE
  clear hh hL
  have V := Lib.hid hv
  clear hv
  have HNE := Lib.hid (And.intro hrne hhne)
  have HM2 := Lib.hid hm2
  have HZy := Lib.hid (And.intro hz hy)
  have HRl := Lib.hid (And.intro hrl hhl)
  have Hhm : h < m := by omega
  clear hrne hhne hm2 hz hy hrl hhl
  go_enter Try.func5, Try.ntmps5
  go_wp2_with fail
  refine (HF.out _ V.out).mono ?_
  rintro e w1 ⟨v1, rfl, hI1, g1⟩
  obtain ⟨p1, c1, rfl⟩ := len_m hI1 HZy.out.1
  have J1 := Lib.hid hI1
  have V1 := Lib.hid (V.out.gr g1)
  clear hI1 HF V
  go_wp2_with fail
  refine (HZ.out _ _ J1.out).mono ?_
  rintro e w2 ⟨v2, rfl, hI2, g2⟩
  obtain ⟨p2, c2, rfl⟩ := len_m hI2 HZy.out.2
  have J2 := Lib.hid hI2
  have V2 := Lib.hid (V1.out.gr g2)
  have gg2 := g1.trans g2
  clear hI2 HZ V1 J1 g1 g2
  go_wp2_with (first
    | (go_at_call 8; refine (HG.out _).mono ?_; rintro e wz ⟨rfl, rfl⟩))
  refine (HR.out _).mono ?_
  rintro e w3 ⟨v3, rfl, hI3, g3⟩
  obtain ⟨b3, o3, cap3, rfl, hb3, hc3⟩ := same_m hI3 HNE.out.1 HRl.out.1
  have gg3 := gg2.trans g3
  have C3 := Lib.hid hc3
  clear hI3 hc3 gg2 HR
  go_wp2_with fail
  refine (HH.out _).mono ?_
  rintro e w4 ⟨v4, rfl, hI4, g4⟩
  obtain ⟨b4, o4, cap4, rfl, hb4, hc4⟩ := same_m hI4 HNE.out.2 HRl.out.2
  have gg4 := gg3.trans g4
  have HS := Lib.hid (same03_c _ _ ys w4 (J2.out.gr (g3.trans g4)) (V2.out.gr (g3.trans g4)))
  have C4 := Lib.hid hc4
  have G34 := Lib.hid g4
  clear hI4 hc4 gg3 g3 g4 HH
  go_wp2_with (first
    | (go_at_call 17; refine HS.out.mono ?_; rintro e w5 ⟨rfl, g5⟩)
    | (go_at_call 11; refine (HA.out _).mono ?_; rintro e wz ⟨rfl, rfl⟩))
  have g35 : Gr w3 wz := G34.out.trans g5
  have gw : Gr w wz := gg4.trans g5
  clear gg4 HS J2 V2 HA HG hcut HNE HZy HRl
  go_loopw [13, 14, 15, 85] (fun s _ _ i wr => ∃ j : Nat, j ≤ m ∧ i = .int .i64 j ∧ s = .int .u64 ((seen L j : Nat) : Int) ∧ Gr wz wr)
    (fun _ _ _ i _ => m - (intOf i).toNat)
  case atStart => exact ⟨0, by omega, rfl, rfl, Gr.refl _⟩
  case round =>
    obtain ⟨j, hj, rfl, rfl, hg⟩ := hrel
    by_cases hlt : j < m
    · have c3 := ((g35.trans hg).cell (p := ⟨b3, o3 + j, none⟩) hb3).trans (C3.out j _ (HRa.out j hlt))
      have hf := HFl.out j
      have hs0 := HSl.out j (by omega)
      have hs1 := HSl.out (j + 1) (by omega)
      have hn := HSn.out j hlt
      have hS : seen L (j + 1) = seen L j ||| 1 <<< fl L j := rfl
      have hb3' : b3 < wr.heap.size := Nat.lt_of_lt_of_le hb3 (g35.trans hg).size
      by_cases hjh : j < h
      · have c4 := ((g5.trans hg).cell (p := ⟨b4, o4 + j, none⟩) hb4).trans (C4.out j _ (HHa.out j hjh))
        have he := HE.out j hjh
        have hb4' : b4 < wr.heap.size := Nat.lt_of_lt_of_le hb4 (g5.trans hg).size
        obtain ⟨s1, hS1⟩ : ∃ s1, seen L (j + 1) = s1 := ⟨_, rfl⟩
        have HS1 := Lib.hid hS1
        rw [hS1] at hS hs1
        clear hS1
        generalize seen L j = s at *
        generalize fl L j = f at *
        generalize fl (L - 1) j = f2 at *
        have a1 := seen_and s f hs0 hn
        have a2 := seen_or s f hs0 (by omega)
        rw [← hS] at a2
        clear hs0 hs1 hn hS HRa HHa HE HFl HSl HSn
        have e1 : (f : Int).tmod 2 = 0 := by rw [Int.tmod_eq_emod_of_nonneg (by omega)]; omega
        have e2 : (f : Int).tdiv 2 = f2 := by rw [Int.tdiv_eq_ediv_of_nonneg (by omega)]; omega
        have h1 : (f : Int) < m := by omega
        have h2 : (j : Int) < h := by omega
        have h3 : (j : Int) < m := by omega
        have e3 : wrap64 (f2 : Int) = f2 := IntWalk.wrap64_in _ (by omega)
        clear he
        go_wp2_with fail
        go_roundw
        case rel => exact ⟨j + 1, by omega, by go_num, by rw [HS1.out], hg⟩
        case measure => simp [intOf]; omega
      · obtain ⟨s1, hS1⟩ : ∃ s1, seen L (j + 1) = s1 := ⟨_, rfl⟩
        have HS1 := Lib.hid hS1
        rw [hS1] at hS hs1
        clear hS1
        generalize seen L j = s at *
        generalize fl L j = f at *
        have a1 := seen_and s f hs0 hn
        have a2 := seen_or s f hs0 (by omega)
        rw [← hS] at a2
        clear hs0 hs1 hn hS HRa HHa HE HFl HSl HSn
        have h1 : (f : Int) < m := by omega
        have h2 : (h : Int) ≤ j := by omega
        have h3 : (j : Int) < m := by omega
        go_wp2_with fail
        go_roundw
        case rel => exact ⟨j + 1, by omega, by go_num, by rw [HS1.out], hg⟩
        case measure => simp [intOf]; omega
    · have hje : j = m := by omega
      have h3 : (m : Int) ≤ j := by omega
      clear HRa HHa HE HFl HSl HSn
      go_wp2_with fail
      go_ret
      exact ⟨rfl, gw.trans hg⟩

set_option maxHeartbeats 4000000 in
set_option maxRecDepth 100000 in
theorem core_two (p : Option Addr) (cap : Nat) (ys zs : List Gi) (hm : 4 ≤ cap) (hz : zs.length = 4) (hy : ys.length = 4)
    (HF : Hid (∀ W, CxsAt W (.slice p 4 cap) ys → Calls Try.prog 16 #[.slice p 4 cap] W fun e w' => ∃ v', e = .returned (.tuple #[v', .int .i64 0]) ∧ CxsAt w' v' zs ∧ Gr W w'))
    (HZ : Hid (∀ v W, CxsAt W v zs → Calls Try.prog 16 #[v] W fun e w' => ∃ v', e = .returned (.tuple #[v', .int .i64 0]) ∧ CxsAt w' v' ys ∧ Gr W w'))
    (w : World) (hv : CxsAt w (.slice p 4 cap) ys) :
    Calls Try.prog 5 #[.slice p 4 cap] w fun e w' => e = .returned (.bool true) ∧ Gr w w' := by
  have HA := Lib.hid alive08_c
  have hcut := run_cut_cx p 4 cap 4 hm
  have HG := Lib.hid (log08_yes 4 2 ⟨by omega, by omega, rfl⟩)
  have HR := Lib.hid (row08_ok 2 (by omega) (by omega))
  have HH := Lib.hid (row08_bad 1 (by omega))
  have hrl : (rowL 2).length = 4 := rowL_len 2
  have HRa := Lib.hid fun j (hj : j < 4) => rowL_at 2 j hj
  have HFl := Lib.hid fun j => fl_lt 2 j
  have HSl := Lib.hid fun j (hj : j ≤ 4) => seen_lt 2 j (by omega) hj
  have HSn := Lib.hid fun j (hj : j < 4) => seen_new 2 j (by omega) hj
  have hrne : rowL 2 ≠ [] := by intro e; rw [e] at hrl; simp at hrl
  have V := Lib.hid hv
  clear hv
  have HNE := Lib.hid hrne
  have HZy := Lib.hid (And.intro hz hy)
  have HRl := Lib.hid hrl
  clear hrne hz hy hrl
  go_enter Try.func5, Try.ntmps5
  go_wp2_with fail
  refine (HF.out _ V.out).mono ?_
  rintro e w1 ⟨v1, rfl, hI1, g1⟩
  obtain ⟨p1, c1, rfl⟩ := len_m hI1 HZy.out.1
  have J1 := Lib.hid hI1
  have V1 := Lib.hid (V.out.gr g1)
  clear hI1 HF V
  go_wp2_with fail
  refine (HZ.out _ _ J1.out).mono ?_
  rintro e w2 ⟨v2, rfl, hI2, g2⟩
  obtain ⟨p2, c2, rfl⟩ := len_m hI2 HZy.out.2
  have J2 := Lib.hid hI2
  have V2 := Lib.hid (V1.out.gr g2)
  have gg2 := g1.trans g2
  clear hI2 HZ V1 J1 g1 g2
  go_wp2_with (first
    | (go_at_call 8; refine (HG.out _).mono ?_; rintro e wz ⟨rfl, rfl⟩))
  refine (HR.out _).mono ?_
  rintro e w3 ⟨v3, rfl, hI3, g3⟩
  obtain ⟨b3, o3, cap3, rfl, hb3, hc3⟩ := same_m hI3 HNE.out HRl.out
  have gg3 := gg2.trans g3
  have C3 := Lib.hid hc3
  clear hI3 hc3 gg2
  have HS := Lib.hid (same03_c _ _ ys w3 (J2.out.gr g3) (V2.out.gr g3))
  go_wp2_with (first
    | (go_at_call 7; refine (HH.out _).mono ?_; rintro e wy ⟨rfl, rfl⟩)
    | (go_at_call 17; refine HS.out.mono ?_; rintro e w5 ⟨rfl, g5⟩)
    | (go_at_call 11; refine (HA.out _).mono ?_; rintro e wz ⟨rfl, rfl⟩))
  have gw : Gr w wz := gg3.trans g5
  clear gg3 HS J2 V2 HA HG hcut HNE HZy HRl HH HR
  go_loopw [13, 14, 15, 85] (fun s _ _ i wr => ∃ j : Nat, j ≤ 4 ∧ i = .int .i64 j ∧ s = .int .u64 ((seen 2 j : Nat) : Int) ∧ Gr wz wr)
    (fun _ _ _ i _ => 4 - (intOf i).toNat)
  case atStart => exact ⟨0, by omega, rfl, rfl, Gr.refl _⟩
  case round =>
    obtain ⟨j, hj, rfl, rfl, hg⟩ := hrel
    by_cases hlt : j < 4
    · have c3 := ((g5.trans hg).cell (p := ⟨b3, o3 + j, none⟩) hb3).trans (C3.out j _ (HRa.out j hlt))
      have hf := HFl.out j
      have hs0 := HSl.out j (by omega)
      have hs1 := HSl.out (j + 1) (by omega)
      have hn := HSn.out j hlt
      have hS : seen 2 (j + 1) = seen 2 j ||| 1 <<< fl 2 j := rfl
      have hb3' : b3 < wr.heap.size := Nat.lt_of_lt_of_le hb3 (g5.trans hg).size
      obtain ⟨s1, hS1⟩ : ∃ s1, seen 2 (j + 1) = s1 := ⟨_, rfl⟩
      have HS1 := Lib.hid hS1
      rw [hS1] at hS hs1
      clear hS1
      generalize seen 2 j = s at *
      generalize fl 2 j = f at *
      have a1 := seen_and s f hs0 hn
      have a2 := seen_or s f hs0 (by omega)
      rw [← hS] at a2
      clear hs0 hs1 hn hS HRa HFl HSl HSn
      have h1 : (f : Int) < 4 := by omega
      have h3 : (j : Int) < 4 := by omega
      go_wp2_with fail
      go_roundw
      case rel => exact ⟨j + 1, by omega, by go_num, by rw [HS1.out], hg⟩
      case measure => simp [intOf]; omega
    · have hje : j = 4 := by omega
      have h3 : (4 : Int) ≤ j := by omega
      clear HRa HFl HSl HSn
      go_wp2_with fail
      go_ret
      exact ⟨rfl, gw.trans hg⟩

set_option maxHeartbeats 4000000 in
set_option maxRecDepth 100000 in
theorem core_bad (p : Option Addr) (len cap m : Nat) (hm : m ≤ cap) (hmin : (if (70 : Int) < (len : Int) then 70 else (len : Int)) = (m : Int))
    (h4 : m ≠ 4) (h8 : m ≠ 8) (h16 : m ≠ 16) (h32 : m ≠ 32) (h64 : m ≠ 64) (w : World) :
    Calls Try.prog 5 #[.slice p len cap] w fun e w' => e = .returned (.bool true) ∧ Gr w w' := by
  have HA := Lib.hid alive08_c
  have hcut := run_cut_cx p len cap m hm
  have HF := Lib.hid (flip08_bad p m cap h4 h8 h16 h32 h64)
  have HZ := Lib.hid (flip08_bad none 0 0 (by omega) (by omega) (by omega) (by omega) (by omega))
  clear h4 h8 h16 h32 h64
  go_enter Try.func5, Try.ntmps5
  go_wp2_with (first
    | (go_at_call 16; with_reducible refine (HF.out _).mono ?_; rintro e wz ⟨rfl, rfl⟩)
    | (go_at_call 16; with_reducible refine (HZ.out _).mono ?_; rintro e wz ⟨rfl, rfl⟩)
    | (go_at_call 11; refine (HA.out _).mono ?_; rintro e wz ⟨rfl, rfl⟩))
  go_ret
  exact ⟨rfl, Gr.refl _⟩


set_option maxHeartbeats 4000000 in
set_option maxRecDepth 100000 in
theorem walk (w : World) (sp0 : Option Addr) (sc0 : Nat) (xs0 : List Gi) (wx0 : ∀ g ∈ xs0, (Lit.int .i64 g.re).wf = true ∧ (Lit.int .i64 g.im).wf = true) (hx0 : CxsAt w (.slice sp0 xs0.length sc0) xs0) :
    Calls Try.prog 5 #[.slice sp0 xs0.length sc0] w fun e w' => e = .returned (.bool true) ∧ Gr w w' := by
  obtain ⟨m, hm, hmin⟩ : ∃ m : Nat, m ≤ xs0.length ∧ (if (70 : Int) < (xs0.length : Int) then 70 else (xs0.length : Int)) = (m : Int) := by
    by_cases h : (70 : Int) < (xs0.length : Int)
    · exact ⟨70, by omega, by rw [if_pos h]; rfl⟩
    · exact ⟨xs0.length, Nat.le_refl _, by rw [if_neg h]⟩
  obtain ⟨hc, hl, hcap, _⟩ := hx0.cut m hm
  by_cases h : ∃ L, IsLog (m : Int) L
  · obtain ⟨L, h⟩ := h
    have hmL : m = 2 ^ L := Int.ofNat.inj h.2.2
    have h64 : m ≤ 64 := by rw [hmL]; exact pow_le L h.2.1
    have hlen : xs0.length = m := by split at hmin <;> omega
    generalize xs0.take m = ys at *
    rw [hlen]
    clear hx0 wx0 hmin hm hlen
    have hz : (flipL L ys).length = m := by rw [flipL_len, hmL]
    have hbk := flipL_flipL L ys h.2.1 (by rw [hl, hmL])
    have HF := Lib.hid fun W hW => flip08_ok (.slice sp0 m sc0) ys L h.1 h.2.1 (by rw [hl, hmL]) W hW
    have HZ := Lib.hid fun v W hW => flip08_ok v (flipL L ys) L h.1 h.2.1 (by rw [hz, hmL]) W hW
    rw [hbk] at HZ
    by_cases l0 : 3 ≤ L
    · exact core_ok sp0 sc0 m L ys _ hcap l0 h.2.1 hmL hz hl HF HZ w hc
    · obtain rfl : L = 2 := by have := h.1; omega
      obtain rfl : m = 4 := hmL
      exact core_two sp0 sc0 ys _ hcap hz hl HF HZ w hc
  · have h4 : m ≠ 4 := fun e => h ⟨2, by omega, by omega, by rw [e]; try rfl⟩
    have h8 : m ≠ 8 := fun e => h ⟨3, by omega, by omega, by rw [e]; try rfl⟩
    have h16 : m ≠ 16 := fun e => h ⟨4, by omega, by omega, by rw [e]; try rfl⟩
    have h32 : m ≠ 32 := fun e => h ⟨5, by omega, by omega, by rw [e]; try rfl⟩
    have h64 : m ≠ 64 := fun e => h ⟨6, by omega, by omega, by rw [e]; try rfl⟩
    exact core_bad sp0 xs0.length sc0 m hcap hmin h4 h8 h16 h32 h64 w

set_option maxHeartbeats 4000000 in
set_option maxRecDepth 100000 in
theorem lifted (os : Os) (started : os.Started) (H : Type) (enc : TypeId × Value → H) :
    ReturnsInHanded {} Try.checked os 5 .any (Rows.flipBackSpec.pre6 enc Try.prog Try.f5 Rows.flipBackRow.domain false) (Rows.flipBackSpec.post enc Try.prog Try.f5 false true false false) := by
  refine returnsInHanded_of_change (C := Try.checked) own started (by kernel_rfl) Try.func5
    (ChangeSpec.witness6 (enc := enc) (C := Try.checked) false ⟨#[], #[.slice none 0 0], []⟩ 8 (by kernel_rfl) (by kernel_rfl) (by kernel_rfl) (by kernel_rfl)) ?_
  intro W base args ds gs before hval0 hW hcnd _
  have hval : ∀ (j : Nat) t v, Try.f5.params[j]? = some t → args[j]? = some v → Value.okWide Try.prog W .any base t v := hval0
  have hW' := hW
  obtain ⟨p, q, hA0, hV, rfl, hfz, hnd⟩ := hW
  have hA : DataW.TrodAll enc Try.prog W 0 (fun _ => true) true Try.f5.params.toList args.toList ds p := hA0
  rw [Try.params5] at hA hval
  obtain ⟨v0, vs0, d0, ds0, p0, q0, hargs, rfl, rfl, h0, r0⟩ := trodAll_cons hA
  obtain ⟨rfl, rfl, rfl⟩ := trodAll_nil r0
  obtain rfl : args = #[v0] := by cases args; simp_all
  obtain ⟨rfl, rfl⟩ := trodVars_none hV
  obtain ⟨sp0, sn0, sc0, rfl⟩ := okWide_slice Try.underlying37 (hval 0 37 v0 rfl rfl)
  have k0 := h0
  have lt0 : ∀ x ∈ p0, x.block < W.heap.size := by obtain ⟨m, hm⟩ := k0; exact DataW.trod_lt m _ _ _ hm
  obtain ⟨xs0, rfl, hx0, wx0⟩ : ∃ xs : List Gi, sn0 = xs.length ∧ CxsAt W (.slice sp0 sn0 sc0) xs ∧ ∀ g ∈ xs, (Lit.int .i64 g.re).wf = true ∧ (Lit.int .i64 g.im).wf = true := by
    obtain ⟨fuel, hf⟩ := h0
    exact cxs_open hf
  clear hA0 hval0
  refine (walk W sp0 sc0 xs0 wx0 hx0).mono fun e W' ⟨he, hg⟩ => ?_
  subst he
  exact ⟨_, rfl, _, _, _, [], _, [], hW', trodAll_mk1 (shut_bool Try.underlying4 _), (trodAll_cons_mk (Below.trod laidOut (by kernel_rfl) (of_decide_eq_true (by kernel_rfl)) k0 hg.out lt0) trodAll_mk0), rfl, hg.out.frame _, fun h => by cases h⟩

theorem over : Rows.flipBackRow.holds Try.pinned (OpenSpec.ofChange Rows.flipBackSpec) :=
  OpenClaim.holds_of_wide 5 Try.f5 rfl rfl rfl rfl rfl rfl rfl ⟨rfl, rfl, rfl, rfl, rfl⟩ rfl rfl rfl rfl rfl (by kernel_rfl) Try.func5 (by kernel_rfl)
    (of_decide_eq_true (by kernel_rfl)) (by unfold Func.isWrapper; first | (rw [if_pos (by decide +kernel)]; kernel_rfl) | (rw [if_neg (by decide +kernel)]; exact ⟨rfl, rfl⟩))
    (fun os started H enc _ => lifted os started H enc)

/-- THE STATEMENT -/
theorem proved : Rows.FlipBackSaid :=
  over
#print axioms proved
end Go.Proofs.Yteajjgegfpibkaa.flipBack
