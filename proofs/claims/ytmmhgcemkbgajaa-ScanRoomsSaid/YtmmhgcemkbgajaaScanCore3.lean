/- ScanFits, from what package scan's functions answer. -/
import Derived.Test.YtmmhgcemkbgajaaScanCore
import Derived.Test.YtmmhgcemkbgajaaSat
namespace Go.Proofs.Ytmmhgcemkbgajaa
open Go.ChangeShapes Go.WideShapes Go.ChangeAt Go.RowKit
set_option linter.unusedVariables false

set_option maxHeartbeats 1000000 in set_option maxRecDepth 100000 in
theorem scanFits_15a (p : Option Addr) (len cap n t2 t4 n2 n4 : Nat) (a1 a2 a3 r r2 f q q2 mo u u1 u2 s m t X2 X4 : Int) (xs ys : List Gi) (Q : Prop) (hm : n ≤ cap) (hmin : (if (70 : Int) < (len : Int) then 70 else (len : Int)) = (n : Int))
    (h1 : a2.tmod 2 = r) (h2 : wrap64 (r + 2) = r2) (h3 : r2.tmod 2 = f) (k1 : a3.tmod 3 = q) (k2 : wrap64 (q + 3) = q2) (k3 : q2.tmod 3 = mo)
    (l1 : a1.tmod 32769 = u) (l2 : wrap64 (u + 32768) = u1) (l3 : wrap64 (u1 + 1) = u2) (l4 : u2.tmod 32769 = m)
    (m0 : decide (0 < m) = true) (s0 : decide ((0 : Int) < s) = true) (e2 : decide (t ≤ 8192) = false) (e3 : decide (16384 < t) = false) (s1 : 0 ≤ s) (e1 : IntKind.i64.wrap (m * 2 ^ min s.toNat 64) = t) (b2 : decide ((2 : Int) < t2) = false) (b4 : decide ((3 : Int) < t4) = false)
    (z14 : IntKind.i64.wrap 14 = 14) (z13 : IntKind.i64.wrap 13 = 13) (z12 : IntKind.i64.wrap 12 = 12) (z16384 : IntKind.i64.wrap 16384 = 16384) (z8192 : IntKind.i64.wrap 8192 = 8192)
    (v2 : IntKind.i64.wrap (13 + (t2 : Int)) = n2) (v4 : IntKind.i64.wrap (12 + (t4 : Int)) = n4)
    (x2 : IntKind.i64.wrap (2 ^ min n2 64) = X2) (x4 : IntKind.i64.wrap (2 ^ min n4 64) = X4) (c2 : decide (X2 < m) = false) (c4 : decide (X4 < m) = false) (hw : wrap64 (-s) = -s)
    (HB : Hid (∀ W, Calls Try.prog 21 #[.int .i64 f] W fun e w' => e = .returned (.tuple #[.int .i64 15, .int .i64 0]) ∧ w' = W))
    (HR : Hid (∀ W, Calls Try.prog 11 #[.int .i64 m, .int .i64 f] W fun e w' => e = .returned (.tuple #[.int .i64 s, .int .i64 0]) ∧ Gr W w'))
    (HP : Hid (∀ W, Calls Try.prog 12 #[.int .i64 2, .int .i64 m, .int .i64 f] W fun e w' => e = .returned (.tuple #[.int .i64 t2, .int .i64 0]) ∧ Gr W w'))
    (HQ : Hid (∀ W, Calls Try.prog 12 #[.int .i64 4, .int .i64 m, .int .i64 f] W fun e w' => e = .returned (.tuple #[.int .i64 t4, .int .i64 0]) ∧ Gr W w'))
    (AL : Hid (∀ W, Calls Try.prog 9 #[] W fun e w' => e = .returned (.bool true) ∧ Gr W w'))
    (HS : Hid (∀ W, CxsAt W (.slice p n cap) xs → Calls Try.prog 17 #[.slice p n cap, .int .i64 (-s), .int .i64 mo] W fun e w' => (e = .returned (.tuple #[.slice none 0 0, .int .i64 2]) ∧ Gr W w') ∨ (∃ v', e = .returned (.tuple #[v', .int .i64 0]) ∧ CxsAt w' v' ys ∧ Q ∧ Gr W w')))
    (HT : Hid (Q → ∀ v W, CxsAt W v ys → Calls Try.prog 17 #[v, .int .i64 s, .int .i64 mo] W fun e w' => ∃ v', e = .returned (.tuple #[v', .int .i64 0]) ∧ CxsAt w' v' xs ∧ Gr W w'))
    (w : World) (hv : CxsAt w (.slice p n cap) xs) :
    Calls Try.prog 6 #[.slice p len cap, .int .i64 a1, .int .i64 a2, .int .i64 a3] w fun e w' => e = .returned (.bool true) ∧ Gr w w' := by
  have hcut := run_cut_cx p len cap n hm
  have V := Lib.hid hv
  clear hv
  go_enter Try.func6, Try.ntmps6
  go_wp2_with (first | (go_at_call 21; refine (HB.out _).mono ?_; rintro e wz ⟨rfl, hwz⟩; subst wz))
  go_quiet (fail)
  go_wp2_with fail
  refine (HR.out _).mono ?_
  rintro e w1 ⟨rfl, g1⟩
  have gg1 : Gr w w1 := ((Gr.refl w).drewN _).trans g1
  go_wp2_with fail
  refine (HP.out _).mono ?_
  rintro e w2 ⟨rfl, g2⟩
  go_wp2_with fail
  refine (HQ.out _).mono ?_
  rintro e w3 ⟨rfl, g3⟩
  go_wp2_with fail
  refine (AL.out _).mono ?_
  rintro e w4 ⟨rfl, g4⟩
  have gg4 : Gr w w4 := ((gg1.trans g2).trans g3).trans g4
  have V4 := Lib.hid (V.out.gr gg4)
  clear V gg1 g1 g2 g3 g4 HR HP HQ AL HB l1 l2 l3 l4 h1 h2 h3 k1 k2 k3 hmin hcut
  go_wp2_with fail
  go_quiet (fail)
  go_wp2_with fail
  with_reducible refine (HS.out _ (V4.out.gr ((Gr.refl w4).drewN _))).mono ?_
  rintro e w5 (⟨rfl, g5⟩ | ⟨v5, rfl, hI5, hQ, g5⟩)
  · go_wp2_with fail
    go_ret
    exact ⟨rfl, (gg4.trans ((Gr.refl w4).drewN _)).trans g5⟩
  · obtain ⟨p5, q5, rfl⟩ := hI5.len
    have J5 := Lib.hid hI5
    have V5 := Lib.hid (V4.out.gr (((Gr.refl w4).drewN _).trans g5))
    clear hI5
    go_wp2_with fail
    refine (HT.out hQ _ _ J5.out).mono ?_
    rintro e w6 ⟨v6, rfl, hI6, g6⟩
    obtain ⟨p6, q6, rfl⟩ := hI6.len
    have J := Lib.hid (same03_c _ _ xs w6 hI6 (by have := V5.out.gr g6; exact this))
    clear hI6
    go_wp2_with fail
    refine J.out.mono ?_
    rintro e w7 ⟨rfl, g7⟩
    go_wp2_with fail
    go_ret
    exact ⟨rfl, (((gg4.trans ((Gr.refl w4).drewN _)).trans g5).trans g6).trans g7⟩

set_option maxHeartbeats 1000000 in set_option maxRecDepth 100000 in
theorem scanFits_15b (p : Option Addr) (len cap n t2 t4 n2 n4 : Nat) (a1 a2 a3 r r2 f q q2 mo u u1 u2 s m t X2 X4 : Int) (xs ys : List Gi) (Q : Prop) (hm : n ≤ cap) (hmin : (if (70 : Int) < (len : Int) then 70 else (len : Int)) = (n : Int))
    (h1 : a2.tmod 2 = r) (h2 : wrap64 (r + 2) = r2) (h3 : r2.tmod 2 = f) (k1 : a3.tmod 3 = q) (k2 : wrap64 (q + 3) = q2) (k3 : q2.tmod 3 = mo)
    (l1 : a1.tmod 32769 = u) (l2 : wrap64 (u + 32768) = u1) (l3 : wrap64 (u1 + 1) = u2) (l4 : u2.tmod 32769 = m)
    (m0 : decide (0 < m) = true) (s0 : decide ((0 : Int) < s) = false) (e2 : decide (t ≤ 8192) = false) (s1 : 0 ≤ s) (e1 : IntKind.i64.wrap (m * 2 ^ min s.toNat 64) = t) (b2 : decide ((2 : Int) < t2) = false) (b4 : decide ((3 : Int) < t4) = false)
    (z14 : IntKind.i64.wrap 14 = 14) (z13 : IntKind.i64.wrap 13 = 13) (z12 : IntKind.i64.wrap 12 = 12) (z16384 : IntKind.i64.wrap 16384 = 16384) (z8192 : IntKind.i64.wrap 8192 = 8192)
    (v2 : IntKind.i64.wrap (13 + (t2 : Int)) = n2) (v4 : IntKind.i64.wrap (12 + (t4 : Int)) = n4)
    (x2 : IntKind.i64.wrap (2 ^ min n2 64) = X2) (x4 : IntKind.i64.wrap (2 ^ min n4 64) = X4) (c2 : decide (X2 < m) = false) (c4 : decide (X4 < m) = false) (hw : wrap64 (-s) = -s)
    (HB : Hid (∀ W, Calls Try.prog 21 #[.int .i64 f] W fun e w' => e = .returned (.tuple #[.int .i64 15, .int .i64 0]) ∧ w' = W))
    (HR : Hid (∀ W, Calls Try.prog 11 #[.int .i64 m, .int .i64 f] W fun e w' => e = .returned (.tuple #[.int .i64 s, .int .i64 0]) ∧ Gr W w'))
    (HP : Hid (∀ W, Calls Try.prog 12 #[.int .i64 2, .int .i64 m, .int .i64 f] W fun e w' => e = .returned (.tuple #[.int .i64 t2, .int .i64 0]) ∧ Gr W w'))
    (HQ : Hid (∀ W, Calls Try.prog 12 #[.int .i64 4, .int .i64 m, .int .i64 f] W fun e w' => e = .returned (.tuple #[.int .i64 t4, .int .i64 0]) ∧ Gr W w'))
    (AL : Hid (∀ W, Calls Try.prog 9 #[] W fun e w' => e = .returned (.bool true) ∧ Gr W w'))
    (HS : Hid (∀ W, CxsAt W (.slice p n cap) xs → Calls Try.prog 17 #[.slice p n cap, .int .i64 (-s), .int .i64 mo] W fun e w' => (e = .returned (.tuple #[.slice none 0 0, .int .i64 2]) ∧ Gr W w') ∨ (∃ v', e = .returned (.tuple #[v', .int .i64 0]) ∧ CxsAt w' v' ys ∧ Q ∧ Gr W w')))
    (HT : Hid (Q → ∀ v W, CxsAt W v ys → Calls Try.prog 17 #[v, .int .i64 s, .int .i64 mo] W fun e w' => ∃ v', e = .returned (.tuple #[v', .int .i64 0]) ∧ CxsAt w' v' xs ∧ Gr W w'))
    (w : World) (hv : CxsAt w (.slice p n cap) xs) :
    Calls Try.prog 6 #[.slice p len cap, .int .i64 a1, .int .i64 a2, .int .i64 a3] w fun e w' => e = .returned (.bool true) ∧ Gr w w' := by
  have hcut := run_cut_cx p len cap n hm
  have V := Lib.hid hv
  clear hv
  go_enter Try.func6, Try.ntmps6
  go_wp2_with (first | (go_at_call 21; refine (HB.out _).mono ?_; rintro e wz ⟨rfl, hwz⟩; subst wz))
  go_quiet (fail)
  go_wp2_with fail
  refine (HR.out _).mono ?_
  rintro e w1 ⟨rfl, g1⟩
  have gg1 : Gr w w1 := ((Gr.refl w).drewN _).trans g1
  go_wp2_with fail
  refine (HP.out _).mono ?_
  rintro e w2 ⟨rfl, g2⟩
  go_wp2_with fail
  refine (HQ.out _).mono ?_
  rintro e w3 ⟨rfl, g3⟩
  go_wp2_with fail
  refine (AL.out _).mono ?_
  rintro e w4 ⟨rfl, g4⟩
  have gg4 : Gr w w4 := ((gg1.trans g2).trans g3).trans g4
  have V4 := Lib.hid (V.out.gr gg4)
  clear V gg1 g1 g2 g3 g4 HR HP HQ AL HB l1 l2 l3 l4 h1 h2 h3 k1 k2 k3 hmin hcut
  go_wp2_with fail
  go_quiet (fail)
  go_wp2_with fail
  with_reducible refine (HS.out _ (V4.out.gr ((Gr.refl w4).drewN _))).mono ?_
  rintro e w5 (⟨rfl, g5⟩ | ⟨v5, rfl, hI5, hQ, g5⟩)
  · go_wp2_with fail
    go_ret
    exact ⟨rfl, (gg4.trans ((Gr.refl w4).drewN _)).trans g5⟩
  · obtain ⟨p5, q5, rfl⟩ := hI5.len
    have J5 := Lib.hid hI5
    have V5 := Lib.hid (V4.out.gr (((Gr.refl w4).drewN _).trans g5))
    clear hI5
    go_wp2_with fail
    refine (HT.out hQ _ _ J5.out).mono ?_
    rintro e w6 ⟨v6, rfl, hI6, g6⟩
    obtain ⟨p6, q6, rfl⟩ := hI6.len
    have J := Lib.hid (same03_c _ _ xs w6 hI6 (by have := V5.out.gr g6; exact this))
    clear hI6
    go_wp2_with fail
    refine J.out.mono ?_
    rintro e w7 ⟨rfl, g7⟩
    go_wp2_with fail
    go_ret
    exact ⟨rfl, (((gg4.trans ((Gr.refl w4).drewN _)).trans g5).trans g6).trans g7⟩

set_option maxHeartbeats 1000000 in set_option maxRecDepth 100000 in
theorem scanFits_15c (p : Option Addr) (len cap n t2 t4 n2 n4 : Nat) (a1 a2 a3 r r2 f q q2 mo u u1 u2 s m t X2 X4 : Int) (xs ys : List Gi) (Q : Prop) (hm : n ≤ cap) (hmin : (if (70 : Int) < (len : Int) then 70 else (len : Int)) = (n : Int))
    (h1 : a2.tmod 2 = r) (h2 : wrap64 (r + 2) = r2) (h3 : r2.tmod 2 = f) (k1 : a3.tmod 3 = q) (k2 : wrap64 (q + 3) = q2) (k3 : q2.tmod 3 = mo)
    (l1 : a1.tmod 32769 = u) (l2 : wrap64 (u + 32768) = u1) (l3 : wrap64 (u1 + 1) = u2) (l4 : u2.tmod 32769 = m)
    (m0 : decide ((0 : Int) < m) = false) (s0 : decide ((0 : Int) < s) = false) (s1 : 0 ≤ s) (e1 : IntKind.i64.wrap (m * 2 ^ min s.toNat 64) = t) (b2 : decide ((2 : Int) < t2) = false) (b4 : decide ((3 : Int) < t4) = false)
    (z14 : IntKind.i64.wrap 14 = 14) (z13 : IntKind.i64.wrap 13 = 13) (z12 : IntKind.i64.wrap 12 = 12) (z16384 : IntKind.i64.wrap 16384 = 16384) (z8192 : IntKind.i64.wrap 8192 = 8192)
    (v2 : IntKind.i64.wrap (13 + (t2 : Int)) = n2) (v4 : IntKind.i64.wrap (12 + (t4 : Int)) = n4)
    (x2 : IntKind.i64.wrap (2 ^ min n2 64) = X2) (x4 : IntKind.i64.wrap (2 ^ min n4 64) = X4) (c2 : decide (X2 < m) = false) (c4 : decide (X4 < m) = false) (hw : wrap64 (-s) = -s)
    (HB : Hid (∀ W, Calls Try.prog 21 #[.int .i64 f] W fun e w' => e = .returned (.tuple #[.int .i64 15, .int .i64 0]) ∧ w' = W))
    (HR : Hid (∀ W, Calls Try.prog 11 #[.int .i64 m, .int .i64 f] W fun e w' => e = .returned (.tuple #[.int .i64 s, .int .i64 0]) ∧ Gr W w'))
    (HP : Hid (∀ W, Calls Try.prog 12 #[.int .i64 2, .int .i64 m, .int .i64 f] W fun e w' => e = .returned (.tuple #[.int .i64 t2, .int .i64 0]) ∧ Gr W w'))
    (HQ : Hid (∀ W, Calls Try.prog 12 #[.int .i64 4, .int .i64 m, .int .i64 f] W fun e w' => e = .returned (.tuple #[.int .i64 t4, .int .i64 0]) ∧ Gr W w'))
    (AL : Hid (∀ W, Calls Try.prog 9 #[] W fun e w' => e = .returned (.bool true) ∧ Gr W w'))
    (HS : Hid (∀ W, CxsAt W (.slice p n cap) xs → Calls Try.prog 17 #[.slice p n cap, .int .i64 (-s), .int .i64 mo] W fun e w' => (e = .returned (.tuple #[.slice none 0 0, .int .i64 2]) ∧ Gr W w') ∨ (∃ v', e = .returned (.tuple #[v', .int .i64 0]) ∧ CxsAt w' v' ys ∧ Q ∧ Gr W w')))
    (HT : Hid (Q → ∀ v W, CxsAt W v ys → Calls Try.prog 17 #[v, .int .i64 s, .int .i64 mo] W fun e w' => ∃ v', e = .returned (.tuple #[v', .int .i64 0]) ∧ CxsAt w' v' xs ∧ Gr W w'))
    (w : World) (hv : CxsAt w (.slice p n cap) xs) :
    Calls Try.prog 6 #[.slice p len cap, .int .i64 a1, .int .i64 a2, .int .i64 a3] w fun e w' => e = .returned (.bool true) ∧ Gr w w' := by
  have hcut := run_cut_cx p len cap n hm
  have V := Lib.hid hv
  clear hv
  go_enter Try.func6, Try.ntmps6
  go_wp2_with (first | (go_at_call 21; refine (HB.out _).mono ?_; rintro e wz ⟨rfl, hwz⟩; subst wz))
  go_quiet (fail)
  go_wp2_with fail
  refine (HR.out _).mono ?_
  rintro e w1 ⟨rfl, g1⟩
  have gg1 : Gr w w1 := ((Gr.refl w).drewN _).trans g1
  go_wp2_with fail
  refine (HP.out _).mono ?_
  rintro e w2 ⟨rfl, g2⟩
  go_wp2_with fail
  refine (HQ.out _).mono ?_
  rintro e w3 ⟨rfl, g3⟩
  go_wp2_with fail
  refine (AL.out _).mono ?_
  rintro e w4 ⟨rfl, g4⟩
  have gg4 : Gr w w4 := ((gg1.trans g2).trans g3).trans g4
  have V4 := Lib.hid (V.out.gr gg4)
  clear V gg1 g1 g2 g3 g4 HR HP HQ AL HB l1 l2 l3 l4 h1 h2 h3 k1 k2 k3 hmin hcut
  go_wp2_with fail
  go_quiet (fail)
  go_wp2_with fail
  with_reducible refine (HS.out _ (V4.out.gr ((Gr.refl w4).drewN _))).mono ?_
  rintro e w5 (⟨rfl, g5⟩ | ⟨v5, rfl, hI5, hQ, g5⟩)
  · go_wp2_with fail
    go_ret
    exact ⟨rfl, (gg4.trans ((Gr.refl w4).drewN _)).trans g5⟩
  · obtain ⟨p5, q5, rfl⟩ := hI5.len
    have J5 := Lib.hid hI5
    have V5 := Lib.hid (V4.out.gr (((Gr.refl w4).drewN _).trans g5))
    clear hI5
    go_wp2_with fail
    refine (HT.out hQ _ _ J5.out).mono ?_
    rintro e w6 ⟨v6, rfl, hI6, g6⟩
    obtain ⟨p6, q6, rfl⟩ := hI6.len
    have J := Lib.hid (same03_c _ _ xs w6 hI6 (by have := V5.out.gr g6; exact this))
    clear hI6
    go_wp2_with fail
    refine J.out.mono ?_
    rintro e w7 ⟨rfl, g7⟩
    go_wp2_with fail
    go_ret
    exact ⟨rfl, (((gg4.trans ((Gr.refl w4).drewN _)).trans g5).trans g6).trans g7⟩

set_option maxHeartbeats 1000000 in set_option maxRecDepth 100000 in
theorem scanFits_31a (p : Option Addr) (len cap n t2 t4 n2 n4 : Nat) (a1 a2 a3 r r2 f q q2 mo u u1 u2 s m t X2 X4 : Int) (xs ys : List Gi) (Q : Prop) (hm : n ≤ cap) (hmin : (if (70 : Int) < (len : Int) then 70 else (len : Int)) = (n : Int))
    (h1 : a2.tmod 2 = r) (h2 : wrap64 (r + 2) = r2) (h3 : r2.tmod 2 = f) (k1 : a3.tmod 3 = q) (k2 : wrap64 (q + 3) = q2) (k3 : q2.tmod 3 = mo)
    (l1 : a1.tmod 2147483649 = u) (l2 : wrap64 (u + 2147483648) = u1) (l3 : wrap64 (u1 + 1) = u2) (l4 : u2.tmod 2147483649 = m)
    (m0 : decide (0 < m) = true) (s0 : decide ((0 : Int) < s) = true) (e2 : decide (t ≤ 536870912) = false) (e3 : decide (1073741824 < t) = false) (s1 : 0 ≤ s) (e1 : IntKind.i64.wrap (m * 2 ^ min s.toNat 64) = t) (b2 : decide ((2 : Int) < t2) = false) (b4 : decide ((3 : Int) < t4) = false)
    (z30 : IntKind.i64.wrap 30 = 30) (z29 : IntKind.i64.wrap 29 = 29) (z28 : IntKind.i64.wrap 28 = 28) (z1073741824 : IntKind.i64.wrap 1073741824 = 1073741824) (z536870912 : IntKind.i64.wrap 536870912 = 536870912)
    (v2 : IntKind.i64.wrap (29 + (t2 : Int)) = n2) (v4 : IntKind.i64.wrap (28 + (t4 : Int)) = n4)
    (x2 : IntKind.i64.wrap (2 ^ min n2 64) = X2) (x4 : IntKind.i64.wrap (2 ^ min n4 64) = X4) (c2 : decide (X2 < m) = false) (c4 : decide (X4 < m) = false) (hw : wrap64 (-s) = -s)
    (HB : Hid (∀ W, Calls Try.prog 21 #[.int .i64 f] W fun e w' => e = .returned (.tuple #[.int .i64 31, .int .i64 0]) ∧ w' = W))
    (HR : Hid (∀ W, Calls Try.prog 11 #[.int .i64 m, .int .i64 f] W fun e w' => e = .returned (.tuple #[.int .i64 s, .int .i64 0]) ∧ Gr W w'))
    (HP : Hid (∀ W, Calls Try.prog 12 #[.int .i64 2, .int .i64 m, .int .i64 f] W fun e w' => e = .returned (.tuple #[.int .i64 t2, .int .i64 0]) ∧ Gr W w'))
    (HQ : Hid (∀ W, Calls Try.prog 12 #[.int .i64 4, .int .i64 m, .int .i64 f] W fun e w' => e = .returned (.tuple #[.int .i64 t4, .int .i64 0]) ∧ Gr W w'))
    (AL : Hid (∀ W, Calls Try.prog 9 #[] W fun e w' => e = .returned (.bool true) ∧ Gr W w'))
    (HS : Hid (∀ W, CxsAt W (.slice p n cap) xs → Calls Try.prog 17 #[.slice p n cap, .int .i64 (-s), .int .i64 mo] W fun e w' => (e = .returned (.tuple #[.slice none 0 0, .int .i64 2]) ∧ Gr W w') ∨ (∃ v', e = .returned (.tuple #[v', .int .i64 0]) ∧ CxsAt w' v' ys ∧ Q ∧ Gr W w')))
    (HT : Hid (Q → ∀ v W, CxsAt W v ys → Calls Try.prog 17 #[v, .int .i64 s, .int .i64 mo] W fun e w' => ∃ v', e = .returned (.tuple #[v', .int .i64 0]) ∧ CxsAt w' v' xs ∧ Gr W w'))
    (w : World) (hv : CxsAt w (.slice p n cap) xs) :
    Calls Try.prog 6 #[.slice p len cap, .int .i64 a1, .int .i64 a2, .int .i64 a3] w fun e w' => e = .returned (.bool true) ∧ Gr w w' := by
  have hcut := run_cut_cx p len cap n hm
  have V := Lib.hid hv
  clear hv
  go_enter Try.func6, Try.ntmps6
  go_wp2_with (first | (go_at_call 21; refine (HB.out _).mono ?_; rintro e wz ⟨rfl, hwz⟩; subst wz))
  go_quiet (fail)
  go_wp2_with fail
  refine (HR.out _).mono ?_
  rintro e w1 ⟨rfl, g1⟩
  have gg1 : Gr w w1 := ((Gr.refl w).drewN _).trans g1
  go_wp2_with fail
  refine (HP.out _).mono ?_
  rintro e w2 ⟨rfl, g2⟩
  go_wp2_with fail
  refine (HQ.out _).mono ?_
  rintro e w3 ⟨rfl, g3⟩
  go_wp2_with fail
  refine (AL.out _).mono ?_
  rintro e w4 ⟨rfl, g4⟩
  have gg4 : Gr w w4 := ((gg1.trans g2).trans g3).trans g4
  have V4 := Lib.hid (V.out.gr gg4)
  clear V gg1 g1 g2 g3 g4 HR HP HQ AL HB l1 l2 l3 l4 h1 h2 h3 k1 k2 k3 hmin hcut
  go_wp2_with fail
  go_quiet (fail)
  go_wp2_with fail
  with_reducible refine (HS.out _ (V4.out.gr ((Gr.refl w4).drewN _))).mono ?_
  rintro e w5 (⟨rfl, g5⟩ | ⟨v5, rfl, hI5, hQ, g5⟩)
  · go_wp2_with fail
    go_ret
    exact ⟨rfl, (gg4.trans ((Gr.refl w4).drewN _)).trans g5⟩
  · obtain ⟨p5, q5, rfl⟩ := hI5.len
    have J5 := Lib.hid hI5
    have V5 := Lib.hid (V4.out.gr (((Gr.refl w4).drewN _).trans g5))
    clear hI5
    go_wp2_with fail
    refine (HT.out hQ _ _ J5.out).mono ?_
    rintro e w6 ⟨v6, rfl, hI6, g6⟩
    obtain ⟨p6, q6, rfl⟩ := hI6.len
    have J := Lib.hid (same03_c _ _ xs w6 hI6 (by have := V5.out.gr g6; exact this))
    clear hI6
    go_wp2_with fail
    refine J.out.mono ?_
    rintro e w7 ⟨rfl, g7⟩
    go_wp2_with fail
    go_ret
    exact ⟨rfl, (((gg4.trans ((Gr.refl w4).drewN _)).trans g5).trans g6).trans g7⟩

set_option maxHeartbeats 1000000 in set_option maxRecDepth 100000 in
theorem scanFits_31b (p : Option Addr) (len cap n t2 t4 n2 n4 : Nat) (a1 a2 a3 r r2 f q q2 mo u u1 u2 s m t X2 X4 : Int) (xs ys : List Gi) (Q : Prop) (hm : n ≤ cap) (hmin : (if (70 : Int) < (len : Int) then 70 else (len : Int)) = (n : Int))
    (h1 : a2.tmod 2 = r) (h2 : wrap64 (r + 2) = r2) (h3 : r2.tmod 2 = f) (k1 : a3.tmod 3 = q) (k2 : wrap64 (q + 3) = q2) (k3 : q2.tmod 3 = mo)
    (l1 : a1.tmod 2147483649 = u) (l2 : wrap64 (u + 2147483648) = u1) (l3 : wrap64 (u1 + 1) = u2) (l4 : u2.tmod 2147483649 = m)
    (m0 : decide (0 < m) = true) (s0 : decide ((0 : Int) < s) = false) (e2 : decide (t ≤ 536870912) = false) (s1 : 0 ≤ s) (e1 : IntKind.i64.wrap (m * 2 ^ min s.toNat 64) = t) (b2 : decide ((2 : Int) < t2) = false) (b4 : decide ((3 : Int) < t4) = false)
    (z30 : IntKind.i64.wrap 30 = 30) (z29 : IntKind.i64.wrap 29 = 29) (z28 : IntKind.i64.wrap 28 = 28) (z1073741824 : IntKind.i64.wrap 1073741824 = 1073741824) (z536870912 : IntKind.i64.wrap 536870912 = 536870912)
    (v2 : IntKind.i64.wrap (29 + (t2 : Int)) = n2) (v4 : IntKind.i64.wrap (28 + (t4 : Int)) = n4)
    (x2 : IntKind.i64.wrap (2 ^ min n2 64) = X2) (x4 : IntKind.i64.wrap (2 ^ min n4 64) = X4) (c2 : decide (X2 < m) = false) (c4 : decide (X4 < m) = false) (hw : wrap64 (-s) = -s)
    (HB : Hid (∀ W, Calls Try.prog 21 #[.int .i64 f] W fun e w' => e = .returned (.tuple #[.int .i64 31, .int .i64 0]) ∧ w' = W))
    (HR : Hid (∀ W, Calls Try.prog 11 #[.int .i64 m, .int .i64 f] W fun e w' => e = .returned (.tuple #[.int .i64 s, .int .i64 0]) ∧ Gr W w'))
    (HP : Hid (∀ W, Calls Try.prog 12 #[.int .i64 2, .int .i64 m, .int .i64 f] W fun e w' => e = .returned (.tuple #[.int .i64 t2, .int .i64 0]) ∧ Gr W w'))
    (HQ : Hid (∀ W, Calls Try.prog 12 #[.int .i64 4, .int .i64 m, .int .i64 f] W fun e w' => e = .returned (.tuple #[.int .i64 t4, .int .i64 0]) ∧ Gr W w'))
    (AL : Hid (∀ W, Calls Try.prog 9 #[] W fun e w' => e = .returned (.bool true) ∧ Gr W w'))
    (HS : Hid (∀ W, CxsAt W (.slice p n cap) xs → Calls Try.prog 17 #[.slice p n cap, .int .i64 (-s), .int .i64 mo] W fun e w' => (e = .returned (.tuple #[.slice none 0 0, .int .i64 2]) ∧ Gr W w') ∨ (∃ v', e = .returned (.tuple #[v', .int .i64 0]) ∧ CxsAt w' v' ys ∧ Q ∧ Gr W w')))
    (HT : Hid (Q → ∀ v W, CxsAt W v ys → Calls Try.prog 17 #[v, .int .i64 s, .int .i64 mo] W fun e w' => ∃ v', e = .returned (.tuple #[v', .int .i64 0]) ∧ CxsAt w' v' xs ∧ Gr W w'))
    (w : World) (hv : CxsAt w (.slice p n cap) xs) :
    Calls Try.prog 6 #[.slice p len cap, .int .i64 a1, .int .i64 a2, .int .i64 a3] w fun e w' => e = .returned (.bool true) ∧ Gr w w' := by
  have hcut := run_cut_cx p len cap n hm
  have V := Lib.hid hv
  clear hv
  go_enter Try.func6, Try.ntmps6
  go_wp2_with (first | (go_at_call 21; refine (HB.out _).mono ?_; rintro e wz ⟨rfl, hwz⟩; subst wz))
  go_quiet (fail)
  go_wp2_with fail
  refine (HR.out _).mono ?_
  rintro e w1 ⟨rfl, g1⟩
  have gg1 : Gr w w1 := ((Gr.refl w).drewN _).trans g1
  go_wp2_with fail
  refine (HP.out _).mono ?_
  rintro e w2 ⟨rfl, g2⟩
  go_wp2_with fail
  refine (HQ.out _).mono ?_
  rintro e w3 ⟨rfl, g3⟩
  go_wp2_with fail
  refine (AL.out _).mono ?_
  rintro e w4 ⟨rfl, g4⟩
  have gg4 : Gr w w4 := ((gg1.trans g2).trans g3).trans g4
  have V4 := Lib.hid (V.out.gr gg4)
  clear V gg1 g1 g2 g3 g4 HR HP HQ AL HB l1 l2 l3 l4 h1 h2 h3 k1 k2 k3 hmin hcut
  go_wp2_with fail
  go_quiet (fail)
  go_wp2_with fail
  with_reducible refine (HS.out _ (V4.out.gr ((Gr.refl w4).drewN _))).mono ?_
  rintro e w5 (⟨rfl, g5⟩ | ⟨v5, rfl, hI5, hQ, g5⟩)
  · go_wp2_with fail
    go_ret
    exact ⟨rfl, (gg4.trans ((Gr.refl w4).drewN _)).trans g5⟩
  · obtain ⟨p5, q5, rfl⟩ := hI5.len
    have J5 := Lib.hid hI5
    have V5 := Lib.hid (V4.out.gr (((Gr.refl w4).drewN _).trans g5))
    clear hI5
    go_wp2_with fail
    refine (HT.out hQ _ _ J5.out).mono ?_
    rintro e w6 ⟨v6, rfl, hI6, g6⟩
    obtain ⟨p6, q6, rfl⟩ := hI6.len
    have J := Lib.hid (same03_c _ _ xs w6 hI6 (by have := V5.out.gr g6; exact this))
    clear hI6
    go_wp2_with fail
    refine J.out.mono ?_
    rintro e w7 ⟨rfl, g7⟩
    go_wp2_with fail
    go_ret
    exact ⟨rfl, (((gg4.trans ((Gr.refl w4).drewN _)).trans g5).trans g6).trans g7⟩

set_option maxHeartbeats 1000000 in set_option maxRecDepth 100000 in
theorem scanFits_31c (p : Option Addr) (len cap n t2 t4 n2 n4 : Nat) (a1 a2 a3 r r2 f q q2 mo u u1 u2 s m t X2 X4 : Int) (xs ys : List Gi) (Q : Prop) (hm : n ≤ cap) (hmin : (if (70 : Int) < (len : Int) then 70 else (len : Int)) = (n : Int))
    (h1 : a2.tmod 2 = r) (h2 : wrap64 (r + 2) = r2) (h3 : r2.tmod 2 = f) (k1 : a3.tmod 3 = q) (k2 : wrap64 (q + 3) = q2) (k3 : q2.tmod 3 = mo)
    (l1 : a1.tmod 2147483649 = u) (l2 : wrap64 (u + 2147483648) = u1) (l3 : wrap64 (u1 + 1) = u2) (l4 : u2.tmod 2147483649 = m)
    (m0 : decide ((0 : Int) < m) = false) (s0 : decide ((0 : Int) < s) = false) (s1 : 0 ≤ s) (e1 : IntKind.i64.wrap (m * 2 ^ min s.toNat 64) = t) (b2 : decide ((2 : Int) < t2) = false) (b4 : decide ((3 : Int) < t4) = false)
    (z30 : IntKind.i64.wrap 30 = 30) (z29 : IntKind.i64.wrap 29 = 29) (z28 : IntKind.i64.wrap 28 = 28) (z1073741824 : IntKind.i64.wrap 1073741824 = 1073741824) (z536870912 : IntKind.i64.wrap 536870912 = 536870912)
    (v2 : IntKind.i64.wrap (29 + (t2 : Int)) = n2) (v4 : IntKind.i64.wrap (28 + (t4 : Int)) = n4)
    (x2 : IntKind.i64.wrap (2 ^ min n2 64) = X2) (x4 : IntKind.i64.wrap (2 ^ min n4 64) = X4) (c2 : decide (X2 < m) = false) (c4 : decide (X4 < m) = false) (hw : wrap64 (-s) = -s)
    (HB : Hid (∀ W, Calls Try.prog 21 #[.int .i64 f] W fun e w' => e = .returned (.tuple #[.int .i64 31, .int .i64 0]) ∧ w' = W))
    (HR : Hid (∀ W, Calls Try.prog 11 #[.int .i64 m, .int .i64 f] W fun e w' => e = .returned (.tuple #[.int .i64 s, .int .i64 0]) ∧ Gr W w'))
    (HP : Hid (∀ W, Calls Try.prog 12 #[.int .i64 2, .int .i64 m, .int .i64 f] W fun e w' => e = .returned (.tuple #[.int .i64 t2, .int .i64 0]) ∧ Gr W w'))
    (HQ : Hid (∀ W, Calls Try.prog 12 #[.int .i64 4, .int .i64 m, .int .i64 f] W fun e w' => e = .returned (.tuple #[.int .i64 t4, .int .i64 0]) ∧ Gr W w'))
    (AL : Hid (∀ W, Calls Try.prog 9 #[] W fun e w' => e = .returned (.bool true) ∧ Gr W w'))
    (HS : Hid (∀ W, CxsAt W (.slice p n cap) xs → Calls Try.prog 17 #[.slice p n cap, .int .i64 (-s), .int .i64 mo] W fun e w' => (e = .returned (.tuple #[.slice none 0 0, .int .i64 2]) ∧ Gr W w') ∨ (∃ v', e = .returned (.tuple #[v', .int .i64 0]) ∧ CxsAt w' v' ys ∧ Q ∧ Gr W w')))
    (HT : Hid (Q → ∀ v W, CxsAt W v ys → Calls Try.prog 17 #[v, .int .i64 s, .int .i64 mo] W fun e w' => ∃ v', e = .returned (.tuple #[v', .int .i64 0]) ∧ CxsAt w' v' xs ∧ Gr W w'))
    (w : World) (hv : CxsAt w (.slice p n cap) xs) :
    Calls Try.prog 6 #[.slice p len cap, .int .i64 a1, .int .i64 a2, .int .i64 a3] w fun e w' => e = .returned (.bool true) ∧ Gr w w' := by
  have hcut := run_cut_cx p len cap n hm
  have V := Lib.hid hv
  clear hv
  go_enter Try.func6, Try.ntmps6
  go_wp2_with (first | (go_at_call 21; refine (HB.out _).mono ?_; rintro e wz ⟨rfl, hwz⟩; subst wz))
  go_quiet (fail)
  go_wp2_with fail
  refine (HR.out _).mono ?_
  rintro e w1 ⟨rfl, g1⟩
  have gg1 : Gr w w1 := ((Gr.refl w).drewN _).trans g1
  go_wp2_with fail
  refine (HP.out _).mono ?_
  rintro e w2 ⟨rfl, g2⟩
  go_wp2_with fail
  refine (HQ.out _).mono ?_
  rintro e w3 ⟨rfl, g3⟩
  go_wp2_with fail
  refine (AL.out _).mono ?_
  rintro e w4 ⟨rfl, g4⟩
  have gg4 : Gr w w4 := ((gg1.trans g2).trans g3).trans g4
  have V4 := Lib.hid (V.out.gr gg4)
  clear V gg1 g1 g2 g3 g4 HR HP HQ AL HB l1 l2 l3 l4 h1 h2 h3 k1 k2 k3 hmin hcut
  go_wp2_with fail
  go_quiet (fail)
  go_wp2_with fail
  with_reducible refine (HS.out _ (V4.out.gr ((Gr.refl w4).drewN _))).mono ?_
  rintro e w5 (⟨rfl, g5⟩ | ⟨v5, rfl, hI5, hQ, g5⟩)
  · go_wp2_with fail
    go_ret
    exact ⟨rfl, (gg4.trans ((Gr.refl w4).drewN _)).trans g5⟩
  · obtain ⟨p5, q5, rfl⟩ := hI5.len
    have J5 := Lib.hid hI5
    have V5 := Lib.hid (V4.out.gr (((Gr.refl w4).drewN _).trans g5))
    clear hI5
    go_wp2_with fail
    refine (HT.out hQ _ _ J5.out).mono ?_
    rintro e w6 ⟨v6, rfl, hI6, g6⟩
    obtain ⟨p6, q6, rfl⟩ := hI6.len
    have J := Lib.hid (same03_c _ _ xs w6 hI6 (by have := V5.out.gr g6; exact this))
    clear hI6
    go_wp2_with fail
    refine J.out.mono ?_
    rintro e w7 ⟨rfl, g7⟩
    go_wp2_with fail
    go_ret
    exact ⟨rfl, (((gg4.trans ((Gr.refl w4).drewN _)).trans g5).trans g6).trans g7⟩

end Go.Proofs.Ytmmhgcemkbgajaa
