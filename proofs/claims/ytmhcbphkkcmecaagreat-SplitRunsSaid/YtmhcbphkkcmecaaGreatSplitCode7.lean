/- Package split: Run. -/
import Derived.Test.YtmhcbphkkcmecaaGreatSplitCode6
import Derived.Test.YtmhcbphkkcmecaaGreatSplitRoot
import Derived.Test.YtmhcbphkkcmecaaGreatRootCode
import Derived.Test.YtmhcbphkkcmecaaGreatFlip
namespace Go.Proofs.YtmhcbphkkcmecaaGreat
open Go.ChangeShapes Go.WideShapes Go.ChangeAt Go.RowKit
set_option linter.unusedVariables false
set_option linter.unusedSimpArgs false
set_option maxRecDepth 100000

theorem notLog {n : Nat} (h : ¬ ∃ L, IsLog (n : Int) L) : (n : Int) ≠ 4 ∧ (n : Int) ≠ 8 ∧ (n : Int) ≠ 16 ∧ (n : Int) ≠ 32 ∧ (n : Int) ≠ 64 := by
  refine ⟨fun e => h ⟨2, by omega, by omega, by rw [e]; rfl⟩, fun e => h ⟨3, by omega, by omega, by rw [e]; rfl⟩, fun e => h ⟨4, by omega, by omega, by rw [e]; rfl⟩, fun e => h ⟨5, by omega, by omega, by rw [e]; rfl⟩, fun e => h ⟨6, by omega, by omega, by rw [e]; rfl⟩⟩


theorem len_start (a : Gi) (l R : Int) (h : 2 * (l * l) ≤ R * R) (hl : 0 ≤ l) (ha : absI a.re ≤ l ∧ absI a.im ≤ l) : Len R a := by
  unfold Len
  have key : ∀ x, absI x ≤ l → x * x ≤ l * l := by
    intro x hx
    have := Int.mul_le_mul hx hx (absI_nonneg x) hl
    refine Int.le_trans (Int.le_of_eq ?_) this
    unfold absI
    split
    · rw [Int.neg_mul_neg]
    · rfl
  have h1 := key _ ha.1
  have h2 := key _ ha.2
  omega


theorem sRun_size (px : Option Addr) (cx n : Nat) (f mo : Int) (inv : Bool) (h : ¬ ∃ L, IsLog (n : Int) L) (w : World) :
    Calls Tryz.prog 4 #[.slice px n cx, .int .i64 f, .int .i64 mo, .bool inv] w fun e w' => e = .returned (.tuple #[.slice none 0 0, .int .i64 3]) ∧ Gr w w' := by
  obtain ⟨a, b, c, d, e⟩ := notLog h
  have HL := Lib.hid (log08_no n a b c d e)
  clear a b c d e h
  go_enter Tryz.func4, Tryz.ntmps4
  go_wp2_with (go_at_call 13; refine (HL.out _).mono ?_; rintro e wz ⟨rfl, hwz⟩; subst wz)
  go_ret2
  exact ⟨rfl, Gr.refl _⟩

theorem sRun_fmt (px : Option Addr) (cx n L : Nat) (f mo : Int) (inv : Bool) (hL : IsLog (n : Int) L) (h : f < 0 ∨ 1 < f) (w : World) :
    Calls Tryz.prog 4 #[.slice px n cx, .int .i64 f, .int .i64 mo, .bool inv] w fun e w' => e = .returned (.tuple #[.slice none 0 0, .int .i64 1]) ∧ Gr w w' := by
  have HL := Lib.hid (log08_yes n L hL)
  have HB := Lib.hid (bits_bad f h)
  clear hL h
  go_enter Tryz.func4, Tryz.ntmps4
  go_wp2_with (first | (go_at_call 13; refine (HL.out _).mono ?_; rintro e wz ⟨rfl, hwz⟩; subst wz) | (go_at_call 14; refine (HB.out _).mono ?_; rintro e wz ⟨rfl, hwz⟩; subst wz))
  go_ret2
  exact ⟨rfl, Gr.refl _⟩


set_option maxHeartbeats 2000000 in
theorem sRun_mode_15 (px : Option Addr) (cx n L : Nat) (mo : Int) (inv : Bool) (hL : IsLog (n : Int) L) (h : mo < 0 ∨ 2 < mo) (w : World) :
    Calls Tryz.prog 4 #[.slice px n cx, .int .i64 0, .int .i64 mo, .bool inv] w fun e w' => e = .returned (.tuple #[.slice none 0 0, .int .i64 1]) ∧ Gr w w' := by
  have HL := Lib.hid (log08_yes n L hL)
  have HB := Lib.hid (bits_c 0 15 32768 (by unfold FB; omega))
  have HM := Lib.hid (sMayBe_no 13 mo inv (by unfold SetsOk3; omega))
  clear hL h
  go_enter Tryz.func4, Tryz.ntmps4
  go_wp2_with (first | (go_at_call 13; refine (HL.out _).mono ?_; rintro e wz ⟨rfl, hwz⟩; subst wz) | (go_at_call 14; refine (HB.out _).mono ?_; rintro e wz ⟨rfl, hwz⟩; subst wz))
  refine (HM.out _).mono ?_
  rintro e w1 ⟨rfl, g1⟩
  go_wp2_with fail
  go_ret2
  exact ⟨rfl, Gr.trans ((Gr.refl w).alloc _ _) g1⟩

set_option maxHeartbeats 2000000 in
theorem sRun_range_15 (px : Option Addr) (cx n L : Nat) (mo : Int) (inv : Bool) (xs : List Gi) (hl : xs.length = n) (hL : IsLog (n : Int) L) (m0 : 0 ≤ mo) (m1 : mo ≤ 2) (hx : allIn 16384 xs = false) (w : World) (vx : CxsAt w (.slice px n cx) xs) :
    Calls Tryz.prog 4 #[.slice px n cx, .int .i64 0, .int .i64 mo, .bool inv] w fun e w' => e = .returned (.tuple #[.slice none 0 0, .int .i64 2]) ∧ Gr w w' := by
  have HL := Lib.hid (log08_yes n L hL)
  have HB := Lib.hid (bits_c 0 15 32768 (by unfold FB; omega))
  have HM := Lib.hid (sMayBe_yes 13 mo inv (by unfold SetsOk3; omega))
  have HW := Lib.hid fun W (v : CxsAt W (.slice px n cx) xs) => sWithin_c (.slice px n cx) xs 16384 (by omega) (by omega) W v
  rw [hx] at HW
  clear hL m0 m1 hx hl
  go_enter Tryz.func4, Tryz.ntmps4
  go_wp2_with (first | (go_at_call 13; refine (HL.out _).mono ?_; rintro e wz ⟨rfl, hwz⟩; subst wz) | (go_at_call 14; refine (HB.out _).mono ?_; rintro e wz ⟨rfl, hwz⟩; subst wz))
  refine (HM.out _).mono ?_
  rintro e w1 ⟨rfl, g1⟩
  have g1' := Gr.trans ((Gr.refl w).alloc _ _) g1
  have vx' := vx.gr g1'
  go_wp2_with fail
  refine (HW.out _ vx').mono ?_
  rintro e w2 ⟨rfl, g2⟩
  go_wp2_with fail
  go_ret2
  exact ⟨rfl, g1'.trans g2⟩

set_option maxHeartbeats 2000000 in
theorem sRun_ok_15 (px : Option Addr) (cx n L : Nat) (mo : Int) (inv : Bool) (xs : List Gi) (hl : xs.length = n) (hL : IsLog (n : Int) L) (m0 : 0 ≤ mo) (m1 : mo ≤ 2) (hx : allIn 16384 xs = true) (w : World) (vx : CxsAt w (.slice px n cx) xs) :
    Calls Tryz.prog 4 #[.slice px n cx, .int .i64 0, .int .i64 mo, .bool inv] w fun e w' => ∃ v, e = .returned (.tuple #[v, .int .i64 0]) ∧ CxsAt w' v (sL 13 mo inv (rootsL n (56 - 13)) L xs) ∧ Gr w w' := by
  have HL := Lib.hid (log08_yes n L hL)
  have HB := Lib.hid (bits_c 0 15 32768 (by unfold FB; omega))
  have HM := Lib.hid (sMayBe_yes 13 mo inv (by unfold SetsOk3; omega))
  have HW := Lib.hid fun W (v : CxsAt W (.slice px n cx) xs) => sWithin_c (.slice px n cx) xs 16384 (by omega) (by omega) W v
  rw [hx] at HW
  obtain ⟨l0, l1, hn⟩ := hL
  have hn2 : n = 2 ^ L := by exact Int.ofNat.inj hn
  have hnl : (n : Int) = 2 ^ (L : Int).toNat := by rw [hn2, Int.toNat_natCast]; simp
  have hN : IsLen n := len_log n L (by omega) (by omega) hnl
  have HT := Lib.hid (rTwiddles_ok L n 0 15 32768 (by omega) (by omega) hnl (by unfold FB; omega))
  rw [show (56 - ((15 : Int) - 2)).toNat = 56 - 13 from rfl] at HT
  have hall := (allIn_iff 16384 xs).1 hx
  have HTR := Lib.hid fun pw cw W (v1 : CxsAt W (.slice px n cx) xs) (v2 : CxsAt W (.slice pw n cw) (rootsL n (56 - 13))) => sTransform_c 13 mo inv (rootsL n (56 - 13)) L n l1 hn2 (by rw [rootsL_len]; omega) (by omega) m0 m1
    (fun k => roots_len n hN 13 (by omega) (by omega) inv k) (fun k hk => roots_in n hN 13 (by omega) (by omega) k (by omega)) 23171 (by omega) (by decide) pw cw L (Nat.le_refl _) xs px cx W (by rw [hl, hn2])
    (fun j hj => by
      have hjl : j < xs.length := by rw [hl, hn2]; exact hj
      rw [List.getD_eq_getElem?_getD, List.getElem?_eq_getElem hjl]
      have h := hall _ (List.getElem_mem hjl)
      exact len_start _ 16384 23171 (by decide) (by omega) h) (by rw [← hn2]; exact v1) v2
  rw [← hn2] at HTR
  clear l0 l1 hn hN hnl hall hx m0 m1 hn2 hl
  generalize sL 13 mo inv (rootsL n (56 - 13)) L xs = RL at *
  have hwl := rootsL_len n (56 - 13)
  generalize rootsL n (56 - 13) = ws at *
  go_enter Tryz.func4, Tryz.ntmps4
  go_wp2_with (first | (go_at_call 13; refine (HL.out _).mono ?_; rintro e wz ⟨rfl, hwz⟩; subst wz) | (go_at_call 14; refine (HB.out _).mono ?_; rintro e wz ⟨rfl, hwz⟩; subst wz))
  have R0 := CellsAt.new w 37 #[.int .i64 13, .int .i64 mo, .bool inv]
  refine (HM.out _).mono ?_
  rintro e w1 ⟨rfl, g1⟩
  have R1 := R0.gr g1
  have g1' := Gr.trans ((Gr.refl w).alloc _ _) g1
  have vx1 := vx.gr g1'
  clear R0 g1
  go_wp2_with fail
  refine (HW.out _ vx1).mono ?_
  rintro e w2 ⟨rfl, g2⟩
  have R2 := R1.gr g2
  have vx2 := vx1.gr g2
  have z2 := g1'.trans g2
  clear R1 g2 g1' vx1 vx
  go_wp2_with fail
  refine (HT.out _).mono ?_
  rintro e w3 ⟨v3, rfl, hv3, g3⟩
  obtain ⟨pw, cw, hvw⟩ := hv3.len
  rw [hwl, Int.toNat_natCast] at hvw
  subst hvw
  have R3 := R2.gr g3
  have vx3 := vx2.gr g3
  have z3 := z2.trans g3
  have c0 := R3.cell 0
  have c1 := R3.cell 1
  have c2 := R3.cell 2
  simp only [List.getElem?_toArray, List.getElem?_cons_zero, List.getElem?_cons_succ] at c0 c1 c2
  have lR := R3.lt
  clear R2 vx2 z2 g3
  go_wp2_with fail
  refine (HTR.out pw cw _ vx3 hv3).mono ?_
  rintro e w4 ⟨v4, rfl, hv4, g4⟩
  go_wp2_with fail
  go_ret2
  exact ⟨_, rfl, hv4, z3.trans g4⟩


set_option maxHeartbeats 2000000 in
theorem sRun_mode_31 (px : Option Addr) (cx n L : Nat) (mo : Int) (inv : Bool) (hL : IsLog (n : Int) L) (h : mo < 0 ∨ 2 < mo) (w : World) :
    Calls Tryz.prog 4 #[.slice px n cx, .int .i64 1, .int .i64 mo, .bool inv] w fun e w' => e = .returned (.tuple #[.slice none 0 0, .int .i64 1]) ∧ Gr w w' := by
  have HL := Lib.hid (log08_yes n L hL)
  have HB := Lib.hid (bits_c 1 31 2147483648 (by unfold FB; omega))
  have HM := Lib.hid (sMayBe_no 29 mo inv (by unfold SetsOk3; omega))
  clear hL h
  go_enter Tryz.func4, Tryz.ntmps4
  go_wp2_with (first | (go_at_call 13; refine (HL.out _).mono ?_; rintro e wz ⟨rfl, hwz⟩; subst wz) | (go_at_call 14; refine (HB.out _).mono ?_; rintro e wz ⟨rfl, hwz⟩; subst wz))
  refine (HM.out _).mono ?_
  rintro e w1 ⟨rfl, g1⟩
  go_wp2_with fail
  go_ret2
  exact ⟨rfl, Gr.trans ((Gr.refl w).alloc _ _) g1⟩

set_option maxHeartbeats 2000000 in
theorem sRun_range_31 (px : Option Addr) (cx n L : Nat) (mo : Int) (inv : Bool) (xs : List Gi) (hl : xs.length = n) (hL : IsLog (n : Int) L) (m0 : 0 ≤ mo) (m1 : mo ≤ 2) (hx : allIn 1073741824 xs = false) (w : World) (vx : CxsAt w (.slice px n cx) xs) :
    Calls Tryz.prog 4 #[.slice px n cx, .int .i64 1, .int .i64 mo, .bool inv] w fun e w' => e = .returned (.tuple #[.slice none 0 0, .int .i64 2]) ∧ Gr w w' := by
  have HL := Lib.hid (log08_yes n L hL)
  have HB := Lib.hid (bits_c 1 31 2147483648 (by unfold FB; omega))
  have HM := Lib.hid (sMayBe_yes 29 mo inv (by unfold SetsOk3; omega))
  have HW := Lib.hid fun W (v : CxsAt W (.slice px n cx) xs) => sWithin_c (.slice px n cx) xs 1073741824 (by omega) (by omega) W v
  rw [hx] at HW
  clear hL m0 m1 hx hl
  go_enter Tryz.func4, Tryz.ntmps4
  go_wp2_with (first | (go_at_call 13; refine (HL.out _).mono ?_; rintro e wz ⟨rfl, hwz⟩; subst wz) | (go_at_call 14; refine (HB.out _).mono ?_; rintro e wz ⟨rfl, hwz⟩; subst wz))
  refine (HM.out _).mono ?_
  rintro e w1 ⟨rfl, g1⟩
  have g1' := Gr.trans ((Gr.refl w).alloc _ _) g1
  have vx' := vx.gr g1'
  go_wp2_with fail
  refine (HW.out _ vx').mono ?_
  rintro e w2 ⟨rfl, g2⟩
  go_wp2_with fail
  go_ret2
  exact ⟨rfl, g1'.trans g2⟩

set_option maxHeartbeats 2000000 in
theorem sRun_ok_31 (px : Option Addr) (cx n L : Nat) (mo : Int) (inv : Bool) (xs : List Gi) (hl : xs.length = n) (hL : IsLog (n : Int) L) (m0 : 0 ≤ mo) (m1 : mo ≤ 2) (hx : allIn 1073741824 xs = true) (w : World) (vx : CxsAt w (.slice px n cx) xs) :
    Calls Tryz.prog 4 #[.slice px n cx, .int .i64 1, .int .i64 mo, .bool inv] w fun e w' => ∃ v, e = .returned (.tuple #[v, .int .i64 0]) ∧ CxsAt w' v (sL 29 mo inv (rootsL n (56 - 29)) L xs) ∧ Gr w w' := by
  have HL := Lib.hid (log08_yes n L hL)
  have HB := Lib.hid (bits_c 1 31 2147483648 (by unfold FB; omega))
  have HM := Lib.hid (sMayBe_yes 29 mo inv (by unfold SetsOk3; omega))
  have HW := Lib.hid fun W (v : CxsAt W (.slice px n cx) xs) => sWithin_c (.slice px n cx) xs 1073741824 (by omega) (by omega) W v
  rw [hx] at HW
  obtain ⟨l0, l1, hn⟩ := hL
  have hn2 : n = 2 ^ L := by exact Int.ofNat.inj hn
  have hnl : (n : Int) = 2 ^ (L : Int).toNat := by rw [hn2, Int.toNat_natCast]; simp
  have hN : IsLen n := len_log n L (by omega) (by omega) hnl
  have HT := Lib.hid (rTwiddles_ok L n 1 31 2147483648 (by omega) (by omega) hnl (by unfold FB; omega))
  rw [show (56 - ((31 : Int) - 2)).toNat = 56 - 29 from rfl] at HT
  have hall := (allIn_iff 1073741824 xs).1 hx
  have HTR := Lib.hid fun pw cw W (v1 : CxsAt W (.slice px n cx) xs) (v2 : CxsAt W (.slice pw n cw) (rootsL n (56 - 29))) => sTransform_c 29 mo inv (rootsL n (56 - 29)) L n l1 hn2 (by rw [rootsL_len]; omega) (by omega) m0 m1
    (fun k => roots_len n hN 29 (by omega) (by omega) inv k) (fun k hk => roots_in n hN 29 (by omega) (by omega) k (by omega)) 1518500250 (by omega) (by decide) pw cw L (Nat.le_refl _) xs px cx W (by rw [hl, hn2])
    (fun j hj => by
      have hjl : j < xs.length := by rw [hl, hn2]; exact hj
      rw [List.getD_eq_getElem?_getD, List.getElem?_eq_getElem hjl]
      have h := hall _ (List.getElem_mem hjl)
      exact len_start _ 1073741824 1518500250 (by decide) (by omega) h) (by rw [← hn2]; exact v1) v2
  rw [← hn2] at HTR
  clear l0 l1 hn hN hnl hall hx m0 m1 hn2 hl
  generalize sL 29 mo inv (rootsL n (56 - 29)) L xs = RL at *
  have hwl := rootsL_len n (56 - 29)
  generalize rootsL n (56 - 29) = ws at *
  go_enter Tryz.func4, Tryz.ntmps4
  go_wp2_with (first | (go_at_call 13; refine (HL.out _).mono ?_; rintro e wz ⟨rfl, hwz⟩; subst wz) | (go_at_call 14; refine (HB.out _).mono ?_; rintro e wz ⟨rfl, hwz⟩; subst wz))
  have R0 := CellsAt.new w 37 #[.int .i64 29, .int .i64 mo, .bool inv]
  refine (HM.out _).mono ?_
  rintro e w1 ⟨rfl, g1⟩
  have R1 := R0.gr g1
  have g1' := Gr.trans ((Gr.refl w).alloc _ _) g1
  have vx1 := vx.gr g1'
  clear R0 g1
  go_wp2_with fail
  refine (HW.out _ vx1).mono ?_
  rintro e w2 ⟨rfl, g2⟩
  have R2 := R1.gr g2
  have vx2 := vx1.gr g2
  have z2 := g1'.trans g2
  clear R1 g2 g1' vx1 vx
  go_wp2_with fail
  refine (HT.out _).mono ?_
  rintro e w3 ⟨v3, rfl, hv3, g3⟩
  obtain ⟨pw, cw, hvw⟩ := hv3.len
  rw [hwl, Int.toNat_natCast] at hvw
  subst hvw
  have R3 := R2.gr g3
  have vx3 := vx2.gr g3
  have z3 := z2.trans g3
  have c0 := R3.cell 0
  have c1 := R3.cell 1
  have c2 := R3.cell 2
  simp only [List.getElem?_toArray, List.getElem?_cons_zero, List.getElem?_cons_succ] at c0 c1 c2
  have lR := R3.lt
  clear R2 vx2 z2 g3
  go_wp2_with fail
  refine (HTR.out pw cw _ vx3 hv3).mono ?_
  rintro e w4 ⟨v4, rfl, hv4, g4⟩
  go_wp2_with fail
  go_ret2
  exact ⟨_, rfl, hv4, z3.trans g4⟩


end Go.Proofs.YtmhcbphkkcmecaaGreat
