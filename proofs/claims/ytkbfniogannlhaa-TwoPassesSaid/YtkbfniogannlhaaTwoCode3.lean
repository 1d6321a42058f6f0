/- What package two's passError, pair in numbers, and Pair answer. -/
import Derived.Test.YtkbfniogannlhaaTwoCode2
import Derived.Test.YtkbfniogannlhaaRef10d
namespace Go.Proofs.Ytkbfniogannlhaa
open Go.ChangeShapes Go.WideShapes Go.ChangeAt Go.RowKit
set_option linter.unusedVariables false

theorem log08_none (n : Nat) (h : ¬ ∃ L, IsLog (n : Int) L) (w : World) : Calls Try.prog 45 #[.int .i64 n] w fun e w' => e = .returned (.tuple #[.int .i64 0, .int .i64 3]) ∧ w' = w := by
  have h4 : (n : Int) ≠ 4 := fun e => h ⟨2, by omega, by omega, by rw [e]; try rfl⟩
  have h8 : (n : Int) ≠ 8 := fun e => h ⟨3, by omega, by omega, by rw [e]; try rfl⟩
  have h16 : (n : Int) ≠ 16 := fun e => h ⟨4, by omega, by omega, by rw [e]; try rfl⟩
  have h32 : (n : Int) ≠ 32 := fun e => h ⟨5, by omega, by omega, by rw [e]; try rfl⟩
  have h64 : (n : Int) ≠ 64 := fun e => h ⟨6, by omega, by omega, by rw [e]; try rfl⟩
  exact log08_no n h4 h8 h16 h32 h64 w

set_option maxHeartbeats 2000000 in
theorem tErr_c (px pw : Option Addr) (cx cw : Nat) (xs ws : List Gi) (n m : Nat) (hh : Int) (part : Bool) (b s mo e : Int) (inx inw : Bool) (hp : part = true ↔ HalfOk2 hh n) (hx : inx = allIn 2147483648 xs) (hw : ∀ B : Nat, b = (B : Int) → B ≤ 29 → inw = allIn (2 ^ B) ws)
    (h : WhyIs n m part b s mo inx inw e) (w : World) (hvx : CxsAt w (.slice px n cx) xs) (hvw : CxsAt w (.slice pw m cw) ws) :
    Calls Try.prog 29 #[.agg #[.int .i64 b, .int .i64 s, .int .i64 mo], .slice px n cx, .slice pw m cw, .int .i64 hh] w fun e' w' => e' = .returned (.int .i64 e) ∧ Gr w w' := by
  have VX := Lib.hid hvx
  have VW := Lib.hid hvw
  have HP := Lib.hid fun (hn : n ≤ 70) => tHalves_c hh n hn part hp
  have nl : ∀ L, IsLog (n : Int) L → n ≤ 70 := fun L hL => by rcases isLog_cases hL with h | h | h | h | h <;> omega
  clear hvx hvw hp
  rcases h with ⟨h1, rfl⟩ | ⟨⟨L, h1⟩, h2, rfl⟩ | ⟨⟨L, h1⟩, h2, h3, rfl⟩ | ⟨⟨L, h1⟩, h2, h3, h4, h5, rfl⟩ | ⟨⟨L, h1⟩, h2, h3, h4, h5, h6, rfl⟩
  · have HL := Lib.hid (log08_none n h1)
    clear h1 hx hw nl
    go_enter Try.func29, Try.ntmps29
    go_wp2_with (first | (go_at_call 45; refine (HL.out _).mono ?_; rintro e wz ⟨rfl, rfl⟩))
    go_ret
    exact ⟨rfl, (Gr.refl _).alloc _ _⟩
  · have HL := Lib.hid (log08_yes n L h1)
    have hne : ((m : Int) != n) = true := by simp; omega
    clear h1 hx hw h2 nl
    go_enter Try.func29, Try.ntmps29
    go_wp2_with (first | (go_at_call 45; refine (HL.out _).mono ?_; rintro e wz ⟨rfl, rfl⟩))
    go_ret
    exact ⟨rfl, (Gr.refl _).alloc _ _⟩
  · have HL := Lib.hid (log08_yes n L h1)
    have HP2 := Lib.hid (HP.out (nl L h1))
    subst h2
    clear h1 hx hw HP nl
    rcases h3 with rfl | h3
    · go_enter Try.func29, Try.ntmps29
      go_wp2_with (first | (go_at_call 45; refine (HL.out _).mono ?_; rintro e wz ⟨rfl, rfl⟩) | (go_at_call 46; refine (HP2.out _).mono ?_; rintro e wz ⟨rfl, rfl⟩))
      go_ret
      exact ⟨rfl, (Gr.refl _).alloc _ _⟩
    · have HS := Lib.hid (tMayBe_no b s mo h3)
      clear h3
      cases part
      · go_enter Try.func29, Try.ntmps29
        go_wp2_with (first | (go_at_call 45; refine (HL.out _).mono ?_; rintro e wz ⟨rfl, rfl⟩) | (go_at_call 46; refine (HP2.out _).mono ?_; rintro e wz ⟨rfl, rfl⟩))
        go_ret
        exact ⟨rfl, (Gr.refl _).alloc _ _⟩
      · go_enter Try.func29, Try.ntmps29
        go_wp2_with (first | (go_at_call 45; refine (HL.out _).mono ?_; rintro e wz ⟨rfl, rfl⟩) | (go_at_call 46; refine (HP2.out _).mono ?_; rintro e wz ⟨rfl, rfl⟩))
        refine (HS.out _).mono ?_
        rintro e w2 ⟨rfl, g2⟩
        go_wp2_with fail
        go_ret
        exact ⟨rfl, ((Gr.refl _).alloc _ _).trans g2⟩
  · have HL := Lib.hid (log08_yes n L h1)
    have HP2 := Lib.hid (HP.out (nl L h1))
    have HS := Lib.hid (tMayBe_yes b s mo h4)
    subst h2
    subst h3
    obtain ⟨B, rfl⟩ : ∃ B : Nat, b = (B : Int) := ⟨b.toNat, by have := h4.1.1; omega⟩
    have hB : B ≤ 29 := by have := h4.1.2; omega
    have HN := Lib.hid fun W (hW : CxsAt W (.slice px m cx) xs) => tWithin_c _ xs 2147483648 (by omega) (by omega) W hW
    have hPb : (2 : Int) ^ B ≤ 2147483648 := pow_le31 B (by omega)
    have hP0 := pow_pos2 B
    have hPw : wrap64 (2 ^ B) = 2 ^ B := IntWalk.wrap64_in _ ⟨by omega, by omega⟩
    have HR := Lib.hid fun W (hW : CxsAt W (.slice pw m cw) ws) => tWithin_c _ ws (2 ^ B) (by omega) hPb W hW
    rw [← hx] at HN
    rw [← hw B rfl hB] at HR
    rw [← hPw] at HR
    clear h1 hx hw h4 HP nl hPb hP0 hPw
    cases inx
    · clear HR h5
      go_enter Try.func29, Try.ntmps29
      go_wp2_with (first | (go_at_call 45; refine (HL.out _).mono ?_; rintro e wz ⟨rfl, rfl⟩) | (go_at_call 46; refine (HP2.out _).mono ?_; rintro e wz ⟨rfl, rfl⟩))
      refine (HS.out _).mono ?_
      rintro e w2 ⟨rfl, g2⟩
      have gw2 := ((Gr.refl _).alloc _ _).trans g2
      go_wp2_with fail
      refine (HN.out _ (VX.out.gr gw2)).mono ?_
      rintro e w3 ⟨rfl, g3⟩
      go_wp2_with fail
      go_ret
      exact ⟨rfl, gw2.trans g3⟩
    · rw [Bool.true_and] at h5
      subst h5
      go_enter Try.func29, Try.ntmps29
      go_wp2_with (first | (go_at_call 45; refine (HL.out _).mono ?_; rintro e wz ⟨rfl, rfl⟩) | (go_at_call 46; refine (HP2.out _).mono ?_; rintro e wz ⟨rfl, rfl⟩))
      refine (HS.out _).mono ?_
      rintro e w2 ⟨rfl, g2⟩
      have gw2 := ((Gr.refl _).alloc _ _).trans g2
      go_wp2_with fail
      refine (HN.out _ (VX.out.gr gw2)).mono ?_
      rintro e w3 ⟨rfl, g3⟩
      have gw3 := gw2.trans g3
      have c0 := (g2.trans g3).cell (p := ⟨w.heap.size, 0, none⟩) (by simp)
      go_wp2_with fail
      refine (HR.out _ (VW.out.gr gw3)).mono ?_
      rintro e w4 ⟨rfl, g4⟩
      go_wp2_with fail
      go_ret
      exact ⟨rfl, gw3.trans g4⟩
  · have HL := Lib.hid (log08_yes n L h1)
    have HP2 := Lib.hid (HP.out (nl L h1))
    have HS := Lib.hid (tMayBe_yes b s mo h4)
    subst h2
    subst h3
    subst h5
    subst h6
    obtain ⟨B, rfl⟩ : ∃ B : Nat, b = (B : Int) := ⟨b.toNat, by have := h4.1.1; omega⟩
    have hB : B ≤ 29 := by have := h4.1.2; omega
    have HN := Lib.hid fun W (hW : CxsAt W (.slice px m cx) xs) => tWithin_c _ xs 2147483648 (by omega) (by omega) W hW
    have hPb : (2 : Int) ^ B ≤ 2147483648 := pow_le31 B (by omega)
    have hP0 := pow_pos2 B
    have hPw : wrap64 (2 ^ B) = 2 ^ B := IntWalk.wrap64_in _ ⟨by omega, by omega⟩
    have HR := Lib.hid fun W (hW : CxsAt W (.slice pw m cw) ws) => tWithin_c _ ws (2 ^ B) (by omega) hPb W hW
    rw [← hx] at HN
    rw [← hw B rfl hB] at HR
    rw [← hPw] at HR
    clear h1 hx hw h4 HP nl hPb hP0 hPw
    go_enter Try.func29, Try.ntmps29
    go_wp2_with (first | (go_at_call 45; refine (HL.out _).mono ?_; rintro e wz ⟨rfl, rfl⟩) | (go_at_call 46; refine (HP2.out _).mono ?_; rintro e wz ⟨rfl, rfl⟩))
    refine (HS.out _).mono ?_
    rintro e w2 ⟨rfl, g2⟩
    have gw2 := ((Gr.refl _).alloc _ _).trans g2
    go_wp2_with fail
    refine (HN.out _ (VX.out.gr gw2)).mono ?_
    rintro e w3 ⟨rfl, g3⟩
    have gw3 := gw2.trans g3
    have c0 := (g2.trans g3).cell (p := ⟨w.heap.size, 0, none⟩) (by simp)
    go_wp2_with fail
    refine (HR.out _ (VW.out.gr gw3)).mono ?_
    rintro e w4 ⟨rfl, g4⟩
    go_wp2_with fail
    go_ret
    exact ⟨rfl, gw3.trans g4⟩

/-- A pair in numbers. -/
theorem tPair_c (a b w : Gi) (bits s : Nat) (mo : Int) (hb : bits ≤ 29) (hs : s ≤ 3) (m0 : 0 ≤ mo) (m1 : mo ≤ 2) (ha : absI a.re ≤ 2147483648 ∧ absI a.im ≤ 2147483648) (hbb : absI b.re ≤ 2147483648 ∧ absI b.im ≤ 2147483648) (hw : absI w.re ≤ 2 ^ bits ∧ absI w.im ≤ 2 ^ bits) (W : World) :
    Calls Try.prog 23 #[.agg #[.int .i64 bits, .int .i64 s, .int .i64 mo], .agg #[.int .i64 a.re, .int .i64 a.im], .agg #[.int .i64 b.re, .int .i64 b.im], .agg #[.int .i64 w.re, .int .i64 w.im]] W fun e w' => e = .returned (.tuple #[.agg #[.int .i64 (pairUp bits s mo a b w).re, .int .i64 (pairUp bits s mo a b w).im], .agg #[.int .i64 (pairDown bits s mo a b w).re, .int .i64 (pairDown bits s mo a b w).im]]) ∧ Gr W w' := by
  obtain ⟨hm, h1, h2, h3, h4⟩ := pair_nums a b w bits hb ha hbb hw
  have m1' := hm b.re w.re (.inl rfl) (.inl rfl)
  have m2' := hm b.im w.im (.inr rfl) (.inr rfl)
  have m3' := hm b.re w.im (.inl rfl) (.inr rfl)
  have m4' := hm b.im w.re (.inr rfl) (.inl rfl)
  have a1 := absI_le.1 ha.1
  have a2 := absI_le.1 ha.2
  have b1 := absI_le.1 hbb.1
  have b2 := absI_le.1 hbb.2
  have w1 := absI_le.1 hw.1
  have w2 := absI_le.1 hw.2
  have HM := cxtimes_ok a.re a.im (2 ^ bits) 0 (by simp only [Bool.or_eq_true, Bool.and_eq_true, inB_iff]; omega)
  rw [Int.mul_zero, Int.mul_zero, Int.sub_zero, Int.zero_add] at HM
  have hsn : ((bits : Int) + s).toNat = bits + s := by omega
  have HF := cxshift_ok (a.re * 2 ^ bits + (gmul b w).re) (a.im * 2 ^ bits + (gmul b w).im) ((bits : Int) + s) mo (by unfold gmul; simp only; omega) (by unfold gmul; simp only; omega) (by omega) (by omega) m0 m1
  have HG := cxshift_ok (a.re * 2 ^ bits - (gmul b w).re) (a.im * 2 ^ bits - (gmul b w).im) ((bits : Int) + s) mo (by unfold gmul; simp only; omega) (by unfold gmul; simp only; omega) (by omega) (by omega) m0 m1
  rw [hsn] at HF HG
  exact tPair_of a.re a.im b.re b.im w.re w.im bits s mo (2 ^ bits) ((bits : Int) + s) (a.re * 2 ^ bits) (a.im * 2 ^ bits) (gmul b w).re (gmul b w).im (a.re * 2 ^ bits + (gmul b w).re) (a.im * 2 ^ bits + (gmul b w).im) (a.re * 2 ^ bits - (gmul b w).re) (a.im * 2 ^ bits - (gmul b w).im) _ _ _ _
    (by rw [Int.toNat_natCast, show min bits 64 = bits by omega]; exact IntWalk.i64_in _ ⟨by omega, by omega⟩) (by omega)
    (Lib.hid (tDown_c bits s mo _ (IntWalk.i64_in _ ⟨by omega, by omega⟩)))
    (Lib.hid HM)
    (Lib.hid (cxtimes_ok b.re b.im w.re w.im (by simp only [Bool.or_eq_true, Bool.and_eq_true, inB_iff]; omega)))
    (Lib.hid (cxsum_ok _ _ _ _ (by simp only [Bool.and_eq_true, inB_iff]; unfold gmul; simp only; omega)))
    (Lib.hid (cxless_ok _ _ _ _ (by simp only [Bool.and_eq_true, inB_iff]; unfold gmul; simp only; omega)))
    (Lib.hid HF) (Lib.hid HG) W

end Go.Proofs.Ytkbfniogannlhaa
