/- Why a pass of kernel 2 or 4 may not be: what reference 10's May answers. -/
import Derived.Test.YtkbfniogannlhaaRef10c
import Derived.Test.YtkbfniogannlhaaRef08
namespace Go.Proofs.Ytkbfniogannlhaa
open Go.ChangeShapes Go.WideShapes Go.ChangeAt Go.RowKit
set_option linter.unusedVariables false

/-- Why a pass of n numbers, m roots, may not be: e; 0: it may. part: its halves or quarters may be; inx, inw: no part is too great. -/
def WhyIs (n m : Nat) (part : Bool) (b s mo : Int) (inx inw : Bool) (e : Int) : Prop :=
  ((¬ ∃ L, IsLog (n : Int) L) ∧ e = 3) ∨
  ((∃ L, IsLog (n : Int) L) ∧ m ≠ n ∧ e = 5) ∨
  ((∃ L, IsLog (n : Int) L) ∧ m = n ∧ (part = false ∨ ¬ SetsOk b s mo) ∧ e = 1) ∨
  ((∃ L, IsLog (n : Int) L) ∧ m = n ∧ part = true ∧ SetsOk b s mo ∧ (inx && inw) = false ∧ e = 2) ∨
  ((∃ L, IsLog (n : Int) L) ∧ m = n ∧ part = true ∧ SetsOk b s mo ∧ inx = true ∧ inw = true ∧ e = 0)

theorem whyIs_ex (n m : Nat) (part : Bool) (b s mo : Int) (inx inw : Bool) : ∃ e, WhyIs n m part b s mo inx inw e := by
  unfold WhyIs
  by_cases h1 : ∃ L, IsLog (n : Int) L
  · by_cases h2 : m = n
    · by_cases h3 : part = true ∧ SetsOk b s mo
      · by_cases h4 : (inx && inw) = true
        · rw [Bool.and_eq_true] at h4
          exact ⟨0, .inr (.inr (.inr (.inr ⟨h1, h2, h3.1, h3.2, h4.1, h4.2, rfl⟩)))⟩
        · exact ⟨2, .inr (.inr (.inr (.inl ⟨h1, h2, h3.1, h3.2, by simpa using h4, rfl⟩)))⟩
      · refine ⟨1, .inr (.inr (.inl ⟨h1, h2, ?_, rfl⟩))⟩
        cases part
        · exact .inl rfl
        · exact .inr fun h => h3 ⟨rfl, h⟩
    · exact ⟨5, .inr (.inl ⟨h1, h2, rfl⟩)⟩
  · exact ⟨3, .inl ⟨h1, rfl⟩⟩

theorem rlog08_none (n : Nat) (h : ¬ ∃ L, IsLog (n : Int) L) (w : World) : Calls Try.prog 32 #[.int .i64 n] w fun e w' => e = .returned (.int .i64 (-1)) ∧ w' = w := by
  have h4 : (n : Int) ≠ 4 := fun e => h ⟨2, by omega, by omega, by rw [e]; try rfl⟩
  have h8 : (n : Int) ≠ 8 := fun e => h ⟨3, by omega, by omega, by rw [e]; try rfl⟩
  have h16 : (n : Int) ≠ 16 := fun e => h ⟨4, by omega, by omega, by rw [e]; try rfl⟩
  have h32 : (n : Int) ≠ 32 := fun e => h ⟨5, by omega, by omega, by rw [e]; try rfl⟩
  have h64 : (n : Int) ≠ 64 := fun e => h ⟨6, by omega, by omega, by rw [e]; try rfl⟩
  exact rlog08_no n h4 h8 h16 h32 h64 w

set_option maxHeartbeats 2000000 in
theorem may10_c (px pw : Option Addr) (cx cw : Nat) (xs ws : List Gi) (n m : Nat) (part : Bool) (b s mo e : Int) (inx inw : Bool) (hn : xs.length = n) (hm : ws.length = m) (hx : inx = allIn 2147483648 xs) (hw : ∀ B : Nat, b = (B : Int) → B ≤ 29 → inw = allIn (2 ^ B) ws)
    (h : WhyIs n m part b s mo inx inw e) (w : World) (hvx : CxsAt w (.slice px n cx) xs) (hvw : CxsAt w (.slice pw m cw) ws) :
    Calls Try.prog 15 #[.slice px n cx, .slice pw m cw, .bool part, .int .i64 b, .int .i64 s, .int .i64 mo] w fun e' w' => e' = .returned (.int .i64 e) ∧ Gr w w' := by
  have VX := Lib.hid hvx
  have VW := Lib.hid hvw
  clear hvx hvw hn hm
  rcases h with ⟨h1, rfl⟩ | ⟨⟨L, h1⟩, h2, rfl⟩ | ⟨⟨L, h1⟩, h2, h3, rfl⟩ | ⟨⟨L, h1⟩, h2, h3, h4, h5, rfl⟩ | ⟨⟨L, h1⟩, h2, h3, h4, h5, h6, rfl⟩
  · have HL := Lib.hid (rlog08_none n h1)
    clear h1 hx hw
    go_enter Try.func15, Try.ntmps15
    go_wp2_with (first | (go_at_call 32; refine (HL.out _).mono ?_; rintro e wz ⟨rfl, rfl⟩))
    go_ret
    exact ⟨rfl, Gr.refl _⟩
  · have HL := Lib.hid (rlog08_yes n L h1)
    have hne : ((m : Int) != n) = true := by simp; omega
    clear h1 hx hw h2
    go_enter Try.func15, Try.ntmps15
    go_wp2_with (first | (go_at_call 32; refine (HL.out _).mono ?_; rintro e wz ⟨rfl, rfl⟩))
    go_ret
    exact ⟨rfl, Gr.refl _⟩
  · have HL := Lib.hid (rlog08_yes n L h1)
    subst h2
    clear h1 hx hw
    rcases h3 with rfl | h3
    · go_enter Try.func15, Try.ntmps15
      go_wp2_with (first | (go_at_call 32; refine (HL.out _).mono ?_; rintro e wz ⟨rfl, rfl⟩))
      go_ret
      exact ⟨rfl, Gr.refl _⟩
    · have HS := Lib.hid (settings10_no b s mo h3)
      clear h3
      cases part
      all_goals
        go_enter Try.func15, Try.ntmps15
        go_wp2_with (first | (go_at_call 32; refine (HL.out _).mono ?_; rintro e wz ⟨rfl, rfl⟩) | (go_at_call 9; refine (HS.out _).mono ?_; rintro e wz ⟨rfl, rfl⟩))
        go_ret
        exact ⟨rfl, Gr.refl _⟩
  · have HL := Lib.hid (rlog08_yes n L h1)
    have HS := Lib.hid (settings10_yes b s mo h4)
    subst h2
    subst h3
    obtain ⟨B, rfl⟩ : ∃ B : Nat, b = (B : Int) := ⟨b.toNat, by have := h4.1.1; omega⟩
    have hB : B ≤ 29 := by have := h4.1.2; omega
    have HN := Lib.hid fun W (hW : CxsAt W (.slice px m cx) xs) => narrow09_c _ xs W hW
    have HR := Lib.hid fun W (hW : CxsAt W (.slice pw m cw) ws) => roots10_c _ ws B _ hB rfl W hW
    rw [← hx] at HN
    rw [← hw B rfl hB] at HR
    clear h1 hx hw h4 hB
    cases inx
    · clear h5 HR
      go_enter Try.func15, Try.ntmps15
      go_wp2_with (first | (go_at_call 32; refine (HL.out _).mono ?_; rintro e wz ⟨rfl, hwz⟩; subst wz) | (go_at_call 9; refine (HS.out _).mono ?_; rintro e wz ⟨rfl, hwz⟩; subst wz))
      refine (HN.out _ VX.out).mono ?_
      rintro e w2 ⟨rfl, g2⟩
      go_wp2_with fail
      go_ret
      exact ⟨rfl, g2⟩
    · obtain rfl : inw = false := by simpa using h5
      clear h5
      go_enter Try.func15, Try.ntmps15
      go_wp2_with (first | (go_at_call 32; refine (HL.out _).mono ?_; rintro e wz ⟨rfl, hwz⟩; subst wz) | (go_at_call 9; refine (HS.out _).mono ?_; rintro e wz ⟨rfl, hwz⟩; subst wz))
      refine (HN.out _ VX.out).mono ?_
      rintro e w2 ⟨rfl, g2⟩
      have V2 := Lib.hid (VW.out.gr g2)
      go_wp2_with fail
      refine (HR.out _ V2.out).mono ?_
      rintro e w3 ⟨rfl, g3⟩
      go_wp2_with fail
      go_ret
      exact ⟨rfl, g2.trans g3⟩
  · have HL := Lib.hid (rlog08_yes n L h1)
    have HS := Lib.hid (settings10_yes b s mo h4)
    subst h2
    subst h3
    subst h5
    subst h6
    obtain ⟨B, rfl⟩ : ∃ B : Nat, b = (B : Int) := ⟨b.toNat, by have := h4.1.1; omega⟩
    have hB : B ≤ 29 := by have := h4.1.2; omega
    have HN := Lib.hid fun W (hW : CxsAt W (.slice px m cx) xs) => narrow09_c _ xs W hW
    have HR := Lib.hid fun W (hW : CxsAt W (.slice pw m cw) ws) => roots10_c _ ws B _ hB rfl W hW
    rw [← hx] at HN
    rw [← hw B rfl hB] at HR
    clear h1 hx hw h4 hB
    go_enter Try.func15, Try.ntmps15
    go_wp2_with (first | (go_at_call 32; refine (HL.out _).mono ?_; rintro e wz ⟨rfl, hwz⟩; subst wz) | (go_at_call 9; refine (HS.out _).mono ?_; rintro e wz ⟨rfl, hwz⟩; subst wz))
    refine (HN.out _ VX.out).mono ?_
    rintro e w2 ⟨rfl, g2⟩
    have V2 := Lib.hid (VW.out.gr g2)
    go_wp2_with fail
    refine (HR.out _ V2.out).mono ?_
    rintro e w3 ⟨rfl, g3⟩
    go_wp2_with fail
    go_ret
    exact ⟨rfl, g2.trans g3⟩

end Go.Proofs.Ytkbfniogannlhaa
