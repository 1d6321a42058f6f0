/- What reference 10's functions on settings, roots and halves answer. · What reference 10's Up and Down answer. · Reference 10's pairs and roots, in numbers. · Why a pass of kernel 2 or 4 may not be: what reference 10's May answers. -/
import Derived.Test.YtpkkokcidbcopaaGreatTwoMath
import Derived.Test.YtpkkokcidbcopaaGreatRef09
import Derived.Test.YtpkkokcidbcopaaGreatCxs
import Derived.Test.YtpkkokcidbcopaaGreatFlip
import Derived.Deep.Cut
import Derived.Deep.CutRange
namespace Go.Proofs.YtpkkokcidbcopaaGreat
open Go.ChangeShapes Go.WideShapes Go.ChangeAt Go.RowKit
set_option linter.unusedVariables false
set_option maxRecDepth 100000

/-- May bits, a shift and a mode be? -/
def SetsOk (b s mo : Int) : Prop := (0 ≤ b ∧ b ≤ 29) ∧ (0 ≤ s ∧ s ≤ 3) ∧ 0 ≤ mo ∧ mo ≤ 2

theorem pow08_c' (k : Nat) (p : Int) (h : (2 : Int) ^ k = p) (h1 : k ≤ 62) (w : World) :
    Calls Tryz.prog 40 #[.int .i64 (k : Int)] w fun e w' => e = .returned (.int .i64 p) ∧ w' = w := by
  have := pow_c (k : Int) (by omega) (by omega) w
  rwa [Int.toNat_natCast, h] at this

/-- Which halves may be. -/
def HalfOk (h : Int) (n : Nat) : Prop := ∃ k : Nat, 2 ^ k < n ∧ h = ((2 ^ k : Nat) : Int)

end Go.Proofs.YtpkkokcidbcopaaGreat

namespace Go.Proofs.YtpkkokcidbcopaaGreat
open Go.ChangeShapes Go.WideShapes Go.ChangeAt Go.RowKit
set_option linter.unusedVariables false

end Go.Proofs.YtpkkokcidbcopaaGreat

namespace Go.Proofs.YtpkkokcidbcopaaGreat
open Go.ChangeShapes Go.WideShapes Go.ChangeAt Go.RowKit
set_option linter.unusedVariables false

/-- The numbers of a pair: nothing runs over. -/
theorem pair_nums (a b w : Gi) (bits : Nat) (hb : bits ≤ 29) (ha : absI a.re ≤ 2147483648 ∧ absI a.im ≤ 2147483648) (hbb : absI b.re ≤ 2147483648 ∧ absI b.im ≤ 2147483648) (hw : absI w.re ≤ 2 ^ bits ∧ absI w.im ≤ 2 ^ bits) :
    (∀ x y : Int, (x = b.re ∨ x = b.im) → (y = w.re ∨ y = w.im) → -1152921504606846976 ≤ x * y ∧ x * y ≤ 1152921504606846976) ∧
    (-1152921504606846976 ≤ a.re * 2 ^ bits ∧ a.re * 2 ^ bits ≤ 1152921504606846976) ∧ (-1152921504606846976 ≤ a.im * 2 ^ bits ∧ a.im * 2 ^ bits ≤ 1152921504606846976) ∧ (2 : Int) ^ bits ≤ 536870912 ∧ 0 < (2 : Int) ^ bits := by
  have hp := pow_pos2 bits
  have hp2 : (2 : Int) ^ bits ≤ 536870912 := by
    have h1 : (2 : Nat) ^ bits ≤ 2 ^ 29 := Nat.pow_le_pow_right (by decide) hb
    have h2 : ((2 ^ bits : Nat) : Int) ≤ ((2 ^ 29 : Nat) : Int) := Int.ofNat_le.2 h1
    rw [Int.natCast_pow] at h2
    simpa using h2
  have hq : (2147483648 : Int) * 2 ^ bits ≤ 1152921504606846976 := by omega
  have a1 := absI_le.1 ha.1
  have a2 := absI_le.1 ha.2
  have b1 := absI_le.1 hbb.1
  have b2 := absI_le.1 hbb.2
  have w1 := absI_le.1 hw.1
  have w2 := absI_le.1 hw.2
  have m1 := mulG_bd a.re (2 ^ bits) 2147483648 (2 ^ bits) (by omega) a1 (by omega)
  have m2 := mulG_bd a.im (2 ^ bits) 2147483648 (2 ^ bits) (by omega) a2 (by omega)
  refine ⟨fun x y hx hy => ?_, by omega, by omega, hp2, hp⟩
  have hx2 : -2147483648 ≤ x ∧ x ≤ 2147483648 := by rcases hx with rfl | rfl <;> assumption
  have hy2 : -(2 ^ bits) ≤ y ∧ y ≤ 2 ^ bits := by rcases hy with rfl | rfl <;> assumption
  have m3 := mulG_bd x y 2147483648 (2 ^ bits) (by omega) hx2 hy2
  generalize x * y = t at *
  omega

theorem root10_c (v : Value) (ws : List Gi) (k : Nat) (inv : Bool) (hk : k < ws.length) (hb : ∀ a ∈ ws, absI a.im ≤ 4611686018427387904) (w : World) (hv : CxsAt w v ws) :
    Calls Tryz.prog 24 #[v, .int .i64 k, .bool inv] w fun e w' => e = .returned (.agg #[.int .i64 (rootOf ws inv k).re, .int .i64 (rootOf ws inv k).im]) ∧ Gr w w' := by
  obtain ⟨x, hx⟩ := get_of_lt hk
  obtain ⟨b, o, cap, rfl, hlen, hbl, hc⟩ := hv.at (by intro e; rw [e] at hk; simp at hk)
  have h1 := (hc k x hx).1
  have h2 := (hc k x hx).2
  have hbd := absI_le.1 (hb x (List.mem_of_getElem? hx))
  have hg : ws.getD k ⟨0, 0⟩ = x := by rw [List.getD_eq_getElem?_getD, hx]; rfl
  have HC := Lib.hid (rconj_c x.re x.im (-x.im) (IntWalk.wrap64_in _ (by omega)))
  have hki : (k : Int) < ws.length := by omega
  unfold rootOf
  rw [hg]
  obtain ⟨re, im⟩ := x
  simp only at h1 h2 HC
  clear hc hv hb hbd hx hg
  cases inv
  · simp only [Bool.false_eq_true, if_false]
    go_enter Tryz.func24, Tryz.ntmps24
    go_wp2_with fail
    refine bodyPost_ret (v := .agg #[.int .i64 re, .int .i64 im]) ?_ rfl ⟨rfl, ?_⟩
    · simp [results, Tryz.results24, go_sem]
    · exact by repeat (first | exact Gr.refl _ | assumption | apply Gr.drew | apply Gr.alloc | (refine Gr.setCell ?_ (by first | (simp; done) | (simp; omega)) _))
  · simp only [if_true, Gi.conj]
    go_enter Tryz.func24, Tryz.ntmps24
    go_wp2_with fail
    have R0 := CellsAt.new w 24 #[.int .i64 0, .int .i64 0]
    have g0 := (Gr.refl w).alloc #[.int .i64 0, .int .i64 0] 24
    refine (HC.out _).mono ?_
    rintro e w2 ⟨rfl, g2⟩
    have R2 := R0.gr g2
    have gw := g0.trans g2
    have c0 := R2.cell 0
    have c1 := R2.cell 1
    have f0 := R2.frozen 0
    have f1 := R2.frozen 1
    have hl2 := R2.lt
    simp only [List.getElem?_toArray, List.getElem?_cons_zero, List.getElem?_cons_succ] at c0 c1
    clear R0 g0 R2 g2
    go_wp2_with fail
    refine bodyPost_ret (v := .agg #[.int .i64 re, .int .i64 (-im)]) ?_ rfl ⟨rfl, ?_⟩
    · simp [results, Tryz.f24, go_sem, c0, c1]
    · exact Gr.setCell (Gr.setCell gw (by simp) _) (by simp) _

end Go.Proofs.YtpkkokcidbcopaaGreat

namespace Go.Proofs.YtpkkokcidbcopaaGreat
open Go.ChangeShapes Go.WideShapes Go.ChangeAt Go.RowKit
set_option linter.unusedVariables false

/-- Why a pass of n numbers, m roots, may not be: e; 0: it may. part: its halves or quarters may be; inx, inw: no part is too great. -/
def WhyIs (n m : Nat) (part : Bool) (b s mo : Int) (inx inw : Bool) (e : Int) : Prop :=
  ((¬ ∃ L, IsLog (n : Int) L) ∧ e = 3) ∨
  ((∃ L, IsLog (n : Int) L) ∧ m ≠ n ∧ e = 5) ∨
  ((∃ L, IsLog (n : Int) L) ∧ m = n ∧ (part = false ∨ ¬ SetsOk b s mo) ∧ e = 1) ∨
  ((∃ L, IsLog (n : Int) L) ∧ m = n ∧ part = true ∧ SetsOk b s mo ∧ (inx && inw) = false ∧ e = 2) ∨
  ((∃ L, IsLog (n : Int) L) ∧ m = n ∧ part = true ∧ SetsOk b s mo ∧ inx = true ∧ inw = true ∧ e = 0)

theorem whyIs_ex (n m : Nat) (part : Bool) (b s mo : Int) (inx inw : Bool) : ∃ e, WhyIs n m part b s mo inx inw e := by
  unfold WhyIs
  by_cases h1 : ∃ L, IsLog (n : Int) L
  · by_cases h2 : m = n
    · by_cases h3 : part = true ∧ SetsOk b s mo
      · by_cases h4 : (inx && inw) = true
        · rw [Bool.and_eq_true] at h4
          exact ⟨0, .inr (.inr (.inr (.inr ⟨h1, h2, h3.1, h3.2, h4.1, h4.2, rfl⟩)))⟩
        · exact ⟨2, .inr (.inr (.inr (.inl ⟨h1, h2, h3.1, h3.2, by simpa using h4, rfl⟩)))⟩
      · refine ⟨1, .inr (.inr (.inl ⟨h1, h2, ?_, rfl⟩))⟩
        cases part
        · exact .inl rfl
        · exact .inr fun h => h3 ⟨rfl, h⟩
    · exact ⟨5, .inr (.inl ⟨h1, h2, rfl⟩)⟩
  · exact ⟨3, .inl ⟨h1, rfl⟩⟩

theorem rlog08_none (n : Nat) (h : ¬ ∃ L, IsLog (n : Int) L) (w : World) : Calls Tryz.prog 20 #[.int .i64 n] w fun e w' => e = .returned (.int .i64 (-1)) ∧ w' = w := by
  have h4 : (n : Int) ≠ 4 := fun e => h ⟨2, by omega, by omega, by rw [e]; try rfl⟩
  have h8 : (n : Int) ≠ 8 := fun e => h ⟨3, by omega, by omega, by rw [e]; try rfl⟩
  have h16 : (n : Int) ≠ 16 := fun e => h ⟨4, by omega, by omega, by rw [e]; try rfl⟩
  have h32 : (n : Int) ≠ 32 := fun e => h ⟨5, by omega, by omega, by rw [e]; try rfl⟩
  have h64 : (n : Int) ≠ 64 := fun e => h ⟨6, by omega, by omega, by rw [e]; try rfl⟩
  exact rlog08_no n h4 h8 h16 h32 h64 w

end Go.Proofs.YtpkkokcidbcopaaGreat
