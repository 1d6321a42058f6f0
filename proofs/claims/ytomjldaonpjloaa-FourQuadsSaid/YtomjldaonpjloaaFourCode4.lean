/- A quad, the roots asked for, and a block's quads, in whole complex numbers. -/
import Derived.Test.YtomjldaonpjloaaFourCode3
import Derived.Test.YtomjldaonpjloaaGiCalls
namespace Go.Proofs.Ytomjldaonpjloaa
open Go.ChangeShapes Go.WideShapes Go.ChangeAt Go.RowKit
set_option linter.unusedVariables false
set_option maxRecDepth 100000

theorem Bd.pow {l : Int} {bits : Nat} {a : Gi} (hb : bits ≤ 29) (h : Bd (2 ^ bits) a) : Bd 1073741824 a := by
  refine h.mono ?_
  have h1 : (2 : Nat) ^ bits ≤ 2 ^ 29 := Nat.pow_le_pow_right (by decide) hb
  have h2 : ((2 ^ bits : Nat) : Int) ≤ ((2 ^ 29 : Nat) : Int) := Int.ofNat_le.2 h1
  rw [Int.natCast_pow] at h2
  simp at h2
  omega
theorem pow29 (bits : Nat) (hb : bits ≤ 29) : (1 : Int) ≤ 2 ^ bits ∧ (2 : Int) ^ bits ≤ 536870912 := by
  have h1 : (2 : Nat) ^ bits ≤ 2 ^ 29 := Nat.pow_le_pow_right (by decide) hb
  have h2 : ((2 ^ bits : Nat) : Int) ≤ ((2 ^ 29 : Nat) : Int) := Int.ofNat_le.2 h1
  rw [Int.natCast_pow] at h2
  have := pow_pos2 bits
  simp at h2
  omega

/-- A quad's terms. -/
def qterm (bits : Nat) (a w : Nat → Gi) (k : Nat) : Gi := if k = 0 then gscale bits (a 0) else gmul (a k) (w k)
theorem qterm_bd (bits : Nat) (hb : bits ≤ 29) (a w : Nat → Gi) (ha : ∀ k, k < 4 → Bd 2147483648 (a k)) (hw : ∀ k, k < 4 → 1 ≤ k → Bd (2 ^ bits) (w k)) (k : Nat) (hk : k < 4) : Bd 2305843009213693952 (qterm bits a w k) ∧ (k = 0 → Bd 1152921504606846976 (qterm bits a w k)) := by
  have hp := pow29 bits hb
  unfold qterm
  by_cases e : k = 0
  · rw [if_pos e]
    have := (ha 0 (by omega)).scale bits
    exact ⟨this.mono (by omega), fun _ => this.mono (by omega)⟩
  · rw [if_neg e]
    have := (ha k hk).mul (hw k hk (by omega))
    exact ⟨this.mono (by omega), fun h => absurd h e⟩

/-- The turns of a quad's terms. -/
def qturns (inv : Bool) (q : Int) (k : Nat) : Int := if k = 0 then 0 else if k = 1 then (if inv then q else -q) else if k = 2 then (if inv then 2 * -q else 2 * q) else (if inv then -q else q)
/-- Sums of the first terms, turned. -/
def qsum (inv : Bool) (q : Int) (t : Nat → Gi) : Nat → Gi
  | 0 => ⟨0, 0⟩
  | k + 1 => gadd (qsum inv q t k) (Gi.turn (qturns inv q k) (t k))
theorem turn_neg2 (q : Int) (a : Gi) : Gi.turn (2 * -q) a = Gi.turn (2 * q) a := by
  unfold Gi.turn
  have h : (2 * -q) % 4 = (2 * q) % 4 := by omega
  rw [h]
theorem turn_zero (a : Gi) : Gi.turn 0 a = a := rfl
theorem qsum_four (inv : Bool) (q : Int) (t : Nat → Gi) : qsum inv q t 4 = quadSum inv q (t 0) (t 1) (t 2) (t 3) := by
  cases inv
  · simp [qsum, qturns, quadSum, turns1, turn_zero, gadd]
  · simp [qsum, qturns, quadSum, turns1, turn_zero, turn_neg2, gadd]
theorem qsum_bd (inv : Bool) (q : Int) (t : Nat → Gi) (h0 : Bd 1152921504606846976 (t 0)) (h : ∀ k, k < 4 → Bd 2305843009213693952 (t k)) (k : Nat) (hk : k ≤ 4) : Bd (1152921504606846976 * 7) (qsum inv q t k) := by
  have b0 : Bd 0 (qsum inv q t 0) := Bd.mk (by simp [qsum])
  have b1 := b0.add (h0.turn (qturns inv q 0))
  have b2 := b1.add ((h 1 (by omega)).turn (qturns inv q 1))
  have b3 := b2.add ((h 2 (by omega)).turn (qturns inv q 2))
  have b4 := b3.add ((h 3 (by omega)).turn (qturns inv q 3))
  have hc : k = 0 ∨ k = 1 ∨ k = 2 ∨ k = 3 ∨ k = 4 := by omega
  rcases hc with rfl | rfl | rfl | rfl | rfl
  · exact b0.mono (by omega)
  · exact Bd.mono b1 (by omega)
  · exact Bd.mono b2 (by omega)
  · exact Bd.mono b3 (by omega)
  · exact Bd.mono b4 (by omega)

theorem fTurned_c (b s mo : Int) (inv : Bool) (t : Nat → Gi) (h0 : Bd 1152921504606846976 (t 0)) (h : ∀ k, k < 4 → Bd 2305843009213693952 (t k)) (q : Nat) (hq : q < 4) (w : World) :
    Calls Try.prog 53 #[.agg #[.int .i64 b, .int .i64 s, .int .i64 mo, .bool inv], .agg #[.int .i64 (t 0).re, .int .i64 (t 0).im, .int .i64 (t 1).re, .int .i64 (t 1).im, .int .i64 (t 2).re, .int .i64 (t 2).im, .int .i64 (t 3).re, .int .i64 (t 3).im], .int .i64 (q : Int)] w fun e w' => e = .returned (.agg #[.int .i64 (quadSum inv q (t 0) (t 1) (t 2) (t 3)).re, .int .i64 (quadSum inv q (t 0) (t 1) (t 2) (t 3)).im]) ∧ Gr w w' := by
  have HS : ∀ k, k < 4 → wrap64 ((qsum inv q t k).re + (Gi.turn (qturns inv q k) (t k)).re) = (qsum inv q t (k + 1)).re ∧ wrap64 ((qsum inv q t k).im + (Gi.turn (qturns inv q k) (t k)).im) = (qsum inv q t (k + 1)).im := by
    intro k hk
    have hb := (qsum_bd inv q t h0 h (k + 1) (by omega)).le
    have e : qsum inv q t (k + 1) = gadd (qsum inv q t k) (Gi.turn (qturns inv q k) (t k)) := rfl
    rw [e] at hb ⊢
    unfold gadd at hb ⊢
    exact ⟨IntWalk.wrap64_in _ (by simp only at hb; omega), IntWalk.wrap64_in _ (by simp only at hb; omega)⟩
  have HT : ∀ k, k < 4 → ∀ W, Calls Try.prog 73 #[.agg #[.int .i64 (t k).re, .int .i64 (t k).im], .int .i64 (qturns inv q k)] W fun e w' => e = .returned (.tuple #[.agg #[.int .i64 (Gi.turn (qturns inv q k) (t k)).re, .int .i64 (Gi.turn (qturns inv q k) (t k)).im], .int .i64 0]) ∧ Gr W w' := by
    intro k hk W
    have := (h k hk).le
    exact cxturn_gi (t k) (qturns inv q k) (by omega) W
  rw [← qsum_four]
  cases inv
  · exact fTurned_false b s mo q t (fun k => Gi.turn (qturns false q k) (t k)) (qsum false q t) (qturns false q) (by omega) (by omega) rfl rfl rfl rfl rfl (Lib.hid HS) (Lib.hid HT) w
  · exact fTurned_true b s mo q t (fun k => Gi.turn (qturns true q k) (t k)) (qsum true q t) (qturns true q) (by omega) (by omega) rfl rfl rfl rfl rfl (Lib.hid HS) (Lib.hid HT) w

/-- A quad. -/
theorem fQuad_c (a w : Nat → Gi) (bits s : Nat) (mo : Int) (inv : Bool) (hb : bits ≤ 29) (hs : s ≤ 3) (m0 : 0 ≤ mo) (m1 : mo ≤ 2) (ha : ∀ k, k < 4 → Bd 2147483648 (a k)) (hw : ∀ k, k < 4 → 1 ≤ k → Bd (2 ^ bits) (w k)) (W : World) :
    Calls Try.prog 34 #[.agg #[.int .i64 bits, .int .i64 s, .int .i64 mo, .bool inv], .agg #[.int .i64 (a 0).re, .int .i64 (a 0).im, .int .i64 (a 1).re, .int .i64 (a 1).im, .int .i64 (a 2).re, .int .i64 (a 2).im, .int .i64 (a 3).re, .int .i64 (a 3).im], .agg #[.int .i64 (w 0).re, .int .i64 (w 0).im, .int .i64 (w 1).re, .int .i64 (w 1).im, .int .i64 (w 2).re, .int .i64 (w 2).im, .int .i64 (w 3).re, .int .i64 (w 3).im]] W
      fun e w' => e = .returned (.agg #[.int .i64 (quadOut bits s mo inv 0 (a 0) (a 1) (a 2) (a 3) (w 1) (w 2) (w 3)).re, .int .i64 (quadOut bits s mo inv 0 (a 0) (a 1) (a 2) (a 3) (w 1) (w 2) (w 3)).im, .int .i64 (quadOut bits s mo inv 1 (a 0) (a 1) (a 2) (a 3) (w 1) (w 2) (w 3)).re, .int .i64 (quadOut bits s mo inv 1 (a 0) (a 1) (a 2) (a 3) (w 1) (w 2) (w 3)).im, .int .i64 (quadOut bits s mo inv 2 (a 0) (a 1) (a 2) (a 3) (w 1) (w 2) (w 3)).re, .int .i64 (quadOut bits s mo inv 2 (a 0) (a 1) (a 2) (a 3) (w 1) (w 2) (w 3)).im, .int .i64 (quadOut bits s mo inv 3 (a 0) (a 1) (a 2) (a 3) (w 1) (w 2) (w 3)).re, .int .i64 (quadOut bits s mo inv 3 (a 0) (a 1) (a 2) (a 3) (w 1) (w 2) (w 3)).im]) ∧ Gr W w' := by
  have hp := pow29 bits hb
  have hq := qterm_bd bits hb a w ha hw
  have hT : ∀ k, k < 4 → ∀ W, Calls Try.prog 62 #[.agg #[.int .i64 (a k).re, .int .i64 (a k).im], .agg #[.int .i64 (if k = 0 then (⟨2 ^ bits, 0⟩ : Gi) else w k).re, .int .i64 (if k = 0 then (⟨2 ^ bits, 0⟩ : Gi) else w k).im]] W fun e w' => e = .returned (.tuple #[.agg #[.int .i64 (qterm bits a w k).re, .int .i64 (qterm bits a w k).im], .int .i64 0]) ∧ Gr W w' := by
    intro k hk W
    by_cases e : k = 0
    · subst e
      simp only [if_true]
      have := cxtimes_gi (a 0) ⟨2 ^ bits, 0⟩ (ha 0 hk) (Bd.mk (l := 1073741824) (by simp only; omega)) W
      have e : gmul (a 0) ⟨2 ^ bits, 0⟩ = qterm bits a w 0 := by
        unfold gmul qterm gscale
        simp
      rw [e] at this
      exact this
    · simp only [if_neg e]
      have := cxtimes_gi (a k) (w k) (ha k hk) (Bd.pow hb (l := 0) (hw k hk (by omega))) W
      have e : gmul (a k) (w k) = qterm bits a w k := by
        unfold qterm
        rw [if_neg e]
      rw [e] at this
      exact this
  have hM := fTerms_of bits s mo (2 ^ bits) inv a w (qterm bits a w) (by rw [Int.toNat_natCast, show min bits 64 = bits by omega]; exact IntWalk.i64_in _ ⟨by omega, by omega⟩) (by omega) (Lib.hid hT)
  have h0 := (hq 0 (by omega)).2 rfl
  have hk := fun k hk => (hq k hk).1
  have e0 : qterm bits a w 0 = gscale bits (a 0) := rfl
  have e1 : qterm bits a w 1 = gmul (a 1) (w 1) := rfl
  have e2 : qterm bits a w 2 = gmul (a 2) (w 2) := rfl
  have e3 : qterm bits a w 3 = gmul (a 3) (w 3) := rfl
  have hF : ∀ k : Nat, k < 4 → ∀ W, Calls Try.prog 52 #[.agg #[.int .i64 (quadSum inv k (qterm bits a w 0) (qterm bits a w 1) (qterm bits a w 2) (qterm bits a w 3)).re, .int .i64 (quadSum inv k (qterm bits a w 0) (qterm bits a w 1) (qterm bits a w 2) (qterm bits a w 3)).im], .int .i64 ((bits + s : Nat) : Int), .int .i64 mo] W fun e w' => e = .returned (.tuple #[.agg #[.int .i64 (quadOut bits s mo inv k (a 0) (a 1) (a 2) (a 3) (w 1) (w 2) (w 3)).re, .int .i64 (quadOut bits s mo inv k (a 0) (a 1) (a 2) (a 3) (w 1) (w 2) (w 3)).im], .int .i64 0]) ∧ Gr W w' := by
    intro k _ W
    have hbd := (quadSum_bd inv k _ _ _ _ _ _ h0 (hk 1 (by omega)) (hk 2 (by omega)) (hk 3 (by omega))).le
    unfold quadOut
    rw [← e0, ← e1, ← e2, ← e3]
    exact cxshift_gi _ (bits + s) mo (by omega) (by omega) m0 m1 W
  exact fQuad_of bits s mo ((bits + s : Nat) : Int) inv a w (qterm bits a w) (fun k => quadSum inv k (qterm bits a w 0) (qterm bits a w 1) (qterm bits a w 2) (qterm bits a w 3)) (fun k => quadOut bits s mo inv k (a 0) (a 1) (a 2) (a 3) (w 1) (w 2) (w 3))
    (Lib.hid hM) (Lib.hid fun k hk' W => fTurned_c bits s mo inv (qterm bits a w) h0 hk k hk' W) (Lib.hid (fDown_c bits s mo _ inv (by rw [IntWalk.i64_in _ ⟨by omega, by omega⟩]; omega))) (Lib.hid hF) W

end Go.Proofs.Ytomjldaonpjloaa
