/- Package four's contracts: Quad, Pass. -/
import Derived.Test.YtomjldaonpjloaaFourCode6
namespace Go.Proofs.Ytomjldaonpjloaa
open Go.ChangeShapes Go.WideShapes Go.ChangeAt Go.RowKit
set_option linter.unusedVariables false
set_option maxRecDepth 100000

theorem all_four (l : Int) (f : Nat → Gi) : allIn l ((List.range 4).map (fun i => f (0 + i))) = true ↔ ∀ k, k < 4 → Bd l (f k) := by
  rw [allIn_iff]
  constructor
  · intro h k hk
    have := h (f (0 + k)) (List.mem_map.2 ⟨k, List.mem_range.2 hk, rfl⟩)
    rw [Nat.zero_add] at this
    exact this
  · intro h a ha
    obtain ⟨k, hk, rfl⟩ := List.mem_map.1 ha
    rw [Nat.zero_add]
    exact h k (List.mem_range.1 hk)
theorem all_three (l : Int) (f : Nat → Gi) : allIn l ((List.range 3).map (fun i => f (1 + i))) = true ↔ ∀ k, k < 4 → 1 ≤ k → Bd l (f k) := by
  rw [allIn_iff]
  constructor
  · intro h k hk h1
    have := h (f (1 + (k - 1))) (List.mem_map.2 ⟨k - 1, List.mem_range.2 (by omega), rfl⟩)
    rw [show 1 + (k - 1) = k by omega] at this
    exact this
  · intro h a ha
    obtain ⟨k, hk, rfl⟩ := List.mem_map.1 ha
    have := List.mem_range.1 hk
    exact h (1 + k) (by omega) (by omega)

theorem fourQuad_arg (b s mo : Int) (inv : Bool) (f g : Nat → Gi) (h : ¬ SetsOk2 b s mo) (w : World) :
    Calls Try.prog 17 #[.agg #[.int .i64 (f 0).re, .int .i64 (f 0).im, .int .i64 (f 1).re, .int .i64 (f 1).im, .int .i64 (f 2).re, .int .i64 (f 2).im, .int .i64 (f 3).re, .int .i64 (f 3).im], .agg #[.int .i64 (g 0).re, .int .i64 (g 0).im, .int .i64 (g 1).re, .int .i64 (g 1).im, .int .i64 (g 2).re, .int .i64 (g 2).im, .int .i64 (g 3).re, .int .i64 (g 3).im], .int .i64 b, .int .i64 s, .int .i64 mo, .bool inv] w fun e w' => e = .returned (.tuple #[.agg #[.int .i64 0, .int .i64 0, .int .i64 0, .int .i64 0, .int .i64 0, .int .i64 0, .int .i64 0, .int .i64 0], .int .i64 1]) ∧ Gr w w' :=
  fourQuad_arg_of b s mo inv f g (Lib.hid (fMayBe_no b s mo inv h)) w

theorem fourQuad_range (bits s : Nat) (mo : Int) (inv : Bool) (f g : Nat → Gi) (hS : SetsOk2 bits s mo) (h : ¬ ((∀ k, k < 4 → Bd 2147483648 (f k)) ∧ ∀ k, k < 4 → 1 ≤ k → Bd (2 ^ bits) (g k))) (w : World) :
    Calls Try.prog 17 #[.agg #[.int .i64 (f 0).re, .int .i64 (f 0).im, .int .i64 (f 1).re, .int .i64 (f 1).im, .int .i64 (f 2).re, .int .i64 (f 2).im, .int .i64 (f 3).re, .int .i64 (f 3).im], .agg #[.int .i64 (g 0).re, .int .i64 (g 0).im, .int .i64 (g 1).re, .int .i64 (g 1).im, .int .i64 (g 2).re, .int .i64 (g 2).im, .int .i64 (g 3).re, .int .i64 (g 3).im], .int .i64 bits, .int .i64 s, .int .i64 mo, .bool inv] w fun e w' => e = .returned (.tuple #[.agg #[.int .i64 0, .int .i64 0, .int .i64 0, .int .i64 0, .int .i64 0, .int .i64 0, .int .i64 0, .int .i64 0], .int .i64 2]) ∧ Gr w w' := by
  have hb : bits ≤ 29 := by have := hS.1.2; omega
  have hp := pow29 bits hb
  by_cases h1 : ∀ k, k < 4 → Bd 2147483648 (f k)
  · have h2 : allIn (2 ^ bits) ((List.range 3).map (fun i => g (1 + i))) = false := by
      rw [Bool.eq_false_iff, Ne, all_three]
      exact fun k => h ⟨h1, k⟩
    refine fourQuad_r2_of bits s mo (2 ^ bits) inv f g (Lib.hid (fMayBe_yes bits s mo inv hS)) (Lib.hid fun v W hv => ?_) (by rw [Int.toNat_natCast, show min bits 64 = bits by omega]; exact IntWalk.i64_in _ ⟨by omega, by omega⟩) (by omega) (Lib.hid fun v W hv => ?_) w
    · have := fWithin_c v _ 2147483648 (by omega) (by omega) W hv
      rwa [(all_four _ f).2 h1] at this
    · have := fWithin_c v _ (2 ^ bits) (by omega) (by omega) W hv
      rwa [h2] at this
  · have h2 : allIn 2147483648 ((List.range 4).map (fun i => f (0 + i))) = false := by
      rw [Bool.eq_false_iff, Ne, all_four]
      exact h1
    refine fourQuad_r1_of bits s mo inv f g (Lib.hid (fMayBe_yes bits s mo inv hS)) (Lib.hid fun v W hv => ?_) w
    have := fWithin_c v _ 2147483648 (by omega) (by omega) W hv
    rwa [h2] at this

/-- The quads' numbers. -/
def quadL (bits s : Nat) (mo : Int) (inv : Bool) (f g : Nat → Gi) (q : Nat) : Gi := quadOut bits s mo inv q (f 0) (f 1) (f 2) (f 3) (g 1) (g 2) (g 3)

theorem fourQuad_ok (bits s : Nat) (mo : Int) (inv : Bool) (f g : Nat → Gi) (hS : SetsOk2 bits s mo) (h1 : ∀ k, k < 4 → Bd 2147483648 (f k)) (h2 : ∀ k, k < 4 → 1 ≤ k → Bd (2 ^ bits) (g k)) (w : World) :
    Calls Try.prog 17 #[.agg #[.int .i64 (f 0).re, .int .i64 (f 0).im, .int .i64 (f 1).re, .int .i64 (f 1).im, .int .i64 (f 2).re, .int .i64 (f 2).im, .int .i64 (f 3).re, .int .i64 (f 3).im], .agg #[.int .i64 (g 0).re, .int .i64 (g 0).im, .int .i64 (g 1).re, .int .i64 (g 1).im, .int .i64 (g 2).re, .int .i64 (g 2).im, .int .i64 (g 3).re, .int .i64 (g 3).im], .int .i64 bits, .int .i64 s, .int .i64 mo, .bool inv] w
      fun e w' => e = .returned (.tuple #[.agg #[.int .i64 (quadL bits s mo inv f g 0).re, .int .i64 (quadL bits s mo inv f g 0).im, .int .i64 (quadL bits s mo inv f g 1).re, .int .i64 (quadL bits s mo inv f g 1).im, .int .i64 (quadL bits s mo inv f g 2).re, .int .i64 (quadL bits s mo inv f g 2).im, .int .i64 (quadL bits s mo inv f g 3).re, .int .i64 (quadL bits s mo inv f g 3).im], .int .i64 0]) ∧ Gr w w' := by
  have hb : bits ≤ 29 := by have := hS.1.2; omega
  have hp := pow29 bits hb
  refine fourQuad_ok_of bits s mo (2 ^ bits) inv f g (quadL bits s mo inv f g) (Lib.hid (fMayBe_yes bits s mo inv hS)) (Lib.hid fun v W hv => ?_) (by rw [Int.toNat_natCast, show min bits 64 = bits by omega]; exact IntWalk.i64_in _ ⟨by omega, by omega⟩) (by omega) (Lib.hid fun v W hv => ?_)
    (Lib.hid (fQuad_c f g bits s mo inv hb (by have := hS.2.1.2; omega) hS.2.2.1 hS.2.2.2 h1 h2)) w
  · have := fWithin_c v _ 2147483648 (by omega) (by omega) W hv
    rwa [(all_four _ f).2 h1] at this
  · have := fWithin_c v _ (2 ^ bits) (by omega) (by omega) W hv
    rwa [(all_three _ g).2 h2] at this

theorem fourPass_no (px pw : Option Addr) (cx cw : Nat) (xs ws : List Gi) (n m : Nat) (hh : Int) (part : Bool) (b s mo e : Int) (inv inx inw : Bool) (hp : part = true ↔ QuarterOk hh n) (hx : inx = allIn 2147483648 xs) (hw : ∀ B : Nat, b = (B : Int) → B ≤ 29 → inw = allIn (2 ^ B) ws)
    (h : WhyIs n m part b s mo inx inw e) (he : e ≠ 0) (w : World) (hvx : CxsAt w (.slice px n cx) xs) (hvw : CxsAt w (.slice pw m cw) ws) :
    Calls Try.prog 24 #[.slice px n cx, .slice pw m cw, .int .i64 hh, .int .i64 b, .int .i64 s, .int .i64 mo, .bool inv] w fun e' w' => e' = .returned (.tuple #[.slice none 0 0, .int .i64 e]) ∧ Gr w w' :=
  fPass_bad px pw cx cw xs ws n m hh b s mo e inv (Lib.hid fun W h1 h2 => fErr_c px pw cx cw xs ws n m hh part b s mo e inv inx inw hp hx hw h W h1 h2) (by simpa using he) w hvx hvw

theorem quarter_units (n k : Nat) (hL : ∃ L, IsLog (n : Int) L) (hk : 4 * 2 ^ k ≤ n) : ∃ u, n = 4 * 2 ^ k * u ∧ 1 ≤ u ∧ n ≤ 64 := by
  obtain ⟨L, l0, l1, hn⟩ := hL
  have hn' : n = 2 ^ L := by exact Int.ofNat.inj hn
  have hp := pow_le L l1
  have hkL : k + 2 ≤ L := by
    refine Classical.byContradiction fun h => ?_
    have := Nat.pow_lt_pow_right (a := 2) (by omega) (show L < k + 2 by omega)
    rw [Nat.pow_add] at this
    omega
  refine ⟨2 ^ (L - (k + 2)), ?_, Nat.one_le_two_pow, by omega⟩
  have e : L = (k + 2) + (L - (k + 2)) := by omega
  rw [hn', show 4 * 2 ^ k = 2 ^ (k + 2) by rw [Nat.pow_add]; omega, ← Nat.pow_add, ← e]

/-- What Pass answers where it may be. -/
theorem fourPass_yes (px pw : Option Addr) (cx cw : Nat) (xs ws : List Gi) (n k bits s : Nat) (mo : Int) (inv : Bool) (hn : xs.length = n) (hm : ws.length = n) (hL : ∃ L, IsLog (n : Int) L) (hk : 4 * 2 ^ k ≤ n)
    (hS : SetsOk2 bits s mo) (hx : allIn 2147483648 xs = true) (hw : allIn (2 ^ bits) ws = true) (w : World) (hvx : CxsAt w (.slice px n cx) xs) (hvw : CxsAt w (.slice pw n cw) ws) :
    Calls Try.prog 24 #[.slice px n cx, .slice pw n cw, .int .i64 ((2 ^ k : Nat) : Int), .int .i64 bits, .int .i64 s, .int .i64 mo, .bool inv] w fun e w' => ∃ v', e = .returned (.tuple #[v', .int .i64 0]) ∧ CxsAt w' v' (fourL xs ws (2 ^ k) bits s mo inv) ∧ Gr w w' := by
  obtain ⟨u, hu, hu1, hn64⟩ := quarter_units n k hL hk
  have h1 : 1 ≤ 2 ^ k := Nat.one_le_two_pow
  have hb : bits ≤ 29 := by have := hS.1.2; omega
  have hErr : ∀ W, CxsAt W (.slice px n cx) xs → CxsAt W (.slice pw n cw) ws → Calls Try.prog 40 #[.agg #[.int .i64 bits, .int .i64 s, .int .i64 mo, .bool inv], .slice px n cx, .slice pw n cw, .int .i64 ((2 ^ k : Nat) : Int)] W fun e' w' => e' = .returned (.int .i64 0) ∧ Gr W w' := fun W h1 h2 =>
    fErr_c px pw cx cw xs ws n n _ true bits s mo 0 inv true true (by simp only [true_iff]; exact ⟨k, hk, rfl⟩) hx.symm (fun B hB _ => by rw [show B = bits by omega]; exact hw.symm) (.inr (.inr (.inr (.inr ⟨hL, rfl, rfl, hS, rfl, rfl, rfl⟩)))) W h1 h2
  obtain ⟨bx, ox, capx, hvv, _, hbx, _⟩ := hvx.at (by intro e; rw [e] at hn; simp at hn; omega)
  rw [hn] at hvv
  cases hvv
  obtain ⟨bw, ow, capw, hvv, _, hbw, _⟩ := hvw.at (by intro e; rw [e] at hm; simp at hm; omega)
  rw [hm] at hvv
  cases hvv
  generalize 2 ^ k = h at *
  have hxg : ∀ i, Bd 2147483648 (xs.getD i ⟨0, 0⟩) := by
    intro i
    rw [List.getD_eq_getElem?_getD]
    cases e : xs[i]? with
    | none => exact Bd.mk (by simp)
    | some a => exact (allIn_iff _ xs).1 hx a (List.mem_of_getElem? e)
  have hd : ∀ k i, 4 * h * k ≤ i → doneTo xs ws h bits s mo inv k i = xs.getD i ⟨0, 0⟩ := fun k i hi => by unfold doneTo; rw [if_neg (by omega)]
  refine (fPass_of bx ox bw ow cx cw xs ws n h u bits s mo inv hn hu h1 hu1 hn64 (doneTo xs ws h bits s mo inv) (fun i => hd 0 i (by omega)) (Lib.hid hErr) (Lib.hid fun k hk B W hne hv hbW hy => ?_) w hvx hvw hbw).mono ?_
  · have hku : 4 * h * (k + 1) ≤ 4 * h * u := Nat.mul_le_mul_left _ hk
    have hks : 4 * h * (k + 1) = 4 * h * k + 4 * h := Nat.mul_succ _ _
    refine (fMake_c bits s mo inv hb (by have := hS.2.1.2; omega) hS.2.2.1 hS.2.2.2 B (4 * h * k) n h u n (4 * h) bw ow cw ws (doneTo xs ws h bits s mo inv k) h1 (by omega) hn64 hu hn64 hu1 hne (Nat.le_refl _) hm hw (fun i hi => by rw [hd k _ (by omega)]; exact hxg _) W hv hbW hy.lt hy).mono ?_
    rintro e w' ⟨he, hr, hg⟩
    exact ⟨he, hr.eq (fun i _ => done_next xs ws h u bits s mo inv k i h1 hu1 (by rw [hn]; exact hu)), hg⟩
  · rintro e w' ⟨v', he, hc, hg⟩
    refine ⟨v', he, ?_, hg⟩
    have e2 : fourL xs ws h bits s mo inv = (List.range n).map (doneTo xs ws h bits s mo inv u) := by
      unfold fourL
      rw [hn]
      refine List.map_congr_left fun i hi => ?_
      have := List.mem_range.1 hi
      unfold doneTo
      rw [if_pos (by omega)]
    rw [e2]
    exact hc

end Go.Proofs.Ytomjldaonpjloaa
