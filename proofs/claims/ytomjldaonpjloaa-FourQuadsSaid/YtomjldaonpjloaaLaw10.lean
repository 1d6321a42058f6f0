/- The statements on package two: what its calls answer, in one place; alive. -/
import Derived.Test.YtomjldaonpjloaaTwoCode3
import Derived.Test.YtomjldaonpjloaaCxs
namespace Go.Proofs.Ytomjldaonpjloaa
open Go.ChangeShapes Go.WideShapes Go.ChangeAt Go.RowKit
set_option linter.unusedVariables false
set_option maxRecDepth 100000

/-- Half lengths may be. -/
theorem half_units (n k : Nat) (hL : ∃ L, IsLog (n : Int) L) (hk : 2 ^ k < n) : ∃ u, n = 2 * 2 ^ k * u := by
  obtain ⟨L, h0, h1, h2⟩ := hL
  have hn : n = 2 ^ L := by exact Int.ofNat.inj h2
  rw [hn] at hk
  have hkL : k < L := (Nat.pow_lt_pow_iff_right (by omega)).1 hk
  refine ⟨2 ^ (L - (k + 1)), ?_⟩
  rw [hn, show 2 * 2 ^ k = 2 ^ (k + 1) by rw [Nat.pow_succ]; omega, ← Nat.pow_add]
  congr 1
  omega

theorem log_bounds (n : Nat) (hL : ∃ L, IsLog (n : Int) L) : 4 ≤ n ∧ n ≤ 64 := by
  obtain ⟨L, hL⟩ := hL
  rcases isLog_cases hL with h | h | h | h | h <;> omega

/-- What Pass answers where the pass may not be. -/
theorem twoPass_no (px pw : Option Addr) (cx cw : Nat) (xs ws : List Gi) (n m : Nat) (hh : Int) (part : Bool) (b s mo e : Int) (inv inx inw : Bool) (hp : part = true ↔ HalfOk2 hh n) (hx : inx = allIn 2147483648 xs) (hw : ∀ B : Nat, b = (B : Int) → B ≤ 29 → inw = allIn (2 ^ B) ws)
    (h : WhyIs n m part b s mo inx inw e) (he : e ≠ 0) (w : World) (hvx : CxsAt w (.slice px n cx) xs) (hvw : CxsAt w (.slice pw m cw) ws) :
    Calls Try.prog 25 #[.slice px n cx, .slice pw m cw, .int .i64 hh, .int .i64 b, .int .i64 s, .int .i64 mo, .bool inv] w fun e' w' => e' = .returned (.tuple #[.slice none 0 0, .int .i64 e]) ∧ Gr w w' :=
  tPass_bad px pw cx cw xs ws n m hh b s mo e inv (Lib.hid fun W h1 h2 => tErr_c px pw cx cw xs ws n m hh part b s mo e inx inw hp hx hw h W h1 h2) (by simpa using he) w hvx hvw

/-- What Pass answers where it may be. -/
theorem twoPass_yes (px pw : Option Addr) (cx cw : Nat) (xs ws : List Gi) (n k bits s : Nat) (mo : Int) (inv : Bool) (hn : xs.length = n) (hm : ws.length = n) (hL : ∃ L, IsLog (n : Int) L) (hk : 2 ^ k < n)
    (hS : SetsOk2 bits s mo) (hx : allIn 2147483648 xs = true) (hw : allIn (2 ^ bits) ws = true) (w : World) (hvx : CxsAt w (.slice px n cx) xs) (hvw : CxsAt w (.slice pw n cw) ws) :
    Calls Try.prog 25 #[.slice px n cx, .slice pw n cw, .int .i64 ((2 ^ k : Nat) : Int), .int .i64 bits, .int .i64 s, .int .i64 mo, .bool inv] w fun e w' => ∃ v', e = .returned (.tuple #[v', .int .i64 0]) ∧ CxsAt w' v' (twoL xs ws (2 ^ k) bits s mo inv) ∧ Gr w w' := by
  obtain ⟨u, hu⟩ := half_units n k hL hk
  have hb := log_bounds n hL
  exact tPass_ok px pw cx cw xs ws n (2 ^ k) u bits s mo inv hn hm hu (Nat.one_le_two_pow) (by omega) hb.2 (by have := hS.1.2; omega) (by have := hS.2.1.2; omega) hS.2.2.1 hS.2.2.2 hx hw
    (Lib.hid fun W h1 h2 => tErr_c px pw cx cw xs ws n n _ true bits s mo 0 true true (by simp only [true_iff]; exact ⟨k, hk, rfl⟩) hx.symm (fun B hB _ => by rw [show B = bits by omega]; exact hw.symm) (.inr (.inr (.inr (.inr ⟨hL, rfl, rfl, hS, rfl, rfl, rfl⟩)))) W h1 h2) w hvx hvw

end Go.Proofs.Ytomjldaonpjloaa
