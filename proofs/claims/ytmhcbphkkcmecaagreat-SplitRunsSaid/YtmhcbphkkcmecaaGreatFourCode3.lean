/- What package four's makeQuads answers: a block's quads take their places. -/
import Derived.Test.YtmhcbphkkcmecaaGreatFourCode2
namespace Go.Proofs.YtmhcbphkkcmecaaGreat
open Go.ChangeShapes Go.WideShapes Go.ChangeAt Go.RowKit
set_option linter.unusedVariables false
set_option maxRecDepth 100000
set_option linter.unusedSimpArgs false

/-- A block from F on, of 4 h numbers, of which the quads of all places before j, and the first q of place j, have taken their places. -/
def stp (F h : Nat) (O : Nat → Nat → Gi) (f : Nat → Gi) (j q i : Nat) : Gi :=
  if F ≤ i ∧ i < F + 4 * h ∧ ((i - F) % h < j ∨ ((i - F) % h = j ∧ (i - F) / h < q)) then O ((i - F) % h) ((i - F) / h) else f i
theorem stp_start (F h : Nat) (O : Nat → Nat → Gi) (f : Nat → Gi) (i : Nat) : stp F h O f 0 0 i = f i := by
  unfold stp
  generalize (i - F) % h = r
  generalize (i - F) / h = s
  rw [if_neg (by omega)]
theorem place_div (h q j : Nat) (hj : j < h) : (q * h + j) / h = q ∧ (q * h + j) % h = j := by
  constructor
  · rw [Nat.mul_comm, Nat.mul_add_div (by omega), Nat.div_eq_of_lt hj, Nat.add_zero]
  · rw [Nat.mul_comm, Nat.mul_add_mod, Nat.mod_eq_of_lt hj]
theorem place_lt (h q j : Nat) (hq : q < 4) (hj : j < h) : q * h + j < 4 * h := by
  have : (q + 1) * h ≤ 4 * h := Nat.mul_le_mul_right _ hq
  rw [Nat.succ_mul] at this
  omega
theorem stp_next (F h : Nat) (O : Nat → Nat → Gi) (f : Nat → Gi) (j q i : Nat) (hj : j < h) (hq : q < 4) : (if i = F + (q * h + j) then O j q else stp F h O f j q i) = stp F h O f j (q + 1) i := by
  have hp := place_div h q j hj
  have hl := place_lt h q j hq hj
  by_cases e : i = F + (q * h + j)
  · subst e
    unfold stp
    rw [if_pos rfl, show F + (q * h + j) - F = q * h + j by omega, hp.1, hp.2, if_pos (by omega)]
  · rw [if_neg e]
    unfold stp
    by_cases a : F ≤ i ∧ i < F + 4 * h
    · have hd := Nat.div_add_mod (i - F) h
      have hne : ¬ ((i - F) % h = j ∧ (i - F) / h = q) := by
        rintro ⟨e1, e2⟩
        rw [e1, e2, Nat.mul_comm] at hd
        omega
      by_cases c : (i - F) % h < j ∨ ((i - F) % h = j ∧ (i - F) / h < q)
      · rw [if_pos ⟨a.1, a.2, c⟩, if_pos ⟨a.1, a.2, by omega⟩]
      · rw [if_neg (fun k => c k.2.2), if_neg (fun k => c (by have := k.2.2; omega))]
    · rw [if_neg (fun k => a ⟨k.1, k.2.1⟩), if_neg (fun k => a ⟨k.1, k.2.1⟩)]
theorem stp_row (F h : Nat) (O : Nat → Nat → Gi) (f : Nat → Gi) (j i : Nat) (h1 : 1 ≤ h) : stp F h O f j 4 i = stp F h O f (j + 1) 0 i := by
  unfold stp
  by_cases a : F ≤ i ∧ i < F + 4 * h
  · have hd : (i - F) / h < 4 := by rw [Nat.div_lt_iff_lt_mul (by omega)]; omega
    by_cases c : (i - F) % h < j + 1
    · rw [if_pos ⟨a.1, a.2, (Nat.lt_or_eq_of_le (Nat.le_of_lt_succ c)).imp id (fun e => ⟨e, hd⟩)⟩, if_pos ⟨a.1, a.2, .inl c⟩]
    · rw [if_neg (fun k => c ?_), if_neg (fun k => c ?_)]
      · exact k.2.2.elim id (fun e => absurd e.2 (Nat.not_lt_zero _))
      · exact k.2.2.elim (fun e => Nat.lt_succ_of_lt e) (fun e => by rw [e.1]; exact Nat.lt_succ_self _)
  · rw [if_neg (fun k => a ⟨k.1, k.2.1⟩), if_neg (fun k => a ⟨k.1, k.2.1⟩)]
theorem stp_at (F h : Nat) (O : Nat → Nat → Gi) (f : Nat → Gi) (j q : Nat) (hj : j < h) : stp F h O f j 0 (F + (q * h + j)) = f (F + (q * h + j)) := by
  have hp := place_div h q j hj
  unfold stp
  rw [show F + (q * h + j) - F = q * h + j by omega, hp.1, hp.2, if_neg (by omega)]
theorem stp_end (F h : Nat) (O : Nat → Nat → Gi) (f : Nat → Gi) (i : Nat) (h1 : 1 ≤ h) : stp F h O f h 0 i = if F ≤ i ∧ i < F + 4 * h then O ((i - F) % h) ((i - F) / h) else f i := by
  have := Nat.mod_lt (i - F) (show 0 < h by omega)
  unfold stp
  by_cases a : F ≤ i ∧ i < F + 4 * h
  · rw [if_pos ⟨a.1, a.2, .inl this⟩, if_pos a]
  · rw [if_neg (fun k => a ⟨k.1, k.2.1⟩), if_neg a]

theorem make_nums (h u j m n : Nat) (hm : 4 * h = m) (hj : j < h) (hm64 : m ≤ 64) (hn64 : n ≤ 64) (hn : n = m * u) :
    (j : Int) < (m : Int) ∧ ((2 * h + j : Nat) : Int) < (m : Int) ∧ ((h + j : Nat) : Int) < (m : Int) ∧ ((3 * h + j : Nat) : Int) < (m : Int) ∧
    IntKind.i64.wrap (2 * (h : Int)) = ((2 * h : Nat) : Int) ∧ IntKind.i64.wrap (3 * (h : Int)) = ((3 * h : Nat) : Int) ∧ IntKind.i64.wrap ((j : Int) * (u : Int)) = ((j * u : Nat) : Int) ∧
    IntKind.i64.wrap (((2 * h : Nat) : Int) + (j : Int)) = ((2 * h + j : Nat) : Int) ∧ IntKind.i64.wrap ((h : Int) + (j : Int)) = ((h + j : Nat) : Int) ∧ IntKind.i64.wrap (((3 * h : Nat) : Int) + (j : Int)) = ((3 * h + j : Nat) : Int) := by
  have k1 : j * u ≤ h * u := Nat.mul_le_mul_right _ (by omega)
  have k2 : h * u ≤ m * u := Nat.mul_le_mul_right _ (by omega)
  have k3 := imul 2 h (by omega)
  have k4 := imul 3 h (by omega)
  exact ⟨by omega, by omega, by omega, by omega, k3, k4, imul j u (by omega), iadd (2 * h) j (by omega), iadd h j (by omega), iadd (3 * h) j (by omega)⟩

theorem quad_nums (h q j m : Nat) (hm : 4 * h = m) (hq : q < 4) (hj : j < h) (hm64 : m ≤ 64) :
    wrap64 ((q : Int) * (h : Int)) = ((q * h : Nat) : Int) ∧ wrap64 (((q * h : Nat) : Int) + (j : Int)) = ((q * h + j : Nat) : Int) ∧ ((q * h + j : Nat) : Int) < (m : Int) := by
  have k := place_lt h q j hq hj
  exact ⟨wmul q h (by omega), wadd (q * h) j (by omega), by omega⟩

theorem idx4 (f : Nat → Gi) (q : Nat) (hq : q < 4) (w : World) : (Instr.index 83 (.agg #[.int .i64 (f 0).re, .int .i64 (f 0).im, .int .i64 (f 1).re, .int .i64 (f 1).im, .int .i64 (f 2).re, .int .i64 (f 2).im, .int .i64 (f 3).re, .int .i64 (f 3).im]) (.int .i64 (q : Int))).run Tryz.prog w = .ok (.agg #[.int .i64 (f q).re, .int .i64 (f q).im]) w := by
  have i0 : ∀ w, (Instr.index 83 (.agg #[.int .i64 (f 0).re, .int .i64 (f 0).im, .int .i64 (f 1).re, .int .i64 (f 1).im, .int .i64 (f 2).re, .int .i64 (f 2).im, .int .i64 (f 3).re, .int .i64 (f 3).im]) (.int .i64 0)).run Tryz.prog w = .ok (.agg #[.int .i64 (f 0).re, .int .i64 (f 0).im]) w := fun _ => by kernel_rfl
  have i1 : ∀ w, (Instr.index 83 (.agg #[.int .i64 (f 0).re, .int .i64 (f 0).im, .int .i64 (f 1).re, .int .i64 (f 1).im, .int .i64 (f 2).re, .int .i64 (f 2).im, .int .i64 (f 3).re, .int .i64 (f 3).im]) (.int .i64 1)).run Tryz.prog w = .ok (.agg #[.int .i64 (f 1).re, .int .i64 (f 1).im]) w := fun _ => by kernel_rfl
  have i2 : ∀ w, (Instr.index 83 (.agg #[.int .i64 (f 0).re, .int .i64 (f 0).im, .int .i64 (f 1).re, .int .i64 (f 1).im, .int .i64 (f 2).re, .int .i64 (f 2).im, .int .i64 (f 3).re, .int .i64 (f 3).im]) (.int .i64 2)).run Tryz.prog w = .ok (.agg #[.int .i64 (f 2).re, .int .i64 (f 2).im]) w := fun _ => by kernel_rfl
  have i3 : ∀ w, (Instr.index 83 (.agg #[.int .i64 (f 0).re, .int .i64 (f 0).im, .int .i64 (f 1).re, .int .i64 (f 1).im, .int .i64 (f 2).re, .int .i64 (f 2).im, .int .i64 (f 3).re, .int .i64 (f 3).im]) (.int .i64 3)).run Tryz.prog w = .ok (.agg #[.int .i64 (f 3).re, .int .i64 (f 3).im]) w := fun _ => by kernel_rfl
  have hc : q = 0 ∨ q = 1 ∨ q = 2 ∨ q = 3 := by omega
  rcases hc with e | e | e | e
  · subst e; exact i0 w
  · subst e; exact i1 w
  · subst e; exact i2 w
  · subst e; exact i3 w


end Go.Proofs.YtmhcbphkkcmecaaGreat
