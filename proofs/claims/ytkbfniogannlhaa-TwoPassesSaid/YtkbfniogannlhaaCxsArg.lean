/- A slice of complex numbers that came in as an argument: opened; cut. -/
import Derived.Test.YtkbfniogannlhaaCxs
import Derived.Deep.SlicePairs
import Derived.Carry
namespace Go.Proofs.Ytkbfniogannlhaa
open Go.ChangeShapes Go.WideShapes Go.ChangeAt Go.RowKit
set_option linter.unusedVariables false

instance giInhabited : Inhabited Gi := ⟨⟨0, 0⟩⟩

theorem cxs_open {H : Type} {enc : TypeId × Value → H} {W : World} {held : Bool} {fuel : Nat} {a : Option Addr} {len cap : Nat} {x : DataW H × List MemPlace}
    (h : DataW.trod enc Try.prog W 0 (fun _ => true) held fuel 33 [.slice a len cap] = some x) :
    ∃ xs : List Gi, len = xs.length ∧ CxsAt W (.slice a len cap) xs ∧ ∀ g ∈ xs, (Lit.int .i64 g.re).wf = true ∧ (Lit.int .i64 g.im).wf = true := by
  rcases Go.Deep.open_slice_pairs Try.underlying33 Try.underlying23 (by kernel_rfl) rfl rfl (by kernel_rfl) (by kernel_rfl) h with ⟨hcs, _⟩ | ⟨a', l, c, m, n, V0, V1, D0, D1, P0, P1, hcs, _, hl, hm, hmm, _, hx⟩
  · simp at hcs
    obtain ⟨rfl, rfl, rfl⟩ := hcs
    exact ⟨[], rfl, CxsAt.nil W, fun g hg => by cases hg⟩
  · simp at hcs
    obtain ⟨rfl, rfl, rfl⟩ := hcs
    have hmc : m = cap := by simpa using hmm
    have each : ∀ i, i < len → ∃ g : Gi, V0 i = .int .i64 g.re ∧ V1 i = .int .i64 g.im ∧ (Lit.int .i64 g.re).wf = true ∧ (Lit.int .i64 g.im).wf = true := by
      intro i hi
      obtain ⟨_, _, h0, h1⟩ := hx i (by omega)
      obtain ⟨n0, e0, _, w0⟩ := DataW.trod_int Try.underlying3 h0
      obtain ⟨n1, e1, _, w1⟩ := DataW.trod_int Try.underlying3 h1
      simp at e0 e1
      exact ⟨⟨n0, n1⟩, e0, e1, w0, w1⟩
    obtain ⟨f, hf⟩ := Go.Deep.choose_lt each
    refine ⟨(List.range len).map f, by simp, ⟨some a', cap, by simp, by simpa using hl, hm, fun hne => ?_⟩, ?_⟩
    · have h0 : 0 < len := by
        rcases Nat.eq_zero_or_pos len with h | h
        · subst h; exact absurd rfl hne
        · exact h
      have hc0 := (hx 0 (by omega)).1
      rw [Nat.zero_mul, Addr.add_zero'] at hc0
      have hsp := World.cell?_spot hc0
      obtain ⟨b, o, sp⟩ := a'
      simp only at hsp
      subst hsp
      refine ⟨b, o, rfl, block_lt_of_cell hc0, fun j x hj => ?_⟩
      have hjl : j < len := by
        have := (List.getElem?_eq_some_iff.1 hj).1
        simpa using this
      have ej : x = f j := by
        rw [List.getElem?_map, List.getElem?_range hjl] at hj
        exact (Option.some.inj hj).symm
      subst ej
      obtain ⟨c0, c1, _, _⟩ := hx j (by omega)
      rw [Addr.add_lit] at c0 c1
      rw [(hf j hjl).1] at c0
      rw [(hf j hjl).2.1] at c1
      exact ⟨c0, c1⟩
    · intro g hg
      obtain ⟨j, hj, rfl⟩ := List.mem_map.1 hg
      exact (hf j (List.mem_range.1 hj)).2.2

/-- The first m of them. -/
theorem CxsAt.cut {w : World} {p : Option Addr} {len cap : Nat} {xs : List Gi} (h : CxsAt w (.slice p len cap) xs) (m : Nat) (hm : m ≤ len) : CxsAt w (.slice p m cap) (xs.take m) ∧ (xs.take m).length = m ∧ m ≤ cap ∧ cap ≤ maxLen := by
  obtain ⟨p', cap', hv, hl, hmx, hc⟩ := h
  cases hv
  have e : (xs.take m).length = m := by rw [List.length_take]; omega
  refine ⟨⟨p, cap, by rw [e], by rw [e]; omega, hmx, fun hne => ?_⟩, e, by omega, hmx⟩
  obtain ⟨b, o, hp, hb, hc⟩ := hc (by intro e; rw [e] at hne; simp at hne)
  refine ⟨b, o, hp, hb, fun j x hj => hc j x ?_⟩
  rw [List.getElem?_take] at hj
  split at hj
  · exact hj
  · cases hj

/-- How many are taken. -/
theorem cut70 (n : Nat) : ∃ m : Nat, m ≤ n ∧ m ≤ 70 ∧ (if (70 : Int) < (n : Int) then 70 else (n : Int)) = (m : Int) := by
  by_cases h : (70 : Int) < (n : Int)
  · exact ⟨70, by omega, by omega, by rw [if_pos h]; rfl⟩
  · exact ⟨n, Nat.le_refl _, by omega, by rw [if_neg h]⟩

/-- A slice cut behind its first m elements. -/
theorem run_cut_cx (p : Option Addr) (len cap m : Nat) (hm : m ≤ cap) (w : World) : (Instr.slice 33 (.slice p len cap) none (some (.int .i64 (m : Int))) none).run Try.prog w = .ok (.slice p m cap) w := by
  obtain ⟨i, hi, hzz⟩ := Option.map_eq_some_iff.1 info_cx
  have h1 := run_slice_h (P := Try.prog) 33 p len cap (by exact Try.underlying33) .i64 (m : Int) (by omega) (by omega) (w := w)
  rw [h1]
  simp [sizeOf, typeInfo, sliced, show Try.prog.elem 33 = 23 by kernel_rfl, hi]
  intro _
  cases p <;> simp [Addr.add_zero']

end Go.Proofs.Ytkbfniogannlhaa
