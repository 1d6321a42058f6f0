/- A slice of complex numbers in memory. -/
import Derived.Test.YtkbfniogannlhaaInts
import Derived.Test.YtkbfniogannlhaaGi
import Derived.Sort.QuietIn
namespace Go.Proofs.Ytkbfniogannlhaa
open Go.ChangeShapes Go.WideShapes Go.ChangeAt Go.RowKit
set_option linter.unusedVariables false

/-- The slice value v holds the numbers xs. -/
def CxsAt (w : World) (v : Value) (xs : List Gi) : Prop :=
  ∃ p cap, v = .slice p xs.length cap ∧ xs.length ≤ cap ∧ cap ≤ maxLen ∧ (xs ≠ [] → ∃ b o, p = some ⟨b, o, none⟩ ∧ b < w.heap.size ∧ ∀ j x, xs[j]? = some x → w.cell? ⟨b, o + j * 2, none⟩ = some (.int .i64 x.re) ∧ w.cell? ⟨b, o + j * 2 + 1, none⟩ = some (.int .i64 x.im))

theorem CxsAt.gr {w w' : World} {v : Value} {xs : List Gi} (h : CxsAt w v xs) (hg : Gr w w') : CxsAt w' v xs := by
  obtain ⟨p, cap, hv, hl, hm, hc⟩ := h
  refine ⟨p, cap, hv, hl, hm, fun hx => ?_⟩
  obtain ⟨b, o, hp, hb, hc⟩ := hc hx
  exact ⟨b, o, hp, Nat.lt_of_lt_of_le hb hg.size, fun j x hj => ⟨(hg.cell (p := ⟨b, o + j * 2, none⟩) hb).trans (hc j x hj).1, (hg.cell (p := ⟨b, o + j * 2 + 1, none⟩) hb).trans (hc j x hj).2⟩⟩

theorem CxsAt.len {w : World} {v : Value} {xs : List Gi} (h : CxsAt w v xs) : ∃ p cap, v = .slice p xs.length cap := by
  obtain ⟨p, cap, hv, _⟩ := h
  exact ⟨p, cap, hv⟩

theorem CxsAt.nil (w : World) : CxsAt w (.slice none 0 0) [] := ⟨none, 0, rfl, Nat.le_refl _, Nat.zero_le _, fun h => absurd rfl h⟩

theorem CxsAt.at {w : World} {v : Value} {xs : List Gi} (h : CxsAt w v xs) (hx : xs ≠ []) : ∃ b o cap, v = .slice (some ⟨b, o, none⟩) xs.length cap ∧ xs.length ≤ 9223372036854775807 ∧ b < w.heap.size ∧ ∀ j x, xs[j]? = some x → w.cell? ⟨b, o + j * 2, none⟩ = some (.int .i64 x.re) ∧ w.cell? ⟨b, o + j * 2 + 1, none⟩ = some (.int .i64 x.im) := by
  obtain ⟨p, cap, hv, hl, hm, hc⟩ := h
  obtain ⟨b, o, rfl, hb, hc⟩ := hc hx
  exact ⟨b, o, cap, hv, by unfold maxLen at hm; omega, hb, hc⟩

/-- The cells of a row of numbers. -/
def gcells : List Gi → List Value
  | [] => []
  | a :: xs => .int .i64 a.re :: .int .i64 a.im :: gcells xs

theorem gcells_len (xs : List Gi) : (gcells xs).length = xs.length * 2 := by
  induction xs with
  | nil => rfl
  | cons a xs ih => simp only [gcells, List.length_cons, ih]; omega

theorem gcells_snoc (xs : List Gi) (a : Gi) : gcells (xs ++ [a]) = gcells xs ++ [.int .i64 a.re, .int .i64 a.im] := by
  induction xs with
  | nil => rfl
  | cons b xs ih => simp only [List.cons_append, gcells, ih]

theorem gcells_at (xs : List Gi) (j : Nat) (a : Gi) (h : xs[j]? = some a) : (gcells xs)[j * 2]? = some (.int .i64 a.re) ∧ (gcells xs)[j * 2 + 1]? = some (.int .i64 a.im) := by
  induction xs generalizing j with
  | nil => cases h
  | cons b xs ih =>
    cases j with
    | zero =>
      simp only [List.getElem?_cons_zero, Option.some.injEq] at h
      subst h
      exact ⟨rfl, rfl⟩
    | succ j =>
      have := ih j (by simpa using h)
      rw [show (j + 1) * 2 = j * 2 + 1 + 1 by omega]
      simpa only [gcells, List.getElem?_cons_succ] using this

theorem CxsAt.of_row {w : World} {base n : Nat} {t : TypeId} {v : Value} {xs : List Gi} (h : w.ownsRow base t 2 v n (gcells xs)) : CxsAt w v xs := by
  have hl := h.1
  rw [gcells_len] at hl
  have hn : n = xs.length := by omega
  have hc := fun g hg => h.cells (g := g) hg
  rcases h.2 with ⟨hv, h0⟩ | ⟨g, cap, cur, rfl, hb, hg, hnc, hm, hs, ht⟩
  · have : xs = [] := List.length_eq_zero_iff.1 (by omega)
    subst this
    rw [hv]
    exact CxsAt.nil w
  · refine ⟨some ⟨g, 0, none⟩, cap, by rw [hn], by omega, hm, fun _ => ⟨g, 0, rfl, (Array.getElem?_eq_some_iff.1 hg).1, fun j x hj => ?_⟩⟩
    have h2 := gcells_at xs j x hj
    have k1 := hc g rfl _ _ h2.1
    have k2 := hc g rfl _ _ h2.2
    rw [Addr.add_lit] at k1 k2
    exact ⟨k1, k2⟩

theorem info_cx : (Try.prog.info? 23).map (fun i => (i.zero, i.size, i.bytes)) = some (some (.agg #[.int .i64 0, .int .i64 0]), 2, 16) := by kernel_rfl

set_option maxHeartbeats 1000000 in
theorem same03_c (u v : Value) (xs : List Gi) (w : World) (hu : CxsAt w u xs) (hv : CxsAt w v xs) :
    Calls Try.prog 17 #[u, v] w fun e w' => e = .returned (.bool true) ∧ Gr w w' := by
  by_cases hx : xs = []
  · subst hx
    obtain ⟨p, cap, rfl⟩ := hu.len
    obtain ⟨p', cap', rfl⟩ := hv.len
    rw [show ([] : List Gi).length = 0 from rfl]
    clear hu hv
    go_enter Try.func17, Try.ntmps17
    go_wp2_with fail
    go_loopw [13] (fun i wr => i = .int .i64 0 ∧ Gr w wr) (fun i _ => 0 - (intOf i).toNat)
    case atStart => exact ⟨rfl, Gr.refl _⟩
    case round =>
      obtain ⟨rfl, hg⟩ := hrel
      go_wp2_with fail
      go_ret
      exact ⟨rfl, hg⟩
  · obtain ⟨b, o, cap, rfl, hlen, hb, hc⟩ := hu.at hx
    obtain ⟨b', o', cap', rfl, _, hb', hc'⟩ := hv.at hx
    have HC := Lib.hid hc
    have HC' := Lib.hid hc'
    clear hc hc' hu hv hx
    go_enter Try.func17, Try.ntmps17
    go_wp2_with fail
    go_loopw [13] (fun i wr => ∃ k : Nat, k ≤ xs.length ∧ i = .int .i64 k ∧ Gr w wr) (fun i _ => xs.length - (intOf i).toNat)
    case atStart => exact ⟨0, Nat.zero_le _, rfl, Gr.refl _⟩
    case round =>
      obtain ⟨k, hk, rfl, hg⟩ := hrel
      by_cases hlt : k < xs.length
      · obtain ⟨x, hx⟩ := get_of_lt hlt
        have h1 := (hg.cell (p := ⟨b, o + k * 2, none⟩) hb).trans (HC.out k x hx).1
        have h2 := (hg.cell (p := ⟨b, o + k * 2 + 1, none⟩) hb).trans (HC.out k x hx).2
        have h3 := (hg.cell (p := ⟨b', o' + k * 2, none⟩) hb').trans (HC'.out k x hx).1
        have h4 := (hg.cell (p := ⟨b', o' + k * 2 + 1, none⟩) hb').trans (HC'.out k x hx).2
        clear hx
        go_wp2_with fail
        go_quiet (fail)
        go_wp2_with fail
        go_roundw
        case rel => exact ⟨k + 1, by omega, by go_num, hg.drewN _⟩
        case measure => simp [intOf]; omega
      · go_wp2_with fail
        go_ret
        exact ⟨rfl, hg⟩

end Go.Proofs.Ytkbfniogannlhaa
