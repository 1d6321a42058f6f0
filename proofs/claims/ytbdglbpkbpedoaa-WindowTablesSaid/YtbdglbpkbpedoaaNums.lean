/- A slice of whole numbers in memory, whatever one came in: opened; cut; two that hold the same. -/
import Derived.Test.YtbdglbpkbpedoaaCxs
import Derived.ChangeSlices
namespace Go.Proofs.Ytbdglbpkbpedoaa
open Go.ChangeShapes Go.WideShapes Go.ChangeAt Go.RowKit
set_option linter.unusedVariables false
set_option maxRecDepth 100000

/-- The slice value v holds the numbers xs. -/
def NumsAt (w : World) (v : Value) (xs : List Int) : Prop :=
  ∃ p cap, v = .slice p xs.length cap ∧ xs.length ≤ cap ∧ cap ≤ maxLen ∧ (xs ≠ [] → ∃ b o, p = some ⟨b, o, none⟩ ∧ b < w.heap.size ∧ ∀ j x, xs[j]? = some x → w.cell? ⟨b, o + j, none⟩ = some (.int .i64 x))

theorem NumsAt.gr {w w' : World} {v : Value} {xs : List Int} (h : NumsAt w v xs) (hg : Gr w w') : NumsAt w' v xs := by
  obtain ⟨p, cap, hv, hl, hm, hc⟩ := h
  refine ⟨p, cap, hv, hl, hm, fun hx => ?_⟩
  obtain ⟨b, o, hp, hb, hc⟩ := hc hx
  exact ⟨b, o, hp, Nat.lt_of_lt_of_le hb hg.size, fun j x hj => (hg.cell (p := ⟨b, o + j, none⟩) hb).trans (hc j x hj)⟩

theorem NumsAt.len {w : World} {v : Value} {xs : List Int} (h : NumsAt w v xs) : ∃ p cap, v = .slice p xs.length cap := by
  obtain ⟨p, cap, hv, _⟩ := h
  exact ⟨p, cap, hv⟩

theorem NumsAt.nil (w : World) : NumsAt w (.slice none 0 0) [] := ⟨none, 0, rfl, Nat.le_refl _, Nat.zero_le _, fun h => absurd rfl h⟩

theorem NumsAt.at {w : World} {v : Value} {xs : List Int} (h : NumsAt w v xs) (hx : xs ≠ []) : ∃ b o cap, v = .slice (some ⟨b, o, none⟩) xs.length cap ∧ xs.length ≤ 9223372036854775807 ∧ b < w.heap.size ∧ ∀ j x, xs[j]? = some x → w.cell? ⟨b, o + j, none⟩ = some (.int .i64 x) := by
  obtain ⟨p, cap, hv, hl, hm, hc⟩ := h
  obtain ⟨b, o, rfl, hb, hc⟩ := hc hx
  exact ⟨b, o, cap, hv, by unfold maxLen at hm; omega, hb, hc⟩

theorem NumsAt.of_ints {w : World} {v : Value} {xs : List Int} (h : IntsAt w v xs) : NumsAt w v xs := by
  rcases h with ⟨rfl, rfl⟩ | ⟨b, o, cap, rfl, hl, hm, hb, hc⟩
  · exact NumsAt.nil w
  · exact ⟨_, cap, rfl, hl, hm, fun _ => ⟨b, o, rfl, hb, hc⟩⟩
theorem NumsAt.of_row {w : World} {base n : Nat} {t : TypeId} {v : Value} {xs : List Int} (h : w.ownsRow base t 1 v n (xs.map (Value.int .i64))) : NumsAt w v xs := .of_ints (IntsAt.of_row h)

theorem NumsAt.cut {w : World} {p : Option Addr} {len cap : Nat} {xs : List Int} (h : NumsAt w (.slice p len cap) xs) (m : Nat) (hm : m ≤ len) : NumsAt w (.slice p m cap) (xs.take m) ∧ (xs.take m).length = m ∧ m ≤ cap ∧ cap ≤ maxLen := by
  obtain ⟨p', cap', hv, hl, hmx, hc⟩ := h
  cases hv
  have e : (xs.take m).length = m := by rw [List.length_take]; omega
  refine ⟨⟨p, cap, by rw [e], by rw [e]; omega, hmx, fun hne => ?_⟩, e, by omega, hmx⟩
  obtain ⟨b, o, hp, hb, hc⟩ := hc (by intro e; rw [e] at hne; simp at hne)
  refine ⟨b, o, hp, hb, fun j x hj => hc j x ?_⟩
  rw [List.getElem?_take] at hj
  split at hj
  · exact hj
  · cases hj

theorem run_cut_int (p : Option Addr) (len cap m : Nat) (hm : m ≤ cap) (w : World) : (Instr.slice 22 (.slice p len cap) none (some (.int .i64 (m : Int))) none).run Try.prog w = .ok (.slice p m cap) w := by
  obtain ⟨i, hi, hzz⟩ := Option.map_eq_some_iff.1 info_int
  have h1 := run_slice_h (P := Try.prog) 22 p len cap (by exact Try.underlying22) .i64 (m : Int) (by omega) (by omega) (w := w)
  rw [h1]
  simp [sizeOf, typeInfo, sliced, show Try.prog.elem 22 = 3 by kernel_rfl, hi]
  intro _
  cases p <;> simp [Addr.add_zero']

theorem nums_open {H : Type} {enc : TypeId × Value → H} {W : World} {held : Bool} {fuel : Nat} {a : Option Addr} {len cap : Nat} {x : DataW H × List MemPlace}
    (h : DataW.trod enc Try.prog W 0 (fun _ => true) held fuel 22 [.slice a len cap] = some x) :
    ∃ xs : List Int, len = xs.length ∧ NumsAt W (.slice a len cap) xs ∧ ∀ g ∈ xs, (Lit.int .i64 g).wf = true := by
  rcases open_ints Try.underlying22 Try.underlying3 (by kernel_rfl) h with ⟨hcs, _⟩ | ⟨a', l, c, zs, hcs, _, hl, hm, hzl, _, hz, hw⟩
  · simp at hcs
    obtain ⟨rfl, rfl, rfl⟩ := hcs
    exact ⟨[], rfl, NumsAt.nil W, fun g hg => by cases hg⟩
  · simp at hcs
    obtain ⟨rfl, rfl, rfl⟩ := hcs
    have hzl : zs.length = cap := by simpa using hzl
    have hlen : (zs.take len).length = len := by rw [List.length_take]; omega
    refine ⟨zs.take len, hlen.symm, ⟨some a', cap, by rw [hlen], by omega, hm, fun hne => ?_⟩, fun g hg => hw g (List.mem_of_mem_take hg)⟩
    have h0 : 0 < len := by
      rcases Nat.eq_zero_or_pos len with h | h
      · subst h; exact absurd (by simp) hne
      · exact h
    have hc0 := hz 0 (by omega)
    rw [Addr.add_zero'] at hc0
    have hsp := World.cell?_spot hc0
    obtain ⟨b, o, sp⟩ := a'
    simp only at hsp
    subst hsp
    refine ⟨b, o, rfl, block_lt_of_cell hc0, fun j x hj => ?_⟩
    rw [List.getElem?_take] at hj
    split at hj
    case isFalse => cases hj
    have hjl : j < zs.length := (List.getElem?_eq_some_iff.1 hj).1
    have := hz j hjl
    rw [Addr.add_lit, List.getD_eq_getElem?_getD, hj] at this
    exact this

set_option maxHeartbeats 1000000 in
theorem same04n_c (u v : Value) (xs : List Int) (w : World) (hu : NumsAt w u xs) (hv : NumsAt w v xs) :
    Calls Try.prog 12 #[u, v] w fun e w' => e = .returned (.bool true) ∧ Gr w w' := by
  by_cases hx : xs = []
  · subst hx
    obtain ⟨p, cap, rfl⟩ := hu.len
    obtain ⟨p', cap', rfl⟩ := hv.len
    rw [show ([] : List Int).length = 0 from rfl]
    clear hu hv
    go_enter Try.func12, Try.ntmps12
    go_wp2_with fail
    go_loopw [13] (fun i wr => i = .int .i64 0 ∧ Gr w wr) (fun i _ => 0 - (intOf i).toNat)
    case atStart => exact ⟨rfl, Gr.refl _⟩
    case round =>
      obtain ⟨rfl, hg⟩ := hrel
      go_wp2_with fail
      go_ret
      exact ⟨rfl, hg⟩
  · obtain ⟨b, o, cap, rfl, hlen, hb, hc⟩ := hu.at hx
    obtain ⟨b', o', cap', rfl, _, hb', hc'⟩ := hv.at hx
    have HC := Lib.hid hc
    have HC' := Lib.hid hc'
    clear hc hc' hu hv hx
    go_enter Try.func12, Try.ntmps12
    go_wp2_with fail
    go_loopw [13] (fun i wr => ∃ k : Nat, k ≤ xs.length ∧ i = .int .i64 k ∧ Gr w wr) (fun i _ => xs.length - (intOf i).toNat)
    case atStart => exact ⟨0, Nat.zero_le _, rfl, Gr.refl _⟩
    case round =>
      obtain ⟨k, hk, rfl, hg⟩ := hrel
      by_cases hlt : k < xs.length
      · obtain ⟨x, hx⟩ := get_of_lt hlt
        have h1 := (hg.cell (p := ⟨b, o + k, none⟩) hb).trans (HC.out k x hx)
        have h2 := (hg.cell (p := ⟨b', o' + k, none⟩) hb').trans (HC'.out k x hx)
        clear hx
        go_wp2_with fail
        go_quiet (fail)
        go_wp2_with fail
        go_roundw
        case rel => exact ⟨k + 1, by omega, by go_num, hg.drewN _⟩
        case measure => simp [intOf]; omega
      · go_wp2_with fail
        go_ret
        exact ⟨rfl, hg⟩

end Go.Proofs.Ytbdglbpkbpedoaa
