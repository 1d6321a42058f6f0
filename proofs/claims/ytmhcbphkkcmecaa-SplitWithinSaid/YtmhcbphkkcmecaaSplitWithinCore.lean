/- SplitWithin, from what package split's Run answers. -/
import Derived.Test.YtmhcbphkkcmecaaLaw12
namespace Go.Proofs.Ytmhcbphkkcmecaa
open Go.ChangeShapes Go.WideShapes Go.ChangeAt Go.RowKit
set_option linter.unusedVariables false
set_option linter.unusedSimpArgs false
set_option maxRecDepth 100000

set_option maxHeartbeats 2000000 in
theorem splitWithin_no (p : Option Addr) (l1 cap1 m1 : Nat) (f mo e : Int) (inv : Bool) (xs : List Gi) (hm1 : m1 ≤ cap1) (hmin1 : (if (70 : Int) < (l1 : Int) then 70 else (l1 : Int)) = (m1 : Int)) (he : (e != 0) = true)
    (HP : Hid (∀ W, CxsAt W (.slice p m1 cap1) xs → Calls Try.prog 27 #[.slice p m1 cap1, .int .i64 f, .int .i64 mo, .bool inv] W fun e' w' => e' = .returned (.tuple #[.slice none 0 0, .int .i64 e]) ∧ Gr W w'))
    (AL : Hid (∀ W, Calls Try.prog 24 #[] W fun e w' => e = .returned (.bool true) ∧ Gr W w'))
    (w : World) (hx : CxsAt w (.slice p m1 cap1) xs) :
    Calls Try.prog 9 #[.slice p l1 cap1, .int .i64 f, .int .i64 mo, .bool inv] w fun e w' => e = .returned (.bool true) ∧ Gr w w' := by
  have hcut1 := run_cut_cx p l1 cap1 m1 hm1
  have VX := Lib.hid hx
  clear hx
  go_enter Try.func9, Try.ntmps9
  go_wp2_with fail
  with_reducible refine (HP.out _ VX.out).mono ?_
  rintro e w1 ⟨rfl, g1⟩
  go_wp2_with fail
  refine (AL.out _).mono ?_
  rintro e w4 ⟨rfl, g4⟩
  go_wp2_with fail
  go_ret
  exact ⟨rfl, g1.trans g4⟩

/-- Are all numbers 0? -/
def allZ (xs : List Gi) : Bool := xs.all (fun a => a.re == 0 && a.im == 0)
theorem allZ_snoc {xs : List Gi} {k : Nat} {a : Gi} (h : xs[k]? = some a) : allZ (xs.take (k + 1)) = (allZ (xs.take k) && (a.re == 0 && a.im == 0)) := by
  unfold allZ
  rw [take_snoc h, List.all_append]
  simp
theorem allZ_zero {xs : List Gi} (h : allZ xs = true) (j : Nat) : xs.getD j ⟨0, 0⟩ = ⟨0, 0⟩ := by
  rw [List.getD_eq_getElem?_getD]
  cases e : xs[j]? with
  | none => rfl
  | some a =>
    have := List.all_eq_true.1 h a (List.mem_of_getElem? e)
    simp at this
    exact Gi.ext2 this.1 this.2

set_option maxHeartbeats 4000000 in
theorem splitWithin_yes (p : Option Addr) (l1 cap1 m1 : Nat) (f mo : Int) (inv : Bool) (xs ys : List Gi) (hm1 : m1 ≤ cap1) (hmin1 : (if (70 : Int) < (l1 : Int) then 70 else (l1 : Int)) = (m1 : Int)) (hl : xs.length = m1) (hly : ys.length = m1) (hm4 : 4 ≤ m1 ∧ m1 ≤ 64)
    (HY : Hid (∀ (i : Nat) (a : Gi), ys[i]? = some a → (∀ W, Calls Try.prog 28 #[.int .i64 a.re, .int .i64 f] W fun e w' => e = .returned (.tuple #[.int .i64 a.re, .bool false, .int .i64 0]) ∧ Gr W w') ∧ (∀ W, Calls Try.prog 28 #[.int .i64 a.im, .int .i64 f] W fun e w' => e = .returned (.tuple #[.int .i64 a.im, .bool false, .int .i64 0]) ∧ Gr W w') ∧ (allZ xs = true → a = ⟨0, 0⟩)))
    (HP : Hid (∀ W, CxsAt W (.slice p m1 cap1) xs → Calls Try.prog 27 #[.slice p m1 cap1, .int .i64 f, .int .i64 mo, .bool inv] W fun e' w' => ∃ v', e' = .returned (.tuple #[v', .int .i64 0]) ∧ CxsAt w' v' ys ∧ Gr W w'))
    (AL : Hid (∀ W, Calls Try.prog 24 #[] W fun e w' => e = .returned (.bool true) ∧ Gr W w'))
    (w : World) (hx : CxsAt w (.slice p m1 cap1) xs) :
    Calls Try.prog 9 #[.slice p l1 cap1, .int .i64 f, .int .i64 mo, .bool inv] w fun e w' => e = .returned (.bool true) ∧ Gr w w' := by
  have hcut1 := run_cut_cx p l1 cap1 m1 hm1
  obtain ⟨b, o, cap, hv, _, hbl, hc⟩ := hx.at (by intro e; rw [e] at hl; simp at hl; omega)
  rw [hl] at hv
  cases hv
  have HC := Lib.hid hc
  have VX := Lib.hid hx
  have HN := Lib.hid (And.intro hl (And.intro hly hm4))
  clear hx hc hl hly hm4
  go_enter Try.func9, Try.ntmps9
  go_wp2_with fail
  with_reducible refine (HP.out _ VX.out).mono ?_
  rintro e w1 ⟨v', rfl, hv', g1⟩
  obtain ⟨hl, hly, hm4⟩ := HN.out
  obtain ⟨b2, o2, cap2, rfl, _, hbl2, hc2⟩ := hv'.at (by intro e; rw [e] at hly; simp at hly; omega)
  rw [hly]
  have HC2 := Lib.hid hc2
  have hm64 := hm4.2
  clear hv' hc2 hl hly hm4 VX HP hcut1 hmin1
  go_wp2_with fail
  go_loopw [11, 13, 45] (fun z _ i wr => ∃ k : Nat, k ≤ m1 ∧ i = .int .i64 k ∧ z = .bool (allZ (xs.take k)) ∧ Gr w1 wr) (fun _ _ i _ => m1 - (intOf i).toNat)
  case atStart => exact ⟨0, by omega, rfl, rfl, Gr.refl _⟩
  case round =>
    obtain ⟨k, hk, rfl, rfl, hg⟩ := hrel
    by_cases hlt : k < m1
    · have hlt' : (k : Int) < m1 := by omega
      obtain ⟨a, ha⟩ := get_of_lt (xs := xs) (k := k) (by rw [HN.out.1]; exact hlt)
      have k0 := ((g1.trans hg).cell (p := ⟨b, o + k * 2, none⟩) hbl).trans (HC.out k a ha).1
      have k1 := ((g1.trans hg).cell (p := ⟨b, o + k * 2 + 1, none⟩) hbl).trans (HC.out k a ha).2
      have hbw : b < wr.heap.size := Nat.lt_of_lt_of_le hbl (g1.trans hg).size
      have HS := Lib.hid (allZ_snoc ha)
      clear ha HY HC HC2
      generalize allZ (xs.take k) = z at *
      obtain ⟨x, y⟩ := a
      simp only at k0 k1 HS
      cases z
      all_goals
        go_wp2_with fail
      all_goals
        go_roundw
        case rel => exact ⟨k + 1, by omega, by go_num, by rw [HS.out]; first | rfl | (simp; done) | (simp [*]; done), hg.alloc _ _⟩
        case measure => simp [intOf]; omega
    · obtain rfl : k = m1 := by omega
      have ht : xs.take k = xs := List.take_of_length_le (by rw [HN.out.1]; omega)
      rw [ht]
      clear ht HC
      have hz := fun (i : Nat) (a : Gi) (h : ys[i]? = some a) => (HY.out i a h).2.2
      have HZ := Lib.hid hz
      have HK := Lib.hid fun (i : Nat) (a : Gi) (h : ys[i]? = some a) => And.intro (HY.out i a h).1 (HY.out i a h).2.1
      clear hz HY
      generalize allZ xs = z at *
      go_wp2_with fail
      go_loopw [58] (fun i wr2 => ∃ q : Nat, q ≤ k ∧ i = .int .i64 q ∧ Gr w1 wr2) (fun i _ => k - (intOf i).toNat)
      case atStart => exact ⟨0, by omega, rfl, hg⟩
      case round =>
        clear hg
        obtain ⟨q, hq, rfl, hg⟩ := hrel
        by_cases hqt : q < k
        · have hqt' : (q : Int) < k := by omega
          obtain ⟨a, ha⟩ := get_of_lt (xs := ys) (k := q) (by rw [HN.out.2.1]; exact hqt)
          have k0 := (hg.cell (p := ⟨b2, o2 + q * 2, none⟩) hbl2).trans (HC2.out q a ha).1
          have k1 := (hg.cell (p := ⟨b2, o2 + q * 2 + 1, none⟩) hbl2).trans (HC2.out q a ha).2
          obtain ⟨h1, h2⟩ := HK.out q a ha
          have H1 := Lib.hid h1
          have H2 := Lib.hid h2
          have HZ1 := Lib.hid (HZ.out q a ha)
          have hbw : b2 < wr.heap.size := Nat.lt_of_lt_of_le hbl2 hg.size
          clear ha HZ HK HC2 h1 h2
          obtain ⟨x, y⟩ := a
          simp only at k0 k1 H1 H2 HZ1
          cases z
          · go_wp2_with fail
            refine (H1.out _).mono ?_
            rintro e w2 ⟨rfl, g2⟩
            have A1 := (CellsAt.new wr 23 #[.int .i64 x, .int .i64 y]).gr g2
            have c0 := A1.cell 0
            have c1 := A1.cell 1
            simp only [List.getElem?_toArray, List.getElem?_cons_zero, List.getElem?_cons_succ] at c0 c1
            go_wp2_with fail
            refine (H2.out _).mono ?_
            rintro e w3 ⟨rfl, g3⟩
            clear c0 c1
            have A2 := A1.gr g3
            have c0 := A2.cell 0
            have c1 := A2.cell 1
            simp only [List.getElem?_toArray, List.getElem?_cons_zero, List.getElem?_cons_succ] at c0 c1
            go_wp2_with fail
            go_roundw
            case rel => exact ⟨q + 1, by omega, by go_num, ((hg.alloc _ _).trans g2).trans g3⟩
            case measure => simp [intOf]; omega
          · have h0 := HZ1.out rfl
            obtain ⟨rfl, rfl⟩ := Gi.mk.inj h0
            clear h0
            go_wp2_with fail
            refine (H1.out _).mono ?_
            rintro e w2 ⟨rfl, g2⟩
            have A1 := (CellsAt.new wr 23 #[.int .i64 0, .int .i64 0]).gr g2
            have c0 := A1.cell 0
            have c1 := A1.cell 1
            simp only [List.getElem?_toArray, List.getElem?_cons_zero, List.getElem?_cons_succ] at c0 c1
            go_wp2_with fail
            refine (H2.out _).mono ?_
            rintro e w3 ⟨rfl, g3⟩
            clear c0 c1
            have A2 := A1.gr g3
            have c0 := A2.cell 0
            have c1 := A2.cell 1
            simp only [List.getElem?_toArray, List.getElem?_cons_zero, List.getElem?_cons_succ] at c0 c1
            go_wp2_with fail
            go_roundw
            case rel => exact ⟨q + 1, by omega, by go_num, ((hg.alloc _ _).trans g2).trans g3⟩
            case measure => simp [intOf]; omega
        · obtain rfl : q = k := by omega
          clear HZ HK HC2
          go_wp2_with fail
          refine (AL.out _).mono ?_
          rintro e w4 ⟨rfl, g4⟩
          go_wp2_with fail
          go_ret
          exact ⟨rfl, (g1.trans hg).trans g4⟩

end Go.Proofs.Ytmhcbphkkcmecaa
