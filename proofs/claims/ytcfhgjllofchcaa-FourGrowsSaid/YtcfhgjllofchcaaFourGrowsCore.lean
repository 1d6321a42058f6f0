/- FourGrows, from what package four's Pass and package scan's Max answer. -/
import Derived.Test.YtcfhgjllofchcaaLaw11
import Derived.Test.YtcfhgjllofchcaaScanCode1
namespace Go.Proofs.Ytcfhgjllofchcaa
open Go.ChangeShapes Go.WideShapes Go.ChangeAt Go.RowKit
set_option linter.unusedVariables false

set_option maxHeartbeats 2000000 in
theorem fourGrows_bad (p q : Option Addr) (l1 l2 cap1 cap2 m1 m2 : Nat) (hh b s mo e : Int) (inv : Bool) (xs ws : List Gi) (hm1 : m1 ≤ cap1) (hm2 : m2 ≤ cap2)
    (hmin1 : (if (70 : Int) < (l1 : Int) then 70 else (l1 : Int)) = (m1 : Int)) (hmin2 : (if (70 : Int) < (l2 : Int) then 70 else (l2 : Int)) = (m2 : Int)) (he : (e != 0) = true)
    (HP : Hid (∀ W, CxsAt W (.slice p m1 cap1) xs → CxsAt W (.slice q m2 cap2) ws → Calls Try.prog 15 #[.slice p m1 cap1, .slice q m2 cap2, .int .i64 hh, .int .i64 b, .int .i64 s, .int .i64 mo, .bool inv] W fun e' w' => e' = .returned (.tuple #[.slice none 0 0, .int .i64 e]) ∧ Gr W w'))
    (AL : Hid (∀ W, Calls Try.prog 10 #[] W fun e w' => e = .returned (.bool true) ∧ Gr W w'))
    (w : World) (hx : CxsAt w (.slice p m1 cap1) xs) (hw : CxsAt w (.slice q m2 cap2) ws) :
    Calls Try.prog 7 #[.slice p l1 cap1, .slice q l2 cap2, .int .i64 hh, .int .i64 b, .int .i64 s, .int .i64 mo, .bool inv] w fun e w' => e = .returned (.bool true) ∧ Gr w w' := by
  have hcut1 := run_cut_cx p l1 cap1 m1 hm1
  have hcut2 := run_cut_cx q l2 cap2 m2 hm2
  have VX := Lib.hid hx
  have VW := Lib.hid hw
  clear hx hw
  go_enter Try.func7, Try.ntmps7
  go_wp2_with fail
  refine wp_region_held_drew (S := fun _ => True) rfl trivial (fun hS => ?_)
  refine wpAnyH_take (i := 0) (v := ?_) rfl (by kernel_rfl) (by kernel_rfl) (by kernel_rfl) (fun _ _ _ h => h) (Or.inl ⟨by rfl, ?_⟩) (by assumption) ?_
  rotate_left
  · (intro w hSw; (try dsimp only at hSw); go_split_ands; go_simp; try with_reducible rfl)
  try simp only [Act.put, List.setIfInBounds_toArray, List.set_cons_zero, List.set_cons_succ, List.getElem_toArray, List.getElem_cons_zero]
  refine wpAnyH_take (i := 1) (v := ?_) rfl (by kernel_rfl) (by kernel_rfl) (by kernel_rfl) (fun _ _ _ h => h) (Or.inl ⟨by rfl, ?_⟩) (by assumption) ?_
  rotate_left
  · (intro w hSw; (try dsimp only at hSw); go_split_ands; go_simp; try with_reducible rfl)
  try simp only [Act.put, List.setIfInBounds_toArray, List.set_cons_zero, List.set_cons_succ, List.getElem_toArray, List.getElem_cons_zero, List.getElem_cons_succ]
  refine wpAnyH_take (i := 2) (v := ?_) rfl (by kernel_rfl) (by kernel_rfl) (by kernel_rfl) (fun _ _ _ h => h) (Or.inl ⟨by rfl, ?_⟩) (by assumption) ?_
  rotate_left
  · (intro w hSw; (try dsimp only at hSw); go_split_ands; go_simp; try with_reducible rfl)
  try simp only [Act.put, List.setIfInBounds_toArray, List.set_cons_zero, List.set_cons_succ, List.getElem_toArray, List.getElem_cons_zero, List.getElem_cons_succ]
  refine wpAnyH_take (i := 3) (v := ?_) rfl (by kernel_rfl) (by kernel_rfl) (by kernel_rfl) (fun _ _ _ h => h) (Or.inl ⟨by rfl, ?_⟩) (by assumption) ?_
  rotate_left
  · (intro w hSw; (try dsimp only at hSw); go_split_ands; go_simp; try with_reducible rfl)
  try simp only [Act.put, List.setIfInBounds_toArray, List.set_cons_zero, List.set_cons_succ, List.getElem_toArray, List.getElem_cons_zero, List.getElem_cons_succ]
  refine wpAnyH_take (i := 4) (v := ?_) rfl (by kernel_rfl) (by kernel_rfl) (by kernel_rfl) (fun _ _ _ h => h) (Or.inl ⟨by rfl, ?_⟩) (by assumption) ?_
  rotate_left
  · (intro w hSw; (try dsimp only at hSw); go_split_ands; go_simp; try with_reducible rfl)
  try simp only [Act.put, List.setIfInBounds_toArray, List.set_cons_zero, List.set_cons_succ, List.getElem_toArray, List.getElem_cons_zero, List.getElem_cons_succ]
  refine wpAnyH_take (i := 5) (v := ?_) rfl (by kernel_rfl) (by kernel_rfl) (by kernel_rfl) (fun _ _ _ h => h) (Or.inl ⟨by rfl, ?_⟩) (by assumption) ?_
  rotate_left
  · (intro w hSw; (try dsimp only at hSw); go_split_ands; go_simp; try with_reducible rfl)
  try simp only [Act.put, List.setIfInBounds_toArray, List.set_cons_zero, List.set_cons_succ, List.getElem_toArray, List.getElem_cons_zero, List.getElem_cons_succ]
  refine wpAnyH_take (i := 6) (v := ?_) rfl (by kernel_rfl) (by kernel_rfl) (by kernel_rfl) (fun _ _ _ h => h) (Or.inl ⟨by rfl, ?_⟩) (by assumption) ?_
  rotate_left
  · (intro w hSw; (try dsimp only at hSw); go_split_ands; go_simp; try with_reducible rfl)
  try simp only [Act.put, List.setIfInBounds_toArray, List.set_cons_zero, List.set_cons_succ, List.getElem_toArray, List.getElem_cons_zero, List.getElem_cons_succ]
  refine wpAnyH_take (i := 7) (v := ?_) rfl (by kernel_rfl) (by kernel_rfl) (by kernel_rfl) (fun _ _ _ h => h) (Or.inl ⟨by rfl, ?_⟩) (by assumption) ?_
  rotate_left
  · (intro w hSw; (try dsimp only at hSw); go_split_ands; go_simp; try with_reducible rfl)
  try simp only [Act.put, List.setIfInBounds_toArray, List.set_cons_zero, List.set_cons_succ, List.getElem_toArray, List.getElem_cons_zero, List.getElem_cons_succ]
  refine wpAnyH_take (i := 8) (v := ?_) rfl (by kernel_rfl) (by kernel_rfl) (by kernel_rfl) (fun _ _ _ h => h) (Or.inl ⟨by rfl, ?_⟩) (by assumption) ?_
  rotate_left
  · (intro w hSw; (try dsimp only at hSw); go_split_ands; go_simp; try with_reducible rfl)
  try simp only [Act.put, List.setIfInBounds_toArray, List.set_cons_zero, List.set_cons_succ, List.getElem_toArray, List.getElem_cons_zero, List.getElem_cons_succ]
  refine wpAnyH_take (i := 9) (v := ?_) rfl (by kernel_rfl) (by kernel_rfl) (by kernel_rfl) (fun _ _ _ h => h) (Or.inl ⟨by rfl, ?_⟩) (by assumption) ?_
  rotate_left
  · (intro w hSw; (try dsimp only at hSw); go_split_ands; go_simp; try with_reducible rfl)
  try simp only [Act.put, List.setIfInBounds_toArray, List.set_cons_zero, List.set_cons_succ, List.getElem_toArray, List.getElem_cons_zero, List.getElem_cons_succ]
  refine wpAnyH_take (i := 10) (v := ?_) rfl (by kernel_rfl) (by kernel_rfl) (by kernel_rfl) (fun _ _ _ h => h) (Or.inl ⟨by rfl, ?_⟩) (by assumption) ?_
  rotate_left
  · (intro w hSw; (try dsimp only at hSw); go_split_ands; go_simp; try with_reducible rfl)
  try simp only [Act.put, List.setIfInBounds_toArray, List.set_cons_zero, List.getElem_toArray, List.getElem_cons_zero, List.getElem_cons_succ]
  refine wpAnyH_take (i := 11) (v := ?_) rfl (by kernel_rfl) (by kernel_rfl) (by kernel_rfl) (fun _ _ _ h => h) (Or.inl ⟨by rfl, ?_⟩) (by assumption) ?_
  rotate_left
  · (intro w hSw; (try dsimp only at hSw); go_split_ands; go_simp; try with_reducible rfl)
  try simp only [Act.put, List.setIfInBounds_toArray, List.set_cons_zero, List.set_cons_succ, List.getElem_toArray, List.getElem_cons_zero, List.getElem_cons_succ]
  refine wpAnyH_done (by kernel_rfl) ?_ _
  have V1 := Lib.hid (VX.out.gr (Gr.drew (Gr.refl _)))
  have V2 := Lib.hid (VW.out.gr (Gr.drew (Gr.refl _)))
  go_wp2_with fail
  refine (HP.out _ V1.out V2.out).mono ?_
  rintro e w1 ⟨rfl, g1⟩
  have gw1 := (Gr.drew (Gr.refl w)).trans g1
  go_wp2_with fail
  refine (AL.out _).mono ?_
  rintro e w4 ⟨rfl, g4⟩
  go_wp2_with fail
  go_ret
  exact ⟨rfl, gw1.trans g4⟩

/-- What the law asks of a part v: it is no greater than told. -/
def PartOk (s m3 v : Int) (z : Bool) : Prop := ∃ a t : Int, IntKind.i64.wrap (v - 1) = a ∧ IntKind.i64.wrap (a * 2 ^ min s.toNat 64) = t ∧ t ≤ m3 ∧ (z = true → v ≤ 0)

/-- What the law asks of a number. -/
def GrowOk (s m3 : Int) (z : Bool) (g : Gi) : Prop := IntKind.i64.wrap (-g.re) = -g.re ∧ IntKind.i64.wrap (-g.im) = -g.im ∧ PartOk s m3 g.re z ∧ PartOk s m3 (-g.re) z ∧ PartOk s m3 g.im z ∧ PartOk s m3 (-g.im) z

theorem max4_cases (a b c d : Int) : ∃ N, (if d > (if c > (if b > a then b else a) then c else (if b > a then b else a)) then d else (if c > (if b > a then b else a) then c else (if b > a then b else a))) = N ∧ (N = a ∨ N = b ∨ N = c ∨ N = d) := by
  refine ⟨_, rfl, ?_⟩
  repeat' split
  all_goals simp

theorem run_max4 (ts : Array TypeId) (t : TypeId) (a b c d N : Int) (h : (if d > (if c > (if b > a then b else a) then c else (if b > a then b else a)) then d else (if c > (if b > a then b else a) then c else (if b > a then b else a))) = N) (w : World) :
    (Builtin.max_ ts t #[.int .i64 a, .int .i64 b, .int .i64 c, .int .i64 d]).run Try.prog w = .ok (.int .i64 N) w := by
  rw [← h]
  simp [Builtin.max_, Builtin.max2]

set_option maxHeartbeats 4000000 in
theorem fourGrows_ok (p q : Option Addr) (l1 l2 cap1 cap2 m1 m2 : Nat) (hh b s mo m m3 : Int) (z inv : Bool) (xs ws ys : List Gi) (hm1 : m1 ≤ cap1) (hm2 : m2 ≤ cap2) (s0 : 0 ≤ s)
    (hmin1 : (if (70 : Int) < (l1 : Int) then 70 else (l1 : Int)) = (m1 : Int)) (hmin2 : (if (70 : Int) < (l2 : Int) then 70 else (l2 : Int)) = (m2 : Int)) (hly : ys.length = m1) (hm4 : 4 ≤ m1 ∧ m1 ≤ 64)
    (hz : (m == 0) = z) (h3 : IntKind.i64.wrap (7 * m) = m3) (HG : Hid (∀ (i : Nat) (a : Gi), ys[i]? = some a → GrowOk s m3 z a))
    (HP : Hid (∀ W, CxsAt W (.slice p m1 cap1) xs → CxsAt W (.slice q m2 cap2) ws → Calls Try.prog 15 #[.slice p m1 cap1, .slice q m2 cap2, .int .i64 hh, .int .i64 b, .int .i64 s, .int .i64 mo, .bool inv] W fun e' w' => ∃ v', e' = .returned (.tuple #[v', .int .i64 0]) ∧ CxsAt w' v' ys ∧ Gr W w'))
    (HX : Hid (∀ W, CxsAt W (.slice p m1 cap1) xs → Calls Try.prog 21 #[.slice p m1 cap1] W fun e' w' => e' = .returned (.tuple #[.int .i64 m, .int .i64 0]) ∧ Gr W w'))
    (AL : Hid (∀ W, Calls Try.prog 10 #[] W fun e w' => e = .returned (.bool true) ∧ Gr W w'))
    (w : World) (hx : CxsAt w (.slice p m1 cap1) xs) (hw : CxsAt w (.slice q m2 cap2) ws) :
    Calls Try.prog 7 #[.slice p l1 cap1, .slice q l2 cap2, .int .i64 hh, .int .i64 b, .int .i64 s, .int .i64 mo, .bool inv] w fun e w' => e = .returned (.bool true) ∧ Gr w w' := by
  have hcut1 := run_cut_cx p l1 cap1 m1 hm1
  have hcut2 := run_cut_cx q l2 cap2 m2 hm2
  have VX := Lib.hid hx
  have VW := Lib.hid hw
  have HN := Lib.hid (And.intro hz (And.intro h3 hly))
  clear hx hw hz h3 hly
  go_enter Try.func7, Try.ntmps7
  go_wp2_with fail
  refine wp_region_held_drew (S := fun _ => True) rfl trivial (fun hS => ?_)
  refine wpAnyH_take (i := 0) (v := ?_) rfl (by kernel_rfl) (by kernel_rfl) (by kernel_rfl) (fun _ _ _ h => h) (Or.inl ⟨by rfl, ?_⟩) (by assumption) ?_
  rotate_left
  · (intro w hSw; (try dsimp only at hSw); go_split_ands; go_simp; try with_reducible rfl)
  try simp only [Act.put, List.setIfInBounds_toArray, List.set_cons_zero, List.set_cons_succ, List.getElem_toArray, List.getElem_cons_zero]
  refine wpAnyH_take (i := 1) (v := ?_) rfl (by kernel_rfl) (by kernel_rfl) (by kernel_rfl) (fun _ _ _ h => h) (Or.inl ⟨by rfl, ?_⟩) (by assumption) ?_
  rotate_left
  · (intro w hSw; (try dsimp only at hSw); go_split_ands; go_simp; try with_reducible rfl)
  try simp only [Act.put, List.setIfInBounds_toArray, List.set_cons_zero, List.set_cons_succ, List.getElem_toArray, List.getElem_cons_zero, List.getElem_cons_succ]
  refine wpAnyH_take (i := 2) (v := ?_) rfl (by kernel_rfl) (by kernel_rfl) (by kernel_rfl) (fun _ _ _ h => h) (Or.inl ⟨by rfl, ?_⟩) (by assumption) ?_
  rotate_left
  · (intro w hSw; (try dsimp only at hSw); go_split_ands; go_simp; try with_reducible rfl)
  try simp only [Act.put, List.setIfInBounds_toArray, List.set_cons_zero, List.set_cons_succ, List.getElem_toArray, List.getElem_cons_zero, List.getElem_cons_succ]
  refine wpAnyH_take (i := 3) (v := ?_) rfl (by kernel_rfl) (by kernel_rfl) (by kernel_rfl) (fun _ _ _ h => h) (Or.inl ⟨by rfl, ?_⟩) (by assumption) ?_
  rotate_left
  · (intro w hSw; (try dsimp only at hSw); go_split_ands; go_simp; try with_reducible rfl)
  try simp only [Act.put, List.setIfInBounds_toArray, List.set_cons_zero, List.set_cons_succ, List.getElem_toArray, List.getElem_cons_zero, List.getElem_cons_succ]
  refine wpAnyH_take (i := 4) (v := ?_) rfl (by kernel_rfl) (by kernel_rfl) (by kernel_rfl) (fun _ _ _ h => h) (Or.inl ⟨by rfl, ?_⟩) (by assumption) ?_
  rotate_left
  · (intro w hSw; (try dsimp only at hSw); go_split_ands; go_simp; try with_reducible rfl)
  try simp only [Act.put, List.setIfInBounds_toArray, List.set_cons_zero, List.set_cons_succ, List.getElem_toArray, List.getElem_cons_zero, List.getElem_cons_succ]
  refine wpAnyH_take (i := 5) (v := ?_) rfl (by kernel_rfl) (by kernel_rfl) (by kernel_rfl) (fun _ _ _ h => h) (Or.inl ⟨by rfl, ?_⟩) (by assumption) ?_
  rotate_left
  · (intro w hSw; (try dsimp only at hSw); go_split_ands; go_simp; try with_reducible rfl)
  try simp only [Act.put, List.setIfInBounds_toArray, List.set_cons_zero, List.set_cons_succ, List.getElem_toArray, List.getElem_cons_zero, List.getElem_cons_succ]
  refine wpAnyH_take (i := 6) (v := ?_) rfl (by kernel_rfl) (by kernel_rfl) (by kernel_rfl) (fun _ _ _ h => h) (Or.inl ⟨by rfl, ?_⟩) (by assumption) ?_
  rotate_left
  · (intro w hSw; (try dsimp only at hSw); go_split_ands; go_simp; try with_reducible rfl)
  try simp only [Act.put, List.setIfInBounds_toArray, List.set_cons_zero, List.set_cons_succ, List.getElem_toArray, List.getElem_cons_zero, List.getElem_cons_succ]
  refine wpAnyH_take (i := 7) (v := ?_) rfl (by kernel_rfl) (by kernel_rfl) (by kernel_rfl) (fun _ _ _ h => h) (Or.inl ⟨by rfl, ?_⟩) (by assumption) ?_
  rotate_left
  · (intro w hSw; (try dsimp only at hSw); go_split_ands; go_simp; try with_reducible rfl)
  try simp only [Act.put, List.setIfInBounds_toArray, List.set_cons_zero, List.set_cons_succ, List.getElem_toArray, List.getElem_cons_zero, List.getElem_cons_succ]
  refine wpAnyH_take (i := 8) (v := ?_) rfl (by kernel_rfl) (by kernel_rfl) (by kernel_rfl) (fun _ _ _ h => h) (Or.inl ⟨by rfl, ?_⟩) (by assumption) ?_
  rotate_left
  · (intro w hSw; (try dsimp only at hSw); go_split_ands; go_simp; try with_reducible rfl)
  try simp only [Act.put, List.setIfInBounds_toArray, List.set_cons_zero, List.set_cons_succ, List.getElem_toArray, List.getElem_cons_zero, List.getElem_cons_succ]
  refine wpAnyH_take (i := 9) (v := ?_) rfl (by kernel_rfl) (by kernel_rfl) (by kernel_rfl) (fun _ _ _ h => h) (Or.inl ⟨by rfl, ?_⟩) (by assumption) ?_
  rotate_left
  · (intro w hSw; (try dsimp only at hSw); go_split_ands; go_simp; try with_reducible rfl)
  try simp only [Act.put, List.setIfInBounds_toArray, List.set_cons_zero, List.set_cons_succ, List.getElem_toArray, List.getElem_cons_zero, List.getElem_cons_succ]
  refine wpAnyH_take (i := 10) (v := ?_) rfl (by kernel_rfl) (by kernel_rfl) (by kernel_rfl) (fun _ _ _ h => h) (Or.inl ⟨by rfl, ?_⟩) (by assumption) ?_
  rotate_left
  · (intro w hSw; (try dsimp only at hSw); go_split_ands; go_simp; try with_reducible rfl)
  try simp only [Act.put, List.setIfInBounds_toArray, List.set_cons_zero, List.getElem_toArray, List.getElem_cons_zero, List.getElem_cons_succ]
  refine wpAnyH_take (i := 11) (v := ?_) rfl (by kernel_rfl) (by kernel_rfl) (by kernel_rfl) (fun _ _ _ h => h) (Or.inl ⟨by rfl, ?_⟩) (by assumption) ?_
  rotate_left
  · (intro w hSw; (try dsimp only at hSw); go_split_ands; go_simp; try with_reducible rfl)
  try simp only [Act.put, List.setIfInBounds_toArray, List.set_cons_zero, List.set_cons_succ, List.getElem_toArray, List.getElem_cons_zero, List.getElem_cons_succ]
  refine wpAnyH_done (by kernel_rfl) ?_ _
  have V1 := Lib.hid (VX.out.gr (Gr.drew (Gr.refl _)))
  have V2 := Lib.hid (VW.out.gr (Gr.drew (Gr.refl _)))
  go_wp2_with fail
  refine (HP.out _ V1.out V2.out).mono ?_
  rintro e w1 ⟨v1, rfl, hI1, g1⟩
  have V3 := Lib.hid (V1.out.gr g1)
  have gw1 := (Gr.drew (Gr.refl w)).trans g1
  obtain ⟨hz, h3, hly⟩ := HN.out
  obtain ⟨b1, o1, c1, rfl, _, hb1, hc1⟩ := hI1.at (by intro e; rw [e] at hly; simp at hly; omega)
  rw [hly]
  clear hI1 HN VX VW V1 V2 hcut1 hcut2 hmin1 hmin2 HP
  go_wp2_with fail
  refine (HX.out _ V3.out).mono ?_
  rintro e w2 ⟨rfl, g2⟩
  go_wp2_with fail
  refine (AL.out _).mono ?_
  rintro e w3 ⟨rfl, g3⟩
  have g23 := g2.trans g3
  have HC := Lib.hid fun (j : Nat) (x : Gi) (hj : ys[j]? = some x) => And.intro ((g23.cell (p := ⟨b1, o1 + j * 2, none⟩) hb1).trans (hc1 j x hj).1) ((g23.cell (p := ⟨b1, o1 + j * 2 + 1, none⟩) hb1).trans (hc1 j x hj).2)
  have hb3 : b1 < w3.heap.size := Nat.lt_of_lt_of_le hb1 g23.size
  have gw3 := Lib.hid (gw1.trans g23)
  have HY := Lib.hid hly
  clear hc1 hb1 g1 g2 g3 g23 gw1 V3 HX AL hly
  go_wp2_with fail
  go_loopw [20, 21, 71] (fun _ _ i wr => ∃ k : Nat, k ≤ m1 ∧ i = .int .i64 k ∧ Gr w3 wr) (fun _ _ i _ => m1 - (intOf i).toNat)
  case atStart => exact ⟨0, Nat.zero_le _, rfl, Gr.refl _⟩
  case round =>
    obtain ⟨k, hk, rfl, hg⟩ := hrel
    by_cases hlt : k < m1
    · obtain ⟨x, hx⟩ := get_of_lt (show k < ys.length by rw [HY.out]; exact hlt)
      have d0 := (hg.cell (p := ⟨b1, o1 + k * 2, none⟩) hb3).trans (HC.out k x hx).1
      have d1 := (hg.cell (p := ⟨b1, o1 + k * 2 + 1, none⟩) hb3).trans (HC.out k x hx).2
      have hbl : b1 < wr.heap.size := Nat.lt_of_lt_of_le hb3 hg.size
      obtain ⟨n0, n1, ⟨a1, t1, p1, p2, p3, p4⟩, ⟨a2, t2, p5, p6, p7, p8⟩, ⟨a3, t3, p9, p10, p11, p12⟩, ⟨a4, t4, p13, p14, p15, p16⟩⟩ := HG.out k x hx
      obtain ⟨re, im⟩ := x
      simp only at d0 d1 n0 n1 p1 p2 p3 p4 p5 p6 p7 p8 p9 p10 p11 p12 p13 p14 p15 p16
      clear hx HC HY HG
      cases z
      · clear p4 p8 p12 p16
        obtain ⟨N, hN, hc⟩ := max4_cases re (-re) im (-im)
        have hmx := run_max4 #[3, 3, 3, 3] 3 re (-re) im (-im) N hN
        clear hN
        rcases hc with rfl | rfl | rfl | rfl
        all_goals
          go_wp2_with fail
          go_roundw
          case rel => exact ⟨k + 1, by omega, by go_num, hg.alloc _ _⟩
          case measure => simp [intOf]; omega
      · have q4 := p4 rfl
        have q8 := p8 rfl
        have q12 := p12 rfl
        have q16 := p16 rfl
        clear p4 p8 p12 p16
        obtain ⟨N, hN, hc⟩ := max4_cases re (-re) im (-im)
        have hmx := run_max4 #[3, 3, 3, 3] 3 re (-re) im (-im) N hN
        clear hN
        rcases hc with rfl | rfl | rfl | rfl
        all_goals
          go_wp2_with fail
          go_roundw
          case rel => exact ⟨k + 1, by omega, by go_num, hg.alloc _ _⟩
          case measure => simp [intOf]; omega
    · obtain rfl : k = m1 := by omega
      go_wp2_with fail
      go_ret
      exact ⟨rfl, gw3.out.trans hg⟩

end Go.Proofs.Ytcfhgjllofchcaa
