/- FourPasses, from what package four's Pass answers. -/
import Derived.Test.YtmhcbphkkcmecaaLaw11
namespace Go.Proofs.Ytmhcbphkkcmecaa
open Go.ChangeShapes Go.WideShapes Go.ChangeAt Go.RowKit
set_option linter.unusedVariables false
set_option maxRecDepth 100000

set_option maxHeartbeats 2000000 in
theorem fourPasses_bad (p q : Option Addr) (l1 l2 cap1 cap2 m1 m2 : Nat) (hh b s mo e : Int) (inv part : Bool) (xs ws : List Gi) (hm1 : m1 ≤ cap1) (hm2 : m2 ≤ cap2)
    (hmin1 : (if (70 : Int) < (l1 : Int) then 70 else (l1 : Int)) = (m1 : Int)) (hmin2 : (if (70 : Int) < (l2 : Int) then 70 else (l2 : Int)) = (m2 : Int)) (he : (e != 0) = true)
    (HP : Hid (∀ W, CxsAt W (.slice p m1 cap1) xs → CxsAt W (.slice q m2 cap2) ws → Calls Try.prog 17 #[.slice p m1 cap1, .slice q m2 cap2, .int .i64 hh, .int .i64 b, .int .i64 s, .int .i64 mo, .bool inv] W fun e' w' => e' = .returned (.tuple #[.slice none 0 0, .int .i64 e]) ∧ Gr W w'))
    (HH : Hid (∀ W, Calls Try.prog 19 #[.int .i64 hh, .int .i64 (m1 : Int)] W fun e' w' => e' = .returned (.bool part) ∧ w' = W))
    (HM : Hid (∀ W, CxsAt W (.slice p m1 cap1) xs → CxsAt W (.slice q m2 cap2) ws → Calls Try.prog 18 #[.slice p m1 cap1, .slice q m2 cap2, .bool part, .int .i64 b, .int .i64 s, .int .i64 mo] W fun e' w' => e' = .returned (.int .i64 e) ∧ Gr W w'))
    (AL : Hid (∀ W, Calls Try.prog 12 #[] W fun e w' => e = .returned (.bool true) ∧ Gr W w'))
    (w : World) (hx : CxsAt w (.slice p m1 cap1) xs) (hw : CxsAt w (.slice q m2 cap2) ws) :
    Calls Try.prog 4 #[.slice p l1 cap1, .slice q l2 cap2, .int .i64 hh, .int .i64 b, .int .i64 s, .int .i64 mo, .bool inv] w fun e w' => e = .returned (.bool true) ∧ Gr w w' := by
  have hcut1 := run_cut_cx p l1 cap1 m1 hm1
  have hcut2 := run_cut_cx q l2 cap2 m2 hm2
  have VX := Lib.hid hx
  have VW := Lib.hid hw
  clear hx hw
  go_enter Try.func4, Try.ntmps4
  go_wp2_with fail
  refine wp_region_held_drew (S := fun _ => True) rfl trivial (fun hS => ?_)
  refine wpAnyH_take (i := 0) (v := ?_) rfl (by kernel_rfl) (by kernel_rfl) (by kernel_rfl) (fun _ _ _ h => h) (Or.inl ⟨by rfl, ?_⟩) (by assumption) ?_
  rotate_left
  · (intro w hSw; (try dsimp only at hSw); go_split_ands; go_simp; try with_reducible rfl)
  try simp only [Act.put, List.setIfInBounds_toArray, List.set_cons_zero, List.set_cons_succ, List.getElem_toArray, List.getElem_cons_zero]
  refine wpAnyH_take (i := 1) (v := ?_) rfl (by kernel_rfl) (by kernel_rfl) (by kernel_rfl) (fun _ _ _ h => h) (Or.inl ⟨by rfl, ?_⟩) (by assumption) ?_
  rotate_left
  · (intro w hSw; (try dsimp only at hSw); go_split_ands; go_simp; try with_reducible rfl)
  try simp only [Act.put, List.setIfInBounds_toArray, List.set_cons_zero, List.set_cons_succ, List.getElem_toArray, List.getElem_cons_zero, List.getElem_cons_succ]
  refine wpAnyH_take (i := 2) (v := ?_) rfl (by kernel_rfl) (by kernel_rfl) (by kernel_rfl) (fun _ _ _ h => h) (Or.inl ⟨by rfl, ?_⟩) (by assumption) ?_
  rotate_left
  · (intro w hSw; (try dsimp only at hSw); go_split_ands; go_simp; try with_reducible rfl)
  try simp only [Act.put, List.setIfInBounds_toArray, List.set_cons_zero, List.set_cons_succ, List.getElem_toArray, List.getElem_cons_zero, List.getElem_cons_succ]
  refine wpAnyH_take (i := 3) (v := ?_) rfl (by kernel_rfl) (by kernel_rfl) (by kernel_rfl) (fun _ _ _ h => h) (Or.inl ⟨by rfl, ?_⟩) (by assumption) ?_
  rotate_left
  · (intro w hSw; (try dsimp only at hSw); go_split_ands; go_simp; try with_reducible rfl)
  try simp only [Act.put, List.setIfInBounds_toArray, List.set_cons_zero, List.set_cons_succ, List.getElem_toArray, List.getElem_cons_zero, List.getElem_cons_succ]
  refine wpAnyH_take (i := 4) (v := ?_) rfl (by kernel_rfl) (by kernel_rfl) (by kernel_rfl) (fun _ _ _ h => h) (Or.inl ⟨by rfl, ?_⟩) (by assumption) ?_
  rotate_left
  · (intro w hSw; (try dsimp only at hSw); go_split_ands; go_simp; try with_reducible rfl)
  try simp only [Act.put, List.setIfInBounds_toArray, List.set_cons_zero, List.set_cons_succ, List.getElem_toArray, List.getElem_cons_zero, List.getElem_cons_succ]
  refine wpAnyH_take (i := 5) (v := ?_) rfl (by kernel_rfl) (by kernel_rfl) (by kernel_rfl) (fun _ _ _ h => h) (Or.inl ⟨by rfl, ?_⟩) (by assumption) ?_
  rotate_left
  · (intro w hSw; (try dsimp only at hSw); go_split_ands; go_simp; try with_reducible rfl)
  try simp only [Act.put, List.setIfInBounds_toArray, List.set_cons_zero, List.set_cons_succ, List.getElem_toArray, List.getElem_cons_zero, List.getElem_cons_succ]
  refine wpAnyH_take (i := 6) (v := ?_) rfl (by kernel_rfl) (by kernel_rfl) (by kernel_rfl) (fun _ _ _ h => h) (Or.inl ⟨by rfl, ?_⟩) (by assumption) ?_
  rotate_left
  · (intro w hSw; (try dsimp only at hSw); go_split_ands; go_simp; try with_reducible rfl)
  try simp only [Act.put, List.setIfInBounds_toArray, List.set_cons_zero, List.set_cons_succ, List.getElem_toArray, List.getElem_cons_zero, List.getElem_cons_succ]
  refine wpAnyH_take (i := 7) (v := ?_) rfl (by kernel_rfl) (by kernel_rfl) (by kernel_rfl) (fun _ _ _ h => h) (Or.inl ⟨by rfl, ?_⟩) (by assumption) ?_
  rotate_left
  · (intro w hSw; (try dsimp only at hSw); go_split_ands; go_simp; try with_reducible rfl)
  try simp only [Act.put, List.setIfInBounds_toArray, List.set_cons_zero, List.set_cons_succ, List.getElem_toArray, List.getElem_cons_zero, List.getElem_cons_succ]
  refine wpAnyH_take (i := 8) (v := ?_) rfl (by kernel_rfl) (by kernel_rfl) (by kernel_rfl) (fun _ _ _ h => h) (Or.inl ⟨by rfl, ?_⟩) (by assumption) ?_
  rotate_left
  · (intro w hSw; (try dsimp only at hSw); go_split_ands; go_simp; try with_reducible rfl)
  try simp only [Act.put, List.setIfInBounds_toArray, List.set_cons_zero, List.set_cons_succ, List.getElem_toArray, List.getElem_cons_zero, List.getElem_cons_succ]
  refine wpAnyH_take (i := 9) (v := ?_) rfl (by kernel_rfl) (by kernel_rfl) (by kernel_rfl) (fun _ _ _ h => h) (Or.inl ⟨by rfl, ?_⟩) (by assumption) ?_
  rotate_left
  · (intro w hSw; (try dsimp only at hSw); go_split_ands; go_simp; try with_reducible rfl)
  try simp only [Act.put, List.setIfInBounds_toArray, List.set_cons_zero, List.set_cons_succ, List.getElem_toArray, List.getElem_cons_zero, List.getElem_cons_succ]
  refine wpAnyH_take (i := 10) (v := ?_) rfl (by kernel_rfl) (by kernel_rfl) (by kernel_rfl) (fun _ _ _ h => h) (Or.inl ⟨by rfl, ?_⟩) (by assumption) ?_
  rotate_left
  · (intro w hSw; (try dsimp only at hSw); go_split_ands; go_simp; try with_reducible rfl)
  try simp only [Act.put, List.setIfInBounds_toArray, List.set_cons_zero, List.getElem_toArray, List.getElem_cons_zero, List.getElem_cons_succ]
  refine wpAnyH_take (i := 11) (v := ?_) rfl (by kernel_rfl) (by kernel_rfl) (by kernel_rfl) (fun _ _ _ h => h) (Or.inl ⟨by rfl, ?_⟩) (by assumption) ?_
  rotate_left
  · (intro w hSw; (try dsimp only at hSw); go_split_ands; go_simp; try with_reducible rfl)
  try simp only [Act.put, List.setIfInBounds_toArray, List.set_cons_zero, List.set_cons_succ, List.getElem_toArray, List.getElem_cons_zero, List.getElem_cons_succ]
  refine wpAnyH_done (by kernel_rfl) ?_ _
  have V1 := Lib.hid (VX.out.gr (Gr.drew (Gr.refl _)))
  have V2 := Lib.hid (VW.out.gr (Gr.drew (Gr.refl _)))
  go_wp2_with fail
  refine (HP.out _ V1.out V2.out).mono ?_
  rintro e w1 ⟨rfl, g1⟩
  have V3 := Lib.hid (V1.out.gr g1)
  have V4 := Lib.hid (V2.out.gr g1)
  have gw1 := (Gr.drew (Gr.refl w)).trans g1
  go_wp2_with (go_at_call 19; refine (HH.out _).mono ?_; rintro e w2 ⟨rfl, hw2⟩; subst w2)
  refine (HM.out _ V3.out V4.out).mono ?_
  rintro e w3 ⟨rfl, g3⟩
  go_wp2_with fail
  refine (AL.out _).mono ?_
  rintro e w4 ⟨rfl, g4⟩
  go_wp2_with fail
  go_ret
  exact ⟨by simp, (gw1.trans g3).trans g4⟩

set_option maxHeartbeats 2000000 in
theorem fourPasses_ok (p q : Option Addr) (l1 l2 cap1 cap2 m1 m2 : Nat) (hh b s mo : Int) (inv : Bool) (xs ws ys : List Gi) (hm1 : m1 ≤ cap1) (hm2 : m2 ≤ cap2)
    (hmin1 : (if (70 : Int) < (l1 : Int) then 70 else (l1 : Int)) = (m1 : Int)) (hmin2 : (if (70 : Int) < (l2 : Int) then 70 else (l2 : Int)) = (m2 : Int))
    (HP : Hid (∀ W, CxsAt W (.slice p m1 cap1) xs → CxsAt W (.slice q m2 cap2) ws → Calls Try.prog 17 #[.slice p m1 cap1, .slice q m2 cap2, .int .i64 hh, .int .i64 b, .int .i64 s, .int .i64 mo, .bool inv] W fun e' w' => ∃ v', e' = .returned (.tuple #[v', .int .i64 0]) ∧ CxsAt w' v' ys ∧ Gr W w'))
    (HH : Hid (∀ W, Calls Try.prog 19 #[.int .i64 hh, .int .i64 (m1 : Int)] W fun e' w' => e' = .returned (.bool true) ∧ w' = W))
    (HM : Hid (∀ W, CxsAt W (.slice p m1 cap1) xs → CxsAt W (.slice q m2 cap2) ws → Calls Try.prog 18 #[.slice p m1 cap1, .slice q m2 cap2, .bool true, .int .i64 b, .int .i64 s, .int .i64 mo] W fun e' w' => e' = .returned (.int .i64 0) ∧ Gr W w'))
    (HR : Hid (∀ W, CxsAt W (.slice p m1 cap1) xs → CxsAt W (.slice q m2 cap2) ws → Calls Try.prog 21 #[.slice p m1 cap1, .slice q m2 cap2, .int .i64 hh, .int .i64 b, .int .i64 s, .int .i64 mo, .bool inv] W fun e' w' => ∃ v', e' = .returned v' ∧ CxsAt w' v' ys ∧ Gr W w'))
    (AL : Hid (∀ W, Calls Try.prog 12 #[] W fun e w' => e = .returned (.bool true) ∧ Gr W w'))
    (w : World) (hx : CxsAt w (.slice p m1 cap1) xs) (hw : CxsAt w (.slice q m2 cap2) ws) :
    Calls Try.prog 4 #[.slice p l1 cap1, .slice q l2 cap2, .int .i64 hh, .int .i64 b, .int .i64 s, .int .i64 mo, .bool inv] w fun e w' => e = .returned (.bool true) ∧ Gr w w' := by
  have hcut1 := run_cut_cx p l1 cap1 m1 hm1
  have hcut2 := run_cut_cx q l2 cap2 m2 hm2
  have VX := Lib.hid hx
  have VW := Lib.hid hw
  clear hx hw
  go_enter Try.func4, Try.ntmps4
  go_wp2_with fail
  refine wp_region_held_drew (S := fun _ => True) rfl trivial (fun hS => ?_)
  refine wpAnyH_take (i := 0) (v := ?_) rfl (by kernel_rfl) (by kernel_rfl) (by kernel_rfl) (fun _ _ _ h => h) (Or.inl ⟨by rfl, ?_⟩) (by assumption) ?_
  rotate_left
  · (intro w hSw; (try dsimp only at hSw); go_split_ands; go_simp; try with_reducible rfl)
  try simp only [Act.put, List.setIfInBounds_toArray, List.set_cons_zero, List.set_cons_succ, List.getElem_toArray, List.getElem_cons_zero]
  refine wpAnyH_take (i := 1) (v := ?_) rfl (by kernel_rfl) (by kernel_rfl) (by kernel_rfl) (fun _ _ _ h => h) (Or.inl ⟨by rfl, ?_⟩) (by assumption) ?_
  rotate_left
  · (intro w hSw; (try dsimp only at hSw); go_split_ands; go_simp; try with_reducible rfl)
  try simp only [Act.put, List.setIfInBounds_toArray, List.set_cons_zero, List.set_cons_succ, List.getElem_toArray, List.getElem_cons_zero, List.getElem_cons_succ]
  refine wpAnyH_take (i := 2) (v := ?_) rfl (by kernel_rfl) (by kernel_rfl) (by kernel_rfl) (fun _ _ _ h => h) (Or.inl ⟨by rfl, ?_⟩) (by assumption) ?_
  rotate_left
  · (intro w hSw; (try dsimp only at hSw); go_split_ands; go_simp; try with_reducible rfl)
  try simp only [Act.put, List.setIfInBounds_toArray, List.set_cons_zero, List.set_cons_succ, List.getElem_toArray, List.getElem_cons_zero, List.getElem_cons_succ]
  refine wpAnyH_take (i := 3) (v := ?_) rfl (by kernel_rfl) (by kernel_rfl) (by kernel_rfl) (fun _ _ _ h => h) (Or.inl ⟨by rfl, ?_⟩) (by assumption) ?_
  rotate_left
  · (intro w hSw; (try dsimp only at hSw); go_split_ands; go_simp; try with_reducible rfl)
  try simp only [Act.put, List.setIfInBounds_toArray, List.set_cons_zero, List.set_cons_succ, List.getElem_toArray, List.getElem_cons_zero, List.getElem_cons_succ]
  refine wpAnyH_take (i := 4) (v := ?_) rfl (by kernel_rfl) (by kernel_rfl) (by kernel_rfl) (fun _ _ _ h => h) (Or.inl ⟨by rfl, ?_⟩) (by assumption) ?_
  rotate_left
  · (intro w hSw; (try dsimp only at hSw); go_split_ands; go_simp; try with_reducible rfl)
  try simp only [Act.put, List.setIfInBounds_toArray, List.set_cons_zero, List.set_cons_succ, List.getElem_toArray, List.getElem_cons_zero, List.getElem_cons_succ]
  refine wpAnyH_take (i := 5) (v := ?_) rfl (by kernel_rfl) (by kernel_rfl) (by kernel_rfl) (fun _ _ _ h => h) (Or.inl ⟨by rfl, ?_⟩) (by assumption) ?_
  rotate_left
  · (intro w hSw; (try dsimp only at hSw); go_split_ands; go_simp; try with_reducible rfl)
  try simp only [Act.put, List.setIfInBounds_toArray, List.set_cons_zero, List.set_cons_succ, List.getElem_toArray, List.getElem_cons_zero, List.getElem_cons_succ]
  refine wpAnyH_take (i := 6) (v := ?_) rfl (by kernel_rfl) (by kernel_rfl) (by kernel_rfl) (fun _ _ _ h => h) (Or.inl ⟨by rfl, ?_⟩) (by assumption) ?_
  rotate_left
  · (intro w hSw; (try dsimp only at hSw); go_split_ands; go_simp; try with_reducible rfl)
  try simp only [Act.put, List.setIfInBounds_toArray, List.set_cons_zero, List.set_cons_succ, List.getElem_toArray, List.getElem_cons_zero, List.getElem_cons_succ]
  refine wpAnyH_take (i := 7) (v := ?_) rfl (by kernel_rfl) (by kernel_rfl) (by kernel_rfl) (fun _ _ _ h => h) (Or.inl ⟨by rfl, ?_⟩) (by assumption) ?_
  rotate_left
  · (intro w hSw; (try dsimp only at hSw); go_split_ands; go_simp; try with_reducible rfl)
  try simp only [Act.put, List.setIfInBounds_toArray, List.set_cons_zero, List.set_cons_succ, List.getElem_toArray, List.getElem_cons_zero, List.getElem_cons_succ]
  refine wpAnyH_take (i := 8) (v := ?_) rfl (by kernel_rfl) (by kernel_rfl) (by kernel_rfl) (fun _ _ _ h => h) (Or.inl ⟨by rfl, ?_⟩) (by assumption) ?_
  rotate_left
  · (intro w hSw; (try dsimp only at hSw); go_split_ands; go_simp; try with_reducible rfl)
  try simp only [Act.put, List.setIfInBounds_toArray, List.set_cons_zero, List.set_cons_succ, List.getElem_toArray, List.getElem_cons_zero, List.getElem_cons_succ]
  refine wpAnyH_take (i := 9) (v := ?_) rfl (by kernel_rfl) (by kernel_rfl) (by kernel_rfl) (fun _ _ _ h => h) (Or.inl ⟨by rfl, ?_⟩) (by assumption) ?_
  rotate_left
  · (intro w hSw; (try dsimp only at hSw); go_split_ands; go_simp; try with_reducible rfl)
  try simp only [Act.put, List.setIfInBounds_toArray, List.set_cons_zero, List.set_cons_succ, List.getElem_toArray, List.getElem_cons_zero, List.getElem_cons_succ]
  refine wpAnyH_take (i := 10) (v := ?_) rfl (by kernel_rfl) (by kernel_rfl) (by kernel_rfl) (fun _ _ _ h => h) (Or.inl ⟨by rfl, ?_⟩) (by assumption) ?_
  rotate_left
  · (intro w hSw; (try dsimp only at hSw); go_split_ands; go_simp; try with_reducible rfl)
  try simp only [Act.put, List.setIfInBounds_toArray, List.set_cons_zero, List.getElem_toArray, List.getElem_cons_zero, List.getElem_cons_succ]
  refine wpAnyH_take (i := 11) (v := ?_) rfl (by kernel_rfl) (by kernel_rfl) (by kernel_rfl) (fun _ _ _ h => h) (Or.inl ⟨by rfl, ?_⟩) (by assumption) ?_
  rotate_left
  · (intro w hSw; (try dsimp only at hSw); go_split_ands; go_simp; try with_reducible rfl)
  try simp only [Act.put, List.setIfInBounds_toArray, List.set_cons_zero, List.set_cons_succ, List.getElem_toArray, List.getElem_cons_zero, List.getElem_cons_succ]
  refine wpAnyH_done (by kernel_rfl) ?_ _
  have V1 := Lib.hid (VX.out.gr (Gr.drew (Gr.refl _)))
  have V2 := Lib.hid (VW.out.gr (Gr.drew (Gr.refl _)))
  go_wp2_with fail
  refine (HP.out _ V1.out V2.out).mono ?_
  rintro e w1 ⟨v1, rfl, hI1, g1⟩
  obtain ⟨p1, c1, rfl⟩ := hI1.len
  have J1 := Lib.hid hI1
  have V3 := Lib.hid (V1.out.gr g1)
  have V4 := Lib.hid (V2.out.gr g1)
  have gw1 := (Gr.drew (Gr.refl w)).trans g1
  clear hI1
  go_wp2_with (go_at_call 19; refine (HH.out _).mono ?_; rintro e w2 ⟨rfl, hw2⟩; subst w2)
  refine (HM.out _ V3.out V4.out).mono ?_
  rintro e w3 ⟨rfl, g3⟩
  have V5 := Lib.hid (V3.out.gr g3)
  have V6 := Lib.hid (V4.out.gr g3)
  go_wp2_with fail
  refine (AL.out _).mono ?_
  rintro e w4 ⟨rfl, g4⟩
  have V7 := Lib.hid (V5.out.gr g4)
  have V8 := Lib.hid (V6.out.gr g4)
  go_wp2_with fail
  refine (HR.out _ V7.out V8.out).mono ?_
  rintro e w5 ⟨v5, rfl, hI5, g5⟩
  have HS := Lib.hid (same03_c _ _ ys w5 (J1.out.gr ((g3.trans g4).trans g5)) hI5)
  go_wp2_with fail
  refine HS.out.mono ?_
  rintro e w6 ⟨rfl, g6⟩
  go_wp2_with fail
  go_ret
  exact ⟨rfl, ((((gw1.trans g3).trans g4).trans g5).trans g6)⟩

end Go.Proofs.Ytmhcbphkkcmecaa
