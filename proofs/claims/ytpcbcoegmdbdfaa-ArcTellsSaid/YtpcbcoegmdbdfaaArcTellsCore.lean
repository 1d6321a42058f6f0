/- ArcTells: the walks of its two cases. -/
import Derived.Test.YtpcbcoegmdbdfaaLaw04
namespace Go.Proofs.Ytpcbcoegmdbdfaa
open Go.ChangeShapes Go.WideShapes Go.ChangeAt Go.RowKit
set_option linter.unusedVariables false

set_option maxHeartbeats 2000000 in
theorem tells_ok (m : Nat) (m0 : 2 ≤ m) (m1 : m ≤ 17592186044416) (w : World) :
    Calls Try.prog 3 #[.int .i64 m] w fun e w' => e = .returned (.bool true) ∧ Gr w w' := by
  have HA := Lib.hid (arc_ok m m0 m1)
  have HT := Lib.hid (terms_ok m m0 m1)
  have HQ := Lib.hid quarter_c
  have HR := Lib.hid refQuarter_c
  have HL := Lib.hid alive04_c
  have HM := Lib.hid (may04_yes m (by omega) (by omega))
  have HB := Lib.hid (refArc_c m m0 m1)
  have HU := Lib.hid (refTerms_c m m0 m1)
  have M := Lib.hid (And.intro m0 m1)
  clear m0 m1
  go_enter Try.func3, Try.ntmps3
  go_wp2_with fail
  refine (HA.out _).mono ?_
  rintro e w1 ⟨rfl, hg1⟩
  go_wp2_with fail
  refine (HT.out _).mono ?_
  rintro e w2 ⟨v, ys, rfl, hT, hI, hg2⟩
  have IT := Lib.hid hT
  have II := Lib.hid hI
  clear hT hI
  go_wp2_with (first
    | (go_at_call 8; refine (HQ.out _).mono ?_; rintro e w3 ⟨rfl, hg3⟩)
    | (go_at_call 9; refine (HR.out _).mono ?_; rintro e w4 ⟨rfl, hg4⟩)
    | (go_at_call 10; refine (HL.out _).mono ?_; rintro e w5 ⟨rfl, hg5⟩)
    | (go_at_call 11; refine (HM.out _).mono ?_; rintro e w6 ⟨rfl, rfl⟩)
    | (go_at_call 12; refine (HB.out _).mono ?_; rintro e w7 ⟨rfl, hg7⟩))
  refine (HU.out _).mono ?_
  rintro e w8 ⟨v', ys', rfl, hT', hI', hg8⟩
  have hy := IT.out.unique hT'
  subst hy
  have hne := hT'.ne M.out.1 M.out.2
  have hI := II.out.gr ((((hg3.trans hg4).trans hg5).trans hg7).trans hg8)
  have HS := Lib.hid (same_c v v' _ hne w8 hI hI')
  have G := Lib.hid (((((hg1.trans hg2).trans hg3).trans hg4).trans hg5).trans (hg7.trans hg8))
  clear hne hI hI' hT'
  go_wp2_with (go_at_call 13; refine HS.out.mono ?_; rintro e w9 ⟨rfl, hg9⟩)
  go_ret
  exact ⟨rfl, G.out.trans hg9⟩

set_option maxHeartbeats 2000000 in
theorem tells_bad (x : Int) (h : x < 2 ∨ 17592186044416 < x) (w : World) :
    Calls Try.prog 3 #[.int .i64 x] w fun e w' => e = .returned (.bool true) ∧ Gr w w' := by
  have HA := Lib.hid (arc_bad x h)
  have HT := Lib.hid (terms_bad x h)
  have HQ := Lib.hid quarter_c
  have HR := Lib.hid refQuarter_c
  have HL := Lib.hid alive04_c
  have HM := Lib.hid (may04_no x h)
  clear h
  go_enter Try.func3, Try.ntmps3
  go_wp2_with (first
    | (go_at_call 6; refine (HA.out _).mono ?_; rintro e w1 ⟨rfl, hg1⟩)
    | (go_at_call 7; refine (HT.out _).mono ?_; rintro e w2 ⟨rfl, hg2⟩)
    | (go_at_call 8; refine (HQ.out _).mono ?_; rintro e w3 ⟨rfl, hg3⟩)
    | (go_at_call 9; refine (HR.out _).mono ?_; rintro e w4 ⟨rfl, hg4⟩)
    | (go_at_call 10; refine (HL.out _).mono ?_; rintro e w5 ⟨rfl, hg5⟩)
    | (go_at_call 11; refine (HM.out _).mono ?_; rintro e w6 ⟨rfl, rfl⟩))
  go_ret
  exact ⟨rfl, (((hg1.trans hg2).trans hg3).trans hg4).trans hg5⟩

end Go.Proofs.Ytpcbcoegmdbdfaa
