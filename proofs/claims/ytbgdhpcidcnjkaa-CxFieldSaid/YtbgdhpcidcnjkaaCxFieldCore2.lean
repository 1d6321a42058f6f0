/- The walk of law CxField, over its callees' contracts. -/
import Derived.Test.YtbgdhpcidcnjkaaCxFieldCore
import Derived.Deep.Cut
import Derived.Deep.CutRange
import Derived.Deep.RegionWith
namespace Go.Proofs.Ytbgdhpcidcnjkaa.cxField
open Go.ChangeShapes Go.WideShapes Go.ChangeAt Go.RowKit
set_option linter.unusedVariables false

set_option maxRecDepth 100000 in
set_option maxHeartbeats 16000000 in
theorem core_f (x0 y0 x1 y1 x2 y2 a3 k A0 B0 A1 B1 A2 B2 p0 p1 q0 q1 s0 s1 r0 r1 na nb np i0 i1 m0 m1 : Int)
    (hA0 : x0.tmod 32768 = A0) (hB0 : y0.tmod 32768 = B0) (hA1 : x1.tmod 32768 = A1) (hB1 : y1.tmod 32768 = B1) (hA2 : x2.tmod 32768 = A2) (hB2 : y2.tmod 32768 = B2)
    (hk : a3.tmod 1000 = k) (k0 : -999 ≤ k) (k1 : k ≤ 999) (hz : (a3.tmod 4 != 0) = false) (hnp : IntKind.u64.wrap (na * nb) = np) (hna : IntKind.u64.wrap na = na)
    (H1 : Hid (∀ W, Calls Try.prog 18 #[.agg #[.int .i64 A0, .int .i64 B0], .agg #[.int .i64 A1, .int .i64 B1]] W fun e w' => e = .returned (.tuple #[.agg #[.int .i64 p0, .int .i64 p1], .int .i64 0]) ∧ Gr W w'))
    (H2 : Hid (∀ W, Calls Try.prog 18 #[.agg #[.int .i64 A0, .int .i64 B0], .agg #[.int .i64 A2, .int .i64 B2]] W fun e w' => e = .returned (.tuple #[.agg #[.int .i64 q0, .int .i64 q1], .int .i64 0]) ∧ Gr W w'))
    (H3 : Hid (∀ W, Calls Try.prog 7 #[.agg #[.int .i64 A1, .int .i64 B1], .agg #[.int .i64 A2, .int .i64 B2]] W fun e w' => e = .returned (.tuple #[.agg #[.int .i64 s0, .int .i64 s1], .int .i64 0]) ∧ Gr W w'))
    (H4 : Hid (∀ W, Calls Try.prog 18 #[.agg #[.int .i64 A0, .int .i64 B0], .agg #[.int .i64 s0, .int .i64 s1]] W fun e w' => e = .returned (.tuple #[.agg #[.int .i64 r0, .int .i64 r1], .int .i64 0]) ∧ Gr W w'))
    (H5 : Hid (∀ W, Calls Try.prog 7 #[.agg #[.int .i64 p0, .int .i64 p1], .agg #[.int .i64 q0, .int .i64 q1]] W fun e w' => e = .returned (.tuple #[.agg #[.int .i64 r0, .int .i64 r1], .int .i64 0]) ∧ Gr W w'))
    (H6 : Hid (∀ W, Calls Try.prog 19 #[.agg #[.int .i64 A0, .int .i64 B0]] W fun e w' => e = .returned (.tuple #[.int .u64 na, .int .i64 0]) ∧ Gr W w'))
    (H7 : Hid (∀ W, Calls Try.prog 19 #[.agg #[.int .i64 A1, .int .i64 B1]] W fun e w' => e = .returned (.tuple #[.int .u64 nb, .int .i64 0]) ∧ Gr W w'))
    (H8 : Hid (∀ W, Calls Try.prog 19 #[.agg #[.int .i64 p0, .int .i64 p1]] W fun e w' => e = .returned (.tuple #[.int .u64 np, .int .i64 0]) ∧ Gr W w'))
    (H9 : Hid (∀ W, Calls Try.prog 9 #[.agg #[.int .i64 A0, .int .i64 B0]] W fun e w' => e = .returned (.tuple #[.agg #[.int .i64 i0, .int .i64 i1], .int .i64 0]) ∧ Gr W w'))
    (H10 : Hid (∀ W, Calls Try.prog 18 #[.agg #[.int .i64 A0, .int .i64 B0], .agg #[.int .i64 i0, .int .i64 i1]] W fun e w' => e = .returned (.tuple #[.agg #[.int .i64 na, .int .i64 0], .int .i64 0]) ∧ Gr W w'))
    (H11 : Hid (∀ W, Calls Try.prog 10 #[.agg #[.int .i64 A0, .int .i64 B0], .int .i64 a3] W fun e w' => e = .returned (.tuple #[.agg #[.int .i64 A0, .int .i64 B0], .int .i64 0]) ∧ Gr W w'))
    (H12 : Hid (∀ W, Calls Try.prog 10 #[.agg #[.int .i64 A0, .int .i64 B0], .int .i64 (k + 4)] W fun e w' => e = .returned (.tuple #[.agg #[.int .i64 m0, .int .i64 m1], .int .i64 0]) ∧ Gr W w'))
    (H13 : Hid (∀ W, Calls Try.prog 10 #[.agg #[.int .i64 A0, .int .i64 B0], .int .i64 k] W fun e w' => e = .returned (.tuple #[.agg #[.int .i64 m0, .int .i64 m1], .int .i64 0]) ∧ Gr W w'))
    (w : World) :
    Calls Try.prog 6 #[.agg #[.int .i64 x0, .int .i64 y0], .agg #[.int .i64 x1, .int .i64 y1], .agg #[.int .i64 x2, .int .i64 y2], .int .i64 a3] w fun e w' => e = .returned (.bool true) ∧ Gr w w' := by
  have HAL := Lib.hid alive03_c
  have HM := Lib.hid small_c
  go_enter Try.func6, Try.ntmps6
  go_upto_region 1 with fail
  go_cut [] from 37 to 42 (fun wx => CxAt wx w.heap.size A0 B0 ∧ CxAt wx (w.heap.size + 1) A1 B1 ∧ CxAt wx (w.heap.size + 1 + 1) A2 B2 ∧ Gr w wx)
  case first =>
    go_region_with (first | (go_at_call 27; refine (HM.out _ _ _).mono ?_; rintro e w' ⟨rfl, rfl⟩))
    all_goals
      go_wp2_with fail
      go_meet
      case rel => exact ⟨⟨by first | (simp; done) | (simp; omega), by go_simp, by go_simp⟩, ⟨by first | (simp; done) | (simp; omega), by go_simp, by go_simp⟩, ⟨by first | (simp; done) | (simp; omega), by go_simp, by go_simp⟩, by repeat (first | exact Gr.refl _ | assumption | apply Gr.drew | apply Gr.alloc | (refine Gr.setCell ?_ (by first | (simp; done) | (simp; omega)) _))⟩
  case rest =>
    clear hA0 hB0 hA1 hB1 hA2 hB2
    obtain ⟨ca0, cb0, cc0, g0⟩ := hcut
    have la0 := ca0.lt
    have ca0x := ca0.c0
    have ca0y := ca0.c1
    have lb0 := cb0.lt
    have cb0x := cb0.c0
    have cb0y := cb0.c1
    have lc0 := cc0.lt
    have cc0x := cc0.c0
    have cc0y := cc0.c1
    go_wp2_with fail
    refine (H1.out _).mono ?_
    rintro e v1 ⟨rfl, h1⟩
    have g1 : Gr w v1 := g0.trans h1
    have ca1 : CxAt v1 w.heap.size A0 B0 := CxAt.gr ca0 h1
    have cb1 : CxAt v1 (w.heap.size + 1) A1 B1 := CxAt.gr cb0 h1
    have cc1 : CxAt v1 (w.heap.size + 1 + 1) A2 B2 := CxAt.gr cc0 h1
    clear ca0 ca0x ca0y
    clear cb0 cb0x cb0y
    clear cc0 cc0x cc0y
    clear h1
    have la1 := ca1.lt
    have ca1x := ca1.c0
    have ca1y := ca1.c1
    have lb1 := cb1.lt
    have cb1x := cb1.c0
    have cb1y := cb1.c1
    have lc1 := cc1.lt
    have cc1x := cc1.c0
    have cc1y := cc1.c1
    go_wp2_with fail
    refine (H2.out _).mono ?_
    rintro e v2 ⟨rfl, h2⟩
    have g2 : Gr w v2 := (Gr.alloc g1 _ _).trans h2
    have ca2 : CxAt v2 w.heap.size A0 B0 := CxAt.gr (CxAt.gr ca1 ((Gr.refl _).alloc _ _)) h2
    have cb2 : CxAt v2 (w.heap.size + 1) A1 B1 := CxAt.gr (CxAt.gr cb1 ((Gr.refl _).alloc _ _)) h2
    have cc2 : CxAt v2 (w.heap.size + 1 + 1) A2 B2 := CxAt.gr (CxAt.gr cc1 ((Gr.refl _).alloc _ _)) h2
    have cp2 : CxAt v2 v1.heap.size p0 p1 := CxAt.gr ⟨by first | (simp; done) | (simp; omega), by go_simp, by go_simp⟩ h2
    clear ca1 ca1x ca1y
    clear cb1 cb1x cb1y
    clear cc1 cc1x cc1y
    clear h2
    have la2 := ca2.lt
    have ca2x := ca2.c0
    have ca2y := ca2.c1
    have lb2 := cb2.lt
    have cb2x := cb2.c0
    have cb2y := cb2.c1
    have lc2 := cc2.lt
    have cc2x := cc2.c0
    have cc2y := cc2.c1
    have lp2 := cp2.lt
    have cp2x := cp2.c0
    have cp2y := cp2.c1
    go_wp2_with fail
    refine (H3.out _).mono ?_
    rintro e v3 ⟨rfl, h3⟩
    have g3 : Gr w v3 := (Gr.alloc g2 _ _).trans h3
    have ca3 : CxAt v3 w.heap.size A0 B0 := CxAt.gr (CxAt.gr ca2 ((Gr.refl _).alloc _ _)) h3
    have cb3 : CxAt v3 (w.heap.size + 1) A1 B1 := CxAt.gr (CxAt.gr cb2 ((Gr.refl _).alloc _ _)) h3
    have cc3 : CxAt v3 (w.heap.size + 1 + 1) A2 B2 := CxAt.gr (CxAt.gr cc2 ((Gr.refl _).alloc _ _)) h3
    have cp3 : CxAt v3 v1.heap.size p0 p1 := CxAt.gr (CxAt.gr cp2 ((Gr.refl _).alloc _ _)) h3
    have cq3 : CxAt v3 v2.heap.size q0 q1 := CxAt.gr ⟨by first | (simp; done) | (simp; omega), by go_simp, by go_simp⟩ h3
    clear ca2 ca2x ca2y
    clear cb2 cb2x cb2y
    clear cc2 cc2x cc2y
    clear cp2 cp2x cp2y
    clear h3
    have la3 := ca3.lt
    have ca3x := ca3.c0
    have ca3y := ca3.c1
    have lb3 := cb3.lt
    have cb3x := cb3.c0
    have cb3y := cb3.c1
    have lc3 := cc3.lt
    have cc3x := cc3.c0
    have cc3y := cc3.c1
    have lp3 := cp3.lt
    have cp3x := cp3.c0
    have cp3y := cp3.c1
    have lq3 := cq3.lt
    have cq3x := cq3.c0
    have cq3y := cq3.c1
    go_wp2_with fail
    refine (H4.out _).mono ?_
    rintro e v4 ⟨rfl, h4⟩
    have g4 : Gr w v4 := (Gr.alloc g3 _ _).trans h4
    have ca4 : CxAt v4 w.heap.size A0 B0 := CxAt.gr (CxAt.gr ca3 ((Gr.refl _).alloc _ _)) h4
    have cb4 : CxAt v4 (w.heap.size + 1) A1 B1 := CxAt.gr (CxAt.gr cb3 ((Gr.refl _).alloc _ _)) h4
    have cc4 : CxAt v4 (w.heap.size + 1 + 1) A2 B2 := CxAt.gr (CxAt.gr cc3 ((Gr.refl _).alloc _ _)) h4
    have cp4 : CxAt v4 v1.heap.size p0 p1 := CxAt.gr (CxAt.gr cp3 ((Gr.refl _).alloc _ _)) h4
    have cq4 : CxAt v4 v2.heap.size q0 q1 := CxAt.gr (CxAt.gr cq3 ((Gr.refl _).alloc _ _)) h4
    have cs4 : CxAt v4 v3.heap.size s0 s1 := CxAt.gr ⟨by first | (simp; done) | (simp; omega), by go_simp, by go_simp⟩ h4
    clear ca3 ca3x ca3y
    clear cb3 cb3x cb3y
    clear cc3 cc3x cc3y
    clear cp3 cp3x cp3y
    clear cq3 cq3x cq3y
    clear h4
    have la4 := ca4.lt
    have ca4x := ca4.c0
    have ca4y := ca4.c1
    have lb4 := cb4.lt
    have cb4x := cb4.c0
    have cb4y := cb4.c1
    have lc4 := cc4.lt
    have cc4x := cc4.c0
    have cc4y := cc4.c1
    have lp4 := cp4.lt
    have cp4x := cp4.c0
    have cp4y := cp4.c1
    have lq4 := cq4.lt
    have cq4x := cq4.c0
    have cq4y := cq4.c1
    have ls4 := cs4.lt
    have cs4x := cs4.c0
    have cs4y := cs4.c1
    clear cs4 cs4x cs4y
    clear cc4 cc4x cc4y
    go_wp2_with fail
    refine (H5.out _).mono ?_
    rintro e v5 ⟨rfl, h5⟩
    have g5 : Gr w v5 := (Gr.alloc g4 _ _).trans h5
    have ca5 : CxAt v5 w.heap.size A0 B0 := CxAt.gr (CxAt.gr ca4 ((Gr.refl _).alloc _ _)) h5
    have cb5 : CxAt v5 (w.heap.size + 1) A1 B1 := CxAt.gr (CxAt.gr cb4 ((Gr.refl _).alloc _ _)) h5
    have cp5 : CxAt v5 v1.heap.size p0 p1 := CxAt.gr (CxAt.gr cp4 ((Gr.refl _).alloc _ _)) h5
    have cq5 : CxAt v5 v2.heap.size q0 q1 := CxAt.gr (CxAt.gr cq4 ((Gr.refl _).alloc _ _)) h5
    have cr5 : CxAt v5 v4.heap.size r0 r1 := CxAt.gr ⟨by first | (simp; done) | (simp; omega), by go_simp, by go_simp⟩ h5
    clear ca4 ca4x ca4y
    clear cb4 cb4x cb4y
    clear cp4 cp4x cp4y
    clear cq4 cq4x cq4y
    clear h5
    have la5 := ca5.lt
    have ca5x := ca5.c0
    have ca5y := ca5.c1
    have lb5 := cb5.lt
    have cb5x := cb5.c0
    have cb5y := cb5.c1
    have lp5 := cp5.lt
    have cp5x := cp5.c0
    have cp5y := cp5.c1
    have lq5 := cq5.lt
    have cq5x := cq5.c0
    have cq5y := cq5.c1
    have lr5 := cr5.lt
    have cr5x := cr5.c0
    have cr5y := cr5.c1
    clear cq5 cq5x cq5y
    go_wp2_with fail
    refine (H6.out _).mono ?_
    rintro e v6 ⟨rfl, h6⟩
    have g6 : Gr w v6 := (Gr.alloc g5 _ _).trans h6
    have ca6 : CxAt v6 w.heap.size A0 B0 := CxAt.gr (CxAt.gr ca5 ((Gr.refl _).alloc _ _)) h6
    have cb6 : CxAt v6 (w.heap.size + 1) A1 B1 := CxAt.gr (CxAt.gr cb5 ((Gr.refl _).alloc _ _)) h6
    have cp6 : CxAt v6 v1.heap.size p0 p1 := CxAt.gr (CxAt.gr cp5 ((Gr.refl _).alloc _ _)) h6
    have cr6 : CxAt v6 v4.heap.size r0 r1 := CxAt.gr (CxAt.gr cr5 ((Gr.refl _).alloc _ _)) h6
    have ct6 : CxAt v6 v5.heap.size r0 r1 := CxAt.gr ⟨by first | (simp; done) | (simp; omega), by go_simp, by go_simp⟩ h6
    clear ca5 ca5x ca5y
    clear cb5 cb5x cb5y
    clear cp5 cp5x cp5y
    clear cr5 cr5x cr5y
    clear h6
    have la6 := ca6.lt
    have ca6x := ca6.c0
    have ca6y := ca6.c1
    have lb6 := cb6.lt
    have cb6x := cb6.c0
    have cb6y := cb6.c1
    have lp6 := cp6.lt
    have cp6x := cp6.c0
    have cp6y := cp6.c1
    have lr6 := cr6.lt
    have cr6x := cr6.c0
    have cr6y := cr6.c1
    have lt6 := ct6.lt
    have ct6x := ct6.c0
    have ct6y := ct6.c1
    go_wp2_with fail
    refine (H7.out _).mono ?_
    rintro e v7 ⟨rfl, h7⟩
    have g7 : Gr w v7 := g6.trans h7
    have ca7 : CxAt v7 w.heap.size A0 B0 := CxAt.gr ca6 h7
    have cb7 : CxAt v7 (w.heap.size + 1) A1 B1 := CxAt.gr cb6 h7
    have cp7 : CxAt v7 v1.heap.size p0 p1 := CxAt.gr cp6 h7
    have cr7 : CxAt v7 v4.heap.size r0 r1 := CxAt.gr cr6 h7
    have ct7 : CxAt v7 v5.heap.size r0 r1 := CxAt.gr ct6 h7
    clear ca6 ca6x ca6y
    clear cb6 cb6x cb6y
    clear cp6 cp6x cp6y
    clear cr6 cr6x cr6y
    clear ct6 ct6x ct6y
    clear h7
    have la7 := ca7.lt
    have ca7x := ca7.c0
    have ca7y := ca7.c1
    have lb7 := cb7.lt
    have cb7x := cb7.c0
    have cb7y := cb7.c1
    have lp7 := cp7.lt
    have cp7x := cp7.c0
    have cp7y := cp7.c1
    have lr7 := cr7.lt
    have cr7x := cr7.c0
    have cr7y := cr7.c1
    have lt7 := ct7.lt
    have ct7x := ct7.c0
    have ct7y := ct7.c1
    clear cb7 cb7x cb7y
    go_wp2_with fail
    refine (H8.out _).mono ?_
    rintro e v8 ⟨rfl, h8⟩
    have g8 : Gr w v8 := g7.trans h8
    have ca8 : CxAt v8 w.heap.size A0 B0 := CxAt.gr ca7 h8
    have cp8 : CxAt v8 v1.heap.size p0 p1 := CxAt.gr cp7 h8
    have cr8 : CxAt v8 v4.heap.size r0 r1 := CxAt.gr cr7 h8
    have ct8 : CxAt v8 v5.heap.size r0 r1 := CxAt.gr ct7 h8
    clear ca7 ca7x ca7y
    clear cp7 cp7x cp7y
    clear cr7 cr7x cr7y
    clear ct7 ct7x ct7y
    clear h8
    have la8 := ca8.lt
    have ca8x := ca8.c0
    have ca8y := ca8.c1
    have lp8 := cp8.lt
    have cp8x := cp8.c0
    have cp8y := cp8.c1
    have lr8 := cr8.lt
    have cr8x := cr8.c0
    have cr8y := cr8.c1
    have lt8 := ct8.lt
    have ct8x := ct8.c0
    have ct8y := ct8.c1
    clear cp8 cp8x cp8y
    go_wp2_with fail
    refine (H9.out _).mono ?_
    rintro e v9 ⟨rfl, h9⟩
    have g9 : Gr w v9 := g8.trans h9
    have ca9 : CxAt v9 w.heap.size A0 B0 := CxAt.gr ca8 h9
    have cr9 : CxAt v9 v4.heap.size r0 r1 := CxAt.gr cr8 h9
    have ct9 : CxAt v9 v5.heap.size r0 r1 := CxAt.gr ct8 h9
    clear ca8 ca8x ca8y
    clear cr8 cr8x cr8y
    clear ct8 ct8x ct8y
    clear h9
    have la9 := ca9.lt
    have ca9x := ca9.c0
    have ca9y := ca9.c1
    have lr9 := cr9.lt
    have cr9x := cr9.c0
    have cr9y := cr9.c1
    have lt9 := ct9.lt
    have ct9x := ct9.c0
    have ct9y := ct9.c1
    go_wp2_with fail
    refine (H10.out _).mono ?_
    rintro e v10 ⟨rfl, h10⟩
    have g10 : Gr w v10 := (Gr.alloc g9 _ _).trans h10
    have ca10 : CxAt v10 w.heap.size A0 B0 := CxAt.gr (CxAt.gr ca9 ((Gr.refl _).alloc _ _)) h10
    have cr10 : CxAt v10 v4.heap.size r0 r1 := CxAt.gr (CxAt.gr cr9 ((Gr.refl _).alloc _ _)) h10
    have ct10 : CxAt v10 v5.heap.size r0 r1 := CxAt.gr (CxAt.gr ct9 ((Gr.refl _).alloc _ _)) h10
    have ci10 : CxAt v10 v9.heap.size i0 i1 := CxAt.gr ⟨by first | (simp; done) | (simp; omega), by go_simp, by go_simp⟩ h10
    clear ca9 ca9x ca9y
    clear cr9 cr9x cr9y
    clear ct9 ct9x ct9y
    clear h10
    have la10 := ca10.lt
    have ca10x := ca10.c0
    have ca10y := ca10.c1
    have lr10 := cr10.lt
    have cr10x := cr10.c0
    have cr10y := cr10.c1
    have lt10 := ct10.lt
    have ct10x := ct10.c0
    have ct10y := ct10.c1
    have li10 := ci10.lt
    have ci10x := ci10.c0
    have ci10y := ci10.c1
    clear ci10 ci10x ci10y
    go_wp2_with fail
    refine (H11.out _).mono ?_
    rintro e v11 ⟨rfl, h11⟩
    have g11 : Gr w v11 := (Gr.alloc g10 _ _).trans h11
    have ca11 : CxAt v11 w.heap.size A0 B0 := CxAt.gr (CxAt.gr ca10 ((Gr.refl _).alloc _ _)) h11
    have cr11 : CxAt v11 v4.heap.size r0 r1 := CxAt.gr (CxAt.gr cr10 ((Gr.refl _).alloc _ _)) h11
    have ct11 : CxAt v11 v5.heap.size r0 r1 := CxAt.gr (CxAt.gr ct10 ((Gr.refl _).alloc _ _)) h11
    have co11 : CxAt v11 v10.heap.size na 0 := CxAt.gr ⟨by first | (simp; done) | (simp; omega), by go_simp, by go_simp⟩ h11
    clear ca10 ca10x ca10y
    clear cr10 cr10x cr10y
    clear ct10 ct10x ct10y
    clear h11
    have la11 := ca11.lt
    have ca11x := ca11.c0
    have ca11y := ca11.c1
    have lr11 := cr11.lt
    have cr11x := cr11.c0
    have cr11y := cr11.c1
    have lt11 := ct11.lt
    have ct11x := ct11.c0
    have ct11y := ct11.c1
    have lo11 := co11.lt
    have co11x := co11.c0
    have co11y := co11.c1
    go_wp2_with fail
    refine (H12.out _).mono ?_
    rintro e v12 ⟨rfl, h12⟩
    have g12 : Gr w v12 := (Gr.alloc g11 _ _).trans h12
    have ca12 : CxAt v12 w.heap.size A0 B0 := CxAt.gr (CxAt.gr ca11 ((Gr.refl _).alloc _ _)) h12
    have cr12 : CxAt v12 v4.heap.size r0 r1 := CxAt.gr (CxAt.gr cr11 ((Gr.refl _).alloc _ _)) h12
    have ct12 : CxAt v12 v5.heap.size r0 r1 := CxAt.gr (CxAt.gr ct11 ((Gr.refl _).alloc _ _)) h12
    have co12 : CxAt v12 v10.heap.size na 0 := CxAt.gr (CxAt.gr co11 ((Gr.refl _).alloc _ _)) h12
    have cu12 : CxAt v12 v11.heap.size A0 B0 := CxAt.gr ⟨by first | (simp; done) | (simp; omega), by go_simp, by go_simp⟩ h12
    clear ca11 ca11x ca11y
    clear cr11 cr11x cr11y
    clear ct11 ct11x ct11y
    clear co11 co11x co11y
    clear h12
    have la12 := ca12.lt
    have ca12x := ca12.c0
    have ca12y := ca12.c1
    have lr12 := cr12.lt
    have cr12x := cr12.c0
    have cr12y := cr12.c1
    have lt12 := ct12.lt
    have ct12x := ct12.c0
    have ct12y := ct12.c1
    have lo12 := co12.lt
    have co12x := co12.c0
    have co12y := co12.c1
    have lu12 := cu12.lt
    have cu12x := cu12.c0
    have cu12y := cu12.c1
    go_wp2_with fail
    refine (H13.out _).mono ?_
    rintro e v13 ⟨rfl, h13⟩
    have g13 : Gr w v13 := (Gr.alloc g12 _ _).trans h13
    have ca13 : CxAt v13 w.heap.size A0 B0 := CxAt.gr (CxAt.gr ca12 ((Gr.refl _).alloc _ _)) h13
    have cr13 : CxAt v13 v4.heap.size r0 r1 := CxAt.gr (CxAt.gr cr12 ((Gr.refl _).alloc _ _)) h13
    have ct13 : CxAt v13 v5.heap.size r0 r1 := CxAt.gr (CxAt.gr ct12 ((Gr.refl _).alloc _ _)) h13
    have co13 : CxAt v13 v10.heap.size na 0 := CxAt.gr (CxAt.gr co12 ((Gr.refl _).alloc _ _)) h13
    have cu13 : CxAt v13 v11.heap.size A0 B0 := CxAt.gr (CxAt.gr cu12 ((Gr.refl _).alloc _ _)) h13
    have cm13 : CxAt v13 v12.heap.size m0 m1 := CxAt.gr ⟨by first | (simp; done) | (simp; omega), by go_simp, by go_simp⟩ h13
    clear ca12 ca12x ca12y
    clear cr12 cr12x cr12y
    clear ct12 ct12x ct12y
    clear co12 co12x co12y
    clear cu12 cu12x cu12y
    clear h13
    have la13 := ca13.lt
    have ca13x := ca13.c0
    have ca13y := ca13.c1
    have lr13 := cr13.lt
    have cr13x := cr13.c0
    have cr13y := cr13.c1
    have lt13 := ct13.lt
    have ct13x := ct13.c0
    have ct13y := ct13.c1
    have lo13 := co13.lt
    have co13x := co13.c0
    have co13y := co13.c1
    have lu13 := cu13.lt
    have cu13x := cu13.c0
    have cu13y := cu13.c1
    have lm13 := cm13.lt
    have cm13x := cm13.c0
    have cm13y := cm13.c1
    go_wp2_with fail
    refine wp_loop_rounds 14 ?_
    rw [rounds_succ]; go_wp2_with fail
    rw [rounds_succ]; go_wp2_with fail
    rw [rounds_succ]; go_wp2_with fail
    rw [rounds_succ]; go_wp2_with fail
    rw [rounds_succ]; go_wp2_with fail
    rw [rounds_succ]; go_wp2_with fail
    rw [rounds_succ]; go_wp2_with fail
    rw [rounds_succ]; go_wp2_with fail
    rw [rounds_succ]; go_wp2_with fail
    rw [rounds_succ]; go_wp2_with fail
    rw [rounds_succ]; go_wp2_with fail
    rw [rounds_succ]; go_wp2_with fail
    rw [rounds_succ]; go_wp2_with fail
    rw [rounds_succ]; go_wp2_with fail
    refine (HAL.out _).mono ?_
    rintro e v14 ⟨rfl, h14⟩
    have ca14 : CxAt v14 w.heap.size A0 B0 := CxAt.gr (CxAt.gr (CxAt.gr ca13 ((Gr.refl _).alloc _ _)) ((Gr.refl _).alloc _ _)) h14
    have cr14 : CxAt v14 v4.heap.size r0 r1 := CxAt.gr (CxAt.gr (CxAt.gr cr13 ((Gr.refl _).alloc _ _)) ((Gr.refl _).alloc _ _)) h14
    have ct14 : CxAt v14 v5.heap.size r0 r1 := CxAt.gr (CxAt.gr (CxAt.gr ct13 ((Gr.refl _).alloc _ _)) ((Gr.refl _).alloc _ _)) h14
    have co14 : CxAt v14 v10.heap.size na 0 := CxAt.gr (CxAt.gr (CxAt.gr co13 ((Gr.refl _).alloc _ _)) ((Gr.refl _).alloc _ _)) h14
    have cu14 : CxAt v14 v11.heap.size A0 B0 := CxAt.gr (CxAt.gr (CxAt.gr cu13 ((Gr.refl _).alloc _ _)) ((Gr.refl _).alloc _ _)) h14
    have cm14 : CxAt v14 v12.heap.size m0 m1 := CxAt.gr (CxAt.gr (CxAt.gr cm13 ((Gr.refl _).alloc _ _)) ((Gr.refl _).alloc _ _)) h14
    have ce14 : CxAt v14 v13.heap.size m0 m1 := CxAt.gr ⟨by first | (simp; done) | (simp; omega), by go_simp, by go_simp⟩ h14
    clear ca13 ca13x ca13y
    clear cr13 cr13x cr13y
    clear ct13 ct13x ct13y
    clear co13 co13x co13y
    clear cu13 cu13x cu13y
    clear cm13 cm13x cm13y
    have la14 := ca14.lt
    have ca14x := ca14.c0
    have ca14y := ca14.c1
    have lr14 := cr14.lt
    have cr14x := cr14.c0
    have cr14y := cr14.c1
    have lt14 := ct14.lt
    have ct14x := ct14.c0
    have ct14y := ct14.c1
    have lo14 := co14.lt
    have co14x := co14.c0
    have co14y := co14.c1
    have lu14 := cu14.lt
    have cu14x := cu14.c0
    have cu14y := cu14.c1
    have lm14 := cm14.lt
    have cm14x := cm14.c0
    have cm14y := cm14.c1
    have le14 := ce14.lt
    have ce14x := ce14.c0
    have ce14y := ce14.c1
    go_wp2
    go_ret
    exact ⟨by simp, (Gr.alloc (Gr.alloc g13 _ _) _ _).trans h14⟩

end Go.Proofs.Ytbgdhpcidcnjkaa.cxField
