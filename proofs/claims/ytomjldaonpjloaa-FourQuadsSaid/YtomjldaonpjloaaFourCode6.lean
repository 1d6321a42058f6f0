/- What package four's passError, Quad and Pass answer. -/
import Derived.Test.YtomjldaonpjloaaFourCode5
import Derived.Test.YtomjldaonpjloaaTwoCode3
import Derived.Test.YtomjldaonpjloaaLaw10
namespace Go.Proofs.Ytomjldaonpjloaa
open Go.ChangeShapes Go.WideShapes Go.ChangeAt Go.RowKit
set_option linter.unusedVariables false
set_option maxRecDepth 100000
set_option linter.unusedSimpArgs false


set_option maxHeartbeats 2000000 in
theorem fErr_c (px pw : Option Addr) (cx cw : Nat) (xs ws : List Gi) (n m : Nat) (hh : Int) (part : Bool) (b s mo e : Int) (inv : Bool) (inx inw : Bool) (hp : part = true ↔ QuarterOk hh n) (hx : inx = allIn 2147483648 xs) (hw : ∀ B : Nat, b = (B : Int) → B ≤ 29 → inw = allIn (2 ^ B) ws)
    (h : WhyIs n m part b s mo inx inw e) (w : World) (hvx : CxsAt w (.slice px n cx) xs) (hvw : CxsAt w (.slice pw m cw) ws) :
    Calls Try.prog 40 #[.agg #[.int .i64 b, .int .i64 s, .int .i64 mo, .bool inv], .slice px n cx, .slice pw m cw, .int .i64 hh] w fun e' w' => e' = .returned (.int .i64 e) ∧ Gr w w' := by
  have VX := Lib.hid hvx
  have VW := Lib.hid hvw
  have HP := Lib.hid fun L (hL : IsLog (n : Int) L) => fQuarters_c hh n L hL part hp
  clear hvx hvw hp
  rcases h with ⟨h1, rfl⟩ | ⟨⟨L, h1⟩, h2, rfl⟩ | ⟨⟨L, h1⟩, h2, h3, rfl⟩ | ⟨⟨L, h1⟩, h2, h3, h4, h5, rfl⟩ | ⟨⟨L, h1⟩, h2, h3, h4, h5, h6, rfl⟩
  · have HL := Lib.hid (log08_none n h1)
    clear h1 hx hw
    go_enter Try.func40, Try.ntmps40
    go_wp2_with (first | (go_at_call 55; refine (HL.out _).mono ?_; rintro e wz ⟨rfl, rfl⟩))
    go_ret
    exact ⟨rfl, (Gr.refl _).alloc _ _⟩
  · have HL := Lib.hid (log08_yes n L h1)
    have hne : ((m : Int) != n) = true := by simp; omega
    clear h1 hx hw h2
    go_enter Try.func40, Try.ntmps40
    go_wp2_with (first | (go_at_call 55; refine (HL.out _).mono ?_; rintro e wz ⟨rfl, rfl⟩))
    go_ret
    exact ⟨rfl, (Gr.refl _).alloc _ _⟩
  · have HL := Lib.hid (log08_yes n L h1)
    have HP2 := Lib.hid (HP.out L h1)
    subst h2
    clear h1 hx hw HP
    rcases h3 with rfl | h3
    · go_enter Try.func40, Try.ntmps40
      go_wp2_with (first | (go_at_call 55; refine (HL.out _).mono ?_; rintro e wz ⟨rfl, rfl⟩) | (go_at_call 56; refine (HP2.out _).mono ?_; rintro e wz ⟨rfl, rfl⟩))
      go_ret
      exact ⟨rfl, (Gr.refl _).alloc _ _⟩
    · have HS := Lib.hid (fMayBe_no b s mo inv h3)
      clear h3
      cases part
      · go_enter Try.func40, Try.ntmps40
        go_wp2_with (first | (go_at_call 55; refine (HL.out _).mono ?_; rintro e wz ⟨rfl, rfl⟩) | (go_at_call 56; refine (HP2.out _).mono ?_; rintro e wz ⟨rfl, rfl⟩))
        go_ret
        exact ⟨rfl, (Gr.refl _).alloc _ _⟩
      · go_enter Try.func40, Try.ntmps40
        go_wp2_with (first | (go_at_call 55; refine (HL.out _).mono ?_; rintro e wz ⟨rfl, rfl⟩) | (go_at_call 56; refine (HP2.out _).mono ?_; rintro e wz ⟨rfl, rfl⟩))
        refine (HS.out _).mono ?_
        rintro e w2 ⟨rfl, g2⟩
        go_wp2_with fail
        go_ret
        exact ⟨rfl, ((Gr.refl _).alloc _ _).trans g2⟩
  · have HL := Lib.hid (log08_yes n L h1)
    have HP2 := Lib.hid (HP.out L h1)
    have HS := Lib.hid (fMayBe_yes b s mo inv h4)
    subst h2
    subst h3
    obtain ⟨B, rfl⟩ : ∃ B : Nat, b = (B : Int) := ⟨b.toNat, by have := h4.1.1; omega⟩
    have hB : B ≤ 29 := by have := h4.1.2; omega
    have HN := Lib.hid fun W (hW : CxsAt W (.slice px m cx) xs) => fWithin_c _ xs 2147483648 (by omega) (by omega) W hW
    have hPb : (2 : Int) ^ B ≤ 2147483648 := pow_le31 B (by omega)
    have hP0 := pow_pos2 B
    have hPw : wrap64 (2 ^ B) = 2 ^ B := IntWalk.wrap64_in _ ⟨by omega, by omega⟩
    have HR := Lib.hid fun W (hW : CxsAt W (.slice pw m cw) ws) => fWithin_c _ ws (2 ^ B) (by omega) hPb W hW
    rw [← hx] at HN
    rw [← hw B rfl hB] at HR
    rw [← hPw] at HR
    clear h1 hx hw h4 HP hPb hP0 hPw
    cases inx
    · clear HR h5
      go_enter Try.func40, Try.ntmps40
      go_wp2_with (first | (go_at_call 55; refine (HL.out _).mono ?_; rintro e wz ⟨rfl, rfl⟩) | (go_at_call 56; refine (HP2.out _).mono ?_; rintro e wz ⟨rfl, rfl⟩))
      refine (HS.out _).mono ?_
      rintro e w2 ⟨rfl, g2⟩
      have gw2 := ((Gr.refl _).alloc _ _).trans g2
      go_wp2_with fail
      refine (HN.out _ (VX.out.gr gw2)).mono ?_
      rintro e w3 ⟨rfl, g3⟩
      go_wp2_with fail
      go_ret
      exact ⟨rfl, gw2.trans g3⟩
    · rw [Bool.true_and] at h5
      subst h5
      go_enter Try.func40, Try.ntmps40
      go_wp2_with (first | (go_at_call 55; refine (HL.out _).mono ?_; rintro e wz ⟨rfl, rfl⟩) | (go_at_call 56; refine (HP2.out _).mono ?_; rintro e wz ⟨rfl, rfl⟩))
      refine (HS.out _).mono ?_
      rintro e w2 ⟨rfl, g2⟩
      have gw2 := ((Gr.refl _).alloc _ _).trans g2
      go_wp2_with fail
      refine (HN.out _ (VX.out.gr gw2)).mono ?_
      rintro e w3 ⟨rfl, g3⟩
      have gw3 := gw2.trans g3
      have c0 := (g2.trans g3).cell (p := ⟨w.heap.size, 0, none⟩) (by simp)
      go_wp2_with fail
      refine (HR.out _ (VW.out.gr gw3)).mono ?_
      rintro e w4 ⟨rfl, g4⟩
      go_wp2_with fail
      go_ret
      exact ⟨rfl, gw3.trans g4⟩
  · have HL := Lib.hid (log08_yes n L h1)
    have HP2 := Lib.hid (HP.out L h1)
    have HS := Lib.hid (fMayBe_yes b s mo inv h4)
    subst h2
    subst h3
    subst h5
    subst h6
    obtain ⟨B, rfl⟩ : ∃ B : Nat, b = (B : Int) := ⟨b.toNat, by have := h4.1.1; omega⟩
    have hB : B ≤ 29 := by have := h4.1.2; omega
    have HN := Lib.hid fun W (hW : CxsAt W (.slice px m cx) xs) => fWithin_c _ xs 2147483648 (by omega) (by omega) W hW
    have hPb : (2 : Int) ^ B ≤ 2147483648 := pow_le31 B (by omega)
    have hP0 := pow_pos2 B
    have hPw : wrap64 (2 ^ B) = 2 ^ B := IntWalk.wrap64_in _ ⟨by omega, by omega⟩
    have HR := Lib.hid fun W (hW : CxsAt W (.slice pw m cw) ws) => fWithin_c _ ws (2 ^ B) (by omega) hPb W hW
    rw [← hx] at HN
    rw [← hw B rfl hB] at HR
    rw [← hPw] at HR
    clear h1 hx hw h4 HP hPb hP0 hPw
    go_enter Try.func40, Try.ntmps40
    go_wp2_with (first | (go_at_call 55; refine (HL.out _).mono ?_; rintro e wz ⟨rfl, rfl⟩) | (go_at_call 56; refine (HP2.out _).mono ?_; rintro e wz ⟨rfl, rfl⟩))
    refine (HS.out _).mono ?_
    rintro e w2 ⟨rfl, g2⟩
    have gw2 := ((Gr.refl _).alloc _ _).trans g2
    go_wp2_with fail
    refine (HN.out _ (VX.out.gr gw2)).mono ?_
    rintro e w3 ⟨rfl, g3⟩
    have gw3 := gw2.trans g3
    have c0 := (g2.trans g3).cell (p := ⟨w.heap.size, 0, none⟩) (by simp)
    go_wp2_with fail
    refine (HR.out _ (VW.out.gr gw3)).mono ?_
    rintro e w4 ⟨rfl, g4⟩
    go_wp2_with fail
    go_ret
    exact ⟨rfl, gw3.trans g4⟩

set_option maxHeartbeats 4000000 in
theorem fourQuad_arg_of (b s mo : Int) (inv : Bool) (f g : Nat → Gi)
    (HS : Hid (∀ W, Calls Try.prog 32 #[.agg #[.int .i64 b, .int .i64 s, .int .i64 mo, .bool inv]] W fun e w' => e = .returned (.bool false) ∧ Gr W w')) (w : World) :
    Calls Try.prog 17 #[.agg #[.int .i64 (f 0).re, .int .i64 (f 0).im, .int .i64 (f 1).re, .int .i64 (f 1).im, .int .i64 (f 2).re, .int .i64 (f 2).im, .int .i64 (f 3).re, .int .i64 (f 3).im], .agg #[.int .i64 (g 0).re, .int .i64 (g 0).im, .int .i64 (g 1).re, .int .i64 (g 1).im, .int .i64 (g 2).re, .int .i64 (g 2).im, .int .i64 (g 3).re, .int .i64 (g 3).im], .int .i64 b, .int .i64 s, .int .i64 mo, .bool inv] w fun e w' => e = .returned (.tuple #[.agg #[.int .i64 0, .int .i64 0, .int .i64 0, .int .i64 0, .int .i64 0, .int .i64 0, .int .i64 0, .int .i64 0], .int .i64 1]) ∧ Gr w w' := by
  go_enter Try.func17, Try.ntmps17
  go_wp2_with fail
  obtain ⟨u0, hU⟩ : ∃ u, u = ((((w.alloc (.cells #[.int .i64 (f 0).re, .int .i64 (f 0).im, .int .i64 (f 1).re, .int .i64 (f 1).im, .int .i64 (f 2).re, .int .i64 (f 2).im, .int .i64 (f 3).re, .int .i64 (f 3).im] 40)).alloc (.cells #[.int .i64 (g 0).re, .int .i64 (g 0).im, .int .i64 (g 1).re, .int .i64 (g 1).im, .int .i64 (g 2).re, .int .i64 (g 2).im, .int .i64 (g 3).re, .int .i64 (g 3).im] 40)).alloc (.cells #[.int .i64 0, .int .i64 0, .int .i64 0, .int .i64 0, .int .i64 0, .int .i64 0, .int .i64 0, .int .i64 0] 40)).alloc (.cells #[.int .i64 b, .int .i64 s, .int .i64 mo, .bool inv] 63)) := ⟨_, rfl⟩
  have gu : Gr w u0 := by rw [hU]; exact ((((Gr.refl w).alloc _ _).alloc _ _).alloc _ _).alloc _ _
  have R0 : CellsAt u0 (w.heap.size) 40 #[.int .i64 (f 0).re, .int .i64 (f 0).im, .int .i64 (f 1).re, .int .i64 (f 1).im, .int .i64 (f 2).re, .int .i64 (f 2).im, .int .i64 (f 3).re, .int .i64 (f 3).im] := by
    rw [hU]
    have := ((((CellsAt.new w 40 #[.int .i64 (f 0).re, .int .i64 (f 0).im, .int .i64 (f 1).re, .int .i64 (f 1).im, .int .i64 (f 2).re, .int .i64 (f 2).im, .int .i64 (f 3).re, .int .i64 (f 3).im]).alloc (.cells #[.int .i64 (g 0).re, .int .i64 (g 0).im, .int .i64 (g 1).re, .int .i64 (g 1).im, .int .i64 (g 2).re, .int .i64 (g 2).im, .int .i64 (g 3).re, .int .i64 (g 3).im] 40)).alloc (.cells #[.int .i64 0, .int .i64 0, .int .i64 0, .int .i64 0, .int .i64 0, .int .i64 0, .int .i64 0, .int .i64 0] 40)).alloc (.cells #[.int .i64 b, .int .i64 s, .int .i64 mo, .bool inv] 63))
    simpa only [World.size_alloc] using this
  have R1 : CellsAt u0 (w.heap.size + 1) 40 #[.int .i64 (g 0).re, .int .i64 (g 0).im, .int .i64 (g 1).re, .int .i64 (g 1).im, .int .i64 (g 2).re, .int .i64 (g 2).im, .int .i64 (g 3).re, .int .i64 (g 3).im] := by
    rw [hU]
    have := (((CellsAt.new (w.alloc (.cells #[.int .i64 (f 0).re, .int .i64 (f 0).im, .int .i64 (f 1).re, .int .i64 (f 1).im, .int .i64 (f 2).re, .int .i64 (f 2).im, .int .i64 (f 3).re, .int .i64 (f 3).im] 40)) 40 #[.int .i64 (g 0).re, .int .i64 (g 0).im, .int .i64 (g 1).re, .int .i64 (g 1).im, .int .i64 (g 2).re, .int .i64 (g 2).im, .int .i64 (g 3).re, .int .i64 (g 3).im]).alloc (.cells #[.int .i64 0, .int .i64 0, .int .i64 0, .int .i64 0, .int .i64 0, .int .i64 0, .int .i64 0, .int .i64 0] 40)).alloc (.cells #[.int .i64 b, .int .i64 s, .int .i64 mo, .bool inv] 63))
    simpa only [World.size_alloc] using this
  have R2 : CellsAt u0 (w.heap.size + 1 + 1) 40 #[.int .i64 0, .int .i64 0, .int .i64 0, .int .i64 0, .int .i64 0, .int .i64 0, .int .i64 0, .int .i64 0] := by
    rw [hU]
    have := ((CellsAt.new ((w.alloc (.cells #[.int .i64 (f 0).re, .int .i64 (f 0).im, .int .i64 (f 1).re, .int .i64 (f 1).im, .int .i64 (f 2).re, .int .i64 (f 2).im, .int .i64 (f 3).re, .int .i64 (f 3).im] 40)).alloc (.cells #[.int .i64 (g 0).re, .int .i64 (g 0).im, .int .i64 (g 1).re, .int .i64 (g 1).im, .int .i64 (g 2).re, .int .i64 (g 2).im, .int .i64 (g 3).re, .int .i64 (g 3).im] 40)) 40 #[.int .i64 0, .int .i64 0, .int .i64 0, .int .i64 0, .int .i64 0, .int .i64 0, .int .i64 0, .int .i64 0]).alloc (.cells #[.int .i64 b, .int .i64 s, .int .i64 mo, .bool inv] 63))
    simpa only [World.size_alloc] using this
  have R3 : CellsAt u0 (w.heap.size + 1 + 1 + 1) 63 #[.int .i64 b, .int .i64 s, .int .i64 mo, .bool inv] := by
    rw [hU]
    have := (CellsAt.new (((w.alloc (.cells #[.int .i64 (f 0).re, .int .i64 (f 0).im, .int .i64 (f 1).re, .int .i64 (f 1).im, .int .i64 (f 2).re, .int .i64 (f 2).im, .int .i64 (f 3).re, .int .i64 (f 3).im] 40)).alloc (.cells #[.int .i64 (g 0).re, .int .i64 (g 0).im, .int .i64 (g 1).re, .int .i64 (g 1).im, .int .i64 (g 2).re, .int .i64 (g 2).im, .int .i64 (g 3).re, .int .i64 (g 3).im] 40)).alloc (.cells #[.int .i64 0, .int .i64 0, .int .i64 0, .int .i64 0, .int .i64 0, .int .i64 0, .int .i64 0, .int .i64 0] 40)) 63 #[.int .i64 b, .int .i64 s, .int .i64 mo, .bool inv])
    simpa only [World.size_alloc] using this
  rw [← hU]
  clear hU
  refine (HS.out _).mono ?_
  rintro e u1 ⟨rfl, g1⟩
  have gw := gu.trans g1
  replace R0 := R0.gr g1
  replace R1 := R1.gr g1
  replace R2 := R2.gr g1
  replace R3 := R3.gr g1
  clear gu g1
  have gz := gw
  clear gw
  go_wp2_with (refine wpList_store_row rfl 40 _ _ rfl (w.heap.size + 1 + 1) _ rfl rfl 40 _ R2 (by kernel_rfl) (by kernel_rfl) (by kernel_rfl) ?_)
  have R4 := R2.setRow #[.int .i64 0, .int .i64 0, .int .i64 0, .int .i64 0, .int .i64 0, .int .i64 0, .int .i64 0, .int .i64 0]
  refine bodyPost_ret (v := .tuple #[.agg #[.int .i64 0, .int .i64 0, .int .i64 0, .int .i64 0, .int .i64 0, .int .i64 0, .int .i64 0, .int .i64 0], .int .i64 1]) ?_ rfl ⟨rfl, gz.setRow (by omega) _⟩
  have hld := run_loadVar_row (P := Try.prog) _ (w.heap.size + 1 + 1) 40 40 _ (0, 0) _ R4 Try.underlying40 rfl (by kernel_rfl)
  simp [results, Try.f17, asAddr, hld]

set_option maxHeartbeats 4000000 in
theorem fourQuad_r1_of (b s mo : Int) (inv : Bool) (f g : Nat → Gi)
    (HS : Hid (∀ W, Calls Try.prog 32 #[.agg #[.int .i64 b, .int .i64 s, .int .i64 mo, .bool inv]] W fun e w' => e = .returned (.bool true) ∧ Gr W w'))
    (HN : Hid (∀ v W, CxsAt W v ((List.range 4).map (fun i => f (0 + i))) → Calls Try.prog 33 #[.int .i64 2147483648, v] W fun e w' => e = .returned (.bool false) ∧ Gr W w')) (w : World) :
    Calls Try.prog 17 #[.agg #[.int .i64 (f 0).re, .int .i64 (f 0).im, .int .i64 (f 1).re, .int .i64 (f 1).im, .int .i64 (f 2).re, .int .i64 (f 2).im, .int .i64 (f 3).re, .int .i64 (f 3).im], .agg #[.int .i64 (g 0).re, .int .i64 (g 0).im, .int .i64 (g 1).re, .int .i64 (g 1).im, .int .i64 (g 2).re, .int .i64 (g 2).im, .int .i64 (g 3).re, .int .i64 (g 3).im], .int .i64 b, .int .i64 s, .int .i64 mo, .bool inv] w fun e w' => e = .returned (.tuple #[.agg #[.int .i64 0, .int .i64 0, .int .i64 0, .int .i64 0, .int .i64 0, .int .i64 0, .int .i64 0, .int .i64 0], .int .i64 2]) ∧ Gr w w' := by
  go_enter Try.func17, Try.ntmps17
  go_wp2_with fail
  obtain ⟨u0, hU⟩ : ∃ u, u = ((((w.alloc (.cells #[.int .i64 (f 0).re, .int .i64 (f 0).im, .int .i64 (f 1).re, .int .i64 (f 1).im, .int .i64 (f 2).re, .int .i64 (f 2).im, .int .i64 (f 3).re, .int .i64 (f 3).im] 40)).alloc (.cells #[.int .i64 (g 0).re, .int .i64 (g 0).im, .int .i64 (g 1).re, .int .i64 (g 1).im, .int .i64 (g 2).re, .int .i64 (g 2).im, .int .i64 (g 3).re, .int .i64 (g 3).im] 40)).alloc (.cells #[.int .i64 0, .int .i64 0, .int .i64 0, .int .i64 0, .int .i64 0, .int .i64 0, .int .i64 0, .int .i64 0] 40)).alloc (.cells #[.int .i64 b, .int .i64 s, .int .i64 mo, .bool inv] 63)) := ⟨_, rfl⟩
  have gu : Gr w u0 := by rw [hU]; exact ((((Gr.refl w).alloc _ _).alloc _ _).alloc _ _).alloc _ _
  have R0 : CellsAt u0 (w.heap.size) 40 #[.int .i64 (f 0).re, .int .i64 (f 0).im, .int .i64 (f 1).re, .int .i64 (f 1).im, .int .i64 (f 2).re, .int .i64 (f 2).im, .int .i64 (f 3).re, .int .i64 (f 3).im] := by
    rw [hU]
    have := ((((CellsAt.new w 40 #[.int .i64 (f 0).re, .int .i64 (f 0).im, .int .i64 (f 1).re, .int .i64 (f 1).im, .int .i64 (f 2).re, .int .i64 (f 2).im, .int .i64 (f 3).re, .int .i64 (f 3).im]).alloc (.cells #[.int .i64 (g 0).re, .int .i64 (g 0).im, .int .i64 (g 1).re, .int .i64 (g 1).im, .int .i64 (g 2).re, .int .i64 (g 2).im, .int .i64 (g 3).re, .int .i64 (g 3).im] 40)).alloc (.cells #[.int .i64 0, .int .i64 0, .int .i64 0, .int .i64 0, .int .i64 0, .int .i64 0, .int .i64 0, .int .i64 0] 40)).alloc (.cells #[.int .i64 b, .int .i64 s, .int .i64 mo, .bool inv] 63))
    simpa only [World.size_alloc] using this
  have R1 : CellsAt u0 (w.heap.size + 1) 40 #[.int .i64 (g 0).re, .int .i64 (g 0).im, .int .i64 (g 1).re, .int .i64 (g 1).im, .int .i64 (g 2).re, .int .i64 (g 2).im, .int .i64 (g 3).re, .int .i64 (g 3).im] := by
    rw [hU]
    have := (((CellsAt.new (w.alloc (.cells #[.int .i64 (f 0).re, .int .i64 (f 0).im, .int .i64 (f 1).re, .int .i64 (f 1).im, .int .i64 (f 2).re, .int .i64 (f 2).im, .int .i64 (f 3).re, .int .i64 (f 3).im] 40)) 40 #[.int .i64 (g 0).re, .int .i64 (g 0).im, .int .i64 (g 1).re, .int .i64 (g 1).im, .int .i64 (g 2).re, .int .i64 (g 2).im, .int .i64 (g 3).re, .int .i64 (g 3).im]).alloc (.cells #[.int .i64 0, .int .i64 0, .int .i64 0, .int .i64 0, .int .i64 0, .int .i64 0, .int .i64 0, .int .i64 0] 40)).alloc (.cells #[.int .i64 b, .int .i64 s, .int .i64 mo, .bool inv] 63))
    simpa only [World.size_alloc] using this
  have R2 : CellsAt u0 (w.heap.size + 1 + 1) 40 #[.int .i64 0, .int .i64 0, .int .i64 0, .int .i64 0, .int .i64 0, .int .i64 0, .int .i64 0, .int .i64 0] := by
    rw [hU]
    have := ((CellsAt.new ((w.alloc (.cells #[.int .i64 (f 0).re, .int .i64 (f 0).im, .int .i64 (f 1).re, .int .i64 (f 1).im, .int .i64 (f 2).re, .int .i64 (f 2).im, .int .i64 (f 3).re, .int .i64 (f 3).im] 40)).alloc (.cells #[.int .i64 (g 0).re, .int .i64 (g 0).im, .int .i64 (g 1).re, .int .i64 (g 1).im, .int .i64 (g 2).re, .int .i64 (g 2).im, .int .i64 (g 3).re, .int .i64 (g 3).im] 40)) 40 #[.int .i64 0, .int .i64 0, .int .i64 0, .int .i64 0, .int .i64 0, .int .i64 0, .int .i64 0, .int .i64 0]).alloc (.cells #[.int .i64 b, .int .i64 s, .int .i64 mo, .bool inv] 63))
    simpa only [World.size_alloc] using this
  have R3 : CellsAt u0 (w.heap.size + 1 + 1 + 1) 63 #[.int .i64 b, .int .i64 s, .int .i64 mo, .bool inv] := by
    rw [hU]
    have := (CellsAt.new (((w.alloc (.cells #[.int .i64 (f 0).re, .int .i64 (f 0).im, .int .i64 (f 1).re, .int .i64 (f 1).im, .int .i64 (f 2).re, .int .i64 (f 2).im, .int .i64 (f 3).re, .int .i64 (f 3).im] 40)).alloc (.cells #[.int .i64 (g 0).re, .int .i64 (g 0).im, .int .i64 (g 1).re, .int .i64 (g 1).im, .int .i64 (g 2).re, .int .i64 (g 2).im, .int .i64 (g 3).re, .int .i64 (g 3).im] 40)).alloc (.cells #[.int .i64 0, .int .i64 0, .int .i64 0, .int .i64 0, .int .i64 0, .int .i64 0, .int .i64 0, .int .i64 0] 40)) 63 #[.int .i64 b, .int .i64 s, .int .i64 mo, .bool inv])
    simpa only [World.size_alloc] using this
  rw [← hU]
  clear hU
  refine (HS.out _).mono ?_
  rintro e u1 ⟨rfl, g1⟩
  have gw := gu.trans g1
  replace R0 := R0.gr g1
  replace R1 := R1.gr g1
  replace R2 := R2.gr g1
  replace R3 := R3.gr g1
  clear gu g1
  go_wp2_with fail
  refine wp_region_held_drew (S := fun _ => True) rfl trivial (fun hS => ?_)
  refine wpAnyH_take (i := 0) (v := ?_) rfl (by kernel_rfl) (by kernel_rfl) (by kernel_rfl) (fun _ _ _ h => h) (Or.inl ⟨by rfl, ?_⟩) (by assumption) ?_
  rotate_left
  · (intro w hSw; (try dsimp only at hSw); go_split_ands; go_simp; try with_reducible rfl)
  try simp only [Act.put, List.setIfInBounds_toArray, List.set_cons_zero, List.set_cons_succ, List.getElem_toArray, List.getElem_cons_zero]
  refine wpAnyH_ready (rs := [1]) (by kernel_rfl) (by simp) ?_
  refine AllReadyH.cons rfl (fun K hK => ?_) AllReadyH.nil
  go_simp
  have hV := RowAt.cxs (RowAt.of4 (f := f) (R0.drewN 1)) 0 4 4 (by omega) (by omega) (by unfold maxLen; omega)
  go_at_call 33
  refine (HN.out _ _ hV).mono ?_
  rintro e u2 ⟨rfl, g2⟩
  have x2 := ((Gr.refl u1).drew).trans g2
  refine hK.out _ _ ?_ (fun hHeld => ?_)
  · (trivial)
  clear hK K
  try simp only [Act.put, List.setIfInBounds_toArray, List.set_cons_zero, List.set_cons_succ, List.getElem_toArray, List.getElem_cons_zero, List.getElem_cons_succ]
  refine wpAnyH_take (i := 2) (v := ?_) rfl (by kernel_rfl) (by kernel_rfl) (by kernel_rfl) (fun _ _ _ h => h) (Or.inl ⟨by rfl, ?_⟩) (by assumption) ?_
  rotate_left
  · (intro w hSw; (try dsimp only at hSw); go_split_ands; go_simp; try with_reducible rfl)
  try simp only [Act.put, List.setIfInBounds_toArray, List.set_cons_zero, List.set_cons_succ, List.getElem_toArray, List.getElem_cons_zero, List.getElem_cons_succ]
  refine wpAnyH_take (i := 3) (v := ?_) rfl (by kernel_rfl) (by kernel_rfl) (by kernel_rfl) (fun _ _ _ h => h) (Or.inl ⟨by rfl, ?_⟩) (by assumption) ?_
  rotate_left
  · (intro w hSw; (try dsimp only at hSw); go_split_ands; go_simp; try with_reducible rfl)
  try simp only [Act.put, List.setIfInBounds_toArray, List.set_cons_zero, List.set_cons_succ, List.getElem_toArray, List.getElem_cons_zero, List.getElem_cons_succ]
  refine wpAnyH_take (i := 4) (v := undef) rfl (by kernel_rfl) (by kernel_rfl) (by kernel_rfl) (fun _ _ _ h => h) (Or.inr ⟨by rfl, rfl⟩) (by assumption) ?_
  try simp only [Act.put, List.setIfInBounds_toArray, List.set_cons_zero, List.set_cons_succ, List.getElem_toArray, List.getElem_cons_zero, List.getElem_cons_succ]
  refine wpAnyH_take (i := 5) (v := undef) rfl (by kernel_rfl) (by kernel_rfl) (by kernel_rfl) (fun _ _ _ h => h) (Or.inr ⟨by rfl, rfl⟩) (by assumption) ?_
  try simp only [Act.put, List.setIfInBounds_toArray, List.set_cons_zero, List.set_cons_succ, List.getElem_toArray, List.getElem_cons_zero, List.getElem_cons_succ]
  refine wpAnyH_take (i := 6) (v := undef) rfl (by kernel_rfl) (by kernel_rfl) (by kernel_rfl) (fun _ _ _ h => h) (Or.inr ⟨by rfl, rfl⟩) (by assumption) ?_
  try simp only [Act.put, List.setIfInBounds_toArray, List.set_cons_zero, List.set_cons_succ, List.getElem_toArray, List.getElem_cons_zero, List.getElem_cons_succ]
  refine wpAnyH_take (i := 7) (v := undef) rfl (by kernel_rfl) (by kernel_rfl) (by kernel_rfl) (fun _ _ _ h => h) (Or.inr ⟨by rfl, rfl⟩) (by assumption) ?_
  try simp only [Act.put, List.setIfInBounds_toArray, List.set_cons_zero, List.set_cons_succ, List.getElem_toArray, List.getElem_cons_zero, List.getElem_cons_succ]
  refine wpAnyH_take (i := 8) (v := undef) rfl (by kernel_rfl) (by kernel_rfl) (by kernel_rfl) (fun _ _ _ h => h) (Or.inr ⟨by rfl, rfl⟩) (by assumption) ?_
  try simp only [Act.put, List.setIfInBounds_toArray, List.set_cons_zero, List.set_cons_succ, List.getElem_toArray, List.getElem_cons_zero, List.getElem_cons_succ]
  refine wpAnyH_take (i := 9) (v := ?_) rfl (by kernel_rfl) (by kernel_rfl) (by kernel_rfl) (fun _ _ _ h => h) (Or.inl ⟨by rfl, ?_⟩) (by assumption) ?_
  rotate_left
  · (intro w hSw; (try dsimp only at hSw); go_split_ands; go_simp; try with_reducible rfl)
  try simp only [Act.put, List.setIfInBounds_toArray, List.set_cons_zero, List.set_cons_succ, List.getElem_toArray, List.getElem_cons_zero, List.getElem_cons_succ]
  refine wpAnyH_done (by kernel_rfl) ?_ _
  have gz := gw.trans x2
  replace R0 := R0.gr x2
  replace R1 := R1.gr x2
  replace R2 := R2.gr x2
  replace R3 := R3.gr x2
  clear gw x2 hS
  go_wp2_with (refine wpList_store_row rfl 40 _ _ rfl (w.heap.size + 1 + 1) _ rfl rfl 40 _ R2 (by kernel_rfl) (by kernel_rfl) (by kernel_rfl) ?_)
  have R4 := R2.setRow #[.int .i64 0, .int .i64 0, .int .i64 0, .int .i64 0, .int .i64 0, .int .i64 0, .int .i64 0, .int .i64 0]
  refine bodyPost_ret (v := .tuple #[.agg #[.int .i64 0, .int .i64 0, .int .i64 0, .int .i64 0, .int .i64 0, .int .i64 0, .int .i64 0, .int .i64 0], .int .i64 2]) ?_ rfl ⟨rfl, gz.setRow (by omega) _⟩
  have hld := run_loadVar_row (P := Try.prog) _ (w.heap.size + 1 + 1) 40 40 _ (0, 0) _ R4 Try.underlying40 rfl (by kernel_rfl)
  simp [results, Try.f17, asAddr, hld]

set_option maxHeartbeats 4000000 in
theorem fourQuad_r2_of (b s mo P : Int) (inv : Bool) (f g : Nat → Gi)
    (HS : Hid (∀ W, Calls Try.prog 32 #[.agg #[.int .i64 b, .int .i64 s, .int .i64 mo, .bool inv]] W fun e w' => e = .returned (.bool true) ∧ Gr W w'))
    (HN : Hid (∀ v W, CxsAt W v ((List.range 4).map (fun i => f (0 + i))) → Calls Try.prog 33 #[.int .i64 2147483648, v] W fun e w' => e = .returned (.bool true) ∧ Gr W w'))
    (hP : IntKind.i64.wrap (2 ^ min b.toNat 64) = P) (hb0 : 0 ≤ b) (HR : Hid (∀ v W, CxsAt W v ((List.range 3).map (fun i => g (1 + i))) → Calls Try.prog 33 #[.int .i64 P, v] W fun e w' => e = .returned (.bool false) ∧ Gr W w')) (w : World) :
    Calls Try.prog 17 #[.agg #[.int .i64 (f 0).re, .int .i64 (f 0).im, .int .i64 (f 1).re, .int .i64 (f 1).im, .int .i64 (f 2).re, .int .i64 (f 2).im, .int .i64 (f 3).re, .int .i64 (f 3).im], .agg #[.int .i64 (g 0).re, .int .i64 (g 0).im, .int .i64 (g 1).re, .int .i64 (g 1).im, .int .i64 (g 2).re, .int .i64 (g 2).im, .int .i64 (g 3).re, .int .i64 (g 3).im], .int .i64 b, .int .i64 s, .int .i64 mo, .bool inv] w fun e w' => e = .returned (.tuple #[.agg #[.int .i64 0, .int .i64 0, .int .i64 0, .int .i64 0, .int .i64 0, .int .i64 0, .int .i64 0, .int .i64 0], .int .i64 2]) ∧ Gr w w' := by
  go_enter Try.func17, Try.ntmps17
  go_wp2_with fail
  obtain ⟨u0, hU⟩ : ∃ u, u = ((((w.alloc (.cells #[.int .i64 (f 0).re, .int .i64 (f 0).im, .int .i64 (f 1).re, .int .i64 (f 1).im, .int .i64 (f 2).re, .int .i64 (f 2).im, .int .i64 (f 3).re, .int .i64 (f 3).im] 40)).alloc (.cells #[.int .i64 (g 0).re, .int .i64 (g 0).im, .int .i64 (g 1).re, .int .i64 (g 1).im, .int .i64 (g 2).re, .int .i64 (g 2).im, .int .i64 (g 3).re, .int .i64 (g 3).im] 40)).alloc (.cells #[.int .i64 0, .int .i64 0, .int .i64 0, .int .i64 0, .int .i64 0, .int .i64 0, .int .i64 0, .int .i64 0] 40)).alloc (.cells #[.int .i64 b, .int .i64 s, .int .i64 mo, .bool inv] 63)) := ⟨_, rfl⟩
  have gu : Gr w u0 := by rw [hU]; exact ((((Gr.refl w).alloc _ _).alloc _ _).alloc _ _).alloc _ _
  have R0 : CellsAt u0 (w.heap.size) 40 #[.int .i64 (f 0).re, .int .i64 (f 0).im, .int .i64 (f 1).re, .int .i64 (f 1).im, .int .i64 (f 2).re, .int .i64 (f 2).im, .int .i64 (f 3).re, .int .i64 (f 3).im] := by
    rw [hU]
    have := ((((CellsAt.new w 40 #[.int .i64 (f 0).re, .int .i64 (f 0).im, .int .i64 (f 1).re, .int .i64 (f 1).im, .int .i64 (f 2).re, .int .i64 (f 2).im, .int .i64 (f 3).re, .int .i64 (f 3).im]).alloc (.cells #[.int .i64 (g 0).re, .int .i64 (g 0).im, .int .i64 (g 1).re, .int .i64 (g 1).im, .int .i64 (g 2).re, .int .i64 (g 2).im, .int .i64 (g 3).re, .int .i64 (g 3).im] 40)).alloc (.cells #[.int .i64 0, .int .i64 0, .int .i64 0, .int .i64 0, .int .i64 0, .int .i64 0, .int .i64 0, .int .i64 0] 40)).alloc (.cells #[.int .i64 b, .int .i64 s, .int .i64 mo, .bool inv] 63))
    simpa only [World.size_alloc] using this
  have R1 : CellsAt u0 (w.heap.size + 1) 40 #[.int .i64 (g 0).re, .int .i64 (g 0).im, .int .i64 (g 1).re, .int .i64 (g 1).im, .int .i64 (g 2).re, .int .i64 (g 2).im, .int .i64 (g 3).re, .int .i64 (g 3).im] := by
    rw [hU]
    have := (((CellsAt.new (w.alloc (.cells #[.int .i64 (f 0).re, .int .i64 (f 0).im, .int .i64 (f 1).re, .int .i64 (f 1).im, .int .i64 (f 2).re, .int .i64 (f 2).im, .int .i64 (f 3).re, .int .i64 (f 3).im] 40)) 40 #[.int .i64 (g 0).re, .int .i64 (g 0).im, .int .i64 (g 1).re, .int .i64 (g 1).im, .int .i64 (g 2).re, .int .i64 (g 2).im, .int .i64 (g 3).re, .int .i64 (g 3).im]).alloc (.cells #[.int .i64 0, .int .i64 0, .int .i64 0, .int .i64 0, .int .i64 0, .int .i64 0, .int .i64 0, .int .i64 0] 40)).alloc (.cells #[.int .i64 b, .int .i64 s, .int .i64 mo, .bool inv] 63))
    simpa only [World.size_alloc] using this
  have R2 : CellsAt u0 (w.heap.size + 1 + 1) 40 #[.int .i64 0, .int .i64 0, .int .i64 0, .int .i64 0, .int .i64 0, .int .i64 0, .int .i64 0, .int .i64 0] := by
    rw [hU]
    have := ((CellsAt.new ((w.alloc (.cells #[.int .i64 (f 0).re, .int .i64 (f 0).im, .int .i64 (f 1).re, .int .i64 (f 1).im, .int .i64 (f 2).re, .int .i64 (f 2).im, .int .i64 (f 3).re, .int .i64 (f 3).im] 40)).alloc (.cells #[.int .i64 (g 0).re, .int .i64 (g 0).im, .int .i64 (g 1).re, .int .i64 (g 1).im, .int .i64 (g 2).re, .int .i64 (g 2).im, .int .i64 (g 3).re, .int .i64 (g 3).im] 40)) 40 #[.int .i64 0, .int .i64 0, .int .i64 0, .int .i64 0, .int .i64 0, .int .i64 0, .int .i64 0, .int .i64 0]).alloc (.cells #[.int .i64 b, .int .i64 s, .int .i64 mo, .bool inv] 63))
    simpa only [World.size_alloc] using this
  have R3 : CellsAt u0 (w.heap.size + 1 + 1 + 1) 63 #[.int .i64 b, .int .i64 s, .int .i64 mo, .bool inv] := by
    rw [hU]
    have := (CellsAt.new (((w.alloc (.cells #[.int .i64 (f 0).re, .int .i64 (f 0).im, .int .i64 (f 1).re, .int .i64 (f 1).im, .int .i64 (f 2).re, .int .i64 (f 2).im, .int .i64 (f 3).re, .int .i64 (f 3).im] 40)).alloc (.cells #[.int .i64 (g 0).re, .int .i64 (g 0).im, .int .i64 (g 1).re, .int .i64 (g 1).im, .int .i64 (g 2).re, .int .i64 (g 2).im, .int .i64 (g 3).re, .int .i64 (g 3).im] 40)).alloc (.cells #[.int .i64 0, .int .i64 0, .int .i64 0, .int .i64 0, .int .i64 0, .int .i64 0, .int .i64 0, .int .i64 0] 40)) 63 #[.int .i64 b, .int .i64 s, .int .i64 mo, .bool inv])
    simpa only [World.size_alloc] using this
  rw [← hU]
  clear hU
  refine (HS.out _).mono ?_
  rintro e u1 ⟨rfl, g1⟩
  have gw := gu.trans g1
  replace R0 := R0.gr g1
  replace R1 := R1.gr g1
  replace R2 := R2.gr g1
  replace R3 := R3.gr g1
  clear gu g1
  go_wp2_with fail
  refine wp_region_held_drew (S := fun _ => True) rfl trivial (fun hS => ?_)
  refine wpAnyH_take (i := 0) (v := ?_) rfl (by kernel_rfl) (by kernel_rfl) (by kernel_rfl) (fun _ _ _ h => h) (Or.inl ⟨by rfl, ?_⟩) (by assumption) ?_
  rotate_left
  · (intro w hSw; (try dsimp only at hSw); go_split_ands; go_simp; try with_reducible rfl)
  try simp only [Act.put, List.setIfInBounds_toArray, List.set_cons_zero, List.set_cons_succ, List.getElem_toArray, List.getElem_cons_zero]
  refine wpAnyH_ready (rs := [1]) (by kernel_rfl) (by simp) ?_
  refine AllReadyH.cons rfl (fun K hK => ?_) AllReadyH.nil
  go_simp
  have hV := RowAt.cxs (RowAt.of4 (f := f) (R0.drewN 1)) 0 4 4 (by omega) (by omega) (by unfold maxLen; omega)
  go_at_call 33
  refine (HN.out _ _ hV).mono ?_
  rintro e u2 ⟨rfl, g2⟩
  have x2 := ((Gr.refl u1).drew).trans g2
  refine hK.out _ _ ?_ (fun hHeld => ?_)
  · (trivial)
  clear hK K
  try simp only [Act.put, List.setIfInBounds_toArray, List.set_cons_zero, List.set_cons_succ, List.getElem_toArray, List.getElem_cons_zero, List.getElem_cons_succ]
  refine wpAnyH_take (i := 2) (v := ?_) rfl (by kernel_rfl) (by kernel_rfl) (by kernel_rfl) (fun _ _ _ h => h) (Or.inl ⟨by rfl, ?_⟩) (by assumption) ?_
  rotate_left
  · (intro w hSw; (try dsimp only at hSw); go_split_ands; go_simp; try with_reducible rfl)
  try simp only [Act.put, List.setIfInBounds_toArray, List.set_cons_zero, List.set_cons_succ, List.getElem_toArray, List.getElem_cons_zero, List.getElem_cons_succ]
  refine wpAnyH_take (i := 3) (v := ?_) rfl (by kernel_rfl) (by kernel_rfl) (by kernel_rfl) (fun _ _ _ h => h) (Or.inl ⟨by rfl, ?_⟩) (by assumption) ?_
  rotate_left
  · (intro w hSw; (try dsimp only at hSw); go_split_ands; go_simp; try with_reducible rfl)
  try simp only [Act.put, List.setIfInBounds_toArray, List.set_cons_zero, List.set_cons_succ, List.getElem_toArray, List.getElem_cons_zero, List.getElem_cons_succ]
  refine wpAnyH_take (i := 4) (v := ?_) rfl (by kernel_rfl) (by kernel_rfl) (by kernel_rfl) (fun _ _ _ h => h) (Or.inl ⟨by rfl, ?_⟩) (by assumption) ?_
  rotate_left
  · (intro w hSw; (try dsimp only at hSw); go_split_ands; go_simp; try with_reducible rfl)
  try simp only [Act.put, List.setIfInBounds_toArray, List.set_cons_zero, List.set_cons_succ, List.getElem_toArray, List.getElem_cons_zero, List.getElem_cons_succ]
  refine wpAnyH_take (i := 5) (v := ?_) rfl (by kernel_rfl) (by kernel_rfl) (by kernel_rfl) (fun _ _ _ h => h) (Or.inl ⟨by rfl, ?_⟩) (by assumption) ?_
  rotate_left
  · (intro w hSw; (try dsimp only at hSw); go_split_ands; go_simp; try with_reducible rfl)
  try simp only [Act.put, List.setIfInBounds_toArray, List.set_cons_zero, List.set_cons_succ, List.getElem_toArray, List.getElem_cons_zero, List.getElem_cons_succ]
  refine wpAnyH_take (i := 6) (v := ?_) rfl (by kernel_rfl) (by kernel_rfl) (by kernel_rfl) (fun _ _ _ h => h) (Or.inl ⟨by rfl, ?_⟩) (by assumption) ?_
  rotate_left
  · (intro w hSw; (try dsimp only at hSw); go_split_ands; go_simp; try with_reducible rfl)
  try simp only [Act.put, List.setIfInBounds_toArray, List.set_cons_zero, List.set_cons_succ, List.getElem_toArray, List.getElem_cons_zero, List.getElem_cons_succ]
  refine wpAnyH_ready (rs := [7]) (by kernel_rfl) (by simp) ?_
  refine AllReadyH.cons rfl (fun K hK => ?_) AllReadyH.nil
  go_simp
  have hV2 := RowAt.cxs (RowAt.of4 (f := g) (R1.gr x2)) 1 3 3 (by omega) (by omega) (by unfold maxLen; omega)
  go_at_call 33
  refine (HR.out _ _ hV2).mono ?_
  rintro e u3 ⟨rfl, g3⟩
  have x3 := x2.trans g3
  refine hK.out _ _ ?_ (fun hHeld => ?_)
  · (trivial)
  clear hK K
  try simp only [Act.put, List.setIfInBounds_toArray, List.set_cons_zero, List.set_cons_succ, List.getElem_toArray, List.getElem_cons_zero, List.getElem_cons_succ]
  refine wpAnyH_take (i := 8) (v := ?_) rfl (by kernel_rfl) (by kernel_rfl) (by kernel_rfl) (fun _ _ _ h => h) (Or.inl ⟨by rfl, ?_⟩) (by assumption) ?_
  rotate_left
  · (intro w hSw; (try dsimp only at hSw); go_split_ands; go_simp; try with_reducible rfl)
  try simp only [Act.put, List.setIfInBounds_toArray, List.set_cons_zero, List.set_cons_succ, List.getElem_toArray, List.getElem_cons_zero, List.getElem_cons_succ]
  refine wpAnyH_take (i := 9) (v := ?_) rfl (by kernel_rfl) (by kernel_rfl) (by kernel_rfl) (fun _ _ _ h => h) (Or.inl ⟨by rfl, ?_⟩) (by assumption) ?_
  rotate_left
  · (intro w hSw; (try dsimp only at hSw); go_split_ands; go_simp; try with_reducible rfl)
  try simp only [Act.put, List.setIfInBounds_toArray, List.set_cons_zero, List.set_cons_succ, List.getElem_toArray, List.getElem_cons_zero, List.getElem_cons_succ]
  refine wpAnyH_done (by kernel_rfl) ?_ _
  have gz := gw.trans x3
  replace R0 := R0.gr x3
  replace R1 := R1.gr x3
  replace R2 := R2.gr x3
  replace R3 := R3.gr x3
  clear gw x3 hS
  go_wp2_with (refine wpList_store_row rfl 40 _ _ rfl (w.heap.size + 1 + 1) _ rfl rfl 40 _ R2 (by kernel_rfl) (by kernel_rfl) (by kernel_rfl) ?_)
  have R4 := R2.setRow #[.int .i64 0, .int .i64 0, .int .i64 0, .int .i64 0, .int .i64 0, .int .i64 0, .int .i64 0, .int .i64 0]
  refine bodyPost_ret (v := .tuple #[.agg #[.int .i64 0, .int .i64 0, .int .i64 0, .int .i64 0, .int .i64 0, .int .i64 0, .int .i64 0, .int .i64 0], .int .i64 2]) ?_ rfl ⟨rfl, gz.setRow (by omega) _⟩
  have hld := run_loadVar_row (P := Try.prog) _ (w.heap.size + 1 + 1) 40 40 _ (0, 0) _ R4 Try.underlying40 rfl (by kernel_rfl)
  simp [results, Try.f17, asAddr, hld]

set_option maxHeartbeats 4000000 in
theorem fourQuad_ok_of (b s mo P : Int) (inv : Bool) (f g V : Nat → Gi)
    (HS : Hid (∀ W, Calls Try.prog 32 #[.agg #[.int .i64 b, .int .i64 s, .int .i64 mo, .bool inv]] W fun e w' => e = .returned (.bool true) ∧ Gr W w'))
    (HN : Hid (∀ v W, CxsAt W v ((List.range 4).map (fun i => f (0 + i))) → Calls Try.prog 33 #[.int .i64 2147483648, v] W fun e w' => e = .returned (.bool true) ∧ Gr W w'))
    (hP : IntKind.i64.wrap (2 ^ min b.toNat 64) = P) (hb0 : 0 ≤ b) (HR : Hid (∀ v W, CxsAt W v ((List.range 3).map (fun i => g (1 + i))) → Calls Try.prog 33 #[.int .i64 P, v] W fun e w' => e = .returned (.bool true) ∧ Gr W w'))
    (HA : Hid (∀ W, Calls Try.prog 34 #[.agg #[.int .i64 b, .int .i64 s, .int .i64 mo, .bool inv], .agg #[.int .i64 (f 0).re, .int .i64 (f 0).im, .int .i64 (f 1).re, .int .i64 (f 1).im, .int .i64 (f 2).re, .int .i64 (f 2).im, .int .i64 (f 3).re, .int .i64 (f 3).im], .agg #[.int .i64 (g 0).re, .int .i64 (g 0).im, .int .i64 (g 1).re, .int .i64 (g 1).im, .int .i64 (g 2).re, .int .i64 (g 2).im, .int .i64 (g 3).re, .int .i64 (g 3).im]] W fun e w' => e = .returned (.agg #[.int .i64 (V 0).re, .int .i64 (V 0).im, .int .i64 (V 1).re, .int .i64 (V 1).im, .int .i64 (V 2).re, .int .i64 (V 2).im, .int .i64 (V 3).re, .int .i64 (V 3).im]) ∧ Gr W w')) (w : World) :
    Calls Try.prog 17 #[.agg #[.int .i64 (f 0).re, .int .i64 (f 0).im, .int .i64 (f 1).re, .int .i64 (f 1).im, .int .i64 (f 2).re, .int .i64 (f 2).im, .int .i64 (f 3).re, .int .i64 (f 3).im], .agg #[.int .i64 (g 0).re, .int .i64 (g 0).im, .int .i64 (g 1).re, .int .i64 (g 1).im, .int .i64 (g 2).re, .int .i64 (g 2).im, .int .i64 (g 3).re, .int .i64 (g 3).im], .int .i64 b, .int .i64 s, .int .i64 mo, .bool inv] w fun e w' => e = .returned (.tuple #[.agg #[.int .i64 (V 0).re, .int .i64 (V 0).im, .int .i64 (V 1).re, .int .i64 (V 1).im, .int .i64 (V 2).re, .int .i64 (V 2).im, .int .i64 (V 3).re, .int .i64 (V 3).im], .int .i64 0]) ∧ Gr w w' := by
  go_enter Try.func17, Try.ntmps17
  go_wp2_with fail
  obtain ⟨u0, hU⟩ : ∃ u, u = ((((w.alloc (.cells #[.int .i64 (f 0).re, .int .i64 (f 0).im, .int .i64 (f 1).re, .int .i64 (f 1).im, .int .i64 (f 2).re, .int .i64 (f 2).im, .int .i64 (f 3).re, .int .i64 (f 3).im] 40)).alloc (.cells #[.int .i64 (g 0).re, .int .i64 (g 0).im, .int .i64 (g 1).re, .int .i64 (g 1).im, .int .i64 (g 2).re, .int .i64 (g 2).im, .int .i64 (g 3).re, .int .i64 (g 3).im] 40)).alloc (.cells #[.int .i64 0, .int .i64 0, .int .i64 0, .int .i64 0, .int .i64 0, .int .i64 0, .int .i64 0, .int .i64 0] 40)).alloc (.cells #[.int .i64 b, .int .i64 s, .int .i64 mo, .bool inv] 63)) := ⟨_, rfl⟩
  have gu : Gr w u0 := by rw [hU]; exact ((((Gr.refl w).alloc _ _).alloc _ _).alloc _ _).alloc _ _
  have R0 : CellsAt u0 (w.heap.size) 40 #[.int .i64 (f 0).re, .int .i64 (f 0).im, .int .i64 (f 1).re, .int .i64 (f 1).im, .int .i64 (f 2).re, .int .i64 (f 2).im, .int .i64 (f 3).re, .int .i64 (f 3).im] := by
    rw [hU]
    have := ((((CellsAt.new w 40 #[.int .i64 (f 0).re, .int .i64 (f 0).im, .int .i64 (f 1).re, .int .i64 (f 1).im, .int .i64 (f 2).re, .int .i64 (f 2).im, .int .i64 (f 3).re, .int .i64 (f 3).im]).alloc (.cells #[.int .i64 (g 0).re, .int .i64 (g 0).im, .int .i64 (g 1).re, .int .i64 (g 1).im, .int .i64 (g 2).re, .int .i64 (g 2).im, .int .i64 (g 3).re, .int .i64 (g 3).im] 40)).alloc (.cells #[.int .i64 0, .int .i64 0, .int .i64 0, .int .i64 0, .int .i64 0, .int .i64 0, .int .i64 0, .int .i64 0] 40)).alloc (.cells #[.int .i64 b, .int .i64 s, .int .i64 mo, .bool inv] 63))
    simpa only [World.size_alloc] using this
  have R1 : CellsAt u0 (w.heap.size + 1) 40 #[.int .i64 (g 0).re, .int .i64 (g 0).im, .int .i64 (g 1).re, .int .i64 (g 1).im, .int .i64 (g 2).re, .int .i64 (g 2).im, .int .i64 (g 3).re, .int .i64 (g 3).im] := by
    rw [hU]
    have := (((CellsAt.new (w.alloc (.cells #[.int .i64 (f 0).re, .int .i64 (f 0).im, .int .i64 (f 1).re, .int .i64 (f 1).im, .int .i64 (f 2).re, .int .i64 (f 2).im, .int .i64 (f 3).re, .int .i64 (f 3).im] 40)) 40 #[.int .i64 (g 0).re, .int .i64 (g 0).im, .int .i64 (g 1).re, .int .i64 (g 1).im, .int .i64 (g 2).re, .int .i64 (g 2).im, .int .i64 (g 3).re, .int .i64 (g 3).im]).alloc (.cells #[.int .i64 0, .int .i64 0, .int .i64 0, .int .i64 0, .int .i64 0, .int .i64 0, .int .i64 0, .int .i64 0] 40)).alloc (.cells #[.int .i64 b, .int .i64 s, .int .i64 mo, .bool inv] 63))
    simpa only [World.size_alloc] using this
  have R2 : CellsAt u0 (w.heap.size + 1 + 1) 40 #[.int .i64 0, .int .i64 0, .int .i64 0, .int .i64 0, .int .i64 0, .int .i64 0, .int .i64 0, .int .i64 0] := by
    rw [hU]
    have := ((CellsAt.new ((w.alloc (.cells #[.int .i64 (f 0).re, .int .i64 (f 0).im, .int .i64 (f 1).re, .int .i64 (f 1).im, .int .i64 (f 2).re, .int .i64 (f 2).im, .int .i64 (f 3).re, .int .i64 (f 3).im] 40)).alloc (.cells #[.int .i64 (g 0).re, .int .i64 (g 0).im, .int .i64 (g 1).re, .int .i64 (g 1).im, .int .i64 (g 2).re, .int .i64 (g 2).im, .int .i64 (g 3).re, .int .i64 (g 3).im] 40)) 40 #[.int .i64 0, .int .i64 0, .int .i64 0, .int .i64 0, .int .i64 0, .int .i64 0, .int .i64 0, .int .i64 0]).alloc (.cells #[.int .i64 b, .int .i64 s, .int .i64 mo, .bool inv] 63))
    simpa only [World.size_alloc] using this
  have R3 : CellsAt u0 (w.heap.size + 1 + 1 + 1) 63 #[.int .i64 b, .int .i64 s, .int .i64 mo, .bool inv] := by
    rw [hU]
    have := (CellsAt.new (((w.alloc (.cells #[.int .i64 (f 0).re, .int .i64 (f 0).im, .int .i64 (f 1).re, .int .i64 (f 1).im, .int .i64 (f 2).re, .int .i64 (f 2).im, .int .i64 (f 3).re, .int .i64 (f 3).im] 40)).alloc (.cells #[.int .i64 (g 0).re, .int .i64 (g 0).im, .int .i64 (g 1).re, .int .i64 (g 1).im, .int .i64 (g 2).re, .int .i64 (g 2).im, .int .i64 (g 3).re, .int .i64 (g 3).im] 40)).alloc (.cells #[.int .i64 0, .int .i64 0, .int .i64 0, .int .i64 0, .int .i64 0, .int .i64 0, .int .i64 0, .int .i64 0] 40)) 63 #[.int .i64 b, .int .i64 s, .int .i64 mo, .bool inv])
    simpa only [World.size_alloc] using this
  rw [← hU]
  clear hU
  refine (HS.out _).mono ?_
  rintro e u1 ⟨rfl, g1⟩
  have gw := gu.trans g1
  replace R0 := R0.gr g1
  replace R1 := R1.gr g1
  replace R2 := R2.gr g1
  replace R3 := R3.gr g1
  clear gu g1
  go_wp2_with fail
  refine wp_region_held_drew (S := fun _ => True) rfl trivial (fun hS => ?_)
  refine wpAnyH_take (i := 0) (v := ?_) rfl (by kernel_rfl) (by kernel_rfl) (by kernel_rfl) (fun _ _ _ h => h) (Or.inl ⟨by rfl, ?_⟩) (by assumption) ?_
  rotate_left
  · (intro w hSw; (try dsimp only at hSw); go_split_ands; go_simp; try with_reducible rfl)
  try simp only [Act.put, List.setIfInBounds_toArray, List.set_cons_zero, List.set_cons_succ, List.getElem_toArray, List.getElem_cons_zero]
  refine wpAnyH_ready (rs := [1]) (by kernel_rfl) (by simp) ?_
  refine AllReadyH.cons rfl (fun K hK => ?_) AllReadyH.nil
  go_simp
  have hV := RowAt.cxs (RowAt.of4 (f := f) (R0.drewN 1)) 0 4 4 (by omega) (by omega) (by unfold maxLen; omega)
  go_at_call 33
  refine (HN.out _ _ hV).mono ?_
  rintro e u2 ⟨rfl, g2⟩
  have x2 := ((Gr.refl u1).drew).trans g2
  refine hK.out _ _ ?_ (fun hHeld => ?_)
  · (trivial)
  clear hK K
  try simp only [Act.put, List.setIfInBounds_toArray, List.set_cons_zero, List.set_cons_succ, List.getElem_toArray, List.getElem_cons_zero, List.getElem_cons_succ]
  refine wpAnyH_take (i := 2) (v := ?_) rfl (by kernel_rfl) (by kernel_rfl) (by kernel_rfl) (fun _ _ _ h => h) (Or.inl ⟨by rfl, ?_⟩) (by assumption) ?_
  rotate_left
  · (intro w hSw; (try dsimp only at hSw); go_split_ands; go_simp; try with_reducible rfl)
  try simp only [Act.put, List.setIfInBounds_toArray, List.set_cons_zero, List.set_cons_succ, List.getElem_toArray, List.getElem_cons_zero, List.getElem_cons_succ]
  refine wpAnyH_take (i := 3) (v := ?_) rfl (by kernel_rfl) (by kernel_rfl) (by kernel_rfl) (fun _ _ _ h => h) (Or.inl ⟨by rfl, ?_⟩) (by assumption) ?_
  rotate_left
  · (intro w hSw; (try dsimp only at hSw); go_split_ands; go_simp; try with_reducible rfl)
  try simp only [Act.put, List.setIfInBounds_toArray, List.set_cons_zero, List.set_cons_succ, List.getElem_toArray, List.getElem_cons_zero, List.getElem_cons_succ]
  refine wpAnyH_take (i := 4) (v := ?_) rfl (by kernel_rfl) (by kernel_rfl) (by kernel_rfl) (fun _ _ _ h => h) (Or.inl ⟨by rfl, ?_⟩) (by assumption) ?_
  rotate_left
  · (intro w hSw; (try dsimp only at hSw); go_split_ands; go_simp; try with_reducible rfl)
  try simp only [Act.put, List.setIfInBounds_toArray, List.set_cons_zero, List.set_cons_succ, List.getElem_toArray, List.getElem_cons_zero, List.getElem_cons_succ]
  refine wpAnyH_take (i := 5) (v := ?_) rfl (by kernel_rfl) (by kernel_rfl) (by kernel_rfl) (fun _ _ _ h => h) (Or.inl ⟨by rfl, ?_⟩) (by assumption) ?_
  rotate_left
  · (intro w hSw; (try dsimp only at hSw); go_split_ands; go_simp; try with_reducible rfl)
  try simp only [Act.put, List.setIfInBounds_toArray, List.set_cons_zero, List.set_cons_succ, List.getElem_toArray, List.getElem_cons_zero, List.getElem_cons_succ]
  refine wpAnyH_take (i := 6) (v := ?_) rfl (by kernel_rfl) (by kernel_rfl) (by kernel_rfl) (fun _ _ _ h => h) (Or.inl ⟨by rfl, ?_⟩) (by assumption) ?_
  rotate_left
  · (intro w hSw; (try dsimp only at hSw); go_split_ands; go_simp; try with_reducible rfl)
  try simp only [Act.put, List.setIfInBounds_toArray, List.set_cons_zero, List.set_cons_succ, List.getElem_toArray, List.getElem_cons_zero, List.getElem_cons_succ]
  refine wpAnyH_ready (rs := [7]) (by kernel_rfl) (by simp) ?_
  refine AllReadyH.cons rfl (fun K hK => ?_) AllReadyH.nil
  go_simp
  have hV2 := RowAt.cxs (RowAt.of4 (f := g) (R1.gr x2)) 1 3 3 (by omega) (by omega) (by unfold maxLen; omega)
  go_at_call 33
  refine (HR.out _ _ hV2).mono ?_
  rintro e u3 ⟨rfl, g3⟩
  have x3 := x2.trans g3
  refine hK.out _ _ ?_ (fun hHeld => ?_)
  · (trivial)
  clear hK K
  try simp only [Act.put, List.setIfInBounds_toArray, List.set_cons_zero, List.set_cons_succ, List.getElem_toArray, List.getElem_cons_zero, List.getElem_cons_succ]
  refine wpAnyH_take (i := 8) (v := ?_) rfl (by kernel_rfl) (by kernel_rfl) (by kernel_rfl) (fun _ _ _ h => h) (Or.inl ⟨by rfl, ?_⟩) (by assumption) ?_
  rotate_left
  · (intro w hSw; (try dsimp only at hSw); go_split_ands; go_simp; try with_reducible rfl)
  try simp only [Act.put, List.setIfInBounds_toArray, List.set_cons_zero, List.set_cons_succ, List.getElem_toArray, List.getElem_cons_zero, List.getElem_cons_succ]
  refine wpAnyH_take (i := 9) (v := ?_) rfl (by kernel_rfl) (by kernel_rfl) (by kernel_rfl) (fun _ _ _ h => h) (Or.inl ⟨by rfl, ?_⟩) (by assumption) ?_
  rotate_left
  · (intro w hSw; (try dsimp only at hSw); go_split_ands; go_simp; try with_reducible rfl)
  try simp only [Act.put, List.setIfInBounds_toArray, List.set_cons_zero, List.set_cons_succ, List.getElem_toArray, List.getElem_cons_zero, List.getElem_cons_succ]
  refine wpAnyH_done (by kernel_rfl) ?_ _
  have gz := gw.trans x3
  replace R0 := R0.gr x3
  replace R1 := R1.gr x3
  replace R2 := R2.gr x3
  replace R3 := R3.gr x3
  clear gw x3 hS
  have c0 := R3.cell 0
  have c1 := R3.cell 1
  have c2 := R3.cell 2
  have c3 := R3.cell 3
  simp only [List.getElem?_toArray, List.getElem?_cons_zero, List.getElem?_cons_succ] at c0 c1 c2 c3
  go_wp2_with (first | (refine wpList_load_row rfl 40 _ rfl (w.heap.size) rfl 40 _ (0, 0) _ R0 Try.underlying40 rfl (by kernel_rfl) ?_) | (refine wpList_load_row rfl 40 _ rfl (w.heap.size + 1) rfl 40 _ (0, 0) _ R1 Try.underlying40 rfl (by kernel_rfl) ?_))
  refine (HA.out _).mono ?_
  rintro e u4 ⟨rfl, g4⟩
  replace R2 := R2.gr g4
  replace gz := gz.trans g4
  clear g4 R0 R1 R3 c0 c1 c2 c3
  go_wp2_with (refine wpList_store_row rfl 40 _ _ rfl (w.heap.size + 1 + 1) _ rfl rfl 40 _ R2 (by kernel_rfl) (by kernel_rfl) (by kernel_rfl) ?_)
  have R4 := R2.setRow #[.int .i64 (V 0).re, .int .i64 (V 0).im, .int .i64 (V 1).re, .int .i64 (V 1).im, .int .i64 (V 2).re, .int .i64 (V 2).im, .int .i64 (V 3).re, .int .i64 (V 3).im]
  refine bodyPost_ret (v := .tuple #[.agg #[.int .i64 (V 0).re, .int .i64 (V 0).im, .int .i64 (V 1).re, .int .i64 (V 1).im, .int .i64 (V 2).re, .int .i64 (V 2).im, .int .i64 (V 3).re, .int .i64 (V 3).im], .int .i64 0]) ?_ rfl ⟨rfl, gz.setRow (by omega) _⟩
  have hld := run_loadVar_row (P := Try.prog) _ (w.heap.size + 1 + 1) 40 40 _ (0, 0) _ R4 Try.underlying40 rfl (by kernel_rfl)
  simp [results, Try.f17, asAddr, hld]

end Go.Proofs.Ytomjldaonpjloaa
