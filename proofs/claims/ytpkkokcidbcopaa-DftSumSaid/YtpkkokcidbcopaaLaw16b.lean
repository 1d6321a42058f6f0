/- What DftTurns and DftSum say, over what package dft answers. -/
import Derived.Test.YtpkkokcidbcopaaLaw16
import Derived.Test.YtpkkokcidbcopaaMax4
namespace Go.Proofs.Ytpkkokcidbcopaa
open Go.ChangeShapes Go.WideShapes Go.ChangeAt Go.RowKit
set_option linter.unusedVariables false
set_option linter.unusedSimpArgs false
set_option maxRecDepth 100000

set_option maxHeartbeats 4000000 in
theorem dftTurns_no (p : Option Addr) (l1 cap1 m1 : Nat) (xs : List Gi) (hm1 : m1 ≤ cap1) (hmin1 : (if (70 : Int) < (l1 : Int) then 70 else (l1 : Int)) = (m1 : Int)) (a1 r y : Int) (hr : a1.tmod 1099511627776 = r) (hy : ¬ y = 0) (hyb : (y == 0) = false) (HB : Hid (∀ W, CxsAt W (.slice p m1 cap1) xs → Calls Try.prog 5 #[.slice p m1 cap1, .int .i64 r, .bool false] W fun e w' => e = .returned (.tuple #[.agg #[.int .i64 0, .int .i64 0], .int .i64 y]) ∧ Gr W w')) (AL : Hid (∀ W, Calls Try.prog 6 #[] W fun e w' => e = .returned (.bool true) ∧ Gr W w')) (w : World) (hx : CxsAt w (.slice p m1 cap1) xs) :
    Calls Try.prog 3 #[.slice p l1 cap1, .int .i64 a1] w fun e w' => e = .returned (.bool true) ∧ Gr w w' := by
  have hcut1 := run_cut_cx p l1 cap1 m1 hm1
  have he := fun W => cx_equal 0 0 W
  have VX := Lib.hid hx
  clear hx
  go_enter Try.func3, Try.ntmps3
  go_wp2_with fail
  refine (HB.out _ VX.out).mono ?_
  rintro e w1 ⟨rfl, g1⟩
  have z1 := (Gr.refl w).trans g1
  clear g1
  go_wp2_with fail
  obtain ⟨u2, hqp1⟩ : ∃ zz, zz = (w1.alloc (.cells #[.int .i64 0, .int .i64 0] 24)) := ⟨_, rfl⟩
  have Yb_p1 : CellsAt u2 (w1.heap.size) 24 #[.int .i64 0, .int .i64 0] := by rw [hqp1]; first | exact CellsAt.new w1 24 #[.int .i64 0, .int .i64 0] | simpa using CellsAt.new w1 24 #[.int .i64 0, .int .i64 0]
  have yp1 : Gr w u2 := by rw [hqp1]; exact (z1).alloc _ _
  rw [← hqp1]
  clear hqp1
  refine (AL.out _).mono ?_
  rintro e w2 ⟨rfl, g2⟩
  have Fb_2 := CellsAt.gr (Yb_p1) g2
  have lb_2 := CellsAt.lt (Fb_2)
  have z2 := (yp1).trans g2
  clear Yb_p1 yp1 g2
  have cb0 := CellsAt.cell (Fb_2) 0
  have cb1 := CellsAt.cell (Fb_2) 1
  simp only [List.getElem?_toArray, List.getElem?_cons_zero, List.getElem?_cons_succ] at cb0 cb1
  go_wp2_with fail
  clear cb0 cb1
  go_ret
  exact ⟨by first | rfl | (simp; done), z2⟩

set_option maxHeartbeats 8000000 in
theorem dftTurns_yes (p : Option Addr) (l1 cap1 m1 : Nat) (xs : List Gi) (hm1 : m1 ≤ cap1) (hmin1 : (if (70 : Int) < (l1 : Int) then 70 else (l1 : Int)) = (m1 : Int)) (hxn : xs.length = m1) (hm0 : 0 < m1) (hm64 : m1 ≤ 64) (a1 r ra rb : Int) (b z : Gi) (S : Nat → Gi) (hr : a1.tmod 1099511627776 = r) (hra : wrap64 (r + (m1 : Int)) = ra) (hrb : wrap64 (-r) = rb) (HB : Hid (∀ W, CxsAt W (.slice p m1 cap1) xs → Calls Try.prog 5 #[.slice p m1 cap1, .int .i64 r, .bool false] W fun e w' => e = .returned (.tuple #[.agg #[.int .i64 (b).re, .int .i64 (b).im], .int .i64 0]) ∧ Gr W w'))
    (HA : Hid (∀ W, CxsAt W (.slice p m1 cap1) xs → Calls Try.prog 5 #[.slice p m1 cap1, .int .i64 ra, .bool false] W fun e w' => e = .returned (.tuple #[.agg #[.int .i64 (b).re, .int .i64 (b).im], .int .i64 0]) ∧ Gr W w')) (HK : Hid (∀ W, CxsAt W (.slice p m1 cap1) xs → Calls Try.prog 5 #[.slice p m1 cap1, .int .i64 rb, .bool true] W fun e w' => e = .returned (.tuple #[.agg #[.int .i64 (b).re, .int .i64 (b).im], .int .i64 0]) ∧ Gr W w')) (HZ : Hid (∀ W, CxsAt W (.slice p m1 cap1) xs → Calls Try.prog 5 #[.slice p m1 cap1, .int .i64 0, .bool false] W fun e w' => e = .returned (.tuple #[.agg #[.int .i64 (z).re, .int .i64 (z).im], .int .i64 0]) ∧ Gr W w'))
    (hS0 : S 0 = ⟨0, 0⟩) (HS : Hid (∀ j x, xs[j]? = some x → wrap64 ((S j).re + x.re) = (S (j + 1)).re ∧ wrap64 ((S j).im + x.im) = (S (j + 1)).im)) (HE : Hid (wrap64 ((S m1).re * 256) = z.re ∧ wrap64 ((S m1).im * 256) = z.im)) (AL : Hid (∀ W, Calls Try.prog 6 #[] W fun e w' => e = .returned (.bool true) ∧ Gr W w')) (w : World) (hx : CxsAt w (.slice p m1 cap1) xs) :
    Calls Try.prog 3 #[.slice p l1 cap1, .int .i64 a1] w fun e w' => e = .returned (.bool true) ∧ Gr w w' := by
  have hcut1 := run_cut_cx p l1 cap1 m1 hm1
  have he := fun W => cx_equal b.re b.im W
  have hez := fun W => cx_equal z.re z.im W
  obtain ⟨bb, oo, cc, hsl, hlen, hbb, hc⟩ := hx.at (by intro e; rw [e] at hxn; simp at hxn; omega)
  rw [hxn] at hsl
  cases hsl
  have HC := Lib.hid hc
  have HX := Lib.hid hxn
  have VX := Lib.hid hx
  have HRA := Lib.hid (And.intro hra hrb)
  have HM := Lib.hid (And.intro hm0 hm64)
  clear hx hc hlen hxn hra hrb hm0 hm64
  go_enter Try.func3, Try.ntmps3
  go_wp2_with fail
  clear hr
  refine (HB.out _ VX.out).mono ?_
  rintro e w1 ⟨rfl, g1⟩
  have z1 := (Gr.refl w).trans g1
  clear g1
  have hsw := Gr.size (z1)
  obtain ⟨hra, hrb⟩ := HRA.out
  go_wp2_with fail
  refine (HA.out _ (VX.out.gr ((z1).alloc _ _))).mono ?_
  rintro e w2 ⟨rfl, g2⟩
  have Fb_2 := CellsAt.gr (CellsAt.new w1 24 #[.int .i64 (b).re, .int .i64 (b).im]) g2
  have lb_2 := CellsAt.lt (Fb_2)
  have z2 := ((z1).alloc _ _).trans g2
  clear g2
  go_wp2_with fail
  refine (HK.out _ (VX.out.gr ((z2).alloc _ _))).mono ?_
  rintro e w3 ⟨rfl, g3⟩
  have Fb_3 := CellsAt.gr ((Fb_2).alloc _) g3
  have lb_3 := CellsAt.lt (Fb_3)
  have Fg_3 := CellsAt.gr (CellsAt.new w2 24 #[.int .i64 (b).re, .int .i64 (b).im]) g3
  have lg_3 := CellsAt.lt (Fg_3)
  have z3 := ((z2).alloc _ _).trans g3
  clear g3
  go_wp2_with fail
  refine (HZ.out _ (VX.out.gr ((z3).alloc _ _))).mono ?_
  rintro e w4 ⟨rfl, g4⟩
  have Fb_4 := CellsAt.gr ((Fb_3).alloc _) g4
  have lb_4 := CellsAt.lt (Fb_4)
  have Fg_4 := CellsAt.gr ((Fg_3).alloc _) g4
  have lg_4 := CellsAt.lt (Fg_4)
  have Fk_4 := CellsAt.gr (CellsAt.new w3 24 #[.int .i64 (b).re, .int .i64 (b).im]) g4
  have lk_4 := CellsAt.lt (Fk_4)
  have z4 := ((z3).alloc _ _).trans g4
  clear g4
  go_wp2_with fail
  obtain ⟨u5, hqp1⟩ : ∃ zz, zz = ((w4.alloc (.cells #[.int .i64 (z).re, .int .i64 (z).im] 24)).alloc (.cells #[.int .i64 0, .int .i64 0] 24)) := ⟨_, rfl⟩
  have Yb_p1 : CellsAt u5 (w1.heap.size) 24 #[.int .i64 (b).re, .int .i64 (b).im] := by rw [hqp1]; first | exact ((Fb_4).alloc _).alloc _ | simpa using ((Fb_4).alloc _).alloc _
  have Yg_p1 : CellsAt u5 (w2.heap.size) 24 #[.int .i64 (b).re, .int .i64 (b).im] := by rw [hqp1]; first | exact ((Fg_4).alloc _).alloc _ | simpa using ((Fg_4).alloc _).alloc _
  have Yk_p1 : CellsAt u5 (w3.heap.size) 24 #[.int .i64 (b).re, .int .i64 (b).im] := by rw [hqp1]; first | exact ((Fk_4).alloc _).alloc _ | simpa using ((Fk_4).alloc _).alloc _
  have Yz_p1 : CellsAt u5 (w4.heap.size) 24 #[.int .i64 (z).re, .int .i64 (z).im] := by rw [hqp1]; first | exact (CellsAt.new w4 24 #[.int .i64 (z).re, .int .i64 (z).im]).alloc _ | simpa using (CellsAt.new w4 24 #[.int .i64 (z).re, .int .i64 (z).im]).alloc _
  have Ys_p1 : CellsAt u5 (w4.heap.size + 1) 24 #[.int .i64 0, .int .i64 0] := by rw [hqp1]; first | exact CellsAt.newAt (w4.alloc (.cells #[.int .i64 (z).re, .int .i64 (z).im] 24)) 24 #[.int .i64 0, .int .i64 0] (B := w4.heap.size + 1) (by simp) | simpa using CellsAt.newAt (w4.alloc (.cells #[.int .i64 (z).re, .int .i64 (z).im] 24)) 24 #[.int .i64 0, .int .i64 0] (B := w4.heap.size + 1) (by simp)
  have yp1 : Gr w u5 := by rw [hqp1]; exact ((z4).alloc _ _).alloc _ _
  rw [← hqp1]
  clear hqp1
  clear HB HA HK HZ hra hrb hcut1 HRA
  go_loopw [16, 62] (fun _ i wr => ∃ j : Nat, j ≤ m1 ∧ i = .int .i64 j ∧ CellsAt wr (w1.heap.size) 24 #[.int .i64 (b).re, .int .i64 (b).im] ∧ CellsAt wr (w2.heap.size) 24 #[.int .i64 (b).re, .int .i64 (b).im] ∧ CellsAt wr (w3.heap.size) 24 #[.int .i64 (b).re, .int .i64 (b).im] ∧ CellsAt wr (w4.heap.size) 24 #[.int .i64 (z).re, .int .i64 (z).im] ∧ CellsAt wr (w4.heap.size + 1) 24 #[.int .i64 (S j).re, .int .i64 (S j).im] ∧ Gr w wr) (fun _ i _ => m1 - (intOf i).toNat)
  case atStart => exact ⟨0, by omega, rfl, Yb_p1, Yg_p1, Yk_p1, Yz_p1, by rw [hS0]; exact Ys_p1, yp1⟩
  case round =>
    obtain ⟨j, hj, rfl, Bb, Bg, Bk, Bz, Bs, hg⟩ := hrel
    clear Yb_p1 Yg_p1 Yk_p1 Yz_p1 Ys_p1 yp1 hS0
    by_cases hlt : j < m1
    · have hjI : (j : Int) < (m1 : Int) := by omega
      obtain ⟨x, hx⟩ := get_of_lt (xs := xs) (by rw [HX.out]; exact hlt)
      have h1 := (hg.cell (p := ⟨bb, oo + j * 2, none⟩) hbb).trans (HC.out j x hx).1
      have h2 := (hg.cell (p := ⟨bb, oo + j * 2 + 1, none⟩) hbb).trans (HC.out j x hx).2
      have hbl : bb < wr.heap.size := Nat.lt_of_lt_of_le hbb hg.size
      obtain ⟨e1, e2⟩ := HS.out j x hx
      obtain ⟨s1, hs1⟩ : ∃ z, S (j + 1) = z := ⟨_, rfl⟩
      rw [hs1] at e1 e2
      have HZ1 := Lib.hid hs1
      clear hs1 hx HS HE HC HX VX he hez
      generalize S j = s0 at *
      obtain ⟨re, im⟩ := x
      simp only at h1 h2 e1 e2
      have lb := CellsAt.lt Bb
      have lg := CellsAt.lt Bg
      have lk := CellsAt.lt Bk
      have lz := CellsAt.lt Bz
      have ls := CellsAt.lt Bs
      have cs0 := CellsAt.cell (Bs) 0
      have cs1 := CellsAt.cell (Bs) 1
      simp only [List.getElem?_toArray, List.getElem?_cons_zero, List.getElem?_cons_succ] at cs0 cs1
      have ms0 := CellsAt.frozen (Bs) 0
      have ms1 := CellsAt.frozen (Bs) 1
      go_wp2_with fail
      clear cs0 cs1 ms0 ms1
      go_roundw
      case rel => exact ⟨j + 1, by omega, by go_num, (((Bb).other (by omega) _ _).other (by omega) _ _).alloc _, (((Bg).other (by omega) _ _).other (by omega) _ _).alloc _, (((Bk).other (by omega) _ _).other (by omega) _ _).alloc _, (((Bz).other (by omega) _ _).other (by omega) _ _).alloc _, by rw [HZ1.out]; exact (CellsAt.set2 (Bs) _ _).alloc _, (((hg).setCell (by first | omega | (simp only; omega)) _).setCell (by first | omega | (simp only; omega)) _).alloc _ _⟩
      case measure => simp [intOf]; omega
    · obtain rfl : j = m1 := by omega
      have hjI : ¬ (j : Int) < (j : Int) := by omega
      obtain ⟨e1, e2⟩ := HE.out
      clear HS HE HC HX VX
      generalize S j = s0 at *
      have lb := CellsAt.lt Bb
      have lg := CellsAt.lt Bg
      have lk := CellsAt.lt Bk
      have lz := CellsAt.lt Bz
      have ls := CellsAt.lt Bs
      go_wp2_with fail
      refine (AL.out _).mono ?_
      rintro e we1 ⟨rfl, ge1⟩
      have Fb_e1 := CellsAt.gr (Bb) ge1
      have lb_e1 := CellsAt.lt (Fb_e1)
      have Fg_e1 := CellsAt.gr (Bg) ge1
      have lg_e1 := CellsAt.lt (Fg_e1)
      have Fk_e1 := CellsAt.gr (Bk) ge1
      have lk_e1 := CellsAt.lt (Fk_e1)
      have Fz_e1 := CellsAt.gr (Bz) ge1
      have lz_e1 := CellsAt.lt (Fz_e1)
      have Fs_e1 := CellsAt.gr (Bs) ge1
      have ls_e1 := CellsAt.lt (Fs_e1)
      have ze1 := (hg).trans ge1
      clear Bb Bg Bk Bz Bs hg ge1
      have cb0 := CellsAt.cell (Fb_e1) 0
      have cb1 := CellsAt.cell (Fb_e1) 1
      have cg0 := CellsAt.cell (Fg_e1) 0
      have cg1 := CellsAt.cell (Fg_e1) 1
      have ck0 := CellsAt.cell (Fk_e1) 0
      have ck1 := CellsAt.cell (Fk_e1) 1
      have cz0 := CellsAt.cell (Fz_e1) 0
      have cz1 := CellsAt.cell (Fz_e1) 1
      have cs0 := CellsAt.cell (Fs_e1) 0
      have cs1 := CellsAt.cell (Fs_e1) 1
      simp only [List.getElem?_toArray, List.getElem?_cons_zero, List.getElem?_cons_succ] at cb0 cb1 cg0 cg1 ck0 ck1 cz0 cz1 cs0 cs1
      go_wp2_with fail
      clear cb0 cb1 cg0 cg1 ck0 ck1 cz0 cz1 cs0 cs1
      go_ret
      exact ⟨by first | rfl | (simp; done), ze1⟩

set_option maxHeartbeats 4000000 in
theorem dftSum_no (p : Option Addr) (l1 cap1 m1 : Nat) (xs : List Gi) (hm1 : m1 ≤ cap1) (hmin1 : (if (70 : Int) < (l1 : Int) then 70 else (l1 : Int)) = (m1 : Int)) (y : Int) (iv : Bool) (hy : ¬ y = 0) (hyb : (y == 0) = false) (HB : Hid (∀ W, CxsAt W (.slice p m1 cap1) xs → Calls Try.prog 7 #[.slice p m1 cap1, .bool iv] W fun e w' => e = .returned (.tuple #[.slice none 0 0, .int .i64 y]) ∧ Gr W w')) (HS : Hid (∀ W, CxsAt W (.slice p m1 cap1) xs → Calls Try.prog 8 #[.slice p m1 cap1] W fun e w' => e = .returned (.tuple #[.int .i64 0, .int .i64 y]) ∧ Gr W w')) (AL : Hid (∀ W, Calls Try.prog 6 #[] W fun e w' => e = .returned (.bool true) ∧ Gr W w')) (w : World) (hx : CxsAt w (.slice p m1 cap1) xs) :
    Calls Try.prog 4 #[.slice p l1 cap1, .bool iv] w fun e w' => e = .returned (.bool true) ∧ Gr w w' := by
  have hcut1 := run_cut_cx p l1 cap1 m1 hm1
  have VX := Lib.hid hx
  clear hx
  go_enter Try.func4, Try.ntmps4
  go_wp2_with fail
  refine (HB.out _ VX.out).mono ?_
  rintro e w1 ⟨rfl, g1⟩
  have z1 := (Gr.refl w).trans g1
  clear g1
  go_wp2_with fail
  refine (HS.out _ (VX.out.gr z1)).mono ?_
  rintro e w2 ⟨rfl, g2⟩
  have z2 := (z1).trans g2
  clear z1 g2
  go_wp2_with fail
  refine (AL.out _).mono ?_
  rintro e w3 ⟨rfl, g3⟩
  have z3 := (z2).trans g3
  clear z2 g3
  go_wp2_with fail
  go_ret
  exact ⟨by first | rfl | (simp; done), z3⟩

set_option maxHeartbeats 8000000 in
theorem dftSum_yes (p : Option Addr) (l1 cap1 m1 : Nat) (xs : List Gi) (hm1 : m1 ≤ cap1) (hmin1 : (if (70 : Int) < (l1 : Int) then 70 else (l1 : Int)) = (m1 : Int)) (hxn : xs.length = m1) (hm0 : 0 < m1) (hm64 : m1 ≤ 64) (iv : Bool) (s M N : Int) (bs : List Gi) (hbn : bs.length = m1) (x0 : Gi) (hx0 : xs[0]? = some x0) (S : Nat → Gi) (n1 n2 p1 p2 : Int) (HB : Hid (∀ W, CxsAt W (.slice p m1 cap1) xs → Calls Try.prog 7 #[.slice p m1 cap1, .bool iv] W fun e w' => ∃ v, e = .returned (.tuple #[v, .int .i64 0]) ∧ CxsAt w' v bs ∧ Gr W w')) (HS : Hid (∀ W, CxsAt W (.slice p m1 cap1) xs → Calls Try.prog 8 #[.slice p m1 cap1] W fun e w' => e = .returned (.tuple #[.int .i64 s, .int .i64 0]) ∧ Gr W w'))
    (HO : Hid (∀ j x, bs[j]? = some x → ∀ W, CxsAt W (.slice p m1 cap1) xs → Calls Try.prog 5 #[.slice p m1 cap1, .int .i64 (j : Nat), .bool iv] W fun e w' => e = .returned (.tuple #[.agg #[.int .i64 (x).re, .int .i64 (x).im], .int .i64 0]) ∧ Gr W w'))
    (HF : Hid (IntKind.i64.wrap (-x0.re) = n1 ∧ IntKind.i64.wrap (-x0.im) = n2 ∧ IntKind.i64.wrap (n1 * (m1 : Int)) = p1 ∧ IntKind.i64.wrap (n2 * (m1 : Int)) = p2 ∧ IntKind.i64.wrap (p1 * 256) = (S 0).re ∧ IntKind.i64.wrap (p2 * 256) = (S 0).im))
    (HA : Hid (∀ j x, bs[j]? = some x → IntKind.i64.wrap ((S j).re + x.re) = (S (j + 1)).re ∧ IntKind.i64.wrap ((S j).im + x.im) = (S (j + 1)).im)) (HN : Hid (wrap64 (-(S m1).re) = -(S m1).re ∧ wrap64 (-(S m1).im) = -(S m1).im ∧ wrap64 (s * (m1 : Int)) = M))
    (hmax : (if -(S m1).im > (if (S m1).im > (if -(S m1).re > (S m1).re then -(S m1).re else (S m1).re) then (S m1).im else (if -(S m1).re > (S m1).re then -(S m1).re else (S m1).re)) then -(S m1).im else (if (S m1).im > (if -(S m1).re > (S m1).re then -(S m1).re else (S m1).re) then (S m1).im else (if -(S m1).re > (S m1).re then -(S m1).re else (S m1).re))) = N) (hle : N ≤ M) (AL : Hid (∀ W, Calls Try.prog 6 #[] W fun e w' => e = .returned (.bool true) ∧ Gr W w')) (w : World) (hx : CxsAt w (.slice p m1 cap1) xs) :
    Calls Try.prog 4 #[.slice p l1 cap1, .bool iv] w fun e w' => e = .returned (.bool true) ∧ Gr w w' := by
  have hcut1 := run_cut_cx p l1 cap1 m1 hm1
  obtain ⟨bb, oo, cc, hsl, hlen, hbb, hc⟩ := hx.at (by intro e; rw [e] at hxn; simp at hxn; omega)
  rw [hxn] at hsl
  cases hsl
  have HC := Lib.hid hc
  have HX0 := Lib.hid hx0
  have VX := Lib.hid hx
  have HM := Lib.hid (And.intro hmax hle)
  have HMM := Lib.hid (And.intro hm0 hm64)
  have HBN := Lib.hid hbn
  clear hx hx0 hc hlen hxn hmax hle hm0 hm64 hbn
  go_enter Try.func4, Try.ntmps4
  go_wp2_with fail
  refine (HB.out _ VX.out).mono ?_
  rintro e w1 ⟨vb, rfl, hb, g1⟩
  have z1 := (Gr.refl w).trans g1
  clear g1
  obtain ⟨qb, qo, qc, rfl, hqlen, hqb, hqc⟩ := hb.at (by intro e; have h1 := HBN.out; have h2 := HMM.out; rw [e] at h1; simp at h1; omega)
  rw [HBN.out]
  have HQC := Lib.hid hqc
  clear hqc hqlen
  go_wp2_with fail
  refine (HS.out _ (VX.out.gr (z1))).mono ?_
  rintro e w2 ⟨rfl, g2⟩
  have Kb_2 := CxsAt.gr (hb) g2
  have z2 := (z1).trans g2
  clear z1 g2
  go_wp2_with fail
  refine (AL.out _).mono ?_
  rintro e w3 ⟨rfl, g3⟩
  have Kb_3 := CxsAt.gr (Kb_2) g3
  have z3 := (z2).trans g3
  clear z2 g3
  go_wp2_with fail
  obtain ⟨u4, hqp1⟩ : ∃ zz, zz = w3 := ⟨_, rfl⟩
  have Vb_p1 := Kb_3
  rw [← hqp1] at Vb_p1
  have yp1 : Gr w u4 := by rw [hqp1]; exact z3
  rw [← hqp1]
  clear hqp1
  have hx0 := HC.out 0 x0 HX0.out
  simp only [Nat.zero_mul, Nat.add_zero] at hx0
  obtain ⟨h10, h20⟩ := hx0
  have hbb4 : bb < u4.heap.size := Nat.lt_of_lt_of_le hbb (yp1).size
  obtain ⟨f1, f2, f3, f4, f5, f6⟩ := HF.out
  have hm0 := HMM.out.1
  have KS : ∀ W, Gr u4 W → (W.cell? ⟨bb, oo, none⟩ = some (.int .i64 x0.re) ∧ W.cell? ⟨bb, oo + 1, none⟩ = some (.int .i64 x0.im)) := fun W hG => ⟨((hG.cell (p := ⟨bb, oo, none⟩) hbb4).trans ((yp1).cell (p := ⟨bb, oo, none⟩) hbb)).trans h10, ((hG.cell (p := ⟨bb, oo + 1, none⟩) hbb4).trans ((yp1).cell (p := ⟨bb, oo + 1, none⟩) hbb)).trans h20⟩
  have hclG := gr_closed u4
  try simp only [List.append_eq, List.cons_append, List.nil_append]
  refine wp_region_grow (S := Gr u4) rfl (Gr.drew (Gr.refl _)) ?_
  refine wpG_take (i := 0) (v := ?_) hclG rfl (by kernel_rfl) (by kernel_rfl) (by kernel_rfl) (fun _ _ _ h => h) (by rfl) ?_ ?_
  rotate_left
  · (intro w' hSw; go_simp; try with_reducible rfl)
  try simp only [Act.put, List.setIfInBounds_toArray, List.set_cons_zero, List.set_cons_succ, List.getElem_toArray, List.getElem_cons_zero, List.getElem_cons_succ]
  refine wpG_take (i := 1) (v := ?_) hclG rfl (by kernel_rfl) (by kernel_rfl) (by kernel_rfl) (fun _ _ _ h => h) (by rfl) ?_ ?_
  rotate_left
  · (intro w' hSw; go_simp; try with_reducible rfl)
  try simp only [Act.put, List.setIfInBounds_toArray, List.set_cons_zero, List.set_cons_succ, List.getElem_toArray, List.getElem_cons_zero, List.getElem_cons_succ]
  refine wpG_take (i := 2) (v := ?_) hclG rfl (by kernel_rfl) (by kernel_rfl) (by kernel_rfl) (fun _ _ _ h => h) (by rfl) ?_ ?_
  rotate_left
  · (intro w' hSw; go_simp; try with_reducible rfl)
  try simp only [Act.put, List.setIfInBounds_toArray, List.set_cons_zero, List.set_cons_succ, List.getElem_toArray, List.getElem_cons_zero, List.getElem_cons_succ]
  refine wpG_take (i := 3) (v := ?_) hclG rfl (by kernel_rfl) (by kernel_rfl) (by kernel_rfl) (fun _ _ _ h => h) (by rfl) ?_ ?_
  rotate_left
  · (intro w' hSw; have hk := KS w' hSw; go_split_ands; go_simp; try with_reducible rfl)
  try simp only [Act.put, List.setIfInBounds_toArray, List.set_cons_zero, List.set_cons_succ, List.getElem_toArray, List.getElem_cons_zero, List.getElem_cons_succ]
  refine wpG_take (i := 4) (v := ?_) hclG rfl (by kernel_rfl) (by kernel_rfl) (by kernel_rfl) (fun _ _ _ h => h) (by rfl) ?_ ?_
  rotate_left
  · (intro w' hSw; go_simp; try with_reducible rfl)
  try simp only [Act.put, List.setIfInBounds_toArray, List.set_cons_zero, List.set_cons_succ, List.getElem_toArray, List.getElem_cons_zero, List.getElem_cons_succ]
  refine wpG_take (i := 5) (v := ?_) hclG rfl (by kernel_rfl) (by kernel_rfl) (by kernel_rfl) (fun _ _ _ h => h) (by rfl) ?_ ?_
  rotate_left
  · (intro w' hSw; go_simp; try with_reducible rfl)
  try simp only [Act.put, List.setIfInBounds_toArray, List.set_cons_zero, List.set_cons_succ, List.getElem_toArray, List.getElem_cons_zero, List.getElem_cons_succ]
  refine wpG_take (i := 6) (v := ?_) hclG rfl (by kernel_rfl) (by kernel_rfl) (by kernel_rfl) (fun _ _ _ h => h) (by rfl) ?_ ?_
  rotate_left
  · (intro w' hSw; go_simp; try with_reducible rfl)
  try simp only [Act.put, List.setIfInBounds_toArray, List.set_cons_zero, List.set_cons_succ, List.getElem_toArray, List.getElem_cons_zero, List.getElem_cons_succ]
  refine wpG_take (i := 7) (v := ?_) hclG rfl (by kernel_rfl) (by kernel_rfl) (by kernel_rfl) (fun _ _ _ h => h) (by rfl) ?_ ?_
  rotate_left
  · (intro w' hSw; go_simp; try with_reducible rfl)
  try simp only [Act.put, List.setIfInBounds_toArray, List.set_cons_zero, List.set_cons_succ, List.getElem_toArray, List.getElem_cons_zero, List.getElem_cons_succ]
  refine wpG_take (i := 8) (v := ?_) hclG rfl (by kernel_rfl) (by kernel_rfl) (by kernel_rfl) (fun _ _ _ h => h) (by rfl) ?_ ?_
  rotate_left
  · (intro w' hSw; go_simp; try with_reducible rfl)
  try simp only [Act.put, List.setIfInBounds_toArray, List.set_cons_zero, List.set_cons_succ, List.getElem_toArray, List.getElem_cons_zero, List.getElem_cons_succ]
  refine wpG_take (i := 9) (v := ?_) hclG rfl (by kernel_rfl) (by kernel_rfl) (by kernel_rfl) (fun _ _ _ h => h) (by rfl) ?_ ?_
  rotate_left
  · (intro w' hSw; go_simp; try with_reducible rfl)
  try simp only [Act.put, List.setIfInBounds_toArray, List.set_cons_zero, List.set_cons_succ, List.getElem_toArray, List.getElem_cons_zero, List.getElem_cons_succ]
  refine wpG_take (i := 10) (v := ?_) hclG rfl (by kernel_rfl) (by kernel_rfl) (by kernel_rfl) (fun _ _ _ h => h) (by rfl) ?_ ?_
  rotate_left
  · (intro w' hSw; go_simp; try with_reducible rfl)
  try simp only [Act.put, List.setIfInBounds_toArray, List.set_cons_zero, List.set_cons_succ, List.getElem_toArray, List.getElem_cons_zero, List.getElem_cons_succ]
  refine wpG_take (i := 11) (v := ?_) hclG rfl (by kernel_rfl) (by kernel_rfl) (by kernel_rfl) (fun _ _ _ h => h) (by rfl) ?_ ?_
  rotate_left
  · (intro w' hSw; go_simp; try with_reducible rfl)
  try simp only [Act.put, List.setIfInBounds_toArray, List.set_cons_zero, List.set_cons_succ, List.getElem_toArray, List.getElem_cons_zero, List.getElem_cons_succ]
  refine wpG_take (i := 12) (v := ?_) hclG rfl (by kernel_rfl) (by kernel_rfl) (by kernel_rfl) (fun _ _ _ h => h) (by rfl) ?_ ?_
  rotate_left
  · (intro w' hSw; have hk := KS w' hSw; go_split_ands; go_simp; try with_reducible rfl)
  try simp only [Act.put, List.setIfInBounds_toArray, List.set_cons_zero, List.set_cons_succ, List.getElem_toArray, List.getElem_cons_zero, List.getElem_cons_succ]
  refine wpG_take (i := 13) (v := ?_) hclG rfl (by kernel_rfl) (by kernel_rfl) (by kernel_rfl) (fun _ _ _ h => h) (by rfl) ?_ ?_
  rotate_left
  · (intro w' hSw; go_simp; try with_reducible rfl)
  try simp only [Act.put, List.setIfInBounds_toArray, List.set_cons_zero, List.set_cons_succ, List.getElem_toArray, List.getElem_cons_zero, List.getElem_cons_succ]
  refine wpG_take (i := 14) (v := ?_) hclG rfl (by kernel_rfl) (by kernel_rfl) (by kernel_rfl) (fun _ _ _ h => h) (by rfl) ?_ ?_
  rotate_left
  · (intro w' hSw; go_simp; try with_reducible rfl)
  try simp only [Act.put, List.setIfInBounds_toArray, List.set_cons_zero, List.set_cons_succ, List.getElem_toArray, List.getElem_cons_zero, List.getElem_cons_succ]
  refine wpG_take (i := 15) (v := ?_) hclG rfl (by kernel_rfl) (by kernel_rfl) (by kernel_rfl) (fun _ _ _ h => h) (by rfl) ?_ ?_
  rotate_left
  · (intro w' hSw; go_simp; try with_reducible rfl)
  try simp only [Act.put, List.setIfInBounds_toArray, List.set_cons_zero, List.set_cons_succ, List.getElem_toArray, List.getElem_cons_zero, List.getElem_cons_succ]
  refine wpG_take (i := 16) (v := ?_) hclG rfl (by kernel_rfl) (by kernel_rfl) (by kernel_rfl) (fun _ _ _ h => h) (by rfl) ?_ ?_
  rotate_left
  · (intro w' hSw; go_simp; try with_reducible rfl)
  try simp only [Act.put, List.setIfInBounds_toArray, List.set_cons_zero, List.set_cons_succ, List.getElem_toArray, List.getElem_cons_zero, List.getElem_cons_succ]
  refine wpG_take (i := 17) (v := ?_) hclG rfl (by kernel_rfl) (by kernel_rfl) (by kernel_rfl) (fun _ _ _ h => h) (by rfl) ?_ ?_
  rotate_left
  · (intro w' hSw; go_simp; try with_reducible rfl)
  try simp only [Act.put, List.setIfInBounds_toArray, List.set_cons_zero, List.set_cons_succ, List.getElem_toArray, List.getElem_cons_zero, List.getElem_cons_succ]
  refine wpG_take (i := 18) (v := ?_) hclG rfl (by kernel_rfl) (by kernel_rfl) (by kernel_rfl) (fun _ _ _ h => h) (by rfl) ?_ ?_
  rotate_left
  · (intro w' hSw; go_simp; try with_reducible rfl)
  try simp only [Act.put, List.setIfInBounds_toArray, List.set_cons_zero, List.set_cons_succ, List.getElem_toArray, List.getElem_cons_zero, List.getElem_cons_succ]
  refine wpG_take (i := 19) (v := ?_) hclG rfl (by kernel_rfl) (by kernel_rfl) (by kernel_rfl) (fun _ _ _ h => h) (by rfl) ?_ ?_
  rotate_left
  · (intro w' hSw; go_simp; try with_reducible rfl)
  try simp only [Act.put, List.setIfInBounds_toArray, List.set_cons_zero, List.set_cons_succ, List.getElem_toArray, List.getElem_cons_zero, List.getElem_cons_succ]
  refine wpG_done (by kernel_rfl) (fun w4 g4 => ?_) _
  replace g4 := (Gr.drew (Gr.refl u4)).trans g4
  have Kb_4 := CxsAt.gr (Vb_p1) g4
  have z4 := (yp1).trans g4
  clear yp1 g4
  clear hclG KS
  clear f1 f2 f3 f4 f5 f6 hm0
  go_wp2_with fail
  go_loopw [9, 10, 11, 12, 13, 14, 77] (fun t1 t2 _ _ _ _ i wr => ∃ j : Nat, j ≤ m1 ∧ i = .int .i64 j ∧ t1 = .int .i64 (S j).re ∧ t2 = .int .i64 (S j).im ∧ CxsAt wr (.slice (some ⟨qb, qo, none⟩) m1 qc) bs ∧ Gr w wr) (fun _ _ _ _ _ _ i _ => m1 - (intOf i).toNat)
  case atStart => exact ⟨0, by omega, rfl, rfl, rfl, by have hq := Kb_4; rw [HBN.out] at hq; exact hq, z4⟩
  case round =>
    obtain ⟨j, hj, rfl, rfl, rfl, hb, hg⟩ := hrel
    clear Kb_4 z4
    by_cases hlt : j < m1
    · have hjI : (j : Int) < (m1 : Int) := by omega
      obtain ⟨x, hx⟩ := get_of_lt (xs := bs) (by rw [HBN.out]; exact hlt)
      obtain ⟨h1, h2, hqr⟩ : wr.cell? ⟨qb, qo + j * 2, none⟩ = some (.int .i64 x.re) ∧ wr.cell? ⟨qb, qo + j * 2 + 1, none⟩ = some (.int .i64 x.im) ∧ qb < wr.heap.size := by
        obtain ⟨p', c', hv, _, _, hc⟩ := hb
        obtain ⟨b', o', hp, hlt', hc2⟩ := hc (by intro e; rw [e] at hx; simp at hx)
        subst hp
        cases hv
        exact ⟨(hc2 j x hx).1, (hc2 j x hx).2, hlt'⟩
      have HO1 := Lib.hid (HO.out j x hx)
      obtain ⟨e1, e2⟩ := HA.out j x hx
      obtain ⟨s1, hs1⟩ : ∃ z, S (j + 1) = z := ⟨_, rfl⟩
      rw [hs1] at e1 e2
      have HZ1 := Lib.hid hs1
      have he := fun W => cx_equal x.re x.im W
      clear hs1 hx HB HS HO HF HA HN HC HX0 HM HQC HBN HMM
      generalize S j = s0 at *
      obtain ⟨re, im⟩ := x
      simp only at h1 h2 e1 e2 HO1 he
      go_wp2_with fail
      obtain ⟨ra, hqrp1⟩ : ∃ zz, zz = (wr.alloc (.cells #[.int .i64 re, .int .i64 im] 24)) := ⟨_, rfl⟩
      have Ya_rp1 : CellsAt ra (wr.heap.size) 24 #[.int .i64 re, .int .i64 im] := by rw [hqrp1]; first | exact CellsAt.new wr 24 #[.int .i64 re, .int .i64 im] | simpa using CellsAt.new wr 24 #[.int .i64 re, .int .i64 im]
      have Vb_rp1 := (CxsAt.gr (hb) ((Gr.refl wr).alloc #[.int .i64 re, .int .i64 im] 24))
      rw [← hqrp1] at Vb_rp1
      have yrp1 : Gr w ra := by rw [hqrp1]; exact (hg).alloc _ _
      rw [← hqrp1]
      clear hqrp1
      refine (HO1.out _ (VX.out.gr (yrp1))).mono ?_
      rintro e wr1 ⟨rfl, gr1⟩
      have Fa_r1 := CellsAt.gr (Ya_rp1) gr1
      have la_r1 := CellsAt.lt (Fa_r1)
      have Kb_r1 := CxsAt.gr (Vb_rp1) gr1
      have zr1 := (yrp1).trans gr1
      clear Ya_rp1 yrp1 gr1
      have ca0 := CellsAt.cell (Fa_r1) 0
      have ca1 := CellsAt.cell (Fa_r1) 1
      simp only [List.getElem?_toArray, List.getElem?_cons_zero, List.getElem?_cons_succ] at ca0 ca1
      go_wp2_with fail
      clear ca0 ca1
      obtain ⟨rb, hqrp2⟩ : ∃ zz, zz = (wr1.alloc (.cells #[.int .i64 re, .int .i64 im] 24)) := ⟨_, rfl⟩
      have Ya_rp2 : CellsAt rb (wr.heap.size) 24 #[.int .i64 re, .int .i64 im] := by rw [hqrp2]; first | exact (Fa_r1).alloc _ | simpa using (Fa_r1).alloc _
      have Yo_rp2 : CellsAt rb (wr1.heap.size) 24 #[.int .i64 re, .int .i64 im] := by rw [hqrp2]; first | exact CellsAt.new wr1 24 #[.int .i64 re, .int .i64 im] | simpa using CellsAt.new wr1 24 #[.int .i64 re, .int .i64 im]
      have Vb_rp2 := (CxsAt.gr (Kb_r1) ((Gr.refl wr1).alloc #[.int .i64 re, .int .i64 im] 24))
      rw [← hqrp2] at Vb_rp2
      have yrp2 : Gr w rb := by rw [hqrp2]; exact (zr1).alloc _ _
      rw [← hqrp2]
      clear hqrp2
      have ca0 := CellsAt.cell (Ya_rp2) 0
      have ca1 := CellsAt.cell (Ya_rp2) 1
      have co0 := CellsAt.cell (Yo_rp2) 0
      have co1 := CellsAt.cell (Yo_rp2) 1
      simp only [List.getElem?_toArray, List.getElem?_cons_zero, List.getElem?_cons_succ] at ca0 ca1 co0 co1
      have KS : ∀ W, Gr rb W → (W.cell? ⟨wr.heap.size, 0, none⟩ = some (.int .i64 re) ∧ W.cell? ⟨wr.heap.size, 1, none⟩ = some (.int .i64 im)) := fun W hG => ⟨(CellsAt.gr Ya_rp2 hG).cell 0, (CellsAt.gr Ya_rp2 hG).cell 1⟩
      have hclG := gr_closed rb
      try simp only [List.append_eq, List.cons_append, List.nil_append]
      refine wp_region_grow (S := Gr rb) rfl (Gr.drew (Gr.refl _)) ?_
      refine wpG_take (i := 0) (v := ?_) hclG rfl (by kernel_rfl) (by kernel_rfl) (by kernel_rfl) (fun _ _ _ h => h) (by rfl) ?_ ?_
      rotate_left
      · (intro w' hSw; go_simp; try with_reducible rfl)
      try simp only [Act.put, List.setIfInBounds_toArray, List.set_cons_zero, List.set_cons_succ, List.getElem_toArray, List.getElem_cons_zero, List.getElem_cons_succ]
      refine wpG_take (i := 1) (v := ?_) hclG rfl (by kernel_rfl) (by kernel_rfl) (by kernel_rfl) (fun _ _ _ h => h) (by rfl) ?_ ?_
      rotate_left
      · (intro w' hSw; go_simp; try with_reducible rfl)
      try simp only [Act.put, List.setIfInBounds_toArray, List.set_cons_zero, List.set_cons_succ, List.getElem_toArray, List.getElem_cons_zero, List.getElem_cons_succ]
      refine wpG_take (i := 2) (v := ?_) hclG rfl (by kernel_rfl) (by kernel_rfl) (by kernel_rfl) (fun _ _ _ h => h) (by rfl) ?_ ?_
      rotate_left
      · (intro w' hSw; have hk := KS w' hSw; go_split_ands; go_simp; try with_reducible rfl)
      try simp only [Act.put, List.setIfInBounds_toArray, List.set_cons_zero, List.set_cons_succ, List.getElem_toArray, List.getElem_cons_zero, List.getElem_cons_succ]
      refine wpG_take (i := 3) (v := ?_) hclG rfl (by kernel_rfl) (by kernel_rfl) (by kernel_rfl) (fun _ _ _ h => h) (by rfl) ?_ ?_
      rotate_left
      · (intro w' hSw; go_simp; try with_reducible rfl)
      try simp only [Act.put, List.setIfInBounds_toArray, List.set_cons_zero, List.set_cons_succ, List.getElem_toArray, List.getElem_cons_zero, List.getElem_cons_succ]
      refine wpG_take (i := 4) (v := ?_) hclG rfl (by kernel_rfl) (by kernel_rfl) (by kernel_rfl) (fun _ _ _ h => h) (by rfl) ?_ ?_
      rotate_left
      · (intro w' hSw; go_simp; try with_reducible rfl)
      try simp only [Act.put, List.setIfInBounds_toArray, List.set_cons_zero, List.set_cons_succ, List.getElem_toArray, List.getElem_cons_zero, List.getElem_cons_succ]
      refine wpG_take (i := 5) (v := ?_) hclG rfl (by kernel_rfl) (by kernel_rfl) (by kernel_rfl) (fun _ _ _ h => h) (by rfl) ?_ ?_
      rotate_left
      · (intro w' hSw; go_simp; try with_reducible rfl)
      try simp only [Act.put, List.setIfInBounds_toArray, List.set_cons_zero, List.set_cons_succ, List.getElem_toArray, List.getElem_cons_zero, List.getElem_cons_succ]
      refine wpG_take (i := 6) (v := ?_) hclG rfl (by kernel_rfl) (by kernel_rfl) (by kernel_rfl) (fun _ _ _ h => h) (by rfl) ?_ ?_
      rotate_left
      · (intro w' hSw; have hk := KS w' hSw; go_split_ands; go_simp; try with_reducible rfl)
      try simp only [Act.put, List.setIfInBounds_toArray, List.set_cons_zero, List.set_cons_succ, List.getElem_toArray, List.getElem_cons_zero, List.getElem_cons_succ]
      refine wpG_take (i := 7) (v := ?_) hclG rfl (by kernel_rfl) (by kernel_rfl) (by kernel_rfl) (fun _ _ _ h => h) (by rfl) ?_ ?_
      rotate_left
      · (intro w' hSw; go_simp; try with_reducible rfl)
      try simp only [Act.put, List.setIfInBounds_toArray, List.set_cons_zero, List.set_cons_succ, List.getElem_toArray, List.getElem_cons_zero, List.getElem_cons_succ]
      refine wpG_take (i := 8) (v := ?_) hclG rfl (by kernel_rfl) (by kernel_rfl) (by kernel_rfl) (fun _ _ _ h => h) (by rfl) ?_ ?_
      rotate_left
      · (intro w' hSw; go_simp; try with_reducible rfl)
      try simp only [Act.put, List.setIfInBounds_toArray, List.set_cons_zero, List.set_cons_succ, List.getElem_toArray, List.getElem_cons_zero, List.getElem_cons_succ]
      refine wpG_take (i := 9) (v := ?_) hclG rfl (by kernel_rfl) (by kernel_rfl) (by kernel_rfl) (fun _ _ _ h => h) (by rfl) ?_ ?_
      rotate_left
      · (intro w' hSw; go_simp; try with_reducible rfl)
      try simp only [Act.put, List.setIfInBounds_toArray, List.set_cons_zero, List.set_cons_succ, List.getElem_toArray, List.getElem_cons_zero, List.getElem_cons_succ]
      refine wpG_done (by kernel_rfl) (fun wr2 gr2 => ?_) _
      replace gr2 := (Gr.drew (Gr.refl rb)).trans gr2
      have Fa_r2 := CellsAt.gr (Ya_rp2) gr2
      have la_r2 := CellsAt.lt (Fa_r2)
      have Fo_r2 := CellsAt.gr (Yo_rp2) gr2
      have lo_r2 := CellsAt.lt (Fo_r2)
      have Kb_r2 := CxsAt.gr (Vb_rp2) gr2
      have zr2 := (yrp2).trans gr2
      clear Ya_rp2 Yo_rp2 yrp2 gr2
      clear hclG KS
      go_wp2_with fail
      clear ca0 ca1 co0 co1
      go_roundw
      case rel => exact ⟨j + 1, by omega, by go_num, by rw [HZ1.out], by rw [HZ1.out], Kb_r2, zr2⟩
      case measure => simp [intOf]; omega
    · obtain rfl : j = m1 := by omega
      have hjI : ¬ (j : Int) < (j : Int) := by omega
      obtain ⟨e1, e2, e3⟩ := HN.out
      obtain ⟨hmax, hle⟩ := HM.out
      clear HB HS HO HF HA HN HC HX0 HM HQC VX HBN HMM
      generalize S j = s0 at *
      have hmx := fun ts t => run_max4 ts t s0.re (-s0.re) s0.im (-s0.im) N hmax
      clear hmax
      go_wp2_with fail
      go_ret
      exact ⟨by simp [hle], hg⟩

end Go.Proofs.Ytpkkokcidbcopaa
