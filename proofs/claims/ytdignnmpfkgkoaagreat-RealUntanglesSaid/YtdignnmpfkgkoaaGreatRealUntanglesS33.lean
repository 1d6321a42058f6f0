import Derived.Test.YtdignnmpfkgkoaaGreatRealUntanglesS21
import Derived.Test.YtdignnmpfkgkoaaGreatRealUntanglesS30
namespace Go.Proofs.YtdignnmpfkgkoaaGreat
section
open Go.ChangeShapes Go.WideShapes Go.ChangeAt Go.RowKit
set_option linter.unusedVariables false
set_option linter.unusedSimpArgs false
set_option maxRecDepth 100000
theorem sL_zero (bits : Nat) (mo : Int) (inv : Bool) (ws xs : List Gi) (h : xs.length = 1) : sL bits mo inv ws 0 xs = xs := by
 have := list_getD xs
 rw [h] at this
 unfold sL
 exact this.symm
theorem sL_one (bits : Nat) (mo : Int) (inv : Bool) (ws xs : List Gi) : sL bits mo inv ws 1 xs = [grnd 1 mo (gadd (xs.getD 0 ⟨0, 0⟩) (xs.getD 1 ⟨0, 0⟩)), grnd 1 mo (gsub (xs.getD 0 ⟨0, 0⟩) (xs.getD 1 ⟨0, 0⟩))] := by
 unfold sL
 rfl
theorem pick_len (xs : List Gi) (F S m : Nat) : ((List.range m).map (pick xs F S)).length = m := by simp
theorem Len.bd31 {R : Int} {bits : Nat} {a : Gi} (hb : bits ≤ 29) (h0 : 0 ≤ R) (h : R ≤ 3 * 2 ^ bits) (k : Len R a) : Bd 2147483648 a := by
 have := pow29 bits hb
 exact (k.bd h0).mono (by omega)
theorem len_units (k L n : Nat) (hL : k + 2 ≤ L) (hn : n = 2 ^ L) : n = 4 * 2 ^ k * 2 ^ (L - (k + 2)) ∧ n / 2 ^ (k + 2) = 2 ^ (L - (k + 2)) := by
 have e : 2 ^ (k + 2) = 4 * 2 ^ k := by rw [Nat.pow_succ, Nat.pow_succ]; omega
 have h : n = 2 ^ (k + 2) * 2 ^ (L - (k + 2)) := by rw [hn, ← Nat.pow_add]; congr 1; omega
 exact ⟨by rw [h, e], by rw [h]; exact Nat.mul_div_cancel_left _ (Nat.two_pow_pos _)⟩
theorem sTransform_c (bits : Nat) (mo : Int) (inv : Bool) (ws : List Gi) (L n : Nat) (hL : L ≤ 6) (hn : n = 2 ^ L) (lw : ws.length = n) (hb : bits ≤ 29) (m0 : 0 ≤ mo) (m1 : mo ≤ 2)
 (hW : ∀ k, Len (2 ^ bits + 2) (rootOf ws inv k)) (hWb : ∀ k, k < n → Bd (2 ^ bits) (ws.getD k ⟨0, 0⟩)) (R : Int) (hR : 0 ≤ R) (hRB : R + 30 ≤ 3 * 2 ^ bits) (pw : Option Addr) (cw : Nat) :
 ∀ (l : Nat), l ≤ L → ∀ (xs : List Gi) (px : Option Addr) (cx : Nat) (w : World), xs.length = 2 ^ l → (∀ j, j < 2 ^ l → Len R (xs.getD j ⟨0, 0⟩)) → CxsAt w (.slice px (2 ^ l : Nat) cx) xs → CxsAt w (.slice pw n cw) ws →
  Calls Tryz.prog 153 #[.agg #[.int .i64 bits, .int .i64 mo, .bool inv], .slice px (2 ^ l : Nat) cx, .slice pw n cw] w fun e w' => ∃ v, e = .returned v ∧ CxsAt w' v (sL bits mo inv ws l xs) ∧ Gr w w'
 | 0, _, xs, px, cx, w, hl, hx, vx, vw => by
   rw [sL_zero _ _ _ _ _ hl]
   exact sTrans_0 bits mo inv pw px n cw cx xs w vx
 | 1, _, xs, px, cx, w, hl, hx, vx, vw => by
   rw [sL_one]
   obtain ⟨b, o, cap, hv, _, hbl, hc⟩ := vx.at (by intro e; rw [e] at hl; simp at hl)
   rw [hl] at hv
   cases hv
   have k0 := CxsAt.getD (n := 0) (cap := 0) hc 0 (by omega)
   have k1 := CxsAt.getD (n := 0) (cap := 0) hc 1 (by omega)
   have b0 := Len.bd31 hb hR (by omega) (hx 0 (by omega))
   have b1 := Len.bd31 hb hR (by omega) (hx 1 (by omega))
   exact sTrans_1 bits mo inv pw b o n cw cx _ _ _ _ (Lib.hid (sHalved_c bits mo inv _ _ m0 m1 b0 b1)) w hbl (by simpa using k0.1) (by simpa using k0.2) (by simpa using k1.1) (by simpa using k1.2)
 | k + 2, hk, xs, px, cx, w, hl, hx, vx, vw => by
   have ih1 := sTransform_c bits mo inv ws L n hL hn lw hb m0 m1 hW hWb R hR hRB pw cw (k + 1) (by omega)
   have ih2 := sTransform_c bits mo inv ws L n hL hn lw hb m0 m1 hW hWb R hR hRB pw cw k (by omega)
   obtain ⟨hu, hdu⟩ := len_units k L n hk hn
   have hp6 : 2 ^ (k + 2) ≤ 64 := Nat.pow_le_pow_right (n := 2) (by omega) (show k + 2 ≤ 6 by omega)
   have hn6 : n ≤ 64 := by rw [hn]; exact Nat.pow_le_pow_right (n := 2) (by omega) hL
   have hp0 := Nat.two_pow_pos k
   have hu0 := Nat.two_pow_pos (L - (k + 2))
   have e1 : 2 ^ (k + 1) = 2 * 2 ^ k := by rw [Nat.pow_succ]; omega
   have e2 : 2 ^ (k + 2) = 4 * 2 ^ k := by rw [Nat.pow_succ, Nat.pow_succ]; omega
   obtain ⟨b, o, cap, hv, _, hbl, hc⟩ := vx.at (by intro e; rw [e] at hl; simp at hl; omega)
   rw [hl] at hv
   cases hv
   have hxe : ∀ j, j < 2 ^ (k + 1) → Len R (xs.getD (0 + 2 * j) ⟨0, 0⟩) := fun j hj => hx _ (by omega)
   have hxf : ∀ j, j < 2 ^ k → Len R (xs.getD (1 + 4 * j) ⟨0, 0⟩) := fun j hj => hx _ (by omega)
   have hxg : ∀ j, j < 2 ^ k → Len R (xs.getD (3 + 4 * j) ⟨0, 0⟩) := fun j hj => hx _ (by omega)
   have hm : mo = 0 ∨ mo = 1 ∨ mo = 2 := by omega
   have bE : ∀ j, j < 2 ^ (k + 1) → Bd 2147483648 ((sL bits mo inv ws (k + 1) ((List.range (2 ^ (k + 1))).map (pick xs 0 2))).getD j ⟨0, 0⟩) := fun j hj => by
    rw [sL_pick _ _ _ _ _ _ _ _ _ hj]
    exact Len.bd31 hb (by omega) (by omega) (spl_len bits mo inv _ _ hm hW (k + 1) R _ hR (by omega) hxe j hj)
   have bF : ∀ F j, j < 2 ^ k → (∀ j, j < 2 ^ k → Len R (xs.getD (F + 4 * j) ⟨0, 0⟩)) → Bd 2147483648 ((sL bits mo inv ws k ((List.range (2 ^ k)).map (pick xs F 4))).getD j ⟨0, 0⟩) := fun F j hj hh => by
    rw [sL_pick _ _ _ _ _ _ _ _ _ hj]
    exact Len.bd31 hb (by omega) (by omega) (spl_len bits mo inv _ _ hm hW k R _ hR (by omega) hh j hj)
   have hju : ∀ j, j < 2 ^ k → j * 2 ^ (L - (k + 2)) < n ∧ 3 * j * 2 ^ (L - (k + 2)) < n := by
    intro j hj
    have k1 : (j + 1) * 2 ^ (L - (k + 2)) ≤ 2 ^ k * 2 ^ (L - (k + 2)) := Nat.mul_le_mul_right _ hj
    rw [Nat.succ_mul] at k1
    rw [Nat.mul_assoc] at hu
    rw [Nat.mul_assoc]
    omega
   have rootB : ∀ i, i < n → Bd (2 ^ bits) (rootOf ws inv i) := by
    intro i hi
    have := hWb i hi
    unfold rootOf
    cases inv
    ·exact this
    ·have h := this.le
     exact Bd.mk (by simp only [if_true]; unfold Gi.conj; simp only; omega)
   have rootC : ∀ i, i < n → ∀ W, Calls Tryz.prog 198 #[.agg #[.int .i64 bits, .int .i64 mo, .bool inv], .agg #[.int .i64 (ws.getD i ⟨0, 0⟩).re, .int .i64 (ws.getD i ⟨0, 0⟩).im]] W fun e w' => e = .returned (.agg #[.int .i64 (rootOf ws inv i).re, .int .i64 (rootOf ws inv i).im]) ∧ Gr W w' := by
    intro i hi W
    have h := (hWb i hi).le
    have hp := pow29 bits hb
    exact sAsked_c bits mo (ws.getD i ⟨0, 0⟩) inv (by omega) W
   have := sTrans_2 bits mo inv pw b o n cw cx (2 ^ (k + 2)) (2 ^ k) (2 ^ (k + 1)) xs ws _ _ _ (sL bits mo inv ws (k + 2) xs) hl e2 e1 hp0 hp6
    (sL_len bits mo inv ws (k + 1) ((List.range (2 ^ (k + 1))).map (pick xs 0 2))) (sL_len bits mo inv ws k ((List.range (2 ^ k)).map (pick xs 1 4))) (sL_len bits mo inv ws k ((List.range (2 ^ k)).map (pick xs 3 4)))
    (Lib.hid fun px cx W h1 h2 => ih1 _ px cx W (pick_len _ _ _ _) (fun j hj => by rw [getD_map _ _ _ hj]; exact hxe j hj) h1 h2)
    (Lib.hid fun px cx W h1 h2 => ih2 _ px cx W (pick_len _ _ _ _) (fun j hj => by rw [getD_map _ _ _ hj]; exact hxf j hj) h1 h2)
    (Lib.hid fun px cx W h1 h2 => ih2 _ px cx W (pick_len _ _ _ _) (fun j hj => by rw [getD_map _ _ _ hj]; exact hxg j hj) h1 h2)
    (Lib.hid fun pe ce pf cf pg cg W h1 h2 h3 h4 => by
     rw [sL_two, lw, hdu]
     refine (fun (key : ∀ m2, m2 = 2 * 2 ^ k → CxsAt W (.slice pe m2 ce) (sL bits mo inv ws (k + 1) ((List.range (2 ^ (k + 1))).map (pick xs 0 2))) → Calls Tryz.prog 181 #[.agg #[.int .i64 bits, .int .i64 mo, .bool inv], .slice pe m2 ce, .slice pf (2 ^ k : Nat) cf, .slice pg (2 ^ k : Nat) cg, .slice pw n cw] W _) => key _ e1 h1) ?_
     intro m2 hm2 h1
     subst hm2
     exact sJoinAll_of bits mo inv pe pf pg pw ce cf cg cw _ _ _ ws (2 ^ k) (2 ^ (L - (k + 2))) n
      (fun j q => joinG bits mo inv q ((sL bits mo inv ws (k + 1) ((List.range (2 ^ (k + 1))).map (pick xs 0 2))).getD j ⟨0, 0⟩) ((sL bits mo inv ws (k + 1) ((List.range (2 ^ (k + 1))).map (pick xs 0 2))).getD (2 ^ k + j) ⟨0, 0⟩)
       ((sL bits mo inv ws k ((List.range (2 ^ k)).map (pick xs 1 4))).getD j ⟨0, 0⟩) ((sL bits mo inv ws k ((List.range (2 ^ k)).map (pick xs 3 4))).getD j ⟨0, 0⟩) (rootOf ws inv (j * 2 ^ (L - (k + 2)))) (rootOf ws inv (3 * j * 2 ^ (L - (k + 2)))))
      (fun j => rootOf ws inv (j * 2 ^ (L - (k + 2)))) (fun j => rootOf ws inv (3 * j * 2 ^ (L - (k + 2)))) hp0 hu0 hu hn6 ((sL_len _ _ _ _ _ _).trans e1) (sL_len _ _ _ _ _ _) (sL_len _ _ _ _ _ _) lw
      (Lib.hid fun j hj W => rootC _ (hju j hj).1 W) (Lib.hid fun j hj W => rootC _ (hju j hj).2 W)
      (Lib.hid fun j hj W => sJoined_c bits mo inv _ _ _ _ _ _ hb m0 m1 (bE j (by omega)) (bE (2 ^ k + j) (by omega)) (bF 1 j hj hxf) (bF 3 j hj hxg) (rootB _ (hju j hj).1) (rootB _ (hju j hj).2) W)
      W h1 h2 h3 h4)
    w hbl (fun j hj => CxsAt.getD (n := 0) (cap := 0) hc j (by omega)) vw
   exact this
end
section
set_option linter.unusedVariables false
set_option maxRecDepth 100000
theorem root_len (n k : Int) (hn : IsLen n) (s : Nat) (h0 : 26 ≤ s) (h1 : s ≤ 44) : Len (2 ^ (56 - s) + 2) (rootG n k s) := by
 have hp := (root_prod n k (-k) hn s h0 h1 _ rfl).1
 rw [root_back n k hn s (by omega) (by omega), show k + -k = 0 by omega, root_zero n hn s (by omega) (by omega)] at hp
 have hq := pow_pos2 (56 - s)
 unfold Len
 generalize rootG n k s = g at *
 obtain ⟨x, y⟩ := g
 unfold Gi.less Gi.mul Gi.conj Gi.up at hp
 simp only at hp ⊢
 generalize (2 : Int) ^ (56 - s) = B at *
 have e : x * x - y * -y - B * B = x * x + y * y - B * B := by grind
 rw [e] at hp
 have e2 : (B + 2) * (B + 2) = B * B + 4 * B + 4 := by grind
 omega
theorem roots_len (n : Int) (hn : IsLen n) (bits : Nat) (h0 : 12 ≤ bits) (h1 : bits ≤ 30) (inv : Bool) (k : Nat) : Len (2 ^ bits + 2) (rootOf (rootsL n (56 - bits)) inv k) := by
 have hp := pow_pos2 bits
 have key : Len (2 ^ bits + 2) ((rootsL n (56 - bits)).getD k ⟨0, 0⟩) := by
  by_cases h : k < n.toNat
  ·unfold rootsL
   rw [List.getD_eq_getElem?_getD, List.getElem?_map, List.getElem?_range h]
   have := root_len n k hn (56 - bits) (by omega) (by omega)
   rw [show 56 - (56 - bits) = bits by omega] at this
   exact this
  ·rw [List.getD_eq_getElem?_getD, List.getElem?_eq_none (by rw [rootsL_len]; omega)]
   exact Len.zero _
 unfold rootOf
 cases inv
 ·exact key
 ·exact key.conj
theorem roots_in (n : Int) (hn : IsLen n) (bits : Nat) (h0 : 1 ≤ bits) (h1 : bits ≤ 40) (k : Nat) (hk : k < n.toNat) : Bd (2 ^ bits) ((rootsL n (56 - bits)).getD k ⟨0, 0⟩) := by
 unfold rootsL
 rw [List.getD_eq_getElem?_getD, List.getElem?_map, List.getElem?_range hk]
 have := root_bd n k hn (56 - bits) (by omega) (by omega)
 rw [show 56 - (56 - bits) = bits by omega] at this
 have e : ((2 ^ bits : Nat) : Int) = 2 ^ bits := by simp
 refine Bd.mk ?_
 simp only [Option.map_some, Option.getD_some]
 generalize (2 : Int) ^ bits = P at *
 generalize 2 ^ bits = p at *
 omega
end
section
open Go.ChangeShapes Go.WideShapes Go.ChangeAt Go.RowKit
set_option linter.unusedVariables false
set_option maxRecDepth 100000
theorem mayBe07_yes (log b : Int) (h0 : 2 ≤ log) (h1 : log ≤ 6) (b0 : 0 ≤ b) (b1 : b ≤ 40) (w : World) :
 Calls Tryz.prog 156 #[.int .i64 log, .int .i64 b] w fun e w' => e = .returned (.bool true) ∧ w' = w := by
 go_enter Tryz.func156, Tryz.ntmps156
 go_wp2_with fail
 go_ret
 exact ⟨rfl, rfl⟩
theorem rEighth_c (k log : Int) (h0 : 0 ≤ log) (h1 : log ≤ 6) (k0 : 0 ≤ k) (k1 : k ≤ 2 ^ log.toNat) (w : World) :
 CW 210 #[.int .i64 k, .int .i64 log] w (.agg #[.int .i64 (ptG (eighthZ k log)).re, .int .i64 (ptG (eighthZ k log)).im]) :=by
 delta CW
 have HE := Lib.hid (eighth_ok k log h0 h1 k0 k1)
 unfold EiIs at HE
 unfold ptG
 clear h0 h1 k0 k1
 generalize pt (eighthZ k log) = s at *
 obtain ⟨re, im, left⟩ := s
 simp only at HE ⊢
 go_enter Tryz.func210, Tryz.ntmps210
 go_wp2_with fail
 have R0 := CellsAt.new w 50 #[.int .i64 0, .int .i64 0]
 have gw0 := (Gr.refl w).alloc #[.int .i64 0, .int .i64 0] 50
 refine (HE.out _).mono ?_
 rintro e w1 ⟨rfl, g1⟩
 have R1 := (R0.gr g1).alloc (.cells #[.int .i64 re, .int .i64 im] 50)
 have gw1 := gw0.trans g1
 have hsz := gw1.size
 have gw2 := gw1.alloc #[.int .i64 re, .int .i64 im] 50
 have c0 := R1.cell 0
 have c1 := R1.cell 1
 have f0 := R1.frozen 0
 have f1 := R1.frozen 1
 simp only [getS] at c0 c1
 clear R0 gw0 g1 gw1
 go_wp2_with fail
 refine bodyPost_ret (v := .agg #[.int .i64 re, .int .i64 im]) ?_ rfl ⟨rfl, ?_⟩
 ·simp [results, Tryz.f210, go_sem, c0, c1]
 ·exact (gw2.setCell (a := ⟨w.heap.size, 0, none⟩) (by simp) _).setCell (a := ⟨w.heap.size, 1, none⟩) (by simp) _
set_option maxHeartbeats 4000000 in
theorem rPoint_c (log u n : Int) (l0 : 2 ≤ log) (l1 : log ≤ 6) (hn : n = 2 ^ log.toNat) (u0 : 0 ≤ u) (u1 : u < n) (w : World) :
 CW 188 #[.int .i64 u, .int .i64 log] w (.agg #[.int .i64 (rpt n u).re, .int .i64 (rpt n u).im]) :=by
 delta CW
 have hl := len_log n log l0 l1 hn
 have hn4 : 4 ≤ n ∧ n ≤ 64 := by rcases hl with rfl | rfl | rfl | rfl | rfl <;> omega
 have HE := Lib.hid fun (j : Int) (j0 : 0 ≤ j) (j1 : j ≤ n) => rEighth_c j log (by omega) l1 j0 (by rw [← hn]; exact j1)
 have he := hn.symm
 have hw2 : IntKind.i64.wrap n = n := IntWalk.i64_in _ ⟨by omega, by omega⟩
 by_cases a : 2 * u < n
 ·have HE1 := Lib.hid (HE.out (2 * u) (by omega) (by omega))
  have er : (rpt n u) = ptG (eighthZ (2 * u) log) := by unfold rpt rptF; rw [if_pos a, eighthZ_eq, ← hn]
  rw [er]
  clear er HE
  generalize ptG (eighthZ (2 * u) log) = s at *
  obtain ⟨re, im⟩ := s
  simp only at HE1 ⊢
  clear hl hn
  go_enter Tryz.func188, Tryz.ntmps188
  go_wp2_with fail
  have R0 := CellsAt.new w 50 #[.int .i64 0, .int .i64 0]
  have gw0 := (Gr.refl w).alloc #[.int .i64 0, .int .i64 0] 50
  refine (HE1.out _).mono ?_
  rintro e w2 ⟨rfl, g2⟩
  have R1 := R0.gr g2
  have gw := gw0.trans g2
  have hsz := gw.size
  have c0 := R1.cell 0
  have c1 := R1.cell 1
  have f0 := R1.frozen 0
  have f1 := R1.frozen 1
  simp only [getS] at c0 c1
  clear R0 gw0 g2
  go_wp2_with fail
  refine bodyPost_ret (v := .agg #[.int .i64 re, .int .i64 im]) ?_ rfl ⟨rfl, ?_⟩
  ·simp [results, Tryz.f188, go_sem, c0, c1]
  ·exact (gw.setCell (a := ⟨w.heap.size, 0, none⟩) (by simp) _).setCell (a := ⟨w.heap.size, 1, none⟩) (by simp) _
 ·by_cases b : n < 2 * u
  ·have HE1 := Lib.hid (HE.out (2 * (n - u)) (by omega) (by omega))
   have er : (rpt n u) = (ptG (eighthZ (2 * (n - u)) log)).swap := by unfold rpt rptF; rw [if_neg a, if_pos b, eighthZ_eq, ← hn]
   rw [er]
   clear er HE
   generalize ptG (eighthZ (2 * (n - u)) log) = s at *
   obtain ⟨re, im⟩ := s
   simp only [Gi.swap] at HE1 ⊢
   clear hl hn
   go_enter Tryz.func188, Tryz.ntmps188
   go_wp2_with fail
   have R0 := CellsAt.new w 50 #[.int .i64 0, .int .i64 0]
   have gw0 := (Gr.refl w).alloc #[.int .i64 0, .int .i64 0] 50
   refine (HE1.out _).mono ?_
   rintro e w2 ⟨rfl, g2⟩
   have R1 := (R0.gr g2).alloc (.cells #[.int .i64 re, .int .i64 im] 50)
   have gw := gw0.trans g2
   have hsz := gw.size
   have gw3 := gw.alloc #[.int .i64 re, .int .i64 im] 50
   have c0 := R1.cell 0
   have c1 := R1.cell 1
   have f0 := R1.frozen 0
   have f1 := R1.frozen 1
   simp only [getS] at c0 c1
   clear R0 gw0 g2 gw
   go_wp2_with fail
   refine bodyPost_ret (v := .agg #[.int .i64 im, .int .i64 re]) ?_ rfl ⟨rfl, ?_⟩
   ·simp [results, Tryz.f188, go_sem, c0, c1]
   ·exact (gw3.setCell (a := ⟨w.heap.size, 0, none⟩) (by simp) _).setCell (a := ⟨w.heap.size, 1, none⟩) (by simp) _
  ·have HE1 := Lib.hid (HE.out n (by omega) (by omega))
   have er : (rpt n u) = ⟨(ptG (eighthZ n log)).re, (ptG (eighthZ n log)).re⟩ := by unfold rpt rptF; rw [if_neg a, if_neg b, eighthZ_eq, ← hn]
   rw [er]
   clear er HE
   generalize ptG (eighthZ n log) = s at *
   obtain ⟨re, im⟩ := s
   simp only at HE1 ⊢
   clear hl hn
   go_enter Tryz.func188, Tryz.ntmps188
   go_wp2_with fail
   have R0 := CellsAt.new w 50 #[.int .i64 0, .int .i64 0]
   have gw0 := (Gr.refl w).alloc #[.int .i64 0, .int .i64 0] 50
   refine (HE1.out _).mono ?_
   rintro e w2 ⟨rfl, g2⟩
   have R1 := R0.gr g2
   have gw := gw0.trans g2
   have hsz := gw.size
   have c0 := R1.cell 0
   have c1 := R1.cell 1
   have f0 := R1.frozen 0
   have f1 := R1.frozen 1
   simp only [getS] at c0 c1
   clear R0 gw0 g2 HE1 a b u0 u1 he hw2 hn4 l0 l1
   have hfr : ∀ W, (Instr.field 50 (.agg #[.int .i64 re, .int .i64 im]) 0).run Tryz.prog W = .ok (.int .i64 re) W := field_Re re im
   go_wp2_with fail
   refine bodyPost_ret (v := .agg #[.int .i64 re, .int .i64 re]) ?_ rfl ⟨rfl, ?_⟩
   ·simp [results, Tryz.f188, go_sem, c0, c1]
   ·exact (gw.setCell (a := ⟨w.heap.size, 0, none⟩) (by simp) _).setCell (a := ⟨w.heap.size, 1, none⟩) (by simp) _
set_option maxHeartbeats 8000000 in
theorem rRootOf_c (log k n bt : Int) (l0 : 2 ≤ log) (l1 : log ≤ 6) (hn : n = 2 ^ log.toNat) (b0 : 0 ≤ bt) (b1 : bt ≤ 40) (w : World) :
 CW 158 #[.int .i64 log, .int .i64 k, .int .i64 bt] w (.agg #[.int .i64 (rootG n k (56 - bt).toNat).re, .int .i64 (rootG n k (56 - bt).toNat).im]) :=by
 delta CW
 have hl := len_log n log l0 l1 hn
 have hn4 : 4 ≤ n ∧ n ≤ 64 := by rcases hl with rfl | rfl | rfl | rfl | rfl <;> omega
 have hu := len_u n k hl
 have hbd := rpt_bd n _ hl hu.1 hu.2.1
 have HPt := Lib.hid (rPoint_c log (4 * (k % n) % n) n l0 l1 hn hu.1 hu.2.1)
 have hand : bits .and .i64 k (n - 1) = k % n := by rw [hn]; exact bits_mask k log.toNat (by omega)
 unfold rootG
 generalize hr : k % n = r at *
 have hrem : (4 * r).tmod n = 4 * r % n := Int.tmod_eq_emod_of_nonneg (by omega)
 have hquo : (4 * r).tdiv n = 4 * r / n := Int.tdiv_eq_ediv_of_nonneg (by omega)
 have hz : ¬ n = 0 := by omega
 have hz2 : (n == 0) = false := by simp; omega
 have hq4 : 0 ≤ 4 * r / n ∧ 4 * r / n < 4 := ⟨hu.2.2.1, hu.2.2.2.1⟩
 generalize 4 * r % n = u at *
 generalize 4 * r / n = q at *
 generalize hp : rpt n u = p at *
 have HS := Lib.hid (cxshift_ok p.re p.im (56 - bt) 1 (by omega) (by omega) (by omega) (by omega) (by omega) (by omega))
 have hs := And.intro (rnd_top p.re (56 - bt).toNat (by omega) (by omega) hbd.1) (rnd_top p.im (56 - bt).toNat (by omega) (by omega) hbd.2)
 have hM : (2 : Nat) ^ (56 - (56 - bt).toNat) ≤ 1099511627776 := by
  have : (2 : Nat) ^ (56 - (56 - bt).toNat) ≤ 2 ^ 40 := Nat.pow_le_pow_right (by decide) (by omega)
  omega
 have es : rsh (56 - bt).toNat p = ⟨rnd p.re (56 - bt).toNat 1, rnd p.im (56 - bt).toNat 1⟩ := rfl
 have hq : (rsh (56 - bt).toNat p).re.natAbs ≤ 1099511627776 ∧ (rsh (56 - bt).toNat p).im.natAbs ≤ 1099511627776 := by rw [es]; simp only; omega
 have HS' : CR 129 #[.agg #[.int .i64 p.re, .int .i64 p.im], .int .i64 (56 - bt), .int .i64 1] (.tuple #[.agg #[.int .i64 (rsh (56 - bt).toNat p).re, .int .i64 (rsh (56 - bt).toNat p).im], .int .i64 0]) := HS
 clear HS es hs hM
 generalize rsh (56 - bt).toNat p = g at *
 have HT := Lib.hid (cxturn_gi g q (by omega))
 have hq2 := turn_bd q g _ hq
 generalize g.turn q = g2 at *
 have HC := Lib.hid (cxconj_gi g2 (by omega))
 generalize g2.conj = g3 at *
 obtain ⟨px, py⟩ := p
 obtain ⟨gx, gy⟩ := g
 obtain ⟨hx, hy⟩ := g2
 obtain ⟨ix, iy⟩ := g3
 simp only at HPt HS' HT HC ⊢
 have rb : 0 ≤ r ∧ r < 64 := by omega
 have hm4 : IntKind.i64.wrap (4 * r) = 4 * r := IntWalk.i64_in _ ⟨by omega, by omega⟩
 have hm56 : IntKind.i64.wrap (56 - bt) = 56 - bt := IntWalk.i64_in _ ⟨by omega, by omega⟩
 have hn1 : IntKind.i64.wrap (n - 1) = n - 1 := IntWalk.i64_in _ ⟨by omega, by omega⟩
 have hw2 : IntKind.i64.wrap n = n := IntWalk.i64_in _ ⟨by omega, by omega⟩
 have he := hn.symm
 have hwq : IntKind.i64.wrap q = q := IntWalk.i64_in _ ⟨by omega, by omega⟩
 have HQ := Lib.hid hquo
 clear hl hbd hu hr hp hq hq2 hn hquo
 go_enter Tryz.func158, Tryz.ntmps158
 go_wp2_with fail
 have R0 := CellsAt.new w 50 #[.int .i64 0, .int .i64 0]
 have gw0 := (Gr.refl w).alloc #[.int .i64 0, .int .i64 0] 50
 refine (HPt.out _).mono ?_
 rintro e w1 ⟨rfl, g1⟩
 have R1 := (R0.gr g1).alloc (.cells #[.int .i64 px, .int .i64 py] 50)
 have P1 := CellsAt.new w1 50 #[.int .i64 px, .int .i64 py]
 have gw1 := (gw0.trans g1).alloc #[.int .i64 px, .int .i64 py] 50
 have hlt : w.heap.size < w1.heap.size := by have := g1.size; simp at this; omega
 have hsz1 : w1.heap.size < (w1.alloc (.cells #[.int .i64 px, .int .i64 py] 50)).heap.size := by simp
 clear R0 gw0 g1 HPt hand hrem hn1 hw2 he
 go_wp2_with fail
 generalize w1.alloc (.cells #[.int .i64 px, .int .i64 py] 50) = u1 at *
 generalize w1.heap.size = B at *
 refine (HS'.out _).mono ?_
 rintro e w2 ⟨rfl, g2⟩
 have R2 := ((R1.gr g2).other (B' := B) (by omega) 0 (.int .i64 gx)).other (B' := B) (by omega) 1 (.int .i64 gy)
 have P2' := P1.gr g2
 have p0 := P2'.cell 0
 have p1 := P2'.cell 1
 have pf0 := P2'.frozen 0
 have pf1 := P2'.frozen 1
 have P2 := (P2'.set 0 (.int .i64 gx)).set 1 (.int .i64 gy)
 have gw2 := ((gw1.trans g2).setCell (a := ⟨B, 0, none⟩) (by simp; omega) (.int .i64 gx)).setCell (a := ⟨B, 1, none⟩) (by simp; omega) (.int .i64 gy)
 simp only [getS, List.setIfInBounds_toArray, List.set_cons_zero, List.set_cons_succ] at p0 p1 P2
 clear R1 P1 gw1 g2 P2' HS' hm56
 go_wp2_with fail
 generalize (w2.setCell ⟨B, 0, none⟩ (.int .i64 gx)).setCell ⟨B, 1, none⟩ (.int .i64 gy) = u2 at *
 have q0 := P2.cell 0
 have q1 := P2.cell 1
 have ql := P2.lt
 simp only [getS] at q0 q1
 have hquo := HQ.out
 clear hsz1 hn4 rb hq4
 refine wp_region_held_drew (S := fun _ => True) rfl trivial (fun hS => ?_)
 refine hT 1 ?_
 refine hT 2 ?_
 refine hT 3 ?_
 refine hT 4 ?_
 refine hR 0 fun K hK => ?_
 go_simp
 refine hK.out _ _ ?_ (fun hHeld => ?_)
 ·(trivial)
 clear hK K
 try simp only [Act.put, putS]
 refine hR 5 fun K hK => ?_
 go_simp
 refine (HT.out _).mono ?_
 rintro e w3 ⟨rfl, g3⟩
 refine hK.out _ _ ?_ (fun hHeld => ?_)
 ·(trivial)
 clear hK K
 try simp only [Act.put, putS]
 refine hT 6 ?_
 refine hT 7 ?_
 refine hT 8 ?_
 have R3 := R2.gr ((Gr.refl u2).drew.trans g3)
 have P3' := P2.gr ((Gr.refl u2).drew.trans g3)
 have gw3' := gw2.trans ((Gr.refl u2).drew.trans g3)
 have s0 := P3'.cell 0
 have s1 := P3'.cell 1
 have sf0 := P3'.frozen 0
 have sf1 := P3'.frozen 1
 have R4 := (R3.other (B' := B) (by omega) 0 (.int .i64 hx)).other (B' := B) (by omega) 1 (.int .i64 hy)
 have P4 := (P3'.set 0 (.int .i64 hx)).set 1 (.int .i64 hy)
 have gw4 := (gw3'.setCell (a := ⟨B, 0, none⟩) (by simp; omega) (.int .i64 hx)).setCell (a := ⟨B, 1, none⟩) (by simp; omega) (.int .i64 hy)
 simp only [getS, List.setIfInBounds_toArray, List.set_cons_zero, List.set_cons_succ] at s0 s1 P4
 clear R2 P2 gw2 R3 P3' gw3' q0 q1 ql
 refine hR 9 fun K hK => ?_
 go_simp
 refine hK.out _ _ ?_ (fun hHeld => ?_)
 ·(trivial)
 clear hK K
 try simp only [Act.put, putS]
 refine wpAnyH_done (by kernel_rfl) ?_ _
 generalize (w3.setCell ⟨B, 0, none⟩ (.int .i64 hx)).setCell ⟨B, 1, none⟩ (.int .i64 hy) = u4 at *
 have v0 := P4.cell 0
 have v1 := P4.cell 1
 have vl := P4.lt
 simp only [getS] at v0 v1
 clear hHeld s0 s1 sf0 sf1 HT hz hz2 hwq HQ hm4 p0 p1 pf0 pf1 hquo g3
 go_wp2_with fail
 refine (HC.out _).mono ?_
 rintro e w5 ⟨rfl, g5⟩
 have R5' := R4.gr g5
 have P5' := P4.gr g5
 have gw5' := gw4.trans g5
 have s0 := P5'.cell 0
 have s1 := P5'.cell 1
 have sf0 := P5'.frozen 0
 have sf1 := P5'.frozen 1
 have R5 := (R5'.other (B' := B) (by omega) 0 (.int .i64 ix)).other (B' := B) (by omega) 1 (.int .i64 iy)
 have P5 := (P5'.set 0 (.int .i64 ix)).set 1 (.int .i64 iy)
 have gw5 := (gw5'.setCell (a := ⟨B, 0, none⟩) (by simp; omega) (.int .i64 ix)).setCell (a := ⟨B, 1, none⟩) (by simp; omega) (.int .i64 iy)
 simp only [getS, List.setIfInBounds_toArray, List.set_cons_zero, List.set_cons_succ] at s0 s1 P5
 have k0 := P5.cell 0
 have k1 := P5.cell 1
 have c0 := R5.cell 0
 have c1 := R5.cell 1
 have f0 := R5.frozen 0
 have f1 := R5.frozen 1
 have kl := P5'.lt
 simp only [getS] at k0 k1 c0 c1
 clear R4 P4 gw4 R5' P5' gw5' R5 P5 HC v0 v1 vl g5
 go_wp2_with fail
 refine bodyPost_ret (v := .agg #[.int .i64 ix, .int .i64 iy]) ?_ rfl ⟨rfl, ?_⟩
 ·simp [results, Tryz.f158, go_sem, c0, c1]
 ·exact (gw5.setCell (a := ⟨w.heap.size, 0, none⟩) (by simp) _).setCell (a := ⟨w.heap.size, 1, none⟩) (by simp) _
theorem rRoot_ok (log k n bt : Int) (l0 : 2 ≤ log) (l1 : log ≤ 6) (hn : n = 2 ^ log.toNat) (b0 : 0 ≤ bt) (b1 : bt ≤ 40) (w : World) :
 CW 124 #[.int .i64 log, .int .i64 k, .int .i64 bt] w (.tuple #[.agg #[.int .i64 (rootG n k (56 - bt).toNat).re, .int .i64 (rootG n k (56 - bt).toNat).im], .int .i64 0]) :=by
 delta CW
 have HM := Lib.hid (mayBe07_yes log bt l0 l1 b0 b1)
 have HR := Lib.hid (rRootOf_c log k n bt l0 l1 hn b0 b1)
 clear l0 l1 hn b0 b1
 generalize rootG n k (56 - bt).toNat = s at *
 obtain ⟨re, im⟩ := s
 simp only at HR ⊢
 go_enter Tryz.func124, Tryz.ntmps124
 go_wp2_with (go_at_call 156; refine (HM.out _).mono ?_; rintro e wz ⟨rfl, rfl⟩)
 have R0 := CellsAt.new w 50 #[.int .i64 0, .int .i64 0]
 have gw0 := (Gr.refl w).alloc #[.int .i64 0, .int .i64 0] 50
 refine (HR.out _).mono ?_
 rintro e w1 ⟨rfl, g1⟩
 have R1 := R0.gr g1
 have gw := gw0.trans g1
 have hsz := gw.size
 have c0 := R1.cell 0
 have c1 := R1.cell 1
 have f0 := R1.frozen 0
 have f1 := R1.frozen 1
 simp only [getS] at c0 c1
 clear R0 gw0 g1
 go_wp2_with fail
 refine bodyPost_ret (v := .tuple #[.agg #[.int .i64 re, .int .i64 im], .int .i64 0]) ?_ rfl ⟨rfl, ?_⟩
 ·simp [results, Tryz.f124, go_sem, c0, c1]
 ·exact (gw.setCell (a := ⟨w.heap.size, 0, none⟩) (by simp) _).setCell (a := ⟨w.heap.size, 1, none⟩) (by simp) _
theorem rTable1_c (p q : Nat) (log k n bt : Int) (l0 : 2 ≤ log) (l1 : log ≤ 6) (hn : n = 2 ^ log.toNat) (b0 : 0 ≤ bt) (b1 : bt ≤ 40) (w : World)
 (c0 : w.cell? ⟨p, 0, none⟩ = some (.int .i64 log)) (c1 : w.cell? ⟨q, 0, none⟩ = some (.int .i64 bt)) (lp : p < w.heap.size) (lq : q < w.heap.size) :
 CW 157 #[.int .i64 k, .pointer (some ⟨p, 0, none⟩), .pointer (some ⟨q, 0, none⟩)] w (.agg #[.int .i64 (rootG n k (56 - bt).toNat).re, .int .i64 (rootG n k (56 - bt).toNat).im]) :=by
 delta CW
 have HR := Lib.hid (rRootOf_c log k n bt l0 l1 hn b0 b1)
 clear l0 l1 hn b0 b1
 generalize rootG n k (56 - bt).toNat = s at *
 obtain ⟨re, im⟩ := s
 simp only at HR ⊢
 go_enter Tryz.func157, Tryz.ntmps157
 go_wp2_with fail
 have R0 := CellsAt.new w 50 #[.int .i64 0, .int .i64 0]
 have gw0 := (Gr.refl w).alloc #[.int .i64 0, .int .i64 0] 50
 refine (HR.out _).mono ?_
 rintro e w1 ⟨rfl, g1⟩
 have R1 := R0.gr g1
 have gw := gw0.trans g1
 have hsz := gw.size
 have d0 := R1.cell 0
 have d1 := R1.cell 1
 have f0 := R1.frozen 0
 have f1 := R1.frozen 1
 simp only [getS] at d0 d1
 clear R0 gw0 g1 c0 c1
 go_wp2_with fail
 refine bodyPost_ret (v := .agg #[.int .i64 re, .int .i64 im]) ?_ rfl ⟨rfl, ?_⟩
 ·simp [results, Tryz.f157, go_sem, d0, d1]
 ·exact (gw.setCell (a := ⟨w.heap.size, 0, none⟩) (by simp) _).setCell (a := ⟨w.heap.size, 1, none⟩) (by simp) _
set_option maxHeartbeats 2000000 in
theorem rGathered_c (p q : Nat) (log n bt : Int) (l0 : 2 ≤ log) (l1 : log ≤ 6) (hn : n = 2 ^ log.toNat) (b0 : 0 ≤ bt) (b1 : bt ≤ 40) (w : World)
 (c0 : w.cell? ⟨p, 0, none⟩ = some (.int .i64 log)) (c1 : w.cell? ⟨q, 0, none⟩ = some (.int .i64 bt)) (lp : p < w.heap.size) (lq : q < w.heap.size) :
 Calls Tryz.prog 159 #[.int .i64 n, .func (.func 157) #[] #[.pointer (some ⟨p, 0, none⟩), .pointer (some ⟨q, 0, none⟩)]] w fun e w' => ∃ v, e = .returned v ∧ CxsAt w' v (rootsL n (56 - bt).toNat) ∧ Gr w w' := by
 have hl := len_log n log l0 l1 hn
 have hn4 : 4 ≤ n ∧ n ≤ 64 := by rcases hl with rfl | rfl | rfl | rfl | rfl <;> omega
 obtain ⟨N, hN⟩ : ∃ N : Nat, (N : Int) = n := ⟨n.toNat, by omega⟩
 have HF := Lib.hid fun (k : Int) W (gv : Gr w W) => rTable1_c p q log k n bt l0 l1 hn b0 b1 W ((gv.cell (p := ⟨p, 0, none⟩) lp).trans c0) ((gv.cell (p := ⟨q, 0, none⟩) lq).trans c1) (Nat.lt_of_lt_of_le lp gv.size) (Nat.lt_of_lt_of_le lq gv.size)
 have hmk := run_make_cx N (by omega)
 have hrl : rootsL n (56 - bt).toNat = (List.range N).map (fun k : Nat => rootG n (k : Int) (56 - bt).toNat) := by unfold rootsL; rw [← hN, Int.toNat_natCast]
 rw [hrl]
 clear hl l0 l1 hn b0 b1 c0 c1 hrl
 generalize (56 - bt).toNat = s at *
 rw [hN] at hmk
 go_enter Tryz.func159, Tryz.ntmps159
 go_wp2_with fail
 have M0 := CellsAt.new w 50 (madeCells #[.int .i64 0, .int .i64 0] (N * 2))
 have M1 := size_madeCells #[.int .i64 0, .int .i64 0] (N * 2)
 go_loopw [6, 11] (fun _ i wr => ∃ k : Nat, ∃ c : Array Value, k ≤ N ∧ i = .int .i64 k ∧ CellsAt wr w.heap.size 50 c ∧ c.size = N * 2 ∧ (∀ j, j < k → c[j * 2]? = some (.int .i64 (rootG n (j : Int) s).re) ∧ c[j * 2 + 1]? = some (.int .i64 (rootG n (j : Int) s).im)) ∧ Gr w wr)
  (fun _ i _ => N - (intOf i).toNat)
 case atStart => exact ⟨0, _, by omega, rfl, M0, M1, fun j hj => absurd hj (Nat.not_lt_zero _), (Gr.refl _).alloc _ _⟩
 case round =>
  clear M0 M1 hmk
  obtain ⟨k, c, hk, rfl, hC, hs, hj, hg⟩ := hrel
  by_cases hlt : k < N
  ·have HA := Lib.hid (HF.out k)
   have HS := Lib.hid hs
   have HJ := Lib.hid hj
   clear hs hj
   generalize hgg : rootG n (k : Int) s = g at *
   have HG := Lib.hid hgg
   clear hgg
   obtain ⟨re, im⟩ := g
   simp only at HA
   go_wp2_with fail
   refine (HA.out _ hg).mono ?_
   rintro e w2 ⟨rfl, hg2⟩
   have hC2 := hC.gr hg2
   have f2 := hC2.frozen (k * 2)
   have f3 := hC2.frozen (k * 2 + 1)
   have q2 := hC2.cell (k * 2)
   have q3 := hC2.cell (k * 2 + 1)
   have hg3 := hg.trans hg2
   rw [Array.getElem?_eq_getElem (show k * 2 < c.size by rw [HS.out]; omega)] at q2
   rw [Array.getElem?_eq_getElem (show k * 2 + 1 < c.size by rw [HS.out]; omega)] at q3
   have hBl := hC2.lt
   clear hC hg2 hg HA
   go_wp2_with fail
   have hC3 := (hC2.set (k * 2) (.int .i64 re)).set (k * 2 + 1) (.int .i64 im)
   have hg4 := (hg3.setCell (a := ⟨w.heap.size, k * 2, none⟩) (by simp) (.int .i64 re)).setCell (a := ⟨w.heap.size, k * 2 + 1, none⟩) (by simp) (.int .i64 im)
   go_roundw
   case rel =>
    refine ⟨k + 1, _, by omega, by go_num, hC3, by simpa using HS.out, fun j hj => ?_, hg4⟩
    by_cases e : j = k
    ·subst e
     rw [HG.out]
     constructor
     ·rw [Array.getElem?_setIfInBounds, if_neg (by omega), Array.getElem?_setIfInBounds, if_pos rfl, if_pos (by rw [HS.out]; omega)]
     ·rw [Array.getElem?_setIfInBounds, if_pos rfl, if_pos (by simp only [Array.size_setIfInBounds]; rw [HS.out]; omega)]
    ·have := HJ.out j (by omega)
     constructor
     ·rw [Array.getElem?_setIfInBounds, if_neg (by omega), Array.getElem?_setIfInBounds, if_neg (by omega)]
      exact this.1
     ·rw [Array.getElem?_setIfInBounds, if_neg (by omega), Array.getElem?_setIfInBounds, if_neg (by omega)]
      exact this.2
   case measure => simp [intOf]; omega
  ·have he : k = N := by omega
   subst he
   go_wp2_with fail
   go_ret
   refine ⟨_, rfl, ?_, hg⟩
   refine ⟨some ⟨w.heap.size, 0, none⟩, k, by simp, by simp, by unfold maxLen; omega, fun _ => ⟨w.heap.size, 0, rfl, hC.lt, fun j x hx => ?_⟩⟩
   rw [List.getElem?_map] at hx
   obtain ⟨j', hj', rfl⟩ := Option.map_eq_some_iff.1 hx
   obtain ⟨hjl, rfl⟩ := List.getElem?_eq_some_iff.1 hj'
   simp only [List.length_range] at hjl
   have := hj j hjl
   rw [hC.cell, hC.cell, Nat.zero_add]
   simpa using this
theorem rTable_ok (log n bt : Int) (l0 : 2 ≤ log) (l1 : log ≤ 6) (hn : n = 2 ^ log.toNat) (b0 : 0 ≤ bt) (b1 : bt ≤ 40) (w : World) :
 Calls Tryz.prog 115 #[.int .i64 log, .int .i64 bt] w fun e w' => ∃ v, e = .returned (.tuple #[v, .int .i64 0]) ∧ CxsAt w' v (rootsL n (56 - bt).toNat) ∧ Gr w w' := by
 have HM := Lib.hid (mayBe07_yes log bt l0 l1 b0 b1)
 have HG := Lib.hid fun p q W => rGathered_c p q log n bt l0 l1 hn b0 b1 W
 have hl := len_log n log l0 l1 hn
 have hn4 : 4 ≤ n ∧ n ≤ 64 := by rcases hl with rfl | rfl | rfl | rfl | rfl <;> omega
 have he := hn.symm
 have hw2 : IntKind.i64.wrap n = n := IntWalk.i64_in _ ⟨by omega, by omega⟩
 clear hl hn b0 b1
 generalize rootsL n (56 - bt).toNat = xs at *
 go_enter Tryz.func115, Tryz.ntmps115
 go_wp2_with (go_at_call 156; refine (HM.out _).mono ?_; rintro e wz ⟨rfl, rfl⟩)
 refine (HG.out _ _ _ ?_ ?_ ?_ ?_).mono ?_
 ·exact ((CellsAt.new w 3 #[.int .i64 log]).alloc _).cell 0
 ·have := (CellsAt.new (w.alloc (.cells #[.int .i64 log] 3)) 3 #[.int .i64 bt]).cell 0
  rw [World.size_alloc] at this
  exact this
 ·simp; omega
 ·simp
 rintro e w1 ⟨v, rfl, hx, g1⟩
 go_wp2_with fail
 go_ret2
 exact ⟨v, rfl, hx, (((Gr.refl w).alloc _ _).alloc _ _).trans g1⟩
theorem rTwiddles_ok (log n f b p : Int) (l0 : 2 ≤ log) (l1 : log ≤ 6) (hn : n = 2 ^ log.toNat) (H : FB f b p) (w : World) :
 Calls Tryz.prog 113 #[.int .i64 log, .int .i64 f] w fun e w' => ∃ v, e = .returned (.tuple #[v, .int .i64 0]) ∧ CxsAt w' v (rootsL n (56 - (b - 2)).toNat) ∧ Gr w w' := by
 have HB := Lib.hid (bits_c f b p H)
 have hb : 15 ≤ b ∧ b ≤ 31 := by rcases H with ⟨_, rfl, _⟩ | ⟨_, rfl, _⟩ <;> omega
 have HT := Lib.hid (rTable_ok log n (b - 2) l0 l1 hn (by omega) (by omega))
 clear l0 l1 hn H
 generalize rootsL n (56 - (b - 2)).toNat = xs at *
 go_enter Tryz.func113, Tryz.ntmps113
 go_wp2_with (go_at_call 58; refine (HB.out _).mono ?_; rintro e wz ⟨rfl, rfl⟩)
 refine (HT.out _).mono ?_
 rintro e w1 ⟨v, rfl, hx, g1⟩
 go_wp2_with fail
 go_ret2
 exact ⟨v, rfl, hx, g1⟩
end
end Go.Proofs.YtdignnmpfkgkoaaGreat
