/- The transform of any length. -/
import Derived.Test.YtmhcbphkkcmecaaGreatSplitCode5
namespace Go.Proofs.YtmhcbphkkcmecaaGreat
open Go.ChangeShapes Go.WideShapes Go.ChangeAt Go.RowKit
set_option linter.unusedVariables false
set_option linter.unusedSimpArgs false
set_option maxRecDepth 100000

theorem sL_zero (bits : Nat) (mo : Int) (inv : Bool) (ws xs : List Gi) (h : xs.length = 1) : sL bits mo inv ws 0 xs = xs := by
  have := list_getD xs
  rw [h] at this
  unfold sL
  exact this.symm
theorem sL_one (bits : Nat) (mo : Int) (inv : Bool) (ws xs : List Gi) : sL bits mo inv ws 1 xs = [grnd 1 mo (gadd (xs.getD 0 ⟨0, 0⟩) (xs.getD 1 ⟨0, 0⟩)), grnd 1 mo (gsub (xs.getD 0 ⟨0, 0⟩) (xs.getD 1 ⟨0, 0⟩))] := by
  unfold sL
  rfl
theorem pick_len (xs : List Gi) (F S m : Nat) : ((List.range m).map (pick xs F S)).length = m := by simp
theorem Len.bd31 {R : Int} {bits : Nat} {a : Gi} (hb : bits ≤ 29) (h0 : 0 ≤ R) (h : R ≤ 3 * 2 ^ bits) (k : Len R a) : Bd 2147483648 a := by
  have := pow29 bits hb
  exact (k.bd h0).mono (by omega)
theorem len_units (k L n : Nat) (hL : k + 2 ≤ L) (hn : n = 2 ^ L) : n = 4 * 2 ^ k * 2 ^ (L - (k + 2)) ∧ n / 2 ^ (k + 2) = 2 ^ (L - (k + 2)) := by
  have e : 2 ^ (k + 2) = 4 * 2 ^ k := by rw [Nat.pow_succ, Nat.pow_succ]; omega
  have h : n = 2 ^ (k + 2) * 2 ^ (L - (k + 2)) := by rw [hn, ← Nat.pow_add]; congr 1; omega
  exact ⟨by rw [h, e], by rw [h]; exact Nat.mul_div_cancel_left _ (Nat.two_pow_pos _)⟩


theorem sTransform_c (bits : Nat) (mo : Int) (inv : Bool) (ws : List Gi) (L n : Nat) (hL : L ≤ 6) (hn : n = 2 ^ L) (lw : ws.length = n) (hb : bits ≤ 29) (m0 : 0 ≤ mo) (m1 : mo ≤ 2)
    (hW : ∀ k, Len (2 ^ bits + 2) (rootOf ws inv k)) (hWb : ∀ k, k < n → Bd (2 ^ bits) (ws.getD k ⟨0, 0⟩)) (R : Int) (hR : 0 ≤ R) (hRB : R + 30 ≤ 3 * 2 ^ bits) (pw : Option Addr) (cw : Nat) :
    ∀ (l : Nat), l ≤ L → ∀ (xs : List Gi) (px : Option Addr) (cx : Nat) (w : World), xs.length = 2 ^ l → (∀ j, j < 2 ^ l → Len R (xs.getD j ⟨0, 0⟩)) → CxsAt w (.slice px (2 ^ l : Nat) cx) xs → CxsAt w (.slice pw n cw) ws →
      Calls Tryz.prog 18 #[.agg #[.int .i64 bits, .int .i64 mo, .bool inv], .slice px (2 ^ l : Nat) cx, .slice pw n cw] w fun e w' => ∃ v, e = .returned v ∧ CxsAt w' v (sL bits mo inv ws l xs) ∧ Gr w w'
  | 0, _, xs, px, cx, w, hl, hx, vx, vw => by
    rw [sL_zero _ _ _ _ _ hl]
    exact sTrans_0 bits mo inv pw px n cw cx xs w vx
  | 1, _, xs, px, cx, w, hl, hx, vx, vw => by
    rw [sL_one]
    obtain ⟨b, o, cap, hv, _, hbl, hc⟩ := vx.at (by intro e; rw [e] at hl; simp at hl)
    rw [hl] at hv
    cases hv
    have k0 := CxsAt.getD (n := 0) (cap := 0) hc 0 (by omega)
    have k1 := CxsAt.getD (n := 0) (cap := 0) hc 1 (by omega)
    have b0 := Len.bd31 hb hR (by omega) (hx 0 (by omega))
    have b1 := Len.bd31 hb hR (by omega) (hx 1 (by omega))
    exact sTrans_1 bits mo inv pw b o n cw cx _ _ _ _ (Lib.hid (sHalved_c bits mo inv _ _ m0 m1 b0 b1)) w hbl (by simpa using k0.1) (by simpa using k0.2) (by simpa using k1.1) (by simpa using k1.2)
  | k + 2, hk, xs, px, cx, w, hl, hx, vx, vw => by
    have ih1 := sTransform_c bits mo inv ws L n hL hn lw hb m0 m1 hW hWb R hR hRB pw cw (k + 1) (by omega)
    have ih2 := sTransform_c bits mo inv ws L n hL hn lw hb m0 m1 hW hWb R hR hRB pw cw k (by omega)
    obtain ⟨hu, hdu⟩ := len_units k L n hk hn
    have hp6 : 2 ^ (k + 2) ≤ 64 := Nat.pow_le_pow_right (n := 2) (by omega) (show k + 2 ≤ 6 by omega)
    have hn6 : n ≤ 64 := by rw [hn]; exact Nat.pow_le_pow_right (n := 2) (by omega) hL
    have hp0 := Nat.two_pow_pos k
    have hu0 := Nat.two_pow_pos (L - (k + 2))
    have e1 : 2 ^ (k + 1) = 2 * 2 ^ k := by rw [Nat.pow_succ]; omega
    have e2 : 2 ^ (k + 2) = 4 * 2 ^ k := by rw [Nat.pow_succ, Nat.pow_succ]; omega
    obtain ⟨b, o, cap, hv, _, hbl, hc⟩ := vx.at (by intro e; rw [e] at hl; simp at hl; omega)
    rw [hl] at hv
    cases hv
    have hxe : ∀ j, j < 2 ^ (k + 1) → Len R (xs.getD (0 + 2 * j) ⟨0, 0⟩) := fun j hj => hx _ (by omega)
    have hxf : ∀ j, j < 2 ^ k → Len R (xs.getD (1 + 4 * j) ⟨0, 0⟩) := fun j hj => hx _ (by omega)
    have hxg : ∀ j, j < 2 ^ k → Len R (xs.getD (3 + 4 * j) ⟨0, 0⟩) := fun j hj => hx _ (by omega)
    have hm : mo = 0 ∨ mo = 1 ∨ mo = 2 := by omega
    have bE : ∀ j, j < 2 ^ (k + 1) → Bd 2147483648 ((sL bits mo inv ws (k + 1) ((List.range (2 ^ (k + 1))).map (pick xs 0 2))).getD j ⟨0, 0⟩) := fun j hj => by
      rw [sL_pick _ _ _ _ _ _ _ _ _ hj]
      exact Len.bd31 hb (by omega) (by omega) (spl_len bits mo inv _ _ hm hW (k + 1) R _ hR (by omega) hxe j hj)
    have bF : ∀ F j, j < 2 ^ k → (∀ j, j < 2 ^ k → Len R (xs.getD (F + 4 * j) ⟨0, 0⟩)) → Bd 2147483648 ((sL bits mo inv ws k ((List.range (2 ^ k)).map (pick xs F 4))).getD j ⟨0, 0⟩) := fun F j hj hh => by
      rw [sL_pick _ _ _ _ _ _ _ _ _ hj]
      exact Len.bd31 hb (by omega) (by omega) (spl_len bits mo inv _ _ hm hW k R _ hR (by omega) hh j hj)
    have hju : ∀ j, j < 2 ^ k → j * 2 ^ (L - (k + 2)) < n ∧ 3 * j * 2 ^ (L - (k + 2)) < n := by
      intro j hj
      have k1 : (j + 1) * 2 ^ (L - (k + 2)) ≤ 2 ^ k * 2 ^ (L - (k + 2)) := Nat.mul_le_mul_right _ hj
      rw [Nat.succ_mul] at k1
      rw [Nat.mul_assoc] at hu
      rw [Nat.mul_assoc]
      omega
    have rootB : ∀ i, i < n → Bd (2 ^ bits) (rootOf ws inv i) := by
      intro i hi
      have := hWb i hi
      unfold rootOf
      cases inv
      · exact this
      · have h := this.le
        exact Bd.mk (by simp only [if_true]; unfold Gi.conj; simp only; omega)
    have rootC : ∀ i, i < n → ∀ W, Calls Tryz.prog 55 #[.agg #[.int .i64 bits, .int .i64 mo, .bool inv], .agg #[.int .i64 (ws.getD i ⟨0, 0⟩).re, .int .i64 (ws.getD i ⟨0, 0⟩).im]] W fun e w' => e = .returned (.agg #[.int .i64 (rootOf ws inv i).re, .int .i64 (rootOf ws inv i).im]) ∧ Gr W w' := by
      intro i hi W
      have h := (hWb i hi).le
      have hp := pow29 bits hb
      exact sAsked_c bits mo (ws.getD i ⟨0, 0⟩) inv (by omega) W
    have := sTrans_2 bits mo inv pw b o n cw cx (2 ^ (k + 2)) (2 ^ k) (2 ^ (k + 1)) xs ws _ _ _ (sL bits mo inv ws (k + 2) xs) hl e2 e1 hp0 hp6
      (sL_len bits mo inv ws (k + 1) ((List.range (2 ^ (k + 1))).map (pick xs 0 2))) (sL_len bits mo inv ws k ((List.range (2 ^ k)).map (pick xs 1 4))) (sL_len bits mo inv ws k ((List.range (2 ^ k)).map (pick xs 3 4)))
      (Lib.hid fun px cx W h1 h2 => ih1 _ px cx W (pick_len _ _ _ _) (fun j hj => by rw [getD_map _ _ _ hj]; exact hxe j hj) h1 h2)
      (Lib.hid fun px cx W h1 h2 => ih2 _ px cx W (pick_len _ _ _ _) (fun j hj => by rw [getD_map _ _ _ hj]; exact hxf j hj) h1 h2)
      (Lib.hid fun px cx W h1 h2 => ih2 _ px cx W (pick_len _ _ _ _) (fun j hj => by rw [getD_map _ _ _ hj]; exact hxg j hj) h1 h2)
      (Lib.hid fun pe ce pf cf pg cg W h1 h2 h3 h4 => by
        rw [sL_two, lw, hdu]
        refine (fun (key : ∀ m2, m2 = 2 * 2 ^ k → CxsAt W (.slice pe m2 ce) (sL bits mo inv ws (k + 1) ((List.range (2 ^ (k + 1))).map (pick xs 0 2))) → Calls Tryz.prog 36 #[.agg #[.int .i64 bits, .int .i64 mo, .bool inv], .slice pe m2 ce, .slice pf (2 ^ k : Nat) cf, .slice pg (2 ^ k : Nat) cg, .slice pw n cw] W _) => key _ e1 h1) ?_
        intro m2 hm2 h1
        subst hm2
        exact sJoinAll_of bits mo inv pe pf pg pw ce cf cg cw _ _ _ ws (2 ^ k) (2 ^ (L - (k + 2))) n
          (fun j q => joinG bits mo inv q ((sL bits mo inv ws (k + 1) ((List.range (2 ^ (k + 1))).map (pick xs 0 2))).getD j ⟨0, 0⟩) ((sL bits mo inv ws (k + 1) ((List.range (2 ^ (k + 1))).map (pick xs 0 2))).getD (2 ^ k + j) ⟨0, 0⟩)
            ((sL bits mo inv ws k ((List.range (2 ^ k)).map (pick xs 1 4))).getD j ⟨0, 0⟩) ((sL bits mo inv ws k ((List.range (2 ^ k)).map (pick xs 3 4))).getD j ⟨0, 0⟩) (rootOf ws inv (j * 2 ^ (L - (k + 2)))) (rootOf ws inv (3 * j * 2 ^ (L - (k + 2)))))
          (fun j => rootOf ws inv (j * 2 ^ (L - (k + 2)))) (fun j => rootOf ws inv (3 * j * 2 ^ (L - (k + 2)))) hp0 hu0 hu hn6 ((sL_len _ _ _ _ _ _).trans e1) (sL_len _ _ _ _ _ _) (sL_len _ _ _ _ _ _) lw
          (Lib.hid fun j hj W => rootC _ (hju j hj).1 W) (Lib.hid fun j hj W => rootC _ (hju j hj).2 W)
          (Lib.hid fun j hj W => sJoined_c bits mo inv _ _ _ _ _ _ hb m0 m1 (bE j (by omega)) (bE (2 ^ k + j) (by omega)) (bF 1 j hj hxf) (bF 3 j hj hxg) (rootB _ (hju j hj).1) (rootB _ (hju j hj).2) W)
          W h1 h2 h3 h4)
      w hbl (fun j hj => CxsAt.getD (n := 0) (cap := 0) hc j (by omega)) vw
    exact this


end Go.Proofs.YtmhcbphkkcmecaaGreat
