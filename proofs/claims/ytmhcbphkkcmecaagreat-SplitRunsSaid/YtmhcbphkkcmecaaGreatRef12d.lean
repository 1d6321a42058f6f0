/- What reference 12's Run answers of any length: the same list as split's transform. -/
import Derived.Test.YtmhcbphkkcmecaaGreatRef12c
import Derived.Test.YtmhcbphkkcmecaaGreatSplitCode6
namespace Go.Proofs.YtmhcbphkkcmecaaGreat
open Go.ChangeShapes Go.WideShapes Go.ChangeAt Go.RowKit
set_option linter.unusedVariables false
set_option linter.unusedSimpArgs false
set_option maxRecDepth 100000

theorem rRun12_c (bits : Nat) (mo : Int) (inv : Bool) (ws : List Gi) (L n : Nat) (hL : L ≤ 6) (hn : n = 2 ^ L) (lw : ws.length = n) (hb : bits ≤ 29) (m0 : 0 ≤ mo) (m1 : mo ≤ 2)
    (hW : ∀ k, Len (2 ^ bits + 2) (rootOf ws inv k)) (hWb : ∀ k, k < n → Bd (2 ^ bits) (ws.getD k ⟨0, 0⟩)) (R : Int) (hR : 0 ≤ R) (hRB : R + 30 ≤ 3 * 2 ^ bits) (pw : Option Addr) (cw : Nat) :
    ∀ (l : Nat), l ≤ L → ∀ (xs : List Gi) (px : Option Addr) (cx : Nat) (w : World), xs.length = 2 ^ l → (∀ j, j < 2 ^ l → Len R (xs.getD j ⟨0, 0⟩)) → CxsAt w (.slice px (2 ^ l : Nat) cx) xs → CxsAt w (.slice pw n cw) ws →
      Calls Tryz.prog 10 #[.slice px (2 ^ l : Nat) cx, .slice pw n cw, .int .i64 bits, .int .i64 mo, .bool inv] w fun e w' => ∃ v, e = .returned v ∧ CxsAt w' v (sL bits mo inv ws l xs) ∧ Gr w w'
  | 0, _, xs, px, cx, w, hl, hx, vx, vw => by
    rw [sL_zero _ _ _ _ _ hl]
    exact rRun_0 bits mo inv pw px n cw cx xs w vx
  | 1, _, xs, px, cx, w, hl, hx, vx, vw => by
    rw [sL_one]
    obtain ⟨b, o, cap, hv, _, hbl, hc⟩ := vx.at (by intro e; rw [e] at hl; simp at hl)
    rw [hl] at hv
    cases hv
    have k0 := CxsAt.getD (n := 0) (cap := 0) hc 0 (by omega)
    have k1 := CxsAt.getD (n := 0) (cap := 0) hc 1 (by omega)
    have b0 := Len.bd31 hb hR (by omega) (hx 0 (by omega))
    have b1 := Len.bd31 hb hR (by omega) (hx 1 (by omega))
    have s := (b0.add b1).le
    have d := (b0.sub b1).le
    have s1 : (-9223372036854775808 ≤ (xs.getD 0 ⟨0, 0⟩).re + (xs.getD 1 ⟨0, 0⟩).re ∧ (xs.getD 0 ⟨0, 0⟩).re + (xs.getD 1 ⟨0, 0⟩).re ≤ 9223372036854775807) ∧ -9223372036854775808 ≤ (xs.getD 0 ⟨0, 0⟩).im + (xs.getD 1 ⟨0, 0⟩).im ∧ (xs.getD 0 ⟨0, 0⟩).im + (xs.getD 1 ⟨0, 0⟩).im ≤ 9223372036854775807 := by
      simp only [gadd] at s; omega
    have d1 : (-9223372036854775808 ≤ (xs.getD 0 ⟨0, 0⟩).re - (xs.getD 1 ⟨0, 0⟩).re ∧ (xs.getD 0 ⟨0, 0⟩).re - (xs.getD 1 ⟨0, 0⟩).re ≤ 9223372036854775807) ∧ -9223372036854775808 ≤ (xs.getD 0 ⟨0, 0⟩).im - (xs.getD 1 ⟨0, 0⟩).im ∧ (xs.getD 0 ⟨0, 0⟩).im - (xs.getD 1 ⟨0, 0⟩).im ≤ 9223372036854775807 := by
      simp only [gsub] at d; omega
    exact rRun_1 bits mo inv pw b o n cw cx _ _ _ _ _ _ (Lib.hid fun W => rsum_gi _ _ s1.1 s1.2 W) (Lib.hid fun W => rless_gi _ _ d1.1 d1.2 W)
      (Lib.hid fun W => rshift03_gi _ 1 mo s1 (by omega) m0 m1 W) (Lib.hid fun W => rshift03_gi _ 1 mo d1 (by omega) m0 m1 W) w hbl (by simpa using k0.1) (by simpa using k0.2) (by simpa using k1.1) (by simpa using k1.2)
  | k + 2, hk, xs, px, cx, w, hl, hx, vx, vw => by
    have ih1 := rRun12_c bits mo inv ws L n hL hn lw hb m0 m1 hW hWb R hR hRB pw cw (k + 1) (by omega)
    have ih2 := rRun12_c bits mo inv ws L n hL hn lw hb m0 m1 hW hWb R hR hRB pw cw k (by omega)
    obtain ⟨hu, hdu⟩ := len_units k L n hk hn
    have hp6 : 2 ^ (k + 2) ≤ 64 := Nat.pow_le_pow_right (n := 2) (by omega) (show k + 2 ≤ 6 by omega)
    have hn6 : n ≤ 64 := by rw [hn]; exact Nat.pow_le_pow_right (n := 2) (by omega) hL
    have hp0 := Nat.two_pow_pos k
    have hu0 := Nat.two_pow_pos (L - (k + 2))
    have e1 : 2 ^ (k + 1) = 2 * 2 ^ k := by rw [Nat.pow_succ]; omega
    have e2 : 2 ^ (k + 2) = 4 * 2 ^ k := by rw [Nat.pow_succ, Nat.pow_succ]; omega
    obtain ⟨b, o, cap, hv, _, hbl, hc⟩ := vx.at (by intro e; rw [e] at hl; simp at hl; omega)
    rw [hl] at hv
    cases hv
    have hxe : ∀ j, j < 2 ^ (k + 1) → Len R (xs.getD (0 + 2 * j) ⟨0, 0⟩) := fun j hj => hx _ (by omega)
    have hxf : ∀ j, j < 2 ^ k → Len R (xs.getD (1 + 4 * j) ⟨0, 0⟩) := fun j hj => hx _ (by omega)
    have hxg : ∀ j, j < 2 ^ k → Len R (xs.getD (3 + 4 * j) ⟨0, 0⟩) := fun j hj => hx _ (by omega)
    have hm : mo = 0 ∨ mo = 1 ∨ mo = 2 := by omega
    have bE : ∀ j, j < 2 ^ (k + 1) → Bd 2147483648 ((sL bits mo inv ws (k + 1) ((List.range (2 ^ (k + 1))).map (pick xs 0 2))).getD j ⟨0, 0⟩) := fun j hj => by
      rw [sL_pick _ _ _ _ _ _ _ _ _ hj]
      exact Len.bd31 hb (by omega) (by omega) (spl_len bits mo inv _ _ hm hW (k + 1) R _ hR (by omega) hxe j hj)
    have bF : ∀ F j, j < 2 ^ k → (∀ j, j < 2 ^ k → Len R (xs.getD (F + 4 * j) ⟨0, 0⟩)) → Bd 2147483648 ((sL bits mo inv ws k ((List.range (2 ^ k)).map (pick xs F 4))).getD j ⟨0, 0⟩) := fun F j hj hh => by
      rw [sL_pick _ _ _ _ _ _ _ _ _ hj]
      exact Len.bd31 hb (by omega) (by omega) (spl_len bits mo inv _ _ hm hW k R _ hR (by omega) hh j hj)
    have hju : ∀ j, j < 2 ^ k → j * 2 ^ (L - (k + 2)) < n ∧ 3 * j * 2 ^ (L - (k + 2)) < n := by
      intro j hj
      have k1 : (j + 1) * 2 ^ (L - (k + 2)) ≤ 2 ^ k * 2 ^ (L - (k + 2)) := Nat.mul_le_mul_right _ hj
      rw [Nat.succ_mul] at k1
      rw [Nat.mul_assoc] at hu
      rw [Nat.mul_assoc]
      omega
    have rootB : ∀ i, i < n → Bd (2 ^ bits) (rootOf ws inv i) := by
      intro i hi
      have := hWb i hi
      unfold rootOf
      cases inv
      · exact this
      · have h := this.le
        exact Bd.mk (by simp only [if_true]; unfold Gi.conj; simp only; omega)
    have hWi : ∀ a ∈ ws, absI a.im ≤ 4611686018427387904 := by
      intro a ha
      obtain ⟨i, hi, rfl⟩ := List.getElem_of_mem ha
      have h := (hWb i (by omega)).le
      have hp := pow29 bits hb
      rw [List.getD_eq_getElem?_getD, List.getElem?_eq_getElem hi] at h
      simp only [Option.getD_some] at h
      exact absI_le.2 (by omega)
    have hdiv : ∀ i, i < 2 ^ (k + 2) → i / 2 ^ k < 4 := fun i hi => by rw [Nat.div_lt_iff_lt_mul hp0]; omega
    have := rRun_2 bits mo inv pw b o n cw cx (2 ^ (k + 2)) (2 ^ k) (2 ^ (k + 1)) (2 ^ (L - (k + 2))) xs ws _ _ _
      (fun i => joinG bits mo inv (i / 2 ^ k)
        ((sL bits mo inv ws (k + 1) ((List.range (2 ^ (k + 1))).map (pick xs 0 2))).getD (i % 2 ^ k) ⟨0, 0⟩) ((sL bits mo inv ws (k + 1) ((List.range (2 ^ (k + 1))).map (pick xs 0 2))).getD (2 ^ k + i % 2 ^ k) ⟨0, 0⟩)
        ((sL bits mo inv ws k ((List.range (2 ^ k)).map (pick xs 1 4))).getD (i % 2 ^ k) ⟨0, 0⟩) ((sL bits mo inv ws k ((List.range (2 ^ k)).map (pick xs 3 4))).getD (i % 2 ^ k) ⟨0, 0⟩)
        (rootOf ws inv (i % 2 ^ k * 2 ^ (L - (k + 2)))) (rootOf ws inv (3 * (i % 2 ^ k) * 2 ^ (L - (k + 2))))) hl e2 e1 hp0 hp6 (by rw [e2]; exact hu) hn6 hu0
      (sL_len bits mo inv ws (k + 1) ((List.range (2 ^ (k + 1))).map (pick xs 0 2))) (sL_len bits mo inv ws k ((List.range (2 ^ k)).map (pick xs 1 4))) (sL_len bits mo inv ws k ((List.range (2 ^ k)).map (pick xs 3 4))) lw
      (Lib.hid fun px cx W h1 h2 => ih1 _ px cx W (pick_len _ _ _ _) (fun j hj => by rw [getD_map _ _ _ hj]; exact hxe j hj) h1 h2)
      (Lib.hid fun px cx W h1 h2 => ih2 _ px cx W (pick_len _ _ _ _) (fun j hj => by rw [getD_map _ _ _ hj]; exact hxf j hj) h1 h2)
      (Lib.hid fun px cx W h1 h2 => ih2 _ px cx W (pick_len _ _ _ _) (fun j hj => by rw [getD_map _ _ _ hj]; exact hxg j hj) h1 h2)
      (Lib.hid fun j hj W v => root10_c _ ws j inv (by rw [lw]; exact hj) hWi W v)
      (Lib.hid fun i hi W => by
        have hj := Nat.mod_lt i hp0
        exact rJoin12_c bits mo inv (i / 2 ^ k) (hdiv i hi) _ _ _ _ _ _ hb m0 m1 (bE _ (by omega)) (bE _ (by omega)) (bF 1 _ hj hxf) (bF 3 _ hj hxg) (rootB _ (hju _ hj).1) (rootB _ (hju _ hj).2) W)
      w hbl (fun j hj => CxsAt.getD (n := 0) (cap := 0) hc j (by omega)) vw
    rw [sL_two, lw, hdu, ← e2]
    exact this

end Go.Proofs.YtmhcbphkkcmecaaGreat
