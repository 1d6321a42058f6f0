import Derived.Test.YtdignnmpfkgkoaaGreatRealBinsS36
namespace Go.Proofs.YtdignnmpfkgkoaaGreat
set_option maxHeartbeats 16000000
section
open Go.ChangeShapes Go.WideShapes Go.ChangeAt Go.RowKit
set_option linter.unusedVariables false
set_option linter.unusedSimpArgs false
set_option maxRecDepth 100000
set_option maxHeartbeats 16000000
theorem rRun12_c (bits : Nat) (mo : Int) (inv : Bool) (ws : List Gi) (L n : Nat) (hL : L ≤ 6) (hn : n = 2 ^ L) (lw : ws.length = n) (hb : bits ≤ 29) (m0 : 0 ≤ mo) (m1 : mo ≤ 2)
 (hW : ∀ k, Len (2 ^ bits + 2) (rootOf ws inv k)) (hWb : ∀ k, k < n → Bd (2 ^ bits) (ws.getD k ⟨0, 0⟩)) (R : Int) (hR : 0 ≤ R) (hRB : R + 30 ≤ 3 * 2 ^ bits) (pw : Option Addr) (cw : Nat) :
 ∀ (l : Nat), l ≤ L → ∀ (xs : List Gi) (px : Option Addr) (cx : Nat) (w : World), xs.length = 2 ^ l → (∀ j, j < 2 ^ l → Len R (xs.getD j ⟨0, 0⟩)) → CxsAt w (.slice px (2 ^ l : Nat) cx) xs → CxsAt w (.slice pw n cw) ws →
  Calls Tryz.prog 46 #[.slice px (2 ^ l : Nat) cx, .slice pw n cw, bits, mo, inv] w fun e w' => ∃ v, e = .returned v ∧ CxsAt w' v (sL bits mo inv ws l xs) ∧ Gr w w'
 | 0, _, xs, px, cx, w, hl, hx, vx, vw => by
   rw [sL_zero _ _ _ _ _ hl]
   exact rRun_0 bits mo inv pw px n cw cx xs w vx
 | 1, _, xs, px, cx, w, hl, hx, vx, vw => by
   rw [sL_one];obtain ⟨b, o, cap, hv, _, hbl, hc⟩ := vx.at (by intro e; rw [e] at hl; simp at hl);rw [hl] at hv
   cases hv
   have k0 := CxsAt.getD (n := 0) (cap := 0) hc 0 (by omega);have k1 := CxsAt.getD (n := 0) (cap := 0) hc 1 (by omega);have b0 := Len.bd31 hb hR (by omega) (hx 0 (by omega));have b1 := Len.bd31 hb hR (by omega) (hx 1 (by omega));have s := (b0.add b1).le;have d := (b0.sub b1).le
   have s1 : (-9223372036854775808 ≤ (xs.getD 0 ⟨0, 0⟩).re + (xs.getD 1 ⟨0, 0⟩).re ∧ (xs.getD 0 ⟨0, 0⟩).re + (xs.getD 1 ⟨0, 0⟩).re ≤ 9223372036854775807) ∧ -9223372036854775808 ≤ (xs.getD 0 ⟨0, 0⟩).im + (xs.getD 1 ⟨0, 0⟩).im ∧ (xs.getD 0 ⟨0, 0⟩).im + (xs.getD 1 ⟨0, 0⟩).im ≤ 9223372036854775807 := by
    simp only [gadd] at s; omega
   have d1 : (-9223372036854775808 ≤ (xs.getD 0 ⟨0, 0⟩).re - (xs.getD 1 ⟨0, 0⟩).re ∧ (xs.getD 0 ⟨0, 0⟩).re - (xs.getD 1 ⟨0, 0⟩).re ≤ 9223372036854775807) ∧ -9223372036854775808 ≤ (xs.getD 0 ⟨0, 0⟩).im - (xs.getD 1 ⟨0, 0⟩).im ∧ (xs.getD 0 ⟨0, 0⟩).im - (xs.getD 1 ⟨0, 0⟩).im ≤ 9223372036854775807 := by
    simp only [gsub] at d; omega
   exact rRun_1 bits mo inv pw b o n cw cx _ _ _ _ _ _ (kh fun W => rsum_gi _ _ s1.1 s1.2 W) (kh fun W => rless_gi _ _ d1.1 d1.2 W)
    (kh fun W => rshift03_gi _ 1 mo s1 (by omega) m0 m1 W) (kh fun W => rshift03_gi _ 1 mo d1 (by omega) m0 m1 W) w hbl (by simpa using k0.1) (by simpa using k0.2) (by simpa using k1.1) (by simpa using k1.2)
 | k + 2, hk, xs, px, cx, w, hl, hx, vx, vw => by
   have ih1 := rRun12_c bits mo inv ws L n hL hn lw hb m0 m1 hW hWb R hR hRB pw cw (k + 1) (by omega);have ih2 := rRun12_c bits mo inv ws L n hL hn lw hb m0 m1 hW hWb R hR hRB pw cw k (by omega);obtain ⟨hu, hdu⟩ := len_units k L n hk hn
   have hp6 : 2 ^ (k + 2) ≤ 64 := Nat.pow_le_pow_right (n := 2) (by omega) (show k + 2 ≤ 6 by omega)
   have hn6 : n ≤ 64 := by rw [hn]; exact Nat.pow_le_pow_right (n := 2) (by omega) hL
   have hp0 := Nat.two_pow_pos k;have hu0 := Nat.two_pow_pos (L - (k + 2))
   have e1 : 2 ^ (k + 1) = 2 * 2 ^ k := by rw [Nat.pow_succ]; omega
   have e2 : 2 ^ (k + 2) = 4 * 2 ^ k := by rw [Nat.pow_succ, Nat.pow_succ]; omega
   obtain ⟨b, o, cap, hv, _, hbl, hc⟩ := vx.at (by intro e; rw [e] at hl; simp at hl; omega);rw [hl] at hv
   cases hv
   have hxe : ∀ j, j < 2 ^ (k + 1) → Len R (xs.getD (0 + 2 * j) ⟨0, 0⟩) := fun j hj => hx _ (by omega)
   have hxf : ∀ j, j < 2 ^ k → Len R (xs.getD (1 + 4 * j) ⟨0, 0⟩) := fun j hj => hx _ (by omega)
   have hxg : ∀ j, j < 2 ^ k → Len R (xs.getD (3 + 4 * j) ⟨0, 0⟩) := fun j hj => hx _ (by omega)
   have hm : mo = 0 ∨ mo = 1 ∨ mo = 2 := by omega
   have bE : ∀ j, j < 2 ^ (k + 1) → Bd 2147483648 ((sL bits mo inv ws (k + 1) ((List.range (2 ^ (k + 1))).map (pick xs 0 2))).getD j ⟨0, 0⟩) := fun j hj => by
    rw [sL_pick _ _ _ _ _ _ _ _ _ hj]
    exact Len.bd31 hb (by omega) (by omega) (spl_len bits mo inv _ _ hm hW (k + 1) R _ hR (by omega) hxe j hj)
   have bF : ∀ F j, j < 2 ^ k → (∀ j, j < 2 ^ k → Len R (xs.getD (F + 4 * j) ⟨0, 0⟩)) → Bd 2147483648 ((sL bits mo inv ws k ((List.range (2 ^ k)).map (pick xs F 4))).getD j ⟨0, 0⟩) := fun F j hj hh => by
    rw [sL_pick _ _ _ _ _ _ _ _ _ hj]
    exact Len.bd31 hb (by omega) (by omega) (spl_len bits mo inv _ _ hm hW k R _ hR (by omega) hh j hj)
   have hju : ∀ j, j < 2 ^ k → j * 2 ^ (L - (k + 2)) < n ∧ 3 * j * 2 ^ (L - (k + 2)) < n := by
    intro j hj
    have k1 : (j + 1) * 2 ^ (L - (k + 2)) ≤ 2 ^ k * 2 ^ (L - (k + 2)) := Nat.mul_le_mul_right _ hj
    rw [Nat.succ_mul] at k1;rw [Nat.mul_assoc] at hu;rw [Nat.mul_assoc]
    omega
   have rootB : ∀ i, i < n → Bd (2 ^ bits) (rootOf ws inv i) := by
    intro i hi
    have := hWb i hi
    unfold rootOf
    cases inv
    ·exact this
    ·have h := this.le
     exact Bd.mk (by simp only [if_true]; unfold Gi.conj; simp only; omega)
   have hWi : ∀ a ∈ ws, absI a.im ≤ 4611686018427387904 := by
    intro a ha
    obtain ⟨i, hi, rfl⟩ := List.getElem_of_mem ha;have h := (hWb i (by omega)).le;have hp := pow29 bits hb;rw [List.getD_eq_getElem?_getD, List.getElem?_eq_getElem hi] at h;simp only [Option.getD_some] at h
    exact absI_le.2 (by omega)
   have hdiv : ∀ i, i < 2 ^ (k + 2) → i / 2 ^ k < 4 := fun i hi => by rw [Nat.div_lt_iff_lt_mul hp0]; omega
   have := rRun_2 bits mo inv pw b o n cw cx (2 ^ (k + 2)) (2 ^ k) (2 ^ (k + 1)) (2 ^ (L - (k + 2))) xs ws _ _ _
    (fun i => joinG bits mo inv (i / 2 ^ k)
     ((sL bits mo inv ws (k + 1) ((List.range (2 ^ (k + 1))).map (pick xs 0 2))).getD (i % 2 ^ k) ⟨0, 0⟩) ((sL bits mo inv ws (k + 1) ((List.range (2 ^ (k + 1))).map (pick xs 0 2))).getD (2 ^ k + i % 2 ^ k) ⟨0, 0⟩)
     ((sL bits mo inv ws k ((List.range (2 ^ k)).map (pick xs 1 4))).getD (i % 2 ^ k) ⟨0, 0⟩) ((sL bits mo inv ws k ((List.range (2 ^ k)).map (pick xs 3 4))).getD (i % 2 ^ k) ⟨0, 0⟩)
     (rootOf ws inv (i % 2 ^ k * 2 ^ (L - (k + 2)))) (rootOf ws inv (3 * (i % 2 ^ k) * 2 ^ (L - (k + 2))))) hl e2 e1 hp0 hp6 (by rw [e2]; exact hu) hn6 hu0
    (sL_len bits mo inv ws (k + 1) ((List.range (2 ^ (k + 1))).map (pick xs 0 2))) (sL_len bits mo inv ws k ((List.range (2 ^ k)).map (pick xs 1 4))) (sL_len bits mo inv ws k ((List.range (2 ^ k)).map (pick xs 3 4))) lw
    (kh fun px cx W h1 h2 => ih1 _ px cx W (pick_len _ _ _ _) (fun j hj => by rw [getD_map _ _ _ hj]; exact hxe j hj) h1 h2)
    (kh fun px cx W h1 h2 => ih2 _ px cx W (pick_len _ _ _ _) (fun j hj => by rw [getD_map _ _ _ hj]; exact hxf j hj) h1 h2)
    (kh fun px cx W h1 h2 => ih2 _ px cx W (pick_len _ _ _ _) (fun j hj => by rw [getD_map _ _ _ hj]; exact hxg j hj) h1 h2)
    (kh fun j hj W v => root10_c _ ws j inv (by rw [lw]; exact hj) hWi W v)
    (kh fun i hi W => by
     have hj := Nat.mod_lt i hp0
     exact rJoin12_c bits mo inv (i / 2 ^ k) (hdiv i hi) _ _ _ _ _ _ hb m0 m1 (bE _ (by omega)) (bE _ (by omega)) (bF 1 _ hj hxf) (bF 3 _ hj hxg) (rootB _ (hju _ hj).1) (rootB _ (hju _ hj).2) W)
    w hbl (fun j hj => CxsAt.getD (n := 0) (cap := 0) hc j (by omega)) vw
   rw [sL_two, lw, hdu, ← e2]
   exact this
end
section
open Go.ChangeShapes Go.WideShapes Go.ChangeAt Go.RowKit
set_option linter.unusedVariables false
set_option maxRecDepth 100000
set_option maxHeartbeats 16000000
theorem man_wf {fo b p lo ke sc mo : Int} {L n B : Nat} (H : PlF fo b p lo ke sc mo L n B) {xs : List Gi} (hm : ManB p xs) : ∀ a ∈ xs, (Lit.int .i64 a.re).wf = true ∧ (Lit.int .i64 a.im).wf = true := by
 intro a ha
 have h := hm a ha
 have hp : p ≤ 2147483648 := by rcases H.sizes with h | h <;> omega
 exact ⟨WalkArith.wf_i64 (by omega), WalkArith.wf_i64 (by omega)⟩
theorem flip_man {p : Int} {L : Nat} {xs : List Gi} (h : xs.length = 2 ^ L) (hm : ManB p xs) : ManB p (flipL L xs) := fun a ha => hm a (flip_mem h ha)
theorem first_bd (sc p : Int) (xs : List Gi) : -31 ≤ atFirst sc p xs ∧ atFirst sc p xs ≤ 1 := by
 have := room_le p (maxG xs)
 unfold atFirst
 repeat' split
 all_goals omega
theorem first_room {fo b p lo ke sc mo : Int} {L n B : Nat} (H : PlF fo b p lo ke sc mo L n B) {xs ys : List Gi} (hm : ManB p ys) : atFirst sc p xs < 0 → allIn (2 ^ (62 + atFirst sc p xs).toNat) ys = true := by
 intro _
 have hb := first_bd sc p xs
 refine allIn_more hm.all (Int.le_trans (show p ≤ 2 ^ 31 by rcases H.sizes with h | h <;> omega) ?_)
 have : (2 : Nat) ^ 31 ≤ 2 ^ (62 + atFirst sc p xs).toNat := Nat.pow_le_pow_right (by decide) (by omega)
 exact_mod_cast this
theorem rshift15_c {fo b p lo ke sc mo : Int} {L n B : Nat} (H : PlF fo b p lo ke sc mo L n B) (xs ys : List Gi) (hm : ManB p ys) (hl : ys.length ≤ 1048576) (v : Value) (w : World) (hv : CxsAt w v ys) :
 Calls Tryz.prog 87 #[v, (atFirst sc p xs), mo] w fun e w' => ∃ u, e = .returned u ∧ CxsAt w' u (ys.map (shG (atFirst sc p xs) mo)) ∧ Gr w w' := by
 obtain ⟨hmo, _⟩ := H.kinds
 have hb := first_bd sc p xs
 exact shifted09_c v ys _ mo (by omega) (by omega) (by omega) (by omega) (man_wf H hm) (first_room H hm) hl w hv
theorem ready15_c {fo b p lo ke sc mo : Int} {L n B : Nat} (H : PlF fo b p lo ke sc mo L n B) (iv : Bool) (v : Value) (xs : List Gi) (hl : xs.length = n) (hm : ManB p xs) (w : World) (hv : CxsAt w v xs) :
 Calls Tryz.prog 45 #[v, .agg #[fo, lo, ke, sc, mo, iv]] w fun e w' =>
  ∃ u, e = .returned (.agg #[u, (readyB ke sc mo p L xs).ex, (readyB ke sc mo p L xs).sat, .slice none 0 0]) ∧ CxsAt w' u (readyB ke sc mo p L xs).X ∧ Gr w w' := by
 obtain ⟨hmo, hsc, hks, _⟩ := H.kinds
 obtain ⟨⟨l2, l6⟩, h4, _⟩ := H.lens
 have hl2 : xs.length = 2 ^ L := by rw [hl, H.n]
 have hfm := flip_man hl2 hm
 have hfl := flipL_len L xs
 have h64 := pow_le L l6
 unfold readyB
 by_cases hke : ke = 2
 ·have hs := hks hke
  subst hke;subst hs;rw [if_pos rfl]
  exact ready15_split v xs _ fo lo 0 mo iv (kh fun v W h => rshift15_c H xs xs hm (by omega) v W h) w hv
 ·have hke2 : (ke == 2) = false := by simp [hke]
  rw [if_neg hke];have HF := kh fun W (h : CxsAt W v xs) => rflip08_c v xs L l2 l6 hl2 W h
  rcases hsc with rfl | rfl | rfl
  ·exact ready15_0 v xs (flipL L xs) _ fo lo ke mo iv hke2 HF (kh fun v W h => rshift15_c H xs (flipL L xs) hfm (by omega) v W h) w hv
  ·have hp : p ≤ 2147483648 ∧ 0 ≤ p := by rcases H.sizes with h | h <;> omega
   have hg := maxG_le xs p hp.2 ((allIn_iff p xs).1 hm.all);have hr := room_le p (maxG xs)
   exact ready15_1 v xs (flipL L xs) _ fo lo ke mo (maxG xs) (room p (maxG xs) : Nat) (-(room p (maxG xs) : Int)) iv hke2 (IntWalk.i64_in _ ⟨by omega, by omega⟩) (kh fun W h => max09_c v xs (allIn_more hm.all hp.1) W h) (kh fun W => calls_gr (room09_c (maxG xs) fo b p H.fb (maxG_nonneg xs) hg W)) HF
    (kh fun v W h => rshift15_c H xs (flipL L xs) hfm (by omega) v W h) w hv
  ·exact ready15_2 v xs (flipL L xs) _ fo lo ke mo iv hke2 HF (kh fun v W h => rshift15_c H xs (flipL L xs) hfm (by omega) v W h) w hv
theorem behind_sh {sc mo p : Int} {B : Nat} (iv : Bool) (ws : List Gi) : ∀ (l : List Gi) (b0 : BV), (l.foldl (nextB sc mo p iv B ws) b0).sh.length = b0.sh.length + l.length
 | [], b0 => rfl
 | q :: l, b0 => by
   rw [List.foldl_cons, behind_sh iv ws l, List.length_cons];simp only [nextB, List.length_append, List.length_singleton]
   omega
theorem behind_ex {sc mo p : Int} {B : Nat} (iv : Bool) (ws : List Gi) : ∀ (l : List Gi) (b0 : BV), b0.ex ≤ (l.foldl (nextB sc mo p iv B ws) b0).ex ∧ (l.foldl (nextB sc mo p iv B ws) b0).ex ≤ b0.ex + 3 * l.length
 | [], b0 => by simp
 | q :: l, b0 => by
   have h := behind_ex (sc := sc) (mo := mo) (p := p) (B := B) iv ws l (nextB sc mo p iv B ws b0 q);have hs := shOf_bd sc q.re p b0.X;rw [List.foldl_cons, List.length_cons];simp only [nextB] at h;simp only [nextB]
   omega
theorem passL_len7 {fo b p lo ke sc mo : Int} {L n B : Nat} (H : PlF fo b p lo ke sc mo L n B) : (passL ke lo).length ≤ 6 ∧ ∀ q ∈ passL ke lo, Fits n q := by
 obtain ⟨hmo, hsc, _, k0, k1⟩ := H.kinds
 obtain ⟨⟨l2, l6⟩, h4, hlen⟩ := H.lens
 have hlo := H.lo
 constructor
 ·have hk : ke = 0 ∨ ke = 1 ∨ ke = 2 := by omega
  have hl : lo = 2 ∨ lo = 3 ∨ lo = 4 ∨ lo = 5 ∨ lo = 6 := by omega
  rcases hk with rfl | rfl | rfl <;> rcases hl with rfl | rfl | rfl | rfl | rfl <;> decide +kernel
 ·have := passL_fits ke lo k0 k1 (by omega) (by omega)
  rw [H.n];rw [show lo.toNat = L by omega] at this
  exact this
theorem behind_may {fo b p lo ke sc mo : Int} {L n B : Nat} (H : PlF fo b p lo ke sc mo L n B) (iv : Bool) {xs : List Gi} (hl : xs.length = n) (hm : ManB p xs) (j : Nat) (hj : j ≤ (passL ke lo).length) :
 (behindB ke lo sc mo p iv L B (tw n B) xs j).sh.length = j ∧ -31 ≤ (behindB ke lo sc mo p iv L B (tw n B) xs j).ex ∧ (behindB ke lo sc mo p iv L B (tw n B) xs j).ex ≤ 19 := by
 have h6 := (passL_len7 H).1
 have hb := first_bd sc p xs
 have ht : ((passL ke lo).take j).length = j := by rw [List.length_take]; omega
 have h1 := behind_sh (sc := sc) (mo := mo) (p := p) (B := B) iv (tw n B) ((passL ke lo).take j) (readyB ke sc mo p L xs)
 have h2 := behind_ex (sc := sc) (mo := mo) (p := p) (B := B) iv (tw n B) ((passL ke lo).take j) (readyB ke sc mo p L xs)
 rw [ht] at h1 h2
 unfold behindB
 refine ⟨by rw [h1]; simp [readyB], ?_, ?_⟩
 ·refine Int.le_trans ?_ h2.1
  exact hb.1
 ·refine Int.le_trans h2.2 ?_
  simp only [readyB]
  omega
theorem rrun12_c {fo b p lo ke sc mo : Int} {L n B : Nat} (H : PlF fo b p lo ke sc mo L n B) (iv : Bool) (ys : List Gi) (hl : ys.length = n) (hh : ∀ y ∈ ys, Bd (p / 2) y) (vx vw : Value) (w : World) (hvx : CxsAt w vx ys) (hvw : CxsAt w vw (tw n B)) :
 Calls Tryz.prog 46 #[vx, vw, B, mo, iv] w fun e w' => ∃ u, e = .returned u ∧ CxsAt w' u (sL B mo iv (tw n B) L ys) ∧ Gr w w' := by
 obtain ⟨px, cx, rfl⟩ := hvx.len
 obtain ⟨pw, cw, rfl⟩ := hvw.len
 obtain ⟨hmo, _⟩ := H.kinds
 obtain ⟨⟨l2, l6⟩, h4, hlen⟩ := H.lens
 rw [tw_len] at hvw ⊢
 rw [hl] at hvx ⊢
 have hb : 12 ≤ B ∧ B ≤ 29 := by rcases H.sizes with h | h <;> omega
 obtain ⟨R, hR0, hRB, hR⟩ : ∃ R : Int, 0 ≤ R ∧ R + 30 ≤ 3 * 2 ^ B ∧ ∀ y ∈ ys, Len R y := by
  rcases H.sizes with ⟨_, _, rfl, rfl⟩ | ⟨_, _, rfl, rfl⟩
  ·exact ⟨23171, by decide, by decide, fun y hy => len_start _ 16384 23171 (by decide) (by omega) (hh y hy)⟩
  ·exact ⟨1518500250, by decide, by decide, fun y hy => len_start _ 1073741824 1518500250 (by decide) (by omega) (hh y hy)⟩
 have h := rRun12_c B mo iv (tw n B) L n l6 H.n (tw_len n B) hb.2 (by omega) (by omega) (fun k => roots_len n hlen B (by omega) (by omega) iv k) (fun k hk => roots_in n hlen B (by omega) (by omega) k (by omega)) R hR0 hRB pw cw L (Nat.le_refl _) ys px cx w (by rw [hl, H.n])
  (fun j hj => by
   have hjl : j < ys.length := by rw [hl, H.n]; exact hj
   rw [List.getD_eq_getElem?_getD, List.getElem?_eq_getElem hjl]
   exact hR _ (List.getElem_mem hjl)) (by rw [← H.n]; exact hvx) hvw
 rw [← H.n] at h
 exact h
theorem run15_c {fo b p lo ke sc mo : Int} {L n B : Nat} (H : PlF fo b p lo ke sc mo L n B) (iv : Bool) (v : Value) (xs : List Gi) (hl : xs.length = n) (hm : ManB p xs) (w : World) (hv : CxsAt w v xs) :
 Calls Tryz.prog 18 #[v, .agg #[fo, lo, ke, sc, mo, iv]] w fun e w' =>
  ∃ vx vs, e = .returned (.agg #[vx, (runB15 ke lo sc mo p iv L B (tw n B) xs).ex, (runB15 ke lo sc mo p iv L B (tw n B) xs).sat, vs]) ∧ CxsAt w' vx (runB15 ke lo sc mo p iv L B (tw n B) xs).X ∧ NumsAt w' vs (runB15 ke lo sc mo p iv L B (tw n B) xs).sh ∧ Gr w w' := by
 obtain ⟨hmo, hsc, hks, _⟩ := H.kinds
 obtain ⟨⟨l2, l6⟩, h4, _⟩ := H.lens
 have HP : Hid (∀ W, Calls Tryz.prog 48 #[.agg #[fo, lo, ke, sc, mo, iv]] W fun e w' => ∃ v, e = .returned v ∧ CxsAt w' v (passL ke lo) ∧ Gr W w') := kh fun W => refPasses_c fo lo ke sc mo iv H.ok W
 unfold runB15
 by_cases hke : ke = 2
 ·have hs := hks hke
  subst hke;subst hs;rw [if_pos rfl];have hrl := ready_len H hl
  have hh : ∀ y ∈ (readyB 2 0 mo p L xs).X, Bd (p / 2) y := by
   intro y hy
   obtain ⟨a, ha, rfl⟩ := ready_mem H hl hy
   exact bd_iff.2 ((ready_part H hm a ha).2 rfl)
  have h := run15_split v xs (readyB 2 0 mo p L xs).X (tw n B) _ fo lo 0 mo B 1 (1 + lo) iv (IntWalk.wrap64_in _ ⟨by have := H.lo; omega, by have := H.lo; omega⟩) (kh fun W h => ready15_c H iv v xs hl hm W h) (kh fun W => rtwid15_c H W) (kh fun W => rbits15_c H W)
   (kh fun vx vw W h h' => rrun12_c H iv _ hrl hh vx vw W h h') HP w hv
  exact h.mono fun e w' ⟨vx, h1, h2, h3⟩ => ⟨vx, _, h1, h2, NumsAt.nil _, h3⟩
 ·rw [if_neg hke]
  obtain ⟨h6, hfit⟩ := passL_len7 H;have h := run15_passes v xs (passL ke lo) (behindB ke lo sc mo p iv L B (tw n B) xs) fo lo ke sc mo iv (by simp [hke]) (by omega) rfl (kh fun W h => ready15_c H iv v xs hl hm W h) HP (kh fun j q hq vx vs W hvx hvs => ?_) w hv
  ·exact h
  ·have hj := (List.getElem?_eq_some_iff.1 hq).1
   obtain ⟨a1, a2⟩ := behind_man H iv hl hm j (by omega);obtain ⟨b1, b2, b3⟩ := behind_may H iv hl hm j (by omega);rw [behindB_next hq]
   exact (next15_c H iv q (hfit q (List.mem_of_getElem? hq)) _ a1 a2.all (by omega) (by omega) (by omega) vx vs W hvx hvs)
end
section
set_option linter.unusedVariables false
set_option linter.unusedSimpArgs false
set_option maxRecDepth 100000
set_option maxHeartbeats 16000000
def wv (n : Nat) (iv : Bool) (i : Nat) : Gi := if iv then (rootG n i 16).conj else rootG n i 16
def gneg (a : Gi) : Gi := ⟨-a.re, -a.im⟩
def gsubS (a b : Gi) : Gi := ⟨a.re - b.re, a.im - b.im⟩
def gup (s : Int) (a : Gi) : Gi := ⟨a.re * s, a.im * s⟩
theorem gi_eq {a b : Gi} (h1 : a.re = b.re) (h2 : a.im = b.im) : a = b := Gi.ext2 h1 h2
def Near (e : Int) (pow : Nat) (c V : Gi) : Prop := Len (e * 2 ^ (pow + 40)) (gsubS (gup (64 * 2 ^ (pow + 40)) c) (gup 64 V))
theorem Len.up {R s : Int} {a : Gi} (hs : 0 ≤ s) (h : Len R a) : Len (R * s) (gup s a) := by
 unfold Len gup
 unfold Len at h
 simp only
 have e1 : a.re * s * (a.re * s) + a.im * s * (a.im * s) = (a.re * a.re + a.im * a.im) * (s * s) := by grind
 have e2 : R * s * (R * s) = R * R * (s * s) := by grind
 rw [e1, e2]
 exact Int.mul_le_mul_of_nonneg_right h (Int.mul_nonneg hs hs)
def Terms (K : Int) (pow B : Nat) (T U : Gi) : Prop := Len K (gup 1099511627776 (gsubS (gup (64 * 2 ^ (pow + 40 - B)) T) (gup 64 U)))
theorem Terms.add {K K' : Int} {pow B : Nat} {T U T' U' : Gi} (hK : 0 ≤ K) (hK' : 0 ≤ K') (h : Terms K pow B T U) (h' : Terms K' pow B T' U') : Terms (K + K') pow B (gadd T T') (gadd U U') := by
 have hs := Len.add hK hK' h h'
 unfold Terms
 refine Eq.mp (congrArg _ ?_) hs
 apply gi_eq <;> simp only [gadd, gup, gsubS] <;> grind
theorem Len.negG {R : Int} {a : Gi} (h : Len R a) : Len R (gneg a) := h.neg
theorem Terms.neg {K : Int} {pow B : Nat} {T U : Gi} (h : Terms K pow B T U) : Terms K pow B (gneg T) (gneg U) := by
 have := Len.negG h
 unfold Terms
 refine Eq.mp (congrArg _ ?_) this
 apply gi_eq <;> simp only [gneg, gup, gsubS] <;> grind
theorem getD_map_range {f : Nat → Gi} {n i : Nat} (hi : i < n) : ((List.range n).map f).getD i ⟨0, 0⟩ = f i := by
 rw [List.getD_eq_getElem?_getD, List.getElem?_map, List.getElem?_range hi]
 rfl
theorem Terms.turn {K : Int} {pow B : Nat} {T U : Gi} (h : Terms K pow B T U) (q : Int) : Terms K pow B (T.turn q) (U.turn q) := by
 have := Len.turn h q
 unfold Terms
 refine Eq.mp (congrArg _ ?_) this
 unfold Gi.turn
 rcases q4 q with h | h | h | h <;> simp [h, gup, gsubS] <;> first | done | (constructor <;> grind) | grind
end
section
open Go.ChangeShapes Go.WideShapes Go.ChangeAt Go.RowKit
set_option linter.unusedVariables false
set_option maxRecDepth 100000
set_option maxHeartbeats 16000000
def oneB (fo : Int) : Int := if fo = 0 then 32768 else 2147483648
def whyB (fo lo ke sc mo : Int) (op : Bool) (xs : List Gi) : Int := if okF fo lo ke sc mo = true then (if (xs.length : Int) = 2 ^ lo.toNat then (if partsB (-(oneB fo)) (if op = true then oneB fo else oneB fo - 1) xs = true then 0 else 2) else 3) else 4
theorem fb_of {fo lo ke sc mo : Int} (h : okF fo lo ke sc mo = true) : ∃ b, FB fo b (oneB fo) ∧ b = (if fo = 0 then 15 else 31) := by
 have hf := okF_iff.1 h
 have hc : fo = 0 ∨ fo = 1 := by omega
 rcases hc with rfl | rfl
 ·exact ⟨15, .inl ⟨rfl, rfl, rfl⟩, rfl⟩
 ·exact ⟨31, .inr ⟨rfl, rfl, rfl⟩, rfl⟩
theorem plF_of {fo lo ke sc mo : Int} (h : okF fo lo ke sc mo = true) : PlF fo (if fo = 0 then 15 else 31) (oneB fo) lo ke sc mo lo.toNat (2 ^ lo.toNat) (if fo = 0 then 13 else 29) := by
 have hf := okF_iff.1 h
 obtain ⟨b, hb, rfl⟩ := fb_of h
 refine ⟨hb, h, by omega, rfl, ?_⟩
 split <;> rfl
theorem why_yes {fo lo ke sc mo : Int} {op : Bool} {xs : List Gi} (h : whyB fo lo ke sc mo op xs = 0) : okF fo lo ke sc mo = true ∧ xs.length = 2 ^ lo.toNat ∧ partsB (-(oneB fo)) (if op = true then oneB fo else oneB fo - 1) xs = true := by
 unfold whyB at h
 by_cases h1 : okF fo lo ke sc mo = true
 ·rw [if_pos h1] at h
  by_cases h2 : (xs.length : Int) = 2 ^ lo.toNat
  ·rw [if_pos h2] at h
   by_cases h3 : partsB (-(oneB fo)) (if op = true then oneB fo else oneB fo - 1) xs = true
   ·exact ⟨h1, Int.ofNat.inj (by rw [Int.ofNat_eq_natCast, Int.ofNat_eq_natCast, h2]; simp), h3⟩
   ·rw [if_neg h3] at h
    cases h
  ·rw [if_neg h2] at h
   cases h
 ·rw [if_neg h1] at h
  cases h
theorem may15_c (v : Value) (fo lo ke sc mo : Int) (iv op : Bool) (xs : List Gi) (w : World) (hv : CxsAt w v xs) :
 CW 16 #[v, .agg #[fo, lo, ke, sc, mo, iv], op] w (.int .i64 (whyB fo lo ke sc mo op xs)) :=by
 delta CW
 obtain ⟨p, cap, rfl⟩ := hv.len
 unfold whyB
 have HC := kh fun W => refCheck_c fo lo ke sc mo iv _ rfl W
 by_cases hk : okF fo lo ke sc mo = true
 ·rw [if_pos hk]
  rw [hk] at HC;have hf := okF_iff.1 hk;obtain ⟨b, hb, _⟩ := fb_of hk;have HP := kh fun W => calls_gr (pow_c lo (by omega) (by omega) W)
  have HO := kh fun W => calls_gr (rone_c fo b (oneB fo) hb W)
  have hq : 0 ≤ oneB fo ∧ oneB fo ≤ 2147483648 := by unfold oneB; split <;> omega
  by_cases hn : (xs.length : Int) = 2 ^ lo.toNat
  ·rw [if_pos hn]
   have hn2 : ((xs.length : Int) == 2 ^ lo.toNat) = true := by simp [hn]
   have HA := fun h => kh fun W (g : CxsAt W (.slice p xs.length cap) xs) => parts15_c (.slice p xs.length cap) xs (-(oneB fo)) h W g
   cases op
   ·simp only [Bool.false_eq_true, if_false]
    have HA1 := HA (oneB fo - 1)
    cases hp : partsB (-(oneB fo)) (oneB fo - 1) xs
    ·rw [hp] at HA1
     exact may15_oyA.2.2.2 p xs.length cap xs fo lo ke sc mo _ (oneB fo) iv hn2 hq.1 hq.2 HC HP HO HA1 w hv
    ·rw [hp] at HA1
     exact may15_oyA.2.2.1 p xs.length cap xs fo lo ke sc mo _ (oneB fo) iv hn2 hq.1 hq.2 HC HP HO HA1 w hv
   ·simp only [if_true]
    have HA1 := HA (oneB fo)
    cases hp : partsB (-(oneB fo)) (oneB fo) xs
    ·rw [hp] at HA1
     exact may15_oyA.2.1 p xs.length cap xs fo lo ke sc mo _ (oneB fo) iv hn2 hq.1 hq.2 HC HP HO HA1 w hv
    ·rw [hp] at HA1
     exact may15_oyA.1 p xs.length cap xs fo lo ke sc mo _ (oneB fo) iv hn2 hq.1 hq.2 HC HP HO HA1 w hv
  ·rw [if_neg hn]
   exact may15_size p xs.length cap fo lo ke sc mo _ iv op (by simp [hn]) HC HP w
 ·rw [if_neg hk]
  have hk' : okF fo lo ke sc mo = false := by simpa using hk
  rw [hk'] at HC
  exact may15_plan _ fo lo ke sc mo iv op HC w
def FftSaid (F : FuncId) (V : Int → Int → Int → Int → Int → Bool → List Gi → BV) : Prop :=
 (∀ (fo lo ke sc mo : Int) (iv : Bool) (v : Value) (xs : List Gi), whyB fo lo ke sc mo false xs = 0 → ∀ W, CxsAt W v xs → Calls Tryz.prog F #[v, .agg #[fo, lo, ke, sc, mo, iv]] W fun e w' =>
  ∃ vx vs, e = .returned (.tuple #[.agg #[vx, (V fo lo ke sc mo iv xs).ex, (V fo lo ke sc mo iv xs).sat, vs], .int .i64 0]) ∧ CxsAt w' vx (V fo lo ke sc mo iv xs).X ∧ NumsAt w' vs (V fo lo ke sc mo iv xs).sh ∧ Gr W w') ∧
 (∀ (fo lo ke sc mo : Int) (iv : Bool) (v : Value) (xs : List Gi) (y : Int), whyB fo lo ke sc mo false xs = y → y ≠ 0 → ∀ W, CxsAt W v xs → Calls Tryz.prog F #[v, .agg #[fo, lo, ke, sc, mo, iv]] W fun e w' =>
  e = .returned (.tuple #[.agg #[.slice none 0 0, .int .i64 0, false, .slice none 0 0], y]) ∧ Gr W w')
def runF (fo lo ke sc mo : Int) (iv : Bool) (xs : List Gi) : BV := runB15 ke lo sc mo (oneB fo) iv lo.toNat (if fo = 0 then 13 else 29) (tw (2 ^ lo.toNat) (if fo = 0 then 13 else 29)) xs
def readyF (fo lo ke sc mo : Int) (iv : Bool) (xs : List Gi) : BV := readyB ke sc mo (oneB fo) lo.toNat xs
end
section
open Go.ChangeShapes Go.WideShapes Go.ChangeAt Go.RowKit
set_option linter.unusedVariables false
set_option linter.unusedSimpArgs false
set_option maxRecDepth 100000
set_option maxHeartbeats 16000000
def z0 : Gi := ⟨0, 0⟩
end
section
set_option linter.unusedVariables false
set_option linter.unusedSimpArgs false
set_option maxRecDepth 100000
set_option maxHeartbeats 16000000
theorem Near.mono {e e' : Int} {pow : Nat} {c V : Gi} (h0 : 0 ≤ e) (h : Near e pow c V) (hle : e ≤ e') : Near e' pow c V := by
 have hp : (0 : Int) ≤ 2 ^ (pow + 40) := Int.le_of_lt (Int.pow_pos (by decide))
 exact Len.mono (Int.mul_nonneg h0 hp) h (Int.mul_le_mul_of_nonneg_right hle hp)
theorem IsLog.len {n : Nat} {L : Nat} (h : IsLog (n : Int) L) : IsLen (n : Int) := by
 unfold IsLen
 rcases isLog_cases h with ⟨_, h⟩ | ⟨_, h⟩ | ⟨_, h⟩ | ⟨_, h⟩ | ⟨_, h⟩ <;> omega
end
section
open Go.ChangeShapes Go.WideShapes Go.ChangeAt Go.RowKit
set_option linter.unusedVariables false
set_option maxRecDepth 100000
set_option maxHeartbeats 16000000
def AllO (xs : List Gi) : Prop := ∀ a ∈ xs, a = ⟨0, 0⟩
theorem AllO.getD {xs : List Gi} (h : AllO xs) (i : Nat) : xs.getD i ⟨0, 0⟩ = ⟨0, 0⟩ := by
 rw [List.getD_eq_getElem?_getD]
 cases e : xs[i]? with
 | none => rfl
 | some a => exact h a (List.mem_of_getElem? e)
theorem AllO.max {xs : List Gi} (h : AllO xs) : maxG xs = 0 := by
 have h1 := maxG_nonneg xs
 have h2 := maxG_le xs 0 (Int.le_refl 0) (fun a ha => by rw [h a ha]; exact ⟨by decide, by decide⟩)
 omega
section
variable {fo b p lo ke sc mo : Int} {L n B : Nat} {xs : List Gi}
theorem split_man (H : PlF fo b p lo ke sc mo L n B) (iv : Bool) {ys : List Gi} (hl : ys.length = n) (hh : ∀ y ∈ ys, Bd (p / 2) y) : ManB p (sL B mo iv (tw n B) L ys) := by
 obtain ⟨hmo, _⟩ := H.kinds
 obtain ⟨⟨l2, l6⟩, h4, hlen⟩ := H.lens
 have hb : 12 ≤ B ∧ B ≤ 29 ∧ 3 * 2 ^ B ≤ p - 1 := by rcases H.sizes with ⟨_, _, rfl, rfl⟩ | ⟨_, _, rfl, rfl⟩ <;> decide
 obtain ⟨R, hR0, hRB, hR⟩ : ∃ R : Int, 0 ≤ R ∧ R + 30 ≤ 3 * 2 ^ B ∧ ∀ y ∈ ys, Len R y := by
  rcases H.sizes with ⟨_, _, rfl, rfl⟩ | ⟨_, _, rfl, rfl⟩
  ·exact ⟨23171, by decide, by decide, fun y hy => len_start _ 16384 23171 (by decide) (by omega) (hh y hy)⟩
  ·exact ⟨1518500250, by decide, by decide, fun y hy => len_start _ 1073741824 1518500250 (by decide) (by omega) (hh y hy)⟩
 refine bd_man (fun a ha => ?_)
 obtain ⟨i, hi, rfl⟩ := List.mem_map.1 ha
 have hi := List.mem_range.1 hi
 have := spl_len B mo iv (rootOf (tw n B) iv) (tw n B).length hmo (fun k => roots_len n hlen B (by omega) (by omega) iv k) L R (fun j => ys.getD j ⟨0, 0⟩) hR0 (by omega)
  (fun j hj => by
   have hjl : j < ys.length := by rw [hl, H.n]; exact hj
   rw [List.getD_eq_getElem?_getD, List.getElem?_eq_getElem hjl]
   exact hR _ (List.getElem_mem hjl)) i hi
 exact (this.bd (by omega)).mono (by omega)
theorem run_man (H : PlF fo b p lo ke sc mo L n B) (iv : Bool) (hl : xs.length = n) (hm : ManB p xs) : ManB p (runB15 ke lo sc mo p iv L B (tw n B) xs).X := by
 unfold runB15
 by_cases hke : ke = 2
 ·rw [if_pos hke]
  have hs := H.kinds.2.2.1 hke
  exact split_man H iv (ready_len H hl) fun y hy => by
   obtain ⟨a, ha, rfl⟩ := ready_mem H hl hy
   exact bd_iff.2 ((ready_part H hm a ha).2 hs)
 ·rw [if_neg hke]
  exact (behind_man H iv hl hm _ (Nat.le_refl _)).2
end
end
section
set_option linter.unusedVariables false
set_option linter.unusedSimpArgs false
set_option maxRecDepth 100000
set_option maxHeartbeats 16000000
theorem fold_fits {sc mo p : Int} {B : Nat} {iv : Bool} {ws : List Gi} (hsc : sc = 0 ∨ sc = 1 ∨ sc = 2) (l : List Gi) : ∀ b0 : BV, (∀ q ∈ l, q.re = 2 ∨ q.re = 4) → ∃ ss, (l.foldl (nextB sc mo p iv B ws) b0).sh = b0.sh ++ ss ∧ fitsB sc l ss = true := by
 induction l with
 | nil => exact fun b0 _ => ⟨[], by simp, rfl⟩
 | cons q l ih =>
   intro b0 hq
   obtain ⟨ss, h1, h2⟩ := ih (nextB sc mo p iv B ws b0 q) (fun r hr => hq r (by simp [hr]));refine ⟨shOf sc q.re p b0.X :: ss, ?_, ?_⟩
   ·rw [List.foldl_cons, h1]
    simp [nextB]
   ·simp only [fitsB, Bool.and_eq_true]
    refine ⟨fitB_iff.2 ?_, h2⟩;have h := hq q (by simp);unfold shOf preOf topB
    rcases hsc with rfl | rfl | rfl <;> rcases h with h | h <;> rw [h] <;> simp <;> (repeat' split) <;> omega
section
variable {fo b p lo ke sc mo : Int} {L n B : Nat} {xs : List Gi}
theorem run_fits (H : PlF fo b p lo ke sc mo L n B) (iv : Bool) (xs : List Gi) : fitsB sc (passL ke lo) (runB15 ke lo sc mo p iv L B (tw n B) xs).sh = true := by
 obtain ⟨hmo, hsc, _, k0, k1⟩ := H.kinds
 obtain ⟨⟨l2, l6⟩, h4, hlen⟩ := H.lens
 have hlo := H.lo
 unfold runB15
 by_cases hke : ke = 2
 ·rw [if_pos hke]
  unfold passL;rw [if_pos hke]
  rfl
 ·rw [if_neg hke]
  obtain ⟨ss, h1, h2⟩ := fold_fits (mo := mo) (p := p) (B := B) (iv := iv) (ws := tw n B) hsc (passL ke lo) (readyB ke sc mo p L xs) (fun q hq => (passL_fits ke lo k0 k1 (by omega) (by omega) q hq).1);unfold behindB;rw [List.take_length, h1]
  exact h2
theorem run_pow (H : PlF fo b p lo ke sc mo L n B) (iv : Bool) (xs : List Gi) :
 0 ≤ (runB15 ke lo sc mo p iv L B (tw n B) xs).ex + (if sc = 1 then (room p (maxG xs) : Int) else 0) ∧ (runB15 ke lo sc mo p iv L B (tw n B) xs).ex + (if sc = 1 then (room p (maxG xs) : Int) else 0) ≤ 20 := by
 obtain ⟨hmo, hsc, hks, k0, k1⟩ := H.kinds
 obtain ⟨⟨l2, l6⟩, h4, hlen⟩ := H.lens
 have hlo := H.lo
 have h6 := passL_len6 ke lo k0 k1 (by omega) (by omega)
 unfold runB15
 by_cases hke : ke = 2
 ·rw [if_pos hke, if_neg (by have := hks hke; omega)]
  simp only
  omega
 ·rw [if_neg hke]
  unfold behindB;rw [List.take_length];have h := behind_ex (sc := sc) (mo := mo) (p := p) (B := B) iv (tw n B) (passL ke lo) (readyB ke sc mo p L xs)
  have ex : (readyB ke sc mo p L xs).ex = atFirst sc p xs := rfl
  rw [ex] at h;unfold atFirst at h
  rcases hsc with rfl | rfl | rfl
  ·rw [if_pos rfl] at h
   rw [if_neg (by decide)]
   omega
  ·rw [if_neg (by decide), if_pos rfl] at h
   rw [if_pos rfl]
   omega
  ·rw [if_neg (by decide), if_neg (by decide)] at h
   rw [if_neg (by decide)]
   omega
end
end
section
set_option linter.unusedVariables false
set_option linter.unusedSimpArgs false
set_option maxRecDepth 100000
set_option maxHeartbeats 16000000
theorem Near.conj {e : Int} {pow : Nat} {c V : Gi} (h : Near e pow c V) : Near e pow c.conj V.conj := by
 unfold Near Len gsubS gup Gi.conj at *
 simp only at *
 refine Int.le_trans (Int.le_of_eq ?_) h
 grind
section
variable {fo b p lo ke sc mo : Int} {L m B : Nat}
theorem packG_at (rs : List Int) (j : Nat) (hj : j < rs.length / 2) : (packG rs).getD j ⟨0, 0⟩ = ⟨rs.getD (2 * j) 0, rs.getD (2 * j + 1) 0⟩ := by
 unfold packG
 exact getD_map_range hj
theorem PlF.twice (H : PlF fo b p lo ke sc mo L m B) (h5 : L ≤ 5) : PlF fo b p (lo + 1) ke sc mo (L + 1) (2 * m) B := by
 have hk := okF_iff.1 H.ok
 have hlo := H.lo
 exact ⟨H.fb, okF_iff.2 ⟨⟨hk.1.1, by omega, hk.1.2.2⟩, hk.2⟩, by omega, by rw [H.n, Nat.pow_succ, Nat.mul_comm], H.bits⟩
end
end
end Go.Proofs.YtdignnmpfkgkoaaGreat
