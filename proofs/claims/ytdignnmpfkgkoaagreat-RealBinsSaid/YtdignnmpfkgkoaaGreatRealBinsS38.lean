import Derived.Test.YtdignnmpfkgkoaaGreatRealBinsS27
import Derived.Test.YtdignnmpfkgkoaaGreatRealBinsS37
namespace Go.Proofs.YtdignnmpfkgkoaaGreat
set_option maxHeartbeats 16000000
section
open Go.ChangeShapes Go.WideShapes Go.ChangeAt Go.RowKit
set_option linter.unusedVariables false
set_option linter.unusedSimpArgs false
set_option maxRecDepth 100000
set_option maxHeartbeats 16000000
def untB (sc mo p : Int) (B : Nat) (ws : List Gi) (b : BV) : BV :=
 ⟨if sc = 2 then (untL B mo b.X ws).map (clampG p) else untL B mo b.X ws, b.ex + 1, if sc = 2 then b.sat || (untL B mo b.X ws).any (offG p) else b.sat, b.sh⟩
def okR (fo lo ke sc mo : Int) (iv : Bool) : Bool := okF fo lo ke sc mo && decide (lo ≤ 5) && !iv
theorem rPlan18_c (fo lo ke sc mo : Int) (iv : Bool) (w : World) :
 CW 14 #[.agg #[fo, lo, ke, sc, mo, iv]] w (.bool (okR fo lo ke sc mo iv)) :=by
 delta CW
 unfold okR
 cases h : okF fo lo ke sc mo
 ·exact rPlan18_no fo lo ke sc mo iv (kh fun W => refCheck_c fo lo ke sc mo iv _ h W) w
 ·cases h5 : decide (lo ≤ 5)
  ·exact rPlan18_long fo lo ke sc mo iv h5 (kh fun W => refCheck_c fo lo ke sc mo iv _ h W) w
  ·exact rPlan18_yes fo lo ke sc mo iv h5 (kh fun W => refCheck_c fo lo ke sc mo iv _ h W) w
theorem rPacks18_yes (n L : Nat) (h : IsLog ((n / 2 : Nat) : Int) L) (h2 : n % 2 = 0) (hn : n ≤ 1000) (w : World) :
 CW 9 #[(n : Int)] w (.bool true) :=by
 delta CW
 have ht : ((n : Int).tmod 2 == 0) = true := by
  show (((n % 2 : Nat) : Int) == 0) = true
  rw [h2]; rfl
 have hd : ((n : Int).tdiv 2) = ((n / 2 : Nat) : Int) := rfl
 have := rPacks18_even (n : Int) ((n / 2 : Nat) : Int) L ht (by rw [hd]; exact IntWalk.i64_in _ ⟨by omega, by omega⟩) (kh fun W => calls_gr (rlog08_yes _ L h W)) w
 rwa [show decide ((0 : Int) ≤ (L : Int)) = true by simp] at this
theorem rPacks18_no (n : Nat) (h : n % 2 = 0 → ¬ ∃ L, IsLog ((n / 2 : Nat) : Int) L) (hn : n ≤ 1000) (w : World) :
 CW 9 #[(n : Int)] w (.bool false) :=by
 delta CW
 by_cases h2 : n % 2 = 0
 ·have ht : ((n : Int).tmod 2 == 0) = true := by
   show (((n % 2 : Nat) : Int) == 0) = true
   rw [h2]; rfl
  have hd : ((n : Int).tdiv 2) = ((n / 2 : Nat) : Int) := rfl
  exact rPacks18_even (n : Int) ((n / 2 : Nat) : Int) (-1) ht (by rw [hd]; exact IntWalk.i64_in _ ⟨by omega, by omega⟩) (kh fun W => calls_gr (rlog08_none _ (h h2) W)) w
 ·have ht : ((n : Int).tmod 2 == 0) = false := by
   show (((n % 2 : Nat) : Int) == 0) = false
   rw [show n % 2 = 1 by omega]; rfl
  exact rPacks18_odd (n : Int) ht w
theorem rNum18_c {fo b p lo ke sc mo : Int} {L m B : Nat} (H : PlF fo b p lo ke sc mo L m B) (px : Option Addr) (n cap : Nat) (iv : Bool) (w : World) :
 CW 15 #[.slice px n cap, .agg #[fo, lo, ke, sc, mo, iv]] w (.bool ((n : Int) == ((2 * m : Nat) : Int))) :=by
 delta CW
 obtain ⟨⟨l2, l6⟩, h4, _⟩ := H.lens
 have hlo := H.lo
 have hp : (2 : Int) ^ lo.toNat = (m : Int) := by rw [hlo, Int.toNat_natCast, H.n]; simp
 refine rNumbers18_c px n cap fo lo ke sc mo iv (m : Int) _ (IntWalk.i64_in _ ⟨by omega, by omega⟩) (kh fun W => ?_) w
 have := pow_c lo (by omega) (by omega) W
 rw [hp] at this
 exact calls_gr this
theorem pow29i {B : Nat} (h : B ≤ 29) : (2 : Int) ^ B ≤ 536870912 := by
 have h1 : ((2 ^ B : Nat) : Int) ≤ ((2 ^ 29 : Nat) : Int) := Int.ofNat_le.2 (Nat.pow_le_pow_right (by decide) h)
 simpa using h1
theorem rtimes_wide (a w : Gi) (ha : absI a.re ≤ 4294967296 ∧ absI a.im ≤ 4294967296) (hw : absI w.re ≤ 536870912 ∧ absI w.im ≤ 536870912) (W : World) :
 Calls Tryz.prog 84 #[.agg #[a.re, a.im], .agg #[w.re, w.im]] W fun e w' => e = .returned (.agg #[(gmul a w).re, (gmul a w).im]) ∧ Gr W w' := by
 have a1 := absI_le.1 ha.1
 have a2 := absI_le.1 ha.2
 have b1 := absI_le.1 hw.1
 have b2 := absI_le.1 hw.2
 have m1 := mulG_bd a.re w.re 4294967296 536870912 (by omega) a1 b1
 have m2 := mulG_bd a.im w.im 4294967296 536870912 (by omega) a2 b2
 have m3 := mulG_bd a.re w.im 4294967296 536870912 (by omega) a1 b2
 have m4 := mulG_bd a.im w.re 4294967296 536870912 (by omega) a2 b1
 exact rtimes_c a.re a.im w.re w.im _ _ _ _ _ _ (IntWalk.wrap64_in _ (by omega)) (IntWalk.wrap64_in _ (by omega)) (IntWalk.wrap64_in _ (by omega)) (IntWalk.wrap64_in _ (by omega)) (IntWalk.wrap64_in _ (by omega)) (IntWalk.wrap64_in _ (by omega)) W
theorem rless18_gi (a b : Gi) (h0 : -9223372036854775808 ≤ a.re - b.re ∧ a.re - b.re ≤ 9223372036854775807) (h1 : -9223372036854775808 ≤ a.im - b.im ∧ a.im - b.im ≤ 9223372036854775807) (W : World) :
 Calls Tryz.prog 81 #[.agg #[a.re, a.im], .agg #[b.re, b.im]] W fun e w' => e = .returned (.agg #[(gsub a b).re, (gsub a b).im]) ∧ Gr W w' :=
 rless_c a.re a.im b.re b.im _ _ (IntWalk.wrap64_in _ h0) (IntWalk.wrap64_in _ h1) W
theorem rscale_gi (a : Gi) (B : Nat) (hB : B ≤ 29) (h : absI a.re ≤ 4294967296 ∧ absI a.im ≤ 4294967296) (W : World) :
 Calls Tryz.prog 83 #[.agg #[a.re, a.im], (B : Int)] W fun e w' => e = .returned (.agg #[(gscale B a).re, (gscale B a).im]) ∧ Gr W w' := by
 have hp : (0 : Int) ≤ 2 ^ B ∧ (2 : Int) ^ B ≤ 536870912 := ⟨Int.le_of_lt (Int.pow_pos (by decide)), pow29i hB⟩
 have m1 := mulG_bd a.re (2 ^ B) 4294967296 536870912 (by omega) (absI_le.1 h.1) ⟨by omega, hp.2⟩
 have m2 := mulG_bd a.im (2 ^ B) 4294967296 536870912 (by omega) (absI_le.1 h.2) ⟨by omega, hp.2⟩
 exact scale10_c a.re a.im B _ _ _ hB rfl (IntWalk.wrap64_in _ (by omega)) (IntWalk.wrap64_in _ (by omega)) W
theorem unt_bds (B : Nat) (hB : B ≤ 29) (a c r : Gi) (ha : Bd 2147483648 a) (hc : Bd 2147483648 c) (hr : Bd 536870912 r) :
 (Bd 4294967296 (gadd a c) ∧ Bd 4294967296 (gsub a c) ∧ Bd 4294967296 (Gi.turn (-1) (gsub a c))) ∧ Bd 2305843009213693952 (gscale B (gadd a c)) ∧ Bd 4611686018427387904 (gmul (Gi.turn (-1) (gsub a c)) r) := by
 have ha' := ha.le
 have hc' := hc.le
 have hr' := hr.le
 have h1 : Bd 4294967296 (gadd a c) := Bd.mk (by unfold gadd; simp only; omega)
 have h2 : Bd 4294967296 (gsub a c) := Bd.mk (by unfold gsub; simp only; omega)
 have h3 : Bd 4294967296 (Gi.turn (-1) (gsub a c)) := by
  have := h2.le
  rw [turn_back]
  exact Bd.mk ⟨by simp only; omega, by simp only; omega⟩
 have hp : (0 : Int) ≤ 2 ^ B ∧ (2 : Int) ^ B ≤ 536870912 := ⟨Int.le_of_lt (Int.pow_pos (by decide)), pow29i hB⟩
 have s1 := mulG_bd (gadd a c).re (2 ^ B) 4294967296 536870912 (by omega) h1.le.1 ⟨by omega, hp.2⟩
 have s2 := mulG_bd (gadd a c).im (2 ^ B) 4294967296 536870912 (by omega) h1.le.2 ⟨by omega, hp.2⟩
 refine ⟨⟨h1, h2, h3⟩, Bd.mk (by unfold gscale; simp only; omega), ?_⟩
 generalize Gi.turn (-1) (gsub a c) = t at *
 have m1 := mulG_bd t.re r.re 4294967296 536870912 (by omega) h3.le.1 hr'.1
 have m2 := mulG_bd t.im r.im 4294967296 536870912 (by omega) h3.le.2 hr'.2
 have m3 := mulG_bd t.re r.im 4294967296 536870912 (by omega) h3.le.1 hr'.2
 have m4 := mulG_bd t.im r.re 4294967296 536870912 (by omega) h3.le.2 hr'.1
 exact Bd.mk (by unfold gmul; simp only; omega)
theorem Bd.wide {a : Gi} (h : Bd 2147483648 a) : a.re.natAbs ≤ 2305843009213693952 ∧ a.im.natAbs ≤ 2305843009213693952 := by have := h.le; omega
theorem Bd.wide2 {a : Gi} (h : Bd 4294967296 a) : a.re.natAbs ≤ 2305843009213693952 ∧ a.im.natAbs ≤ 2305843009213693952 := by have := h.le; omega
theorem Bd.conj {l : Int} {a : Gi} (h : Bd l a) : Bd l a.conj := Bd.mk (by have := h.le; unfold Gi.conj; simp only; omega)
theorem getD_eq {xs : List Gi} {i : Nat} (h : i < xs.length) : xs[i]? = some (xs.getD i ⟨0, 0⟩) := by
 rw [List.getD_eq_getElem?_getD, List.getElem?_eq_getElem h]; rfl
theorem rBin18_c {fo b p lo ke sc mo : Int} {L m B : Nat} (H : PlF fo b p lo ke sc mo L m B) (h5 : L ≤ 5) (iv : Bool) (px sp : Option Addr) (cx q cl : Nat) (X : List Gi) (ex : Int) (sa : Bool) (hl : X.length = m) (hX : allIn p X = true) (j : Nat) (hj : j ≤ m) (vw : Value) (w : World) (hv : CxsAt w (.slice px m cx) X) (hw : CxsAt w vw (tw (2 * m) B)) :
 CW 43 #[.agg #[.slice px m cx, ex, sa, .slice sp q cl], .agg #[fo, lo, ke, sc, mo, iv], vw, (j : Int)] w (.agg #[(untAt B mo X (tw (2 * m) B) j).re, (untAt B mo X (tw (2 * m) B) j).im]) :=by
 delta CW
 obtain ⟨_, ⟨h4, h64⟩, _⟩ := H.lens
 obtain ⟨hmo, _⟩ := H.kinds
 have hs := H.sizes
 have hB : B ≤ 29 := by omega
 have hp : p ≤ 2147483648 := by omega
 have htl := tw_len (2 * m) B
 obtain ⟨yb, yo, yc, hsl, _, hyb, hyc⟩ := hv.at (by intro e; rw [e] at hl; simp at hl; omega)
 rw [hl] at hsl
 cases hsl
 obtain ⟨wb, wo, wc, hsw, _, hwb, hwc⟩ := hw.at (by intro e; rw [e] at htl; simp at htl; omega)
 rw [htl] at hsw
 subst hsw
 have i1 : j % m < m := Nat.mod_lt _ (by omega)
 have i2 : (m - j) % m < m := Nat.mod_lt _ (by omega)
 have g1 := getD_eq (xs := X) (i := j % m) (by omega)
 have g2 := getD_eq (xs := X) (i := (m - j) % m) (by omega)
 have g3 := getD_eq (xs := tw (2 * m) B) (i := j) (by omega)
 have e : untAt B mo X (tw (2 * m) B) j = untG B mo (X.getD (j % m) ⟨0, 0⟩) (X.getD ((m - j) % m) ⟨0, 0⟩).conj ((tw (2 * m) B).getD j ⟨0, 0⟩) := by unfold untAt; rw [hl]
 rw [e]
 have bX := fun a (h : a ∈ X) => allIn_bd.1 (allIn_more hX hp) a h
 have ba : Bd 2147483648 (X.getD (j % m) ⟨0, 0⟩) := bX _ (getD_mem X _ (by omega))
 have bc : Bd 2147483648 (X.getD ((m - j) % m) ⟨0, 0⟩) := bX _ (getD_mem X _ (by omega))
 have hp2 : (2 : Int) ^ B ≤ 536870912 := pow29i hB
 have br : Bd 536870912 ((tw (2 * m) B).getD j ⟨0, 0⟩) := allIn_bd.1 (allIn_more (tw_in (H.twice h5)) hp2) _ (getD_mem _ _ (by omega))
 have cA := hyc _ _ g1
 have cC := hyc _ _ g2
 have cR := hwc _ _ g3
 generalize X.getD (j % m) ⟨0, 0⟩ = a at *
 generalize X.getD ((m - j) % m) ⟨0, 0⟩ = c at *
 generalize (tw (2 * m) B).getD j ⟨0, 0⟩ = r at *
 obtain ⟨⟨k1, k2, k3⟩, k4, k5⟩ := unt_bds B hB a c.conj r ba bc.conj br
 have k1' := k1.le
 have k2' := k2.le
 have k4' := k4.le
 have k5' := k5.le
 have kx : (-9223372036854775808 ≤ (gadd (gscale B (gadd a c.conj)) (gmul (Gi.turn (-1) (gsub a c.conj)) r)).re ∧ (gadd (gscale B (gadd a c.conj)) (gmul (Gi.turn (-1) (gsub a c.conj)) r)).re ≤ 9223372036854775807) ∧ (-9223372036854775808 ≤ (gadd (gscale B (gadd a c.conj)) (gmul (Gi.turn (-1) (gsub a c.conj)) r)).im ∧ (gadd (gscale B (gadd a c.conj)) (gmul (Gi.turn (-1) (gsub a c.conj)) r)).im ≤ 9223372036854775807) := by
  show (_ ≤ (gscale B (gadd a c.conj)).re + (gmul (Gi.turn (-1) (gsub a c.conj)) r).re ∧ (gscale B (gadd a c.conj)).re + (gmul (Gi.turn (-1) (gsub a c.conj)) r).re ≤ _) ∧ (_ ≤ (gscale B (gadd a c.conj)).im + (gmul (Gi.turn (-1) (gsub a c.conj)) r).im ∧ (gscale B (gadd a c.conj)).im + (gmul (Gi.turn (-1) (gsub a c.conj)) r).im ≤ _)
  omega
 have kl : (-9223372036854775808 ≤ a.re - c.conj.re ∧ a.re - c.conj.re ≤ 9223372036854775807) ∧ (-9223372036854775808 ≤ a.im - c.conj.im ∧ a.im - c.conj.im ≤ 9223372036854775807) := by
  have q1 := ba.le;have q2 := bc.conj.le
  omega
 have ks : (-9223372036854775808 ≤ a.re + c.conj.re ∧ a.re + c.conj.re ≤ 9223372036854775807) ∧ (-9223372036854775808 ≤ a.im + c.conj.im ∧ a.im + c.conj.im ≤ 9223372036854775807) := by
  have q1 := ba.le;have q2 := bc.conj.le
  omega
 exact rBin18_of sp m cx q cl yb yo wb wo (2 * m) wc j (j % m) ((m - j) % m) ex sa fo lo ke sc mo iv (B : Int) ((B + 2 : Nat) : Int) ((m - j : Nat) : Int) a c c.conj (gadd a c.conj) (gsub a c.conj) (Gi.turn (-1) (gsub a c.conj)) (gscale B (gadd a c.conj)) r (gmul (Gi.turn (-1) (gsub a c.conj)) r) _ _
  (by omega) rfl (by omega) (by rw [show ((m : Int) - (j : Int)) = ((m - j : Nat) : Int) by omega]; exact IntWalk.i64_in _ ⟨by omega, by omega⟩) rfl (by omega) (by omega) (by rw [show ((B : Int) + 2) = ((B + 2 : Nat) : Int) by omega]; exact IntWalk.i64_in _ ⟨by omega, by omega⟩)
  (kh (rbits15_c H)) (kh (rconj_gi c bc.wide.2)) (kh (rless18_gi a c.conj kl.1 kl.2)) (kh (rturn_gi _ (-1) k2.wide2)) (kh (rsum_gi a c.conj ks.1 ks.2)) (kh (rscale_gi _ B hB ⟨k1.1, k1.2⟩)) (kh (rtimes_wide _ r ⟨k3.1, k3.2⟩ ⟨br.1, br.2⟩)) (kh (rsum_gi _ _ kx.1 kx.2)) (kh (rshift03_gi _ (B + 2) mo kx (by omega) (by omega) (by omega)))
  w hyb hwb cA cC cR
theorem rtab18_c {fo b p lo ke sc mo : Int} {L n B : Nat} (H : PlF fo b p lo ke sc mo L n B) (w : World) : Calls Tryz.prog 41 #[lo, (B : Int)] w fun e w' => ∃ u, e = .returned u ∧ CxsAt w' u (tw n B) ∧ Gr w w' := by
 obtain ⟨⟨h2, h6⟩, h4, _⟩ := H.lens
 have hs := H.sizes
 have h := table07_c lo n (B : Int) (by have := H.lo; omega) (by have := H.lo; omega) (by rw [H.lo, H.n, Int.toNat_natCast]; simp) (by omega) (by omega) w
 rw [show (56 - (B : Int)).toNat = 56 - B by omega] at h
 exact h
theorem same18_c (ys : List Gi) (p : Int) (u v : Value) (w : World) (hu : CxsAt w u (ys.map (clampG p))) (hv : CxsAt w v ys) :
 CW 10 #[u, v] w (.bool (!ys.any (offG p))) :=by
 delta CW
 cases ha : ys.any (offG p)
 ·rw [any_off.1 ha] at hu
  exact same03_c u v ys w hu hv
 ·refine same03_no u v _ ys w (by simp) (fun e => ?_) hu hv
  rw [any_off.2 e] at ha
  cases ha
theorem runt18_c {fo b p lo ke sc mo : Int} {L m B : Nat} (H : PlF fo b p lo ke sc mo L m B) (h5 : L ≤ 5) (iv : Bool) (k : BV) (px sp : Option Addr) (cx q cl : Nat) (hl : k.X.length = m) (hX : allIn p k.X = true) (e0 : -1000 ≤ k.ex) (e1 : k.ex ≤ 1000) (w : World) (hv : CxsAt w (.slice px m cx) k.X) :
 Calls Tryz.prog 17 #[.agg #[.slice px m cx, k.ex, k.sat, .slice sp q cl], .agg #[fo, lo, ke, sc, mo, iv]] w fun e w' => ∃ vx, e = .returned (.agg #[vx, (untB sc mo p B (tw (2 * m) B) k).ex, (untB sc mo p B (tw (2 * m) B) k).sat, .slice sp q cl]) ∧ CxsAt w' vx (untB sc mo p B (tw (2 * m) B) k).X ∧ Gr w w' := by
 obtain ⟨_, ⟨h4, h64⟩, _⟩ := H.lens
 have hlo := H.lo
 have H2 := H.twice h5
 obtain ⟨X, ex, sat, sh⟩ := k
 simp only at hl hX e0 e1 hv
 have hb := fun (sa : Bool) (j : Nat) (hj : j ≤ m) v W h1 h2 => rBin18_c H h5 iv px sp cx q cl X ex sa hl hX j hj v W h1 h2
 have hz : (List.range (m + 1)).map (untAt B mo X (tw (2 * m) B)) = untL B mo X (tw (2 * m) B) := by unfold untL; rw [hl]
 have hex : IntKind.i64.wrap (ex + 1) = ex + 1 := IntWalk.i64_in _ ⟨by omega, by omega⟩
 have hl1 : IntKind.i64.wrap (lo + 1) = lo + 1 := IntWalk.i64_in _ ⟨by omega, by omega⟩
 unfold untB
 by_cases hs : sc = 2
 ·subst hs
  simp only [if_true]
  have hlen : ((List.range (m + 1)).map (untAt B mo X (tw (2 * m) B))).length ≤ 100 := by simp; omega
  cases sat
  ·have := rUnt18_f px sp m cx q cl (by omega) X (tw (2 * m) B) (((List.range (m + 1)).map (untAt B mo X (tw (2 * m) B))).map (clampG p)) (untAt B mo X (tw (2 * m) B)) ex (ex + 1) fo lo (lo + 1) ke mo (B : Int) iv (!((List.range (m + 1)).map (untAt B mo X (tw (2 * m) B))).any (offG p)) hl1 hex (kh (rbits15_c H)) (kh (rtab18_c H2)) (kh fun j hj v W h1 h2 => hb false j hj v W h1 h2) (kh fun v W h => clamped15_c H v _ hlen W h) (kh fun u v W h1 h2 => same18_c _ p u v W h1 h2) w hv
   rw [hz, Bool.not_not] at this
   exact this
  ·have := rUnt18_t px sp m cx q cl (by omega) X (tw (2 * m) B) (((List.range (m + 1)).map (untAt B mo X (tw (2 * m) B))).map (clampG p)) (untAt B mo X (tw (2 * m) B)) ex (ex + 1) fo lo (lo + 1) ke mo (B : Int) iv hl1 hex (kh (rbits15_c H)) (kh (rtab18_c H2)) (kh fun j hj v W h1 h2 => hb true j hj v W h1 h2) (kh fun v W h => clamped15_c H v _ hlen W h) w hv
   rw [hz] at this
   exact this
 ·simp only [if_neg hs]
  exact rUnt18_n px sp m cx q cl (by omega) X (tw (2 * m) B) (untL B mo X (tw (2 * m) B)) (untAt B mo X (tw (2 * m) B)) ex (ex + 1) fo lo (lo + 1) ke sc mo (B : Int) iv sat (by simpa using hs) hl1 hex (kh (rbits15_c H)) (kh (rtab18_c H2)) (kh fun j hj v W h1 h2 => hb sat j hj v W h1 h2) (kh hz) w hv
theorem KMap.set {W : World} {B b : Nat} (h : KMap W B) (hne : B ≠ b) (j : Nat) (v : Value) : KMap (W.setCell ⟨b, j, none⟩ v) B := by
 unfold KMap
 rw [Below.heap_setCell _ _ _ _ hne]
 exact h
theorem KMap.ne {W : World} {B b : Nat} {t : TypeId} {c : Array Value} (h : KMap W B) (hc : CellsAt W b t c) : B ≠ b := by
 rintro rfl
 have h1 := (show W.heap[B]? = _ from h).symm.trans (show W.heap[B]? = _ from hc)
 cases h1
theorem CellsAt.set10 {W : World} {B : Nat} {t : TypeId} {a0 a1 a2 a3 a4 a5 a6 a7 a8 a9 : Value} (h : CellsAt W B t #[a0, a1, a2, a3, a4, a5, a6, a7, a8, a9]) (v0 v1 v2 v3 v4 v5 v6 v7 v8 v9 : Value) : CellsAt ((((((((((W.setCell ⟨B, 0, none⟩ v0).setCell ⟨B, 1, none⟩ v1).setCell ⟨B, 2, none⟩ v2).setCell ⟨B, 3, none⟩ v3).setCell ⟨B, 4, none⟩ v4).setCell ⟨B, 5, none⟩ v5).setCell ⟨B, 6, none⟩ v6).setCell ⟨B, 7, none⟩ v7).setCell ⟨B, 8, none⟩ v8).setCell ⟨B, 9, none⟩ v9) B t #[v0, v1, v2, v3, v4, v5, v6, v7, v8, v9] := by
 have := ((((((((((h.set 0 v0).set 1 v1).set 2 v2).set 3 v3).set 4 v4).set 5 v5).set 6 v6).set 7 v7).set 8 v8).set 9 v9)
 simpa using this
theorem apart10 {W : World} {v : Value} {xs : List Gi} {B : Nat} {t : TypeId} {a0 a1 a2 a3 a4 a6 a7 a8 a9 : Value} {b : Bool} (hl : 3 ≤ xs.length) (h : CxsAt W v xs) (hc : CellsAt W B t #[a0, a1, a2, a3, a4, b, a6, a7, a8, a9]) : Apart v xs B := by
 rintro b0 o cap rfl hne rfl
 obtain ⟨b', o', cap', e, _, _, hx⟩ := h.at hne
 cases e
 obtain ⟨x0, h0⟩ := get_of_lt (show 0 < xs.length by omega)
 obtain ⟨x1, h1⟩ := get_of_lt (show 1 < xs.length by omega)
 obtain ⟨x2, h2⟩ := get_of_lt (show 2 < xs.length by omega)
 have e0 := hx 0 x0 h0
 have e1 := hx 1 x1 h1
 have e2 := hx 2 x2 h2
 rw [hc.cell, hc.cell] at e0 e1 e2
 have ho : o = 0 ∨ o = 1 ∨ o = 2 ∨ o = 3 ∨ o = 4 ∨ o = 5 ∨ 6 ≤ o := by omega
 rcases ho with rfl | rfl | rfl | rfl | rfl | rfl | ho
 all_goals first | (simp at e0; done) | (simp at e1; done) | (simp at e2; done) | skip
 rw [Array.getElem?_eq_none (by simp; omega)] at e2
 cases e2.1
def shF (sc : Int) : FuncId := if sc = 0 then 258 else if sc = 1 then 261 else 266
def fiF (sc : Int) : FuncId := if sc = 0 then 257 else if sc = 1 then 260 else 265
def ahF (sc : Int) : FuncId := if sc = 0 then 256 else if sc = 1 then 259 else 264
def psF (k : Int) : FuncId := if k = 4 then 155 else 154
theorem ftOf_c (fo lo ke sc mo b b2 : Int) (sT : TypeId) (sV : Value) (iv : Bool) (ws : List Gi) (hws : 3 ≤ ws.length) (hb : IntKind.i64.wrap (b - 2) = b2) (HB : CR 58 #[fo] (.tuple #[b, .int .i64 0]))
 (HT : Hid (∀ W, Calls Tryz.prog 113 #[lo, fo] W fun e w' => ∃ v, e = .returned (.tuple #[v, .int .i64 0]) ∧ CxsAt w' v ws ∧ Gr W w'))
 (HS : CR 105 #[.agg #[fo, lo, ke, sc, mo, iv]] (.iface sT sV))
 (HK : Hid (∀ W, Calls Tryz.prog 114 #[] W fun e w' => ∃ B, e = .returned (.map (some B)) ∧ KMap w' B ∧ Gr W w')) (w : World) :
 Calls Tryz.prog 65 #[.agg #[fo, lo, ke, sc, mo, iv]] w fun e w' => ∃ B v, e = .returned (.agg #[fo, lo, ke, sc, mo, iv, .iface sT sV, .map (some B), v, b2]) ∧ KMap w' B ∧ CxsAt w' v ws ∧ Gr w w' := by
 go_in
 go_wp2_with fail
 refine lc2 fun u0 gu R0 R1 => ?_
 have lp := R0.lt
 have lr := R1.lt
 obtain ⟨cp0, cp1, cp2, cp3, cp4, cp5⟩ := R0.t6
 go_wp2_with fail
 clear cp0 cp1 cp2 cp3 cp4 cp5
 refine (HB.out _).mono ?_
 rintro e w1 ⟨rfl, g1⟩
 have ⟨Fp_1, lp_1⟩ := R0.gl g1
 have ⟨Fr_1, lr_1⟩ := R1.gl g1
 have z1 := gu.trans g1
 clear R0 R1 gu g1
 obtain ⟨cp0, cp1, cp2, cp3, cp4, cp5⟩ := Fp_1.t6
 go_wp2_with fail
 clear cp0 cp1 cp2 cp3 cp4 cp5
 refine (HT.out _).mono ?_
 rintro e w2 ⟨vw, rfl, hw, g2⟩
 have ⟨Fp_2, lp_2⟩ := Fp_1.gl g2
 have ⟨Fr_2, lr_2⟩ := Fr_1.gl g2
 have z2 := z1.trans g2
 clear Fp_1 Fr_1 z1 g2
 obtain ⟨wp, wc, rfl⟩ := hw.len
 go_wp2_with fail
 obtain ⟨ub, hqp1⟩ : ∃ zz, zz = w2 := ⟨_, rfl⟩
 subst hqp1
 have Yp_p1 := Fp_2
 have Yr_p1 := Fr_2
 have Vw_p1 := hw
 have yp1 := z2
 have KS := fun W (hG : GB (w.heap.size + 1) ub W) => (GB.cellsAt hG Yp_p1 (by omega)).t6
 have hclG := gb_closed (w.heap.size + 1) ub
 try simp only [List.append_eq, List.cons_append, List.nil_append]
 refine wp_region_grow (S := GB (w.heap.size + 1) ub) rfl (GB.drew (GB.refl _ _)) ?_
 refine gK 0 hclG KS ?_
 refine gK 1 hclG KS ?_
 refine gC 2 hclG ((fun W hS => HS.out W)) ?_
 try simp only [Act.put, putS]
 refine gT 4 hclG ?_
 refine gT 5 hclG ?_
 refine gT 6 hclG ?_
 refine gR 3 fun w3 g3 s3 K hK => ?_
 replace g3 := (Gr.drew (Gr.refl ub)).trans g3
 have ⟨Fp_3, lp_3⟩ := Yp_p1.gl g3
 have ⟨Fr_3, lr_3⟩ := Yr_p1.gl g3
 have Kw_3 := Vw_p1.gr g3
 have z3 := yp1.trans g3
 clear Yp_p1 Yr_p1 yp1 g3
 go_simp
 refine (HK.out w3).mono ?_
 rintro e w4 ⟨vB, rfl, hB, g4⟩
 have hneK := KMap.ne hB (Fr_3.gr g4)
 have t4 := GB.gr s3 g4
 have ⟨Fp_4, lp_4⟩ := Fp_3.gl g4
 have ⟨Fr_4, lr_4⟩ := Fr_3.gl g4
 have Kw_4 := Kw_3.gr g4
 have z4 := z3.trans g4
 clear Fp_3 Fr_3 z3 g4
 refine hK.out _ _ ?_ ?_
 ·exact t4
 clear hK K
 try simp only [Act.put, putS]
 refine gT 7 hclG ?_
 refine gR 8 fun w5 g5 s5 K hK => ?_
 have ⟨Fp_5, lp_5⟩ := Fp_4.gl g5
 have ⟨Fr_5, lr_5⟩ := Fr_4.gl g5
 have Kw_5 := Kw_4.gr g5
 have MK_5 := KMap.gr (hB) g5
 have z5 := z4.trans g5
 clear Fp_4 Fr_4 z4 g5
 obtain ⟨mr0, mr1, mr2, mr3, mr4, mr5, mr6, mr7, mr8, mr9⟩ := Fr_5.f10
 obtain ⟨cr0, cr1, cr2, cr3, cr4, cr5, cr6, cr7, cr8, cr9⟩ := Fr_5.t10
 go_simp
 clear mr0 cr0 mr1 cr1 mr2 cr2 mr3 cr3 mr4 cr4 mr5 cr5 mr6 cr6 mr7 cr7 mr8 cr8 mr9 cr9
 have Aw_5 := apart10 hws Kw_5 Fr_5
 refine hK.out _ _ ?_ ?_
 ·exact (GB.set (GB.set (GB.set (GB.set (GB.set (GB.set (GB.set (GB.set (GB.set (GB.set s5 _ _) _ _) _ _) _ _) _ _) _ _) _ _) _ _) _ _) _ _)
 clear hK K
 try simp only [Act.put, putS]
 refine wpG_done (by kernel_rfl) (fun w6 g6 => ?_) _
 have ⟨Fp_6, lp_6⟩ := CellsAt.gl ((((((((((Fp_5.ot).ot).ot).ot).ot).ot).ot).ot).ot).ot) g6
 have ⟨Fr_6, lr_6⟩ := CellsAt.gl (CellsAt.set10 (Fr_5) _ _ _ _ _ _ _ _ _ _) g6
 have Kw_6 := CxsAt.gr ((CxsAt.set (CxsAt.set (CxsAt.set (CxsAt.set (CxsAt.set (CxsAt.set (CxsAt.set (CxsAt.set (CxsAt.set (CxsAt.set Kw_5 Aw_5 0 (.int .i64 fo)) Aw_5 1 (.int .i64 lo)) Aw_5 2 (.int .i64 ke)) Aw_5 3 (.int .i64 sc)) Aw_5 4 (.int .i64 mo)) Aw_5 5 (.bool iv)) Aw_5 6 (.iface sT sV)) Aw_5 7 (.map (some vB))) Aw_5 8 (.slice wp ws.length wc)) Aw_5 9 (.int .i64 b2))) g6
 have MK_6 := KMap.gr ((KMap.set (KMap.set (KMap.set (KMap.set (KMap.set (KMap.set (KMap.set (KMap.set (KMap.set (KMap.set MK_5 hneK 0 (.int .i64 fo)) hneK 1 (.int .i64 lo)) hneK 2 (.int .i64 ke)) hneK 3 (.int .i64 sc)) hneK 4 (.int .i64 mo)) hneK 5 (.bool iv)) hneK 6 (.iface sT sV)) hneK 7 (.map (some vB))) hneK 8 (.slice wp ws.length wc)) hneK 9 (.int .i64 b2))) g6
 have z6 := ((((((((((z5.sc _).sc _).sc _).sc _).sc _).sc _).sc _).sc _).sc _).sc _).trans g6
 clear g6
 clear hclG KS
 obtain ⟨cr0, cr1, cr2, cr3, cr4, cr5, cr6, cr7, cr8, cr9⟩ := Fr_6.t10
 go_wp2_with fail
 clear cr0 cr1 cr2 cr3 cr4 cr5 cr6 cr7 cr8 cr9
 refine bodyPost_ret (v := .agg #[fo, lo, ke, sc, mo, iv, .iface sT sV, .map (some vB), .slice wp ws.length wc, b2]) ?_ rfl ⟨_, _, rfl, MK_6, Kw_6, z6⟩
 obtain ⟨cr0, cr1, cr2, cr3, cr4, cr5, cr6, cr7, cr8, cr9⟩ := Fr_6.t10
 simp [results, Tryz.results65, go_sem, *]
theorem ftBehind_of (xs ws ys zs : List Gi) (ls : List Int) (fo lo ke sc mo s bits ex ex2 k h : Int) (iv sa cl : Bool) (bp sp wp : Option Addr) (bc sl wc mB : Nat) (hls : ls.length ≤ 20) (sT : TypeId) (rV : Value) (F1 F2 F3 : FuncId) (e1 : Enters F1) (e2 : Enters F2) (e3 : Enters F3) (m1 : ∀ n W, (method (n + 1) sT rV "headroom/fft.shift").run Tryz.prog W = .ok (F1, rV) W) (m2 : ∀ n W, (method (n + 1) sT rV "headroom/fft.fitted").run Tryz.prog W = .ok (F2, rV) W) (HL : Hid (∀ W, KMap W mB → (Instr.lookup 84 (.map (some mB)) (.int .i64 k) false).run Tryz.prog W = .ok (.func (.func F3) #[] #[]) W)) (hex : wrap64 (ex + s) = ex2)
 (HS : Hid (∀ W, CxsAt W (.slice bp xs.length bc) xs → Calls Tryz.prog F1 #[rV, .slice bp xs.length bc, k] W fun e w' => e = .returned (.int .i64 s) ∧ Gr W w'))
 (HP : Hid (∀ W, CxsAt W (.slice bp xs.length bc) xs → CxsAt W (.slice wp ws.length wc) ws → Calls Tryz.prog F3 #[.slice bp xs.length bc, .slice wp ws.length wc, h, bits, s, mo, iv] W fun e w' => ∃ v', e = .returned (.tuple #[v', .int .i64 0]) ∧ CxsAt w' v' ys ∧ Gr W w'))
 (HF : Hid (∀ v W, CxsAt W v ys → Calls Tryz.prog F2 #[rV, v] W fun e w' => ∃ v', e = .returned (.tuple #[v', cl]) ∧ CxsAt w' v' zs ∧ Gr W w'))
 (w : World) (hv : CxsAt w (.slice bp xs.length bc) xs) (hl : NumsAt w (.slice sp ls.length sl) ls) (hw : CxsAt w (.slice wp ws.length wc) ws) (hm : KMap w mB) :
 Calls Tryz.prog 66 #[.agg #[fo, lo, ke, sc, mo, iv, .iface sT rV, .map (some mB), .slice wp ws.length wc, bits], .agg #[.slice bp xs.length bc, ex, sa, .slice sp ls.length sl], .agg #[k, h]] w fun e w' => ∃ ux us, e = .returned (.agg #[ux, ex2, .bool (sa || cl), us]) ∧ CxsAt w' ux zs ∧ NumsAt w' us (ls ++ [s]) ∧ Gr w w' ∧ ∀ b, us.ownBlock = some b → w.heap.size ≤ b := by
 unfold Enters at e1 e2 e3
 have HC := kh fun W h => ftClone_c (.slice sp ls.length sl) ls hls W h
 go_in
 go_wp2_with fail
 refine lc4 fun u0 gu R0 R1 R2 R3 => ?_
 have lt := R0.lt
 have lb := R1.lt
 have lq := R2.lt
 have lr := R3.lt
 obtain ⟨i0, hi, hz0, hz1, hz2⟩ := info_parts info_int
 have hv0 := hv.gr gu
 have hw0 := hw.gr gu
 have hl0 := hl.gr gu
 have hm0 := hm.gr gu
 obtain ⟨ct0, ct1, ct2, ct3, ct4, ct5, ct6, ct7, ct8, ct9⟩ := R0.t10
 obtain ⟨cb0, cb1, cb2, cb3⟩ := R1.t4
 obtain ⟨cq0, cq1⟩ := R2.t2
 go_wp2_with fail
 clear ct0 ct1 ct2 ct3 ct4 ct5 ct6 ct7 ct8 ct9 cb0 cb1 cb2 cb3 cq0 cq1
 refine (HS.out _ hv0).mono ?_
 rintro e w1 ⟨rfl, g1⟩
 have ⟨Ft_1, lt_1⟩ := R0.gl g1
 have ⟨Fb_1, lb_1⟩ := R1.gl g1
 have ⟨Fq_1, lq_1⟩ := R2.gl g1
 have ⟨Fr_1, lr_1⟩ := R3.gl g1
 have Kx_1 := hv0.gr g1
 have Kw_1 := hw0.gr g1
 have MK_1 := KMap.gr (hm0) g1
 have z1 := gu.trans g1
 clear R0 R1 R2 R3 gu g1
 have hlk := HL.out _ MK_1
 obtain ⟨ct0, ct1, ct2, ct3, ct4, ct5, ct6, ct7, ct8, ct9⟩ := Ft_1.t10
 obtain ⟨cb0, cb1, cb2, cb3⟩ := Fb_1.t4
 obtain ⟨cq0, cq1⟩ := Fq_1.t2
 go_wp2_with fail
 clear ct0 ct1 ct2 ct3 ct4 ct5 ct6 ct7 ct8 ct9 cb0 cb1 cb2 cb3 cq0 cq1
 clear hlk
 refine (HP.out _ Kx_1 Kw_1).mono ?_
 rintro e w2 ⟨vy, rfl, hy, g2⟩
 have ⟨Ft_2, lt_2⟩ := Ft_1.gl g2
 have ⟨Fb_2, lb_2⟩ := Fb_1.gl g2
 have ⟨Fq_2, lq_2⟩ := Fq_1.gl g2
 have ⟨Fr_2, lr_2⟩ := Fr_1.gl g2
 have Kx_2 := Kx_1.gr g2
 have Kw_2 := Kw_1.gr g2
 have MK_2 := KMap.gr (MK_1) g2
 have z2 := z1.trans g2
 clear Ft_1 Fb_1 Fq_1 Fr_1 z1 g2
 obtain ⟨yp, yc, rfl⟩ := hy.len
 obtain ⟨ct0, ct1, ct2, ct3, ct4, ct5, ct6, ct7, ct8, ct9⟩ := Ft_2.t10
 go_wp2_with fail
 clear ct0 ct1 ct2 ct3 ct4 ct5 ct6 ct7 ct8 ct9
 refine (HF.out _ _ hy).mono ?_
 rintro e w3 ⟨vz, rfl, hz, g3⟩
 have ⟨Ft_3, lt_3⟩ := Ft_2.gl g3
 have ⟨Fb_3, lb_3⟩ := Fb_2.gl g3
 have ⟨Fq_3, lq_3⟩ := Fq_2.gl g3
 have ⟨Fr_3, lr_3⟩ := Fr_2.gl g3
 have Ky_3 := hy.gr g3
 have z3 := z2.trans g3
 clear Ft_2 Fb_2 Fq_2 Fr_2 z2 g3
 obtain ⟨zp, zc, rfl⟩ := hz.len
 obtain ⟨cb0, cb1, cb2, cb3⟩ := Fb_3.t4
 go_wp2_with fail
 clear cb0 cb1 cb2 cb3
 have hlw := hl.gr (z3)
 have lr3 := Fr_3.lt
 have hg3 := (z3).size
 refine (HC.out _ hlw).mono ?_
 rintro e w4 ⟨vc, rfl, hown, g4⟩
 cases sa
 ·go_wp2_with (at_builtin; refine Go.wpList_append_lies _ rfl (.tmp 54) (.tmp 56) 22 rfl w3.heap.size 3 i0 (.int .i64 0) 1 8 Tryz.underlying22 hi hz0 hz1 hz2 rfl (by decide) vc ls.length _ rfl (hown.alloc _) ⟨w4.heap.size, 0, none⟩ 1 1 [.int .i64 s] rfl rfl (cell_one_new _ _ _) (by simp [Value.oneCell']) (by omega) (by unfold maxLen; omega) (by omega) (by have := g4.size; simp; omega) _ rfl ?_; intro g2b cap2 W2 hown2 hgrow2 hor2 hlt2; have hbs := hown.lt; have G2 : Gr w3 W2 := (g4.alloc _ _).grown hgrow2 (fun k e => (hbs k e).1); clear hgrow2 hor2 hown g4; have Eb := Fb_3.gr G2; have leb := Eb.lt; obtain ⟨db0, db1, db2, db3⟩ := Eb.t4; have Er := Fr_3.gr G2; have ler := Er.lt; obtain ⟨dr0, dr1, dr2, dr3⟩ := Er.t4; obtain ⟨nr0, nr1, nr2, nr3⟩ := Er.f4)
  have hsh : NumsAt W2 (.slice (some ⟨g2b, 0, none⟩) (ls ++ [s]).length cap2) (ls ++ [s]) := by
   have := NumsAt.of_row (xs := ls ++ [s]) (by rw [List.map_append]; exact hown2)
   rw [List.length_append]
   exact this
  have hgb := (hown2.lt g2b rfl).1;have KY := hz.gr G2;have zW2 := z3.trans G2;have hap := CxsAt.apart KY Er;have cxe := (((KY.set hap 0 (.slice zp zs.length zc)).set hap 1 (.int .i64 ex2)).set hap 2 (.bool cl)).set hap 3 (.slice (some ⟨g2b, 0, none⟩) (ls.length + 1) cap2);have nse := (((hsh.st (w.heap.size + 1 + 1 + 1) 0 (.slice zp zs.length zc)).st (w.heap.size + 1 + 1 + 1) 1 (.int .i64 ex2)).st (w.heap.size + 1 + 1 + 1) 2 (.bool cl)).st (w.heap.size + 1 + 1 + 1) 3 (.slice (some ⟨g2b, 0, none⟩) (ls.length + 1) cap2)
  obtain ⟨uf, hqf⟩ : ∃ zz, zz = ((((W2.setCell ⟨w.heap.size + 1 + 1 + 1, 0, none⟩ (.slice zp zs.length zc)).setCell ⟨w.heap.size + 1 + 1 + 1, 1, none⟩ (.int .i64 ex2)).setCell ⟨w.heap.size + 1 + 1 + 1, 2, none⟩ (.bool cl)).setCell ⟨w.heap.size + 1 + 1 + 1, 3, none⟩ (.slice (some ⟨g2b, 0, none⟩) (ls.length + 1) cap2)) := ⟨_, rfl⟩
  rw [List.length_append] at nse;rw [← hqf] at cxe nse
  have Yr : CellsAt uf (w.heap.size + 1 + 1 + 1) 27 #[.slice zp zs.length zc, ex2, cl, .slice (some ⟨g2b, 0, none⟩) (ls.length + 1) cap2] := by rw [hqf]; have q_ := CellsAt.set (CellsAt.set (CellsAt.set (CellsAt.set (Er) 0 (.slice zp zs.length zc)) 1 (.int .i64 ex2)) 2 (.bool cl)) 3 (.slice (some ⟨g2b, 0, none⟩) (ls.length + 1) cap2); first | exact q_ | simpa using q_
  have yz : Gr w uf := by rw [hqf]; exact (((zW2.sc _).sc _).sc _).sc _
  rw [← hqf];clear hqf;obtain ⟨cr0, cr1, cr2, cr3⟩ := Yr.t4;refine bodyPost_ret (v := .agg #[.slice zp zs.length zc, ex2, cl, .slice (some ⟨g2b, 0, none⟩) (ls.length + 1) cap2]) ?_ rfl ⟨_, _, rfl, cxe, nse, yz, fun bb hb => ?_⟩
  ·simp [results, Tryz.results66, go_sem, *]
  ·cases hb; show w.heap.size ≤ g2b; omega
 ·go_wp2_with (at_builtin; refine Go.wpList_append_lies _ rfl (.tmp 54) (.tmp 56) 22 rfl w3.heap.size 3 i0 (.int .i64 0) 1 8 Tryz.underlying22 hi hz0 hz1 hz2 rfl (by decide) vc ls.length _ rfl (hown.alloc _) ⟨w4.heap.size, 0, none⟩ 1 1 [.int .i64 s] rfl rfl (cell_one_new _ _ _) (by simp [Value.oneCell']) (by omega) (by unfold maxLen; omega) (by omega) (by have := g4.size; simp; omega) _ rfl ?_; intro g2b cap2 W2 hown2 hgrow2 hor2 hlt2; have hbs := hown.lt; have G2 : Gr w3 W2 := (g4.alloc _ _).grown hgrow2 (fun k e => (hbs k e).1); clear hgrow2 hor2 hown g4; have Eb := Fb_3.gr G2; have leb := Eb.lt; obtain ⟨db0, db1, db2, db3⟩ := Eb.t4; have Er := Fr_3.gr G2; have ler := Er.lt; obtain ⟨dr0, dr1, dr2, dr3⟩ := Er.t4; obtain ⟨nr0, nr1, nr2, nr3⟩ := Er.f4)
  have hsh : NumsAt W2 (.slice (some ⟨g2b, 0, none⟩) (ls ++ [s]).length cap2) (ls ++ [s]) := by
   have := NumsAt.of_row (xs := ls ++ [s]) (by rw [List.map_append]; exact hown2)
   rw [List.length_append]
   exact this
  have hgb := (hown2.lt g2b rfl).1;have KY := hz.gr G2;have zW2 := z3.trans G2;have hap := CxsAt.apart KY Er;have cxe := (((KY.set hap 0 (.slice zp zs.length zc)).set hap 1 (.int .i64 ex2)).set hap 2 (.bool true)).set hap 3 (.slice (some ⟨g2b, 0, none⟩) (ls.length + 1) cap2);have nse := (((hsh.st (w.heap.size + 1 + 1 + 1) 0 (.slice zp zs.length zc)).st (w.heap.size + 1 + 1 + 1) 1 (.int .i64 ex2)).st (w.heap.size + 1 + 1 + 1) 2 (.bool true)).st (w.heap.size + 1 + 1 + 1) 3 (.slice (some ⟨g2b, 0, none⟩) (ls.length + 1) cap2)
  obtain ⟨uf, hqf⟩ : ∃ zz, zz = ((((W2.setCell ⟨w.heap.size + 1 + 1 + 1, 0, none⟩ (.slice zp zs.length zc)).setCell ⟨w.heap.size + 1 + 1 + 1, 1, none⟩ (.int .i64 ex2)).setCell ⟨w.heap.size + 1 + 1 + 1, 2, none⟩ (.bool true)).setCell ⟨w.heap.size + 1 + 1 + 1, 3, none⟩ (.slice (some ⟨g2b, 0, none⟩) (ls.length + 1) cap2)) := ⟨_, rfl⟩
  rw [List.length_append] at nse;rw [← hqf] at cxe nse
  have Yr : CellsAt uf (w.heap.size + 1 + 1 + 1) 27 #[.slice zp zs.length zc, ex2, true, .slice (some ⟨g2b, 0, none⟩) (ls.length + 1) cap2] := by rw [hqf]; have q_ := CellsAt.set (CellsAt.set (CellsAt.set (CellsAt.set (Er) 0 (.slice zp zs.length zc)) 1 (.int .i64 ex2)) 2 (.bool true)) 3 (.slice (some ⟨g2b, 0, none⟩) (ls.length + 1) cap2); first | exact q_ | simpa using q_
  have yz : Gr w uf := by rw [hqf]; exact (((zW2.sc _).sc _).sc _).sc _
  rw [← hqf];clear hqf;obtain ⟨cr0, cr1, cr2, cr3⟩ := Yr.t4;refine bodyPost_ret (v := .agg #[.slice zp zs.length zc, ex2, true, .slice (some ⟨g2b, 0, none⟩) (ls.length + 1) cap2]) ?_ rfl ⟨_, _, rfl, cxe, nse, yz, fun bb hb => ?_⟩
  ·simp [results, Tryz.results66, go_sem, *]
  ·cases hb; show w.heap.size ≤ g2b; omega
end
end Go.Proofs.YtdignnmpfkgkoaaGreat
