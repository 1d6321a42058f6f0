import Derived.Test.YtdignnmpfkgkoaaGreatRealBinsS35
namespace Go.Proofs.YtdignnmpfkgkoaaGreat
set_option maxHeartbeats 16000000
section
open Go.ChangeShapes Go.WideShapes Go.ChangeAt Go.RowKit
set_option linter.unusedVariables false
set_option maxRecDepth 100000
set_option maxHeartbeats 16000000
theorem same03_no (u v : Value) (xs ys : List Gi) (w : World) (hl : xs.length = ys.length) (hne : xs ≠ ys) (hu : CxsAt w u xs) (hv : CxsAt w v ys) :
 CW 10 #[u, v] w (.bool false) :=by
 delta CW
 have hx : xs ≠ [] := by intro e; subst e; exact hne (List.length_eq_zero_iff.1 hl.symm).symm
 have hy : ys ≠ [] := by intro e; subst e; exact hx (List.length_eq_zero_iff.1 hl)
 obtain ⟨b, o, cap, rfl, hlen, hb, hc⟩ := hu.at hx
 obtain ⟨b', o', cap', rfl, _, hb', hc'⟩ := hv.at hy
 rw [← hl]
 have HC := kh hc
 have HC' := kh hc'
 have HNE := kh hne
 have HL := kh hl
 clear hc hc' hu hv hx hy hne hl
 go_in
 go_wp2_with fail
 go_loopw [13] (fun i wr => ∃ k : Nat, k ≤ xs.length ∧ i = .int .i64 k ∧ (∀ j, j < k → xs[j]? = ys[j]?) ∧ Gr w wr) (fun i _ => xs.length - (intOf i).toNat)
 case atStart => exact ⟨0, Nat.zero_le _, rfl, fun j hj => absurd hj (Nat.not_lt_zero _), Gr.refl _⟩
 case round =>
  obtain ⟨k, hk, rfl, hp, hg⟩ := hrel
  by_cases hlt : k < xs.length
  ·obtain ⟨x, hx⟩ := get_of_lt hlt
   obtain ⟨y, hy⟩ := get_of_lt (show k < ys.length by have := HL.out; omega);have h1 := (hg.cell (p := ⟨b, o + k * 2, none⟩) hb).trans (HC.out k x hx).1;have h2 := (hg.cell (p := ⟨b, o + k * 2 + 1, none⟩) hb).trans (HC.out k x hx).2;have h3 := (hg.cell (p := ⟨b', o' + k * 2, none⟩) hb').trans (HC'.out k y hy).1;have h4 := (hg.cell (p := ⟨b', o' + k * 2 + 1, none⟩) hb').trans (HC'.out k y hy).2
   have hlI : (k : Int) < (xs.length : Int) := by omega
   obtain ⟨a, c⟩ := x;obtain ⟨a', c'⟩ := y
   simp only at h1 h2 h3 h4
   by_cases e1 : a = a'
   ·subst e1
    by_cases e2 : c = c'
    ·subst e2
     have HP := kh (show ∀ j, j < k + 1 → xs[j]? = ys[j]? from fun j hj => by
      by_cases e : j = k
      ·rw [e, hx, hy]
      ·exact hp j (by omega))
     clear hx hy;go_wp2_with fail
     go_quiet (fail)
     go_wp2_with fail
     go_roundw
     case rel => exact ⟨k + 1, by omega, by go_num, HP.out, hg.drewN _⟩
     case measure => simp [intOf]; omega
    ·have hb2 : (c == c') = false := by simp [e2]
     clear hx hy;go_wp2_with fail
     go_quiet (fail)
     go_wp2_with fail
     go_ret
     exact ⟨rfl, hg.drewN _⟩
   ·have hb2 : (a == a') = false := by simp [e1]
    clear hx hy;go_wp2_with fail
    go_quiet (fail)
    go_wp2_with fail
    go_ret
    exact ⟨rfl, hg.drewN _⟩
  ·exfalso
   have hl := HL.out;refine HNE.out (List.ext_getElem? fun j => ?_)
   by_cases hj : j < k
   ·exact hp j hj
   ·rw [List.getElem?_eq_none (by omega), List.getElem?_eq_none (by omega)]
theorem tw_in {fo b p lo ke sc mo : Int} {L n B : Nat} (H : PlF fo b p lo ke sc mo L n B) : allIn (2 ^ B) (tw n B) = true := by
 obtain ⟨_, _, hlen⟩ := H.lens
 rw [allIn_bd, tw_eq]
 rcases H.sizes with ⟨_, _, _, rfl⟩ | ⟨_, _, _, rfl⟩
 ·exact (tw_all15 n hlen).2
 ·exact (tw_all31 n hlen).2
theorem shift15_c {fo b p lo ke sc mo : Int} {L n B : Nat} (H : PlF fo b p lo ke sc mo L n B) (iv : Bool) (k : Int) (hk : k = 2 ∨ k = 4) (v : Value) (xs : List Gi) (hx : allIn p xs = true) (w : World) (hv : CxsAt w v xs) :
 CW 94 #[v, .agg #[fo, lo, ke, sc, mo, iv], k] w (.int .i64 (shOf sc k p xs)) :=by
 delta CW
 obtain ⟨_, hsc, _⟩ := H.kinds
 have hp : p ≤ 2147483648 ∧ 0 ≤ p := by rcases H.sizes with h | h <;> omega
 unfold shOf
 rcases hsc with rfl | rfl | rfl
 ·rw [if_pos rfl]
  exact shift15_0 v fo lo ke mo k iv hk w
 ·rw [if_neg (by decide), if_pos rfl]
  have hm := maxG_le xs p hp.2 ((allIn_iff p xs).1 hx)
  exact shift15_1 v xs fo lo ke mo k (maxG xs) _ iv (kh fun W h => max09_c v xs (allIn_more hx hp.1) W h) (kh fun W => calls_gr (pre09_c k (maxG xs) fo b p H.fb hk (maxG_nonneg xs) hm W)) w hv
 ·rw [if_neg (by decide), if_neg (by decide)]
  exact shift15_2 v fo lo ke mo k iv hk w
theorem rpass2_c {fo b p lo ke sc mo : Int} {L n B : Nat} (H : PlF fo b p lo ke sc mo L n B) (iv : Bool) (px : Option Addr) (cx : Nat) (xs : List Gi) (hl : xs.length = n) (hx : allIn p xs = true) (h u : Nat) (hu : n = 2 * h * u) (h1 : 1 ≤ h) (s : Int) (s0 : 0 ≤ s) (s3 : s ≤ 3)
 (vw : Value) (w : World) (hvx : CxsAt w (.slice px xs.length cx) xs) (hvw : CxsAt w vw (tw n B)) :
 Calls Tryz.prog 95 #[.slice px xs.length cx, vw, h, B, s, mo, iv] w fun e w' => ∃ v', e = .returned v' ∧ CxsAt w' v' (twoL xs (tw n B) h B s.toNat mo iv) ∧ Gr w w' := by
 obtain ⟨pw, cw, rfl⟩ := hvw.len
 obtain ⟨_, h4, _⟩ := H.lens
 obtain ⟨hmo, _⟩ := H.kinds
 have hp : p ≤ 2147483648 ∧ B ≤ 29 := by rcases H.sizes with h | h <;> omega
 have hs : ((s.toNat : Nat) : Int) = s := Int.toNat_of_nonneg s0
 rw [tw_len] at hvw ⊢
 rw [hl] at hvx ⊢
 have := pass10_c px pw cx cw xs (tw n B) n h u B s.toNat mo iv hl (tw_len n B) hu h1 (by omega) (by omega) hp.2 (by omega) (by omega) (by omega) (allIn_more hx hp.1) (tw_in H) w hvx hvw
 rw [hs] at this
 exact this
theorem rpass4_c {fo b p lo ke sc mo : Int} {L n B : Nat} (H : PlF fo b p lo ke sc mo L n B) (iv : Bool) (px : Option Addr) (cx : Nat) (xs : List Gi) (hl : xs.length = n) (hx : allIn p xs = true) (h u : Nat) (hu : n = 4 * h * u) (h1 : 1 ≤ h) (u1 : 1 ≤ u) (s : Int) (s0 : 0 ≤ s) (s3 : s ≤ 3)
 (vw : Value) (w : World) (hvx : CxsAt w (.slice px xs.length cx) xs) (hvw : CxsAt w vw (tw n B)) :
 Calls Tryz.prog 96 #[.slice px xs.length cx, vw, h, B, s, mo, iv] w fun e w' => ∃ v', e = .returned v' ∧ CxsAt w' v' (fourL xs (tw n B) h B s.toNat mo iv) ∧ Gr w w' := by
 obtain ⟨pw, cw, rfl⟩ := hvw.len
 obtain ⟨_, h4, _⟩ := H.lens
 obtain ⟨hmo, _⟩ := H.kinds
 have hp : p ≤ 2147483648 ∧ B ≤ 29 := by rcases H.sizes with h | h <;> omega
 have hs : ((s.toNat : Nat) : Int) = s := Int.toNat_of_nonneg s0
 rw [tw_len] at hvw ⊢
 rw [hl] at hvx ⊢
 have := pass11_c px pw cx cw xs (tw n B) n h u B s.toNat mo iv hl (tw_len n B) hu h1 u1 (by omega) hp.2 (by omega) (by omega) (by omega) (allIn_more hx hp.1) (tw_in H) w hvx hvw
 rw [hs] at this
 exact this
theorem rtwid15_c {fo b p lo ke sc mo : Int} {L n B : Nat} (H : PlF fo b p lo ke sc mo L n B) (w : World) : Calls Tryz.prog 47 #[lo, fo] w fun e w' => ∃ u, e = .returned u ∧ CxsAt w' u (tw n B) ∧ Gr w w' := by
 obtain ⟨h2, h4, _⟩ := H.lens
 have h := rTwid12_c lo n fo b p (by have := H.lo; omega) (by have := H.lo; omega) (by rw [H.lo, H.n, Int.toNat_natCast]; simp) H.fb w
 rw [show (56 - (b - 2)).toNat = 56 - B by have := H.bits; omega] at h
 exact h
theorem rbits15_c {fo b p lo ke sc mo : Int} {L n B : Nat} (H : PlF fo b p lo ke sc mo L n B) (w : World) : CW 42 #[fo] w (.int .i64 B) :=by
 delta CW
 have h := calls_gr (bits12_c fo b p H.fb w)
 rw [show b - 2 = (B : Int) by have := H.bits; omega] at h
 exact h
theorem clamped15_c {fo b p lo ke sc mo : Int} {L n B : Nat} (H : PlF fo b p lo ke sc mo L n B) (v : Value) (xs : List Gi) (hl : xs.length ≤ 100) (w : World) (hv : CxsAt w v xs) :
 Calls Tryz.prog 44 #[v, fo] w fun e w' => ∃ u, e = .returned u ∧ CxsAt w' u (xs.map (clampG p)) ∧ Gr w w' :=
 clamped15_of v xs fo p hl (kh fun x W => rclamp_c fo b p x H.fb W) w hv
theorem same15x_c (ys : List Gi) (p : Int) (u v : Value) (w : World) (hu : CxsAt w u ys) (hv : CxsAt w v (ys.map (clampG p))) :
 CW 10 #[u, v] w (.bool (!ys.any (offG p))) :=by
 delta CW
 cases ha : ys.any (offG p)
 ·rw [any_off.1 ha] at hv
  exact same03_c u v ys w hu hv
 ·refine same03_no u v ys _ w (by simp) (fun e => ?_) hu hv
  rw [any_off.2 e.symm] at ha
  cases ha
theorem next15_c {fo b p lo ke sc mo : Int} {L n B : Nat} (H : PlF fo b p lo ke sc mo L n B) (iv : Bool) (q : Gi) (hq : Fits n q) (k : BV) (hl : k.X.length = n) (hx : allIn p k.X = true) (hsh : k.sh.length ≤ 20) (e0 : -1000 ≤ k.ex) (e1 : k.ex ≤ 1000)
 (vx vs : Value) (w : World) (hvx : CxsAt w vx k.X) (hvs : NumsAt w vs k.sh) :
 Calls Tryz.prog 49 #[.agg #[vx, k.ex, k.sat, vs], .agg #[fo, lo, ke, sc, mo, iv], .agg #[q.re, q.im]] w fun e w' =>
  ∃ ux us, e = .returned (.agg #[ux, (nextB sc mo p iv B (tw n B) k q).ex, (nextB sc mo p iv B (tw n B) k q).sat, us]) ∧ CxsAt w' ux (nextB sc mo p iv B (tw n B) k q).X ∧ NumsAt w' us (nextB sc mo p iv B (tw n B) k q).sh ∧ Gr w w' ∧ ∀ b, us.ownBlock = some b → w.heap.size ≤ b := by
 obtain ⟨bp, bc, rfl⟩ := hvx.len
 obtain ⟨sp, sl, rfl⟩ := hvs.len
 obtain ⟨_, h4, _⟩ := H.lens
 obtain ⟨X, ex, sat, sh⟩ := k
 simp only at hl hx hsh e0 e1 hvx hvs ⊢
 obtain ⟨re, im⟩ := q
 obtain ⟨hre, h, u, him, h1, u1, hn⟩ := hq
 simp only at hre him hn
 subst him
 obtain ⟨s, hs⟩ : ∃ s, shOf sc re p X = s := ⟨_, rfl⟩
 have hsb := shOf_bd sc re p X
 rw [hs] at hsb
 have HS := kh fun W (h : CxsAt W (.slice bp X.length bc) X) => shift15_c H iv re hre _ X hx W h
 rw [hs] at HS
 have HT := kh fun W => rtwid15_c H W
 have HB := kh fun W => rbits15_c H W
 have hex : wrap64 (ex + s) = ex + s := IntWalk.wrap64_in _ ⟨by omega, by omega⟩
 obtain ⟨v, hv⟩ : ∃ v, n = 2 * 1 * v := by
  rcases hre with rfl | rfl
  ·exact ⟨h * u, by rw [show 2 * 1 * (h * u) = 2 * h * u by rw [Nat.mul_one, Nat.mul_assoc]]; exact Int.ofNat.inj (by simpa using hn)⟩
  ·exact ⟨2 * (h * u), by rw [show 2 * 1 * (2 * (h * u)) = 4 * h * u by rw [Nat.mul_assoc 4 h u]; omega]; exact Int.ofNat.inj (by simpa using hn)⟩
 have H1 := kh fun vw W (h : CxsAt W (.slice bp X.length bc) X) (h' : CxsAt W vw (tw n B)) => rpass2_c H iv bp bc X hl hx 1 v hv (Nat.le_refl 1) s hsb.1 hsb.2 vw W h h'
 have hdone : ∀ (Y : List Gi), stepV sc p B mo iv (tw n B) X ⟨re, h⟩ = Y → Y.length = n := by
  intro Y e
  rw [← e];unfold stepV;rw [passV_len]
  exact hl
 simp only [nextB, hs]
 rcases hre with rfl | rfl
 ·have hst : stepV sc p B mo iv (tw n B) X ⟨2, h⟩ = twoL X (tw n B) h B s.toNat mo iv := by unfold stepV passV; rw [hs, if_neg (show ¬ ((2 : Int) = 4) by decide)]; rfl
  have hYl := hdone _ hst;rw [hst]
  by_cases hh : h = 1
  ·subst hh
   by_cases hsc : sc = 2
   ·subst hsc
    rw [if_pos rfl, if_pos rfl]
    have := next15_2as X (tw n B) (twoL X (tw n B) 1 B s.toNat mo iv) _ sh fo lo ke mo s B ex (ex + s) iv sat _ bp sp bc sl hsh hex HS HT HB H1 (kh fun v W h => clamped15_c H v _ (by rw [hYl]; omega) W h) (kh fun u v W h h' => same15x_c _ p u v W h h') w hvx hvs
    rw [Bool.not_not] at this
    exact this
   ·rw [if_neg hsc, if_neg hsc]
    exact next15_2a X (tw n B) _ sh fo lo ke mo s B ex (ex + s) sc iv sat bp sp bc sl hsh (by simp [hsc]) hex HS HT HB H1 w hvx hvs
  ·have hu : n = 2 * h * u := Int.ofNat.inj (by simpa using hn)
   have H2 := kh fun vw W (h' : CxsAt W (.slice bp X.length bc) X) (h'' : CxsAt W vw (tw n B)) => rpass2_c H iv bp bc X hl hx h u hu h1 s hsb.1 hsb.2 vw W h' h''
   have hhd : decide (1 < (h : Int)) = true := by simp; omega
   by_cases hsc : sc = 2
   ·subst hsc
    rw [if_pos rfl, if_pos rfl]
    have := next15_2bsA.1 X (tw n B) _ (twoL X (tw n B) h B s.toNat mo iv) _ sh fo lo ke mo s B ex (ex + s) h iv sat _ bp sp bc sl hsh hhd hex HS HT HB H1 H2 (kh fun v W h => clamped15_c H v _ (by rw [hYl]; omega) W h) (kh fun u v W h h' => same15x_c _ p u v W h h') w hvx hvs
    rw [Bool.not_not] at this
    exact this
   ·rw [if_neg hsc, if_neg hsc]
    exact next15_2bA.1 X (tw n B) _ _ sh fo lo ke mo s B ex (ex + s) h sc iv sat bp sp bc sl hsh hhd (by simp [hsc]) hex HS HT HB H1 H2 w hvx hvs
 ·have hst : stepV sc p B mo iv (tw n B) X ⟨4, h⟩ = fourL X (tw n B) h B s.toNat mo iv := by unfold stepV passV; rw [hs, if_pos rfl]; rfl
  have hYl := hdone _ hst;rw [hst]
  have hu : n = 4 * h * u := Int.ofNat.inj (by simpa using hn)
  have H2 := kh fun vw W (h' : CxsAt W (.slice bp X.length bc) X) (h'' : CxsAt W vw (tw n B)) => rpass4_c H iv bp bc X hl hx h u hu h1 u1 s hsb.1 hsb.2 vw W h' h''
  by_cases hsc : sc = 2
  ·subst hsc
   rw [if_pos rfl, if_pos rfl]
   have := next15_2bsA.2 X (tw n B) _ (fourL X (tw n B) h B s.toNat mo iv) _ sh fo lo ke mo s B ex (ex + s) h iv sat _ bp sp bc sl hsh hex HS HT HB H1 H2 (kh fun v W h => clamped15_c H v _ (by rw [hYl]; omega) W h) (kh fun u v W h h' => same15x_c _ p u v W h h') w hvx hvs
   rw [Bool.not_not] at this
   exact this
  ·rw [if_neg hsc, if_neg hsc]
   exact next15_2bA.2 X (tw n B) _ _ sh fo lo ke mo s B ex (ex + s) h sc iv sat bp sp bc sl hsh (by simp [hsc]) hex HS HT HB H1 H2 w hvx hvs
end
section
open Go.ChangeShapes Go.WideShapes Go.ChangeAt Go.RowKit
set_option linter.unusedVariables false
set_option linter.unusedSimpArgs false
set_option maxRecDepth 100000
set_option maxHeartbeats 16000000
theorem wmul3 (k u : Nat) (h : 3 * k * u ≤ 64) : wrap64 (3 * (k : Int) * (u : Int)) = ((3 * k * u : Nat) : Int) := by
 rw [show (3 : Int) * (k : Int) = ((3 * k : Nat) : Int) by simp]
 exact wmul (3 * k) u (by omega)
theorem CellsAt.set12 {W : World} {B : Nat} {t : TypeId} {a0 a1 a2 a3 a4 a5 a6 a7 a8 a9 a10 a11 : Value} (h : CellsAt W B t #[a0, a1, a2, a3, a4, a5, a6, a7, a8, a9, a10, a11]) (v0 v1 v2 v3 v4 v5 v6 v7 v8 v9 v10 v11 : Value) : CellsAt ((((((((((((W.setCell ⟨B, 0, none⟩ v0).setCell ⟨B, 1, none⟩ v1).setCell ⟨B, 2, none⟩ v2).setCell ⟨B, 3, none⟩ v3).setCell ⟨B, 4, none⟩ v4).setCell ⟨B, 5, none⟩ v5).setCell ⟨B, 6, none⟩ v6).setCell ⟨B, 7, none⟩ v7).setCell ⟨B, 8, none⟩ v8).setCell ⟨B, 9, none⟩ v9).setCell ⟨B, 10, none⟩ v10).setCell ⟨B, 11, none⟩ v11) B t #[v0, v1, v2, v3, v4, v5, v6, v7, v8, v9, v10, v11] := by
 have := ((((((((((((h.set 0 v0).set 1 v1).set 2 v2).set 3 v3).set 4 v4).set 5 v5).set 6 v6).set 7 v7).set 8 v8).set 9 v9).set 10 v10).set 11 v11)
 simpa using this
theorem CellsAt.set12_4 {W : World} {B : Nat} {t : TypeId} {a0 a1 a2 a3 a4 a5 a6 a7 a8 a9 a10 a11 : Value} (h : CellsAt W B t #[a0, a1, a2, a3, a4, a5, a6, a7, a8, a9, a10, a11]) (x y : Value) : CellsAt ((W.setCell ⟨B, 8, none⟩ x).setCell ⟨B, 9, none⟩ y) B t #[a0, a1, a2, a3, a4, a5, a6, a7, x, y, a10, a11] := by
 have := (h.set 8 x).set 9 y
 simpa using this
theorem CellsAt.set12_5 {W : World} {B : Nat} {t : TypeId} {a0 a1 a2 a3 a4 a5 a6 a7 a8 a9 a10 a11 : Value} (h : CellsAt W B t #[a0, a1, a2, a3, a4, a5, a6, a7, a8, a9, a10, a11]) (x y : Value) : CellsAt ((W.setCell ⟨B, 10, none⟩ x).setCell ⟨B, 11, none⟩ y) B t #[a0, a1, a2, a3, a4, a5, a6, a7, a8, a9, x, y] := by
 have := (h.set 10 x).set 11 y
 simpa using this
theorem rRun_2 (bits : Nat) (mo : Int) (inv : Bool) (pw : Option Addr) (b o n cw cx m h h2 u : Nat) (xs ws EL FL GL : List Gi) (T : Nat → Gi) (hl : xs.length = m) (hm : m = 4 * h) (hh2 : h2 = 2 * h) (h1 : 1 ≤ h) (hm64 : m ≤ 64) (hn : n = m * u) (hn64 : n ≤ 64) (hu : 1 ≤ u)
 (lE : EL.length = h2) (lF : FL.length = h) (lG : GL.length = h) (lw : ws.length = n)
 (HE : Hid (∀ px cx W, CxsAt W (.slice px h2 cx) ((List.range h2).map (pick xs 0 2)) → CxsAt W (.slice pw n cw) ws → Calls Tryz.prog 46 #[.slice px h2 cx, .slice pw n cw, bits, mo, inv] W fun e w' => ∃ v, e = .returned v ∧ CxsAt w' v EL ∧ Gr W w'))
 (HF : Hid (∀ px cx W, CxsAt W (.slice px h cx) ((List.range h).map (pick xs 1 4)) → CxsAt W (.slice pw n cw) ws → Calls Tryz.prog 46 #[.slice px h cx, .slice pw n cw, bits, mo, inv] W fun e w' => ∃ v, e = .returned v ∧ CxsAt w' v FL ∧ Gr W w'))
 (HG : Hid (∀ px cx W, CxsAt W (.slice px h cx) ((List.range h).map (pick xs 3 4)) → CxsAt W (.slice pw n cw) ws → Calls Tryz.prog 46 #[.slice px h cx, .slice pw n cw, bits, mo, inv] W fun e w' => ∃ v, e = .returned v ∧ CxsAt w' v GL ∧ Gr W w'))
 (HRT : Hid (∀ j : Nat, j < n → ∀ W, CxsAt W (.slice pw n cw) ws → Calls Tryz.prog 92 #[.slice pw n cw, .int .i64 (j : Int), inv] W fun e w' => e = .returned (.agg #[.int .i64 (rootOf ws inv j).re, .int .i64 (rootOf ws inv j).im]) ∧ Gr W w'))
 (HJ : Hid (∀ i, i < m → ∀ W, Calls Tryz.prog 93 #[.agg #[.int .i64 (EL.getD (i % h) ⟨0, 0⟩).re, .int .i64 (EL.getD (i % h) ⟨0, 0⟩).im, .int .i64 (EL.getD (h + i % h) ⟨0, 0⟩).re, .int .i64 (EL.getD (h + i % h) ⟨0, 0⟩).im, .int .i64 (FL.getD (i % h) ⟨0, 0⟩).re, .int .i64 (FL.getD (i % h) ⟨0, 0⟩).im, .int .i64 (GL.getD (i % h) ⟨0, 0⟩).re, .int .i64 (GL.getD (i % h) ⟨0, 0⟩).im, .int .i64 (rootOf ws inv (i % h * u)).re, .int .i64 (rootOf ws inv (i % h * u)).im, .int .i64 (rootOf ws inv (3 * (i % h) * u)).re, .int .i64 (rootOf ws inv (3 * (i % h) * u)).im], .int .i64 ((i / h : Nat) : Int), bits, mo, inv] W fun e w' => e = .returned (.agg #[.int .i64 (T i).re, .int .i64 (T i).im]) ∧ Gr W w'))
 (w : World) (hbw : b < w.heap.size) (hC : ∀ j, j < m → w.cell? ⟨b, o + j * 2, none⟩ = some (.int .i64 (xs.getD j ⟨0, 0⟩).re) ∧ w.cell? ⟨b, o + j * 2 + 1, none⟩ = some (.int .i64 (xs.getD j ⟨0, 0⟩).im)) (VW : CxsAt w (.slice pw n cw) ws) :
 Calls Tryz.prog 46 #[.slice (some ⟨b, o, none⟩) m cx, .slice pw n cw, bits, mo, inv] w fun e w' => ∃ v, e = .returned v ∧ CxsAt w' v ((List.range m).map T) ∧ Gr w w' := by
 obtain ⟨i0, hi, hz0, hz1, hz2⟩ := info_parts info_cx
 have HEV := kh fun (F S cnt : Nat) (hS1 : 1 ≤ S) (hS : S ≤ 4) (hN : (∀ q, F + S * q < m ↔ q < cnt) ∧ cnt ≤ 32 ∧ F + S * cnt ≤ 200) (W : World) (g : Gr w W) =>
  rEvery_c b o m cx F S cnt xs hm64 hS1 (by omega) hN.1 hN.2.1 hN.2.2 W (Nat.lt_of_lt_of_le hbw g.size) (fun j hj => ⟨(g.cell (p := ⟨b, _, none⟩) hbw).trans (hC j hj).1, (g.cell (p := ⟨b, _, none⟩) hbw).trans (hC j hj).2⟩)
 have HN0 := kh (show (∀ q, 0 + 2 * q < m ↔ q < h2) ∧ h2 ≤ 32 ∧ 0 + 2 * h2 ≤ 200 from ⟨fun q => by omega, by omega, by omega⟩)
 have HN1 := kh (show (∀ q, 1 + 4 * q < m ↔ q < h) ∧ h ≤ 32 ∧ 1 + 4 * h ≤ 200 from ⟨fun q => by omega, by omega, by omega⟩)
 have HN3 := kh (show (∀ q, 3 + 4 * q < m ↔ q < h) ∧ h ≤ 32 ∧ 3 + 4 * h ≤ 200 from ⟨fun q => by omega, by omega, by omega⟩)
 have HRN := kh fun i hi => round_nums h u m n i hm hn h1 hu hm64 hn64 hi
 have hm1 : ¬ (m : Int) = 1 := by omega
 have hm2 : ¬ (m : Int) = 2 := by omega
 have hm1' : ¬ m = 1 := by omega
 have hm2' : ¬ m = 2 := by omega
 have hnu : (n : Int) / (m : Int) = (u : Int) := by
  have : (n : Int) = (m : Int) * (u : Int) := by rw [hn]; simp
  rw [this]
  exact Int.mul_ediv_cancel_left _ (by omega)
 have hmz : ¬ (m : Int) = 0 := by omega
 have hhz : ¬ (h : Int) = 0 := by omega
 have hule : u ≤ 64 := by
  have : 1 * u ≤ m * u := Nat.mul_le_mul_right _ (by omega)
  omega
 have HQ := kh (And.intro hn (And.intro hm hh2))
 clear hC hl hm hn hh2
 go_in
 go_wp2_with fail
 refine (HEV.out 0 2 h2 (by omega) (by omega) HN0.out w (Gr.refl w)).mono ?_
 rintro e w1a ⟨v1a, rfl, hv1a, g1a⟩
 obtain ⟨pea, cea, hvea⟩ := hv1a.len
 rw [List.length_map, List.length_range] at hvea
 subst hvea
 replace VW := VW.gr g1a
 have z1a := ((Gr.refl w)).trans g1a
 go_wp2_with fail
 refine (HE.out _ _ _ hv1a VW).mono ?_
 rintro e w2a ⟨v2a, rfl, WE, g2a⟩
 obtain ⟨pWE, cWE, hve2a⟩ := WE.len
 rw [lE] at hve2a
 subst hve2a
 replace VW := VW.gr g2a
 have z2a := z1a.trans g2a
 go_wp2_with fail
 refine (HEV.out 1 4 h (by omega) (by omega) HN1.out w2a z2a).mono ?_
 rintro e w1b ⟨v1b, rfl, hv1b, g1b⟩
 obtain ⟨peb, ceb, hveb⟩ := hv1b.len
 rw [List.length_map, List.length_range] at hveb
 subst hveb
 replace VW := VW.gr g1b
 have z1b := z2a.trans g1b
 go_wp2_with fail
 refine (HF.out _ _ _ hv1b VW).mono ?_
 rintro e w2b ⟨v2b, rfl, WF, g2b⟩
 obtain ⟨pWF, cWF, hve2b⟩ := WF.len
 rw [lF] at hve2b
 subst hve2b
 replace VW := VW.gr g2b
 have z2b := z1b.trans g2b
 replace WE := WE.gr (g1b.trans g2b)
 go_wp2_with fail
 refine (HEV.out 3 4 h (by omega) (by omega) HN3.out w2b z2b).mono ?_
 rintro e w1c ⟨v1c, rfl, hv1c, g1c⟩
 obtain ⟨pec, cec, hvec⟩ := hv1c.len
 rw [List.length_map, List.length_range] at hvec
 subst hvec
 replace VW := VW.gr g1c
 have z1c := z2b.trans g1c
 go_wp2_with fail
 refine (HG.out _ _ _ hv1c VW).mono ?_
 rintro e w2c ⟨v2c, rfl, WG, g2c⟩
 obtain ⟨pWG, cWG, hve2c⟩ := WG.len
 rw [lG] at hve2c
 subst hve2c
 replace VW := VW.gr g2c
 have z2c := z1c.trans g2c
 replace WE := WE.gr (g1c.trans g2c)
 replace WF := WF.gr (g1c.trans g2c)
 have zz := z2c
 clear HEV HN0 HN1 HN3 HE HF HG g1a g2a g1b g2b g1c g2c z1a z2a z1b z2b z1c z2c hv1a hv1b hv1c
 obtain ⟨bE, oE, cE', hvv, _, hbE, hcE⟩ := WE.at (by intro e; rw [e] at lE; simp at lE; have := HQ.out.2.2; omega)
 rw [lE] at hvv
 cases hvv
 obtain ⟨bF, oF, cF', hvv, _, hbF, hcF⟩ := WF.at (by intro e; rw [e] at lF; simp at lF; omega)
 rw [lF] at hvv
 cases hvv
 obtain ⟨bG, oG, cG', hvv, _, hbG, hcG⟩ := WG.at (by intro e; rw [e] at lG; simp at lG; omega)
 rw [lG] at hvv
 cases hvv
 have HCE := kh fun j (hj : j < h2) => CxsAt.getD (n := 0) (cap := 0) hcE j (by omega)
 have HCF := kh fun j (hj : j < h) => CxsAt.getD (n := 0) (cap := 0) hcF j (by omega)
 have HCG := kh fun j (hj : j < h) => CxsAt.getD (n := 0) (cap := 0) hcG j (by omega)
 have HVW := kh VW
 clear WE WF WG hcE hcF hcG VW
 go_wp2_with fail
 obtain ⟨w7, hw7⟩ : ∃ zz, zz = w2c := ⟨_, rfl⟩
 rw [← hw7] at zz HCE HCF HCG HVW hbE hbF hbG ⊢
 clear hw7
 have hs0 : ((w7.alloc (.cells #[] 50)).ownsRow w7.heap.size 50 2 (.slice (some ⟨w7.heap.size, 0, none⟩) 0 0) 0 []) := World.ownsRow_made w7 #[] 0 (Nat.le_refl _) (by unfold maxLen; omega) (by simp)
 go_loopw [18, 19] (fun out i wr => ∃ j : Nat, j ≤ m ∧ i = .int .i64 j ∧ wr.ownsRow w7.heap.size 50 2 out j (gcells ((List.range j).map T)) ∧ Gr w7 wr)
  (fun _ i _ => m - (intOf i).toNat)
 case atStart => exact ⟨0, by omega, rfl, hs0, (Gr.refl w7).alloc _ _⟩
 case round =>
  clear hs0;obtain ⟨i, him, rfl, hrow, hg⟩ := hrel
  by_cases hlt : i < m
  ·have hilt : (i : Int) < m := by omega
   have HE5 := kh (wmul3 (i % h) u (Nat.le_trans (Nat.le_of_lt (HRN.out i hlt).1.2.2.2.1) hn64));obtain ⟨⟨a1, a2, a3, a4, a5⟩, ⟨d1, d2, d3, d4, d5, d6⟩, e1, e2, e3, e4⟩ := HRN.out i hlt;have HJ1 := kh (HJ.out i hlt);have HR1 := kh (HRT.out _ a3);have HR2 := kh (HRT.out _ a4);have k0 := HCE.out (i % h) (by have := HQ.out.2.2; omega);have k1 := HCE.out (h + i % h) (by have := HQ.out.2.2; omega);have k2 := HCF.out (i % h) a1;have k3 := HCG.out (i % h) a1;have ER := kh (show (List.range (i + 1)).map T = (List.range i).map T ++ [T i] by rw [List.range_succ, List.map_append]; rfl)
   have n1 : ((i % h : Nat) : Int) < (h : Int) := by omega
   have n2 : ((i % h : Nat) : Int) < (h2 : Int) := by have := HQ.out.2.2; omega
   have n3 : ((h + i % h : Nat) : Int) < (h2 : Int) := by have := HQ.out.2.2; omega
   have n2' : i % h < h2 := by have := HQ.out.2.2; omega
   have n3' : h + i % h < h2 := by have := HQ.out.2.2; omega
   clear a3 a4 a5;generalize rootOf ws inv (i % h * u) = Q1 at *;generalize rootOf ws inv (3 * (i % h) * u) = Q2 at *;generalize EL.getD (i % h) ⟨0, 0⟩ = A0 at *;generalize EL.getD (h + i % h) ⟨0, 0⟩ = A1 at *;generalize FL.getD (i % h) ⟨0, 0⟩ = A2 at *;generalize GL.getD (i % h) ⟨0, 0⟩ = A3 at *;generalize T i = Ti at *;obtain ⟨re, im⟩ := Ti;generalize h + i % h = hk at *;generalize 3 * (i % h) * u = k3u at *;generalize 3 * (i % h) = kk3 at *;generalize i % h * u = ku at *;generalize i % h = k at *;generalize i / h = q at *;have HE4 := kh (And.intro e2 (And.intro e3 e4));have HE1 := kh e1;clear e1 e2 e3 e4;go_wp2_with fail
   try simp only [d1, d3]
   have KS : ∀ W, Gr wr W → (W.cell? ⟨bE, oE + k * 2, none⟩ = some (.int .i64 A0.re) ∧ W.cell? ⟨bE, oE + k * 2 + 1, none⟩ = some (.int .i64 A0.im) ∧ W.cell? ⟨bE, oE + hk * 2, none⟩ = some (.int .i64 A1.re) ∧ W.cell? ⟨bE, oE + hk * 2 + 1, none⟩ = some (.int .i64 A1.im) ∧ W.cell? ⟨bF, oF + k * 2, none⟩ = some (.int .i64 A2.re) ∧ W.cell? ⟨bF, oF + k * 2 + 1, none⟩ = some (.int .i64 A2.im) ∧ W.cell? ⟨bG, oG + k * 2, none⟩ = some (.int .i64 A3.re) ∧ W.cell? ⟨bG, oG + k * 2 + 1, none⟩ = some (.int .i64 A3.im)) := fun W hG =>
    ⟨((hg.trans hG).cell (p := ⟨bE, _, none⟩) hbE).trans k0.1, ((hg.trans hG).cell (p := ⟨bE, _, none⟩) hbE).trans k0.2, ((hg.trans hG).cell (p := ⟨bE, _, none⟩) hbE).trans k1.1, ((hg.trans hG).cell (p := ⟨bE, _, none⟩) hbE).trans k1.2, ((hg.trans hG).cell (p := ⟨bF, _, none⟩) hbF).trans k2.1, ((hg.trans hG).cell (p := ⟨bF, _, none⟩) hbF).trans k2.2, ((hg.trans hG).cell (p := ⟨bG, _, none⟩) hbG).trans k3.1, ((hg.trans hG).cell (p := ⟨bG, _, none⟩) hbG).trans k3.2⟩
   clear k0 k1 k2 k3;have e1 := HE1.out
   have ewh : IntKind.i64.wrap (h : Int) = (h : Int) := IntWalk.i64_in _ ⟨by omega, by omega⟩
   have hclG := gr_closed wr
   try simp only [List.append_eq, List.cons_append, List.nil_append]
   refine wp_region_grow (S := Gr wr) rfl (Gr.drew (Gr.refl _)) ?_;refine gT 0 hclG ?_;refine gT 1 hclG ?_;refine gT 2 hclG ?_;refine gK 3 hclG KS ?_;refine gT 4 hclG ?_;refine gT 5 hclG ?_;refine gT 6 hclG ?_;refine gT 7 hclG ?_;refine gT 8 hclG ?_;refine gT 9 hclG ?_;refine gK 10 hclG KS ?_;refine gT 11 hclG ?_;refine gT 12 hclG ?_;refine gT 13 hclG ?_;refine gK 14 hclG KS ?_;refine gT 15 hclG ?_;refine gT 16 hclG ?_;refine gT 17 hclG ?_;refine gK 18 hclG KS ?_;refine gT 19 hclG ?_;refine gR 20 fun wa ga sa K hK => ?_
   replace ga := (Gr.drew (Gr.refl wr)).trans ga;have hza := ga.size;have hzr := hg.size
   go_simp
   have J0 := CellsAt.new wa 117 #[.int .i64 0, .int .i64 0, .int .i64 0, .int .i64 0, .int .i64 0, .int .i64 0, .int .i64 0, .int .i64 0, .int .i64 0, .int .i64 0, .int .i64 0, .int .i64 0];refine hK.out _ _ ?_ ?_
   ·exact ga.alloc _ _
   clear hK K
   try simp only [Act.put, putS]
   refine gR 21 fun wb gb sb K hK => ?_
   have J1 := J0.gr gb;have lJ := J1.lt;clear J0 ga sa gb;obtain ⟨mJ0, mJ1, mJ2, mJ3, mJ4, mJ5, mJ6, mJ7, mJ8, mJ9, mJ10, mJ11⟩ := J1.f12;obtain ⟨cJ0, cJ1, cJ2, cJ3, cJ4, cJ5, cJ6, cJ7, cJ8, cJ9, cJ10, cJ11⟩ := J1.t12
   go_simp
   clear mJ0 cJ0 mJ1 cJ1 mJ2 cJ2 mJ3 cJ3 mJ4 cJ4 mJ5 cJ5 mJ6 cJ6 mJ7 cJ7 mJ8 cJ8 mJ9 cJ9 mJ10 cJ10 mJ11 cJ11
   obtain ⟨wc, hqp1⟩ : ∃ zz, zz = ((((((((((((wb.setCell ⟨wa.heap.size, 0, none⟩ (.int .i64 A0.re)).setCell ⟨wa.heap.size, 1, none⟩ (.int .i64 A0.im)).setCell ⟨wa.heap.size, 2, none⟩ (.int .i64 A1.re)).setCell ⟨wa.heap.size, 3, none⟩ (.int .i64 A1.im)).setCell ⟨wa.heap.size, 4, none⟩ (.int .i64 A2.re)).setCell ⟨wa.heap.size, 5, none⟩ (.int .i64 A2.im)).setCell ⟨wa.heap.size, 6, none⟩ (.int .i64 A3.re)).setCell ⟨wa.heap.size, 7, none⟩ (.int .i64 A3.im)).setCell ⟨wa.heap.size, 8, none⟩ (.int .i64 0)).setCell ⟨wa.heap.size, 9, none⟩ (.int .i64 0)).setCell ⟨wa.heap.size, 10, none⟩ (.int .i64 0)).setCell ⟨wa.heap.size, 11, none⟩ (.int .i64 0)) := ⟨_, rfl⟩
   have YJ_p1 : CellsAt wc (wa.heap.size) 117 #[A0.re, A0.im, A1.re, A1.im, A2.re, A2.im, A3.re, A3.im, .int .i64 0, .int .i64 0, .int .i64 0, .int .i64 0] := by rw [hqp1]; exact CellsAt.set12 J1 _ _ _ _ _ _ _ _ _ _ _ _
   have yp1 : Gr wr wc := by rw [hqp1]; exact (((((((((((sb.sc _).sc _).sc _).sc _).sc _).sc _).sc _).sc _).sc _).sc _).sc _).sc _
   rw [← hqp1];clear hqp1;refine hK.out _ _ ?_ ?_
   ·exact yp1
   clear hK K
   try simp only [Act.put, putS]
   refine wpG_done (by kernel_rfl) (fun w8 g8 => ?_) _;have ⟨FJ_8, lJ_8⟩ := YJ_p1.gl g8;have z8 := yp1.trans g8;clear YJ_p1 yp1 g8;clear hclG KS e1 ewh;obtain ⟨e2, e3, e4⟩ := HE4.out;clear HE4;go_wp2_with fail;refine (HR1.out _ (HVW.out.gr (hg.trans z8))).mono ?_;rintro e w1 ⟨rfl, g1⟩;have ⟨FJ_1, lJ_1⟩ := FJ_8.gl g1;have z1 := z8.trans g1;clear FJ_8 z8 g1;obtain ⟨mJ0, mJ1, mJ2, mJ3, mJ4, mJ5, mJ6, mJ7, mJ8, mJ9, mJ10, mJ11⟩ := FJ_1.f12;obtain ⟨cJ0, cJ1, cJ2, cJ3, cJ4, cJ5, cJ6, cJ7, cJ8, cJ9, cJ10, cJ11⟩ := FJ_1.t12;go_wp2_with fail;clear mJ0 cJ0 mJ1 cJ1 mJ2 cJ2 mJ3 cJ3 mJ4 cJ4 mJ5 cJ5 mJ6 cJ6 mJ7 cJ7 mJ8 cJ8 mJ9 cJ9 mJ10 cJ10 mJ11 cJ11;clear e2 e3 e4
   obtain ⟨wd, hqp2⟩ : ∃ zz, zz = ((w1.setCell ⟨wa.heap.size, 8, none⟩ (.int .i64 Q1.re)).setCell ⟨wa.heap.size, 9, none⟩ (.int .i64 Q1.im)) := ⟨_, rfl⟩
   have YJ_p2 : CellsAt wd (wa.heap.size) 117 #[A0.re, A0.im, A1.re, A1.im, A2.re, A2.im, A3.re, A3.im, Q1.re, Q1.im, .int .i64 0, .int .i64 0] := by rw [hqp2]; first | exact CellsAt.set12_4 FJ_1 _ _ | simpa using CellsAt.set12_4 FJ_1 _ _
   have yp2 : Gr wr wd := by rw [hqp2]; exact (z1.sc _).sc _
   rw [← hqp2];clear hqp2;rw [HE5.out];refine (HR2.out _ (HVW.out.gr (hg.trans yp2))).mono ?_;rintro e w2 ⟨rfl, g2⟩;clear HR1 HR2 HE5;have ⟨FJ_2, lJ_2⟩ := YJ_p2.gl g2;have z2 := yp2.trans g2;clear YJ_p2 yp2 g2;obtain ⟨mJ0, mJ1, mJ2, mJ3, mJ4, mJ5, mJ6, mJ7, mJ8, mJ9, mJ10, mJ11⟩ := FJ_2.f12;obtain ⟨cJ0, cJ1, cJ2, cJ3, cJ4, cJ5, cJ6, cJ7, cJ8, cJ9, cJ10, cJ11⟩ := FJ_2.t12;go_wp2_with fail;clear mJ0 cJ0 mJ1 cJ1 mJ2 cJ2 mJ3 cJ3 mJ4 cJ4 mJ5 cJ5 mJ6 cJ6 mJ7 cJ7 mJ8 cJ8 mJ9 cJ9 mJ10 cJ10 mJ11 cJ11
   obtain ⟨we, hqp3⟩ : ∃ zz, zz = ((w2.setCell ⟨wa.heap.size, 10, none⟩ (.int .i64 Q2.re)).setCell ⟨wa.heap.size, 11, none⟩ (.int .i64 Q2.im)) := ⟨_, rfl⟩
   have YJ_p3 : CellsAt we (wa.heap.size) 117 #[A0.re, A0.im, A1.re, A1.im, A2.re, A2.im, A3.re, A3.im, Q1.re, Q1.im, Q2.re, Q2.im] := by rw [hqp3]; first | exact CellsAt.set12_5 FJ_2 _ _ | simpa using CellsAt.set12_5 FJ_2 _ _
   have yp3 : Gr wr we := by rw [hqp3]; exact (z2.sc _).sc _
   rw [← hqp3];clear hqp3
   have ewh : IntKind.i64.wrap (h : Int) = (h : Int) := IntWalk.i64_in _ ⟨by omega, by omega⟩
   have ewq : IntKind.i64.wrap ((q : Nat) : Int) = (q : Int) := IntWalk.i64_in _ ⟨by omega, by omega⟩
   have h0n : ¬ h = 0 := by omega
   have SZ : Gr w7 we := hg.trans yp3
   have hclG : ∀ w v, (Gr w7 w ∧ CellsAt w wa.heap.size 117 #[A0.re, A0.im, A1.re, A1.im, A2.re, A2.im, A3.re, A3.im, Q1.re, Q1.im, Q2.re, Q2.im]) → Gr w v → (Gr w7 v ∧ CellsAt v wa.heap.size 117 #[A0.re, A0.im, A1.re, A1.im, A2.re, A2.im, A3.re, A3.im, Q1.re, Q1.im, Q2.re, Q2.im]) := fun _ _ h k => ⟨h.1.trans k, h.2.gr k⟩
   have KS : ∀ W, (Gr w7 W ∧ CellsAt W wa.heap.size 117 #[A0.re, A0.im, A1.re, A1.im, A2.re, A2.im, A3.re, A3.im, Q1.re, Q1.im, Q2.re, Q2.im]) → (W.cell? ⟨wa.heap.size, 0, none⟩ = some (.int .i64 A0.re) ∧ W.cell? ⟨wa.heap.size, 1, none⟩ = some (.int .i64 A0.im) ∧ W.cell? ⟨wa.heap.size, 2, none⟩ = some (.int .i64 A1.re) ∧ W.cell? ⟨wa.heap.size, 3, none⟩ = some (.int .i64 A1.im) ∧ W.cell? ⟨wa.heap.size, 4, none⟩ = some (.int .i64 A2.re) ∧ W.cell? ⟨wa.heap.size, 5, none⟩ = some (.int .i64 A2.im) ∧ W.cell? ⟨wa.heap.size, 6, none⟩ = some (.int .i64 A3.re) ∧ W.cell? ⟨wa.heap.size, 7, none⟩ = some (.int .i64 A3.im) ∧ W.cell? ⟨wa.heap.size, 8, none⟩ = some (.int .i64 Q1.re) ∧ W.cell? ⟨wa.heap.size, 9, none⟩ = some (.int .i64 Q1.im) ∧ W.cell? ⟨wa.heap.size, 10, none⟩ = some (.int .i64 Q2.re) ∧ W.cell? ⟨wa.heap.size, 11, none⟩ = some (.int .i64 Q2.im)) := fun W hS => ⟨hS.2.cell 0, hS.2.cell 1, hS.2.cell 2, hS.2.cell 3, hS.2.cell 4, hS.2.cell 5, hS.2.cell 6, hS.2.cell 7, hS.2.cell 8, hS.2.cell 9, hS.2.cell 10, hS.2.cell 11⟩
   have HROW := kh (And.intro hrow (And.intro hg yp3));clear hrow
   try simp only [List.append_eq, List.cons_append, List.nil_append]
   refine wp_region_grow (S := fun W => Gr w7 W ∧ CellsAt W wa.heap.size 117 #[A0.re, A0.im, A1.re, A1.im, A2.re, A2.im, A3.re, A3.im, Q1.re, Q1.im, Q2.re, Q2.im]) rfl ⟨Gr.drew SZ, CellsAt.gr YJ_p3 (Gr.drew (Gr.refl _))⟩ ?_;refine gT 0 hclG ?_;refine gK 1 hclG KS ?_;refine gT 2 hclG ?_;refine gT 3 hclG ?_;refine gT 4 hclG ?_;refine gT 5 hclG ?_;refine gT 6 hclG ?_;refine gT 7 hclG ?_;refine gT 8 hclG ?_;refine gC 9 hclG (fun W hS => HJ1.out W) ?_
   try simp only [Act.put, putS]
   refine gR 10 fun wf gf sf K hK => ?_
   replace gf := (Gr.drew (Gr.refl we)).trans gf
   go_simp
   have L0 := CellsAt.new wf 50 #[re, im];refine hK.out _ _ ?_ ?_
   ·exact ⟨sf.1.alloc _ _, sf.2.alloc _⟩
   clear hK K
   try simp only [Act.put, putS]
   refine gR 11 fun wg gg sg K hK => ?_
   have L1 := L0.gr gg;have hnews := World.news_of_block L1;have GG := (gf.alloc #[re, im] 50).trans gg;have hrw := ownsRow_gr HROW.out.1 (HROW.out.2.2.trans GG);have hsg := sg.1.size;have hlg := sg.2.lt;refine Go.step_append_lies _ rfl (.tmp 120) (.tmp 130) 25 rfl w7.heap.size 50 i0 (.agg #[.int .i64 0, .int .i64 0]) 2 16 Tryz.underlying25 hi hz0 hz1 hz2 rfl (by decide) u18 i _ rfl hrw ⟨wf.heap.size, 0, none⟩ 1 1 [.int .i64 re, .int .i64 im] rfl rfl hnews (by simp [Value.oneCell']) (by omega) (by unfold maxLen; omega) (by omega) (by omega) _ rfl ?_
   intro gb gcap wh hown8 hgrow8 hor8 hlt8
   refine hK.out _ _ ?_ ?_
   ·exact ⟨sg.1.grown hgrow8 (fun k e => (HROW.out.1.lt k e).1), CellsAt.grown sg.2 hgrow8 (fun e => by have h1 := (HROW.out.1.lt _ e.symm).2; omega)⟩
   clear hK K
   try simp only [Act.put, putS]
   refine gT 12 hclG ?_;refine wpG_done (by kernel_rfl) (fun wi gi => ?_) _
   have e : gcells ((List.range i).map T) ++ [.int .i64 re, .int .i64 im] = gcells ((List.range (i + 1)).map T) := by rw [ER.out, gcells_snoc]
   rw [e] at hown8;have hown9 := ownsRow_gr hown8 gi;have gz := (sg.1.grown hgrow8 (fun k e => (HROW.out.1.lt k e).1)).trans gi;clear hclG KS ewh ewq L0 L1 hnews GG hrw sf sg gf gg hgrow8 hor8;go_wp2_with fail
   go_roundw
   case rel => exact ⟨i + 1, by omega, by go_num, hown9, gz⟩
   case measure => simp [intOf] <;> omega
  ·obtain rfl : i = m := by omega
   clear HCE HCF HCG HVW HRN HJ HRT;go_wp2_with fail
   go_ret
   exact ⟨_, rfl, CxsAt.of_row hrow, zz.trans hg⟩
end
end Go.Proofs.YtdignnmpfkgkoaaGreat
