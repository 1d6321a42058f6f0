import Derived.Test.YtablflakcaimmaaGreatFftRunsS37
namespace Go.Proofs.YtablflakcaimmaaGreat
section
open Go.ChangeShapes Go.WideShapes Go.ChangeAt Go.RowKit
set_option linter.unusedVariables false
set_option maxRecDepth 100000
set_option linter.unusedSimpArgs false
theorem prods11_c (a b c d u v x : Gi) (bits : Nat) (hb : bits ≤ 29) (ha : Bd 2147483648 a) (hbb : Bd 2147483648 b) (hc : Bd 2147483648 c) (hd : Bd 2147483648 d) (hu : Bd (2 ^ bits) u) (hv : Bd (2 ^ bits) v) (hx : Bd (2 ^ bits) x) (w : World) :
 CW 80 #[.agg #[.int .i64 (a).re, .int .i64 (a).im], .agg #[.int .i64 (b).re, .int .i64 (b).im], .agg #[.int .i64 (c).re, .int .i64 (c).im], .agg #[.int .i64 (d).re, .int .i64 (d).im], .agg #[.int .i64 (u).re, .int .i64 (u).im], .agg #[.int .i64 (v).re, .int .i64 (v).im], .agg #[.int .i64 (x).re, .int .i64 (x).im], .int .i64 bits] w (.agg #[.int .i64 (gscale bits a).re, .int .i64 (gscale bits a).im, .int .i64 (gmul b u).re, .int .i64 (gmul b u).im, .int .i64 (gmul c v).re, .int .i64 (gmul c v).im, .int .i64 (gmul d x).re, .int .i64 (gmul d x).im]) :=by
 delta CW
 have l : ∀ y, Bd (2 ^ bits) y → absI y.re ≤ 1073741824 ∧ absI y.im ≤ 1073741824 := by
  intro y hy
  have h1 : (2 : Nat) ^ bits ≤ 2 ^ 29 := Nat.pow_le_pow_right (by decide) hb
  have h2 : ((2 ^ bits : Nat) : Int) ≤ ((2 ^ 29 : Nat) : Int) := Int.ofNat_le.2 h1
  rw [Int.natCast_pow] at h2
  simp at h2
  exact hy.mono (by omega)
 have hs := (ha.scale bits).le
 have h1 : (2 : Nat) ^ bits ≤ 2 ^ 29 := Nat.pow_le_pow_right (by decide) hb
 have h2 : ((2 ^ bits : Nat) : Int) ≤ ((2 ^ 29 : Nat) : Int) := Int.ofNat_le.2 h1
 rw [Int.natCast_pow] at h2
 simp at h2
 have hs' : (-1152921504606846976 ≤ a.re * 2 ^ bits ∧ a.re * 2 ^ bits ≤ 1152921504606846976) ∧ -1152921504606846976 ≤ a.im * 2 ^ bits ∧ a.im * 2 ^ bits ≤ 1152921504606846976 := by
  unfold gscale at hs
  simp only at hs
  omega
 exact prods11_of a b c d u v x (gscale bits a) (gmul b u) (gmul c v) (gmul d x) bits
  (Lib.hid (scale10_c a.re a.im bits _ _ _ hb rfl (IntWalk.wrap64_in _ (by omega)) (IntWalk.wrap64_in _ (by omega))))
  (Lib.hid (rtimes_gi b u hbb (l u hu))) (Lib.hid (rtimes_gi c v hc (l v hv))) (Lib.hid (rtimes_gi d x hd (l x hx))) w
theorem out11_c (t0 t1 t2 t3 : Gi) (q bits s : Nat) (mo : Int) (inv : Bool) (hq : q < 4) (hb : bits ≤ 29) (hs : s ≤ 3) (m0 : 0 ≤ mo) (m1 : mo ≤ 2) (h0 : Bd 1152921504606846976 t0) (h1 : Bd 2305843009213693952 t1) (h2 : Bd 2305843009213693952 t2) (h3 : Bd 2305843009213693952 t3) (w : World) :
 CW 81 #[.agg #[.int .i64 (t0).re, .int .i64 (t0).im, .int .i64 (t1).re, .int .i64 (t1).im, .int .i64 (t2).re, .int .i64 (t2).im, .int .i64 (t3).re, .int .i64 (t3).im], .int .i64 (q : Int), .int .i64 bits, .int .i64 s, .int .i64 mo, .bool inv] w (.agg #[.int .i64 (grnd (bits + s) mo (quadSum inv q t0 t1 t2 t3)).re, .int .i64 (grnd (bits + s) mo (quadSum inv q t0 t1 t2 t3)).im]) :=by
 delta CW
 have hn : wrap64 ((bits : Int) + s) = ((bits + s : Nat) : Int) := by rw [IntWalk.wrap64_in _ (by omega)]; omega
 have HT : ∀ (t : Gi) (k : Int), Bd 2305843009213693952 t → ∀ W, Calls Tryz.prog 97 #[.agg #[.int .i64 (t).re, .int .i64 (t).im], .int .i64 k] W fun e w' => e = .returned (.agg #[.int .i64 (Gi.turn k t).re, .int .i64 (Gi.turn k t).im]) ∧ Gr W w' := fun t k h W => by
  have := h.le
  exact rturn_gi t k (by omega) W
 have b1 := h0.add (h1.turn (turns1 inv q))
 have b2 := b1.add (h2.turn (2 * q))
 have b3 := b2.add (h3.turn (-(turns1 inv q)))
 have HS : ∀ (a b : Gi) (l : Int), Bd l (gadd a b) → l ≤ 9223372036854775807 → ∀ W, Calls Tryz.prog 64 #[.agg #[.int .i64 (a).re, .int .i64 (a).im], .agg #[.int .i64 (b).re, .int .i64 (b).im]] W fun e w' => e = .returned (.agg #[.int .i64 (gadd a b).re, .int .i64 (gadd a b).im]) ∧ Gr W w' := fun a b l h hl W => by
  have := h.le
  exact rsum_gi a b (by unfold gadd at this; simp only at this; omega) (by unfold gadd at this; simp only at this; omega) W
 have HF := fun W => rshift03_gi (quadSum inv q t0 t1 t2 t3) (bits + s) mo (by have := Bd.le b3; unfold quadSum; omega) (by omega) m0 m1 W
 cases inv
 ·refine out11_false t0 t1 t2 t3 (gadd t0 (Gi.turn (-(q : Int)) t1)) (gadd (gadd t0 (Gi.turn (-(q : Int)) t1)) (Gi.turn (2 * q) t2)) (gadd (gadd (gadd t0 (Gi.turn (-(q : Int)) t1)) (Gi.turn (2 * q) t2)) (Gi.turn q t3)) _ (Gi.turn (-(q : Int)) t1) (Gi.turn (2 * q) t2) (Gi.turn q t3) q bits s _ mo (by omega) (by omega) hn
   (Lib.hid (HT t1 _ h1)) (Lib.hid (HS _ _ _ b1 (by omega))) (Lib.hid (HT t2 _ h2)) (Lib.hid (HS _ _ _ b2 (by omega))) (Lib.hid (HT t3 _ h3)) (Lib.hid (HS _ _ _ ?_ (Int.le_refl _))) (Lib.hid ?_) w
  ·simp only [turns1, Bool.false_eq_true, if_false, Int.neg_neg] at b3
   exact Bd.mono b3 (by omega)
  ·have := HF
   simp only [quadSum, turns1, Bool.false_eq_true, if_false, Int.neg_neg] at this ⊢
   exact this
 ·refine out11_true t0 t1 t2 t3 (gadd t0 (Gi.turn (q : Int) t1)) (gadd (gadd t0 (Gi.turn (q : Int) t1)) (Gi.turn (2 * q) t2)) (gadd (gadd (gadd t0 (Gi.turn (q : Int) t1)) (Gi.turn (2 * q) t2)) (Gi.turn (-(q : Int)) t3)) _ (Gi.turn (q : Int) t1) (Gi.turn (2 * q) t2) (Gi.turn (-(q : Int)) t3) q bits s _ mo (by omega) (by omega) hn
   (Lib.hid (HT t1 _ h1)) (Lib.hid (HS _ _ _ b1 (by omega))) (Lib.hid (HT t2 _ h2)) (Lib.hid (HS _ _ _ b2 (by omega))) (Lib.hid (HT t3 _ h3)) (Lib.hid (HS _ _ _ b3 (by omega))) (Lib.hid HF) w
structure QPl where
 g : Nat
 j : Nat
 q : Nat
def qpl (h i : Nat) : QPl := ⟨i - i % (4 * h), i % h, (i - (i - i % (4 * h))) / h⟩
theorem qpl_in (n h u i : Nat) (hn : n = 4 * h * u) (h1 : 1 ≤ h) (hi : i < n) :
 (qpl h i).g + 4 * h ≤ n ∧ (qpl h i).j < h ∧ (qpl h i).q < 4 ∧ (qpl h i).g ≤ i ∧ i - (qpl h i).g = i % (4 * h) ∧ i % (4 * h) < 4 * h ∧ 3 * ((qpl h i).j * u) < n := by
 have hr := Nat.mod_lt i (show 0 < 4 * h by omega)
 have hd := Nat.div_add_mod i (4 * h)
 have hj := Nat.mod_lt i (show 0 < h by omega)
 have hk : i / (4 * h) < u := by
  rw [Nat.div_lt_iff_lt_mul (by omega), Nat.mul_comm u, ← hn]
  exact hi
 have hu : 1 ≤ u := Nat.lt_of_le_of_lt (Nat.zero_le _) hk
 have h2 : 4 * h * (i / (4 * h) + 1) ≤ 4 * h * u := Nat.mul_le_mul_left _ hk
 rw [Nat.mul_succ, ← hn] at h2
 have hju : (i % h + 1) * u ≤ h * u := Nat.mul_le_mul_right _ hj
 rw [Nat.succ_mul] at hju
 have hhu : n = 4 * (h * u) := by rw [hn, Nat.mul_assoc]
 have hle := Nat.mod_le i (4 * h)
 unfold qpl
 simp only
 generalize 4 * h * (i / (4 * h)) = a at *
 generalize h * u = b at *
 generalize i % h * u = c at *
 generalize hrr : i % (4 * h) = r at *
 refine ⟨by omega, hj, ?_, by omega, by omega, hr, by omega⟩
 rw [Nat.div_lt_iff_lt_mul (by omega)]
 omega
theorem fourAt_at (xs ws : List Gi) (n h u bits s : Nat) (mo : Int) (inv : Bool) (hl : xs.length = n) (hn : n = 4 * h * u) (h1 : 1 ≤ h) (i : Nat) :
 fourAt xs ws h bits s mo inv i = quadOut bits s mo inv ((qpl h i).q : Nat) (xs.getD ((qpl h i).g + (qpl h i).j) ⟨0, 0⟩) (xs.getD ((qpl h i).g + (qpl h i).j + 2 * h) ⟨0, 0⟩) (xs.getD ((qpl h i).g + (qpl h i).j + h) ⟨0, 0⟩) (xs.getD ((qpl h i).g + (qpl h i).j + 3 * h) ⟨0, 0⟩)
  (rootOf ws inv ((qpl h i).j * u)) (rootOf ws inv (2 * (qpl h i).j * u)) (rootOf ws inv (3 * (qpl h i).j * u)) := by
 have hu2 : xs.length / (4 * h) = u := by rw [hl, hn]; exact Nat.mul_div_cancel_left _ (by omega)
 unfold fourAt qpl
 simp only [hu2]
 generalize i - i % (4 * h) = g
 generalize i % h = j
 rw [show g + 2 * h + j = g + j + 2 * h by omega, show g + h + j = g + j + h by omega, show g + 3 * h + j = g + j + 3 * h by omega]
theorem slice_nums (h d n g j : Nat) (hd : 4 * h = d) (hg : g + d ≤ n) (hj : j < h) (hn : n ≤ 64) :
 (g : Int) + (j : Int) = ((g + j : Nat) : Int) ∧ 3 * (h : Int) = ((3 * h : Nat) : Int) ∧ (g : Int) + ((3 * h : Nat) : Int) = ((g + 3 * h : Nat) : Int) ∧ ((g + 3 * h : Nat) : Int) + (j : Int) = ((g + 3 * h + j : Nat) : Int) ∧
 ((g + 3 * h + j : Nat) : Int) + 1 = ((g + 3 * h + j + 1 : Nat) : Int) ∧ g + j ≤ g + 3 * h + j + 1 ∧ g + 3 * h + j + 1 ≤ n ∧ g + j < n ∧ g + 3 * h + j + 1 - (g + j) = 3 * h + 1 ∧ (2 * h : Nat) < 3 * h + 1 ∧ h < 3 * h + 1 ∧ 3 * h < 3 * h + 1 ∧ g + j + 3 * h < n :=
 ⟨by omega, by omega, by omega, by omega, by omega, by omega, by omega, by omega, by omega, by omega, by omega, by omega, by omega⟩
theorem root_nums (h n u j : Nat) (hj : 3 * (j * u) < n) (h16 : 4 * h ≤ 64) (hjh : j < h) (hn : n ≤ 64) :
 IntKind.i64.wrap (2 * (h : Int)) = ((2 * h : Nat) : Int) ∧ IntKind.i64.wrap (3 * (h : Int)) = ((3 * h : Nat) : Int) ∧ IntKind.i64.wrap ((j : Int) * (u : Int)) = ((j * u : Nat) : Int) ∧
 IntKind.i64.wrap (2 * (j : Int)) = ((2 * j : Nat) : Int) ∧ IntKind.i64.wrap (((2 * j : Nat) : Int) * (u : Int)) = ((2 * j * u : Nat) : Int) ∧ IntKind.i64.wrap (3 * (j : Int)) = ((3 * j : Nat) : Int) ∧ IntKind.i64.wrap (((3 * j : Nat) : Int) * (u : Int)) = ((3 * j * u : Nat) : Int) ∧
 j * u < n ∧ 2 * j * u < n ∧ 3 * j * u < n := by
 have e2 : 2 * j * u = 2 * (j * u) := Nat.mul_assoc _ _ _
 have e3 : 3 * j * u = 3 * (j * u) := Nat.mul_assoc _ _ _
 refine ⟨imul 2 h (by omega), imul 3 h (by omega), imul j u (by omega), imul 2 j (by omega), imul (2 * j) u (by omega), imul 3 j (by omega), imul (3 * j) u (by omega), by omega, by omega, by omega⟩
theorem qpl_walk (n h u i : Nat) (hn : n = 4 * h * u) (h1 : 1 ≤ h) (hi : i < n) (hn64 : n ≤ 64) :
 (i : Int).tmod ((4 * h : Nat) : Int) = ((i % (4 * h) : Nat) : Int) ∧ (i : Int).tmod (h : Int) = (((qpl h i).j : Nat) : Int) ∧ (((i % (4 * h) : Nat) : Int)).tdiv (h : Int) = (((qpl h i).q : Nat) : Int) ∧
 (i : Int) % ((4 * h : Nat) : Int) = ((i % (4 * h) : Nat) : Int) ∧ (i : Int) % (h : Int) = (((qpl h i).j : Nat) : Int) ∧ (((i % (4 * h) : Nat) : Int)) / (h : Int) = (((qpl h i).q : Nat) : Int) ∧
 (i : Int) - ((i % (4 * h) : Nat) : Int) = (((qpl h i).g : Nat) : Int) ∧ (i : Int) - (((qpl h i).g : Nat) : Int) = ((i % (4 * h) : Nat) : Int) := by
 obtain ⟨a1, a2, a3, a4, a5, a6, a7⟩ := qpl_in n h u i hn h1 hi
 have hq : (qpl h i).q = i % (4 * h) / h := by
  unfold qpl at a5 ⊢
  simp only at a5 ⊢
  rw [a5]
 have hj : (qpl h i).j = i % h := rfl
 refine ⟨?_, ?_, ?_, ?_, ?_, ?_, by omega, by omega⟩
 ·rw [Int.tmod_eq_emod_of_nonneg (by omega)]; simp
 ·rw [Int.tmod_eq_emod_of_nonneg (by omega), hj]; simp
 ·rw [Int.tdiv_eq_ediv_of_nonneg (by omega), hq]; simp
 ·simp
 ·rw [hj]; simp
 ·rw [hq]; simp
set_option maxHeartbeats 8000000 in set_option maxRecDepth 100000 in
theorem pass11_c (px pw : Option Addr) (cx cw : Nat) (xs ws : List Gi) (n h u bits s : Nat) (mo : Int) (inv : Bool) (hl : xs.length = n) (hm : ws.length = n) (hu : n = 4 * h * u) (h1 : 1 ≤ h) (hu1 : 1 ≤ u) (hn64 : n ≤ 64)
 (hb : bits ≤ 29) (hs : s ≤ 3) (m0 : 0 ≤ mo) (m1 : mo ≤ 2) (hx : allIn 2147483648 xs = true) (hw : allIn (2 ^ bits) ws = true) (w : World) (hvx : CxsAt w (.slice px n cx) xs) (hvw : CxsAt w (.slice pw n cw) ws) :
 Calls Tryz.prog 48 #[.slice px n cx, .slice pw n cw, .int .i64 h, .int .i64 bits, .int .i64 s, .int .i64 mo, .bool inv] w fun e w' => ∃ v', e = .returned v' ∧ CxsAt w' v' (fourL xs ws h bits s mo inv) ∧ Gr w w' := by
 obtain ⟨i0, hi, hz0, hz1, hz2⟩ := info_parts info_cx
 have hL : fourL xs ws h bits s mo inv = (List.range n).map (fourAt xs ws h bits s mo inv) := by unfold fourL; rw [hl]
 rw [hL]
 have hn0 : 4 ≤ n := by
  have : 4 * h * 1 ≤ 4 * h * u := Nat.mul_le_mul_left _ hu1
  omega
 obtain ⟨b, o, cap, hvv, hlen, hbl, hc⟩ := hvx.at (by intro e; rw [e] at hl; simp at hl; omega)
 rw [hl] at hvv
 cases hvv
 have hcap : n ≤ cx := by
  obtain ⟨p, cp, hv2, hl2, _, _⟩ := hvx
  cases hv2
  omega
 have HC := Lib.hid fun j (hj : j < n) => hc j (xs.getD j ⟨0, 0⟩) (by rw [List.getD_eq_getElem?_getD, List.getElem?_eq_getElem (by omega)]; rfl)
 have HAT := Lib.hid (fourAt_at xs ws n h u bits s mo inv hl hu h1)
 have HIN := Lib.hid fun i hi => qpl_in n h u i hu h1 hi
 have HWK := Lib.hid fun i hi => qpl_walk n h u i hu h1 hi hn64
 have hXB : ∀ j, Bd 2147483648 (xs.getD j ⟨0, 0⟩) := by
  intro j
  rw [List.getD_eq_getElem?_getD]
  cases e : xs[j]? with
  | none => exact Bd.mk (by simp)
  | some a => exact (allIn_iff _ xs).1 hx a (List.mem_of_getElem? e)
 have HXB := Lib.hid hXB
 have VW := Lib.hid hvw
 have hd64 : 4 * h ≤ 64 := by
  have : 4 * h * 1 ≤ 4 * h * u := Nat.mul_le_mul_left _ hu1
  omega
 have w4 : wrap64 (4 * (h : Int)) = ((4 * h : Nat) : Int) := wmul 4 h (by omega)
 have hnu : (n : Int) / ((4 * h : Nat) : Int) = (u : Int) := by
  have : (n : Int) = ((4 * h : Nat) : Int) * (u : Int) := by rw [hu]; simp
  rw [this]
  exact Int.mul_ediv_cancel_left _ (by omega)
 have hnz : ¬ ((4 * h : Nat) : Int) = 0 := by omega
 have hule : u ≤ 64 := by
  have : 1 * u ≤ 4 * h * u := Nat.mul_le_mul_right _ (by omega)
  omega
 have HP := Lib.hid (And.intro hu (And.intro hb (And.intro hs (And.intro m0 (And.intro m1 (And.intro hw hm))))))
 clear hc hvx hvw hx hXB hL hlen hu hb hs m0 m1 hw hm hl
 generalize hT : fourAt xs ws h bits s mo inv = T at *
 have hd4 : 4 * (h : Int) = ((4 * h : Nat) : Int) := by omega
 generalize hd : 4 * h = d at *
 have HD := Lib.hid hd
 clear hd w4
 go_enter Tryz.func48, Tryz.ntmps48
 go_wp2_with fail
 have hs0 : ((w.alloc (.cells #[] 55)).ownsRow w.heap.size 55 2 (.slice (some ⟨w.heap.size, 0, none⟩) 0 0) 0 []) := World.ownsRow_made w #[] 0 (Nat.le_refl _) (by unfold maxLen; omega) (by simp)
 go_loopw [17, 18] (fun out i wr => ∃ j : Nat, j ≤ n ∧ i = .int .i64 j ∧ wr.ownsRow w.heap.size 55 2 out j (gcells ((List.range j).map T)) ∧ Gr w wr)
  (fun _ i _ => n - (intOf i).toNat)
 case atStart => exact ⟨0, by omega, rfl, hs0, (Gr.refl _).alloc _ _⟩
 case round =>
  clear hs0
  obtain ⟨i, hin, rfl, hrow, hg⟩ := hrel
  by_cases hlt : i < n
  ·obtain ⟨a1, a2, a3, a4, a5, a6, a7⟩ := HIN.out i hlt
   obtain ⟨k1, k2, k3, k4, k5, k6, k7, k8⟩ := HWK.out i hlt
   have hilt : (i : Int) < n := by omega
   have hf := HAT.out i
   generalize hr : i % d = r at *
   generalize hql : qpl h i = ql at *
   obtain ⟨g, j, q⟩ := ql
   simp only at a1 a2 a3 a4 a5 a7 k2 k3 k5 k6 k7 k8 hf
   have HA := Lib.hid (And.intro a1 (And.intro a2 (And.intro a3 (And.intro a4 (And.intro a5 (And.intro a6 a7))))))
   have HF := Lib.hid hf
   obtain ⟨s1, s2, s3, s4, s5, s6, s7, s8, s9, s10, s11, s12, s13⟩ := slice_nums h d n g j HD.out a1 a2 hn64
   have hrn := root_nums h n u j a7 (by rw [HD.out]; exact hd64) a2 hn64
   have HRN := Lib.hid hrn
   clear hrn
   have c0 := HC.out (g + j) s8
   have c1 := HC.out (g + j + 2 * h) (by omega)
   have c2 := HC.out (g + j + h) (by omega)
   have c3 := HC.out (g + j + 3 * h) (by omega)
   have HCC := Lib.hid (And.intro c0 (And.intro c1 (And.intro c2 c3)))
   clear c0 c1 c2 c3
   have HK := Lib.hid (And.intro k1 (And.intro k2 (And.intro k3 (And.intro k4 (And.intro k5 k6)))))
   clear hf a1 a2 a3 a4 a5 a6 a7 hql hr k1 k2 k6
   have hjw : (i : Int) % (h : Int) = (j : Int) := k5
   have hqw : wrap64 (q : Int) = (q : Int) := IntWalk.wrap64_in _ ⟨by have := HA.out.2.2.1; omega, by have := HA.out.2.2.1; omega⟩
   generalize 3 * h + 1 = la at *
   generalize 3 * h = h3 at *
   generalize 2 * h = h2 at *
   generalize g + h3 + j + 1 = hi' at *
   generalize g + h3 + j = hi2 at *
   generalize g + h3 = hi3 at *
   generalize hlo : g + j = lo at *
   have hlc : lo < cx := Nat.lt_of_lt_of_le s8 hcap
   have hic : hi' ≤ cx := Nat.le_trans s7 hcap
   have hnl : ¬ cx = lo := Nat.ne_of_gt hlc
   have hhc : (hi' : Int) ≤ (cx : Int) := Int.ofNat_le.2 hic
   have hlh : (lo : Int) ≤ (hi' : Int) := Int.ofNat_le.2 s6
   go_wp2_with fail
   try simp only [k4, k5, hqw]
   obtain ⟨r1, r2, r3, r4, r5, r6, r7, r8, r9, r10⟩ := HRN.out
   obtain ⟨⟨c0, c0'⟩, ⟨c1, c1'⟩, ⟨c2, c2'⟩, c3, c3'⟩ := HCC.out
   have hfq := HF.out
   obtain ⟨hu, hb, hs, m0, m1, hw, hm⟩ := HP.out
   have hrin := fun k => rootOf_in ws inv k (2 ^ bits) (Int.le_of_lt (pow_pos2 bits)) hw
   have hbi : ∀ a ∈ ws, absI a.im ≤ 4611686018427387904 := fun a ha => by
    have h1 := ((allIn_iff _ _).1 hw a ha).2
    have h2 := pow29 bits hb
    omega
   have HR1 := Lib.hid fun W (hW : CxsAt W (.slice pw n cw) ws) => root10_c _ ws (j * u) inv (by rw [hm]; exact r8) hbi W hW
   have HR2 := Lib.hid fun W (hW : CxsAt W (.slice pw n cw) ws) => root10_c _ ws (2 * j * u) inv (by rw [hm]; exact r9) hbi W hW
   have HR3 := Lib.hid fun W (hW : CxsAt W (.slice pw n cw) ws) => root10_c _ ws (3 * j * u) inv (by rw [hm]; exact r10) hbi W hW
   have HPR := Lib.hid (prods11_c (xs.getD lo ⟨0, 0⟩) (xs.getD (lo + h2) ⟨0, 0⟩) (xs.getD (lo + h) ⟨0, 0⟩) (xs.getD (lo + h3) ⟨0, 0⟩) (rootOf ws inv (j * u)) (rootOf ws inv (2 * j * u)) (rootOf ws inv (3 * j * u)) bits hb (HXB.out _) (HXB.out _) (HXB.out _) (HXB.out _) (hrin _) (hrin _) (hrin _))
   have hpw := pow29 bits hb
   have HO := Lib.hid (out11_c (gscale bits (xs.getD lo ⟨0, 0⟩)) (gmul (xs.getD (lo + h2) ⟨0, 0⟩) (rootOf ws inv (j * u))) (gmul (xs.getD (lo + h) ⟨0, 0⟩) (rootOf ws inv (2 * j * u))) (gmul (xs.getD (lo + h3) ⟨0, 0⟩) (rootOf ws inv (3 * j * u))) q bits s mo inv HA.out.2.2.1 hb hs m0 m1
    ((Bd.scale (HXB.out _) bits).mono (by omega)) ((Bd.mul (HXB.out _) (hrin _)).mono (by omega)) ((Bd.mul (HXB.out _) (hrin _)).mono (by omega)) ((Bd.mul (HXB.out _) (hrin _)).mono (by omega)))
   have hfo : grnd (bits + s) mo (quadSum inv q (gscale bits (xs.getD lo ⟨0, 0⟩)) (gmul (xs.getD (lo + h2) ⟨0, 0⟩) (rootOf ws inv (j * u))) (gmul (xs.getD (lo + h) ⟨0, 0⟩) (rootOf ws inv (2 * j * u))) (gmul (xs.getD (lo + h3) ⟨0, 0⟩) (rootOf ws inv (3 * j * u)))) = T i := by rw [hfq]; rfl
   rw [hfo] at HO
   rw [Nat.add_mul, ← Nat.add_assoc] at c1 c1' c2 c2' c3 c3'
   generalize rootOf ws inv (j * u) = R1 at *
   generalize rootOf ws inv (2 * j * u) = R2 at *
   generalize rootOf ws inv (3 * j * u) = R3 at *
   generalize xs.getD lo ⟨0, 0⟩ = A0 at *
   generalize xs.getD (lo + h2) ⟨0, 0⟩ = A1 at *
   generalize xs.getD (lo + h) ⟨0, 0⟩ = A2 at *
   generalize xs.getD (lo + h3) ⟨0, 0⟩ = A3 at *
   generalize gscale bits A0 = P0 at *
   generalize gmul A1 R1 = P1 at *
   generalize gmul A2 R2 = P2 at *
   generalize gmul A3 R3 = P3 at *
   generalize 2 * j * u = ju2 at *
   generalize 3 * j * u = ju3 at *
   generalize j * u = ju at *
   generalize 2 * j = j2 at *
   generalize 3 * j = j3 at *
   have hbw : b < wr.heap.size := Nat.lt_of_lt_of_le hbl hg.size
   have b0 : (0 : Int) < (la : Int) := by omega
   have b0n : 0 < la := by omega
   have b1 : (h2 : Int) < (la : Int) := Int.ofNat_lt.2 s10
   have b2 : (h : Int) < (la : Int) := Int.ofNat_lt.2 s11
   have b3 : (h3 : Int) < (la : Int) := Int.ofNat_lt.2 s12
   have KS : ∀ W, Gr wr W → (W.cell? ⟨b, o + lo * 2, none⟩ = some (.int .i64 A0.re) ∧ W.cell? ⟨b, o + lo * 2 + 1, none⟩ = some (.int .i64 A0.im) ∧ W.cell? ⟨b, o + lo * 2 + h2 * 2, none⟩ = some (.int .i64 A1.re) ∧ W.cell? ⟨b, o + lo * 2 + h2 * 2 + 1, none⟩ = some (.int .i64 A1.im) ∧ W.cell? ⟨b, o + lo * 2 + h * 2, none⟩ = some (.int .i64 A2.re) ∧ W.cell? ⟨b, o + lo * 2 + h * 2 + 1, none⟩ = some (.int .i64 A2.im) ∧ W.cell? ⟨b, o + lo * 2 + h3 * 2, none⟩ = some (.int .i64 A3.re) ∧ W.cell? ⟨b, o + lo * 2 + h3 * 2 + 1, none⟩ = some (.int .i64 A3.im) ∧ b < W.heap.size) := fun W hG => ⟨(hG.cell (p := ⟨b, _, none⟩) hbw).trans ((hg.cell (p := ⟨b, _, none⟩) hbl).trans c0), (hG.cell (p := ⟨b, _, none⟩) hbw).trans ((hg.cell (p := ⟨b, _, none⟩) hbl).trans c0'), (hG.cell (p := ⟨b, _, none⟩) hbw).trans ((hg.cell (p := ⟨b, _, none⟩) hbl).trans c1), (hG.cell (p := ⟨b, _, none⟩) hbw).trans ((hg.cell (p := ⟨b, _, none⟩) hbl).trans c1'), (hG.cell (p := ⟨b, _, none⟩) hbw).trans ((hg.cell (p := ⟨b, _, none⟩) hbl).trans c2), (hG.cell (p := ⟨b, _, none⟩) hbw).trans ((hg.cell (p := ⟨b, _, none⟩) hbl).trans c2'), (hG.cell (p := ⟨b, _, none⟩) hbw).trans ((hg.cell (p := ⟨b, _, none⟩) hbl).trans c3), (hG.cell (p := ⟨b, _, none⟩) hbw).trans ((hg.cell (p := ⟨b, _, none⟩) hbl).trans c3'), Nat.lt_of_lt_of_le hbw hG.size⟩
   clear HXB HAT HIN HWK HC HCC HRN HF HA HK HP hrin hbi hfq hfo c0 c0' c1 c1' c2 c2' c3 c3' hpw r8 r9 r10 s1 s2 s3 s4 s5 s6 s7 s8 s9 s13 k4 k5 hjw hu hw hm hb hs m0 m1
   go_cut [23] from 62 to 100 (fun pv wx' => ∃ B : Nat, pv = .pointer (some ⟨B, 0, none⟩) ∧ wr.heap.size ≤ B ∧ CellsAt wx' B 116 #[.int .i64 (P0).re, .int .i64 (P0).im, .int .i64 (P1).re, .int .i64 (P1).im, .int .i64 (P2).re, .int .i64 (P2).im, .int .i64 (P3).re, .int .i64 (P3).im] ∧ Gr wr wx')
   case first =>
    have hclG := gr_closed wr
    try simp only [List.append_eq, List.cons_append, List.nil_append]
    refine wp_region_grow (S := Gr wr) rfl (Gr.drew (Gr.refl _)) ?_
    refine gT 0 hclG ?_
    refine gT 1 hclG ?_
    refine gK 2 hclG KS ?_
    refine gT 3 hclG ?_
    refine gT 4 hclG ?_
    refine gT 5 hclG ?_
    refine gT 6 hclG ?_
    refine gK 7 hclG KS ?_
    refine gT 8 hclG ?_
    refine gT 9 hclG ?_
    refine gT 10 hclG ?_
    refine gK 11 hclG KS ?_
    refine gT 12 hclG ?_
    refine gT 13 hclG ?_
    refine gT 14 hclG ?_
    refine gT 15 hclG ?_
    refine gK 16 hclG KS ?_
    refine gT 17 hclG ?_
    refine gT 18 hclG ?_
    refine gT 19 hclG ?_
    refine gT 20 hclG ?_
    refine gT 21 hclG ?_
    refine wpG_call (i := 22) hclG rfl (by kernel_rfl) (by kernel_rfl) (by kernel_rfl) (fun _ _ _ h => h) (fun W hS => HR1.out W (VW.out.gr (hg.trans hS))) (by rfl) ?_ ?_
    ·(intro w' hSw; go_simp; try with_reducible rfl)
    try simp only [Act.put, putS]
    refine gT 23 hclG ?_
    refine gT 24 hclG ?_
    refine gT 25 hclG ?_
    refine gT 26 hclG ?_
    refine gT 27 hclG ?_
    refine gT 28 hclG ?_
    refine wpG_call (i := 29) hclG rfl (by kernel_rfl) (by kernel_rfl) (by kernel_rfl) (fun _ _ _ h => h) (fun W hS => HR2.out W (VW.out.gr (hg.trans hS))) (by rfl) ?_ ?_
    ·(intro w' hSw; go_simp; try with_reducible rfl)
    try simp only [Act.put, putS]
    refine gT 30 hclG ?_
    refine gT 31 hclG ?_
    refine gT 32 hclG ?_
    refine gT 33 hclG ?_
    refine gT 34 hclG ?_
    refine gT 35 hclG ?_
    refine wpG_call (i := 36) hclG rfl (by kernel_rfl) (by kernel_rfl) (by kernel_rfl) (fun _ _ _ h => h) (fun W hS => HR3.out W (VW.out.gr (hg.trans hS))) (by rfl) ?_ ?_
    ·(intro w' hSw; go_simp; try with_reducible rfl)
    try simp only [Act.put, putS]
    refine gT 37 hclG ?_
    refine wpG_call (i := 38) hclG rfl (by kernel_rfl) (by kernel_rfl) (by kernel_rfl) (fun _ _ _ h => h) (fun W hS => HPR.out W) (by rfl) ?_ ?_
    ·(intro w' hSw; go_simp; try with_reducible rfl)
    try simp only [Act.put, putS]
    refine gR 39 fun w1 g1 q1 K hK => ?_
    replace g1 := (Gr.drew (Gr.refl wr)).trans g1
    have hB1 := g1.size
    go_simp
    have C1 := CellsAt.new w1 116 #[.int .i64 0, .int .i64 0, .int .i64 0, .int .i64 0, .int .i64 0, .int .i64 0, .int .i64 0, .int .i64 0]
    refine hK.out _ _ ?_ ?_
    ·exact Gr.alloc q1 _ _
    clear hK K
    try simp only [Act.put, putS]
    refine gR 40 fun w2 g2 q2 K hK => ?_
    have C2 := C1.gr g2
    have G2 := (g1.alloc #[.int .i64 0, .int .i64 0, .int .i64 0, .int .i64 0, .int .i64 0, .int .i64 0, .int .i64 0, .int .i64 0] 116).trans g2
    clear C1 g1 g2 q1
    have lC := C2.lt
    obtain ⟨fm0, fm1, fm2, fm3, fm4, fm5, fm6, fm7⟩ := C2.f8
    obtain ⟨fc0, fc1, fc2, fc3, fc4, fc5, fc6, fc7⟩ := C2.t8
    go_simp
    have C3 := CellsAt.set8 (C2) (.int .i64 (P0).re) (.int .i64 (P0).im) (.int .i64 (P1).re) (.int .i64 (P1).im) (.int .i64 (P2).re) (.int .i64 (P2).im) (.int .i64 (P3).re) (.int .i64 (P3).im)
    have G3 := Gr.setCell (Gr.setCell (Gr.setCell (Gr.setCell (Gr.setCell (Gr.setCell (Gr.setCell (Gr.setCell (G2) (a := ⟨w1.heap.size, 0, none⟩) hB1 (.int .i64 (P0).re)) (a := ⟨w1.heap.size, 1, none⟩) hB1 (.int .i64 (P0).im)) (a := ⟨w1.heap.size, 2, none⟩) hB1 (.int .i64 (P1).re)) (a := ⟨w1.heap.size, 3, none⟩) hB1 (.int .i64 (P1).im)) (a := ⟨w1.heap.size, 4, none⟩) hB1 (.int .i64 (P2).re)) (a := ⟨w1.heap.size, 5, none⟩) hB1 (.int .i64 (P2).im)) (a := ⟨w1.heap.size, 6, none⟩) hB1 (.int .i64 (P3).re)) (a := ⟨w1.heap.size, 7, none⟩) hB1 (.int .i64 (P3).im)
    refine hK.out _ _ ?_ ?_
    ·exact G3
    clear hK K
    try simp only [Act.put, putS]
    refine wpG_done (by kernel_rfl) (fun w3 g3 => ?_) _
    have C4 := C3.gr g3
    have G4 := G3.trans g3
    clear C2 C3 G2 G3 g3 fc0 fc1 fc2 fc3 fc4 fc5 fc6 fc7 fm0 fm1 fm2 fm3 fm4 fm5 fm6 fm7 q2 lC
    go_wp2_with fail
    go_meet
    case rel => exact ⟨_, rfl, hB1, C4, G4⟩
   case rest =>
    obtain ⟨B, rfl, hB, hC, hG⟩ := hcut
    have hrow2 := ownsRow_gr hrow hG
    have hg2 := hg.trans hG
    have er : (List.range (i + 1)).map T = (List.range i).map T ++ [T i] := by rw [List.range_succ, List.map_append]; rfl
    have ER := Lib.hid er
    clear er hrow hg hG KS HPR HR1 HR2 HR3 hbw hB VW
    generalize T i = g' at *
    obtain ⟨re, im⟩ := g'
    go_wp2_with (refine wpList_load_row rfl 116 _ rfl (B) rfl 116 _ (0, 0) _ hC Tryz.underlying116 rfl (by kernel_rfl) ?_)
    refine (HO.out _).mono ?_
    rintro e wq ⟨rfl, hgq⟩
    have hrow3 := ownsRow_gr hrow2 hgq
    have hg3 := hg2.trans hgq
    have hsz := hg3.size
    clear hrow2 hg2 hgq HO hC
    go_wp2_with (at_builtin; refine wpList_append_own_at _ rfl (.tmp 101) (.tmp 109) 22 rfl w.heap.size 55 i0 (.agg #[.int .i64 0, .int .i64 0]) 2 16 Tryz.underlying22 hi hz0 hz1 hz2 rfl (by decide) _ _ _ rfl (hrow3.alloc _) ⟨wq.heap.size, 0, none⟩ 1 1 [.int .i64 re, .int .i64 im] rfl rfl (news_two _ _ _ _) (by simp [Value.oneCell']) (by unfold maxLen; omega) (by omega) (by simp; omega) ?_; intro v' w3 hown' hgrow _ hblk)
    have e : gcells ((List.range i).map T) ++ [.int .i64 re, .int .i64 im] = gcells ((List.range (i + 1)).map T) := by
     rw [ER.out, gcells_snoc]
    rw [e] at hown'
    have hg4 := (hg3.allocO _).grown hgrow (fun k e => (hrow3.lt k e).1)
    go_roundw
    case rel =>
     repeat apply Exists.intro
     refine ⟨?_, ?_, hown', hg4⟩
     ·omega
     ·go_num
    case measure => simp [intOf]; omega
  ·have he : i = n := by omega
   have hjn : (n : Int) ≤ (i : Int) := by omega
   clear HC HAT HIN HWK HXB HP VW
   go_wp2_with fail
   go_ret
   refine ⟨_, rfl, ?_, hg⟩
   have := CxsAt.of_row hrow
   rw [he] at this
   exact this
end
end Go.Proofs.YtablflakcaimmaaGreat
