import Derived.Test.YtdignnmpfkgkoaaGreatRealUntanglesS11
import Derived.Test.YtdignnmpfkgkoaaGreatRealUntanglesS19
import Derived.Test.YtdignnmpfkgkoaaGreatRealUntanglesS20
namespace Go.Proofs.YtdignnmpfkgkoaaGreat
section
open Go.ChangeShapes Go.WideShapes Go.ChangeAt Go.RowKit
set_option linter.unusedVariables false
set_option linter.unusedSimpArgs false
set_option maxRecDepth 100000
theorem Bd.abs {l : Int} {a : Gi} (h : Bd l a) : absI a.re ≤ l ∧ absI a.im ≤ l := h
theorem cxsum_gi (a b : Gi) (ha : Bd 2305843009213693952 a) (hb : Bd 2305843009213693952 b) (w : World) :
 CW 126 #[.agg #[.int .i64 (a).re, .int .i64 (a).im], .agg #[.int .i64 (b).re, .int .i64 (b).im]] w (.tuple #[.agg #[.int .i64 (gadd a b).re, .int .i64 (gadd a b).im], .int .i64 0]) :=by
 delta CW
 have h1 := ha.le
 have h2 := hb.le
 exact cxsum_ok a.re a.im b.re b.im (by simp only [Bool.and_eq_true, inB_iff]; omega) w
theorem cxless_gi (a b : Gi) (ha : Bd 2305843009213693952 a) (hb : Bd 2305843009213693952 b) (w : World) :
 CW 127 #[.agg #[.int .i64 (a).re, .int .i64 (a).im], .agg #[.int .i64 (b).re, .int .i64 (b).im]] w (.tuple #[.agg #[.int .i64 (gsub a b).re, .int .i64 (gsub a b).im], .int .i64 0]) :=by
 delta CW
 have h1 := ha.le
 have h2 := hb.le
 exact cxless_ok a.re a.im b.re b.im (by simp only [Bool.and_eq_true, inB_iff]; omega) w
theorem Bd.sub {l m : Int} {a b : Gi} (h : Bd l a) (k : Bd m b) : Bd (l + m) (gsub a b) := by
 have h1 := h.le
 have h2 := k.le
 unfold gsub
 exact Bd.mk (by simp only; omega)
theorem turn_sub (q : Int) (a b : Gi) : gsub (Gi.turn q a) (Gi.turn q b) = Gi.turn q (gsub a b) := by
 rcases q4g q with h | h | h | h <;> (unfold Gi.turn gsub; simp only [h]; first | rfl | exact Gi.ext2 (by first | (simp; done) | (simp; omega)) (by first | (simp; done) | (simp; omega)))
theorem sQuot_add (bits : Nat) (mo : Int) (inv : Bool) (a k : Gi) (hb : bits ≤ 29) (m0 : 0 ≤ mo) (m1 : mo ≤ 2) (ha : Bd 2305843009213693952 a) (hk : Bd 4611686018427387904 k) (w : World) :
 CW 216 #[.agg #[.int .i64 bits, .int .i64 mo, .bool inv], .agg #[.int .i64 (a).re, .int .i64 (a).im], .agg #[.int .i64 (k).re, .int .i64 (k).im], .int .i64 1] w (.agg #[.int .i64 (grnd (bits + 2) mo (gadd a k)).re, .int .i64 (grnd (bits + 2) mo (gadd a k)).im]) :=by
 delta CW
 have h1 := ha.le
 have h2 := hk.le
 exact sQuotient_of bits mo ((bits + 2 : Nat) : Int) 1 k.re k.im (a.re + k.re) (a.im + k.im) inv a k _ (by rw [Int.one_mul]; exact IntWalk.wrap64_in _ (by omega)) (by rw [Int.one_mul]; exact IntWalk.wrap64_in _ (by omega)) (IntWalk.wrap64_in _ (by omega)) (IntWalk.wrap64_in _ (by omega))
  (Lib.hid (sDown_c bits mo _ inv (by rw [IntWalk.i64_in _ ⟨by omega, by omega⟩]; omega))) (Lib.hid (cxshift_gi (gadd a k) (bits + 2) mo (by unfold gadd; simp only; omega) (by omega) m0 m1)) w
theorem sQuot_sub (bits : Nat) (mo : Int) (inv : Bool) (a k : Gi) (hb : bits ≤ 29) (m0 : 0 ≤ mo) (m1 : mo ≤ 2) (ha : Bd 2305843009213693952 a) (hk : Bd 4611686018427387904 k) (w : World) :
 CW 216 #[.agg #[.int .i64 bits, .int .i64 mo, .bool inv], .agg #[.int .i64 (a).re, .int .i64 (a).im], .agg #[.int .i64 (k).re, .int .i64 (k).im], .int .i64 (-1)] w (.agg #[.int .i64 (grnd (bits + 2) mo (gsub a k)).re, .int .i64 (grnd (bits + 2) mo (gsub a k)).im]) :=by
 delta CW
 have h1 := ha.le
 have h2 := hk.le
 exact sQuotient_of bits mo ((bits + 2 : Nat) : Int) (-1) (-k.re) (-k.im) (a.re - k.re) (a.im - k.im) inv a k _ (by rw [Int.neg_one_mul]; exact IntWalk.wrap64_in _ (by omega)) (by rw [Int.neg_one_mul]; exact IntWalk.wrap64_in _ (by omega)) (by rw [← Int.sub_eq_add_neg]; exact IntWalk.wrap64_in _ (by omega)) (by rw [← Int.sub_eq_add_neg]; exact IntWalk.wrap64_in _ (by omega))
  (Lib.hid (sDown_c bits mo _ inv (by rw [IntWalk.i64_in _ ⟨by omega, by omega⟩]; omega))) (Lib.hid (cxshift_gi (gsub a k) (bits + 2) mo (by unfold gsub; simp only; omega) (by omega) m0 m1)) w
theorem sJoined_c (bits : Nat) (mo : Int) (inv : Bool) (u v y z a c : Gi) (hb : bits ≤ 29) (m0 : 0 ≤ mo) (m1 : mo ≤ 2) (hu : Bd 2147483648 u) (hv : Bd 2147483648 v) (hy : Bd 2147483648 y) (hz : Bd 2147483648 z) (ha : Bd (2 ^ bits) a) (hc : Bd (2 ^ bits) c) (w : World) :
 CW 199 #[.agg #[.int .i64 bits, .int .i64 mo, .bool inv], .agg #[.int .i64 (u).re, .int .i64 (u).im], .agg #[.int .i64 (v).re, .int .i64 (v).im], .agg #[.int .i64 (y).re, .int .i64 (y).im], .agg #[.int .i64 (z).re, .int .i64 (z).im], .agg #[.int .i64 (a).re, .int .i64 (a).im], .agg #[.int .i64 (c).re, .int .i64 (c).im]] w (.agg #[.int .i64 (joinG bits mo inv 0 u v y z a c).re, .int .i64 (joinG bits mo inv 0 u v y z a c).im, .int .i64 (joinG bits mo inv 1 u v y z a c).re, .int .i64 (joinG bits mo inv 1 u v y z a c).im, .int .i64 (joinG bits mo inv 2 u v y z a c).re, .int .i64 (joinG bits mo inv 2 u v y z a c).im, .int .i64 (joinG bits mo inv 3 u v y z a c).re, .int .i64 (joinG bits mo inv 3 u v y z a c).im]) :=by
 delta CW
 have hp := pow29 bits hb
 have la : ∀ x, Bd (2 ^ bits) x → Bd 1073741824 x := fun x hx => hx.mono (by omega)
 have hP : (2 : Int) ^ (bits + 1) = 2 * 2 ^ bits := by rw [Int.pow_succ]; omega
 have t1 := Bd.mul hy ha
 have t3 := Bd.mul hz hc
 have lt : 2 * (2147483648 * (2 : Int) ^ bits) ≤ 2305843009213693952 := by omega
 have t1' := t1.mono lt
 have t3' := t3.mono lt
 have hU := (Bd.scale hu (bits + 1)).mono (show 2147483648 * (2 : Int) ^ (bits + 1) ≤ 2305843009213693952 by omega)
 have hV := (Bd.scale hv (bits + 1)).mono (show 2147483648 * (2 : Int) ^ (bits + 1) ≤ 2305843009213693952 by omega)
 have hpp : Bd 4611686018427387904 (gadd (gmul y a) (gmul z c)) := (t1'.add t3').mono (by omega)
 have hd : Bd 4611686018427387904 (gsub (Gi.turn (turns1 inv 1) (gmul y a)) (Gi.turn (turns1 inv 1) (gmul z c))) := ((t1'.turn _).sub (t3'.turn _)).mono (by omega)
 have hG : Bd 1073741824 ⟨2 ^ (bits + 1), 0⟩ := Bd.mk (by simp only; omega)
 have eU : ∀ x, gmul x ⟨2 ^ (bits + 1), 0⟩ = gscale (bits + 1) x := fun x => by unfold gmul gscale; simp
 have HU := cxtimes_gi u ⟨2 ^ (bits + 1), 0⟩ hu.abs hG.abs
 have HV := cxtimes_gi v ⟨2 ^ (bits + 1), 0⟩ hv.abs hG.abs
 rw [eU] at HU HV
 have e := sJoined_of bits mo (2 ^ (bits + 1)) (turns1 inv 1) inv u v y z a c (gmul y a) (gmul z c) (gadd (gmul y a) (gmul z c)) (Gi.turn (turns1 inv 1) (gmul y a)) (Gi.turn (turns1 inv 1) (gmul z c)) _ (gscale (bits + 1) u) (gscale (bits + 1) v) _ _ _ _
  (by rw [Int.toNat_natCast, Nat.min_eq_left (by omega), hP]; exact IntWalk.i64_in _ ⟨by omega, by omega⟩) (by omega)
  (Lib.hid (cxtimes_gi y a hy.abs (la a ha).abs)) (Lib.hid (cxtimes_gi z c hz.abs (la c hc).abs)) (Lib.hid (cxsum_gi _ _ t1' t3')) (Lib.hid (sTurns_c bits mo inv))
  (Lib.hid (cxturn_gi _ _ (by have := t1'.le; omega))) (Lib.hid (cxturn_gi _ _ (by have := t3'.le; omega))) (Lib.hid (cxless_gi _ _ (t1'.turn _) (t3'.turn _))) (Lib.hid HU) (Lib.hid HV)
  (Lib.hid (sQuot_add bits mo inv _ _ hb m0 m1 hU hpp)) (Lib.hid (sQuot_add bits mo inv _ _ hb m0 m1 hV hd)) (Lib.hid (sQuot_sub bits mo inv _ _ hb m0 m1 hU hpp)) (Lib.hid (sQuot_sub bits mo inv _ _ hb m0 m1 hV hd)) w
 rw [turn_sub] at e
 exact e
theorem sHalved_c (bits : Nat) (mo : Int) (inv : Bool) (a b : Gi) (m0 : 0 ≤ mo) (m1 : mo ≤ 2) (ha : Bd 2147483648 a) (hb : Bd 2147483648 b) (w : World) :
 Calls Tryz.prog 178 #[.agg #[.int .i64 bits, .int .i64 mo, .bool inv], .agg #[.int .i64 (a).re, .int .i64 (a).im], .agg #[.int .i64 (b).re, .int .i64 (b).im]] w fun e w' => ∃ v, e = .returned v ∧ CxsAt w' v [grnd 1 mo (gadd a b), grnd 1 mo (gsub a b)] ∧ Gr w w' := by
 have s := (ha.add hb).le
 have d := (ha.sub hb).le
 exact sHalved_of bits mo inv a b (gadd a b) (gsub a b) _ _ (Lib.hid (cxsum_gi a b (ha.mono (by omega)) (hb.mono (by omega)))) (Lib.hid (cxless_gi a b (ha.mono (by omega)) (hb.mono (by omega))))
  (Lib.hid (cxshift_gi _ 1 mo (by omega) (by omega) m0 m1)) (Lib.hid (cxshift_gi _ 1 mo (by omega) (by omega) m0 m1)) w
theorem getD_map (f : Nat → Gi) (m j : Nat) (hj : j < m) : ((List.range m).map f).getD j ⟨0, 0⟩ = f j := by
 rw [List.getD_eq_getElem?_getD, List.getElem?_map, List.getElem?_range hj]
 rfl
theorem list_getD (xs : List Gi) : xs = (List.range xs.length).map (fun j => xs.getD j ⟨0, 0⟩) := by
 apply List.ext_getElem?
 intro j
 by_cases h : j < xs.length
 ·rw [List.getElem?_map, List.getElem?_range h, Option.map_some, List.getD_eq_getElem?_getD, List.getElem?_eq_getElem h]; rfl
 ·rw [List.getElem?_eq_none (by omega), List.getElem?_eq_none (by simp; omega)]
def sL (bits : Nat) (mo : Int) (inv : Bool) (ws : List Gi) (l : Nat) (xs : List Gi) : List Gi := (List.range (2 ^ l)).map (spl bits mo inv (rootOf ws inv) ws.length l (fun j => xs.getD j ⟨0, 0⟩))
theorem sL_len (bits : Nat) (mo : Int) (inv : Bool) (ws : List Gi) (l : Nat) (xs : List Gi) : (sL bits mo inv ws l xs).length = 2 ^ l := by unfold sL; simp
theorem sL_at (bits : Nat) (mo : Int) (inv : Bool) (ws : List Gi) (l : Nat) (xs : List Gi) (j : Nat) (hj : j < 2 ^ l) : (sL bits mo inv ws l xs).getD j ⟨0, 0⟩ = spl bits mo inv (rootOf ws inv) ws.length l (fun j => xs.getD j ⟨0, 0⟩) j := getD_map _ _ _ hj
theorem sL_pick (bits : Nat) (mo : Int) (inv : Bool) (ws : List Gi) (l : Nat) (xs : List Gi) (F S : Nat) (j : Nat) (hj : j < 2 ^ l) :
 (sL bits mo inv ws l ((List.range (2 ^ l)).map (pick xs F S))).getD j ⟨0, 0⟩ = spl bits mo inv (rootOf ws inv) ws.length l (fun j => xs.getD (F + S * j) ⟨0, 0⟩) j := by
 rw [sL_at _ _ _ _ _ _ _ hj]
 exact spl_congr _ _ _ _ _ _ _ _ (fun i hi => getD_map _ _ _ hi) _ hj
theorem sL_two (bits : Nat) (mo : Int) (inv : Bool) (ws xs : List Gi) (k : Nat) :
 sL bits mo inv ws (k + 2) xs = (List.range (4 * 2 ^ k)).map (fun i => joinG bits mo inv (i / 2 ^ k)
  ((sL bits mo inv ws (k + 1) ((List.range (2 ^ (k + 1))).map (pick xs 0 2))).getD (i % 2 ^ k) ⟨0, 0⟩) ((sL bits mo inv ws (k + 1) ((List.range (2 ^ (k + 1))).map (pick xs 0 2))).getD (2 ^ k + i % 2 ^ k) ⟨0, 0⟩)
  ((sL bits mo inv ws k ((List.range (2 ^ k)).map (pick xs 1 4))).getD (i % 2 ^ k) ⟨0, 0⟩) ((sL bits mo inv ws k ((List.range (2 ^ k)).map (pick xs 3 4))).getD (i % 2 ^ k) ⟨0, 0⟩)
  (rootOf ws inv (i % 2 ^ k * (ws.length / 2 ^ (k + 2)))) (rootOf ws inv (3 * (i % 2 ^ k) * (ws.length / 2 ^ (k + 2))))) := by
 have e2 : 2 ^ (k + 2) = 4 * 2 ^ k := by rw [Nat.pow_succ, Nat.pow_succ]; omega
 unfold sL
 rw [e2]
 refine List.map_congr_left fun i hi => ?_
 obtain ⟨h1, h2, h3, h4⟩ := spl_places k i
 rw [spl_two, ← e2]
 have c0 := sL_pick bits mo inv ws (k + 1) xs 0 2 (i % 2 ^ k) (by omega)
 have c1 := sL_pick bits mo inv ws (k + 1) xs 0 2 (2 ^ k + i % 2 ^ k) h2
 have c2 := sL_pick bits mo inv ws k xs 1 4 (i % 2 ^ k) h1
 have c3 := sL_pick bits mo inv ws k xs 3 4 (i % 2 ^ k) h1
 unfold sL at c0 c1 c2 c3
 rw [c0, c1, c2, c3]
 simp only [Nat.zero_add, Nat.add_comm 1, Nat.add_comm 3]
set_option maxHeartbeats 2000000 in
theorem sTrans_0 (bits : Nat) (mo : Int) (inv : Bool) (pw px : Option Addr) (n cw cx : Nat) (xs : List Gi) (w : World) (hx : CxsAt w (.slice px 1 cx) xs) :
 Calls Tryz.prog 153 #[.agg #[.int .i64 bits, .int .i64 mo, .bool inv], .slice px 1 cx, .slice pw n cw] w fun e w' => ∃ v, e = .returned v ∧ CxsAt w' v xs ∧ Gr w w' := by
 go_enter Tryz.func153, Tryz.ntmps153
 go_wp2_with fail
 go_ret
 exact ⟨_, rfl, hx.gr ((Gr.refl w).alloc #[.int .i64 bits, .int .i64 mo, .bool inv] 181), (Gr.refl w).alloc #[.int .i64 bits, .int .i64 mo, .bool inv] 181⟩
set_option maxHeartbeats 4000000 in
theorem sTrans_1 (bits : Nat) (mo : Int) (inv : Bool) (pw : Option Addr) (b o n cw cx : Nat) (a c p q : Gi)
 (HH : Hid (∀ W, Calls Tryz.prog 178 #[.agg #[.int .i64 bits, .int .i64 mo, .bool inv], .agg #[.int .i64 (a).re, .int .i64 (a).im], .agg #[.int .i64 (c).re, .int .i64 (c).im]] W fun e w' => ∃ v, e = .returned v ∧ CxsAt w' v [p, q] ∧ Gr W w')) (w : World) (hbw : b < w.heap.size)
 (k0 : w.cell? ⟨b, o, none⟩ = some (.int .i64 a.re)) (k1 : w.cell? ⟨b, o + 1, none⟩ = some (.int .i64 a.im)) (k2 : w.cell? ⟨b, o + 2, none⟩ = some (.int .i64 c.re)) (k3 : w.cell? ⟨b, o + 2 + 1, none⟩ = some (.int .i64 c.im)) :
 Calls Tryz.prog 153 #[.agg #[.int .i64 bits, .int .i64 mo, .bool inv], .slice (some ⟨b, o, none⟩) 2 cx, .slice pw n cw] w fun e w' => ∃ v, e = .returned v ∧ CxsAt w' v [p, q] ∧ Gr w w' := by
 go_enter Tryz.func153, Tryz.ntmps153
 go_wp2_with fail
 obtain ⟨u0, hU⟩ : ∃ uu, uu = (w.alloc (.cells #[.int .i64 bits, .int .i64 mo, .bool inv] 181)) := ⟨_, rfl⟩
 have ⟨gu, R0⟩ := lay1 hU
 rw [← hU]
 clear hU
 have KS : ∀ W, Gr u0 W → (W.cell? ⟨w.heap.size, 0, none⟩ = some (.int .i64 bits) ∧ W.cell? ⟨w.heap.size, 1, none⟩ = some (.int .i64 mo) ∧ W.cell? ⟨w.heap.size, 2, none⟩ = some (.bool inv) ∧ W.cell? ⟨b, o, none⟩ = some (.int .i64 a.re) ∧ W.cell? ⟨b, o + 1, none⟩ = some (.int .i64 a.im) ∧ W.cell? ⟨b, o + 2, none⟩ = some (.int .i64 c.re) ∧ W.cell? ⟨b, o + 2 + 1, none⟩ = some (.int .i64 c.im)) := fun W hG =>
  ⟨(R0.gr hG).cell 0, (R0.gr hG).cell 1, (R0.gr hG).cell 2, ((gu.trans hG).cell (p := ⟨b, _, none⟩) hbw).trans k0, ((gu.trans hG).cell (p := ⟨b, _, none⟩) hbw).trans k1, ((gu.trans hG).cell (p := ⟨b, _, none⟩) hbw).trans k2, ((gu.trans hG).cell (p := ⟨b, _, none⟩) hbw).trans k3⟩
 clear k0 k1 k2 k3
 have hclG := gr_closed u0
 try simp only [List.append_eq, List.cons_append, List.nil_append]
 refine wp_region_grow (S := Gr u0) rfl (Gr.drew (Gr.refl _)) ?_
 refine gK 0 hclG KS ?_
 refine gT 1 hclG ?_
 refine gT 2 hclG ?_
 refine gK 3 hclG KS ?_
 refine gT 4 hclG ?_
 refine gT 5 hclG ?_
 refine gK 6 hclG KS ?_
 refine gR 7 fun w1 g1 s1 K hK => ?_
 go_simp
 refine (HH.out _).mono ?_
 rintro e w2 ⟨v, rfl, hv, g2⟩
 refine hK.out _ _ ?_ ?_
 ·exact s1.trans g2
 clear hK K
 try simp only [Act.put, putS]
 refine gT 8 hclG ?_
 refine wpG_done (by kernel_rfl) (fun w3 g3 => ?_) _
 go_wp2_with fail
 go_ret
 exact ⟨_, rfl, hv.gr g3, ((gu.trans s1).trans g2).trans g3⟩
set_option maxHeartbeats 8000000 in
theorem sTrans_2 (bits : Nat) (mo : Int) (inv : Bool) (pw : Option Addr) (b o n cw cx m h h2 : Nat) (xs ws EL FL GL RL : List Gi) (hl : xs.length = m) (hm : m = 4 * h) (hh2 : h2 = 2 * h) (h1 : 1 ≤ h) (hm64 : m ≤ 64)
 (lE : EL.length = h2) (lF : FL.length = h) (lG : GL.length = h)
 (HE : Hid (∀ px cx W, CxsAt W (.slice px h2 cx) ((List.range h2).map (pick xs 0 2)) → CxsAt W (.slice pw n cw) ws → Calls Tryz.prog 153 #[.agg #[.int .i64 bits, .int .i64 mo, .bool inv], .slice px h2 cx, .slice pw n cw] W fun e w' => ∃ v, e = .returned v ∧ CxsAt w' v EL ∧ Gr W w'))
 (HF : Hid (∀ px cx W, CxsAt W (.slice px h cx) ((List.range h).map (pick xs 1 4)) → CxsAt W (.slice pw n cw) ws → Calls Tryz.prog 153 #[.agg #[.int .i64 bits, .int .i64 mo, .bool inv], .slice px h cx, .slice pw n cw] W fun e w' => ∃ v, e = .returned v ∧ CxsAt w' v FL ∧ Gr W w'))
 (HG : Hid (∀ px cx W, CxsAt W (.slice px h cx) ((List.range h).map (pick xs 3 4)) → CxsAt W (.slice pw n cw) ws → Calls Tryz.prog 153 #[.agg #[.int .i64 bits, .int .i64 mo, .bool inv], .slice px h cx, .slice pw n cw] W fun e w' => ∃ v, e = .returned v ∧ CxsAt w' v GL ∧ Gr W w'))
 (HJ : Hid (∀ pe ce pf cf pg cg W, CxsAt W (.slice pe h2 ce) EL → CxsAt W (.slice pf h cf) FL → CxsAt W (.slice pg h cg) GL → CxsAt W (.slice pw n cw) ws →
  Calls Tryz.prog 181 #[.agg #[.int .i64 bits, .int .i64 mo, .bool inv], .slice pe h2 ce, .slice pf h cf, .slice pg h cg, .slice pw n cw] W fun e w' => ∃ v, e = .returned v ∧ CxsAt w' v RL ∧ Gr W w'))
 (w : World) (hbw : b < w.heap.size) (hC : ∀ j, j < m → w.cell? ⟨b, o + j * 2, none⟩ = some (.int .i64 (xs.getD j ⟨0, 0⟩).re) ∧ w.cell? ⟨b, o + j * 2 + 1, none⟩ = some (.int .i64 (xs.getD j ⟨0, 0⟩).im)) (VW : CxsAt w (.slice pw n cw) ws) :
 Calls Tryz.prog 153 #[.agg #[.int .i64 bits, .int .i64 mo, .bool inv], .slice (some ⟨b, o, none⟩) m cx, .slice pw n cw] w fun e w' => ∃ v, e = .returned v ∧ CxsAt w' v RL ∧ Gr w w' := by
 have HOP := Lib.hid fun (F S : Int) => ofPlaces_c (some ⟨b, o, none⟩) m cx F S
 have HLI := Lib.hid fun (Bf Bx Bs F S cnt : Nat) (hS1 : 1 ≤ S) (hS : S ≤ 4) (hN : (∀ q, F + S * q < m ↔ q < cnt) ∧ cnt ≤ 32 ∧ F + S * cnt ≤ 200) (W : World) (bf : Boxed W Bf 3 (.int .i64 F)) (bx : Boxed W Bx 25 (.slice (some ⟨b, o, none⟩) m cx)) (bs : Boxed W Bs 3 (.int .i64 S)) (g : Gr w W) =>
  listed_c Bf Bx Bs b o m cx F S cnt xs hl hm64 hS1 (by omega) hN.1 hN.2.1 hN.2.2 W bf bx bs (Nat.lt_of_lt_of_le hbw g.size) (fun j hj => ⟨(g.cell (p := ⟨b, _, none⟩) hbw).trans (hC j hj).1, (g.cell (p := ⟨b, _, none⟩) hbw).trans (hC j hj).2⟩)
 have n0 : (∀ q, 0 + 2 * q < m ↔ q < h2) ∧ h2 ≤ 32 ∧ 0 + 2 * h2 ≤ 200 := ⟨fun q => by omega, by omega, by omega⟩
 have n1 : (∀ q, 1 + 4 * q < m ↔ q < h) ∧ h ≤ 32 ∧ 1 + 4 * h ≤ 200 := ⟨fun q => by omega, by omega, by omega⟩
 have n3 : (∀ q, 3 + 4 * q < m ↔ q < h) ∧ h ≤ 32 ∧ 3 + 4 * h ≤ 200 := ⟨fun q => by omega, by omega, by omega⟩
 have HN0 := Lib.hid n0
 have HN1 := Lib.hid n1
 have HN3 := Lib.hid n3
 have hm1 : ¬ (m : Int) = 1 := by omega
 have hm2 : ¬ (m : Int) = 2 := by omega
 have hm1' : ¬ m = 1 := by omega
 have hm2' : ¬ m = 2 := by omega
 clear n0 n1 n3 hC hl hm hh2
 go_enter Tryz.func153, Tryz.ntmps153
 go_wp2_with fail
 obtain ⟨u0, hU⟩ : ∃ uu, uu = (w.alloc (.cells #[.int .i64 bits, .int .i64 mo, .bool inv] 181)) := ⟨_, rfl⟩
 have Z : Gr w u0 := by rw [hU]; exact (Gr.refl w).alloc _ _
 have RR0 : CellsAt u0 (w.heap.size) 181 #[.int .i64 bits, .int .i64 mo, .bool inv] := by
  rw [hU]
  have := (CellsAt.new w 181 #[.int .i64 bits, .int .i64 mo, .bool inv])
  simpa only [World.size_alloc] using this
 rw [← hU]
 clear hU
 have R := RR0
 replace VW := VW.gr Z
 clear RR0
 have KS : ∀ W, Gr u0 W → (W.cell? ⟨w.heap.size, 0, none⟩ = some (.int .i64 bits) ∧ W.cell? ⟨w.heap.size, 1, none⟩ = some (.int .i64 mo) ∧ W.cell? ⟨w.heap.size, 2, none⟩ = some (.bool inv)) := fun W hG => ⟨(R.gr hG).cell 0, (R.gr hG).cell 1, (R.gr hG).cell 2⟩
 have hclG := gr_closed u0
 try simp only [List.append_eq, List.cons_append, List.nil_append]
 refine wp_region_grow (S := Gr u0) rfl (Gr.drew (Gr.refl _)) ?_
 refine gK 0 hclG KS ?_
 refine gT 1 hclG ?_
 refine gT 4 hclG ?_
 refine gR 2 fun w1a g1a s1a K hK => ?_
 go_simp
 refine (HOP.out 0 2 _).mono ?_
 rintro e w2a ⟨rfl, hw2⟩
 have bxa := ((Boxed.new w1a 25 (.slice (some ⟨b, o, none⟩) m cx)).alloc (.cells #[.int .i64 0] 3)).alloc (.cells #[.int .i64 2] 3)
 have bfa := (Boxed.new (w1a.alloc (.cells #[.slice (some ⟨b, o, none⟩) m cx] 25)) 3 (.int .i64 0)).alloc (.cells #[.int .i64 2] 3)
 have bsa := Boxed.new ((w1a.alloc (.cells #[.slice (some ⟨b, o, none⟩) m cx] 25)).alloc (.cells #[.int .i64 0] 3)) 3 (.int .i64 2)
 have gAa := (((Gr.refl w1a).alloc #[.slice (some ⟨b, o, none⟩) m cx] 25).alloc #[.int .i64 0] 3).alloc #[.int .i64 2] 3
 simp only [World.size_alloc] at bxa bfa bsa
 rw [← hw2] at bxa bfa bsa gAa
 clear hw2
 refine hK.out _ _ ?_ ?_
 ·exact s1a.trans gAa
 clear hK K
 try simp only [Act.put, putS]
 refine gR 3 fun w3a g3a s3a K hK => ?_
 go_simp
 have gBa := Z.trans s3a
 refine (HLI.out (w1a.heap.size + 1) w1a.heap.size (w1a.heap.size + 1 + 1) 0 2 h2 (by omega) (by omega) HN0.out w3a ((g3a.block bfa.lt).trans bfa) ((g3a.block bxa.lt).trans bxa) ((g3a.block bsa.lt).trans bsa) gBa).mono ?_
 rintro e w4a ⟨v4a, rfl, hv4a, g4a⟩
 obtain ⟨pea, cea, hvea⟩ := hv4a.len
 rw [List.length_map, List.length_range] at hvea
 subst hvea
 refine hK.out _ _ ?_ ?_
 ·exact s3a.trans g4a
 clear hK K
 try simp only [Act.put, putS]
 refine gR 5 fun w5a g5a s5a K hK => ?_
 go_simp
 refine (HE.out _ _ w5a (hv4a.gr g5a) (VW.gr s5a)).mono ?_
 rintro e w6a ⟨v6a, rfl, WE', g6a⟩
 refine hK.out _ _ ?_ ?_
 ·exact s5a.trans g6a
 clear hK K
 try simp only [Act.put, putS]
 refine gT 6 hclG ?_
 refine wpG_done (by kernel_rfl) (fun w7a g7a => ?_) _
 have gCa := (s5a.trans g6a).trans g7a
 replace WE' := WE'.gr g7a
 replace R := R.gr gCa
 replace VW := VW.gr gCa
 replace Z := Z.trans gCa
 clear KS hclG gCa g7a g6a s5a g5a hv4a g4a s3a g3a gBa gAa bxa bfa bsa s1a g1a
 obtain ⟨pE, cE, hvE⟩ := WE'.len
 rw [lE] at hvE
 subst hvE
 have WE := WE'
 clear WE'
 go_wp2_with fail
 have KS : ∀ W, Gr w7a W → (W.cell? ⟨w.heap.size, 0, none⟩ = some (.int .i64 bits) ∧ W.cell? ⟨w.heap.size, 1, none⟩ = some (.int .i64 mo) ∧ W.cell? ⟨w.heap.size, 2, none⟩ = some (.bool inv)) := fun W hG => ⟨(R.gr hG).cell 0, (R.gr hG).cell 1, (R.gr hG).cell 2⟩
 have hclG := gr_closed w7a
 try simp only [List.append_eq, List.cons_append, List.nil_append]
 refine wp_region_grow (S := Gr w7a) rfl (Gr.drew (Gr.refl _)) ?_
 refine gK 0 hclG KS ?_
 refine gT 1 hclG ?_
 refine gT 4 hclG ?_
 refine gR 2 fun w1b g1b s1b K hK => ?_
 go_simp
 refine (HOP.out 1 4 _).mono ?_
 rintro e w2b ⟨rfl, hw2⟩
 have bxb := ((Boxed.new w1b 25 (.slice (some ⟨b, o, none⟩) m cx)).alloc (.cells #[.int .i64 1] 3)).alloc (.cells #[.int .i64 4] 3)
 have bfb := (Boxed.new (w1b.alloc (.cells #[.slice (some ⟨b, o, none⟩) m cx] 25)) 3 (.int .i64 1)).alloc (.cells #[.int .i64 4] 3)
 have bsb := Boxed.new ((w1b.alloc (.cells #[.slice (some ⟨b, o, none⟩) m cx] 25)).alloc (.cells #[.int .i64 1] 3)) 3 (.int .i64 4)
 have gAb := (((Gr.refl w1b).alloc #[.slice (some ⟨b, o, none⟩) m cx] 25).alloc #[.int .i64 1] 3).alloc #[.int .i64 4] 3
 simp only [World.size_alloc] at bxb bfb bsb
 rw [← hw2] at bxb bfb bsb gAb
 clear hw2
 refine hK.out _ _ ?_ ?_
 ·exact s1b.trans gAb
 clear hK K
 try simp only [Act.put, putS]
 refine gR 3 fun w3b g3b s3b K hK => ?_
 go_simp
 have gBb := Z.trans s3b
 refine (HLI.out (w1b.heap.size + 1) w1b.heap.size (w1b.heap.size + 1 + 1) 1 4 h (by omega) (by omega) HN1.out w3b ((g3b.block bfb.lt).trans bfb) ((g3b.block bxb.lt).trans bxb) ((g3b.block bsb.lt).trans bsb) gBb).mono ?_
 rintro e w4b ⟨v4b, rfl, hv4b, g4b⟩
 obtain ⟨peb, ceb, hveb⟩ := hv4b.len
 rw [List.length_map, List.length_range] at hveb
 subst hveb
 refine hK.out _ _ ?_ ?_
 ·exact s3b.trans g4b
 clear hK K
 try simp only [Act.put, putS]
 refine gR 5 fun w5b g5b s5b K hK => ?_
 go_simp
 refine (HF.out _ _ w5b (hv4b.gr g5b) (VW.gr s5b)).mono ?_
 rintro e w6b ⟨v6b, rfl, WF', g6b⟩
 refine hK.out _ _ ?_ ?_
 ·exact s5b.trans g6b
 clear hK K
 try simp only [Act.put, putS]
 refine gT 6 hclG ?_
 refine wpG_done (by kernel_rfl) (fun w7b g7b => ?_) _
 have gCb := (s5b.trans g6b).trans g7b
 replace WF' := WF'.gr g7b
 replace R := R.gr gCb
 replace VW := VW.gr gCb
 replace Z := Z.trans gCb
 replace WE := WE.gr gCb
 clear KS hclG gCb g7b g6b s5b g5b hv4b g4b s3b g3b gBb gAb bxb bfb bsb s1b g1b
 obtain ⟨pF, cF, hvF⟩ := WF'.len
 rw [lF] at hvF
 subst hvF
 have WF := WF'
 clear WF'
 go_wp2_with fail
 have KS : ∀ W, Gr w7b W → (W.cell? ⟨w.heap.size, 0, none⟩ = some (.int .i64 bits) ∧ W.cell? ⟨w.heap.size, 1, none⟩ = some (.int .i64 mo) ∧ W.cell? ⟨w.heap.size, 2, none⟩ = some (.bool inv)) := fun W hG => ⟨(R.gr hG).cell 0, (R.gr hG).cell 1, (R.gr hG).cell 2⟩
 have hclG := gr_closed w7b
 try simp only [List.append_eq, List.cons_append, List.nil_append]
 refine wp_region_grow (S := Gr w7b) rfl (Gr.drew (Gr.refl _)) ?_
 refine gK 0 hclG KS ?_
 refine gT 1 hclG ?_
 refine gT 4 hclG ?_
 refine gR 2 fun w1c g1c s1c K hK => ?_
 go_simp
 refine (HOP.out 3 4 _).mono ?_
 rintro e w2c ⟨rfl, hw2⟩
 have bxc := ((Boxed.new w1c 25 (.slice (some ⟨b, o, none⟩) m cx)).alloc (.cells #[.int .i64 3] 3)).alloc (.cells #[.int .i64 4] 3)
 have bfc := (Boxed.new (w1c.alloc (.cells #[.slice (some ⟨b, o, none⟩) m cx] 25)) 3 (.int .i64 3)).alloc (.cells #[.int .i64 4] 3)
 have bsc := Boxed.new ((w1c.alloc (.cells #[.slice (some ⟨b, o, none⟩) m cx] 25)).alloc (.cells #[.int .i64 3] 3)) 3 (.int .i64 4)
 have gAc := (((Gr.refl w1c).alloc #[.slice (some ⟨b, o, none⟩) m cx] 25).alloc #[.int .i64 3] 3).alloc #[.int .i64 4] 3
 simp only [World.size_alloc] at bxc bfc bsc
 rw [← hw2] at bxc bfc bsc gAc
 clear hw2
 refine hK.out _ _ ?_ ?_
 ·exact s1c.trans gAc
 clear hK K
 try simp only [Act.put, putS]
 refine gR 3 fun w3c g3c s3c K hK => ?_
 go_simp
 have gBc := Z.trans s3c
 refine (HLI.out (w1c.heap.size + 1) w1c.heap.size (w1c.heap.size + 1 + 1) 3 4 h (by omega) (by omega) HN3.out w3c ((g3c.block bfc.lt).trans bfc) ((g3c.block bxc.lt).trans bxc) ((g3c.block bsc.lt).trans bsc) gBc).mono ?_
 rintro e w4c ⟨v4c, rfl, hv4c, g4c⟩
 obtain ⟨pec, cec, hvec⟩ := hv4c.len
 rw [List.length_map, List.length_range] at hvec
 subst hvec
 refine hK.out _ _ ?_ ?_
 ·exact s3c.trans g4c
 clear hK K
 try simp only [Act.put, putS]
 refine gR 5 fun w5c g5c s5c K hK => ?_
 go_simp
 refine (HG.out _ _ w5c (hv4c.gr g5c) (VW.gr s5c)).mono ?_
 rintro e w6c ⟨v6c, rfl, WG', g6c⟩
 refine hK.out _ _ ?_ ?_
 ·exact s5c.trans g6c
 clear hK K
 try simp only [Act.put, putS]
 refine gT 6 hclG ?_
 refine wpG_done (by kernel_rfl) (fun w7c g7c => ?_) _
 have gCc := (s5c.trans g6c).trans g7c
 replace WG' := WG'.gr g7c
 replace R := R.gr gCc
 replace VW := VW.gr gCc
 replace Z := Z.trans gCc
 replace WE := WE.gr gCc
 replace WF := WF.gr gCc
 clear KS hclG gCc g7c g6c s5c g5c hv4c g4c s3c g3c gBc gAc bxc bfc bsc s1c g1c
 obtain ⟨pG, cG, hvG⟩ := WG'.len
 rw [lG] at hvG
 subst hvG
 have WG := WG'
 clear WG'
 have c0 := R.cell 0
 have c1 := R.cell 1
 have c2 := R.cell 2
 simp only [getS] at c0 c1 c2
 go_wp2_with fail
 refine (HJ.out _ _ _ _ _ _ _ WE WF WG VW).mono ?_
 rintro e w8 ⟨v8, rfl, hv8, g8⟩
 go_wp2_with fail
 go_ret
 exact ⟨_, rfl, hv8, Z.trans g8⟩
end
section
open Go.ChangeShapes Go.WideShapes Go.ChangeAt Go.RowKit
set_option linter.unusedVariables false
set_option maxRecDepth 100000
def offG (p : Int) (a : Gi) : Bool := (clampI p a.re != a.re) || (clampI p a.im != a.im)
def atFirst (sc p : Int) (xs : List Gi) : Int := if sc = 0 then 1 else if sc = 1 then -(room p (maxG xs) : Int) else 0
def readyB (ke sc mo p : Int) (L : Nat) (xs : List Gi) : BV := ⟨(if ke = 2 then xs else flipL L xs).map (shG (atFirst sc p xs) mo), atFirst sc p xs, false, []⟩
def nextB (sc mo p : Int) (iv : Bool) (B : Nat) (ws : List Gi) (b : BV) (q : Gi) : BV :=
 ⟨if sc = 2 then (stepV sc p B mo iv ws b.X q).map (clampG p) else stepV sc p B mo iv ws b.X q, b.ex + shOf sc q.re p b.X, if sc = 2 then b.sat || (stepV sc p B mo iv ws b.X q).any (offG p) else b.sat, b.sh ++ [shOf sc q.re p b.X]⟩
def behindB (ke lo sc mo p : Int) (iv : Bool) (L B : Nat) (ws xs : List Gi) (j : Nat) : BV := ((passL ke lo).take j).foldl (nextB sc mo p iv B ws) (readyB ke sc mo p L xs)
def runB15 (ke lo sc mo p : Int) (iv : Bool) (L B : Nat) (ws xs : List Gi) : BV :=
 if ke = 2 then ⟨sL B mo iv ws L (readyB ke sc mo p L xs).X, 1 + lo, false, []⟩ else behindB ke lo sc mo p iv L B ws xs (passL ke lo).length
theorem behindB_next {ke lo sc mo p : Int} {iv : Bool} {L B : Nat} {ws xs : List Gi} {j : Nat} {q : Gi} (h : (passL ke lo)[j]? = some q) :
 behindB ke lo sc mo p iv L B ws xs (j + 1) = nextB sc mo p iv B ws (behindB ke lo sc mo p iv L B ws xs j) q := by
 unfold behindB
 rw [take_snoc h, List.foldl_append]
 rfl
theorem clampI_in (p x : Int) (hp : 1 ≤ p) : -p ≤ clampI p x ∧ clampI p x ≤ p - 1 := by unfold clampI; repeat' split <;> omega
theorem offG_no {p : Int} {a : Gi} : offG p a = false ↔ clampG p a = a := by
 obtain ⟨x, y⟩ := a
 simp [offG, clampG]
theorem any_off {p : Int} {ys : List Gi} : ys.any (offG p) = false ↔ ys.map (clampG p) = ys := by
 induction ys with
 | nil => simp
 | cons y ys ih => rw [List.any_cons, Bool.or_eq_false_iff, ih, offG_no, List.map_cons, List.cons.injEq]
theorem allIn_parts {l : Int} {xs : List Gi} : allIn l xs = true ↔ ∀ a ∈ xs, (-l ≤ a.re ∧ a.re ≤ l) ∧ (-l ≤ a.im ∧ a.im ≤ l) := by
 unfold allIn
 rw [List.all_eq_true]
 simp only [Bool.and_eq_true, inB_iff]
theorem allIn_more {l l' : Int} {xs : List Gi} (h : allIn l xs = true) (hl : l ≤ l') : allIn l' xs = true := by
 rw [allIn_parts] at h ⊢
 intro a ha
 have := h a ha
 omega
theorem bd_iff {l : Int} {a : Gi} : Bd l a ↔ (-l ≤ a.re ∧ a.re ≤ l) ∧ (-l ≤ a.im ∧ a.im ≤ l) := by
 unfold Bd absI
 constructor
 ·rintro ⟨h1, h2⟩
  split at h1 <;> split at h2 <;> omega
 ·rintro ⟨h1, h2⟩
  constructor <;> split <;> omega
theorem allIn_bd {l : Int} {xs : List Gi} : allIn l xs = true ↔ ∀ a ∈ xs, Bd l a := by
 rw [allIn_parts]
 constructor
 ·exact fun h a ha => bd_iff.2 (h a ha)
 ·exact fun h a ha => bd_iff.1 (h a ha)
def ManB (p : Int) (xs : List Gi) : Prop := ∀ a ∈ xs, (-p ≤ a.re ∧ a.re ≤ p - 1) ∧ (-p ≤ a.im ∧ a.im ≤ p - 1)
theorem ManB.all {p : Int} {xs : List Gi} (h : ManB p xs) : allIn p xs = true := by
 rw [allIn_parts]
 intro a ha
 have := h a ha
 omega
theorem manB_iff {p : Int} {xs : List Gi} : partsB (-p) (p - 1) xs = true ↔ ManB p xs := by
 unfold partsB partIn ManB
 rw [List.all_eq_true]
 simp only [decide_eq_true_eq]
theorem manB_clamp {p : Int} (hp : 1 ≤ p) (xs : List Gi) : ManB p (xs.map (clampG p)) := by
 intro a ha
 obtain ⟨x, _, rfl⟩ := List.mem_map.1 ha
 exact ⟨clampI_in p x.re hp, clampI_in p x.im hp⟩
end
end Go.Proofs.YtdignnmpfkgkoaaGreat
