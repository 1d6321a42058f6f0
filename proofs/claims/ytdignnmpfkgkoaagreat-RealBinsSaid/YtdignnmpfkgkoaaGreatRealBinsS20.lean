import Derived.Test.YtdignnmpfkgkoaaGreatRealBinsS11
import Derived.Test.YtdignnmpfkgkoaaGreatRealBinsS19
namespace Go.Proofs.YtdignnmpfkgkoaaGreat
section
open Go.ChangeShapes Go.WideShapes Go.ChangeAt Go.RowKit
set_option linter.unusedVariables false
set_option linter.unusedSimpArgs false
set_option maxRecDepth 100000
set_option maxHeartbeats 16000000
theorem Bd.abs {l : Int} {a : Gi} (h : Bd l a) : absI a.re ≤ l ∧ absI a.im ≤ l := h
theorem cxsum_gi (a b : Gi) (ha : Bd 2305843009213693952 a) (hb : Bd 2305843009213693952 b) (w : World) :
 CW 126 #[.agg #[a.re, a.im], .agg #[b.re, b.im]] w (.tuple #[.agg #[(gadd a b).re, (gadd a b).im], .int .i64 0]) :=by
 delta CW
 have h1 := ha.le
 have h2 := hb.le
 exact cxsum_ok a.re a.im b.re b.im (by simp only [Bool.and_eq_true, inB_iff]; omega) w
theorem cxless_gi (a b : Gi) (ha : Bd 2305843009213693952 a) (hb : Bd 2305843009213693952 b) (w : World) :
 CW 127 #[.agg #[a.re, a.im], .agg #[b.re, b.im]] w (.tuple #[.agg #[(gsub a b).re, (gsub a b).im], .int .i64 0]) :=by
 delta CW
 have h1 := ha.le
 have h2 := hb.le
 exact cxless_ok a.re a.im b.re b.im (by simp only [Bool.and_eq_true, inB_iff]; omega) w
theorem Bd.sub {l m : Int} {a b : Gi} (h : Bd l a) (k : Bd m b) : Bd (l + m) (gsub a b) := by
 have h1 := h.le
 have h2 := k.le
 unfold gsub
 exact Bd.mk (by simp only; omega)
theorem turn_sub (q : Int) (a b : Gi) : gsub (Gi.turn q a) (Gi.turn q b) = Gi.turn q (gsub a b) := by
 rcases q4g q with h | h | h | h <;> (unfold Gi.turn gsub; simp only [h]; first | rfl | exact Gi.ext2 (by first | (simp; done) | (simp; omega)) (by first | (simp; done) | (simp; omega)))
theorem sQuot_add (bits : Nat) (mo : Int) (inv : Bool) (a k : Gi) (hb : bits ≤ 29) (m0 : 0 ≤ mo) (m1 : mo ≤ 2) (ha : Bd 2305843009213693952 a) (hk : Bd 4611686018427387904 k) (w : World) :
 CW 216 #[.agg #[bits, mo, inv], .agg #[a.re, a.im], .agg #[k.re, k.im], .int .i64 1] w (.agg #[(grnd (bits + 2) mo (gadd a k)).re, (grnd (bits + 2) mo (gadd a k)).im]) :=by
 delta CW
 have h1 := ha.le
 have h2 := hk.le
 exact sQuotient_of bits mo ((bits + 2 : Nat) : Int) 1 k.re k.im (a.re + k.re) (a.im + k.im) inv a k _ (by rw [Int.one_mul]; exact IntWalk.wrap64_in _ (by omega)) (by rw [Int.one_mul]; exact IntWalk.wrap64_in _ (by omega)) (IntWalk.wrap64_in _ (by omega)) (IntWalk.wrap64_in _ (by omega))
  (kh (sDown_c bits mo _ inv (by rw [IntWalk.i64_in _ ⟨by omega, by omega⟩]; omega))) (kh (cxshift_gi (gadd a k) (bits + 2) mo (by unfold gadd; simp only; omega) (by omega) m0 m1)) w
theorem sQuot_sub (bits : Nat) (mo : Int) (inv : Bool) (a k : Gi) (hb : bits ≤ 29) (m0 : 0 ≤ mo) (m1 : mo ≤ 2) (ha : Bd 2305843009213693952 a) (hk : Bd 4611686018427387904 k) (w : World) :
 CW 216 #[.agg #[bits, mo, inv], .agg #[a.re, a.im], .agg #[k.re, k.im], .int .i64 (-1)] w (.agg #[(grnd (bits + 2) mo (gsub a k)).re, (grnd (bits + 2) mo (gsub a k)).im]) :=by
 delta CW
 have h1 := ha.le
 have h2 := hk.le
 exact sQuotient_of bits mo ((bits + 2 : Nat) : Int) (-1) (-k.re) (-k.im) (a.re - k.re) (a.im - k.im) inv a k _ (by rw [Int.neg_one_mul]; exact IntWalk.wrap64_in _ (by omega)) (by rw [Int.neg_one_mul]; exact IntWalk.wrap64_in _ (by omega)) (by rw [← Int.sub_eq_add_neg]; exact IntWalk.wrap64_in _ (by omega)) (by rw [← Int.sub_eq_add_neg]; exact IntWalk.wrap64_in _ (by omega))
  (kh (sDown_c bits mo _ inv (by rw [IntWalk.i64_in _ ⟨by omega, by omega⟩]; omega))) (kh (cxshift_gi (gsub a k) (bits + 2) mo (by unfold gsub; simp only; omega) (by omega) m0 m1)) w
theorem sJoined_c (bits : Nat) (mo : Int) (inv : Bool) (u v y z a c : Gi) (hb : bits ≤ 29) (m0 : 0 ≤ mo) (m1 : mo ≤ 2) (hu : Bd 2147483648 u) (hv : Bd 2147483648 v) (hy : Bd 2147483648 y) (hz : Bd 2147483648 z) (ha : Bd (2 ^ bits) a) (hc : Bd (2 ^ bits) c) (w : World) :
 CW 199 #[.agg #[bits, mo, inv], .agg #[u.re, u.im], .agg #[v.re, v.im], .agg #[y.re, y.im], .agg #[z.re, z.im], .agg #[a.re, a.im], .agg #[c.re, c.im]] w (.agg #[(joinG bits mo inv 0 u v y z a c).re, (joinG bits mo inv 0 u v y z a c).im, (joinG bits mo inv 1 u v y z a c).re, (joinG bits mo inv 1 u v y z a c).im, (joinG bits mo inv 2 u v y z a c).re, (joinG bits mo inv 2 u v y z a c).im, (joinG bits mo inv 3 u v y z a c).re, (joinG bits mo inv 3 u v y z a c).im]) :=by
 delta CW
 have hp := pow29 bits hb
 have la : ∀ x, Bd (2 ^ bits) x → Bd 1073741824 x := fun x hx => hx.mono (by omega)
 have hP : (2 : Int) ^ (bits + 1) = 2 * 2 ^ bits := by rw [Int.pow_succ]; omega
 have t1 := Bd.mul hy ha
 have t3 := Bd.mul hz hc
 have lt : 2 * (2147483648 * (2 : Int) ^ bits) ≤ 2305843009213693952 := by omega
 have t1' := t1.mono lt
 have t3' := t3.mono lt
 have hU := (Bd.scale hu (bits + 1)).mono (show 2147483648 * (2 : Int) ^ (bits + 1) ≤ 2305843009213693952 by omega)
 have hV := (Bd.scale hv (bits + 1)).mono (show 2147483648 * (2 : Int) ^ (bits + 1) ≤ 2305843009213693952 by omega)
 have hpp : Bd 4611686018427387904 (gadd (gmul y a) (gmul z c)) := (t1'.add t3').mono (by omega)
 have hd : Bd 4611686018427387904 (gsub (Gi.turn (turns1 inv 1) (gmul y a)) (Gi.turn (turns1 inv 1) (gmul z c))) := ((t1'.turn _).sub (t3'.turn _)).mono (by omega)
 have hG : Bd 1073741824 ⟨2 ^ (bits + 1), 0⟩ := Bd.mk (by simp only; omega)
 have eU : ∀ x, gmul x ⟨2 ^ (bits + 1), 0⟩ = gscale (bits + 1) x := fun x => by unfold gmul gscale; simp
 have HU := cxtimes_gi u ⟨2 ^ (bits + 1), 0⟩ hu.abs hG.abs
 have HV := cxtimes_gi v ⟨2 ^ (bits + 1), 0⟩ hv.abs hG.abs
 rw [eU] at HU HV
 have e := sJoined_of bits mo (2 ^ (bits + 1)) (turns1 inv 1) inv u v y z a c (gmul y a) (gmul z c) (gadd (gmul y a) (gmul z c)) (Gi.turn (turns1 inv 1) (gmul y a)) (Gi.turn (turns1 inv 1) (gmul z c)) _ (gscale (bits + 1) u) (gscale (bits + 1) v) _ _ _ _
  (by rw [Int.toNat_natCast, Nat.min_eq_left (by omega), hP]; exact IntWalk.i64_in _ ⟨by omega, by omega⟩) (by omega)
  (kh (cxtimes_gi y a hy.abs (la a ha).abs)) (kh (cxtimes_gi z c hz.abs (la c hc).abs)) (kh (cxsum_gi _ _ t1' t3')) (kh (sTurns_c bits mo inv))
  (kh (cxturn_gi _ _ (by have := t1'.le; omega))) (kh (cxturn_gi _ _ (by have := t3'.le; omega))) (kh (cxless_gi _ _ (t1'.turn _) (t3'.turn _))) (kh HU) (kh HV)
  (kh (sQuot_add bits mo inv _ _ hb m0 m1 hU hpp)) (kh (sQuot_add bits mo inv _ _ hb m0 m1 hV hd)) (kh (sQuot_sub bits mo inv _ _ hb m0 m1 hU hpp)) (kh (sQuot_sub bits mo inv _ _ hb m0 m1 hV hd)) w
 rw [turn_sub] at e
 exact e
theorem sHalved_c (bits : Nat) (mo : Int) (inv : Bool) (a b : Gi) (m0 : 0 ≤ mo) (m1 : mo ≤ 2) (ha : Bd 2147483648 a) (hb : Bd 2147483648 b) (w : World) :
 Calls Tryz.prog 178 #[.agg #[bits, mo, inv], .agg #[a.re, a.im], .agg #[b.re, b.im]] w fun e w' => ∃ v, e = .returned v ∧ CxsAt w' v [grnd 1 mo (gadd a b), grnd 1 mo (gsub a b)] ∧ Gr w w' := by
 have s := (ha.add hb).le
 have d := (ha.sub hb).le
 exact sHalved_of bits mo inv a b (gadd a b) (gsub a b) _ _ (kh (cxsum_gi a b (ha.mono (by omega)) (hb.mono (by omega)))) (kh (cxless_gi a b (ha.mono (by omega)) (hb.mono (by omega))))
  (kh (cxshift_gi _ 1 mo (by omega) (by omega) m0 m1)) (kh (cxshift_gi _ 1 mo (by omega) (by omega) m0 m1)) w
theorem getD_map (f : Nat → Gi) (m j : Nat) (hj : j < m) : ((List.range m).map f).getD j ⟨0, 0⟩ = f j := by
 rw [List.getD_eq_getElem?_getD, List.getElem?_map, List.getElem?_range hj]
 rfl
theorem list_getD (xs : List Gi) : xs = (List.range xs.length).map (fun j => xs.getD j ⟨0, 0⟩) := by
 apply List.ext_getElem?
 intro j
 by_cases h : j < xs.length
 ·rw [List.getElem?_map, List.getElem?_range h, Option.map_some, List.getD_eq_getElem?_getD, List.getElem?_eq_getElem h]; rfl
 ·rw [List.getElem?_eq_none (by omega), List.getElem?_eq_none (by simp; omega)]
def sL (bits : Nat) (mo : Int) (inv : Bool) (ws : List Gi) (l : Nat) (xs : List Gi) : List Gi := (List.range (2 ^ l)).map (spl bits mo inv (rootOf ws inv) ws.length l (fun j => xs.getD j ⟨0, 0⟩))
theorem sL_len (bits : Nat) (mo : Int) (inv : Bool) (ws : List Gi) (l : Nat) (xs : List Gi) : (sL bits mo inv ws l xs).length = 2 ^ l := by unfold sL; simp
theorem sL_at (bits : Nat) (mo : Int) (inv : Bool) (ws : List Gi) (l : Nat) (xs : List Gi) (j : Nat) (hj : j < 2 ^ l) : (sL bits mo inv ws l xs).getD j ⟨0, 0⟩ = spl bits mo inv (rootOf ws inv) ws.length l (fun j => xs.getD j ⟨0, 0⟩) j := getD_map _ _ _ hj
theorem sL_pick (bits : Nat) (mo : Int) (inv : Bool) (ws : List Gi) (l : Nat) (xs : List Gi) (F S : Nat) (j : Nat) (hj : j < 2 ^ l) :
 (sL bits mo inv ws l ((List.range (2 ^ l)).map (pick xs F S))).getD j ⟨0, 0⟩ = spl bits mo inv (rootOf ws inv) ws.length l (fun j => xs.getD (F + S * j) ⟨0, 0⟩) j := by
 rw [sL_at _ _ _ _ _ _ _ hj]
 exact spl_congr _ _ _ _ _ _ _ _ (fun i hi => getD_map _ _ _ hi) _ hj
theorem sL_two (bits : Nat) (mo : Int) (inv : Bool) (ws xs : List Gi) (k : Nat) :
 sL bits mo inv ws (k + 2) xs = (List.range (4 * 2 ^ k)).map (fun i => joinG bits mo inv (i / 2 ^ k)
  ((sL bits mo inv ws (k + 1) ((List.range (2 ^ (k + 1))).map (pick xs 0 2))).getD (i % 2 ^ k) ⟨0, 0⟩) ((sL bits mo inv ws (k + 1) ((List.range (2 ^ (k + 1))).map (pick xs 0 2))).getD (2 ^ k + i % 2 ^ k) ⟨0, 0⟩)
  ((sL bits mo inv ws k ((List.range (2 ^ k)).map (pick xs 1 4))).getD (i % 2 ^ k) ⟨0, 0⟩) ((sL bits mo inv ws k ((List.range (2 ^ k)).map (pick xs 3 4))).getD (i % 2 ^ k) ⟨0, 0⟩)
  (rootOf ws inv (i % 2 ^ k * (ws.length / 2 ^ (k + 2)))) (rootOf ws inv (3 * (i % 2 ^ k) * (ws.length / 2 ^ (k + 2))))) := by
 have e2 : 2 ^ (k + 2) = 4 * 2 ^ k := by rw [Nat.pow_succ, Nat.pow_succ]; omega
 unfold sL
 rw [e2]
 refine List.map_congr_left fun i hi => ?_
 obtain ⟨h1, h2, h3, h4⟩ := spl_places k i
 rw [spl_two, ← e2]
 have c0 := sL_pick bits mo inv ws (k + 1) xs 0 2 (i % 2 ^ k) (by omega)
 have c1 := sL_pick bits mo inv ws (k + 1) xs 0 2 (2 ^ k + i % 2 ^ k) h2
 have c2 := sL_pick bits mo inv ws k xs 1 4 (i % 2 ^ k) h1
 have c3 := sL_pick bits mo inv ws k xs 3 4 (i % 2 ^ k) h1
 unfold sL at c0 c1 c2 c3
 rw [c0, c1, c2, c3]
 simp only [Nat.zero_add, Nat.add_comm 1, Nat.add_comm 3]
theorem sTrans_0 (bits : Nat) (mo : Int) (inv : Bool) (pw px : Option Addr) (n cw cx : Nat) (xs : List Gi) (w : World) (hx : CxsAt w (.slice px 1 cx) xs) :
 Calls Tryz.prog 153 #[.agg #[bits, mo, inv], .slice px 1 cx, .slice pw n cw] w fun e w' => ∃ v, e = .returned v ∧ CxsAt w' v xs ∧ Gr w w' := by
 go_in
 go_wp2_with fail
 go_ret
 exact ⟨_, rfl, hx.gr ((Gr.refl w).alloc #[bits, mo, inv] 181), (Gr.refl w).alloc #[bits, mo, inv] 181⟩
theorem sTrans_1 (bits : Nat) (mo : Int) (inv : Bool) (pw : Option Addr) (b o n cw cx : Nat) (a c p q : Gi)
 (HH : Hid (∀ W, Calls Tryz.prog 178 #[.agg #[bits, mo, inv], .agg #[a.re, a.im], .agg #[c.re, c.im]] W fun e w' => ∃ v, e = .returned v ∧ CxsAt w' v [p, q] ∧ Gr W w')) (w : World) (hbw : b < w.heap.size)
 (k0 : w.cell? ⟨b, o, none⟩ = some (.int .i64 a.re)) (k1 : w.cell? ⟨b, o + 1, none⟩ = some (.int .i64 a.im)) (k2 : w.cell? ⟨b, o + 2, none⟩ = some (.int .i64 c.re)) (k3 : w.cell? ⟨b, o + 2 + 1, none⟩ = some (.int .i64 c.im)) :
 Calls Tryz.prog 153 #[.agg #[bits, mo, inv], .slice (some ⟨b, o, none⟩) 2 cx, .slice pw n cw] w fun e w' => ∃ v, e = .returned v ∧ CxsAt w' v [p, q] ∧ Gr w w' := by
 go_in
 go_wp2_with fail
 obtain ⟨u0, hU⟩ : ∃ uu, uu = (w.alloc (.cells #[bits, mo, inv] 181)) := ⟨_, rfl⟩
 have ⟨gu, R0⟩ := lay1 hU
 rw [← hU]
 clear hU
 have KS : ∀ W, Gr u0 W → (W.cell? ⟨w.heap.size, 0, none⟩ = some (.int .i64 bits) ∧ W.cell? ⟨w.heap.size, 1, none⟩ = some (.int .i64 mo) ∧ W.cell? ⟨w.heap.size, 2, none⟩ = some (.bool inv) ∧ W.cell? ⟨b, o, none⟩ = some (.int .i64 a.re) ∧ W.cell? ⟨b, o + 1, none⟩ = some (.int .i64 a.im) ∧ W.cell? ⟨b, o + 2, none⟩ = some (.int .i64 c.re) ∧ W.cell? ⟨b, o + 2 + 1, none⟩ = some (.int .i64 c.im)) := fun W hG =>
  ⟨(R0.gr hG).cell 0, (R0.gr hG).cell 1, (R0.gr hG).cell 2, ((gu.trans hG).cell (p := ⟨b, _, none⟩) hbw).trans k0, ((gu.trans hG).cell (p := ⟨b, _, none⟩) hbw).trans k1, ((gu.trans hG).cell (p := ⟨b, _, none⟩) hbw).trans k2, ((gu.trans hG).cell (p := ⟨b, _, none⟩) hbw).trans k3⟩
 clear k0 k1 k2 k3
 have hclG := gr_closed u0
 try simp only [List.append_eq, List.cons_append, List.nil_append]
 refine wp_region_grow (S := Gr u0) rfl (Gr.drew (Gr.refl _)) ?_
 refine gK 0 hclG KS ?_
 refine gT 1 hclG ?_
 refine gT 2 hclG ?_
 refine gK 3 hclG KS ?_
 refine gT 4 hclG ?_
 refine gT 5 hclG ?_
 refine gK 6 hclG KS ?_
 refine gR 7 fun w1 g1 s1 K hK => ?_
 go_simp
 refine (HH.out _).mono ?_
 rintro e w2 ⟨v, rfl, hv, g2⟩
 refine hK.out _ _ ?_ ?_
 ·exact s1.trans g2
 clear hK K
 try simp only [Act.put, putS]
 refine gT 8 hclG ?_
 refine wpG_done (by kernel_rfl) (fun w3 g3 => ?_) _
 go_wp2_with fail
 go_ret
 exact ⟨_, rfl, hv.gr g3, ((gu.trans s1).trans g2).trans g3⟩
theorem sTrans_2 (bits : Nat) (mo : Int) (inv : Bool) (pw : Option Addr) (b o n cw cx m h h2 : Nat) (xs ws EL FL GL RL : List Gi) (hl : xs.length = m) (hm : m = 4 * h) (hh2 : h2 = 2 * h) (h1 : 1 ≤ h) (hm64 : m ≤ 64)
 (lE : EL.length = h2) (lF : FL.length = h) (lG : GL.length = h)
 (HE : Hid (∀ px cx W, CxsAt W (.slice px h2 cx) ((List.range h2).map (pick xs 0 2)) → CxsAt W (.slice pw n cw) ws → Calls Tryz.prog 153 #[.agg #[bits, mo, inv], .slice px h2 cx, .slice pw n cw] W fun e w' => ∃ v, e = .returned v ∧ CxsAt w' v EL ∧ Gr W w'))
 (HF : Hid (∀ px cx W, CxsAt W (.slice px h cx) ((List.range h).map (pick xs 1 4)) → CxsAt W (.slice pw n cw) ws → Calls Tryz.prog 153 #[.agg #[bits, mo, inv], .slice px h cx, .slice pw n cw] W fun e w' => ∃ v, e = .returned v ∧ CxsAt w' v FL ∧ Gr W w'))
 (HG : Hid (∀ px cx W, CxsAt W (.slice px h cx) ((List.range h).map (pick xs 3 4)) → CxsAt W (.slice pw n cw) ws → Calls Tryz.prog 153 #[.agg #[bits, mo, inv], .slice px h cx, .slice pw n cw] W fun e w' => ∃ v, e = .returned v ∧ CxsAt w' v GL ∧ Gr W w'))
 (HJ : Hid (∀ pe ce pf cf pg cg W, CxsAt W (.slice pe h2 ce) EL → CxsAt W (.slice pf h cf) FL → CxsAt W (.slice pg h cg) GL → CxsAt W (.slice pw n cw) ws →
  Calls Tryz.prog 181 #[.agg #[bits, mo, inv], .slice pe h2 ce, .slice pf h cf, .slice pg h cg, .slice pw n cw] W fun e w' => ∃ v, e = .returned v ∧ CxsAt w' v RL ∧ Gr W w'))
 (w : World) (hbw : b < w.heap.size) (hC : ∀ j, j < m → w.cell? ⟨b, o + j * 2, none⟩ = some (.int .i64 (xs.getD j ⟨0, 0⟩).re) ∧ w.cell? ⟨b, o + j * 2 + 1, none⟩ = some (.int .i64 (xs.getD j ⟨0, 0⟩).im)) (VW : CxsAt w (.slice pw n cw) ws) :
 Calls Tryz.prog 153 #[.agg #[bits, mo, inv], .slice (some ⟨b, o, none⟩) m cx, .slice pw n cw] w fun e w' => ∃ v, e = .returned v ∧ CxsAt w' v RL ∧ Gr w w' := by
 have HOP := kh fun (F S : Int) => ofPlaces_c (some ⟨b, o, none⟩) m cx F S
 have HLI := kh fun (Bf Bx Bs F S cnt : Nat) (hS1 : 1 ≤ S) (hS : S ≤ 4) (hN : (∀ q, F + S * q < m ↔ q < cnt) ∧ cnt ≤ 32 ∧ F + S * cnt ≤ 200) (W : World) (bf : Boxed W Bf 3 (.int .i64 F)) (bx : Boxed W Bx 25 (.slice (some ⟨b, o, none⟩) m cx)) (bs : Boxed W Bs 3 (.int .i64 S)) (g : Gr w W) =>
  listed_c Bf Bx Bs b o m cx F S cnt xs hl hm64 hS1 (by omega) hN.1 hN.2.1 hN.2.2 W bf bx bs (Nat.lt_of_lt_of_le hbw g.size) (fun j hj => ⟨(g.cell (p := ⟨b, _, none⟩) hbw).trans (hC j hj).1, (g.cell (p := ⟨b, _, none⟩) hbw).trans (hC j hj).2⟩)
 have n0 : (∀ q, 0 + 2 * q < m ↔ q < h2) ∧ h2 ≤ 32 ∧ 0 + 2 * h2 ≤ 200 := ⟨fun q => by omega, by omega, by omega⟩
 have n1 : (∀ q, 1 + 4 * q < m ↔ q < h) ∧ h ≤ 32 ∧ 1 + 4 * h ≤ 200 := ⟨fun q => by omega, by omega, by omega⟩
 have n3 : (∀ q, 3 + 4 * q < m ↔ q < h) ∧ h ≤ 32 ∧ 3 + 4 * h ≤ 200 := ⟨fun q => by omega, by omega, by omega⟩
 have HN0 := kh n0
 have HN1 := kh n1
 have HN3 := kh n3
 have hm1 : ¬ (m : Int) = 1 := by omega
 have hm2 : ¬ (m : Int) = 2 := by omega
 have hm1' : ¬ m = 1 := by omega
 have hm2' : ¬ m = 2 := by omega
 clear n0 n1 n3 hC hl hm hh2
 go_in
 go_wp2_with fail
 obtain ⟨u0, hU⟩ : ∃ uu, uu = (w.alloc (.cells #[bits, mo, inv] 181)) := ⟨_, rfl⟩
 have ⟨Z, RR0⟩ := lay1 hU
 rw [← hU]
 clear hU
 have R := RR0
 replace VW := VW.gr Z
 clear RR0
 have KS := fun W (hG : Gr u0 W) => (R.gr hG).t3
 have hclG := gr_closed u0
 try simp only [List.append_eq, List.cons_append, List.nil_append]
 refine wp_region_grow (S := Gr u0) rfl (Gr.drew (Gr.refl _)) ?_
 refine gK 0 hclG KS ?_
 refine gT 1 hclG ?_
 refine gT 4 hclG ?_
 refine gR 2 fun w1a g1a s1a K hK => ?_
 go_simp
 refine (HOP.out 0 2 _).mono ?_
 rintro e w2a ⟨rfl, hw2⟩
 have bxa := ((Boxed.new w1a 25 (.slice (some ⟨b, o, none⟩) m cx)).alloc (.cells #[.int .i64 0] 3)).alloc (.cells #[.int .i64 2] 3)
 have bfa := (Boxed.new (w1a.alloc (.cells #[.slice (some ⟨b, o, none⟩) m cx] 25)) 3 (.int .i64 0)).alloc (.cells #[.int .i64 2] 3)
 have bsa := Boxed.new ((w1a.alloc (.cells #[.slice (some ⟨b, o, none⟩) m cx] 25)).alloc (.cells #[.int .i64 0] 3)) 3 (.int .i64 2)
 have gAa := (((Gr.refl w1a).alloc #[.slice (some ⟨b, o, none⟩) m cx] 25).alloc #[.int .i64 0] 3).alloc #[.int .i64 2] 3
 simp only [World.size_alloc] at bxa bfa bsa
 rw [← hw2] at bxa bfa bsa gAa
 clear hw2
 refine hK.out _ _ ?_ ?_
 ·exact s1a.trans gAa
 clear hK K
 try simp only [Act.put, putS]
 refine gR 3 fun w3a g3a s3a K hK => ?_
 go_simp
 have gBa := Z.trans s3a
 refine (HLI.out (w1a.heap.size + 1) w1a.heap.size (w1a.heap.size + 1 + 1) 0 2 h2 (by omega) (by omega) HN0.out w3a ((g3a.block bfa.lt).trans bfa) ((g3a.block bxa.lt).trans bxa) ((g3a.block bsa.lt).trans bsa) gBa).mono ?_
 rintro e w4a ⟨v4a, rfl, hv4a, g4a⟩
 obtain ⟨pea, cea, hvea⟩ := hv4a.len
 rw [List.length_map, List.length_range] at hvea
 subst hvea
 refine hK.out _ _ ?_ ?_
 ·exact s3a.trans g4a
 clear hK K
 try simp only [Act.put, putS]
 refine gR 5 fun w5a g5a s5a K hK => ?_
 go_simp
 refine (HE.out _ _ w5a (hv4a.gr g5a) (VW.gr s5a)).mono ?_
 rintro e w6a ⟨v6a, rfl, WE', g6a⟩
 refine hK.out _ _ ?_ ?_
 ·exact s5a.trans g6a
 clear hK K
 try simp only [Act.put, putS]
 refine gT 6 hclG ?_
 refine wpG_done (by kernel_rfl) (fun w7a g7a => ?_) _
 have gCa := (s5a.trans g6a).trans g7a
 replace WE' := WE'.gr g7a
 replace R := R.gr gCa
 replace VW := VW.gr gCa
 replace Z := Z.trans gCa
 clear KS hclG gCa g7a g6a s5a g5a hv4a g4a s3a g3a gBa gAa bxa bfa bsa s1a g1a
 obtain ⟨pE, cE, hvE⟩ := WE'.len
 rw [lE] at hvE
 subst hvE
 have WE := WE'
 clear WE'
 go_wp2_with fail
 have KS := fun W (hG : Gr w7a W) => (R.gr hG).t3
 have hclG := gr_closed w7a
 try simp only [List.append_eq, List.cons_append, List.nil_append]
 refine wp_region_grow (S := Gr w7a) rfl (Gr.drew (Gr.refl _)) ?_
 refine gK 0 hclG KS ?_
 refine gT 1 hclG ?_
 refine gT 4 hclG ?_
 refine gR 2 fun w1b g1b s1b K hK => ?_
 go_simp
 refine (HOP.out 1 4 _).mono ?_
 rintro e w2b ⟨rfl, hw2⟩
 have bxb := ((Boxed.new w1b 25 (.slice (some ⟨b, o, none⟩) m cx)).alloc (.cells #[.int .i64 1] 3)).alloc (.cells #[.int .i64 4] 3)
 have bfb := (Boxed.new (w1b.alloc (.cells #[.slice (some ⟨b, o, none⟩) m cx] 25)) 3 (.int .i64 1)).alloc (.cells #[.int .i64 4] 3)
 have bsb := Boxed.new ((w1b.alloc (.cells #[.slice (some ⟨b, o, none⟩) m cx] 25)).alloc (.cells #[.int .i64 1] 3)) 3 (.int .i64 4)
 have gAb := (((Gr.refl w1b).alloc #[.slice (some ⟨b, o, none⟩) m cx] 25).alloc #[.int .i64 1] 3).alloc #[.int .i64 4] 3
 simp only [World.size_alloc] at bxb bfb bsb
 rw [← hw2] at bxb bfb bsb gAb
 clear hw2
 refine hK.out _ _ ?_ ?_
 ·exact s1b.trans gAb
 clear hK K
 try simp only [Act.put, putS]
 refine gR 3 fun w3b g3b s3b K hK => ?_
 go_simp
 have gBb := Z.trans s3b
 refine (HLI.out (w1b.heap.size + 1) w1b.heap.size (w1b.heap.size + 1 + 1) 1 4 h (by omega) (by omega) HN1.out w3b ((g3b.block bfb.lt).trans bfb) ((g3b.block bxb.lt).trans bxb) ((g3b.block bsb.lt).trans bsb) gBb).mono ?_
 rintro e w4b ⟨v4b, rfl, hv4b, g4b⟩
 obtain ⟨peb, ceb, hveb⟩ := hv4b.len
 rw [List.length_map, List.length_range] at hveb
 subst hveb
 refine hK.out _ _ ?_ ?_
 ·exact s3b.trans g4b
 clear hK K
 try simp only [Act.put, putS]
 refine gR 5 fun w5b g5b s5b K hK => ?_
 go_simp
 refine (HF.out _ _ w5b (hv4b.gr g5b) (VW.gr s5b)).mono ?_
 rintro e w6b ⟨v6b, rfl, WF', g6b⟩
 refine hK.out _ _ ?_ ?_
 ·exact s5b.trans g6b
 clear hK K
 try simp only [Act.put, putS]
 refine gT 6 hclG ?_
 refine wpG_done (by kernel_rfl) (fun w7b g7b => ?_) _
 have gCb := (s5b.trans g6b).trans g7b
 replace WF' := WF'.gr g7b
 replace R := R.gr gCb
 replace VW := VW.gr gCb
 replace Z := Z.trans gCb
 replace WE := WE.gr gCb
 clear KS hclG gCb g7b g6b s5b g5b hv4b g4b s3b g3b gBb gAb bxb bfb bsb s1b g1b
 obtain ⟨pF, cF, hvF⟩ := WF'.len
 rw [lF] at hvF
 subst hvF
 have WF := WF'
 clear WF'
 go_wp2_with fail
 have KS := fun W (hG : Gr w7b W) => (R.gr hG).t3
 have hclG := gr_closed w7b
 try simp only [List.append_eq, List.cons_append, List.nil_append]
 refine wp_region_grow (S := Gr w7b) rfl (Gr.drew (Gr.refl _)) ?_
 refine gK 0 hclG KS ?_
 refine gT 1 hclG ?_
 refine gT 4 hclG ?_
 refine gR 2 fun w1c g1c s1c K hK => ?_
 go_simp
 refine (HOP.out 3 4 _).mono ?_
 rintro e w2c ⟨rfl, hw2⟩
 have bxc := ((Boxed.new w1c 25 (.slice (some ⟨b, o, none⟩) m cx)).alloc (.cells #[.int .i64 3] 3)).alloc (.cells #[.int .i64 4] 3)
 have bfc := (Boxed.new (w1c.alloc (.cells #[.slice (some ⟨b, o, none⟩) m cx] 25)) 3 (.int .i64 3)).alloc (.cells #[.int .i64 4] 3)
 have bsc := Boxed.new ((w1c.alloc (.cells #[.slice (some ⟨b, o, none⟩) m cx] 25)).alloc (.cells #[.int .i64 3] 3)) 3 (.int .i64 4)
 have gAc := (((Gr.refl w1c).alloc #[.slice (some ⟨b, o, none⟩) m cx] 25).alloc #[.int .i64 3] 3).alloc #[.int .i64 4] 3
 simp only [World.size_alloc] at bxc bfc bsc
 rw [← hw2] at bxc bfc bsc gAc
 clear hw2
 refine hK.out _ _ ?_ ?_
 ·exact s1c.trans gAc
 clear hK K
 try simp only [Act.put, putS]
 refine gR 3 fun w3c g3c s3c K hK => ?_
 go_simp
 have gBc := Z.trans s3c
 refine (HLI.out (w1c.heap.size + 1) w1c.heap.size (w1c.heap.size + 1 + 1) 3 4 h (by omega) (by omega) HN3.out w3c ((g3c.block bfc.lt).trans bfc) ((g3c.block bxc.lt).trans bxc) ((g3c.block bsc.lt).trans bsc) gBc).mono ?_
 rintro e w4c ⟨v4c, rfl, hv4c, g4c⟩
 obtain ⟨pec, cec, hvec⟩ := hv4c.len
 rw [List.length_map, List.length_range] at hvec
 subst hvec
 refine hK.out _ _ ?_ ?_
 ·exact s3c.trans g4c
 clear hK K
 try simp only [Act.put, putS]
 refine gR 5 fun w5c g5c s5c K hK => ?_
 go_simp
 refine (HG.out _ _ w5c (hv4c.gr g5c) (VW.gr s5c)).mono ?_
 rintro e w6c ⟨v6c, rfl, WG', g6c⟩
 refine hK.out _ _ ?_ ?_
 ·exact s5c.trans g6c
 clear hK K
 try simp only [Act.put, putS]
 refine gT 6 hclG ?_
 refine wpG_done (by kernel_rfl) (fun w7c g7c => ?_) _
 have gCc := (s5c.trans g6c).trans g7c
 replace WG' := WG'.gr g7c
 replace R := R.gr gCc
 replace VW := VW.gr gCc
 replace Z := Z.trans gCc
 replace WE := WE.gr gCc
 replace WF := WF.gr gCc
 clear KS hclG gCc g7c g6c s5c g5c hv4c g4c s3c g3c gBc gAc bxc bfc bsc s1c g1c
 obtain ⟨pG, cG, hvG⟩ := WG'.len
 rw [lG] at hvG
 subst hvG
 have WG := WG'
 clear WG'
 obtain ⟨c0, c1, c2⟩ := R.t3
 go_wp2_with fail
 refine (HJ.out _ _ _ _ _ _ _ WE WF WG VW).mono ?_
 rintro e w8 ⟨v8, rfl, hv8, g8⟩
 go_wp2_with fail
 go_ret
 exact ⟨_, rfl, hv8, Z.trans g8⟩
end
section
open Go.ChangeShapes Go.WideShapes Go.ChangeAt Go.RowKit
set_option linter.unusedVariables false
set_option maxRecDepth 100000
set_option maxHeartbeats 16000000
def offG (p : Int) (a : Gi) : Bool := (clampI p a.re != a.re) || (clampI p a.im != a.im)
def atFirst (sc p : Int) (xs : List Gi) : Int := if sc = 0 then 1 else if sc = 1 then -(room p (maxG xs) : Int) else 0
def readyB (ke sc mo p : Int) (L : Nat) (xs : List Gi) : BV := ⟨(if ke = 2 then xs else flipL L xs).map (shG (atFirst sc p xs) mo), atFirst sc p xs, false, []⟩
def nextB (sc mo p : Int) (iv : Bool) (B : Nat) (ws : List Gi) (b : BV) (q : Gi) : BV :=
 ⟨if sc = 2 then (stepV sc p B mo iv ws b.X q).map (clampG p) else stepV sc p B mo iv ws b.X q, b.ex + shOf sc q.re p b.X, if sc = 2 then b.sat || (stepV sc p B mo iv ws b.X q).any (offG p) else b.sat, b.sh ++ [shOf sc q.re p b.X]⟩
def behindB (ke lo sc mo p : Int) (iv : Bool) (L B : Nat) (ws xs : List Gi) (j : Nat) : BV := ((passL ke lo).take j).foldl (nextB sc mo p iv B ws) (readyB ke sc mo p L xs)
def runB15 (ke lo sc mo p : Int) (iv : Bool) (L B : Nat) (ws xs : List Gi) : BV :=
 if ke = 2 then ⟨sL B mo iv ws L (readyB ke sc mo p L xs).X, 1 + lo, false, []⟩ else behindB ke lo sc mo p iv L B ws xs (passL ke lo).length
theorem behindB_next {ke lo sc mo p : Int} {iv : Bool} {L B : Nat} {ws xs : List Gi} {j : Nat} {q : Gi} (h : (passL ke lo)[j]? = some q) :
 behindB ke lo sc mo p iv L B ws xs (j + 1) = nextB sc mo p iv B ws (behindB ke lo sc mo p iv L B ws xs j) q := by
 unfold behindB
 rw [take_snoc h, List.foldl_append]
 rfl
theorem clampI_in (p x : Int) (hp : 1 ≤ p) : -p ≤ clampI p x ∧ clampI p x ≤ p - 1 := by unfold clampI; repeat' split <;> omega
theorem offG_no {p : Int} {a : Gi} : offG p a = false ↔ clampG p a = a := by
 obtain ⟨x, y⟩ := a
 simp [offG, clampG]
theorem any_off {p : Int} {ys : List Gi} : ys.any (offG p) = false ↔ ys.map (clampG p) = ys := by
 induction ys with
 | nil => simp
 | cons y ys ih => rw [List.any_cons, Bool.or_eq_false_iff, ih, offG_no, List.map_cons, List.cons.injEq]
theorem allIn_parts {l : Int} {xs : List Gi} : allIn l xs = true ↔ ∀ a ∈ xs, (-l ≤ a.re ∧ a.re ≤ l) ∧ (-l ≤ a.im ∧ a.im ≤ l) := by
 unfold allIn
 rw [List.all_eq_true]
 simp only [Bool.and_eq_true, inB_iff]
theorem allIn_more {l l' : Int} {xs : List Gi} (h : allIn l xs = true) (hl : l ≤ l') : allIn l' xs = true := by
 rw [allIn_parts] at h ⊢
 intro a ha
 have := h a ha
 omega
theorem bd_iff {l : Int} {a : Gi} : Bd l a ↔ (-l ≤ a.re ∧ a.re ≤ l) ∧ (-l ≤ a.im ∧ a.im ≤ l) := by
 unfold Bd absI
 constructor
 ·rintro ⟨h1, h2⟩
  split at h1 <;> split at h2 <;> omega
 ·rintro ⟨h1, h2⟩
  constructor <;> split <;> omega
theorem allIn_bd {l : Int} {xs : List Gi} : allIn l xs = true ↔ ∀ a ∈ xs, Bd l a := by
 rw [allIn_parts]
 constructor
 ·exact fun h a ha => bd_iff.2 (h a ha)
 ·exact fun h a ha => bd_iff.1 (h a ha)
def ManB (p : Int) (xs : List Gi) : Prop := ∀ a ∈ xs, (-p ≤ a.re ∧ a.re ≤ p - 1) ∧ (-p ≤ a.im ∧ a.im ≤ p - 1)
theorem ManB.all {p : Int} {xs : List Gi} (h : ManB p xs) : allIn p xs = true := by
 rw [allIn_parts]
 intro a ha
 have := h a ha
 omega
theorem manB_iff {p : Int} {xs : List Gi} : partsB (-p) (p - 1) xs = true ↔ ManB p xs := by
 unfold partsB partIn ManB
 rw [List.all_eq_true]
 simp only [decide_eq_true_eq]
theorem manB_clamp {p : Int} (hp : 1 ≤ p) (xs : List Gi) : ManB p (xs.map (clampG p)) := by
 intro a ha
 obtain ⟨x, _, rfl⟩ := List.mem_map.1 ha
 exact ⟨clampI_in p x.re hp, clampI_in p x.im hp⟩
end
section
open Go.ChangeShapes Go.WideShapes Go.ChangeAt Go.RowKit
set_option linter.unusedVariables false
set_option linter.unusedSimpArgs false
set_option maxRecDepth 100000
set_option maxHeartbeats 16000000
theorem ftWithin_c (v : Value) (xs : List Gi) (l h : Int) (w : World) (hv : CxsAt w v xs) :
 CW 147 #[l, h, v] w (.bool (partsB l h xs)) :=by
 delta CW
 by_cases hx0 : xs = []
 ·subst hx0
  obtain ⟨p, cap, rfl⟩ := hv.len;rw [show ([] : List Gi).length = 0 from rfl];clear hv;go_in;go_wp2_with fail
  go_loopw [11] (fun i wr => i = .int .i64 0 ∧ Gr w wr) (fun i _ => 0 - (intOf i).toNat)
  case atStart => exact ⟨rfl, Gr.refl _⟩
  case round =>
   obtain ⟨rfl, hg⟩ := hrel;go_wp2_with fail
   go_ret
   exact ⟨rfl, hg⟩
 ·obtain ⟨b, o, cap, rfl, hlen, hb, hc⟩ := hv.at hx0
  have HC := kh hc;clear hc hv hx0;go_in;go_wp2_with fail
  go_loopw [11] (fun i wr => ∃ k : Nat, k ≤ xs.length ∧ i = .int .i64 k ∧ partsB l h (xs.take k) = true ∧ Gr w wr) (fun i _ => xs.length - (intOf i).toNat)
  case atStart => exact ⟨0, Nat.zero_le _, rfl, rfl, Gr.refl _⟩
  case round =>
   obtain ⟨k, hk, rfl, hp, hg⟩ := hrel
   by_cases hlt : k < xs.length
   ·obtain ⟨x, hx⟩ := get_of_lt hlt
    have h1 := (hg.cell (p := ⟨b, o + k * 2, none⟩) hb).trans (HC.out k x hx).1;have h2 := (hg.cell (p := ⟨b, o + k * 2 + 1, none⟩) hb).trans (HC.out k x hx).2
    have hlI : (k : Int) < (xs.length : Int) := by omega
    obtain ⟨re, im⟩ := x
    simp only at h1 h2
    rcases Int.lt_trichotomy re im with a | a | a
    ·have a2 : ¬ im < re := by omega
     by_cases q1 : re < l
     ·have hb : partIn l h (Gi.mk re im) = false := by simp only [partIn]; simp; omega
      go_wp2_with fail
      go_ret
      exact ⟨by rw [partsB_no hx hb]; rfl, hg.alloc _ _⟩
     ·by_cases q2 : h < im
      ·have hb : partIn l h (Gi.mk re im) = false := by simp only [partIn]; simp; omega
       go_wp2_with fail
       go_ret
       exact ⟨by rw [partsB_no hx hb]; rfl, hg.alloc _ _⟩
      ·have hs := kh (partsB_snoc hx hp (show partIn l h (Gi.mk re im) = true by simp only [partIn]; simp; omega))
       go_wp2_with fail
       go_roundw
       case rel => exact ⟨k + 1, by omega, by go_num, hs.out, hg.alloc _ _⟩
       case measure => simp [intOf]; omega
    ·have a2 : ¬ im < re := by omega
     have a3 : ¬ re < im := by omega
     by_cases q1 : re < l
     ·have hb : partIn l h (Gi.mk re im) = false := by simp only [partIn]; simp; omega
      go_wp2_with fail
      go_ret
      exact ⟨by rw [partsB_no hx hb]; rfl, hg.alloc _ _⟩
     ·by_cases q2 : h < re
      ·have hb : partIn l h (Gi.mk re im) = false := by simp only [partIn]; simp; omega
       go_wp2_with fail
       go_ret
       exact ⟨by rw [partsB_no hx hb]; rfl, hg.alloc _ _⟩
      ·have hs := kh (partsB_snoc hx hp (show partIn l h (Gi.mk re im) = true by simp only [partIn]; simp; omega))
       go_wp2_with fail
       go_roundw
       case rel => exact ⟨k + 1, by omega, by go_num, hs.out, hg.alloc _ _⟩
       case measure => simp [intOf]; omega
    ·have a3 : ¬ re < im := by omega
     by_cases q1 : im < l
     ·have hb : partIn l h (Gi.mk re im) = false := by simp only [partIn]; simp; omega
      go_wp2_with fail
      go_ret
      exact ⟨by rw [partsB_no hx hb]; rfl, hg.alloc _ _⟩
     ·by_cases q2 : h < re
      ·have hb : partIn l h (Gi.mk re im) = false := by simp only [partIn]; simp; omega
       go_wp2_with fail
       go_ret
       exact ⟨by rw [partsB_no hx hb]; rfl, hg.alloc _ _⟩
      ·have hs := kh (partsB_snoc hx hp (show partIn l h (Gi.mk re im) = true by simp only [partIn]; simp; omega))
       go_wp2_with fail
       go_roundw
       case rel => exact ⟨k + 1, by omega, by go_num, hs.out, hg.alloc _ _⟩
       case measure => simp [intOf]; omega
   ·obtain rfl : k = xs.length := by omega
    have hlI : ¬ (xs.length : Int) < (xs.length : Int) := by omega
    rw [List.take_length] at hp;go_wp2_with fail
    go_ret
    exact ⟨by first | rfl | (rw [hp]; rfl) | simp, hg⟩
theorem ftFitted_2 (fo p : Int) (v : Value) (xs : List Gi) (hl : xs.length ≤ 1048576) (HC : Hid (∀ x W, Calls Tryz.prog 23 #[.int .i64 x, fo] W fun e w' => e = .returned (.tuple #[.int .i64 (clampI p x), .bool (clampI p x != x), .int .i64 0]) ∧ Gr W w')) (w : World) (hv : CxsAt w v xs) :
 Calls Tryz.prog 265 #[.agg #[fo], v] w fun e w' => ∃ v', e = .returned (.tuple #[v', (xs.any (offG p))]) ∧ CxsAt w' v' (xs.map (clampG p)) ∧ Gr w w' := by
 have hmk := run_make_cx xs.length hl
 by_cases hx : xs = []
 ·subst hx
  obtain ⟨q, cap, rfl⟩ := hv.len;rw [show ([] : List Gi).length = 0 from rfl];clear hmk
  have hmk : ∀ W : World, (Instr.makeSlice 25 (.int .i64 0) (.int .i64 0)).run Tryz.prog W = .ok (.slice (some ⟨W.heap.size, 0, none⟩) 0 0) (W.alloc (.cells (madeCells #[.int .i64 0, .int .i64 0] (0 * 2)) 50)) := run_make_cx 0 (by omega)
  clear hv;go_in;go_wp2_with fail;refine wp_loop_rounds 1 ?_;rw [rounds_succ];go_wp2_with fail
  go_ret2
  exact ⟨_, rfl, ⟨_, 0, rfl, Nat.le_refl _, Nat.zero_le _, fun h => absurd rfl h⟩, ((Gr.refl _).alloc _ _).alloc _ _⟩
 ·obtain ⟨b, o, cap, rfl, hlen, hbb, hc⟩ := hv.at hx
  have HXC := kh hc;clear hc hv hx;go_in;go_wp2_with fail;have B0 := (CellsAt.new w 179 #[fo]).alloc (.cells (madeCells #[.int .i64 0, .int .i64 0] (xs.length * 2)) 50);have M0 := CellsAt.new (w.alloc (.cells #[fo] 179)) 50 (madeCells #[.int .i64 0, .int .i64 0] (xs.length * 2));have M1 := size_madeCells #[.int .i64 0, .int .i64 0] (xs.length * 2);rw [World.size_alloc] at M0
  go_loopw [7, 8, 10, 11, 12, 13, 14, 15, 21] (fun cl _ _ _ _ _ _ _ i wr => ∃ k : Nat, ∃ c : Array Value, k ≤ xs.length ∧ i = .int .i64 k ∧ cl = .bool ((xs.take k).any (offG p)) ∧ CellsAt wr (w.heap.size + 1) 50 c ∧ c.size = xs.length * 2 ∧ (∀ j x, j < k → xs[j]? = some x → c[j * 2]? = some (.int .i64 (clampG p x).re) ∧ c[j * 2 + 1]? = some (.int .i64 (clampG p x).im)) ∧ CellsAt wr w.heap.size 179 #[fo] ∧ Gr w wr) (fun _ _ _ _ _ _ _ _ i _ => xs.length - (intOf i).toNat)
  case atStart => exact ⟨0, _, by omega, rfl, rfl, M0, M1, fun j x hj => absurd hj (Nat.not_lt_zero _), B0, ((Gr.refl _).alloc _ _).alloc _ _⟩
  case round =>
   clear M0 M1 hmk B0;obtain ⟨k, c, hk, rfl, rfl, hC, hsz, hj, hB, hg⟩ := hrel
   by_cases hlt : k < xs.length
   ·obtain ⟨x, hx⟩ := get_of_lt hlt
    have h1 := (hg.cell (p := ⟨b, o + k * 2, none⟩) hbb).trans (HXC.out k x hx).1;have h2 := (hg.cell (p := ⟨b, o + k * 2 + 1, none⟩) hbb).trans (HXC.out k x hx).2
    have hbl : b < wr.heap.size := Nat.lt_of_lt_of_le hbb hg.size
    have hkI : (k : Int) < (xs.length : Int) := by omega
    have HA := kh (show (xs.take (k + 1)).any (offG p) = ((xs.take k).any (offG p) || offG p x) by rw [take_snoc hx, List.any_append, List.any_cons, List.any_nil, Bool.or_false]);have HS := kh hsz;have HJ := kh hj;have HXK := kh hx;have HC1 := kh fun W => HC.out x.re W
    have HC2 := kh fun W => HC.out x.im W
    clear hx hsz hj HC HXC;generalize hca : (xs.take k).any (offG p) = ca at *;obtain ⟨re, im⟩ := x;have HO := kh (show offG p ⟨re, im⟩ = ((clampI p re != re) || (clampI p im != im)) from rfl);have HG := kh (show clampG p ⟨re, im⟩ = ⟨clampI p re, clampI p im⟩ from rfl)
    simp only at h1 h2 HC1 HC2
    generalize clampI p re = r0 at *;generalize clampI p im = r1 at *;generalize (r0 != re) = b0 at *;generalize (r1 != im) = b1 at *;have hBl := hB.lt;have hCl := hC.lt;have cb := hB.cell 0;simp only [List.getElem?_toArray, List.getElem?_cons_zero] at cb;clear hca;go_wp2_with fail;have hA1 := CellsAt.new wr 50 #[re, im];have gA := (Gr.refl wr).alloc #[re, im] 50;refine (HC1.out _).mono ?_;rintro e w2 ⟨rfl, g2⟩;have hA2 := hA1.gr g2;have gA2 := gA.trans g2;have hB2 := hB.gr gA2;have cb := hB2.at 0;have ca1 := hA2.at 1;clear hA1 gA g2 HC1;go_wp2_with fail;refine (HC2.out _).mono ?_;rintro e w3 ⟨rfl, g3⟩;have gA3 := gA2.trans g3;have hC3 := hC.gr gA3;have hB3 := hB.gr gA3;have hg3 := hg.trans gA3;have f2 := hC3.frozen (k * 2);have f3 := hC3.frozen (k * 2 + 1);have q2 := hC3.cell (k * 2);have q3 := hC3.cell (k * 2 + 1);rw [Array.getElem?_eq_getElem (show k * 2 < c.size by rw [HS.out]; omega)] at q2;rw [Array.getElem?_eq_getElem (show k * 2 + 1 < c.size by rw [HS.out]; omega)] at q3;have hCl3 := hC3.lt;have hgs := hg3.size;clear cb ca1 hA2 gA2 hB2 g3 gA3 HC2 hB hC hg
    cases ca <;> cases b0 <;> cases b1
    all_goals
     go_wp2_with fail;have hC4 := (hC3.set (k * 2) (.int .i64 r0)).set (k * 2 + 1) (.int .i64 r1);have hB4 := (hB3.other (B' := w.heap.size + 1) (by omega) (k * 2) (.int .i64 r0)).other (B' := w.heap.size + 1) (by omega) (k * 2 + 1) (.int .i64 r1);have hg4 := (hg3.setCell (a := ⟨w.heap.size + 1, k * 2, none⟩) (by simp) (.int .i64 r0)).setCell (a := ⟨w.heap.size + 1, k * 2 + 1, none⟩) (by simp) (.int .i64 r1)
     go_roundw
     case rel =>
      refine ⟨k + 1, _, by omega, by go_num, by rw [HA.out, HO.out]; rfl, hC4, by simpa using HS.out, fun j y hj hy => ?_, hB4, hg4⟩
      by_cases e : j = k
      ·subst e
       rw [HXK.out] at hy
       obtain rfl := Option.some.inj hy
       rw [HG.out]
       constructor
       ·rw [Array.getElem?_setIfInBounds, if_neg (by omega), Array.getElem?_setIfInBounds, if_pos rfl, if_pos (by rw [HS.out]; omega)]
       ·rw [Array.getElem?_setIfInBounds, if_pos rfl, if_pos (by simp only [Array.size_setIfInBounds]; rw [HS.out]; omega)]
      ·have := HJ.out j y (by omega) hy
       constructor
       ·rw [Array.getElem?_setIfInBounds, if_neg (by omega), Array.getElem?_setIfInBounds, if_neg (by omega)]
        exact this.1
       ·rw [Array.getElem?_setIfInBounds, if_neg (by omega), Array.getElem?_setIfInBounds, if_neg (by omega)]
        exact this.2
     case measure => simp [intOf]; omega
   ·obtain rfl : k = xs.length := by omega
    have hkI : ¬ (xs.length : Int) < (xs.length : Int) := by omega
    rw [List.take_length]
    have hlen4 : (xs.map (clampG p)).length = xs.length := by simp
    go_wp2_with fail
    go_ret2
    refine ⟨.slice (some ⟨w.heap.size + 1, 0, none⟩) xs.length xs.length, rfl, ⟨some ⟨w.heap.size + 1, 0, none⟩, xs.length, by rw [List.length_map], by rw [List.length_map]; omega, by unfold maxLen; omega, fun _ => ⟨w.heap.size + 1, 0, rfl, hC.lt, fun j x hx => ?_⟩⟩, hg⟩;rw [List.getElem?_map] at hx;obtain ⟨x', hx', rfl⟩ := Option.map_eq_some_iff.1 hx;have hjl := (List.getElem?_eq_some_iff.1 hx').1
    have := hj j x' hjl hx'
    rw [hC.cell, hC.cell, Nat.zero_add]
    exact this
end
end Go.Proofs.YtdignnmpfkgkoaaGreat
