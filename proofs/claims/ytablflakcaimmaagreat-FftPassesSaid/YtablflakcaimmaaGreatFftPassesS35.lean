import Derived.Test.YtablflakcaimmaaGreatFftPassesS33
import Derived.Test.YtablflakcaimmaaGreatFftPassesS34
namespace Go.Proofs.YtablflakcaimmaaGreat
section
open Go.ChangeShapes Go.WideShapes Go.ChangeAt Go.RowKit
set_option linter.unusedVariables false
set_option linter.unusedSimpArgs false
set_option maxRecDepth 100000
theorem len_start (a : Gi) (l R : Int) (h : 2 * (l * l) ≤ R * R) (hl : 0 ≤ l) (ha : absI a.re ≤ l ∧ absI a.im ≤ l) : Len R a := by
 unfold Len
 have key : ∀ x, absI x ≤ l → x * x ≤ l * l := by
  intro x hx
  have := Int.mul_le_mul hx hx (absI_nonneg x) hl
  refine Int.le_trans (Int.le_of_eq ?_) this
  unfold absI
  split
  ·rw [Int.neg_mul_neg]
  ·rfl
 have h1 := key _ ha.1
 have h2 := key _ ha.2
 omega
set_option maxHeartbeats 2000000 in
theorem sRun_ok_15 (px : Option Addr) (cx n L : Nat) (mo : Int) (inv : Bool) (xs : List Gi) (hl : xs.length = n) (hL : IsLog (n : Int) L) (m0 : 0 ≤ mo) (m1 : mo ≤ 2) (hx : allIn 16384 xs = true) (w : World) (vx : CxsAt w (.slice px n cx) xs) :
 Calls Tryz.prog 58 #[.slice px n cx, .int .i64 0, .int .i64 mo, .bool inv] w fun e w' => ∃ v, e = .returned (.tuple #[v, .int .i64 0]) ∧ CxsAt w' v (sL 13 mo inv (rootsL n (56 - 13)) L xs) ∧ Gr w w' := by
 have HL := Lib.hid (log08_yes n L hL)
 have HB := Lib.hid (bits_c 0 15 32768 (by unfold FB; omega))
 have HM := Lib.hid (sMayBe_yes 13 mo inv (by unfold SetsOk3; omega))
 have HW := Lib.hid fun W (v : CxsAt W (.slice px n cx) xs) => sWithin_c (.slice px n cx) xs 16384 (by omega) (by omega) W v
 rw [hx] at HW
 obtain ⟨l0, l1, hn⟩ := hL
 have hn2 : n = 2 ^ L := by exact Int.ofNat.inj hn
 have hnl : (n : Int) = 2 ^ (L : Int).toNat := by rw [hn2, Int.toNat_natCast]; simp
 have hN : IsLen n := len_log n L (by omega) (by omega) hnl
 have HT := Lib.hid (rTwiddles_ok L n 0 15 32768 (by omega) (by omega) hnl (by unfold FB; omega))
 rw [show (56 - ((15 : Int) - 2)).toNat = 56 - 13 from rfl] at HT
 have hall := (allIn_iff 16384 xs).1 hx
 have HTR := Lib.hid fun pw cw W (v1 : CxsAt W (.slice px n cx) xs) (v2 : CxsAt W (.slice pw n cw) (rootsL n (56 - 13))) => sTransform_c 13 mo inv (rootsL n (56 - 13)) L n l1 hn2 (by rw [rootsL_len]; omega) (by omega) m0 m1
  (fun k => roots_len n hN 13 (by omega) (by omega) inv k) (fun k hk => roots_in n hN 13 (by omega) (by omega) k (by omega)) 23171 (by omega) (by decide) pw cw L (Nat.le_refl _) xs px cx W (by rw [hl, hn2])
  (fun j hj => by
   have hjl : j < xs.length := by rw [hl, hn2]; exact hj
   rw [List.getD_eq_getElem?_getD, List.getElem?_eq_getElem hjl]
   have h := hall _ (List.getElem_mem hjl)
   exact len_start _ 16384 23171 (by decide) (by omega) h) (by rw [← hn2]; exact v1) v2
 rw [← hn2] at HTR
 clear l0 l1 hn hN hnl hall hx m0 m1 hn2 hl
 generalize sL 13 mo inv (rootsL n (56 - 13)) L xs = RL at *
 have hwl := rootsL_len n (56 - 13)
 generalize rootsL n (56 - 13) = ws at *
 go_enter Tryz.func58, Tryz.ntmps58
 go_wp2_with (first | (go_at_call 72; refine (HL.out _).mono ?_; rintro e wz ⟨rfl, hwz⟩; subst wz) | (go_at_call 23; refine (HB.out _).mono ?_; rintro e wz ⟨rfl, hwz⟩; subst wz))
 have R0 := CellsAt.new w 124 #[.int .i64 13, .int .i64 mo, .bool inv]
 refine (HM.out _).mono ?_
 rintro e w1 ⟨rfl, g1⟩
 have R1 := R0.gr g1
 have g1' := Gr.trans ((Gr.refl w).alloc _ _) g1
 have vx1 := vx.gr g1'
 clear R0 g1
 go_wp2_with fail
 refine (HW.out _ vx1).mono ?_
 rintro e w2 ⟨rfl, g2⟩
 have R2 := R1.gr g2
 have vx2 := vx1.gr g2
 have z2 := g1'.trans g2
 clear R1 g2 g1' vx1 vx
 go_wp2_with fail
 refine (HT.out _).mono ?_
 rintro e w3 ⟨v3, rfl, hv3, g3⟩
 obtain ⟨pw, cw, hvw⟩ := hv3.len
 rw [hwl, Int.toNat_natCast] at hvw
 subst hvw
 have R3 := R2.gr g3
 have vx3 := vx2.gr g3
 have z3 := z2.trans g3
 have c0 := R3.cell 0
 have c1 := R3.cell 1
 have c2 := R3.cell 2
 simp only [getS] at c0 c1 c2
 have lR := R3.lt
 clear R2 vx2 z2 g3
 go_wp2_with fail
 refine (HTR.out pw cw _ vx3 hv3).mono ?_
 rintro e w4 ⟨v4, rfl, hv4, g4⟩
 go_wp2_with fail
 go_ret2
 exact ⟨_, rfl, hv4, z3.trans g4⟩
set_option maxHeartbeats 2000000 in
theorem sRun_ok_31 (px : Option Addr) (cx n L : Nat) (mo : Int) (inv : Bool) (xs : List Gi) (hl : xs.length = n) (hL : IsLog (n : Int) L) (m0 : 0 ≤ mo) (m1 : mo ≤ 2) (hx : allIn 1073741824 xs = true) (w : World) (vx : CxsAt w (.slice px n cx) xs) :
 Calls Tryz.prog 58 #[.slice px n cx, .int .i64 1, .int .i64 mo, .bool inv] w fun e w' => ∃ v, e = .returned (.tuple #[v, .int .i64 0]) ∧ CxsAt w' v (sL 29 mo inv (rootsL n (56 - 29)) L xs) ∧ Gr w w' := by
 have HL := Lib.hid (log08_yes n L hL)
 have HB := Lib.hid (bits_c 1 31 2147483648 (by unfold FB; omega))
 have HM := Lib.hid (sMayBe_yes 29 mo inv (by unfold SetsOk3; omega))
 have HW := Lib.hid fun W (v : CxsAt W (.slice px n cx) xs) => sWithin_c (.slice px n cx) xs 1073741824 (by omega) (by omega) W v
 rw [hx] at HW
 obtain ⟨l0, l1, hn⟩ := hL
 have hn2 : n = 2 ^ L := by exact Int.ofNat.inj hn
 have hnl : (n : Int) = 2 ^ (L : Int).toNat := by rw [hn2, Int.toNat_natCast]; simp
 have hN : IsLen n := len_log n L (by omega) (by omega) hnl
 have HT := Lib.hid (rTwiddles_ok L n 1 31 2147483648 (by omega) (by omega) hnl (by unfold FB; omega))
 rw [show (56 - ((31 : Int) - 2)).toNat = 56 - 29 from rfl] at HT
 have hall := (allIn_iff 1073741824 xs).1 hx
 have HTR := Lib.hid fun pw cw W (v1 : CxsAt W (.slice px n cx) xs) (v2 : CxsAt W (.slice pw n cw) (rootsL n (56 - 29))) => sTransform_c 29 mo inv (rootsL n (56 - 29)) L n l1 hn2 (by rw [rootsL_len]; omega) (by omega) m0 m1
  (fun k => roots_len n hN 29 (by omega) (by omega) inv k) (fun k hk => roots_in n hN 29 (by omega) (by omega) k (by omega)) 1518500250 (by omega) (by decide) pw cw L (Nat.le_refl _) xs px cx W (by rw [hl, hn2])
  (fun j hj => by
   have hjl : j < xs.length := by rw [hl, hn2]; exact hj
   rw [List.getD_eq_getElem?_getD, List.getElem?_eq_getElem hjl]
   have h := hall _ (List.getElem_mem hjl)
   exact len_start _ 1073741824 1518500250 (by decide) (by omega) h) (by rw [← hn2]; exact v1) v2
 rw [← hn2] at HTR
 clear l0 l1 hn hN hnl hall hx m0 m1 hn2 hl
 generalize sL 29 mo inv (rootsL n (56 - 29)) L xs = RL at *
 have hwl := rootsL_len n (56 - 29)
 generalize rootsL n (56 - 29) = ws at *
 go_enter Tryz.func58, Tryz.ntmps58
 go_wp2_with (first | (go_at_call 72; refine (HL.out _).mono ?_; rintro e wz ⟨rfl, hwz⟩; subst wz) | (go_at_call 23; refine (HB.out _).mono ?_; rintro e wz ⟨rfl, hwz⟩; subst wz))
 have R0 := CellsAt.new w 124 #[.int .i64 29, .int .i64 mo, .bool inv]
 refine (HM.out _).mono ?_
 rintro e w1 ⟨rfl, g1⟩
 have R1 := R0.gr g1
 have g1' := Gr.trans ((Gr.refl w).alloc _ _) g1
 have vx1 := vx.gr g1'
 clear R0 g1
 go_wp2_with fail
 refine (HW.out _ vx1).mono ?_
 rintro e w2 ⟨rfl, g2⟩
 have R2 := R1.gr g2
 have vx2 := vx1.gr g2
 have z2 := g1'.trans g2
 clear R1 g2 g1' vx1 vx
 go_wp2_with fail
 refine (HT.out _).mono ?_
 rintro e w3 ⟨v3, rfl, hv3, g3⟩
 obtain ⟨pw, cw, hvw⟩ := hv3.len
 rw [hwl, Int.toNat_natCast] at hvw
 subst hvw
 have R3 := R2.gr g3
 have vx3 := vx2.gr g3
 have z3 := z2.trans g3
 have c0 := R3.cell 0
 have c1 := R3.cell 1
 have c2 := R3.cell 2
 simp only [getS] at c0 c1 c2
 have lR := R3.lt
 clear R2 vx2 z2 g3
 go_wp2_with fail
 refine (HTR.out pw cw _ vx3 hv3).mono ?_
 rintro e w4 ⟨v4, rfl, hv4, g4⟩
 go_wp2_with fail
 go_ret2
 exact ⟨_, rfl, hv4, z3.trans g4⟩
inductive RunNo (n : Nat) (f mo : Int) (xs : List Gi) : Int → Prop where
 | size (h : ¬ ∃ L, IsLog (n : Int) L) : RunNo n f mo xs 3
 | arg (h : ∃ L, IsLog (n : Int) L) (k : (f < 0 ∨ 1 < f) ∨ mo < 0 ∨ 2 < mo) : RunNo n f mo xs 1
 | range (h : ∃ L, IsLog (n : Int) L) (lim b p : Int) (H : FB f b p) (hl : lim = p / 2) (m0 : 0 ≤ mo) (m1 : mo ≤ 2) (k : allIn lim xs = false) : RunNo n f mo xs 2
def RunYes (n : Nat) (f mo : Int) (xs : List Gi) (L B : Nat) : Prop := IsLog (n : Int) L ∧ (0 ≤ mo ∧ mo ≤ 2) ∧ ((f = 0 ∧ B = 13 ∧ allIn 16384 xs = true) ∨ (f = 1 ∧ B = 29 ∧ allIn 1073741824 xs = true))
theorem RunNo.pos {n : Nat} {f mo : Int} {xs : List Gi} {e : Int} (h : RunNo n f mo xs e) : e = 1 ∨ e = 2 ∨ e = 3 := by cases h <;> simp
theorem sRun_yes (px : Option Addr) (cx n : Nat) (f mo : Int) (inv : Bool) (xs : List Gi) (L B : Nat) (hl : xs.length = n) (h : RunYes n f mo xs L B) (w : World) (vx : CxsAt w (.slice px n cx) xs) :
 Calls Tryz.prog 58 #[.slice px n cx, .int .i64 f, .int .i64 mo, .bool inv] w fun e w' => ∃ v, e = .returned (.tuple #[v, .int .i64 0]) ∧ CxsAt w' v (sL B mo inv (rootsL n (56 - B)) L xs) ∧ Gr w w' := by
 obtain ⟨hL, ⟨m0, m1⟩, ⟨rfl, rfl, hx⟩ | ⟨rfl, rfl, hx⟩⟩ := h
 ·exact sRun_ok_15 px cx n L mo inv xs hl hL m0 m1 hx w vx
 ·exact sRun_ok_31 px cx n L mo inv xs hl hL m0 m1 hx w vx
theorem bits12_c (f b p : Int) (H : FB f b p) (w : World) : Calls Tryz.prog 36 #[.int .i64 f] w fun e w' => e = .returned (.int .i64 (b - 2)) ∧ w' = w := by
 have HB := Lib.hid (rbits_c f b p H)
 have hb : 15 ≤ b ∧ b ≤ 31 := by rcases H with ⟨_, rfl, _⟩ | ⟨_, rfl, _⟩ <;> omega
 clear H
 go_enter Tryz.func36, Tryz.ntmps36
 go_wp2_with (go_at_call 62; refine (HB.out _).mono ?_; rintro e wz ⟨rfl, rfl⟩)
 go_ret
 exact ⟨rfl, rfl⟩
theorem rTwid12_c (log n f b p : Int) (l0 : 2 ≤ log) (l1 : log ≤ 6) (hn : n = 2 ^ log.toNat) (H : FB f b p) (w : World) :
 Calls Tryz.prog 35 #[.int .i64 log, .int .i64 f] w fun e w' => ∃ v, e = .returned v ∧ CxsAt w' v (rootsL n (56 - (b - 2)).toNat) ∧ Gr w w' := by
 have HB := Lib.hid (bits12_c f b p H)
 have hb : 15 ≤ b ∧ b ≤ 31 := by rcases H with ⟨_, rfl, _⟩ | ⟨_, rfl, _⟩ <;> omega
 have HT := Lib.hid (table07_c log n (b - 2) l0 l1 hn (by omega) (by omega))
 clear l0 l1 hn H
 go_enter Tryz.func35, Tryz.ntmps35
 go_wp2_with (go_at_call 36; refine (HB.out _).mono ?_; rintro e wz ⟨rfl, hwz⟩; subst wz)
 refine (HT.out _).mono ?_
 rintro e w1 ⟨v, rfl, hx, g1⟩
 go_wp2_with fail
 go_ret
 exact ⟨_, rfl, hx, g1⟩
end
section
open Go.ChangeShapes Go.WideShapes Go.ChangeAt Go.RowKit
set_option linter.unusedVariables false
set_option maxRecDepth 100000
set_option linter.unusedSimpArgs false
set_option maxHeartbeats 8000000 in
theorem prods11_of (a b c d u v x p q r z : Gi) (bits : Int)
 (HA : CR 98 #[.agg #[.int .i64 (a).re, .int .i64 (a).im], .int .i64 bits] (.agg #[.int .i64 (p).re, .int .i64 (p).im]))
 (HB : CR 96 #[.agg #[.int .i64 (b).re, .int .i64 (b).im], .agg #[.int .i64 (u).re, .int .i64 (u).im]] (.agg #[.int .i64 (q).re, .int .i64 (q).im]))
 (HC : CR 96 #[.agg #[.int .i64 (c).re, .int .i64 (c).im], .agg #[.int .i64 (v).re, .int .i64 (v).im]] (.agg #[.int .i64 (r).re, .int .i64 (r).im]))
 (HD : CR 96 #[.agg #[.int .i64 (d).re, .int .i64 (d).im], .agg #[.int .i64 (x).re, .int .i64 (x).im]] (.agg #[.int .i64 (z).re, .int .i64 (z).im])) (w : World) :
 Calls Tryz.prog 80 #[.agg #[.int .i64 (a).re, .int .i64 (a).im], .agg #[.int .i64 (b).re, .int .i64 (b).im], .agg #[.int .i64 (c).re, .int .i64 (c).im], .agg #[.int .i64 (d).re, .int .i64 (d).im], .agg #[.int .i64 (u).re, .int .i64 (u).im], .agg #[.int .i64 (v).re, .int .i64 (v).im], .agg #[.int .i64 (x).re, .int .i64 (x).im], .int .i64 bits] w fun e w' => e = .returned (.agg #[.int .i64 (p).re, .int .i64 (p).im, .int .i64 (q).re, .int .i64 (q).im, .int .i64 (r).re, .int .i64 (r).im, .int .i64 (z).re, .int .i64 (z).im]) ∧ Gr w w' := by
 go_enter Tryz.func80, Tryz.ntmps80
 go_wp2_with fail
 obtain ⟨u0, hU⟩ : ∃ uu, uu = ((((((((w.alloc (.cells #[.int .i64 (a).re, .int .i64 (a).im] 55)).alloc (.cells #[.int .i64 (b).re, .int .i64 (b).im] 55)).alloc (.cells #[.int .i64 (c).re, .int .i64 (c).im] 55)).alloc (.cells #[.int .i64 (d).re, .int .i64 (d).im] 55)).alloc (.cells #[.int .i64 (u).re, .int .i64 (u).im] 55)).alloc (.cells #[.int .i64 (v).re, .int .i64 (v).im] 55)).alloc (.cells #[.int .i64 (x).re, .int .i64 (x).im] 55)).alloc (.cells #[.int .i64 0, .int .i64 0, .int .i64 0, .int .i64 0, .int .i64 0, .int .i64 0, .int .i64 0, .int .i64 0] 116)) := ⟨_, rfl⟩
 have gu : Gr w u0 := by rw [hU]; exact ((((((((Gr.refl w).alloc _ _).alloc _ _).alloc _ _).alloc _ _).alloc _ _).alloc _ _).alloc _ _).alloc _ _
 have R0 : CellsAt u0 (w.heap.size) 55 #[.int .i64 (a).re, .int .i64 (a).im] := by
  rw [hU]
  have := ((((((((CellsAt.new w 55 #[.int .i64 (a).re, .int .i64 (a).im]).alloc (.cells #[.int .i64 (b).re, .int .i64 (b).im] 55)).alloc (.cells #[.int .i64 (c).re, .int .i64 (c).im] 55)).alloc (.cells #[.int .i64 (d).re, .int .i64 (d).im] 55)).alloc (.cells #[.int .i64 (u).re, .int .i64 (u).im] 55)).alloc (.cells #[.int .i64 (v).re, .int .i64 (v).im] 55)).alloc (.cells #[.int .i64 (x).re, .int .i64 (x).im] 55)).alloc (.cells #[.int .i64 0, .int .i64 0, .int .i64 0, .int .i64 0, .int .i64 0, .int .i64 0, .int .i64 0, .int .i64 0] 116))
  simpa only [World.size_alloc] using this
 have R1 : CellsAt u0 (w.heap.size + 1) 55 #[.int .i64 (b).re, .int .i64 (b).im] := by
  rw [hU]
  have := (((((((CellsAt.new (w.alloc (.cells #[.int .i64 (a).re, .int .i64 (a).im] 55)) 55 #[.int .i64 (b).re, .int .i64 (b).im]).alloc (.cells #[.int .i64 (c).re, .int .i64 (c).im] 55)).alloc (.cells #[.int .i64 (d).re, .int .i64 (d).im] 55)).alloc (.cells #[.int .i64 (u).re, .int .i64 (u).im] 55)).alloc (.cells #[.int .i64 (v).re, .int .i64 (v).im] 55)).alloc (.cells #[.int .i64 (x).re, .int .i64 (x).im] 55)).alloc (.cells #[.int .i64 0, .int .i64 0, .int .i64 0, .int .i64 0, .int .i64 0, .int .i64 0, .int .i64 0, .int .i64 0] 116))
  simpa only [World.size_alloc] using this
 have R2 : CellsAt u0 (w.heap.size + 1 + 1) 55 #[.int .i64 (c).re, .int .i64 (c).im] := by
  rw [hU]
  have := ((((((CellsAt.new ((w.alloc (.cells #[.int .i64 (a).re, .int .i64 (a).im] 55)).alloc (.cells #[.int .i64 (b).re, .int .i64 (b).im] 55)) 55 #[.int .i64 (c).re, .int .i64 (c).im]).alloc (.cells #[.int .i64 (d).re, .int .i64 (d).im] 55)).alloc (.cells #[.int .i64 (u).re, .int .i64 (u).im] 55)).alloc (.cells #[.int .i64 (v).re, .int .i64 (v).im] 55)).alloc (.cells #[.int .i64 (x).re, .int .i64 (x).im] 55)).alloc (.cells #[.int .i64 0, .int .i64 0, .int .i64 0, .int .i64 0, .int .i64 0, .int .i64 0, .int .i64 0, .int .i64 0] 116))
  simpa only [World.size_alloc] using this
 have R3 : CellsAt u0 (w.heap.size + 1 + 1 + 1) 55 #[.int .i64 (d).re, .int .i64 (d).im] := by
  rw [hU]
  have := (((((CellsAt.new (((w.alloc (.cells #[.int .i64 (a).re, .int .i64 (a).im] 55)).alloc (.cells #[.int .i64 (b).re, .int .i64 (b).im] 55)).alloc (.cells #[.int .i64 (c).re, .int .i64 (c).im] 55)) 55 #[.int .i64 (d).re, .int .i64 (d).im]).alloc (.cells #[.int .i64 (u).re, .int .i64 (u).im] 55)).alloc (.cells #[.int .i64 (v).re, .int .i64 (v).im] 55)).alloc (.cells #[.int .i64 (x).re, .int .i64 (x).im] 55)).alloc (.cells #[.int .i64 0, .int .i64 0, .int .i64 0, .int .i64 0, .int .i64 0, .int .i64 0, .int .i64 0, .int .i64 0] 116))
  simpa only [World.size_alloc] using this
 have R4 : CellsAt u0 (w.heap.size + 1 + 1 + 1 + 1) 55 #[.int .i64 (u).re, .int .i64 (u).im] := by
  rw [hU]
  have := ((((CellsAt.new ((((w.alloc (.cells #[.int .i64 (a).re, .int .i64 (a).im] 55)).alloc (.cells #[.int .i64 (b).re, .int .i64 (b).im] 55)).alloc (.cells #[.int .i64 (c).re, .int .i64 (c).im] 55)).alloc (.cells #[.int .i64 (d).re, .int .i64 (d).im] 55)) 55 #[.int .i64 (u).re, .int .i64 (u).im]).alloc (.cells #[.int .i64 (v).re, .int .i64 (v).im] 55)).alloc (.cells #[.int .i64 (x).re, .int .i64 (x).im] 55)).alloc (.cells #[.int .i64 0, .int .i64 0, .int .i64 0, .int .i64 0, .int .i64 0, .int .i64 0, .int .i64 0, .int .i64 0] 116))
  simpa only [World.size_alloc] using this
 have R5 : CellsAt u0 (w.heap.size + 1 + 1 + 1 + 1 + 1) 55 #[.int .i64 (v).re, .int .i64 (v).im] := by
  rw [hU]
  have := (((CellsAt.new (((((w.alloc (.cells #[.int .i64 (a).re, .int .i64 (a).im] 55)).alloc (.cells #[.int .i64 (b).re, .int .i64 (b).im] 55)).alloc (.cells #[.int .i64 (c).re, .int .i64 (c).im] 55)).alloc (.cells #[.int .i64 (d).re, .int .i64 (d).im] 55)).alloc (.cells #[.int .i64 (u).re, .int .i64 (u).im] 55)) 55 #[.int .i64 (v).re, .int .i64 (v).im]).alloc (.cells #[.int .i64 (x).re, .int .i64 (x).im] 55)).alloc (.cells #[.int .i64 0, .int .i64 0, .int .i64 0, .int .i64 0, .int .i64 0, .int .i64 0, .int .i64 0, .int .i64 0] 116))
  simpa only [World.size_alloc] using this
 have R6 : CellsAt u0 (w.heap.size + 1 + 1 + 1 + 1 + 1 + 1) 55 #[.int .i64 (x).re, .int .i64 (x).im] := by
  rw [hU]
  have := ((CellsAt.new ((((((w.alloc (.cells #[.int .i64 (a).re, .int .i64 (a).im] 55)).alloc (.cells #[.int .i64 (b).re, .int .i64 (b).im] 55)).alloc (.cells #[.int .i64 (c).re, .int .i64 (c).im] 55)).alloc (.cells #[.int .i64 (d).re, .int .i64 (d).im] 55)).alloc (.cells #[.int .i64 (u).re, .int .i64 (u).im] 55)).alloc (.cells #[.int .i64 (v).re, .int .i64 (v).im] 55)) 55 #[.int .i64 (x).re, .int .i64 (x).im]).alloc (.cells #[.int .i64 0, .int .i64 0, .int .i64 0, .int .i64 0, .int .i64 0, .int .i64 0, .int .i64 0, .int .i64 0] 116))
  simpa only [World.size_alloc] using this
 have R7 : CellsAt u0 (w.heap.size + 1 + 1 + 1 + 1 + 1 + 1 + 1) 116 #[.int .i64 0, .int .i64 0, .int .i64 0, .int .i64 0, .int .i64 0, .int .i64 0, .int .i64 0, .int .i64 0] := by
  rw [hU]
  have := (CellsAt.new (((((((w.alloc (.cells #[.int .i64 (a).re, .int .i64 (a).im] 55)).alloc (.cells #[.int .i64 (b).re, .int .i64 (b).im] 55)).alloc (.cells #[.int .i64 (c).re, .int .i64 (c).im] 55)).alloc (.cells #[.int .i64 (d).re, .int .i64 (d).im] 55)).alloc (.cells #[.int .i64 (u).re, .int .i64 (u).im] 55)).alloc (.cells #[.int .i64 (v).re, .int .i64 (v).im] 55)).alloc (.cells #[.int .i64 (x).re, .int .i64 (x).im] 55)) 116 #[.int .i64 0, .int .i64 0, .int .i64 0, .int .i64 0, .int .i64 0, .int .i64 0, .int .i64 0, .int .i64 0])
  simpa only [World.size_alloc] using this
 rw [← hU]
 clear hU
 have KS : ∀ W, Gr u0 W → (W.cell? ⟨w.heap.size, 0, none⟩ = some (.int .i64 (a).re) ∧ W.cell? ⟨w.heap.size, 1, none⟩ = some (.int .i64 (a).im) ∧ W.cell? ⟨w.heap.size + 1, 0, none⟩ = some (.int .i64 (b).re) ∧ W.cell? ⟨w.heap.size + 1, 1, none⟩ = some (.int .i64 (b).im) ∧ W.cell? ⟨w.heap.size + 1 + 1 + 1 + 1, 0, none⟩ = some (.int .i64 (u).re) ∧ W.cell? ⟨w.heap.size + 1 + 1 + 1 + 1, 1, none⟩ = some (.int .i64 (u).im) ∧ w.heap.size < W.heap.size ∧ w.heap.size + 1 < W.heap.size ∧ w.heap.size + 1 + 1 + 1 + 1 < W.heap.size) := fun W hG => ⟨(R0.gr hG).cell 0, (R0.gr hG).cell 1, (R1.gr hG).cell 0, (R1.gr hG).cell 1, (R4.gr hG).cell 0, (R4.gr hG).cell 1, Nat.lt_of_lt_of_le R0.lt hG.size, Nat.lt_of_lt_of_le R1.lt hG.size, Nat.lt_of_lt_of_le R4.lt hG.size⟩
 go_cut [17] from 18 to 24 (fun pv wx' => ∃ B : Nat, pv = .pointer (some ⟨B, 0, none⟩) ∧ u0.heap.size ≤ B ∧ CellsAt wx' B 116 #[.int .i64 (p).re, .int .i64 (p).im, .int .i64 (q).re, .int .i64 (q).im, .int .i64 0, .int .i64 0, .int .i64 0, .int .i64 0] ∧ Gr u0 wx')
 case first =>
  refine wp_region_held_drew (S := fun W => W.cell? ⟨w.heap.size, 0, none⟩ = some (.int .i64 (a).re) ∧ W.cell? ⟨w.heap.size, 1, none⟩ = some (.int .i64 (a).im) ∧ W.cell? ⟨w.heap.size + 1, 0, none⟩ = some (.int .i64 (b).re) ∧ W.cell? ⟨w.heap.size + 1, 1, none⟩ = some (.int .i64 (b).im) ∧ W.cell? ⟨w.heap.size + 1 + 1 + 1 + 1, 0, none⟩ = some (.int .i64 (u).re) ∧ W.cell? ⟨w.heap.size + 1 + 1 + 1 + 1, 1, none⟩ = some (.int .i64 (u).im) ∧ w.heap.size < W.heap.size ∧ w.heap.size + 1 < W.heap.size ∧ w.heap.size + 1 + 1 + 1 + 1 < W.heap.size) rfl (KS _ (Gr.drew (Gr.refl _))) (fun hS => ?_)
  refine hT 0 ?_
  refine hT 1 ?_
  refine hT 3 ?_
  refine hT 4 ?_
  refine wpAnyH_ready (rs := [2, 7]) (by kernel_rfl) (by simp) ?_
  refine AllReadyH.cons rfl (fun K hK => ?_) (AllReadyH.cons rfl (fun K hK => ?_) AllReadyH.nil)
  ·go_simp
   go_at_call 98
   refine (HA.out _).mono ?_
   rintro e w1 ⟨rfl, g1⟩
   have x1 := (Gr.drew (Gr.refl u0)).trans g1
   refine hK.out _ _ ?_ (fun hHeld => ?_)
   ·(exact KS _ x1)
   clear hK K hS
   have hS := hHeld
   clear hHeld
   try simp only [Act.put, putS]
   refine wpAnyH_ready (rs := [5, 7]) (by kernel_rfl) (by simp) ?_
   refine AllReadyH.cons rfl (fun K hK => ?_) (AllReadyH.cons rfl (fun K hK => ?_) AllReadyH.nil)
   ·go_simp
    go_at_call 96
    refine (HB.out _).mono ?_
    rintro e w2 ⟨rfl, g2⟩
    have x2 := (x1).trans g2
    refine hK.out _ _ ?_ (fun hHeld => ?_)
    ·(exact KS _ x2)
    clear hK K hS
    have hS := hHeld
    clear hHeld
    try simp only [Act.put, putS]
    refine hT 6 ?_
    refine wpAnyH_ready (rs := [7]) (by kernel_rfl) (by simp) ?_
    refine AllReadyH.cons rfl (fun K hK => ?_) AllReadyH.nil
    go_simp
    have x3 := Gr.alloc (x2) #[.int .i64 0, .int .i64 0, .int .i64 0, .int .i64 0, .int .i64 0, .int .i64 0, .int .i64 0, .int .i64 0] 116
    have C3 : CellsAt ((w2).alloc (.cells #[.int .i64 0, .int .i64 0, .int .i64 0, .int .i64 0, .int .i64 0, .int .i64 0, .int .i64 0, .int .i64 0] 116)) (w2.heap.size) 116 #[.int .i64 0, .int .i64 0, .int .i64 0, .int .i64 0, .int .i64 0, .int .i64 0, .int .i64 0, .int .i64 0] := CellsAt.new (w2) 116 #[.int .i64 0, .int .i64 0, .int .i64 0, .int .i64 0, .int .i64 0, .int .i64 0, .int .i64 0, .int .i64 0]
    refine hK.out _ _ ?_ (fun hHeld => ?_)
    ·(exact KS _ x3)
    clear hK K hS
    have hS := hHeld
    clear hHeld
    try simp only [Act.put, putS]
    have hBs : u0.heap.size ≤ w2.heap.size := by have hq := Gr.size (x2); exact hq
    refine wpAnyH_ready (rs := [8]) (by kernel_rfl) (by simp) ?_
    refine AllReadyH.cons rfl (fun K hK => ?_) AllReadyH.nil
    go_simp
    have x4 := Gr.alloc (x2) #[.int .i64 (p).re, .int .i64 (p).im, .int .i64 (q).re, .int .i64 (q).im, .int .i64 0, .int .i64 0, .int .i64 0, .int .i64 0] 116
    refine hK.out _ _ ?_ (fun hHeld => ?_)
    ·(exact KS _ x4)
    clear hK K hS
    have hS := hHeld
    clear hHeld
    try simp only [Act.put, putS]
    refine wpAnyH_done (by kernel_rfl) ?_ _
    go_wp2_with fail
    go_meet
    case rel => exact ⟨_, rfl, hBs, CellsAt.new (w2) 116 #[.int .i64 (p).re, .int .i64 (p).im, .int .i64 (q).re, .int .i64 (q).im, .int .i64 0, .int .i64 0, .int .i64 0, .int .i64 0], x4⟩
   ·go_simp
    have x2 := Gr.alloc (x1) #[.int .i64 0, .int .i64 0, .int .i64 0, .int .i64 0, .int .i64 0, .int .i64 0, .int .i64 0, .int .i64 0] 116
    have C2 : CellsAt ((w1).alloc (.cells #[.int .i64 0, .int .i64 0, .int .i64 0, .int .i64 0, .int .i64 0, .int .i64 0, .int .i64 0, .int .i64 0] 116)) (w1.heap.size) 116 #[.int .i64 0, .int .i64 0, .int .i64 0, .int .i64 0, .int .i64 0, .int .i64 0, .int .i64 0, .int .i64 0] := CellsAt.new (w1) 116 #[.int .i64 0, .int .i64 0, .int .i64 0, .int .i64 0, .int .i64 0, .int .i64 0, .int .i64 0, .int .i64 0]
    refine hK.out _ _ ?_ (fun hHeld => ?_)
    ·(exact KS _ x2)
    clear hK K hS
    have hS := hHeld
    clear hHeld
    try simp only [Act.put, putS]
    refine wpAnyH_ready (rs := [5]) (by kernel_rfl) (by simp) ?_
    refine AllReadyH.cons rfl (fun K hK => ?_) AllReadyH.nil
    go_simp
    go_at_call 96
    refine (HB.out _).mono ?_
    rintro e w3 ⟨rfl, g3⟩
    have x3 := (x2).trans g3
    have C3 := CellsAt.gr (C2) g3
    refine hK.out _ _ ?_ (fun hHeld => ?_)
    ·(exact KS _ x3)
    clear hK K hS
    have hS := hHeld
    clear hHeld
    try simp only [Act.put, putS]
    refine hT 6 ?_
    have lC := CellsAt.lt (C3)
    have fc0 := CellsAt.cell (C3) 0
    have fm0 := CellsAt.frozen (C3) 0
    have fc1 := CellsAt.cell (C3) 1
    have fm1 := CellsAt.frozen (C3) 1
    have fc2 := CellsAt.cell (C3) 2
    have fm2 := CellsAt.frozen (C3) 2
    have fc3 := CellsAt.cell (C3) 3
    have fm3 := CellsAt.frozen (C3) 3
    have fc4 := CellsAt.cell (C3) 4
    have fm4 := CellsAt.frozen (C3) 4
    have fc5 := CellsAt.cell (C3) 5
    have fm5 := CellsAt.frozen (C3) 5
    have fc6 := CellsAt.cell (C3) 6
    have fm6 := CellsAt.frozen (C3) 6
    have fc7 := CellsAt.cell (C3) 7
    have fm7 := CellsAt.frozen (C3) 7
    simp only [getS] at fc0 fc1 fc2 fc3 fc4 fc5 fc6 fc7
    refine wpAnyH_ready (rs := [8]) (by kernel_rfl) (by simp) ?_
    refine AllReadyH.cons rfl (fun K hK => ?_) AllReadyH.nil
    go_simp
    have hBs : u0.heap.size ≤ w1.heap.size := by have hq := Gr.size (x1); exact hq
    have x4 := Gr.setCell (Gr.setCell (Gr.setCell (Gr.setCell (Gr.setCell (Gr.setCell (Gr.setCell (Gr.setCell (x3) (a := ⟨w1.heap.size, 0, none⟩) hBs (.int .i64 (p).re)) (a := ⟨w1.heap.size, 1, none⟩) hBs (.int .i64 (p).im)) (a := ⟨w1.heap.size, 2, none⟩) hBs (.int .i64 (q).re)) (a := ⟨w1.heap.size, 3, none⟩) hBs (.int .i64 (q).im)) (a := ⟨w1.heap.size, 4, none⟩) hBs (.int .i64 0)) (a := ⟨w1.heap.size, 5, none⟩) hBs (.int .i64 0)) (a := ⟨w1.heap.size, 6, none⟩) hBs (.int .i64 0)) (a := ⟨w1.heap.size, 7, none⟩) hBs (.int .i64 0)
    have C4 := CellsAt.set8 (C3) (.int .i64 (p).re) (.int .i64 (p).im) (.int .i64 (q).re) (.int .i64 (q).im) (.int .i64 0) (.int .i64 0) (.int .i64 0) (.int .i64 0)
    refine hK.out _ _ ?_ (fun hHeld => ?_)
    ·(exact KS _ x4)
    clear hK K hS
    have hS := hHeld
    clear hHeld
    try simp only [Act.put, putS]
    refine wpAnyH_done (by kernel_rfl) ?_ _
    go_wp2_with fail
    go_meet
    case rel => exact ⟨_, rfl, hBs, C4, x4⟩
  ·go_simp
   have x1 := Gr.alloc (Gr.drew (Gr.refl u0)) #[.int .i64 0, .int .i64 0, .int .i64 0, .int .i64 0, .int .i64 0, .int .i64 0, .int .i64 0, .int .i64 0] 116
   have C1 : CellsAt ((u0.drew).alloc (.cells #[.int .i64 0, .int .i64 0, .int .i64 0, .int .i64 0, .int .i64 0, .int .i64 0, .int .i64 0, .int .i64 0] 116)) (u0.heap.size) 116 #[.int .i64 0, .int .i64 0, .int .i64 0, .int .i64 0, .int .i64 0, .int .i64 0, .int .i64 0, .int .i64 0] := CellsAt.new (u0.drew) 116 #[.int .i64 0, .int .i64 0, .int .i64 0, .int .i64 0, .int .i64 0, .int .i64 0, .int .i64 0, .int .i64 0]
   refine hK.out _ _ ?_ (fun hHeld => ?_)
   ·(exact KS _ x1)
   clear hK K hS
   have hS := hHeld
   clear hHeld
   try simp only [Act.put, putS]
   refine wpAnyH_ready (rs := [2]) (by kernel_rfl) (by simp) ?_
   refine AllReadyH.cons rfl (fun K hK => ?_) AllReadyH.nil
   go_simp
   go_at_call 98
   refine (HA.out _).mono ?_
   rintro e w2 ⟨rfl, g2⟩
   have x2 := (x1).trans g2
   have C2 := CellsAt.gr (C1) g2
   refine hK.out _ _ ?_ (fun hHeld => ?_)
   ·(exact KS _ x2)
   clear hK K hS
   have hS := hHeld
   clear hHeld
   try simp only [Act.put, putS]
   refine wpAnyH_ready (rs := [5]) (by kernel_rfl) (by simp) ?_
   refine AllReadyH.cons rfl (fun K hK => ?_) AllReadyH.nil
   go_simp
   go_at_call 96
   refine (HB.out _).mono ?_
   rintro e w3 ⟨rfl, g3⟩
   have x3 := (x2).trans g3
   have C3 := CellsAt.gr (C2) g3
   refine hK.out _ _ ?_ (fun hHeld => ?_)
   ·(exact KS _ x3)
   clear hK K hS
   have hS := hHeld
   clear hHeld
   try simp only [Act.put, putS]
   refine hT 6 ?_
   have lC := CellsAt.lt (C3)
   have fc0 := CellsAt.cell (C3) 0
   have fm0 := CellsAt.frozen (C3) 0
   have fc1 := CellsAt.cell (C3) 1
   have fm1 := CellsAt.frozen (C3) 1
   have fc2 := CellsAt.cell (C3) 2
   have fm2 := CellsAt.frozen (C3) 2
   have fc3 := CellsAt.cell (C3) 3
   have fm3 := CellsAt.frozen (C3) 3
   have fc4 := CellsAt.cell (C3) 4
   have fm4 := CellsAt.frozen (C3) 4
   have fc5 := CellsAt.cell (C3) 5
   have fm5 := CellsAt.frozen (C3) 5
   have fc6 := CellsAt.cell (C3) 6
   have fm6 := CellsAt.frozen (C3) 6
   have fc7 := CellsAt.cell (C3) 7
   have fm7 := CellsAt.frozen (C3) 7
   simp only [getS] at fc0 fc1 fc2 fc3 fc4 fc5 fc6 fc7
   refine wpAnyH_ready (rs := [8]) (by kernel_rfl) (by simp) ?_
   refine AllReadyH.cons rfl (fun K hK => ?_) AllReadyH.nil
   go_simp
   have hBs : u0.heap.size ≤ u0.heap.size := by have hq := Gr.size (Gr.drew (Gr.refl u0)); exact hq
   have x4 := Gr.setCell (Gr.setCell (Gr.setCell (Gr.setCell (Gr.setCell (Gr.setCell (Gr.setCell (Gr.setCell (x3) (a := ⟨u0.heap.size, 0, none⟩) hBs (.int .i64 (p).re)) (a := ⟨u0.heap.size, 1, none⟩) hBs (.int .i64 (p).im)) (a := ⟨u0.heap.size, 2, none⟩) hBs (.int .i64 (q).re)) (a := ⟨u0.heap.size, 3, none⟩) hBs (.int .i64 (q).im)) (a := ⟨u0.heap.size, 4, none⟩) hBs (.int .i64 0)) (a := ⟨u0.heap.size, 5, none⟩) hBs (.int .i64 0)) (a := ⟨u0.heap.size, 6, none⟩) hBs (.int .i64 0)) (a := ⟨u0.heap.size, 7, none⟩) hBs (.int .i64 0)
   have C4 := CellsAt.set8 (C3) (.int .i64 (p).re) (.int .i64 (p).im) (.int .i64 (q).re) (.int .i64 (q).im) (.int .i64 0) (.int .i64 0) (.int .i64 0) (.int .i64 0)
   refine hK.out _ _ ?_ (fun hHeld => ?_)
   ·(exact KS _ x4)
   clear hK K hS
   have hS := hHeld
   clear hHeld
   try simp only [Act.put, putS]
   refine wpAnyH_done (by kernel_rfl) ?_ _
   go_wp2_with fail
   go_meet
   case rel => exact ⟨_, rfl, hBs, C4, x4⟩
 case rest =>
  obtain ⟨B, rfl, hB, hC, hG⟩ := hcut
  have gw := gu.trans hG
  have Q2 := R2.gr hG
  have Q3 := R3.gr hG
  have Q5 := R5.gr hG
  have Q6 := R6.gr hG
  have Q7 := R7.gr hG
  have hB7 : w.heap.size + 1 + 1 + 1 + 1 + 1 + 1 + 1 < B := Nat.lt_of_lt_of_le R7.lt hB
  have hBw : w.heap.size ≤ B := Nat.le_trans gu.size hB
  clear R0 R1 R2 R3 R4 R5 R6 R7 KS HA HB hB gu hG
  have e0 := Q2.cell 0
  have e1 := Q2.cell 1
  have e2 := Q5.cell 0
  have e3 := Q5.cell 1
  have l2 := Q2.lt
  have l5 := Q5.lt
  simp only [getS] at e0 e1 e2 e3
  go_wp2_with fail
  refine (HC.out _).mono ?_
  rintro e w4 ⟨rfl, g4⟩
  replace hC := hC.gr g4
  replace Q3 := Q3.gr g4
  replace Q6 := Q6.gr g4
  replace Q7 := Q7.gr g4
  replace gw := gw.trans g4
  clear e0 e1 e2 e3 l2 l5 Q2 Q5 g4 HC
  have c4 := hC.cell 4
  have c5 := hC.cell 5
  have f4 := hC.frozen 4
  have f5 := hC.frozen 5
  have lB := hC.lt
  simp only [getS] at c4 c5
  have hC5 : CellsAt ((w4.setCell ⟨B, 4, none⟩ (.int .i64 r.re)).setCell ⟨B, 5, none⟩ (.int .i64 r.im)) B 116 #[.int .i64 (p).re, .int .i64 (p).im, .int .i64 (q).re, .int .i64 (q).im, .int .i64 (r).re, .int .i64 (r).im, .int .i64 0, .int .i64 0] := by
   have := (hC.set 4 (.int .i64 r.re)).set 5 (.int .i64 r.im)
   simpa using this
  have S3 := (Q3.other (B' := B) (by omega) 4 (.int .i64 r.re)).other (B' := B) (by omega) 5 (.int .i64 r.im)
  have S6 := (Q6.other (B' := B) (by omega) 4 (.int .i64 r.re)).other (B' := B) (by omega) 5 (.int .i64 r.im)
  have S7 := (Q7.other (B' := B) (by omega) 4 (.int .i64 r.re)).other (B' := B) (by omega) 5 (.int .i64 r.im)
  have gw5 := (gw.setCell (a := ⟨B, 4, none⟩) hBw (.int .i64 r.re)).setCell (a := ⟨B, 5, none⟩) hBw (.int .i64 r.im)
  clear hC Q3 Q6 Q7 gw
  have e0 := S3.cell 0
  have e1 := S3.cell 1
  have e2 := S6.cell 0
  have e3 := S6.cell 1
  have l2 := S3.lt
  have l5 := S6.lt
  simp only [getS] at e0 e1 e2 e3
  go_wp2_with fail
  refine (HD.out _).mono ?_
  rintro e w6 ⟨rfl, g6⟩
  replace hC5 := hC5.gr g6
  replace S7 := S7.gr g6
  replace gw5 := gw5.trans g6
  clear e0 e1 e2 e3 l2 l5 S3 S6 g6 HD c4 c5 f4 f5 lB
  have c4 := hC5.cell 6
  have c5 := hC5.cell 7
  have f4 := hC5.frozen 6
  have f5 := hC5.frozen 7
  have lB := hC5.lt
  simp only [getS] at c4 c5
  have hC7 : CellsAt ((w6.setCell ⟨B, 6, none⟩ (.int .i64 z.re)).setCell ⟨B, 7, none⟩ (.int .i64 z.im)) B 116 #[.int .i64 (p).re, .int .i64 (p).im, .int .i64 (q).re, .int .i64 (q).im, .int .i64 (r).re, .int .i64 (r).im, .int .i64 (z).re, .int .i64 (z).im] := by
   have := (hC5.set 6 (.int .i64 z.re)).set 7 (.int .i64 z.im)
   simpa using this
  have U7 := (S7.other (B' := B) (by omega) 6 (.int .i64 z.re)).other (B' := B) (by omega) 7 (.int .i64 z.im)
  have gw7 := (gw5.setCell (a := ⟨B, 6, none⟩) hBw (.int .i64 z.re)).setCell (a := ⟨B, 7, none⟩) hBw (.int .i64 z.im)
  clear hC5 S7 gw5
  go_wp2_with (first | (refine wpList_load_row rfl 116 _ rfl (B) rfl 116 _ (0, 0) _ hC7 Tryz.underlying116 rfl (by kernel_rfl) ?_) | (refine wpList_store_row rfl 116 _ _ rfl (w.heap.size + 1 + 1 + 1 + 1 + 1 + 1 + 1) _ rfl rfl 116 _ U7 (by kernel_rfl) (by kernel_rfl) (by kernel_rfl) ?_))
  have R9 := U7.setRow #[.int .i64 (p).re, .int .i64 (p).im, .int .i64 (q).re, .int .i64 (q).im, .int .i64 (r).re, .int .i64 (r).im, .int .i64 (z).re, .int .i64 (z).im]
  refine bodyPost_ret (v := .agg #[.int .i64 (p).re, .int .i64 (p).im, .int .i64 (q).re, .int .i64 (q).im, .int .i64 (r).re, .int .i64 (r).im, .int .i64 (z).re, .int .i64 (z).im]) ?_ rfl ⟨rfl, gw7.setRow (by omega) _⟩
  exact results_cell_row rfl _ _ _ _ _ (0, 0) _ rfl R9 Tryz.underlying116 rfl (by kernel_rfl)
end
end Go.Proofs.YtablflakcaimmaaGreat
