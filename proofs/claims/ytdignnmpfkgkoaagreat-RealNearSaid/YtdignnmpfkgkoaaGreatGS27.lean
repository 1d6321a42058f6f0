import Derived.Test.YtdignnmpfkgkoaaGreatGS22
import Derived.Test.YtdignnmpfkgkoaaGreatGS26
namespace Go.Proofs.YtdignnmpfkgkoaaGreat
section
open Go.ChangeShapes Go.WideShapes Go.ChangeAt Go.RowKit
set_option linter.unusedVariables false
set_option linter.unusedSimpArgs false
set_option maxRecDepth 100000
theorem len_start (a : Gi) (l R : Int) (h : 2 * (l * l) ≤ R * R) (hl : 0 ≤ l) (ha : absI a.re ≤ l ∧ absI a.im ≤ l) : Len R a := by
 unfold Len
 have key : ∀ x, absI x ≤ l → x * x ≤ l * l := by
  intro x hx
  have := Int.mul_le_mul hx hx (absI_nonneg x) hl
  refine Int.le_trans (Int.le_of_eq ?_) this
  unfold absI
  split
  ·rw [Int.neg_mul_neg]
  ·rfl
 have h1 := key _ ha.1
 have h2 := key _ ha.2
 omega
set_option maxHeartbeats 2000000 in
theorem sRun_ok_15 (px : Option Addr) (cx n L : Nat) (mo : Int) (inv : Bool) (xs : List Gi) (hl : xs.length = n) (hL : IsLog (n : Int) L) (m0 : 0 ≤ mo) (m1 : mo ≤ 2) (hx : allIn 16384 xs = true) (w : World) (vx : CxsAt w (.slice px n cx) xs) :
 Calls Tryz.prog 111 #[.slice px n cx, .int .i64 0, .int .i64 mo, .bool inv] w fun e w' => ∃ v, e = .returned (.tuple #[v, .int .i64 0]) ∧ CxsAt w' v (sL 13 mo inv (rootsL n (56 - 13)) L xs) ∧ Gr w w' := by
 have HL := Lib.hid (log08_yes n L hL)
 have HB := Lib.hid (bits_c 0 15 32768 (by unfold FB; omega))
 have HM := Lib.hid (sMayBe_yes 13 mo inv (by unfold SetsOk3; omega))
 have HW := Lib.hid fun W (v : CxsAt W (.slice px n cx) xs) => sWithin_c (.slice px n cx) xs 16384 (by omega) (by omega) W v
 rw [hx] at HW
 obtain ⟨l0, l1, hn⟩ := hL
 have hn2 : n = 2 ^ L := by exact Int.ofNat.inj hn
 have hnl : (n : Int) = 2 ^ (L : Int).toNat := by rw [hn2, Int.toNat_natCast]; simp
 have hN : IsLen n := len_log n L (by omega) (by omega) hnl
 have HT := Lib.hid (rTwiddles_ok L n 0 15 32768 (by omega) (by omega) hnl (by unfold FB; omega))
 rw [show (56 - ((15 : Int) - 2)).toNat = 56 - 13 from rfl] at HT
 have hall := (allIn_iff 16384 xs).1 hx
 have HTR := Lib.hid fun pw cw W (v1 : CxsAt W (.slice px n cx) xs) (v2 : CxsAt W (.slice pw n cw) (rootsL n (56 - 13))) => sTransform_c 13 mo inv (rootsL n (56 - 13)) L n l1 hn2 (by rw [rootsL_len]; omega) (by omega) m0 m1
  (fun k => roots_len n hN 13 (by omega) (by omega) inv k) (fun k hk => roots_in n hN 13 (by omega) (by omega) k (by omega)) 23171 (by omega) (by decide) pw cw L (Nat.le_refl _) xs px cx W (by rw [hl, hn2])
  (fun j hj => by
   have hjl : j < xs.length := by rw [hl, hn2]; exact hj
   rw [List.getD_eq_getElem?_getD, List.getElem?_eq_getElem hjl]
   have h := hall _ (List.getElem_mem hjl)
   exact len_start _ 16384 23171 (by decide) (by omega) h) (by rw [← hn2]; exact v1) v2
 rw [← hn2] at HTR
 clear l0 l1 hn hN hnl hall hx m0 m1 hn2 hl
 generalize sL 13 mo inv (rootsL n (56 - 13)) L xs = RL at *
 have hwl := rootsL_len n (56 - 13)
 generalize rootsL n (56 - 13) = ws at *
 go_enter Tryz.func111, Tryz.ntmps111
 go_wp2_with (first | (go_at_call 34; refine (HL.out _).mono ?_; rintro e wz ⟨rfl, hwz⟩; subst wz) | (go_at_call 58; refine (HB.out _).mono ?_; rintro e wz ⟨rfl, hwz⟩; subst wz))
 have R0 := CellsAt.new w 181 #[.int .i64 13, .int .i64 mo, .bool inv]
 refine (HM.out _).mono ?_
 rintro e w1 ⟨rfl, g1⟩
 have R1 := R0.gr g1
 have g1' := Gr.trans ((Gr.refl w).alloc _ _) g1
 have vx1 := vx.gr g1'
 clear R0 g1
 go_wp2_with fail
 refine (HW.out _ vx1).mono ?_
 rintro e w2 ⟨rfl, g2⟩
 have R2 := R1.gr g2
 have vx2 := vx1.gr g2
 have z2 := g1'.trans g2
 clear R1 g2 g1' vx1 vx
 go_wp2_with fail
 refine (HT.out _).mono ?_
 rintro e w3 ⟨v3, rfl, hv3, g3⟩
 obtain ⟨pw, cw, hvw⟩ := hv3.len
 rw [hwl, Int.toNat_natCast] at hvw
 subst hvw
 have R3 := R2.gr g3
 have vx3 := vx2.gr g3
 have z3 := z2.trans g3
 have c0 := R3.cell 0
 have c1 := R3.cell 1
 have c2 := R3.cell 2
 simp only [getS] at c0 c1 c2
 have lR := R3.lt
 clear R2 vx2 z2 g3
 go_wp2_with fail
 refine (HTR.out pw cw _ vx3 hv3).mono ?_
 rintro e w4 ⟨v4, rfl, hv4, g4⟩
 go_wp2_with fail
 go_ret2
 exact ⟨_, rfl, hv4, z3.trans g4⟩
set_option maxHeartbeats 2000000 in
theorem sRun_ok_31 (px : Option Addr) (cx n L : Nat) (mo : Int) (inv : Bool) (xs : List Gi) (hl : xs.length = n) (hL : IsLog (n : Int) L) (m0 : 0 ≤ mo) (m1 : mo ≤ 2) (hx : allIn 1073741824 xs = true) (w : World) (vx : CxsAt w (.slice px n cx) xs) :
 Calls Tryz.prog 111 #[.slice px n cx, .int .i64 1, .int .i64 mo, .bool inv] w fun e w' => ∃ v, e = .returned (.tuple #[v, .int .i64 0]) ∧ CxsAt w' v (sL 29 mo inv (rootsL n (56 - 29)) L xs) ∧ Gr w w' := by
 have HL := Lib.hid (log08_yes n L hL)
 have HB := Lib.hid (bits_c 1 31 2147483648 (by unfold FB; omega))
 have HM := Lib.hid (sMayBe_yes 29 mo inv (by unfold SetsOk3; omega))
 have HW := Lib.hid fun W (v : CxsAt W (.slice px n cx) xs) => sWithin_c (.slice px n cx) xs 1073741824 (by omega) (by omega) W v
 rw [hx] at HW
 obtain ⟨l0, l1, hn⟩ := hL
 have hn2 : n = 2 ^ L := by exact Int.ofNat.inj hn
 have hnl : (n : Int) = 2 ^ (L : Int).toNat := by rw [hn2, Int.toNat_natCast]; simp
 have hN : IsLen n := len_log n L (by omega) (by omega) hnl
 have HT := Lib.hid (rTwiddles_ok L n 1 31 2147483648 (by omega) (by omega) hnl (by unfold FB; omega))
 rw [show (56 - ((31 : Int) - 2)).toNat = 56 - 29 from rfl] at HT
 have hall := (allIn_iff 1073741824 xs).1 hx
 have HTR := Lib.hid fun pw cw W (v1 : CxsAt W (.slice px n cx) xs) (v2 : CxsAt W (.slice pw n cw) (rootsL n (56 - 29))) => sTransform_c 29 mo inv (rootsL n (56 - 29)) L n l1 hn2 (by rw [rootsL_len]; omega) (by omega) m0 m1
  (fun k => roots_len n hN 29 (by omega) (by omega) inv k) (fun k hk => roots_in n hN 29 (by omega) (by omega) k (by omega)) 1518500250 (by omega) (by decide) pw cw L (Nat.le_refl _) xs px cx W (by rw [hl, hn2])
  (fun j hj => by
   have hjl : j < xs.length := by rw [hl, hn2]; exact hj
   rw [List.getD_eq_getElem?_getD, List.getElem?_eq_getElem hjl]
   have h := hall _ (List.getElem_mem hjl)
   exact len_start _ 1073741824 1518500250 (by decide) (by omega) h) (by rw [← hn2]; exact v1) v2
 rw [← hn2] at HTR
 clear l0 l1 hn hN hnl hall hx m0 m1 hn2 hl
 generalize sL 29 mo inv (rootsL n (56 - 29)) L xs = RL at *
 have hwl := rootsL_len n (56 - 29)
 generalize rootsL n (56 - 29) = ws at *
 go_enter Tryz.func111, Tryz.ntmps111
 go_wp2_with (first | (go_at_call 34; refine (HL.out _).mono ?_; rintro e wz ⟨rfl, hwz⟩; subst wz) | (go_at_call 58; refine (HB.out _).mono ?_; rintro e wz ⟨rfl, hwz⟩; subst wz))
 have R0 := CellsAt.new w 181 #[.int .i64 29, .int .i64 mo, .bool inv]
 refine (HM.out _).mono ?_
 rintro e w1 ⟨rfl, g1⟩
 have R1 := R0.gr g1
 have g1' := Gr.trans ((Gr.refl w).alloc _ _) g1
 have vx1 := vx.gr g1'
 clear R0 g1
 go_wp2_with fail
 refine (HW.out _ vx1).mono ?_
 rintro e w2 ⟨rfl, g2⟩
 have R2 := R1.gr g2
 have vx2 := vx1.gr g2
 have z2 := g1'.trans g2
 clear R1 g2 g1' vx1 vx
 go_wp2_with fail
 refine (HT.out _).mono ?_
 rintro e w3 ⟨v3, rfl, hv3, g3⟩
 obtain ⟨pw, cw, hvw⟩ := hv3.len
 rw [hwl, Int.toNat_natCast] at hvw
 subst hvw
 have R3 := R2.gr g3
 have vx3 := vx2.gr g3
 have z3 := z2.trans g3
 have c0 := R3.cell 0
 have c1 := R3.cell 1
 have c2 := R3.cell 2
 simp only [getS] at c0 c1 c2
 have lR := R3.lt
 clear R2 vx2 z2 g3
 go_wp2_with fail
 refine (HTR.out pw cw _ vx3 hv3).mono ?_
 rintro e w4 ⟨v4, rfl, hv4, g4⟩
 go_wp2_with fail
 go_ret2
 exact ⟨_, rfl, hv4, z3.trans g4⟩
theorem sL_congr (bits : Nat) (mo : Int) (inv : Bool) (ws : List Gi) (l : Nat) (xs : List Gi) (f : Nat → Gi) (h : ∀ j, j < 2 ^ l → xs.getD j ⟨0, 0⟩ = f j) : sL bits mo inv ws l xs = (List.range (2 ^ l)).map (spl bits mo inv (rootOf ws inv) ws.length l f) := by
 unfold sL
 exact List.map_congr_left fun i hi => spl_congr _ _ _ _ _ _ _ _ h i (List.mem_range.1 hi)
theorem sL_same (bits : Nat) (mo : Int) (inv : Bool) (ws : List Gi) (l : Nat) (xs : List Gi) (a : Gi) (hm : mo = 0 ∨ mo = 1 ∨ mo = 2) (hW : rootOf ws inv 0 = ⟨2 ^ bits, 0⟩) (h : ∀ j, j < 2 ^ l → xs.getD j ⟨0, 0⟩ = a) :
 sL bits mo inv ws l xs = (List.range (2 ^ l)).map (fun i => if i = 0 then a else ⟨0, 0⟩) := by
 rw [sL_congr _ _ _ _ _ _ (fun _ => a) h]
 exact List.map_congr_left fun i hi => spl_same _ _ _ _ _ _ hm hW _ _ (List.mem_range.1 hi)
inductive RunNo (n : Nat) (f mo : Int) (xs : List Gi) : Int → Prop where
 | size (h : ¬ ∃ L, IsLog (n : Int) L) : RunNo n f mo xs 3
 | arg (h : ∃ L, IsLog (n : Int) L) (k : (f < 0 ∨ 1 < f) ∨ mo < 0 ∨ 2 < mo) : RunNo n f mo xs 1
 | range (h : ∃ L, IsLog (n : Int) L) (lim b p : Int) (H : FB f b p) (hl : lim = p / 2) (m0 : 0 ≤ mo) (m1 : mo ≤ 2) (k : allIn lim xs = false) : RunNo n f mo xs 2
def RunYes (n : Nat) (f mo : Int) (xs : List Gi) (L B : Nat) : Prop := IsLog (n : Int) L ∧ (0 ≤ mo ∧ mo ≤ 2) ∧ ((f = 0 ∧ B = 13 ∧ allIn 16384 xs = true) ∨ (f = 1 ∧ B = 29 ∧ allIn 1073741824 xs = true))
theorem RunNo.pos {n : Nat} {f mo : Int} {xs : List Gi} {e : Int} (h : RunNo n f mo xs e) : e = 1 ∨ e = 2 ∨ e = 3 := by cases h <;> simp
theorem sRun_yes (px : Option Addr) (cx n : Nat) (f mo : Int) (inv : Bool) (xs : List Gi) (L B : Nat) (hl : xs.length = n) (h : RunYes n f mo xs L B) (w : World) (vx : CxsAt w (.slice px n cx) xs) :
 Calls Tryz.prog 111 #[.slice px n cx, .int .i64 f, .int .i64 mo, .bool inv] w fun e w' => ∃ v, e = .returned (.tuple #[v, .int .i64 0]) ∧ CxsAt w' v (sL B mo inv (rootsL n (56 - B)) L xs) ∧ Gr w w' := by
 obtain ⟨hL, ⟨m0, m1⟩, ⟨rfl, rfl, hx⟩ | ⟨rfl, rfl, hx⟩⟩ := h
 ·exact sRun_ok_15 px cx n L mo inv xs hl hL m0 m1 hx w vx
 ·exact sRun_ok_31 px cx n L mo inv xs hl hL m0 m1 hx w vx
end
section
open Go.ChangeShapes Go.WideShapes Go.ChangeAt Go.RowKit
set_option linter.unusedVariables false
set_option maxRecDepth 100000
theorem twoAt_eq (xs ws : List Gi) (h bits s : Nat) (mo : Int) (inv : Bool) (i : Nat) : twoAt xs ws h bits s mo inv i =
 if i % (2 * h) < h then pairUp bits s mo (xs.getD i ⟨0, 0⟩) (xs.getD (i + h) ⟨0, 0⟩) (rootOf ws inv (i % (2 * h) * (xs.length / (2 * h)))) else pairDown bits s mo (xs.getD (i - h) ⟨0, 0⟩) (xs.getD i ⟨0, 0⟩) (rootOf ws inv ((i % (2 * h) - h) * (xs.length / (2 * h)))) := rfl
theorem rootOf_bd (ws : List Gi) (inv : Bool) (k : Nat) (l : Int) (hk : k < ws.length) (h : allIn l ws = true) : absI (rootOf ws inv k).re ≤ l ∧ absI (rootOf ws inv k).im ≤ l := by
 obtain ⟨x, hx⟩ := get_of_lt hk
 have hb := (allIn_iff _ _).1 h x (List.mem_of_getElem? hx)
 have hg : ws.getD k ⟨0, 0⟩ = x := by rw [List.getD_eq_getElem?_getD, hx]; rfl
 unfold rootOf
 rw [hg]
 cases inv
 ·exact hb
 ·refine ⟨hb.1, ?_⟩
  have := absI_le.1 hb.2
  exact absI_le.2 (by show -l ≤ -x.im ∧ -x.im ≤ l; omega)
theorem tw_in {fo b p lo ke sc mo : Int} {L n B : Nat} (H : PlF fo b p lo ke sc mo L n B) : allIn (2 ^ B) (tw n B) = true := by
 obtain ⟨_, _, hlen⟩ := H.lens
 rw [allIn_bd, tw_eq]
 rcases H.sizes with ⟨_, _, _, rfl⟩ | ⟨_, _, _, rfl⟩
 ·exact (tw_all15 n hlen).2
 ·exact (tw_all31 n hlen).2
theorem man_wf {fo b p lo ke sc mo : Int} {L n B : Nat} (H : PlF fo b p lo ke sc mo L n B) {xs : List Gi} (hm : ManB p xs) : ∀ a ∈ xs, (Lit.int .i64 a.re).wf = true ∧ (Lit.int .i64 a.im).wf = true := by
 intro a ha
 have h := hm a ha
 have hp : p ≤ 2147483648 := by rcases H.sizes with h | h <;> omega
 exact ⟨WalkArith.wf_i64 (by omega), WalkArith.wf_i64 (by omega)⟩
theorem flip_man {p : Int} {L : Nat} {xs : List Gi} (h : xs.length = 2 ^ L) (hm : ManB p xs) : ManB p (flipL L xs) := fun a ha => hm a (flip_mem h ha)
theorem first_bd (sc p : Int) (xs : List Gi) : -31 ≤ atFirst sc p xs ∧ atFirst sc p xs ≤ 1 := by
 have := room_le p (maxG xs)
 unfold atFirst
 repeat' split
 all_goals omega
theorem first_room {fo b p lo ke sc mo : Int} {L n B : Nat} (H : PlF fo b p lo ke sc mo L n B) {xs ys : List Gi} (hm : ManB p ys) : atFirst sc p xs < 0 → allIn (2 ^ (62 + atFirst sc p xs).toNat) ys = true := by
 intro _
 have hb := first_bd sc p xs
 refine allIn_more hm.all (Int.le_trans (show p ≤ 2 ^ 31 by rcases H.sizes with h | h <;> omega) ?_)
 have : (2 : Nat) ^ 31 ≤ 2 ^ (62 + atFirst sc p xs).toNat := Nat.pow_le_pow_right (by decide) (by omega)
 exact_mod_cast this
theorem behind_sh {sc mo p : Int} {B : Nat} (iv : Bool) (ws : List Gi) : ∀ (l : List Gi) (b0 : BV), (l.foldl (nextB sc mo p iv B ws) b0).sh.length = b0.sh.length + l.length
 | [], b0 => rfl
 | q :: l, b0 => by
   rw [List.foldl_cons, behind_sh iv ws l, List.length_cons]
   simp only [nextB, List.length_append, List.length_singleton]
   omega
theorem behind_ex {sc mo p : Int} {B : Nat} (iv : Bool) (ws : List Gi) : ∀ (l : List Gi) (b0 : BV), b0.ex ≤ (l.foldl (nextB sc mo p iv B ws) b0).ex ∧ (l.foldl (nextB sc mo p iv B ws) b0).ex ≤ b0.ex + 3 * l.length
 | [], b0 => by simp
 | q :: l, b0 => by
   have h := behind_ex (sc := sc) (mo := mo) (p := p) (B := B) iv ws l (nextB sc mo p iv B ws b0 q)
   have hs := shOf_bd sc q.re p b0.X
   rw [List.foldl_cons, List.length_cons]
   simp only [nextB] at h
   simp only [nextB]
   omega
theorem passL_len7 {fo b p lo ke sc mo : Int} {L n B : Nat} (H : PlF fo b p lo ke sc mo L n B) : (passL ke lo).length ≤ 6 ∧ ∀ q ∈ passL ke lo, Fits n q := by
 obtain ⟨hmo, hsc, _, k0, k1⟩ := H.kinds
 obtain ⟨⟨l2, l6⟩, h4, hlen⟩ := H.lens
 have hlo := H.lo
 constructor
 ·have hk : ke = 0 ∨ ke = 1 ∨ ke = 2 := by omega
  have hl : lo = 2 ∨ lo = 3 ∨ lo = 4 ∨ lo = 5 ∨ lo = 6 := by omega
  rcases hk with rfl | rfl | rfl <;> rcases hl with rfl | rfl | rfl | rfl | rfl <;> decide +kernel
 ·have := passL_fits ke lo k0 k1 (by omega) (by omega)
  rw [H.n]
  rw [show lo.toNat = L by omega] at this
  exact this
theorem behind_may {fo b p lo ke sc mo : Int} {L n B : Nat} (H : PlF fo b p lo ke sc mo L n B) (iv : Bool) {xs : List Gi} (hl : xs.length = n) (hm : ManB p xs) (j : Nat) (hj : j ≤ (passL ke lo).length) :
 (behindB ke lo sc mo p iv L B (tw n B) xs j).sh.length = j ∧ -31 ≤ (behindB ke lo sc mo p iv L B (tw n B) xs j).ex ∧ (behindB ke lo sc mo p iv L B (tw n B) xs j).ex ≤ 19 := by
 have h6 := (passL_len7 H).1
 have hb := first_bd sc p xs
 have ht : ((passL ke lo).take j).length = j := by rw [List.length_take]; omega
 have h1 := behind_sh (sc := sc) (mo := mo) (p := p) (B := B) iv (tw n B) ((passL ke lo).take j) (readyB ke sc mo p L xs)
 have h2 := behind_ex (sc := sc) (mo := mo) (p := p) (B := B) iv (tw n B) ((passL ke lo).take j) (readyB ke sc mo p L xs)
 rw [ht] at h1 h2
 unfold behindB
 refine ⟨by rw [h1]; simp [readyB], ?_, ?_⟩
 ·refine Int.le_trans ?_ h2.1
  exact hb.1
 ·refine Int.le_trans h2.2 ?_
  simp only [readyB]
  omega
end
section
set_option linter.unusedVariables false
set_option linter.unusedSimpArgs false
set_option maxRecDepth 100000
def isum (f : Nat → Int) : Nat → Int
 | 0 => 0
 | m + 1 => isum f m + f m
theorem isum_congr {f g : Nat → Int} : ∀ {m : Nat}, (∀ i, i < m → f i = g i) → isum f m = isum g m
 | 0, _ => rfl
 | m + 1, h => by
   unfold isum
   rw [isum_congr (m := m) (fun i hi => h i (by omega)), h m (by omega)]
theorem isum_sub (f g : Nat → Int) : ∀ m, isum (fun i => f i - g i) m = isum f m - isum g m
 | 0 => rfl
 | m + 1 => by
   simp only [isum]
   rw [isum_sub f g m]
   omega
theorem isum_neg (f : Nat → Int) (m : Nat) : isum (fun i => -f i) m = -isum f m := by
 have h := isum_sub (fun _ => 0) f m
 have e : isum (fun _ => (0 : Int)) m = 0 := by
  induction m with
  | zero => rfl
  | succ m ih => unfold isum; rw [ih (by rw [isum_sub])]; rfl
 rw [e] at h
 simpa using h
theorem isum_bd (f : Nat → Int) (l : Int) : ∀ m, (∀ i, i < m → -l ≤ f i ∧ f i ≤ l) → -(m * l) ≤ isum f m ∧ isum f m ≤ m * l
 | 0, _ => by simp [isum]
 | m + 1, h => by
   have h1 := isum_bd f l m (fun i hi => h i (by omega))
   have h2 := h m (by omega)
   have e : ((m + 1 : Nat) : Int) * l = m * l + l := by grind
   rw [e]
   simp only [isum]
   omega
def wv (n : Nat) (iv : Bool) (i : Nat) : Gi := if iv then (rootG n i 16).conj else rootG n i 16
theorem rootG_mod (n : Nat) (i : Nat) (s : Nat) : rootG n ((i % n : Nat) : Int) s = rootG n i s := by
 unfold rootG
 rw [show (((i % n : Nat) : Int) % (n : Int)) = (i : Int) % n by rw [Int.natCast_emod, Int.emod_emod]]
theorem wv_again (n : Nat) (hn : IsLen n) (iv : Bool) (i q : Nat) : wv n iv (i + n * q) = wv n iv i := by
 have h : rootG n ((i + n * q : Nat) : Int) 16 = rootG n i 16 := by
  rw [← rootG_mod n (i + n * q), Nat.add_mul_mod_self_left, rootG_mod]
 unfold wv
 rw [h]
def gneg (a : Gi) : Gi := ⟨-a.re, -a.im⟩
theorem wv_half (n : Nat) (hn : IsLen n) (iv : Bool) (i : Nat) : wv n iv (i + n / 2) = gneg (wv n iv i) := by
 have h : rootG n ((i + n / 2 : Nat) : Int) 16 = gneg (rootG n i 16) := by
  have e : ((i + n / 2 : Nat) : Int) = (i : Int) + (n : Int) / 4 + (n : Int) / 4 := by unfold IsLen at hn; omega
  rw [e, root_quarter n _ hn, root_quarter n _ hn]
  simp [Gi.turn, gneg]
 unfold wv
 rw [h]
 cases iv <;> simp [gneg, Gi.conj]
theorem wv_zero (n : Nat) (hn : IsLen n) (iv : Bool) : wv n iv 0 = ⟨1099511627776, 0⟩ := by
 have h := root_zero n hn 16 (by omega) (by omega)
 unfold wv
 rw [show ((0 : Nat) : Int) = 0 from rfl, h]
 cases iv <;> rfl
theorem wv_back (n : Nat) (hn : IsLen n) (j k k' : Nat) (hk : (k + k') % n = 0) : wv n true (j * k') = wv n false (j * k) := by
 have hb := root_back n (j * k : Nat) hn 16 (by omega) (by omega)
 have e : rootG n (-((j * k : Nat) : Int)) 16 = rootG n ((j * k' : Nat) : Int) 16 := by
  unfold rootG
  have : (-((j * k : Nat) : Int)) % (n : Int) = ((j * k' : Nat) : Int) % n := by
   obtain ⟨q, hq⟩ : ∃ q, k + k' = n * q := ⟨(k + k') / n, by have := Nat.div_add_mod (k + k') n; omega⟩
   have e2 : ((j * k' : Nat) : Int) = -((j * k : Nat) : Int) + (n : Int) * (j * q : Nat) := by
    have : j * k + j * k' = n * (j * q) := by rw [← Nat.mul_add, hq, Nat.mul_left_comm]
    have h2 : ((j * k : Nat) : Int) + ((j * k' : Nat) : Int) = (n : Int) * ((j * q : Nat) : Int) := by exact_mod_cast this
    omega
   rw [e2, Int.add_mul_emod_self_left]
  rw [this]
 rw [e] at hb
 unfold wv
 simp only [if_true, Bool.false_eq_true, if_false]
 rw [hb]
 simp [Gi.conj]
def termG (n : Nat) (xs : List Gi) (iv : Bool) (k j : Nat) : Gi := gmul (xs.getD j ⟨0, 0⟩) (wv n iv (j * k))
def sumG (n : Nat) (xs : List Gi) (iv : Bool) (k m : Nat) : Gi := ⟨isum (fun j => (termG n xs iv k j).re) m, isum (fun j => (termG n xs iv k j).im) m⟩
def binG (n : Nat) (xs : List Gi) (iv : Bool) (k : Nat) : Gi := ⟨(sumG n xs iv k n).re / 4294967296, (sumG n xs iv k n).im / 4294967296⟩
def A64L : List Gi := [⟨1099511627776, 0⟩, ⟨1094217178761, -107770985514⟩, ⟨1078384820155, -214504077523⟩, ⟨1052167026225, -319171378007⟩, ⟨1015816288660, -420764883643⟩, ⟨969682684934, -518306193436⟩, ⟨914210506869, -610855931251⟩, ⟨849933981865, -697522792521⟩, ⟨777472127994, -777472127994⟩, ⟨697522792521, -849933981865⟩, ⟨610855931251, -914210506869⟩, ⟨518306193436, -969682684934⟩, ⟨420764883643, -1015816288660⟩, ⟨319171378007, -1052167026225⟩, ⟨214504077523, -1078384820155⟩, ⟨107770985514, -1094217178761⟩, ⟨0, -1099511627776⟩, ⟨-107770985514, -1094217178761⟩, ⟨-214504077523, -1078384820155⟩, ⟨-319171378007, -1052167026225⟩, ⟨-420764883643, -1015816288660⟩, ⟨-518306193436, -969682684934⟩, ⟨-610855931251, -914210506869⟩, ⟨-697522792521, -849933981865⟩, ⟨-777472127994, -777472127994⟩, ⟨-849933981865, -697522792521⟩, ⟨-914210506869, -610855931251⟩, ⟨-969682684934, -518306193436⟩, ⟨-1015816288660, -420764883643⟩, ⟨-1052167026225, -319171378007⟩, ⟨-1078384820155, -214504077523⟩, ⟨-1094217178761, -107770985514⟩, ⟨-1099511627776, 0⟩, ⟨-1094217178761, 107770985514⟩, ⟨-1078384820155, 214504077523⟩, ⟨-1052167026225, 319171378007⟩, ⟨-1015816288660, 420764883643⟩, ⟨-969682684934, 518306193436⟩, ⟨-914210506869, 610855931251⟩, ⟨-849933981865, 697522792521⟩, ⟨-777472127994, 777472127994⟩, ⟨-697522792521, 849933981865⟩, ⟨-610855931251, 914210506869⟩, ⟨-518306193436, 969682684934⟩, ⟨-420764883643, 1015816288660⟩, ⟨-319171378007, 1052167026225⟩, ⟨-214504077523, 1078384820155⟩, ⟨-107770985514, 1094217178761⟩, ⟨0, 1099511627776⟩, ⟨107770985514, 1094217178761⟩, ⟨214504077523, 1078384820155⟩, ⟨319171378007, 1052167026225⟩, ⟨420764883643, 1015816288660⟩, ⟨518306193436, 969682684934⟩, ⟨610855931251, 914210506869⟩, ⟨697522792521, 849933981865⟩, ⟨777472127994, 777472127994⟩, ⟨849933981865, 697522792521⟩, ⟨914210506869, 610855931251⟩, ⟨969682684934, 518306193436⟩, ⟨1015816288660, 420764883643⟩, ⟨1052167026225, 319171378007⟩, ⟨1078384820155, 214504077523⟩, ⟨1094217178761, 107770985514⟩]
def atA (i : Nat) : Gi := A64L.getD (i % 64) ⟨0, 0⟩
theorem A64_all : ((List.range 64).all fun k : Nat => decide ((rootG 64 k 16).re = (atA k).re) && decide ((rootG 64 k 16).im = (atA k).im)) = true := by decide +kernel
theorem root64 (k : Nat) : rootG 64 k 16 = atA k := by
 have h := List.all_eq_true.1 A64_all (k % 64) (List.mem_range.2 (Nat.mod_lt _ (by decide)))
 simp only [Bool.and_eq_true, decide_eq_true_eq] at h
 have e := rootG_mod 64 k 16
 rw [show ((64 : Nat) : Int) = 64 from rfl] at e
 rw [e] at h
 have ea : atA (k % 64) = atA k := by unfold atA; rw [Nat.mod_mod]
 rw [ea] at h
 exact Gi.ext2 h.1 h.2
theorem root_in64 (n : Nat) (hn : IsLen n) : ∃ q : Nat, ∀ k : Nat, rootG n k 16 = atA (k * q) := by
 have h2 := fun (m n : Nat) (hm : (m : Int) = 4 ∨ (m : Int) = 8 ∨ (m : Int) = 16 ∨ (m : Int) = 32) (e : (n : Int) = 2 * m) (k : Nat) => root_half n m k hm e 16
 have c : n = 4 ∨ n = 8 ∨ n = 16 ∨ n = 32 ∨ n = 64 := by unfold IsLen at hn; omega
 have s5 : ∀ k : Nat, rootG 64 k 16 = atA (k * 1) := fun k => by rw [Nat.mul_one]; exact root64 k
 have s4 : ∀ k : Nat, rootG 32 k 16 = atA (k * 2) := fun k => by
  have := h2 32 64 (by decide) (by decide) k
  rw [show (k : Int) * 2 = ((k * 2 : Nat) : Int) by omega] at this
  exact this.trans (root64 _)
 have s3 : ∀ k : Nat, rootG 16 k 16 = atA (k * 4) := fun k => by
  have := h2 16 32 (by decide) (by decide) k
  rw [show (k : Int) * 2 = ((k * 2 : Nat) : Int) by omega] at this
  exact this.trans ((s4 _).trans (by rw [Nat.mul_assoc]))
 have s2 : ∀ k : Nat, rootG 8 k 16 = atA (k * 8) := fun k => by
  have := h2 8 16 (by decide) (by decide) k
  rw [show (k : Int) * 2 = ((k * 2 : Nat) : Int) by omega] at this
  exact this.trans ((s3 _).trans (by rw [Nat.mul_assoc]))
 have s1 : ∀ k : Nat, rootG 4 k 16 = atA (k * 16) := fun k => by
  have := h2 4 8 (by decide) (by decide) k
  rw [show (k : Int) * 2 = ((k * 2 : Nat) : Int) by omega] at this
  exact this.trans ((s2 _).trans (by rw [Nat.mul_assoc]))
 rcases c with rfl | rfl | rfl | rfl | rfl
 ·exact ⟨16, s1⟩
 ·exact ⟨8, s2⟩
 ·exact ⟨4, s3⟩
 ·exact ⟨2, s4⟩
 ·exact ⟨1, s5⟩
def gsubS (a b : Gi) : Gi := ⟨a.re - b.re, a.im - b.im⟩
def gup (s : Int) (a : Gi) : Gi := ⟨a.re * s, a.im * s⟩
theorem A64_prods : ((List.range 64).all fun a : Nat => (List.range 64).all fun b : Nat => decide (nq (gsubS (gmul (atA a) (atA b)) (gup 1099511627776 (atA (a + b)))) ≤ 2720083094132915643088896)) = true := by decide +kernel
theorem A64_lens : ((List.range 64).all fun a : Nat => decide (nq (atA a) ≤ 1208925819616828197961729)) = true := by decide +kernel
theorem prod_near (n : Nat) (hn : IsLen n) (iv : Bool) (a b : Nat) : Len 1649267441664 (gsubS (gmul (wv n iv a) (wv n iv b)) (gup 1099511627776 (wv n iv (a + b)))) := by
 obtain ⟨q, hq⟩ := root_in64 n hn
 have h := List.all_eq_true.1 A64_prods (a * q % 64) (List.mem_range.2 (Nat.mod_lt _ (by decide)))
 have h := of_decide_eq_true (List.all_eq_true.1 h (b * q % 64) (List.mem_range.2 (Nat.mod_lt _ (by decide))))
 have e1 : ∀ i, atA (i % 64) = atA i := fun i => by unfold atA; rw [Nat.mod_mod]
 have e2 : atA (a * q % 64 + b * q % 64) = atA ((a + b) * q) := by rw [← e1 (a * q % 64 + b * q % 64), ← Nat.add_mod, e1, Nat.add_mul]
 rw [e2, e1, e1] at h
 unfold Len
 have hw : wv n iv a = (if iv then (atA (a * q)).conj else atA (a * q)) ∧ wv n iv b = (if iv then (atA (b * q)).conj else atA (b * q)) ∧ wv n iv (a + b) = (if iv then (atA ((a + b) * q)).conj else atA ((a + b) * q)) := by
  unfold wv
  rw [hq, hq, hq]
  exact ⟨rfl, rfl, rfl⟩
 rw [hw.1, hw.2.1, hw.2.2]
 generalize atA (a * q) = x at *
 generalize atA (b * q) = y at *
 generalize atA ((a + b) * q) = z at *
 unfold nq at h
 refine Int.le_trans (Int.le_of_eq ?_) h
 cases iv
 ·rfl
 ·simp only [if_true, gsubS, gmul, gup, Gi.conj]
  grind
theorem wv_len (n : Nat) (hn : IsLen n) (iv : Bool) (a : Nat) : Len 1099511627777 (wv n iv a) := by
 obtain ⟨q, hq⟩ := root_in64 n hn
 have h := of_decide_eq_true (List.all_eq_true.1 A64_lens (a * q % 64) (List.mem_range.2 (Nat.mod_lt _ (by decide))))
 have e1 : ∀ i, atA (i % 64) = atA i := fun i => by unfold atA; rw [Nat.mod_mod]
 rw [e1] at h
 unfold wv
 rw [hq]
 unfold Len
 unfold nq at h
 cases iv
 ·exact h
 ·simp only [if_true, Gi.conj]
  refine Int.le_trans (Int.le_of_eq ?_) h
  grind
theorem tw_nears : ([4, 8, 16, 32, 64].all fun n : Nat => (List.range n).all fun k : Nat => decide (nq (gsubS (gup 134217728 (rootG n k 43)) (rootG n k 16)) ≤ 5241760000000000) && decide (nq (gsubS (gup 2048 (rootG n k 27)) (rootG n k 16)) ≤ 2073600)) = true := by decide +kernel
theorem gi_eq {a b : Gi} (h1 : a.re = b.re) (h2 : a.im = b.im) : a = b := Gi.ext2 h1 h2
def csum (f : Nat → Gi) (m : Nat) : Gi := ⟨isum (fun t => (f t).re) m, isum (fun t => (f t).im) m⟩
theorem csum_next (f : Nat → Gi) (m : Nat) : csum f (m + 1) = gadd (csum f m) (f m) := rfl
theorem csum_len (f : Nat → Gi) (R : Int) (hR : 0 ≤ R) : ∀ m, (∀ t, t < m → Len R (f t)) → Len (m * R) (csum f m)
 | 0, _ => by
   have : csum f 0 = ⟨0, 0⟩ := rfl
   rw [this]
   exact Len.zero _
 | m + 1, h => by
   have h1 := csum_len f R hR m (fun t ht => h t (by omega))
   rw [csum_next, show ((m + 1 : Nat) : Int) * R = m * R + R by grind]
   exact Len.add (Int.mul_nonneg (by omega) hR) hR h1 (h m (by omega))
theorem csum_congr {f g : Nat → Gi} {m : Nat} (h : ∀ t, t < m → f t = g t) : csum f m = csum g m := by
 unfold csum
 rw [isum_congr (f := fun t => (f t).re) (g := fun t => (g t).re) (fun t ht => by rw [h t ht]), isum_congr (f := fun t => (f t).im) (g := fun t => (g t).im) (fun t ht => by rw [h t ht])]
theorem csum_mul (f : Nat → Gi) (w : Gi) : ∀ m, gmul (csum f m) w = csum (fun t => gmul (f t) w) m
 | 0 => by simp [csum, isum, gmul]
 | m + 1 => by
   rw [csum_next, csum_next, ← csum_mul f w m]
   apply gi_eq <;> simp only [gmul, gadd] <;> grind
theorem csum_up (f : Nat → Gi) (s : Int) : ∀ m, gup s (csum f m) = csum (fun t => gup s (f t)) m
 | 0 => by simp [csum, isum, gup]
 | m + 1 => by
   rw [csum_next, csum_next, ← csum_up f s m]
   apply gi_eq <;> simp only [gup, gadd] <;> grind
theorem csum_sub (f g : Nat → Gi) : ∀ m, gsubS (csum f m) (csum g m) = csum (fun t => gsubS (f t) (g t)) m
 | 0 => by simp [csum, isum, gsubS]
 | m + 1 => by
   rw [csum_next, csum_next, csum_next, ← csum_sub f g m]
   apply gi_eq <;> simp only [gsubS, gadd] <;> omega
theorem isum_two_parts (f : Nat → Int) : ∀ m, isum f (2 * m) = isum (fun t => f (2 * t)) m + isum (fun t => f (2 * t + 1)) m
 | 0 => rfl
 | m + 1 => by
   rw [show 2 * (m + 1) = 2 * m + 1 + 1 by omega]
   simp only [isum]
   rw [isum_two_parts f m]
   omega
theorem csum_parts (f : Nat → Gi) (m : Nat) : csum f (2 * m) = gadd (csum (fun t => f (2 * t)) m) (csum (fun t => f (2 * t + 1)) m) := by
 apply gi_eq
 ·exact isum_two_parts _ m
 ·exact isum_two_parts _ m
def fsum (n : Nat) (xs : List Gi) (iv : Bool) (s d e g m : Nat) : Gi := csum (fun t => gmul (xs.getD (s + d * t) ⟨0, 0⟩) (wv n iv (e + g * t))) m
theorem fsum_parts (n : Nat) (xs : List Gi) (iv : Bool) (s d g m : Nat) : fsum n xs iv s d 0 g (2 * m) = gadd (fsum n xs iv s (2 * d) 0 (2 * g) m) (fsum n xs iv (s + d) (2 * d) g (2 * g) m) := by
 unfold fsum
 rw [csum_parts]
 congr 1
 ·exact csum_congr fun t _ => by rw [show d * (2 * t) = 2 * d * t by rw [Nat.mul_left_comm, Nat.mul_assoc], show g * (2 * t) = 2 * g * t by rw [Nat.mul_left_comm, Nat.mul_assoc]]
 ·exact csum_congr fun t _ => by
   rw [show s + d * (2 * t + 1) = s + d + 2 * d * t by rw [Nat.mul_add, Nat.mul_left_comm, Nat.mul_assoc]; omega, show 0 + g * (2 * t + 1) = g + 2 * g * t by rw [Nat.mul_add, Nat.mul_left_comm, Nat.mul_assoc]; omega]
theorem fsum_turns (n : Nat) (hn : IsLen n) (xs : List Gi) (iv : Bool) (s d e e' g g' m : Nat) (he : ∃ q, e' = e + n * q) (hg : ∃ q, g' = g + n * q) : fsum n xs iv s d e' g' m = fsum n xs iv s d e g m := by
 obtain ⟨q, rfl⟩ := he
 obtain ⟨r, rfl⟩ := hg
 unfold fsum
 exact csum_congr fun t _ => by rw [show e + n * q + (g + n * r) * t = e + g * t + n * (q + r * t) by rw [Nat.add_mul, Nat.mul_add, Nat.mul_assoc n r t]; omega, wv_again n hn]
theorem fsum_half (n : Nat) (hn : IsLen n) (xs : List Gi) (iv : Bool) (s d e g m : Nat) : fsum n xs iv s d (e + n / 2) g m = gneg (fsum n xs iv s d e g m) := by
 unfold fsum
 have h : ∀ f : Nat → Gi, csum (fun t => gneg (f t)) m = gneg (csum f m) := fun f => by
  apply gi_eq
  ·exact isum_neg _ m
  ·exact isum_neg _ m
 rw [← h]
 exact csum_congr fun t _ => by
  rw [show e + n / 2 + g * t = e + g * t + n / 2 by omega, wv_half n hn]
  apply gi_eq <;> simp only [gmul, gneg] <;> grind
theorem fsum_moved (n : Nat) (hn : IsLen n) (xs : List Gi) (iv : Bool) (s d e g m : Nat) (X : Int) (hX : 0 ≤ X) (hx : ∀ j, Len X (xs.getD j ⟨0, 0⟩)) :
 Len (m * (X * 1649267441664)) (gsubS (gmul (fsum n xs iv s d 0 g m) (wv n iv e)) (gup 1099511627776 (fsum n xs iv s d e g m))) := by
 unfold fsum
 rw [csum_mul, csum_up, csum_sub]
 refine csum_len _ _ (Int.mul_nonneg hX (by decide)) m fun t _ => ?_
 have h := Len.mul hX (hx (s + d * t)) (prod_near n hn iv (0 + g * t) e)
 rw [show 0 + g * t + e = e + g * t by omega] at h
 refine Eq.mp (congrArg _ ?_) h
 apply gi_eq <;> simp only [gmul, gsubS, gup] <;> grind
def Near (e : Int) (pow : Nat) (c V : Gi) : Prop := Len (e * 2 ^ (pow + 40)) (gsubS (gup (64 * 2 ^ (pow + 40)) c) (gup 64 V))
theorem Len.up {R s : Int} {a : Gi} (hs : 0 ≤ s) (h : Len R a) : Len (R * s) (gup s a) := by
 unfold Len gup
 unfold Len at h
 simp only
 have e1 : a.re * s * (a.re * s) + a.im * s * (a.im * s) = (a.re * a.re + a.im * a.im) * (s * s) := by grind
 have e2 : R * s * (R * s) = R * R * (s * s) := by grind
 rw [e1, e2]
 exact Int.mul_le_mul_of_nonneg_right h (Int.mul_nonneg hs hs)
theorem Len.down {R s : Int} {a : Gi} (hs : 0 < s) (h : Len (R * s) (gup s a)) : Len R a := by
 unfold Len gup at h
 unfold Len
 simp only at h
 have e1 : a.re * s * (a.re * s) + a.im * s * (a.im * s) = (a.re * a.re + a.im * a.im) * (s * s) := by grind
 have e2 : R * s * (R * s) = R * R * (s * s) := by grind
 rw [e1, e2] at h
 exact Int.le_of_mul_le_mul_right h (Int.mul_pos hs hs)
theorem near_rnd (x : Int) (n : Nat) (mo : Int) (hm : mo = 0 ∨ mo = 1 ∨ mo = 2) : -(2 ^ n) ≤ 2 ^ n * rnd x n mo - x ∧ 2 ^ n * rnd x n mo - x ≤ 2 ^ n := by
 have hp : (0 : Int) < 2 ^ n := Int.pow_pos (by decide)
 have h1 := Int.emod_nonneg x (Int.ne_of_gt hp)
 have h2 := Int.emod_lt_of_pos x hp
 have h3 := Int.mul_ediv_add_emod x (2 ^ n)
 unfold rnd
 generalize (2 : Int) ^ n = P at *
 generalize x / P = q at *
 generalize x % P = r at *
 cases goesUp mo q r P
 ·simp only [cond_false]
  omega
 ·simp only [cond_true, Int.mul_add, Int.mul_one]
  omega
theorem gnear_rnd (n : Nat) (mo : Int) (hm : mo = 0 ∨ mo = 1 ∨ mo = 2) (a : Gi) : Len (91 * 2 ^ n) (gup 64 (gsubS (gup (2 ^ n) (grnd n mo a)) a)) := by
 have h1 := near_rnd a.re n mo hm
 have h2 := near_rnd a.im n mo hm
 have hp : (0 : Int) < 2 ^ n := Int.pow_pos (by decide)
 unfold Len gup gsubS grnd
 simp only
 rw [Int.mul_comm (rnd a.re n mo), Int.mul_comm (rnd a.im n mo)]
 generalize 2 ^ n * rnd a.re n mo - a.re = x at *
 generalize 2 ^ n * rnd a.im n mo - a.im = y at *
 generalize (2 : Int) ^ n = P at *
 have s1 : x * x ≤ P * P := by
  have : 0 ≤ (P - x) * (P + x) := Int.mul_nonneg (by omega) (by omega)
  have e : (P - x) * (P + x) = P * P - x * x := by grind
  omega
 have s2 : y * y ≤ P * P := by
  have : 0 ≤ (P - y) * (P + y) := Int.mul_nonneg (by omega) (by omega)
  have e : (P - y) * (P + y) = P * P - y * y := by grind
  omega
 have e1 : x * 64 * (x * 64) + y * 64 * (y * 64) = 4096 * (x * x) + 4096 * (y * y) := by grind
 have e2 : 91 * P * (91 * P) = 8281 * (P * P) := by grind
 rw [e1, e2]
 have hPP := Int.mul_nonneg (Int.le_of_lt hp) (Int.le_of_lt hp)
 omega
theorem term_near {e R δ H : Int} {pow B : Nat} {c V w A U : Gi} (he : 0 ≤ e) (hR : 0 ≤ R) (hδ : 0 ≤ δ) (hH : 0 ≤ H) (hB : B ≤ 40) (hc : Near e pow c V) (hcR : Len R c) (hw : Len δ (gsubS (gup (2 ^ (40 - B)) w) A)) (hA : Len 1099511627777 A) (hU : Len H (gsubS (gmul V A) (gup 1099511627776 U))) :
 Len (64 * 2 ^ (pow + 40) * (R * δ) + e * 2 ^ (pow + 40) * 1099511627777 + 64 * H) (gup 1099511627776 (gsubS (gup (64 * 2 ^ (pow + 40 - B)) (gmul c w)) (gup 64 U))) := by
 have hp : (0 : Int) ≤ 2 ^ (pow + 40) := Int.le_of_lt (Int.pow_pos (by decide))
 have t1 := Len.up (s := 64 * 2 ^ (pow + 40)) (by omega) (Len.mul hR hcR hw)
 have t2 := Len.mul (Int.mul_nonneg he hp) hc hA
 have t3 := Len.up (s := 64) (by decide) hU
 have hs := Len.add (Int.add_nonneg (Int.mul_nonneg (Int.mul_nonneg hR hδ) (by omega)) (Int.mul_nonneg (Int.mul_nonneg he hp) (by decide))) (Int.mul_nonneg hH (by decide)) (Len.add (Int.mul_nonneg (Int.mul_nonneg hR hδ) (by omega)) (Int.mul_nonneg (Int.mul_nonneg he hp) (by decide)) t1 t2) t3
 have eR : R * δ * (64 * 2 ^ (pow + 40)) + e * 2 ^ (pow + 40) * 1099511627777 + H * 64 = 64 * 2 ^ (pow + 40) * (R * δ) + e * 2 ^ (pow + 40) * 1099511627777 + 64 * H := by grind
 rw [eR] at hs
 have ep : (2 : Int) ^ (pow + 40 - B) * 1099511627776 = 2 ^ (pow + 40) * 2 ^ (40 - B) := by
  have h1 : (2 : Int) ^ (pow + 40) = 2 ^ (pow + 40 - B) * 2 ^ B := by rw [← Int.pow_add]; congr 1; omega
  have h2 : (2 : Int) ^ B * 2 ^ (40 - B) = 1099511627776 := by rw [← Int.pow_add, show B + (40 - B) = 40 by omega]; rfl
  rw [h1, Int.mul_assoc, h2]
 refine Eq.mp (congrArg _ ?_) hs
 generalize (2 : Int) ^ (pow + 40 - B) = S at *
 generalize (2 : Int) ^ (pow + 40) = P at *
 generalize (2 : Int) ^ (40 - B) = Q at *
 clear hs t1 t2 t3 eR hc hcR hw hA hU
 apply gi_eq
 ·simp only [gmul, gsubS, gup, gadd]
  grind
 ·simp only [gmul, gsubS, gup, gadd]
  grind
def Terms (K : Int) (pow B : Nat) (T U : Gi) : Prop := Len K (gup 1099511627776 (gsubS (gup (64 * 2 ^ (pow + 40 - B)) T) (gup 64 U)))
theorem Terms.add {K K' : Int} {pow B : Nat} {T U T' U' : Gi} (hK : 0 ≤ K) (hK' : 0 ≤ K') (h : Terms K pow B T U) (h' : Terms K' pow B T' U') : Terms (K + K') pow B (gadd T T') (gadd U U') := by
 have hs := Len.add hK hK' h h'
 unfold Terms
 refine Eq.mp (congrArg _ ?_) hs
 apply gi_eq <;> simp only [gadd, gup, gsubS] <;> grind
theorem sum_near {e e' K : Int} {pow B s : Nat} {mo : Int} {c V T U : Gi} (hm : mo = 0 ∨ mo = 1 ∨ mo = 2) (he : 0 ≤ e) (hK0 : 0 ≤ K) (hB : B ≤ 40) (hc : Near e pow c V) (hT : Terms K pow B T U)
 (hK : 91 * 2 ^ (pow + s + 40) * 1099511627776 + e * 2 ^ (pow + 40) * 1099511627776 + K ≤ e' * 2 ^ (pow + s + 40) * 1099511627776) : Near e' (pow + s) (grnd (B + s) mo (gadd (gscale B c) T)) (gadd V U) := by
 have hp : (0 : Int) ≤ 2 ^ (pow + 40) := Int.le_of_lt (Int.pow_pos (by decide))
 have hps : (0 : Int) ≤ 2 ^ (pow + s + 40) := Int.le_of_lt (Int.pow_pos (by decide))
 have hpB : (0 : Int) ≤ 2 ^ (pow + 40 - B) := Int.le_of_lt (Int.pow_pos (by decide))
 have eB : (2 : Int) ^ (pow + 40 - B) * 2 ^ (B + s) = 2 ^ (pow + s + 40) := by rw [← Int.pow_add]; congr 1; omega
 have eP : (2 : Int) ^ (pow + 40 - B) * 2 ^ B = 2 ^ (pow + 40) := by rw [← Int.pow_add]; congr 1; omega
 have t1 := Len.up (s := 2 ^ (pow + 40 - B) * 1099511627776) (by omega) (gnear_rnd (B + s) mo hm (gadd (gscale B c) T))
 have t2 := Len.up (s := 1099511627776) (by decide) hc
 have e1 : 91 * 2 ^ (B + s) * (2 ^ (pow + 40 - B) * 1099511627776) = 91 * (2 : Int) ^ (pow + s + 40) * 1099511627776 := by rw [← eB]; grind
 rw [e1] at t1
 have hs := Len.add (Int.add_nonneg (by omega) (Int.mul_nonneg (Int.mul_nonneg he hp) (by decide))) hK0 (Len.add (by omega) (Int.mul_nonneg (Int.mul_nonneg he hp) (by decide)) t1 t2) hT
 have hs := Len.mono (Int.add_nonneg (Int.add_nonneg (by omega) (Int.mul_nonneg (Int.mul_nonneg he hp) (by decide))) hK0) hs hK
 unfold Near
 refine Len.down (s := 1099511627776) (by decide) ?_
 refine Eq.mp (congrArg _ ?_) hs
 generalize grnd (B + s) mo (gadd (gscale B c) T) = r at *
 simp only [gscale, gadd, gup, gsubS]
 generalize (2 : Int) ^ (pow + 40 - B) = S at *
 generalize (2 : Int) ^ (pow + 40) = P at *
 generalize (2 : Int) ^ (pow + s + 40) = Q at *
 generalize (2 : Int) ^ (B + s) = W at *
 generalize (2 : Int) ^ B = Z at *
 clear hs t1 t2 hT hc hK e1
 apply gi_eq
 ·simp only
  grind
 ·simp only
  grind
end
end Go.Proofs.YtdignnmpfkgkoaaGreat
