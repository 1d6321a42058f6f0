import Derived.Test.YtdignnmpfkgkoaaGreatRealUntanglesS23
import Derived.Test.YtdignnmpfkgkoaaGreatRealUntanglesS32
import Derived.Test.YtdignnmpfkgkoaaGreatRealUntanglesS33
namespace Go.Proofs.YtdignnmpfkgkoaaGreat
section
open Go.ChangeShapes Go.WideShapes Go.ChangeAt Go.RowKit
set_option linter.unusedVariables false
set_option linter.unusedSimpArgs false
set_option maxRecDepth 100000
theorem len_start (a : Gi) (l R : Int) (h : 2 * (l * l) ≤ R * R) (hl : 0 ≤ l) (ha : absI a.re ≤ l ∧ absI a.im ≤ l) : Len R a := by
 unfold Len
 have key : ∀ x, absI x ≤ l → x * x ≤ l * l := by
  intro x hx
  have := Int.mul_le_mul hx hx (absI_nonneg x) hl
  refine Int.le_trans (Int.le_of_eq ?_) this
  unfold absI
  split
  ·rw [Int.neg_mul_neg]
  ·rfl
 have h1 := key _ ha.1
 have h2 := key _ ha.2
 omega
set_option maxHeartbeats 2000000 in
theorem sRun_ok_15 (px : Option Addr) (cx n L : Nat) (mo : Int) (inv : Bool) (xs : List Gi) (hl : xs.length = n) (hL : IsLog (n : Int) L) (m0 : 0 ≤ mo) (m1 : mo ≤ 2) (hx : allIn 16384 xs = true) (w : World) (vx : CxsAt w (.slice px n cx) xs) :
 Calls Tryz.prog 111 #[.slice px n cx, .int .i64 0, .int .i64 mo, .bool inv] w fun e w' => ∃ v, e = .returned (.tuple #[v, .int .i64 0]) ∧ CxsAt w' v (sL 13 mo inv (rootsL n (56 - 13)) L xs) ∧ Gr w w' := by
 have HL := Lib.hid (log08_yes n L hL)
 have HB := Lib.hid (bits_c 0 15 32768 (by unfold FB; omega))
 have HM := Lib.hid (sMayBe_yes 13 mo inv (by unfold SetsOk3; omega))
 have HW := Lib.hid fun W (v : CxsAt W (.slice px n cx) xs) => sWithin_c (.slice px n cx) xs 16384 (by omega) (by omega) W v
 rw [hx] at HW
 obtain ⟨l0, l1, hn⟩ := hL
 have hn2 : n = 2 ^ L := by exact Int.ofNat.inj hn
 have hnl : (n : Int) = 2 ^ (L : Int).toNat := by rw [hn2, Int.toNat_natCast]; simp
 have hN : IsLen n := len_log n L (by omega) (by omega) hnl
 have HT := Lib.hid (rTwiddles_ok L n 0 15 32768 (by omega) (by omega) hnl (by unfold FB; omega))
 rw [show (56 - ((15 : Int) - 2)).toNat = 56 - 13 from rfl] at HT
 have hall := (allIn_iff 16384 xs).1 hx
 have HTR := Lib.hid fun pw cw W (v1 : CxsAt W (.slice px n cx) xs) (v2 : CxsAt W (.slice pw n cw) (rootsL n (56 - 13))) => sTransform_c 13 mo inv (rootsL n (56 - 13)) L n l1 hn2 (by rw [rootsL_len]; omega) (by omega) m0 m1
  (fun k => roots_len n hN 13 (by omega) (by omega) inv k) (fun k hk => roots_in n hN 13 (by omega) (by omega) k (by omega)) 23171 (by omega) (by decide) pw cw L (Nat.le_refl _) xs px cx W (by rw [hl, hn2])
  (fun j hj => by
   have hjl : j < xs.length := by rw [hl, hn2]; exact hj
   rw [List.getD_eq_getElem?_getD, List.getElem?_eq_getElem hjl]
   have h := hall _ (List.getElem_mem hjl)
   exact len_start _ 16384 23171 (by decide) (by omega) h) (by rw [← hn2]; exact v1) v2
 rw [← hn2] at HTR
 clear l0 l1 hn hN hnl hall hx m0 m1 hn2 hl
 generalize sL 13 mo inv (rootsL n (56 - 13)) L xs = RL at *
 have hwl := rootsL_len n (56 - 13)
 generalize rootsL n (56 - 13) = ws at *
 go_enter Tryz.func111, Tryz.ntmps111
 go_wp2_with (first | (go_at_call 34; refine (HL.out _).mono ?_; rintro e wz ⟨rfl, hwz⟩; subst wz) | (go_at_call 58; refine (HB.out _).mono ?_; rintro e wz ⟨rfl, hwz⟩; subst wz))
 have R0 := CellsAt.new w 181 #[.int .i64 13, .int .i64 mo, .bool inv]
 refine (HM.out _).mono ?_
 rintro e w1 ⟨rfl, g1⟩
 have R1 := R0.gr g1
 have g1' := Gr.trans ((Gr.refl w).alloc _ _) g1
 have vx1 := vx.gr g1'
 clear R0 g1
 go_wp2_with fail
 refine (HW.out _ vx1).mono ?_
 rintro e w2 ⟨rfl, g2⟩
 have R2 := R1.gr g2
 have vx2 := vx1.gr g2
 have z2 := g1'.trans g2
 clear R1 g2 g1' vx1 vx
 go_wp2_with fail
 refine (HT.out _).mono ?_
 rintro e w3 ⟨v3, rfl, hv3, g3⟩
 obtain ⟨pw, cw, hvw⟩ := hv3.len
 rw [hwl, Int.toNat_natCast] at hvw
 subst hvw
 have R3 := R2.gr g3
 have vx3 := vx2.gr g3
 have z3 := z2.trans g3
 have c0 := R3.cell 0
 have c1 := R3.cell 1
 have c2 := R3.cell 2
 simp only [getS] at c0 c1 c2
 have lR := R3.lt
 clear R2 vx2 z2 g3
 go_wp2_with fail
 refine (HTR.out pw cw _ vx3 hv3).mono ?_
 rintro e w4 ⟨v4, rfl, hv4, g4⟩
 go_wp2_with fail
 go_ret2
 exact ⟨_, rfl, hv4, z3.trans g4⟩
set_option maxHeartbeats 2000000 in
theorem sRun_ok_31 (px : Option Addr) (cx n L : Nat) (mo : Int) (inv : Bool) (xs : List Gi) (hl : xs.length = n) (hL : IsLog (n : Int) L) (m0 : 0 ≤ mo) (m1 : mo ≤ 2) (hx : allIn 1073741824 xs = true) (w : World) (vx : CxsAt w (.slice px n cx) xs) :
 Calls Tryz.prog 111 #[.slice px n cx, .int .i64 1, .int .i64 mo, .bool inv] w fun e w' => ∃ v, e = .returned (.tuple #[v, .int .i64 0]) ∧ CxsAt w' v (sL 29 mo inv (rootsL n (56 - 29)) L xs) ∧ Gr w w' := by
 have HL := Lib.hid (log08_yes n L hL)
 have HB := Lib.hid (bits_c 1 31 2147483648 (by unfold FB; omega))
 have HM := Lib.hid (sMayBe_yes 29 mo inv (by unfold SetsOk3; omega))
 have HW := Lib.hid fun W (v : CxsAt W (.slice px n cx) xs) => sWithin_c (.slice px n cx) xs 1073741824 (by omega) (by omega) W v
 rw [hx] at HW
 obtain ⟨l0, l1, hn⟩ := hL
 have hn2 : n = 2 ^ L := by exact Int.ofNat.inj hn
 have hnl : (n : Int) = 2 ^ (L : Int).toNat := by rw [hn2, Int.toNat_natCast]; simp
 have hN : IsLen n := len_log n L (by omega) (by omega) hnl
 have HT := Lib.hid (rTwiddles_ok L n 1 31 2147483648 (by omega) (by omega) hnl (by unfold FB; omega))
 rw [show (56 - ((31 : Int) - 2)).toNat = 56 - 29 from rfl] at HT
 have hall := (allIn_iff 1073741824 xs).1 hx
 have HTR := Lib.hid fun pw cw W (v1 : CxsAt W (.slice px n cx) xs) (v2 : CxsAt W (.slice pw n cw) (rootsL n (56 - 29))) => sTransform_c 29 mo inv (rootsL n (56 - 29)) L n l1 hn2 (by rw [rootsL_len]; omega) (by omega) m0 m1
  (fun k => roots_len n hN 29 (by omega) (by omega) inv k) (fun k hk => roots_in n hN 29 (by omega) (by omega) k (by omega)) 1518500250 (by omega) (by decide) pw cw L (Nat.le_refl _) xs px cx W (by rw [hl, hn2])
  (fun j hj => by
   have hjl : j < xs.length := by rw [hl, hn2]; exact hj
   rw [List.getD_eq_getElem?_getD, List.getElem?_eq_getElem hjl]
   have h := hall _ (List.getElem_mem hjl)
   exact len_start _ 1073741824 1518500250 (by decide) (by omega) h) (by rw [← hn2]; exact v1) v2
 rw [← hn2] at HTR
 clear l0 l1 hn hN hnl hall hx m0 m1 hn2 hl
 generalize sL 29 mo inv (rootsL n (56 - 29)) L xs = RL at *
 have hwl := rootsL_len n (56 - 29)
 generalize rootsL n (56 - 29) = ws at *
 go_enter Tryz.func111, Tryz.ntmps111
 go_wp2_with (first | (go_at_call 34; refine (HL.out _).mono ?_; rintro e wz ⟨rfl, hwz⟩; subst wz) | (go_at_call 58; refine (HB.out _).mono ?_; rintro e wz ⟨rfl, hwz⟩; subst wz))
 have R0 := CellsAt.new w 181 #[.int .i64 29, .int .i64 mo, .bool inv]
 refine (HM.out _).mono ?_
 rintro e w1 ⟨rfl, g1⟩
 have R1 := R0.gr g1
 have g1' := Gr.trans ((Gr.refl w).alloc _ _) g1
 have vx1 := vx.gr g1'
 clear R0 g1
 go_wp2_with fail
 refine (HW.out _ vx1).mono ?_
 rintro e w2 ⟨rfl, g2⟩
 have R2 := R1.gr g2
 have vx2 := vx1.gr g2
 have z2 := g1'.trans g2
 clear R1 g2 g1' vx1 vx
 go_wp2_with fail
 refine (HT.out _).mono ?_
 rintro e w3 ⟨v3, rfl, hv3, g3⟩
 obtain ⟨pw, cw, hvw⟩ := hv3.len
 rw [hwl, Int.toNat_natCast] at hvw
 subst hvw
 have R3 := R2.gr g3
 have vx3 := vx2.gr g3
 have z3 := z2.trans g3
 have c0 := R3.cell 0
 have c1 := R3.cell 1
 have c2 := R3.cell 2
 simp only [getS] at c0 c1 c2
 have lR := R3.lt
 clear R2 vx2 z2 g3
 go_wp2_with fail
 refine (HTR.out pw cw _ vx3 hv3).mono ?_
 rintro e w4 ⟨v4, rfl, hv4, g4⟩
 go_wp2_with fail
 go_ret2
 exact ⟨_, rfl, hv4, z3.trans g4⟩
inductive RunNo (n : Nat) (f mo : Int) (xs : List Gi) : Int → Prop where
 | size (h : ¬ ∃ L, IsLog (n : Int) L) : RunNo n f mo xs 3
 | arg (h : ∃ L, IsLog (n : Int) L) (k : (f < 0 ∨ 1 < f) ∨ mo < 0 ∨ 2 < mo) : RunNo n f mo xs 1
 | range (h : ∃ L, IsLog (n : Int) L) (lim b p : Int) (H : FB f b p) (hl : lim = p / 2) (m0 : 0 ≤ mo) (m1 : mo ≤ 2) (k : allIn lim xs = false) : RunNo n f mo xs 2
def RunYes (n : Nat) (f mo : Int) (xs : List Gi) (L B : Nat) : Prop := IsLog (n : Int) L ∧ (0 ≤ mo ∧ mo ≤ 2) ∧ ((f = 0 ∧ B = 13 ∧ allIn 16384 xs = true) ∨ (f = 1 ∧ B = 29 ∧ allIn 1073741824 xs = true))
theorem RunNo.pos {n : Nat} {f mo : Int} {xs : List Gi} {e : Int} (h : RunNo n f mo xs e) : e = 1 ∨ e = 2 ∨ e = 3 := by cases h <;> simp
theorem sRun_yes (px : Option Addr) (cx n : Nat) (f mo : Int) (inv : Bool) (xs : List Gi) (L B : Nat) (hl : xs.length = n) (h : RunYes n f mo xs L B) (w : World) (vx : CxsAt w (.slice px n cx) xs) :
 Calls Tryz.prog 111 #[.slice px n cx, .int .i64 f, .int .i64 mo, .bool inv] w fun e w' => ∃ v, e = .returned (.tuple #[v, .int .i64 0]) ∧ CxsAt w' v (sL B mo inv (rootsL n (56 - B)) L xs) ∧ Gr w w' := by
 obtain ⟨hL, ⟨m0, m1⟩, ⟨rfl, rfl, hx⟩ | ⟨rfl, rfl, hx⟩⟩ := h
 ·exact sRun_ok_15 px cx n L mo inv xs hl hL m0 m1 hx w vx
 ·exact sRun_ok_31 px cx n L mo inv xs hl hL m0 m1 hx w vx
theorem bits12_c (f b p : Int) (H : FB f b p) (w : World) : Calls Tryz.prog 42 #[.int .i64 f] w fun e w' => e = .returned (.int .i64 (b - 2)) ∧ w' = w := by
 have HB := Lib.hid (rbits_c f b p H)
 have hb : 15 ≤ b ∧ b ≤ 31 := by rcases H with ⟨_, rfl, _⟩ | ⟨_, rfl, _⟩ <;> omega
 clear H
 go_enter Tryz.func42, Tryz.ntmps42
 go_wp2_with (go_at_call 76; refine (HB.out _).mono ?_; rintro e wz ⟨rfl, rfl⟩)
 go_ret
 exact ⟨rfl, rfl⟩
end
section
open Go.ChangeShapes Go.WideShapes Go.ChangeAt Go.RowKit
set_option linter.unusedVariables false
set_option maxRecDepth 100000
theorem twoAt_eq (xs ws : List Gi) (h bits s : Nat) (mo : Int) (inv : Bool) (i : Nat) : twoAt xs ws h bits s mo inv i =
 if i % (2 * h) < h then pairUp bits s mo (xs.getD i ⟨0, 0⟩) (xs.getD (i + h) ⟨0, 0⟩) (rootOf ws inv (i % (2 * h) * (xs.length / (2 * h)))) else pairDown bits s mo (xs.getD (i - h) ⟨0, 0⟩) (xs.getD i ⟨0, 0⟩) (rootOf ws inv ((i % (2 * h) - h) * (xs.length / (2 * h)))) := rfl
theorem rootOf_bd (ws : List Gi) (inv : Bool) (k : Nat) (l : Int) (hk : k < ws.length) (h : allIn l ws = true) : absI (rootOf ws inv k).re ≤ l ∧ absI (rootOf ws inv k).im ≤ l := by
 obtain ⟨x, hx⟩ := get_of_lt hk
 have hb := (allIn_iff _ _).1 h x (List.mem_of_getElem? hx)
 have hg : ws.getD k ⟨0, 0⟩ = x := by rw [List.getD_eq_getElem?_getD, hx]; rfl
 unfold rootOf
 rw [hg]
 cases inv
 ·exact hb
 ·refine ⟨hb.1, ?_⟩
  have := absI_le.1 hb.2
  exact absI_le.2 (by show -l ≤ -x.im ∧ -x.im ≤ l; omega)
set_option maxHeartbeats 2000000 in
theorem same03_no (u v : Value) (xs ys : List Gi) (w : World) (hl : xs.length = ys.length) (hne : xs ≠ ys) (hu : CxsAt w u xs) (hv : CxsAt w v ys) :
 CW 10 #[u, v] w (.bool false) :=by
 delta CW
 have hx : xs ≠ [] := by intro e; subst e; exact hne (List.length_eq_zero_iff.1 hl.symm).symm
 have hy : ys ≠ [] := by intro e; subst e; exact hx (List.length_eq_zero_iff.1 hl)
 obtain ⟨b, o, cap, rfl, hlen, hb, hc⟩ := hu.at hx
 obtain ⟨b', o', cap', rfl, _, hb', hc'⟩ := hv.at hy
 rw [← hl]
 have HC := Lib.hid hc
 have HC' := Lib.hid hc'
 have HNE := Lib.hid hne
 have HL := Lib.hid hl
 clear hc hc' hu hv hx hy hne hl
 go_enter Tryz.func10, Tryz.ntmps10
 go_wp2_with fail
 go_loopw [13] (fun i wr => ∃ k : Nat, k ≤ xs.length ∧ i = .int .i64 k ∧ (∀ j, j < k → xs[j]? = ys[j]?) ∧ Gr w wr) (fun i _ => xs.length - (intOf i).toNat)
 case atStart => exact ⟨0, Nat.zero_le _, rfl, fun j hj => absurd hj (Nat.not_lt_zero _), Gr.refl _⟩
 case round =>
  obtain ⟨k, hk, rfl, hp, hg⟩ := hrel
  by_cases hlt : k < xs.length
  ·obtain ⟨x, hx⟩ := get_of_lt hlt
   obtain ⟨y, hy⟩ := get_of_lt (show k < ys.length by have := HL.out; omega)
   have h1 := (hg.cell (p := ⟨b, o + k * 2, none⟩) hb).trans (HC.out k x hx).1
   have h2 := (hg.cell (p := ⟨b, o + k * 2 + 1, none⟩) hb).trans (HC.out k x hx).2
   have h3 := (hg.cell (p := ⟨b', o' + k * 2, none⟩) hb').trans (HC'.out k y hy).1
   have h4 := (hg.cell (p := ⟨b', o' + k * 2 + 1, none⟩) hb').trans (HC'.out k y hy).2
   have hlI : (k : Int) < (xs.length : Int) := by omega
   obtain ⟨a, c⟩ := x
   obtain ⟨a', c'⟩ := y
   simp only at h1 h2 h3 h4
   by_cases e1 : a = a'
   ·subst e1
    by_cases e2 : c = c'
    ·subst e2
     have HP := Lib.hid (show ∀ j, j < k + 1 → xs[j]? = ys[j]? from fun j hj => by
      by_cases e : j = k
      ·rw [e, hx, hy]
      ·exact hp j (by omega))
     clear hx hy
     go_wp2_with fail
     go_quiet (fail)
     go_wp2_with fail
     go_roundw
     case rel => exact ⟨k + 1, by omega, by go_num, HP.out, hg.drewN _⟩
     case measure => simp [intOf]; omega
    ·have hb2 : (c == c') = false := by simp [e2]
     clear hx hy
     go_wp2_with fail
     go_quiet (fail)
     go_wp2_with fail
     go_ret
     exact ⟨rfl, hg.drewN _⟩
   ·have hb2 : (a == a') = false := by simp [e1]
    clear hx hy
    go_wp2_with fail
    go_quiet (fail)
    go_wp2_with fail
    go_ret
    exact ⟨rfl, hg.drewN _⟩
  ·exfalso
   have hl := HL.out
   refine HNE.out (List.ext_getElem? fun j => ?_)
   by_cases hj : j < k
   ·exact hp j hj
   ·rw [List.getElem?_eq_none (by omega), List.getElem?_eq_none (by omega)]
theorem tw_in {fo b p lo ke sc mo : Int} {L n B : Nat} (H : PlF fo b p lo ke sc mo L n B) : allIn (2 ^ B) (tw n B) = true := by
 obtain ⟨_, _, hlen⟩ := H.lens
 rw [allIn_bd, tw_eq]
 rcases H.sizes with ⟨_, _, _, rfl⟩ | ⟨_, _, _, rfl⟩
 ·exact (tw_all15 n hlen).2
 ·exact (tw_all31 n hlen).2
theorem rbits15_c {fo b p lo ke sc mo : Int} {L n B : Nat} (H : PlF fo b p lo ke sc mo L n B) (w : World) : CW 42 #[.int .i64 fo] w (.int .i64 B) :=by
 delta CW
 have h := calls_gr (bits12_c fo b p H.fb w)
 rw [show b - 2 = (B : Int) by have := H.bits; omega] at h
 exact h
theorem clamped15_c {fo b p lo ke sc mo : Int} {L n B : Nat} (H : PlF fo b p lo ke sc mo L n B) (v : Value) (xs : List Gi) (hl : xs.length ≤ 100) (w : World) (hv : CxsAt w v xs) :
 Calls Tryz.prog 44 #[v, .int .i64 fo] w fun e w' => ∃ u, e = .returned u ∧ CxsAt w' u (xs.map (clampG p)) ∧ Gr w w' :=
 clamped15_of v xs fo p hl (Lib.hid fun x W => rclamp_c fo b p x H.fb W) w hv
theorem man_wf {fo b p lo ke sc mo : Int} {L n B : Nat} (H : PlF fo b p lo ke sc mo L n B) {xs : List Gi} (hm : ManB p xs) : ∀ a ∈ xs, (Lit.int .i64 a.re).wf = true ∧ (Lit.int .i64 a.im).wf = true := by
 intro a ha
 have h := hm a ha
 have hp : p ≤ 2147483648 := by rcases H.sizes with h | h <;> omega
 exact ⟨WalkArith.wf_i64 (by omega), WalkArith.wf_i64 (by omega)⟩
theorem flip_man {p : Int} {L : Nat} {xs : List Gi} (h : xs.length = 2 ^ L) (hm : ManB p xs) : ManB p (flipL L xs) := fun a ha => hm a (flip_mem h ha)
theorem first_bd (sc p : Int) (xs : List Gi) : -31 ≤ atFirst sc p xs ∧ atFirst sc p xs ≤ 1 := by
 have := room_le p (maxG xs)
 unfold atFirst
 repeat' split
 all_goals omega
theorem first_room {fo b p lo ke sc mo : Int} {L n B : Nat} (H : PlF fo b p lo ke sc mo L n B) {xs ys : List Gi} (hm : ManB p ys) : atFirst sc p xs < 0 → allIn (2 ^ (62 + atFirst sc p xs).toNat) ys = true := by
 intro _
 have hb := first_bd sc p xs
 refine allIn_more hm.all (Int.le_trans (show p ≤ 2 ^ 31 by rcases H.sizes with h | h <;> omega) ?_)
 have : (2 : Nat) ^ 31 ≤ 2 ^ (62 + atFirst sc p xs).toNat := Nat.pow_le_pow_right (by decide) (by omega)
 exact_mod_cast this
theorem behind_sh {sc mo p : Int} {B : Nat} (iv : Bool) (ws : List Gi) : ∀ (l : List Gi) (b0 : BV), (l.foldl (nextB sc mo p iv B ws) b0).sh.length = b0.sh.length + l.length
 | [], b0 => rfl
 | q :: l, b0 => by
   rw [List.foldl_cons, behind_sh iv ws l, List.length_cons]
   simp only [nextB, List.length_append, List.length_singleton]
   omega
theorem behind_ex {sc mo p : Int} {B : Nat} (iv : Bool) (ws : List Gi) : ∀ (l : List Gi) (b0 : BV), b0.ex ≤ (l.foldl (nextB sc mo p iv B ws) b0).ex ∧ (l.foldl (nextB sc mo p iv B ws) b0).ex ≤ b0.ex + 3 * l.length
 | [], b0 => by simp
 | q :: l, b0 => by
   have h := behind_ex (sc := sc) (mo := mo) (p := p) (B := B) iv ws l (nextB sc mo p iv B ws b0 q)
   have hs := shOf_bd sc q.re p b0.X
   rw [List.foldl_cons, List.length_cons]
   simp only [nextB] at h
   simp only [nextB]
   omega
theorem passL_len7 {fo b p lo ke sc mo : Int} {L n B : Nat} (H : PlF fo b p lo ke sc mo L n B) : (passL ke lo).length ≤ 6 ∧ ∀ q ∈ passL ke lo, Fits n q := by
 obtain ⟨hmo, hsc, _, k0, k1⟩ := H.kinds
 obtain ⟨⟨l2, l6⟩, h4, hlen⟩ := H.lens
 have hlo := H.lo
 constructor
 ·have hk : ke = 0 ∨ ke = 1 ∨ ke = 2 := by omega
  have hl : lo = 2 ∨ lo = 3 ∨ lo = 4 ∨ lo = 5 ∨ lo = 6 := by omega
  rcases hk with rfl | rfl | rfl <;> rcases hl with rfl | rfl | rfl | rfl | rfl <;> decide +kernel
 ·have := passL_fits ke lo k0 k1 (by omega) (by omega)
  rw [H.n]
  rw [show lo.toNat = L by omega] at this
  exact this
theorem behind_may {fo b p lo ke sc mo : Int} {L n B : Nat} (H : PlF fo b p lo ke sc mo L n B) (iv : Bool) {xs : List Gi} (hl : xs.length = n) (hm : ManB p xs) (j : Nat) (hj : j ≤ (passL ke lo).length) :
 (behindB ke lo sc mo p iv L B (tw n B) xs j).sh.length = j ∧ -31 ≤ (behindB ke lo sc mo p iv L B (tw n B) xs j).ex ∧ (behindB ke lo sc mo p iv L B (tw n B) xs j).ex ≤ 19 := by
 have h6 := (passL_len7 H).1
 have hb := first_bd sc p xs
 have ht : ((passL ke lo).take j).length = j := by rw [List.length_take]; omega
 have h1 := behind_sh (sc := sc) (mo := mo) (p := p) (B := B) iv (tw n B) ((passL ke lo).take j) (readyB ke sc mo p L xs)
 have h2 := behind_ex (sc := sc) (mo := mo) (p := p) (B := B) iv (tw n B) ((passL ke lo).take j) (readyB ke sc mo p L xs)
 rw [ht] at h1 h2
 unfold behindB
 refine ⟨by rw [h1]; simp [readyB], ?_, ?_⟩
 ·refine Int.le_trans ?_ h2.1
  exact hb.1
 ·refine Int.le_trans h2.2 ?_
  simp only [readyB]
  omega
end
section
set_option linter.unusedVariables false
set_option linter.unusedSimpArgs false
set_option maxRecDepth 100000
def wv (n : Nat) (iv : Bool) (i : Nat) : Gi := if iv then (rootG n i 16).conj else rootG n i 16
def gneg (a : Gi) : Gi := ⟨-a.re, -a.im⟩
def gsubS (a b : Gi) : Gi := ⟨a.re - b.re, a.im - b.im⟩
def gup (s : Int) (a : Gi) : Gi := ⟨a.re * s, a.im * s⟩
theorem gi_eq {a b : Gi} (h1 : a.re = b.re) (h2 : a.im = b.im) : a = b := Gi.ext2 h1 h2
def Near (e : Int) (pow : Nat) (c V : Gi) : Prop := Len (e * 2 ^ (pow + 40)) (gsubS (gup (64 * 2 ^ (pow + 40)) c) (gup 64 V))
theorem Len.up {R s : Int} {a : Gi} (hs : 0 ≤ s) (h : Len R a) : Len (R * s) (gup s a) := by
 unfold Len gup
 unfold Len at h
 simp only
 have e1 : a.re * s * (a.re * s) + a.im * s * (a.im * s) = (a.re * a.re + a.im * a.im) * (s * s) := by grind
 have e2 : R * s * (R * s) = R * R * (s * s) := by grind
 rw [e1, e2]
 exact Int.mul_le_mul_of_nonneg_right h (Int.mul_nonneg hs hs)
def Terms (K : Int) (pow B : Nat) (T U : Gi) : Prop := Len K (gup 1099511627776 (gsubS (gup (64 * 2 ^ (pow + 40 - B)) T) (gup 64 U)))
theorem Terms.add {K K' : Int} {pow B : Nat} {T U T' U' : Gi} (hK : 0 ≤ K) (hK' : 0 ≤ K') (h : Terms K pow B T U) (h' : Terms K' pow B T' U') : Terms (K + K') pow B (gadd T T') (gadd U U') := by
 have hs := Len.add hK hK' h h'
 unfold Terms
 refine Eq.mp (congrArg _ ?_) hs
 apply gi_eq <;> simp only [gadd, gup, gsubS] <;> grind
theorem Len.negG {R : Int} {a : Gi} (h : Len R a) : Len R (gneg a) := h.neg
theorem Terms.neg {K : Int} {pow B : Nat} {T U : Gi} (h : Terms K pow B T U) : Terms K pow B (gneg T) (gneg U) := by
 have := Len.negG h
 unfold Terms
 refine Eq.mp (congrArg _ ?_) this
 apply gi_eq <;> simp only [gneg, gup, gsubS] <;> grind
theorem getD_map_range {f : Nat → Gi} {n i : Nat} (hi : i < n) : ((List.range n).map f).getD i ⟨0, 0⟩ = f i := by
 rw [List.getD_eq_getElem?_getD, List.getElem?_map, List.getElem?_range hi]
 rfl
theorem Terms.turn {K : Int} {pow B : Nat} {T U : Gi} (h : Terms K pow B T U) (q : Int) : Terms K pow B (T.turn q) (U.turn q) := by
 have := Len.turn h q
 unfold Terms
 refine Eq.mp (congrArg _ ?_) this
 unfold Gi.turn
 rcases q4 q with h | h | h | h <;> simp [h, gup, gsubS] <;> first | done | (constructor <;> grind) | grind
end
section
open Go.ChangeShapes Go.WideShapes Go.ChangeAt Go.RowKit
set_option linter.unusedVariables false
set_option maxRecDepth 100000
def oneB (fo : Int) : Int := if fo = 0 then 32768 else 2147483648
def whyB (fo lo ke sc mo : Int) (op : Bool) (xs : List Gi) : Int := if okF fo lo ke sc mo = true then (if (xs.length : Int) = 2 ^ lo.toNat then (if partsB (-(oneB fo)) (if op = true then oneB fo else oneB fo - 1) xs = true then 0 else 2) else 3) else 4
theorem fb_of {fo lo ke sc mo : Int} (h : okF fo lo ke sc mo = true) : ∃ b, FB fo b (oneB fo) ∧ b = (if fo = 0 then 15 else 31) := by
 have hf := okF_iff.1 h
 have hc : fo = 0 ∨ fo = 1 := by omega
 rcases hc with rfl | rfl
 ·exact ⟨15, .inl ⟨rfl, rfl, rfl⟩, rfl⟩
 ·exact ⟨31, .inr ⟨rfl, rfl, rfl⟩, rfl⟩
theorem plF_of {fo lo ke sc mo : Int} (h : okF fo lo ke sc mo = true) : PlF fo (if fo = 0 then 15 else 31) (oneB fo) lo ke sc mo lo.toNat (2 ^ lo.toNat) (if fo = 0 then 13 else 29) := by
 have hf := okF_iff.1 h
 obtain ⟨b, hb, rfl⟩ := fb_of h
 refine ⟨hb, h, by omega, rfl, ?_⟩
 split <;> rfl
theorem why_yes {fo lo ke sc mo : Int} {op : Bool} {xs : List Gi} (h : whyB fo lo ke sc mo op xs = 0) : okF fo lo ke sc mo = true ∧ xs.length = 2 ^ lo.toNat ∧ partsB (-(oneB fo)) (if op = true then oneB fo else oneB fo - 1) xs = true := by
 unfold whyB at h
 by_cases h1 : okF fo lo ke sc mo = true
 ·rw [if_pos h1] at h
  by_cases h2 : (xs.length : Int) = 2 ^ lo.toNat
  ·rw [if_pos h2] at h
   by_cases h3 : partsB (-(oneB fo)) (if op = true then oneB fo else oneB fo - 1) xs = true
   ·exact ⟨h1, Int.ofNat.inj (by rw [Int.ofNat_eq_natCast, Int.ofNat_eq_natCast, h2]; simp), h3⟩
   ·rw [if_neg h3] at h
    cases h
  ·rw [if_neg h2] at h
   cases h
 ·rw [if_neg h1] at h
  cases h
theorem may15_c (v : Value) (fo lo ke sc mo : Int) (iv op : Bool) (xs : List Gi) (w : World) (hv : CxsAt w v xs) :
 CW 16 #[v, .agg #[.int .i64 fo, .int .i64 lo, .int .i64 ke, .int .i64 sc, .int .i64 mo, .bool iv], .bool op] w (.int .i64 (whyB fo lo ke sc mo op xs)) :=by
 delta CW
 obtain ⟨p, cap, rfl⟩ := hv.len
 unfold whyB
 have HC := Lib.hid fun W => refCheck_c fo lo ke sc mo iv _ rfl W
 by_cases hk : okF fo lo ke sc mo = true
 ·rw [if_pos hk]
  rw [hk] at HC
  have hf := okF_iff.1 hk
  obtain ⟨b, hb, _⟩ := fb_of hk
  have HP := Lib.hid fun W => calls_gr (pow_c lo (by omega) (by omega) W)
  have HO := Lib.hid fun W => calls_gr (rone_c fo b (oneB fo) hb W)
  have hq : 0 ≤ oneB fo ∧ oneB fo ≤ 2147483648 := by unfold oneB; split <;> omega
  by_cases hn : (xs.length : Int) = 2 ^ lo.toNat
  ·rw [if_pos hn]
   have hn2 : ((xs.length : Int) == 2 ^ lo.toNat) = true := by simp [hn]
   have HA := fun h => Lib.hid fun W (g : CxsAt W (.slice p xs.length cap) xs) => parts15_c (.slice p xs.length cap) xs (-(oneB fo)) h W g
   cases op
   ·simp only [Bool.false_eq_true, if_false]
    have HA1 := HA (oneB fo - 1)
    cases hp : partsB (-(oneB fo)) (oneB fo - 1) xs
    ·rw [hp] at HA1
     exact may15_cn p xs.length cap xs fo lo ke sc mo _ (oneB fo) iv hn2 hq.1 hq.2 HC HP HO HA1 w hv
    ·rw [hp] at HA1
     exact may15_cy p xs.length cap xs fo lo ke sc mo _ (oneB fo) iv hn2 hq.1 hq.2 HC HP HO HA1 w hv
   ·simp only [if_true]
    have HA1 := HA (oneB fo)
    cases hp : partsB (-(oneB fo)) (oneB fo) xs
    ·rw [hp] at HA1
     exact may15_on p xs.length cap xs fo lo ke sc mo _ (oneB fo) iv hn2 hq.1 hq.2 HC HP HO HA1 w hv
    ·rw [hp] at HA1
     exact may15_oy p xs.length cap xs fo lo ke sc mo _ (oneB fo) iv hn2 hq.1 hq.2 HC HP HO HA1 w hv
  ·rw [if_neg hn]
   exact may15_size p xs.length cap fo lo ke sc mo _ iv op (by simp [hn]) HC HP w
 ·rw [if_neg hk]
  have hk' : okF fo lo ke sc mo = false := by simpa using hk
  rw [hk'] at HC
  exact may15_plan _ fo lo ke sc mo iv op HC w
def FftSaid (F : FuncId) (V : Int → Int → Int → Int → Int → Bool → List Gi → BV) : Prop :=
 (∀ (fo lo ke sc mo : Int) (iv : Bool) (v : Value) (xs : List Gi), whyB fo lo ke sc mo false xs = 0 → ∀ W, CxsAt W v xs → Calls Tryz.prog F #[v, .agg #[.int .i64 fo, .int .i64 lo, .int .i64 ke, .int .i64 sc, .int .i64 mo, .bool iv]] W fun e w' =>
  ∃ vx vs, e = .returned (.tuple #[.agg #[vx, .int .i64 (V fo lo ke sc mo iv xs).ex, .bool (V fo lo ke sc mo iv xs).sat, vs], .int .i64 0]) ∧ CxsAt w' vx (V fo lo ke sc mo iv xs).X ∧ NumsAt w' vs (V fo lo ke sc mo iv xs).sh ∧ Gr W w') ∧
 (∀ (fo lo ke sc mo : Int) (iv : Bool) (v : Value) (xs : List Gi) (y : Int), whyB fo lo ke sc mo false xs = y → y ≠ 0 → ∀ W, CxsAt W v xs → Calls Tryz.prog F #[v, .agg #[.int .i64 fo, .int .i64 lo, .int .i64 ke, .int .i64 sc, .int .i64 mo, .bool iv]] W fun e w' =>
  e = .returned (.tuple #[.agg #[.slice none 0 0, .int .i64 0, .bool false, .slice none 0 0], .int .i64 y]) ∧ Gr W w')
def runF (fo lo ke sc mo : Int) (iv : Bool) (xs : List Gi) : BV := runB15 ke lo sc mo (oneB fo) iv lo.toNat (if fo = 0 then 13 else 29) (tw (2 ^ lo.toNat) (if fo = 0 then 13 else 29)) xs
def readyF (fo lo ke sc mo : Int) (iv : Bool) (xs : List Gi) : BV := readyB ke sc mo (oneB fo) lo.toNat xs
end
section
open Go.ChangeShapes Go.WideShapes Go.ChangeAt Go.RowKit
set_option linter.unusedVariables false
set_option linter.unusedSimpArgs false
set_option maxRecDepth 100000
def z0 : Gi := ⟨0, 0⟩
end
section
set_option linter.unusedVariables false
set_option linter.unusedSimpArgs false
set_option maxRecDepth 100000
theorem Near.mono {e e' : Int} {pow : Nat} {c V : Gi} (h0 : 0 ≤ e) (h : Near e pow c V) (hle : e ≤ e') : Near e' pow c V := by
 have hp : (0 : Int) ≤ 2 ^ (pow + 40) := Int.le_of_lt (Int.pow_pos (by decide))
 exact Len.mono (Int.mul_nonneg h0 hp) h (Int.mul_le_mul_of_nonneg_right hle hp)
theorem IsLog.len {n : Nat} {L : Nat} (h : IsLog (n : Int) L) : IsLen (n : Int) := by
 unfold IsLen
 rcases isLog_cases h with ⟨_, h⟩ | ⟨_, h⟩ | ⟨_, h⟩ | ⟨_, h⟩ | ⟨_, h⟩ <;> omega
end
section
open Go.ChangeShapes Go.WideShapes Go.ChangeAt Go.RowKit
set_option linter.unusedVariables false
set_option maxRecDepth 100000
def AllO (xs : List Gi) : Prop := ∀ a ∈ xs, a = ⟨0, 0⟩
theorem AllO.getD {xs : List Gi} (h : AllO xs) (i : Nat) : xs.getD i ⟨0, 0⟩ = ⟨0, 0⟩ := by
 rw [List.getD_eq_getElem?_getD]
 cases e : xs[i]? with
 | none => rfl
 | some a => exact h a (List.mem_of_getElem? e)
theorem AllO.max {xs : List Gi} (h : AllO xs) : maxG xs = 0 := by
 have h1 := maxG_nonneg xs
 have h2 := maxG_le xs 0 (Int.le_refl 0) (fun a ha => by rw [h a ha]; exact ⟨by decide, by decide⟩)
 omega
section
variable {fo b p lo ke sc mo : Int} {L n B : Nat} {xs : List Gi}
theorem split_man (H : PlF fo b p lo ke sc mo L n B) (iv : Bool) {ys : List Gi} (hl : ys.length = n) (hh : ∀ y ∈ ys, Bd (p / 2) y) : ManB p (sL B mo iv (tw n B) L ys) := by
 obtain ⟨hmo, _⟩ := H.kinds
 obtain ⟨⟨l2, l6⟩, h4, hlen⟩ := H.lens
 have hb : 12 ≤ B ∧ B ≤ 29 ∧ 3 * 2 ^ B ≤ p - 1 := by rcases H.sizes with ⟨_, _, rfl, rfl⟩ | ⟨_, _, rfl, rfl⟩ <;> decide
 obtain ⟨R, hR0, hRB, hR⟩ : ∃ R : Int, 0 ≤ R ∧ R + 30 ≤ 3 * 2 ^ B ∧ ∀ y ∈ ys, Len R y := by
  rcases H.sizes with ⟨_, _, rfl, rfl⟩ | ⟨_, _, rfl, rfl⟩
  ·exact ⟨23171, by decide, by decide, fun y hy => len_start _ 16384 23171 (by decide) (by omega) (hh y hy)⟩
  ·exact ⟨1518500250, by decide, by decide, fun y hy => len_start _ 1073741824 1518500250 (by decide) (by omega) (hh y hy)⟩
 refine bd_man (fun a ha => ?_)
 obtain ⟨i, hi, rfl⟩ := List.mem_map.1 ha
 have hi := List.mem_range.1 hi
 have := spl_len B mo iv (rootOf (tw n B) iv) (tw n B).length hmo (fun k => roots_len n hlen B (by omega) (by omega) iv k) L R (fun j => ys.getD j ⟨0, 0⟩) hR0 (by omega)
  (fun j hj => by
   have hjl : j < ys.length := by rw [hl, H.n]; exact hj
   rw [List.getD_eq_getElem?_getD, List.getElem?_eq_getElem hjl]
   exact hR _ (List.getElem_mem hjl)) i hi
 exact (this.bd (by omega)).mono (by omega)
theorem run_man (H : PlF fo b p lo ke sc mo L n B) (iv : Bool) (hl : xs.length = n) (hm : ManB p xs) : ManB p (runB15 ke lo sc mo p iv L B (tw n B) xs).X := by
 unfold runB15
 by_cases hke : ke = 2
 ·rw [if_pos hke]
  have hs := H.kinds.2.2.1 hke
  exact split_man H iv (ready_len H hl) fun y hy => by
   obtain ⟨a, ha, rfl⟩ := ready_mem H hl hy
   exact bd_iff.2 ((ready_part H hm a ha).2 hs)
 ·rw [if_neg hke]
  exact (behind_man H iv hl hm _ (Nat.le_refl _)).2
end
end
section
set_option linter.unusedVariables false
set_option linter.unusedSimpArgs false
set_option maxRecDepth 100000
theorem fold_fits {sc mo p : Int} {B : Nat} {iv : Bool} {ws : List Gi} (hsc : sc = 0 ∨ sc = 1 ∨ sc = 2) (l : List Gi) : ∀ b0 : BV, (∀ q ∈ l, q.re = 2 ∨ q.re = 4) → ∃ ss, (l.foldl (nextB sc mo p iv B ws) b0).sh = b0.sh ++ ss ∧ fitsB sc l ss = true := by
 induction l with
 | nil => exact fun b0 _ => ⟨[], by simp, rfl⟩
 | cons q l ih =>
   intro b0 hq
   obtain ⟨ss, h1, h2⟩ := ih (nextB sc mo p iv B ws b0 q) (fun r hr => hq r (by simp [hr]))
   refine ⟨shOf sc q.re p b0.X :: ss, ?_, ?_⟩
   ·rw [List.foldl_cons, h1]
    simp [nextB]
   ·simp only [fitsB, Bool.and_eq_true]
    refine ⟨fitB_iff.2 ?_, h2⟩
    have h := hq q (by simp)
    unfold shOf preOf topB
    rcases hsc with rfl | rfl | rfl <;> rcases h with h | h <;> rw [h] <;> simp <;> (repeat' split) <;> omega
section
variable {fo b p lo ke sc mo : Int} {L n B : Nat} {xs : List Gi}
theorem run_fits (H : PlF fo b p lo ke sc mo L n B) (iv : Bool) (xs : List Gi) : fitsB sc (passL ke lo) (runB15 ke lo sc mo p iv L B (tw n B) xs).sh = true := by
 obtain ⟨hmo, hsc, _, k0, k1⟩ := H.kinds
 obtain ⟨⟨l2, l6⟩, h4, hlen⟩ := H.lens
 have hlo := H.lo
 unfold runB15
 by_cases hke : ke = 2
 ·rw [if_pos hke]
  unfold passL
  rw [if_pos hke]
  rfl
 ·rw [if_neg hke]
  obtain ⟨ss, h1, h2⟩ := fold_fits (mo := mo) (p := p) (B := B) (iv := iv) (ws := tw n B) hsc (passL ke lo) (readyB ke sc mo p L xs) (fun q hq => (passL_fits ke lo k0 k1 (by omega) (by omega) q hq).1)
  unfold behindB
  rw [List.take_length, h1]
  exact h2
theorem run_pow (H : PlF fo b p lo ke sc mo L n B) (iv : Bool) (xs : List Gi) :
 0 ≤ (runB15 ke lo sc mo p iv L B (tw n B) xs).ex + (if sc = 1 then (room p (maxG xs) : Int) else 0) ∧ (runB15 ke lo sc mo p iv L B (tw n B) xs).ex + (if sc = 1 then (room p (maxG xs) : Int) else 0) ≤ 20 := by
 obtain ⟨hmo, hsc, hks, k0, k1⟩ := H.kinds
 obtain ⟨⟨l2, l6⟩, h4, hlen⟩ := H.lens
 have hlo := H.lo
 have h6 := passL_len6 ke lo k0 k1 (by omega) (by omega)
 unfold runB15
 by_cases hke : ke = 2
 ·rw [if_pos hke, if_neg (by have := hks hke; omega)]
  simp only
  omega
 ·rw [if_neg hke]
  unfold behindB
  rw [List.take_length]
  have h := behind_ex (sc := sc) (mo := mo) (p := p) (B := B) iv (tw n B) (passL ke lo) (readyB ke sc mo p L xs)
  have ex : (readyB ke sc mo p L xs).ex = atFirst sc p xs := rfl
  rw [ex] at h
  unfold atFirst at h
  rcases hsc with rfl | rfl | rfl
  ·rw [if_pos rfl] at h
   rw [if_neg (by decide)]
   omega
  ·rw [if_neg (by decide), if_pos rfl] at h
   rw [if_pos rfl]
   omega
  ·rw [if_neg (by decide), if_neg (by decide)] at h
   rw [if_neg (by decide)]
   omega
end
end
section
set_option linter.unusedVariables false
set_option linter.unusedSimpArgs false
set_option maxRecDepth 100000
theorem Near.conj {e : Int} {pow : Nat} {c V : Gi} (h : Near e pow c V) : Near e pow c.conj V.conj := by
 unfold Near Len gsubS gup Gi.conj at *
 simp only at *
 refine Int.le_trans (Int.le_of_eq ?_) h
 grind
section
variable {fo b p lo ke sc mo : Int} {L m B : Nat}
theorem packG_at (rs : List Int) (j : Nat) (hj : j < rs.length / 2) : (packG rs).getD j ⟨0, 0⟩ = ⟨rs.getD (2 * j) 0, rs.getD (2 * j + 1) 0⟩ := by
 unfold packG
 exact getD_map_range hj
theorem PlF.twice (H : PlF fo b p lo ke sc mo L m B) (h5 : L ≤ 5) : PlF fo b p (lo + 1) ke sc mo (L + 1) (2 * m) B := by
 have hk := okF_iff.1 H.ok
 have hlo := H.lo
 exact ⟨H.fb, okF_iff.2 ⟨⟨hk.1.1, by omega, hk.1.2.2⟩, hk.2⟩, by omega, by rw [H.n, Nat.pow_succ, Nat.mul_comm], H.bits⟩
end
end
end Go.Proofs.YtdignnmpfkgkoaaGreat
