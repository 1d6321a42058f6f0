import Derived.Test.YtablflakcaimmaaGreatFftRunsS39
import Derived.Test.YtablflakcaimmaaGreatFftRunsS40
namespace Go.Proofs.YtablflakcaimmaaGreat
section
open Go.ChangeShapes Go.WideShapes Go.ChangeAt Go.RowKit
set_option linter.unusedVariables false
set_option maxRecDepth 100000
theorem man_wf {fo b p lo ke sc mo : Int} {L n B : Nat} (H : PlF fo b p lo ke sc mo L n B) {xs : List Gi} (hm : ManB p xs) : ∀ a ∈ xs, (Lit.int .i64 a.re).wf = true ∧ (Lit.int .i64 a.im).wf = true := by
 intro a ha
 have h := hm a ha
 have hp : p ≤ 2147483648 := by rcases H.sizes with h | h <;> omega
 exact ⟨WalkArith.wf_i64 (by omega), WalkArith.wf_i64 (by omega)⟩
theorem flip_man {p : Int} {L : Nat} {xs : List Gi} (h : xs.length = 2 ^ L) (hm : ManB p xs) : ManB p (flipL L xs) := fun a ha => hm a (flip_mem h ha)
theorem first_bd (sc p : Int) (xs : List Gi) : -31 ≤ atFirst sc p xs ∧ atFirst sc p xs ≤ 1 := by
 have := room_le p (maxG xs)
 unfold atFirst
 repeat' split
 all_goals omega
theorem first_room {fo b p lo ke sc mo : Int} {L n B : Nat} (H : PlF fo b p lo ke sc mo L n B) {xs ys : List Gi} (hm : ManB p ys) : atFirst sc p xs < 0 → allIn (2 ^ (62 + atFirst sc p xs).toNat) ys = true := by
 intro _
 have hb := first_bd sc p xs
 refine allIn_more hm.all (Int.le_trans (show p ≤ 2 ^ 31 by rcases H.sizes with h | h <;> omega) ?_)
 have : (2 : Nat) ^ 31 ≤ 2 ^ (62 + atFirst sc p xs).toNat := Nat.pow_le_pow_right (by decide) (by omega)
 exact_mod_cast this
theorem rshift15_c {fo b p lo ke sc mo : Int} {L n B : Nat} (H : PlF fo b p lo ke sc mo L n B) (xs ys : List Gi) (hm : ManB p ys) (hl : ys.length ≤ 1048576) (v : Value) (w : World) (hv : CxsAt w v ys) :
 Calls Tryz.prog 40 #[v, .int .i64 (atFirst sc p xs), .int .i64 mo] w fun e w' => ∃ u, e = .returned u ∧ CxsAt w' u (ys.map (shG (atFirst sc p xs) mo)) ∧ Gr w w' := by
 obtain ⟨hmo, _⟩ := H.kinds
 have hb := first_bd sc p xs
 exact shifted09_c v ys _ mo (by omega) (by omega) (by omega) (by omega) (man_wf H hm) (first_room H hm) hl w hv
theorem ready15_c {fo b p lo ke sc mo : Int} {L n B : Nat} (H : PlF fo b p lo ke sc mo L n B) (iv : Bool) (v : Value) (xs : List Gi) (hl : xs.length = n) (hm : ManB p xs) (w : World) (hv : CxsAt w v xs) :
 Calls Tryz.prog 15 #[v, .agg #[.int .i64 fo, .int .i64 lo, .int .i64 ke, .int .i64 sc, .int .i64 mo, .bool iv]] w fun e w' =>
  ∃ u, e = .returned (.agg #[u, .int .i64 (readyB ke sc mo p L xs).ex, .bool (readyB ke sc mo p L xs).sat, .slice none 0 0]) ∧ CxsAt w' u (readyB ke sc mo p L xs).X ∧ Gr w w' := by
 obtain ⟨hmo, hsc, hks, _⟩ := H.kinds
 obtain ⟨⟨l2, l6⟩, h4, _⟩ := H.lens
 have hl2 : xs.length = 2 ^ L := by rw [hl, H.n]
 have hfm := flip_man hl2 hm
 have hfl := flipL_len L xs
 have h64 := pow_le L l6
 unfold readyB
 by_cases hke : ke = 2
 ·have hs := hks hke
  subst hke
  subst hs
  rw [if_pos rfl]
  exact ready15_split v xs _ fo lo 0 mo iv (Lib.hid fun v W h => rshift15_c H xs xs hm (by omega) v W h) w hv
 ·have hke2 : (ke == 2) = false := by simp [hke]
  rw [if_neg hke]
  have HF := Lib.hid fun W (h : CxsAt W v xs) => rflip08_c v xs L l2 l6 hl2 W h
  rcases hsc with rfl | rfl | rfl
  ·exact ready15_0 v xs (flipL L xs) _ fo lo ke mo iv hke2 HF (Lib.hid fun v W h => rshift15_c H xs (flipL L xs) hfm (by omega) v W h) w hv
  ·have hp : p ≤ 2147483648 ∧ 0 ≤ p := by rcases H.sizes with h | h <;> omega
   have hg := maxG_le xs p hp.2 ((allIn_iff p xs).1 hm.all)
   have hr := room_le p (maxG xs)
   exact ready15_1 v xs (flipL L xs) _ fo lo ke mo (maxG xs) (room p (maxG xs) : Nat) (-(room p (maxG xs) : Int)) iv hke2 (IntWalk.i64_in _ ⟨by omega, by omega⟩) (Lib.hid fun W h => max09_c v xs (allIn_more hm.all hp.1) W h) (Lib.hid fun W => calls_gr (room09_c (maxG xs) fo b p H.fb (maxG_nonneg xs) hg W)) HF
    (Lib.hid fun v W h => rshift15_c H xs (flipL L xs) hfm (by omega) v W h) w hv
  ·exact ready15_2 v xs (flipL L xs) _ fo lo ke mo iv hke2 HF (Lib.hid fun v W h => rshift15_c H xs (flipL L xs) hfm (by omega) v W h) w hv
theorem behind_sh {sc mo p : Int} {B : Nat} (iv : Bool) (ws : List Gi) : ∀ (l : List Gi) (b0 : BV), (l.foldl (nextB sc mo p iv B ws) b0).sh.length = b0.sh.length + l.length
 | [], b0 => rfl
 | q :: l, b0 => by
   rw [List.foldl_cons, behind_sh iv ws l, List.length_cons]
   simp only [nextB, List.length_append, List.length_singleton]
   omega
theorem behind_ex {sc mo p : Int} {B : Nat} (iv : Bool) (ws : List Gi) : ∀ (l : List Gi) (b0 : BV), b0.ex ≤ (l.foldl (nextB sc mo p iv B ws) b0).ex ∧ (l.foldl (nextB sc mo p iv B ws) b0).ex ≤ b0.ex + 3 * l.length
 | [], b0 => by simp
 | q :: l, b0 => by
   have h := behind_ex (sc := sc) (mo := mo) (p := p) (B := B) iv ws l (nextB sc mo p iv B ws b0 q)
   have hs := shOf_bd sc q.re p b0.X
   rw [List.foldl_cons, List.length_cons]
   simp only [nextB] at h
   simp only [nextB]
   omega
theorem passL_len7 {fo b p lo ke sc mo : Int} {L n B : Nat} (H : PlF fo b p lo ke sc mo L n B) : (passL ke lo).length ≤ 6 ∧ ∀ q ∈ passL ke lo, Fits n q := by
 obtain ⟨hmo, hsc, _, k0, k1⟩ := H.kinds
 obtain ⟨⟨l2, l6⟩, h4, hlen⟩ := H.lens
 have hlo := H.lo
 constructor
 ·have hk : ke = 0 ∨ ke = 1 ∨ ke = 2 := by omega
  have hl : lo = 2 ∨ lo = 3 ∨ lo = 4 ∨ lo = 5 ∨ lo = 6 := by omega
  rcases hk with rfl | rfl | rfl <;> rcases hl with rfl | rfl | rfl | rfl | rfl <;> decide +kernel
 ·have := passL_fits ke lo k0 k1 (by omega) (by omega)
  rw [H.n]
  rw [show lo.toNat = L by omega] at this
  exact this
theorem behind_may {fo b p lo ke sc mo : Int} {L n B : Nat} (H : PlF fo b p lo ke sc mo L n B) (iv : Bool) {xs : List Gi} (hl : xs.length = n) (hm : ManB p xs) (j : Nat) (hj : j ≤ (passL ke lo).length) :
 (behindB ke lo sc mo p iv L B (tw n B) xs j).sh.length = j ∧ -31 ≤ (behindB ke lo sc mo p iv L B (tw n B) xs j).ex ∧ (behindB ke lo sc mo p iv L B (tw n B) xs j).ex ≤ 19 := by
 have h6 := (passL_len7 H).1
 have hb := first_bd sc p xs
 have ht : ((passL ke lo).take j).length = j := by rw [List.length_take]; omega
 have h1 := behind_sh (sc := sc) (mo := mo) (p := p) (B := B) iv (tw n B) ((passL ke lo).take j) (readyB ke sc mo p L xs)
 have h2 := behind_ex (sc := sc) (mo := mo) (p := p) (B := B) iv (tw n B) ((passL ke lo).take j) (readyB ke sc mo p L xs)
 rw [ht] at h1 h2
 unfold behindB
 refine ⟨by rw [h1]; simp [readyB], ?_, ?_⟩
 ·refine Int.le_trans ?_ h2.1
  exact hb.1
 ·refine Int.le_trans h2.2 ?_
  simp only [readyB]
  omega
theorem rrun12_c {fo b p lo ke sc mo : Int} {L n B : Nat} (H : PlF fo b p lo ke sc mo L n B) (iv : Bool) (ys : List Gi) (hl : ys.length = n) (hh : ∀ y ∈ ys, Bd (p / 2) y) (vx vw : Value) (w : World) (hvx : CxsAt w vx ys) (hvw : CxsAt w vw (tw n B)) :
 Calls Tryz.prog 34 #[vx, vw, .int .i64 B, .int .i64 mo, .bool iv] w fun e w' => ∃ u, e = .returned u ∧ CxsAt w' u (sL B mo iv (tw n B) L ys) ∧ Gr w w' := by
 obtain ⟨px, cx, rfl⟩ := hvx.len
 obtain ⟨pw, cw, rfl⟩ := hvw.len
 obtain ⟨hmo, _⟩ := H.kinds
 obtain ⟨⟨l2, l6⟩, h4, hlen⟩ := H.lens
 rw [tw_len] at hvw ⊢
 rw [hl] at hvx ⊢
 have hb : 12 ≤ B ∧ B ≤ 29 := by rcases H.sizes with h | h <;> omega
 obtain ⟨R, hR0, hRB, hR⟩ : ∃ R : Int, 0 ≤ R ∧ R + 30 ≤ 3 * 2 ^ B ∧ ∀ y ∈ ys, Len R y := by
  rcases H.sizes with ⟨_, _, rfl, rfl⟩ | ⟨_, _, rfl, rfl⟩
  ·exact ⟨23171, by decide, by decide, fun y hy => len_start _ 16384 23171 (by decide) (by omega) (hh y hy)⟩
  ·exact ⟨1518500250, by decide, by decide, fun y hy => len_start _ 1073741824 1518500250 (by decide) (by omega) (hh y hy)⟩
 have h := rRun12_c B mo iv (tw n B) L n l6 H.n (tw_len n B) hb.2 (by omega) (by omega) (fun k => roots_len n hlen B (by omega) (by omega) iv k) (fun k hk => roots_in n hlen B (by omega) (by omega) k (by omega)) R hR0 hRB pw cw L (Nat.le_refl _) ys px cx w (by rw [hl, H.n])
  (fun j hj => by
   have hjl : j < ys.length := by rw [hl, H.n]; exact hj
   rw [List.getD_eq_getElem?_getD, List.getElem?_eq_getElem hjl]
   exact hR _ (List.getElem_mem hjl)) (by rw [← H.n]; exact hvx) hvw
 rw [← H.n] at h
 exact h
theorem run15_c {fo b p lo ke sc mo : Int} {L n B : Nat} (H : PlF fo b p lo ke sc mo L n B) (iv : Bool) (v : Value) (xs : List Gi) (hl : xs.length = n) (hm : ManB p xs) (w : World) (hv : CxsAt w v xs) :
 Calls Tryz.prog 13 #[v, .agg #[.int .i64 fo, .int .i64 lo, .int .i64 ke, .int .i64 sc, .int .i64 mo, .bool iv]] w fun e w' =>
  ∃ vx vs, e = .returned (.agg #[vx, .int .i64 (runB15 ke lo sc mo p iv L B (tw n B) xs).ex, .bool (runB15 ke lo sc mo p iv L B (tw n B) xs).sat, vs]) ∧ CxsAt w' vx (runB15 ke lo sc mo p iv L B (tw n B) xs).X ∧ NumsAt w' vs (runB15 ke lo sc mo p iv L B (tw n B) xs).sh ∧ Gr w w' := by
 obtain ⟨hmo, hsc, hks, _⟩ := H.kinds
 obtain ⟨⟨l2, l6⟩, h4, _⟩ := H.lens
 have HP : Hid (∀ W, Calls Tryz.prog 18 #[.agg #[.int .i64 fo, .int .i64 lo, .int .i64 ke, .int .i64 sc, .int .i64 mo, .bool iv]] W fun e w' => ∃ v, e = .returned v ∧ CxsAt w' v (passL ke lo) ∧ Gr W w') := Lib.hid fun W => refPasses_c fo lo ke sc mo iv H.ok W
 unfold runB15
 by_cases hke : ke = 2
 ·have hs := hks hke
  subst hke
  subst hs
  rw [if_pos rfl]
  have hrl := ready_len H hl
  have hh : ∀ y ∈ (readyB 2 0 mo p L xs).X, Bd (p / 2) y := by
   intro y hy
   obtain ⟨a, ha, rfl⟩ := ready_mem H hl hy
   exact bd_iff.2 ((ready_part H hm a ha).2 rfl)
  have h := run15_split v xs (readyB 2 0 mo p L xs).X (tw n B) _ fo lo 0 mo B 1 (1 + lo) iv (IntWalk.wrap64_in _ ⟨by have := H.lo; omega, by have := H.lo; omega⟩) (Lib.hid fun W h => ready15_c H iv v xs hl hm W h) (Lib.hid fun W => rtwid15_c H W) (Lib.hid fun W => rbits15_c H W)
   (Lib.hid fun vx vw W h h' => rrun12_c H iv _ hrl hh vx vw W h h') HP w hv
  exact h.mono fun e w' ⟨vx, h1, h2, h3⟩ => ⟨vx, _, h1, h2, NumsAt.nil _, h3⟩
 ·rw [if_neg hke]
  obtain ⟨h6, hfit⟩ := passL_len7 H
  have h := run15_passes v xs (passL ke lo) (behindB ke lo sc mo p iv L B (tw n B) xs) fo lo ke sc mo iv (by simp [hke]) (by omega) rfl (Lib.hid fun W h => ready15_c H iv v xs hl hm W h) HP (Lib.hid fun j q hq vx vs W hvx hvs => ?_) w hv
  ·exact h
  ·have hj := (List.getElem?_eq_some_iff.1 hq).1
   obtain ⟨a1, a2⟩ := behind_man H iv hl hm j (by omega)
   obtain ⟨b1, b2, b3⟩ := behind_may H iv hl hm j (by omega)
   rw [behindB_next hq]
   exact (next15_c H iv q (hfit q (List.mem_of_getElem? hq)) _ a1 a2.all (by omega) (by omega) (by omega) vx vs W hvx hvs)
def oneB (fo : Int) : Int := if fo = 0 then 32768 else 2147483648
def whyB (fo lo ke sc mo : Int) (op : Bool) (xs : List Gi) : Int := if okF fo lo ke sc mo = true then (if (xs.length : Int) = 2 ^ lo.toNat then (if partsB (-(oneB fo)) (if op = true then oneB fo else oneB fo - 1) xs = true then 0 else 2) else 3) else 4
theorem fb_of {fo lo ke sc mo : Int} (h : okF fo lo ke sc mo = true) : ∃ b, FB fo b (oneB fo) ∧ b = (if fo = 0 then 15 else 31) := by
 have hf := okF_iff.1 h
 have hc : fo = 0 ∨ fo = 1 := by omega
 rcases hc with rfl | rfl
 ·exact ⟨15, .inl ⟨rfl, rfl, rfl⟩, rfl⟩
 ·exact ⟨31, .inr ⟨rfl, rfl, rfl⟩, rfl⟩
theorem plF_of {fo lo ke sc mo : Int} (h : okF fo lo ke sc mo = true) : PlF fo (if fo = 0 then 15 else 31) (oneB fo) lo ke sc mo lo.toNat (2 ^ lo.toNat) (if fo = 0 then 13 else 29) := by
 have hf := okF_iff.1 h
 obtain ⟨b, hb, rfl⟩ := fb_of h
 refine ⟨hb, h, by omega, rfl, ?_⟩
 split <;> rfl
theorem why_yes {fo lo ke sc mo : Int} {op : Bool} {xs : List Gi} (h : whyB fo lo ke sc mo op xs = 0) : okF fo lo ke sc mo = true ∧ xs.length = 2 ^ lo.toNat ∧ partsB (-(oneB fo)) (if op = true then oneB fo else oneB fo - 1) xs = true := by
 unfold whyB at h
 by_cases h1 : okF fo lo ke sc mo = true
 ·rw [if_pos h1] at h
  by_cases h2 : (xs.length : Int) = 2 ^ lo.toNat
  ·rw [if_pos h2] at h
   by_cases h3 : partsB (-(oneB fo)) (if op = true then oneB fo else oneB fo - 1) xs = true
   ·exact ⟨h1, Int.ofNat.inj (by rw [Int.ofNat_eq_natCast, Int.ofNat_eq_natCast, h2]; simp), h3⟩
   ·rw [if_neg h3] at h
    cases h
  ·rw [if_neg h2] at h
   cases h
 ·rw [if_neg h1] at h
  cases h
theorem may15_c (v : Value) (fo lo ke sc mo : Int) (iv op : Bool) (xs : List Gi) (w : World) (hv : CxsAt w v xs) :
 CW 10 #[v, .agg #[.int .i64 fo, .int .i64 lo, .int .i64 ke, .int .i64 sc, .int .i64 mo, .bool iv], .bool op] w (.int .i64 (whyB fo lo ke sc mo op xs)) :=by
 delta CW
 obtain ⟨p, cap, rfl⟩ := hv.len
 unfold whyB
 have HC := Lib.hid fun W => refCheck_c fo lo ke sc mo iv _ rfl W
 by_cases hk : okF fo lo ke sc mo = true
 ·rw [if_pos hk]
  rw [hk] at HC
  have hf := okF_iff.1 hk
  obtain ⟨b, hb, _⟩ := fb_of hk
  have HP := Lib.hid fun W => calls_gr (pow_c lo (by omega) (by omega) W)
  have HO := Lib.hid fun W => calls_gr (rone_c fo b (oneB fo) hb W)
  have hq : 0 ≤ oneB fo ∧ oneB fo ≤ 2147483648 := by unfold oneB; split <;> omega
  by_cases hn : (xs.length : Int) = 2 ^ lo.toNat
  ·rw [if_pos hn]
   have hn2 : ((xs.length : Int) == 2 ^ lo.toNat) = true := by simp [hn]
   have HA := fun h => Lib.hid fun W (g : CxsAt W (.slice p xs.length cap) xs) => parts15_c (.slice p xs.length cap) xs (-(oneB fo)) h W g
   cases op
   ·simp only [Bool.false_eq_true, if_false]
    have HA1 := HA (oneB fo - 1)
    cases hp : partsB (-(oneB fo)) (oneB fo - 1) xs
    ·rw [hp] at HA1
     exact may15_cn p xs.length cap xs fo lo ke sc mo _ (oneB fo) iv hn2 hq.1 hq.2 HC HP HO HA1 w hv
    ·rw [hp] at HA1
     exact may15_cy p xs.length cap xs fo lo ke sc mo _ (oneB fo) iv hn2 hq.1 hq.2 HC HP HO HA1 w hv
   ·simp only [if_true]
    have HA1 := HA (oneB fo)
    cases hp : partsB (-(oneB fo)) (oneB fo) xs
    ·rw [hp] at HA1
     exact may15_on p xs.length cap xs fo lo ke sc mo _ (oneB fo) iv hn2 hq.1 hq.2 HC HP HO HA1 w hv
    ·rw [hp] at HA1
     exact may15_oy p xs.length cap xs fo lo ke sc mo _ (oneB fo) iv hn2 hq.1 hq.2 HC HP HO HA1 w hv
  ·rw [if_neg hn]
   exact may15_size p xs.length cap fo lo ke sc mo _ iv op (by simp [hn]) HC HP w
 ·rw [if_neg hk]
  have hk' : okF fo lo ke sc mo = false := by simpa using hk
  rw [hk'] at HC
  exact may15_plan _ fo lo ke sc mo iv op HC w
def FftSaid (F : FuncId) (V : Int → Int → Int → Int → Int → Bool → List Gi → BV) : Prop :=
 (∀ (fo lo ke sc mo : Int) (iv : Bool) (v : Value) (xs : List Gi), whyB fo lo ke sc mo false xs = 0 → ∀ W, CxsAt W v xs → Calls Tryz.prog F #[v, .agg #[.int .i64 fo, .int .i64 lo, .int .i64 ke, .int .i64 sc, .int .i64 mo, .bool iv]] W fun e w' =>
  ∃ vx vs, e = .returned (.tuple #[.agg #[vx, .int .i64 (V fo lo ke sc mo iv xs).ex, .bool (V fo lo ke sc mo iv xs).sat, vs], .int .i64 0]) ∧ CxsAt w' vx (V fo lo ke sc mo iv xs).X ∧ NumsAt w' vs (V fo lo ke sc mo iv xs).sh ∧ Gr W w') ∧
 (∀ (fo lo ke sc mo : Int) (iv : Bool) (v : Value) (xs : List Gi) (y : Int), whyB fo lo ke sc mo false xs = y → y ≠ 0 → ∀ W, CxsAt W v xs → Calls Tryz.prog F #[v, .agg #[.int .i64 fo, .int .i64 lo, .int .i64 ke, .int .i64 sc, .int .i64 mo, .bool iv]] W fun e w' =>
  e = .returned (.tuple #[.agg #[.slice none 0 0, .int .i64 0, .bool false, .slice none 0 0], .int .i64 y]) ∧ Gr W w')
def runF (fo lo ke sc mo : Int) (iv : Bool) (xs : List Gi) : BV := runB15 ke lo sc mo (oneB fo) iv lo.toNat (if fo = 0 then 13 else 29) (tw (2 ^ lo.toNat) (if fo = 0 then 13 else 29)) xs
def readyF (fo lo ke sc mo : Int) (iv : Bool) (xs : List Gi) : BV := readyB ke sc mo (oneB fo) lo.toNat xs
theorem runs15_all (HF : FftSaid 9 runF) (HA : ∀ W, Calls Tryz.prog 11 #[] W fun e w' => e = .returned (.bool true) ∧ Gr W w')
 (p : Option Addr) (l1 cap1 m1 : Nat) (fo lo ke sc mo : Int) (iv : Bool) (xs : List Gi) (hl : xs.length = m1) (hm1 : m1 ≤ cap1) (hmin1 : (if (70 : Int) < (l1 : Int) then 70 else (l1 : Int)) = (m1 : Int)) (w : World) (hx : CxsAt w (.slice p m1 cap1) xs) :
 CW 3 #[.slice p l1 cap1, .agg #[.int .i64 fo, .int .i64 lo, .int .i64 ke, .int .i64 sc, .int .i64 mo, .bool iv]] w (.bool true) :=by
 delta CW
 obtain ⟨y, hy⟩ : ∃ y, whyB fo lo ke sc mo false xs = y := ⟨_, rfl⟩
 have HM := Lib.hid fun W (h : CxsAt W (.slice p m1 cap1) xs) => may15_c (.slice p m1 cap1) fo lo ke sc mo iv false xs W h
 rw [hy] at HM
 by_cases h0 : y = 0
 ·subst h0
  obtain ⟨h1, h2, h3⟩ := why_yes hy
  have H := plF_of h1
  have hm := manB_iff.1 h3
  refine runs15_yes p l1 cap1 m1 fo lo ke sc mo iv xs hm1 hmin1 (runF fo lo ke sc mo iv xs) (Lib.hid fun W h => HF.1 fo lo ke sc mo iv _ xs hy W h) HM (Lib.hid fun W h => run15_c H iv _ xs h2 hm W h) (Lib.hid HA) w hx
 ·exact runs15_no p l1 cap1 m1 fo lo ke sc mo iv xs hm1 hmin1 y (by simp [h0]) (Lib.hid fun W h => HF.2 fo lo ke sc mo iv _ xs y hy h0 W h) HM (Lib.hid HA) w hx
theorem sShifted_down (x y s mo : Int) (wx : -9223372036854775808 ≤ x ∧ x ≤ 9223372036854775807) (wy : -9223372036854775808 ≤ y ∧ y ≤ 9223372036854775807) (s0 : 0 ≤ s) (s1 : s ≤ 62) (m0 : 0 ≤ mo) (m1 : mo ≤ 2) (w : World) :
 CW 57 #[.agg #[.int .i64 x, .int .i64 y], .int .i64 s, .int .i64 mo] w (.tuple #[.agg #[.int .i64 (rnd x s.toNat mo), .int .i64 (rnd y s.toNat mo)], .int .i64 0]) :=by
 delta CW
 have HS := Lib.hid (cxshift_ok x y s mo wx wy s0 s1 m0 m1)
 generalize rnd x s.toNat mo = r0 at *
 generalize rnd y s.toNat mo = r1 at *
 clear wx wy m0 m1 s1
 go_enter Tryz.func57, Tryz.ntmps57
 go_wp2_with fail
 have R0 := CellsAt.new (w.alloc (.cells #[.int .i64 x, .int .i64 y] 55)) 55 #[.int .i64 0, .int .i64 0]
 have gw0 := ((Gr.refl w).alloc #[.int .i64 x, .int .i64 y] 55).alloc #[.int .i64 0, .int .i64 0] 55
 rw [World.size_alloc] at R0
 refine (HS.out _).mono ?_
 rintro e w2 ⟨rfl, hg⟩
 have R1 := R0.gr hg
 have gw := gw0.trans hg
 have hsz := gw.size
 have c0 := R1.cell 0
 have c1 := R1.cell 1
 have f0 := R1.frozen 0
 have f1 := R1.frozen 1
 have hlt := R1.lt
 simp only [getS] at c0 c1
 clear R0 gw0 hg
 go_wp2_with fail
 refine bodyPost_ret (v := .tuple #[.agg #[.int .i64 r0, .int .i64 r1], .int .i64 0]) ?_ rfl ⟨rfl, ?_⟩
 ·simp [results, Tryz.results57, go_sem, c0, c1]
 ·exact (gw.setCell (a := ⟨w.heap.size + 1, 0, none⟩) (by simp) _).setCell (a := ⟨w.heap.size + 1, 1, none⟩) (by simp) _
theorem sShifted_up (x y s mo r0 r1 : Int) (s0 : 0 < s) (s1 : s ≤ 62) (hx : inB (2 ^ (62 - s).toNat) x = true) (hy : inB (2 ^ (62 - s).toNat) y = true) (h0 : x * 2 ^ s.toNat = r0) (h1 : y * 2 ^ s.toNat = r1) (w : World) :
 CW 57 #[.agg #[.int .i64 x, .int .i64 y], .int .i64 (-s), .int .i64 mo] w (.tuple #[.agg #[.int .i64 r0, .int .i64 r1], .int .i64 0]) :=by
 delta CW
 have HX := Lib.hid (up_ok x s (by omega) s1 (inB_iff.1 hx).1 (inB_iff.1 hx).2)
 have HY := Lib.hid (up_ok y s (by omega) s1 (inB_iff.1 hy).1 (inB_iff.1 hy).2)
 rw [h0] at HX
 rw [h1] at HY
 clear hx hy h0 h1
 go_enter Tryz.func57, Tryz.ntmps57
 go_wp2_with (first | (go_at_call 87; ((with_reducible refine (HX.out _).mono ?_); rintro e w' ⟨rfl, rfl⟩)) | (go_at_call 87; ((with_reducible refine (HY.out _).mono ?_); rintro e w' ⟨rfl, rfl⟩)))
 refine bodyPost_ret (v := .tuple #[.agg #[.int .i64 r0, .int .i64 r1], .int .i64 0]) ?_ rfl ⟨rfl, ?_⟩
 ·simp [results, Tryz.results57, go_sem]
 ·exact ((Gr.refl w).alloc _ _).alloc _ _
theorem shifted_one (x : Gi) (s mo : Int) (s0 : -62 ≤ s) (s1 : s ≤ 62) (m0 : 0 ≤ mo) (m1 : mo ≤ 2) (hb : (Lit.int .i64 x.re).wf = true ∧ (Lit.int .i64 x.im).wf = true)
 (h : s < 0 → (inB (2 ^ (62 + s).toNat) x.re && inB (2 ^ (62 + s).toNat) x.im) = true) (w : World) :
 CW 57 #[.agg #[.int .i64 x.re, .int .i64 x.im], .int .i64 s, .int .i64 mo] w (.tuple #[.agg #[.int .i64 (shG s mo x).re, .int .i64 (shG s mo x).im], .int .i64 0]) :=by
 delta CW
 unfold shG
 by_cases hs : 0 ≤ s
 ·rw [if_pos hs]
  exact sShifted_down x.re x.im s mo (bounds_i64 hb.1) (bounds_i64 hb.2) hs s1 m0 m1 w
 ·rw [if_neg hs]
  have hh := h (by omega)
  rw [Bool.and_eq_true] at hh
  have := sShifted_up x.re x.im (-s) mo _ _ (by omega) (by omega) (by rw [show 62 - -s = 62 + s by omega]; exact hh.1) (by rw [show 62 - -s = 62 + s by omega]; exact hh.2) rfl rfl w
  rwa [Int.neg_neg] at this
set_option maxRecDepth 10000 in set_option maxHeartbeats 4000000 in
theorem scanShifted_ok (v : Value) (xs : List Gi) (s mo : Int) (s0 : -62 ≤ s) (s1 : s ≤ 62) (m0 : 0 ≤ mo) (m1 : mo ≤ 2) (hb : ∀ a ∈ xs, (Lit.int .i64 a.re).wf = true ∧ (Lit.int .i64 a.im).wf = true)
 (hu : s < 0 → allIn (2 ^ (62 + s).toNat) xs = true) (hl : xs.length ≤ 1048576) (w : World) (hv : CxsAt w v xs) :
 Calls Tryz.prog 25 #[v, .int .i64 s, .int .i64 mo] w fun e w' => ∃ v', e = .returned (.tuple #[v', .int .i64 0]) ∧ CxsAt w' v' (xs.map (shG s mo)) ∧ Gr w w' := by
 have HM := Lib.hid (sMode_yes mo m0 m1)
 have hs62 : s ≤ 62 := by omega
 have hmk := run_make_cx xs.length hl
 by_cases hx : xs = []
 ·subst hx
  obtain ⟨p, cap, rfl⟩ := hv.len
  rw [show ([] : List Gi).length = 0 from rfl]
  clear hmk
  have hmk : ∀ W : World, (Instr.makeSlice 22 (.int .i64 0) (.int .i64 0)).run Tryz.prog W = .ok (.slice (some ⟨W.heap.size, 0, none⟩) 0 0) (W.alloc (.cells (madeCells #[.int .i64 0, .int .i64 0] (0 * 2)) 55)) := run_make_cx 0 (by omega)
  clear hv hb hu hl m0 m1
  go_enter Tryz.func25, Tryz.ntmps25
  go_wp2_with (go_at_call 56; ((with_reducible refine (HM.out _).mono ?_); rintro e wz ⟨rfl, hgz⟩))
  refine wp_loop_rounds 1 ?_
  rw [rounds_succ]
  go_wp2_with fail
  go_ret2
  exact ⟨_, rfl, ⟨_, 0, rfl, Nat.le_refl _, Nat.zero_le _, fun h => absurd rfl h⟩, hgz.alloc _ _⟩
 ·obtain ⟨b, o, cap, rfl, hlen, hbb, hc⟩ := hv.at hx
  have HC := Lib.hid hc
  have HG := Lib.hid fun (x : Gi) (hi : x ∈ xs) => shifted_one x s mo s0 s1 m0 m1 (hb x hi) (fun h => by
   have := (allIn_iff _ _).1 (hu h) x hi
   simp only [Bool.and_eq_true, inB_iff]
   exact ⟨absI_le.1 this.1, absI_le.1 this.2⟩)
  clear hu
  clear hc hv hx hb m0 m1
  go_enter Tryz.func25, Tryz.ntmps25
  go_wp2_with (go_at_call 56; ((with_reducible refine (HM.out _).mono ?_); rintro e wz ⟨rfl, hgz⟩))
  have M0 := CellsAt.new wz 55 (madeCells #[.int .i64 0, .int .i64 0] (xs.length * 2))
  have M1 := size_madeCells #[.int .i64 0, .int .i64 0] (xs.length * 2)
  have hzs := hgz.size
  go_loopw [9, 10, 11, 12, 29] (fun _ _ _ _ i wr => ∃ k : Nat, ∃ c : Array Value, k ≤ xs.length ∧ i = .int .i64 k ∧ CellsAt wr wz.heap.size 55 c ∧ c.size = xs.length * 2 ∧ (∀ j x, j < k → xs[j]? = some x → c[j * 2]? = some (.int .i64 (shG s mo x).re) ∧ c[j * 2 + 1]? = some (.int .i64 (shG s mo x).im)) ∧ Gr w wr) (fun _ _ _ _ i _ => xs.length - (intOf i).toNat)
  case atStart => exact ⟨0, _, by omega, rfl, M0, M1, fun j x hj => absurd hj (Nat.not_lt_zero _), hgz.alloc _ _⟩
  case round =>
   clear M0 M1 hmk HM
   obtain ⟨k, c, hk, rfl, hC, hsz, hj, hg⟩ := hrel
   by_cases hlt : k < xs.length
   ·obtain ⟨x, hx⟩ := get_of_lt hlt
    have h1 := (hg.cell (p := ⟨b, o + k * 2, none⟩) hbb).trans (HC.out k x hx).1
    have h2 := (hg.cell (p := ⟨b, o + k * 2 + 1, none⟩) hbb).trans (HC.out k x hx).2
    have hbl : b < wr.heap.size := Nat.lt_of_lt_of_le hbb hg.size
    have HS := Lib.hid hsz
    have HJ := Lib.hid hj
    have HXK := Lib.hid hx
    have HG2 := Lib.hid (HG.out x (List.mem_of_getElem? hx))
    clear hx hsz hj HC HG
    generalize hgg : shG s mo x = g at *
    have HGG := Lib.hid hgg
    clear hgg
    obtain ⟨re, im⟩ := x
    obtain ⟨r0, r1⟩ := g
    simp only at h1 h2 HG2
    go_wp2_with fail
    refine (HG2.out _).mono ?_
    rintro e w2 ⟨rfl, hg2⟩
    have hC2 := (hC.alloc (.cells #[.int .i64 re, .int .i64 im] 55)).gr hg2
    have hg3 := (hg.alloc #[.int .i64 re, .int .i64 im] 55).trans hg2
    have f2 := hC2.frozen (k * 2)
    have f3 := hC2.frozen (k * 2 + 1)
    have q2 := hC2.cell (k * 2)
    have q3 := hC2.cell (k * 2 + 1)
    rw [Array.getElem?_eq_getElem (show k * 2 < c.size by rw [HS.out]; omega)] at q2
    rw [Array.getElem?_eq_getElem (show k * 2 + 1 < c.size by rw [HS.out]; omega)] at q3
    have hBl := hC2.lt
    clear hC hg2 hg HG2
    go_wp2_with fail
    have hC3 := ((hC2.set (k * 2) (.int .i64 r0)).set (k * 2 + 1) (.int .i64 r1)).alloc (.cells #[.int .i64 r0, .int .i64 r1] 55)
    have hg4 := ((hg3.setCell (a := ⟨wz.heap.size, k * 2, none⟩) hzs (.int .i64 r0)).setCell (a := ⟨wz.heap.size, k * 2 + 1, none⟩) hzs (.int .i64 r1)).alloc #[.int .i64 r0, .int .i64 r1] 55
    go_roundw
    case rel =>
     refine ⟨k + 1, _, by omega, by go_num, hC3, by simpa using HS.out, fun j y hj hy => ?_, hg4⟩
     by_cases e : j = k
     ·subst e
      rw [HXK.out] at hy
      obtain rfl := Option.some.inj hy
      rw [HGG.out]
      constructor
      ·rw [Array.getElem?_setIfInBounds, if_neg (by omega), Array.getElem?_setIfInBounds, if_pos rfl, if_pos (by rw [HS.out]; omega)]
      ·rw [Array.getElem?_setIfInBounds, if_pos rfl, if_pos (by simp only [Array.size_setIfInBounds]; rw [HS.out]; omega)]
     ·have := HJ.out j y (by omega) hy
      constructor
      ·rw [Array.getElem?_setIfInBounds, if_neg (by omega), Array.getElem?_setIfInBounds, if_neg (by omega)]
       exact this.1
      ·rw [Array.getElem?_setIfInBounds, if_neg (by omega), Array.getElem?_setIfInBounds, if_neg (by omega)]
       exact this.2
    case measure => simp [intOf] <;> omega
   ·have he : k = xs.length := by omega
    have HE := Lib.hid he
    clear he
    go_wp2_with fail
    go_ret2
    refine ⟨.slice (some ⟨wz.heap.size, 0, none⟩) xs.length xs.length, rfl, ⟨some ⟨wz.heap.size, 0, none⟩, xs.length, by rw [List.length_map], by rw [List.length_map]; omega, by unfold maxLen; omega, fun _ => ⟨wz.heap.size, 0, rfl, hC.lt, fun j x hx => ?_⟩⟩, hg⟩
    rw [List.getElem?_map] at hx
    obtain ⟨x', hx', rfl⟩ := Option.map_eq_some_iff.1 hx
    have hjl := (List.getElem?_eq_some_iff.1 hx').1
    have := hj j x' (by rw [HE.out]; exact hjl) hx'
    rw [hC.cell, hC.cell, Nat.zero_add]
    exact this
end
end Go.Proofs.YtablflakcaimmaaGreat
