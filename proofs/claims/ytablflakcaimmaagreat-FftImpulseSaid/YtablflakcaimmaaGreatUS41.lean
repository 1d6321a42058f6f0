import Derived.Lib.SmallJoins
import Derived.Test.YtablflakcaimmaaGreatUS36
import Derived.Test.YtablflakcaimmaaGreatUS40
namespace Go.Proofs.YtablflakcaimmaaGreat
section
open Go.ChangeShapes Go.WideShapes Go.ChangeAt Go.RowKit
set_option linter.unusedVariables false
set_option maxRecDepth 100000
def AllO (xs : List Gi) : Prop := ∀ a ∈ xs, a = ⟨0, 0⟩
theorem AllO.getD {xs : List Gi} (h : AllO xs) (i : Nat) : xs.getD i ⟨0, 0⟩ = ⟨0, 0⟩ := by
 rw [List.getD_eq_getElem?_getD]
 cases e : xs[i]? with
 | none => rfl
 | some a => exact h a (List.mem_of_getElem? e)
theorem allO_of {xs : List Gi} (h : maxG xs = 0) : AllO xs := by
 intro a ha
 have hg := maxG_ge xs a ha
 rw [h] at hg
 obtain ⟨x, y⟩ := a
 unfold absI at hg
 simp only at hg
 obtain ⟨h1, h2⟩ := hg
 obtain rfl : x = 0 := by split at h1 <;> omega
 obtain rfl : y = 0 := by split at h2 <;> omega
 rfl
theorem AllO.max {xs : List Gi} (h : AllO xs) : maxG xs = 0 := by
 have h1 := maxG_nonneg xs
 have h2 := maxG_le xs 0 (Int.le_refl 0) (fun a ha => by rw [h a ha]; exact ⟨by decide, by decide⟩)
 omega
theorem two_o {xs : List Gi} (h : AllO xs) (ws : List Gi) (k bits s : Nat) (mo : Int) (iv : Bool) (hm : mo = 0 ∨ mo = 1 ∨ mo = 2) : AllO (twoL xs ws k bits s mo iv) := by
 have hg : ∀ w, gmul ⟨0, 0⟩ w = ⟨0, 0⟩ := fun w => by simp [gmul]
 intro a ha
 obtain ⟨i, _, rfl⟩ := List.mem_map.1 ha
 unfold twoAt
 rw [h.getD, h.getD, h.getD]
 split
 ·unfold pairUp padd
  rw [hg]
  simp only [Int.zero_mul, Int.add_zero, rnd_of_zero _ _ hm]
 ·unfold pairDown psub
  rw [hg]
  simp only [Int.zero_mul, Int.sub_zero, rnd_of_zero _ _ hm]
theorem four_o {xs : List Gi} (h : AllO xs) (ws : List Gi) (k bits s : Nat) (mo : Int) (iv : Bool) (hm : mo = 0 ∨ mo = 1 ∨ mo = 2) : AllO (fourL xs ws k bits s mo iv) := by
 have h0 : gscale bits ⟨0, 0⟩ = ⟨0, 0⟩ := by simp [gscale]
 have h1 : ∀ w, gmul ⟨0, 0⟩ w = ⟨0, 0⟩ := fun w => by simp [gmul]
 have h2 : ∀ n, Gi.turn n ⟨0, 0⟩ = ⟨0, 0⟩ := fun n => by simp [Gi.turn]
 intro a ha
 obtain ⟨i, _, rfl⟩ := List.mem_map.1 ha
 unfold fourAt
 simp only [h.getD]
 unfold quadOut quadSum
 rw [h0, h1, h1, h1, h2, h2, h2]
 unfold grnd gadd
 simp only [Int.add_zero]
 rw [rnd_of_zero _ _ hm]
section
variable {fo b p lo ke sc mo : Int} {L n B : Nat} {xs : List Gi}
theorem step_o {ys : List Gi} (hm : mo = 0 ∨ mo = 1 ∨ mo = 2) (h : AllO ys) (iv : Bool) (ws : List Gi) (q : Gi) : AllO (stepV sc p B mo iv ws ys q) := by
 unfold stepV passV
 split
 ·exact four_o h _ _ _ _ _ _ hm
 ·exact two_o h _ _ _ _ _ _ hm
theorem next_o (H : PlF fo b p lo ke sc mo L n B) (iv : Bool) (ws : List Gi) (b0 : BV) (q : Gi) (h : AllO b0.X) : AllO (nextB sc mo p iv B ws b0 q).X ∧ (sc = 1 → (nextB sc mo p iv B ws b0 q).ex = b0.ex) := by
 obtain ⟨hmo, _⟩ := H.kinds
 have hp : 4 ≤ p ∧ 0 ≤ p / 8 ∧ 0 ≤ p / 4 := by rcases H.sizes with h | h <;> omega
 constructor
 ·unfold nextB
  split
  ·intro a ha
   obtain ⟨y, hy, rfl⟩ := List.mem_map.1 ha
   rw [step_o hmo h iv ws q y hy]
   unfold clampG
   rw [clampI_id p 0 (by omega) (by omega)]
  ·exact step_o hmo h iv ws q
 ·intro hs
  simp only [nextB]
  subst hs
  unfold shOf preOf
  rw [h.max, if_neg (by decide), if_pos rfl]
  split
  ·rw [if_pos (by omega)]; omega
  ·rw [if_pos (by omega)]; omega
theorem ready_o (H : PlF fo b p lo ke sc mo L n B) (hl : xs.length = n) (h : AllO xs) : AllO (readyB ke sc mo p L xs).X ∧ (sc = 1 → (readyB ke sc mo p L xs).ex = 0) := by
 obtain ⟨hmo, _⟩ := H.kinds
 constructor
 ·intro y hy
  obtain ⟨a, ha, rfl⟩ := ready_mem H hl hy
  rw [h a ha]
  unfold shG
  split
  ·rw [rnd_of_zero _ _ hmo]
  ·simp
 ·intro hs
  simp only [readyB, atFirst]
  rw [if_neg (by omega), if_pos hs, h.max]
  have : room p 0 = 0 := by
   rcases Nat.eq_zero_or_pos (room p 0) with h | h
   ·exact h
   ·have := (room_fits p 0 h).1
    omega
  rw [this]
  rfl
theorem behind_o (H : PlF fo b p lo ke sc mo L n B) (iv : Bool) (ws : List Gi) : ∀ (l : List Gi) (b0 : BV), AllO b0.X → AllO (l.foldl (nextB sc mo p iv B ws) b0).X ∧ (sc = 1 → (l.foldl (nextB sc mo p iv B ws) b0).ex = b0.ex)
 | [], b0, h => ⟨h, fun _ => rfl⟩
 | q :: l, b0, h => by
   have h1 := next_o H iv ws b0 q h
   have h2 := behind_o H iv ws l _ h1.1
   rw [List.foldl_cons]
   exact ⟨h2.1, fun hs => (h2.2 hs).trans (h1.2 hs)⟩
theorem split_man (H : PlF fo b p lo ke sc mo L n B) (iv : Bool) {ys : List Gi} (hl : ys.length = n) (hh : ∀ y ∈ ys, Bd (p / 2) y) : ManB p (sL B mo iv (tw n B) L ys) := by
 obtain ⟨hmo, _⟩ := H.kinds
 obtain ⟨⟨l2, l6⟩, h4, hlen⟩ := H.lens
 have hb : 12 ≤ B ∧ B ≤ 29 ∧ 3 * 2 ^ B ≤ p - 1 := by rcases H.sizes with ⟨_, _, rfl, rfl⟩ | ⟨_, _, rfl, rfl⟩ <;> decide
 obtain ⟨R, hR0, hRB, hR⟩ : ∃ R : Int, 0 ≤ R ∧ R + 30 ≤ 3 * 2 ^ B ∧ ∀ y ∈ ys, Len R y := by
  rcases H.sizes with ⟨_, _, rfl, rfl⟩ | ⟨_, _, rfl, rfl⟩
  ·exact ⟨23171, by decide, by decide, fun y hy => len_start _ 16384 23171 (by decide) (by omega) (hh y hy)⟩
  ·exact ⟨1518500250, by decide, by decide, fun y hy => len_start _ 1073741824 1518500250 (by decide) (by omega) (hh y hy)⟩
 refine bd_man (fun a ha => ?_)
 obtain ⟨i, hi, rfl⟩ := List.mem_map.1 ha
 have hi := List.mem_range.1 hi
 have := spl_len B mo iv (rootOf (tw n B) iv) (tw n B).length hmo (fun k => roots_len n hlen B (by omega) (by omega) iv k) L R (fun j => ys.getD j ⟨0, 0⟩) hR0 (by omega)
  (fun j hj => by
   have hjl : j < ys.length := by rw [hl, H.n]; exact hj
   rw [List.getD_eq_getElem?_getD, List.getElem?_eq_getElem hjl]
   exact hR _ (List.getElem_mem hjl)) i hi
 exact (this.bd (by omega)).mono (by omega)
theorem run_man (H : PlF fo b p lo ke sc mo L n B) (iv : Bool) (hl : xs.length = n) (hm : ManB p xs) : ManB p (runB15 ke lo sc mo p iv L B (tw n B) xs).X := by
 unfold runB15
 by_cases hke : ke = 2
 ·rw [if_pos hke]
  have hs := H.kinds.2.2.1 hke
  exact split_man H iv (ready_len H hl) fun y hy => by
   obtain ⟨a, ha, rfl⟩ := ready_mem H hl hy
   exact bd_iff.2 ((ready_part H hm a ha).2 hs)
 ·rw [if_neg hke]
  exact (behind_man H iv hl hm _ (Nat.le_refl _)).2
theorem run_o (H : PlF fo b p lo ke sc mo L n B) (iv : Bool) (hl : xs.length = n) (h : maxG xs = 0) : maxG (runB15 ke lo sc mo p iv L B (tw n B) xs).X = 0 ∧ (sc = 1 → (runB15 ke lo sc mo p iv L B (tw n B) xs).ex = 0) := by
 obtain ⟨hmo, hsc, hks, _⟩ := H.kinds
 obtain ⟨⟨l2, l6⟩, h4, hlen⟩ := H.lens
 have ho := ready_o H hl (allO_of h)
 unfold runB15
 by_cases hke : ke = 2
 ·rw [if_pos hke]
  refine ⟨?_, fun hs => by have := hks hke; omega⟩
  have hb : 12 ≤ B ∧ B ≤ 29 := by rcases H.sizes with h | h <;> omega
  rw [sL_same B mo iv (tw n B) L _ ⟨0, 0⟩ hmo (roots_first n hlen B (by omega) iv) (fun j _ => ho.1.getD j)]
  refine AllO.max (fun a ha => ?_)
  obtain ⟨i, _, rfl⟩ := List.mem_map.1 ha
  split <;> rfl
 ·rw [if_neg hke]
  have h2 := behind_o H iv (tw n B) ((passL ke lo).take (passL ke lo).length) _ ho.1
  exact ⟨h2.1.max, fun hs => (h2.2 hs).trans (ho.2 hs)⟩
theorem mem_flip (H : PlF fo b p lo ke sc mo L n B) (hl : xs.length = n) {a : Gi} (ha : a ∈ xs) : a ∈ flipL L xs := by
 have hl2 : xs.length = 2 ^ L := by rw [hl, H.n]
 rw [← flipL_flipL L xs (by have := H.lens; omega) hl2] at ha
 exact flip_mem (flipL_len L xs) ha
theorem ready_great (H : PlF fo b p lo ke sc mo L n B) (hs : sc = 1) (hl : xs.length = n) (hm : ManB p xs) (h0 : 0 < maxG xs) : ∃ y ∈ (readyB ke sc mo p L xs).X, (p / 4) * (p / 4) ≤ nq y := by
 have hke : ke ≠ 2 := fun h => by have := H.kinds.2.2.1 h; omega
 have hp : 8 ≤ p ∧ p = 4 * (p / 4) ∧ p ≤ 2147483648 := by rcases H.sizes with h | h <;> omega
 have hr := room_great p (maxG xs) h0 (by omega)
 rw [Int.pow_succ, ← Int.mul_assoc] at hr
 obtain ⟨a, ha, hpart⟩ := maxG_at xs h0
 refine ⟨shG (atFirst sc p xs) mo a, ?_, ?_⟩
 ·unfold readyB
  rw [if_neg hke]
  exact List.mem_map_of_mem (mem_flip H hl ha)
 ·have e : shG (atFirst sc p xs) mo a = ⟨a.re * 2 ^ room p (maxG xs), a.im * 2 ^ room p (maxG xs)⟩ := by
   unfold atFirst
   rw [if_neg (by omega), if_pos hs]
   unfold shG
   by_cases hz : room p (maxG xs) = 0
   ·rw [hz, if_pos (by decide)]
    have := H.kinds.1
    simp [rnd_none _ mo this]
   ·rw [if_neg (by omega), Int.neg_neg, Int.toNat_natCast]
  rw [e]
  generalize hP : (2 : Int) ^ room p (maxG xs) = P at hr
  have hP0 : 0 < P := by rw [← hP]; exact Int.pow_pos (by decide)
  have e2 : nq ⟨a.re * P, a.im * P⟩ = nq a * (P * P) := by unfold nq; grind
  rw [e2]
  have h1 : p / 4 ≤ maxG xs * P := by omega
  have h2 : (p / 4) * (p / 4) ≤ (maxG xs * P) * (maxG xs * P) := Int.mul_le_mul h1 h1 (by omega) (by omega)
  have h3 : (maxG xs * maxG xs) * (P * P) ≤ nq a * (P * P) := Int.mul_le_mul_of_nonneg_right hpart (Int.mul_nonneg (Int.le_of_lt hP0) (Int.le_of_lt hP0))
  have e3 : (maxG xs * P) * (maxG xs * P) = (maxG xs * maxG xs) * (P * P) := by grind
  omega
theorem run_low (H : PlF fo b p lo ke sc mo L n B) (iv : Bool) (hs : sc = 1) (hl : xs.length = n) (hm : ManB p xs) (h0 : 0 < maxG xs) : 2 ^ (b - 5).toNat ≤ maxG (runB15 ke lo sc mo p iv L B (tw n B) xs).X := by
 obtain ⟨hmo, hsc, hks, k0, k1⟩ := H.kinds
 obtain ⟨⟨l2, l6⟩, h4, hlen⟩ := H.lens
 have hke : ke ≠ 2 := fun h => by have := hks h; omega
 obtain ⟨y, hy, hq⟩ := ready_great H hs hl hm h0
 have hlo := H.lo
 have hfit : ∀ q ∈ passL ke lo, Fits n q := by
  have := passL_fits ke lo k0 k1 (by omega) (by omega)
  rw [H.n]
  rw [show lo.toNat = L by omega] at this
  exact this
 have h6 : (passL ke lo).length ≤ 6 := by
  have hk : ke = 0 ∨ ke = 1 ∨ ke = 2 := by omega
  have hl : lo = 2 ∨ lo = 3 ∨ lo = 4 ∨ lo = 5 ∨ lo = 6 := by omega
  rcases hk with rfl | rfl | rfl <;> rcases hl with rfl | rfl | rfl | rfl | rfl <;> decide +kernel
 have hl6 : ((passL ke lo).length : Int) ≤ 6 := by omega
 unfold runB15 behindB
 rw [if_neg hke, List.take_length, behind_X (by omega), tw_eq]
 have hrl := ready_len H hl
 have hrm := ready_man H hl hm
 have h1 : 1 ≤ (passL ke lo).length := by
  have hk : ke = 0 ∨ ke = 1 := by omega
  have hl : lo = 2 ∨ lo = 3 ∨ lo = 4 ∨ lo = 5 ∨ lo = 6 := by omega
  rcases hk with rfl | rfl <;> rcases hl with rfl | rfl | rfl | rfl | rfl <;> decide +kernel
 subst hs
 generalize passL ke lo = l at hfit h6 hl6 h1 ⊢
 cases l with
 | nil => exact absurd h1 (by decide)
 | cons q l =>
   rw [List.length_cons] at hl6 h6
   rw [List.foldl_cons]
   have hfq := hfit q (by simp)
   have hfl : ∀ r ∈ l, Fits n r := fun r hr => hfit r (by simp [hr])
   rcases H.sizes with ⟨_, rfl, rfl, rfl⟩ | ⟨_, rfl, rfl, rfl⟩
   ·have s1 := stepV_block15 n hlen mo iv hmo (readyB ke 1 mo 32768 L xs).X q 4194304 hfq hrl (man_bd hrm) (by decide) ⟨y, hy, Int.le_trans (by decide) hq⟩
    obtain ⟨z, hz, hzq⟩ := (runV_block15 n hlen mo iv hmo l _ (4194304 - 262144) hfl (by unfold stepV; rw [passV_len]; exact hrl) s1.1 (by decide) s1.2).2
    exact great_part15 _ ⟨z, hz, Int.le_trans (by omega) hzq⟩
   ·have s1 := stepV_block31 n hlen mo iv hmo (readyB ke 1 mo 2147483648 L xs).X q 18014398509481984 hfq hrl (man_bd hrm) (by decide) ⟨y, hy, Int.le_trans (by decide) hq⟩
    obtain ⟨z, hz, hzq⟩ := (runV_block31 n hlen mo iv hmo l _ (18014398509481984 - 1125899906842624) hfl (by unfold stepV; rw [passV_len]; exact hrl) s1.1 (by decide) s1.2).2
    exact great_part31 _ ⟨z, hz, Int.le_trans (by omega) hzq⟩
end
end
section
open Go.ChangeShapes Go.WideShapes Go.ChangeAt Go.RowKit
set_option linter.unusedVariables false
set_option maxRecDepth 100000
theorem within15_man {fo b p : Int} (H : FB fo b p) (v : Value) (xs : List Gi) (hm : ManB p xs) (w : World) (hv : CxsAt w v xs) : Calls Tryz.prog 21 #[v, .int .i64 fo] w fun e w' => e = .returned (.bool true) ∧ Gr w w' := by
 refine within15_c v xs fo (Lib.hid fun a ha => ?_) w hv
 have h := hm a ha
 have key : ∀ x : Int, -p ≤ x → x ≤ p - 1 → ∀ W, Calls Tryz.prog 52 #[.int .i64 x, .int .i64 fo] W fun e w' => e = .returned (.tuple #[.int .i64 x, .bool false, .int .i64 0]) ∧ Gr W w' := by
  intro x h0 h1 W
  have := clamp_c fo b p x H W
  rw [clampI_id p x h0 h1, show (x != x) = false by simp] at this
  exact this
 exact ⟨key a.re (by omega) (by omega), key a.im (by omega) (by omega)⟩
theorem holds15_all (HR : FftSaid 9 runF) (HD : FftSaid 14 readyF) (HX : NextSaid) (HA : ∀ W, Calls Tryz.prog 11 #[] W fun e w' => e = .returned (.bool true) ∧ Gr W w')
 (p : Option Addr) (l1 cap1 m1 : Nat) (fo lo ke sc mo : Int) (iv : Bool) (xs : List Gi) (hl : xs.length = m1) (h71 : m1 ≤ 70) (hm1 : m1 ≤ cap1) (hmin1 : (if (70 : Int) < (l1 : Int) then 70 else (l1 : Int)) = (m1 : Int)) (w : World) (hx : CxsAt w (.slice p m1 cap1) xs) :
 Calls Tryz.prog 6 #[.slice p l1 cap1, .agg #[.int .i64 fo, .int .i64 lo, .int .i64 ke, .int .i64 sc, .int .i64 mo, .bool iv]] w fun e w' => e = .returned (.bool true) ∧ Gr w w' := by
 obtain ⟨y, hy⟩ : ∃ y, whyB fo lo ke sc mo false xs = y := ⟨_, rfl⟩
 by_cases h0 : y = 0
 ·subst h0
  obtain ⟨h1, h2, h3⟩ := why_yes hy
  have H := plF_of h1
  have hm := manB_iff.1 h3
  obtain ⟨hmo, hsc, hks, _⟩ := H.kinds
  obtain ⟨⟨l2, l6⟩, h4, hlen⟩ := H.lens
  have hp : oneB fo ≤ 2147483648 := by rcases H.sizes with h | h <;> omega
  have h7 := (passL_len7 H).1
  have hfit := (passL_len7 H).2
  obtain ⟨S, hS⟩ : ∃ S : Nat → BV, S = behindB ke lo sc mo (oneB fo) iv lo.toNat (if fo = 0 then 13 else 29) (tw (2 ^ lo.toNat) (if fo = 0 then 13 else 29)) xs := ⟨_, rfl⟩
  have hman : ∀ j, j ≤ (passL ke lo).length → (S j).X.length = 2 ^ lo.toNat ∧ ManB (oneB fo) (S j).X := by rw [hS]; exact behind_man H iv h2 hm
  have hmay : ∀ j, j ≤ (passL ke lo).length → (S j).sh.length = j ∧ -31 ≤ (S j).ex ∧ (S j).ex ≤ 19 := by rw [hS]; exact behind_may H iv h2 hm
  have hrm := run_man H iv h2 hm
  have HP := Lib.hid fun W (h : CxsAt W (.slice p m1 cap1) xs) => HR.1 fo lo ke sc mo iv _ xs hy W h
  have HRD : Hid (∀ W, CxsAt W (.slice p m1 cap1) xs → Calls Tryz.prog 14 #[.slice p m1 cap1, .agg #[.int .i64 fo, .int .i64 lo, .int .i64 ke, .int .i64 sc, .int .i64 mo, .bool iv]] W fun e w' => ∃ vx vs, e = .returned (.tuple #[.agg #[vx, .int .i64 (S 0).ex, .bool (S 0).sat, vs], .int .i64 0]) ∧ CxsAt w' vx (S 0).X ∧ NumsAt w' vs (S 0).sh ∧ Gr W w') := by
   rw [hS]
   exact Lib.hid fun W h => HD.1 fo lo ke sc mo iv _ xs hy W h
  have HPS := Lib.hid fun W => passes_ok fo lo ke sc mo 0 iv h1 W
  have HWI := Lib.hid fun j (hj : j ≤ (passL ke lo).length) v W (g : CxsAt W v (S j).X) => within15_man H.fb v _ (hman j hj).2 W g
  have HN : Hid (∀ (j : Nat) q, (passL ke lo)[j]? = some q → ∀ vx vs W, CxsAt W vx (S j).X → NumsAt W vs (S j).sh → Calls Tryz.prog 16 #[.agg #[vx, .int .i64 (S j).ex, .bool (S j).sat, vs], .agg #[.int .i64 fo, .int .i64 lo, .int .i64 ke, .int .i64 sc, .int .i64 mo, .bool iv], .int .i64 (j : Nat)] W fun e w' => ∃ vx vs, e = .returned (.tuple #[.agg #[vx, .int .i64 (S (j + 1)).ex, .bool (S (j + 1)).sat, vs], .int .i64 0]) ∧ CxsAt w' vx (S (j + 1)).X ∧ NumsAt w' vs (S (j + 1)).sh ∧ Gr W w' ∧ ∀ B, vs.ownBlock = some B → W.heap.size ≤ B) := by
   refine Lib.hid fun j q hq vx vs W g g' => ?_
   have hj := (List.getElem?_eq_some_iff.1 hq).1
   obtain ⟨a1, a2⟩ := hman j (by omega)
   obtain ⟨b1, b2, b3⟩ := hmay j (by omega)
   have e : S (j + 1) = nextF fo lo ke sc mo iv (S j) q := by rw [hS]; exact behindB_next hq
   rw [e]
   refine HX.1 fo lo ke sc mo iv (S j) j q vx vs hq ?_ (by omega) W g g'
   unfold whyN
   rw [if_pos h1, if_neg (by omega), if_pos, if_neg (by omega)]
   unfold whyB
   rw [if_pos h1, if_pos (by rw [a1]; simp), if_pos rfl, if_pos (by rw [openB_iff]; exact a2.all)]
  have hrl : (runF fo lo ke sc mo iv xs).X.length ≤ 1048576 := by
   have : (runF fo lo ke sc mo iv xs).X.length = 2 ^ lo.toNat := by
    unfold runF runB15
    split
    ·exact sL_len _ _ _ _ _ _
    ·exact (behind_man H iv h2 hm _ (Nat.le_refl _)).1
   rw [this]
   omega
  have HMX := Lib.hid fun v W (g : CxsAt W v (runF fo lo ke sc mo iv xs).X) => scanMax_yes v _ (allIn_more hrm.all hp) hrl W g
  have HBT := Lib.hid fun W => calls_gr (bits_c fo _ _ H.fb W)
  have HMN := Lib.hid fun W (g : CxsAt W (.slice p m1 cap1) xs) => scanMax_yes _ xs (allIn_more hm.all hp) (by omega) W g
  have HWW := Lib.hid fun v W (g : CxsAt W v (runF fo lo ke sc mo iv xs).X) => within15_man H.fb v _ hrm W g
  have hke : ke ≠ 2 → S (passL ke lo).length = runF fo lo ke sc mo iv xs := by
   intro h
   rw [hS]
   unfold runF runB15
   rw [if_neg h]
  have HZ : Hid ((maxG xs = 0 ∧ maxG (runF fo lo ke sc mo iv xs).X = 0) ∨ maxG xs ≠ 0) := by
   by_cases hz : maxG xs = 0
   ·exact Lib.hid (.inl ⟨hz, (run_o H iv h2 hz).1⟩)
   ·exact Lib.hid (.inr hz)
  have HS0 : Hid ((S 0).sh = []) := by rw [hS]; exact Lib.hid rfl
  by_cases hs2 : sc = 2
  ·subst hs2
   exact holds15_none p l1 cap1 m1 fo lo ke mo iv xs hm1 hmin1 (runF fo lo ke 2 mo iv xs) S (passL ke lo) _ _ _ (if fo = 0 then 1024 else 67108864) (by omega) HS0 hke (by rcases H.fb with ⟨rfl, _⟩ | ⟨rfl, _⟩ <;> simp [Hid]) HZ HP HRD HPS HWI HN HMX HBT HMN HWW (Lib.hid HA) w hx
  ·refine holds15_yes p l1 cap1 m1 fo lo ke sc mo iv xs hm1 hmin1 (runF fo lo ke sc mo iv xs) S (passL ke lo) _ _ _ (if fo = 0 then 1024 else 67108864) (by omega) HS0 (by simp [hs2]) ?_ hke (by rcases H.fb with ⟨rfl, _⟩ | ⟨rfl, _⟩ <;> simp [Hid]) ?_ HZ HP HRD HPS HWI HN HMX HBT HMN HWW (Lib.hid HA) w hx
   ·intro j
    rw [hS]
    exact behind_sat hs2 iv _ _ _
   ·intro hs
    have hg := maxG_nonneg xs
    by_cases hz : maxG xs = 0
    ·exact .inl ⟨hz, (run_o H iv h2 hz).2 hs⟩
    ·refine .inr ⟨by omega, ?_⟩
     have := run_low H iv hs h2 hm (by omega)
     refine Int.le_trans ?_ this
     split <;> decide
 ·exact holds15_no p l1 cap1 m1 fo lo ke sc mo iv xs hm1 hmin1 y (by simp [h0]) (Lib.hid fun W h => HR.2 fo lo ke sc mo iv _ xs y hy h0 W h) (Lib.hid HA) w hx
end
section
open Go.ChangeShapes Go.WideShapes Go.ChangeAt Go.RowKit Go.Joins
set_option linter.unusedVariables false
set_option linter.unusedSimpArgs false
set_option maxRecDepth 100000
theorem array6 {α : Type} {cs : Array α} (h : cs.size = 6) : ∃ c0 c1 c2 c3 c4 c5, cs = #[c0, c1, c2, c3, c4, c5] := by
 obtain ⟨l⟩ := cs
 match l, h with
 | [c0, c1, c2, c3, c4, c5], _ => exact ⟨c0, c1, c2, c3, c4, c5, rfl⟩
theorem cellsPlan : Tryz.prog.cellsOf 24 = 6 := by kernel_rfl
theorem plan_open {H : Type} {enc : TypeId × Value → H} {W : World} {r : Reach} {b0 : Nat} {v : Value} {d : DataW H} {p : List MemPlace} (hv : Value.okWide Tryz.prog W r b0 24 v) (h : DataW.Trod enc Tryz.prog W 0 (fun _ => true) true 24 v d p) :
 ∃ (fo lo ke sc mo : Int) (iv : Bool), v = .agg #[.int .i64 fo, .int .i64 lo, .int .i64 ke, .int .i64 sc, .int .i64 mo, .bool iv] ∧ p = [] ∧
  (∀ (W' : World) (sp : Nat → Bool), DataW.Trod enc Tryz.prog W' 0 sp true 24 v d []) ∧ ((Lit.int .i64 fo).wf = true ∧ (Lit.int .i64 lo).wf = true ∧ (Lit.int .i64 ke).wf = true ∧ (Lit.int .i64 sc).wf = true ∧ (Lit.int .i64 mo).wf = true) := by
 obtain ⟨cs, rfl, hsz⟩ := okWide_struct Tryz.underlying24 hv
 obtain ⟨c0, c1, c2, c3, c4, c5, rfl⟩ := array6 (hsz.trans cellsPlan)
 obtain ⟨fuel, hf⟩ := h
 obtain ⟨xs, n, _, hx, hl, hlen, hf⟩ := DataW.trod_struct Tryz.underlying24 hf
 have k : Tryz.prog.cellsOf 3 = 1 := by kernel_rfl
 have kb : Tryz.prog.cellsOf 4 = 1 := by kernel_rfl
 match xs, hlen with
 | [y0, y1, y2, y3, y4, y5], _ =>
   have h0 := hf 0 _ rfl
   have h1 := hf 1 _ rfl
   have h2 := hf 2 _ rfl
   have h3 := hf 3 _ rfl
   have h4 := hf 4 _ rfl
   have h5 := hf 5 _ rfl
   simp [k, kb, Value.cells] at h0 h1 h2 h3 h4 h5
   obtain ⟨x0, e0, rfl, w0⟩ := DataW.trod_int Tryz.underlying3 h0
   obtain ⟨x1, e1, rfl, w1⟩ := DataW.trod_int Tryz.underlying3 h1
   obtain ⟨x2, e2, rfl, w2⟩ := DataW.trod_int Tryz.underlying3 h2
   obtain ⟨x3, e3, rfl, w3⟩ := DataW.trod_int Tryz.underlying3 h3
   obtain ⟨x4, e4, rfl, w4⟩ := DataW.trod_int Tryz.underlying3 h4
   obtain ⟨x5, e5, rfl⟩ := DataW.trod_bool Tryz.underlying4 h5
   simp at e0 e1 e2 e3 e4 e5
   subst e0 e1 e2 e3 e4 e5
   simp only [Prod.mk.injEq] at hx
   obtain ⟨rfl, hp⟩ := hx
   refine ⟨x0, x1, x2, x3, x4, x5, rfl, by simpa using hp, fun W' sp => ⟨2, ?_⟩, w0, w1, w2, w3, w4⟩
   have := trod_struct_mk (enc := enc) (w := W') (base := 0) (spare := sp) (held := true) (n := 1) (cs := [.int .i64 x0, .int .i64 x1, .int .i64 x2, .int .i64 x3, .int .i64 x4, .bool x5]) (xs := [(.lit (.int .i64 x0), []), (.lit (.int .i64 x1), []), (.lit (.int .i64 x2), []), (.lit (.int .i64 x3), []), (.lit (.int .i64 x4), []), (.lit (.bool x5), [])]) Tryz.underlying24 (by simp [cellsPlan])
    (by simp [k, kb, DataW.trod, Tryz.underlying3, Tryz.underlying4, w0, w1, w2, w3, w4])
   simpa [Value.cells] using this
end
section
open Go.ChangeShapes Go.WideShapes Go.ChangeAt Go.RowKit
set_option linter.unusedVariables false
set_option linter.unusedSimpArgs false
set_option maxRecDepth 100000
set_option maxHeartbeats 2000000 in
theorem scales15_no (p : Option Addr) (l1 cap1 m1 : Nat) (fo lo ke sc mo s : Int) (iv : Bool) (xs : List Gi) (hm1 : m1 ≤ cap1) (hmin1 : (if (70 : Int) < (l1 : Int) then 70 else (l1 : Int)) = (m1 : Int)) (y : Int) (hy : (y == 0) = false) (HP : Hid (∀ W, CxsAt W (.slice p m1 cap1) xs → Calls Tryz.prog 9 #[.slice p m1 cap1, .agg #[.int .i64 fo, .int .i64 lo, .int .i64 ke, .int .i64 1, .int .i64 mo, .bool iv]] W fun e w' => e = .returned (.tuple #[.agg #[.slice none 0 0, .int .i64 0, .bool false, .slice none 0 0], .int .i64 y]) ∧ Gr W w')) (AL : CR 11 #[] (.bool true)) (w : World) (hx : CxsAt w (.slice p m1 cap1) xs) :
 Calls Tryz.prog 7 #[.slice p l1 cap1, .agg #[.int .i64 fo, .int .i64 lo, .int .i64 ke, .int .i64 sc, .int .i64 mo, .bool iv], .int .i64 s] w fun e w' => e = .returned (.bool true) ∧ Gr w w' := by
 have hcut1 := run_cut_cx p l1 cap1 m1 hm1
 have VX := Lib.hid hx
 clear hx
 go_enter Tryz.func7, Tryz.ntmps7
 go_wp2_with fail
 obtain ⟨u0, hU⟩ : ∃ uu, uu = (w.alloc (.cells #[.int .i64 fo, .int .i64 lo, .int .i64 ke, .int .i64 1, .int .i64 mo, .bool iv] 24)) := ⟨_, rfl⟩
 have ⟨gu, R0⟩ := lay1 hU
 rw [← hU]
 clear hU
 have lp := R0.lt
 refine (HP.out _ (VX.out.gr gu)).mono ?_
 rintro e w1 ⟨rfl, g1⟩
 have ⟨Fp_1, lp_1⟩ := CellsAt.gl (R0) g1
 have z1 := (gu).trans g1
 clear R0 gu g1
 go_wp2_with fail
 refine (AL.out _).mono ?_
 rintro e w3 ⟨rfl, g3⟩
 have Bc := (CellsAt.new w1 27 #[.slice none 0 0, .int .i64 0, .bool false, .slice none 0 0]).gr g3
 have cb0 := Bc.cell 0
 simp only [getS] at cb0
 have lb := Bc.lt
 go_wp2_with fail
 go_ret
 exact ⟨by first | rfl | (simp; done), ((z1).alloc _ _).trans g3⟩
set_option maxHeartbeats 2000000 in
theorem scales15_zero (p : Option Addr) (l1 cap1 m1 : Nat) (fo lo ke sc mo s : Int) (iv : Bool) (xs : List Gi) (hm1 : m1 ≤ cap1) (hmin1 : (if (70 : Int) < (l1 : Int) then 70 else (l1 : Int)) = (m1 : Int)) (r : Int) (b : BV) (HP : Hid (∀ W, CxsAt W (.slice p m1 cap1) xs → Calls Tryz.prog 9 #[.slice p m1 cap1, .agg #[.int .i64 fo, .int .i64 lo, .int .i64 ke, .int .i64 1, .int .i64 mo, .bool iv]] W fun e w' => ∃ vx vs, e = .returned (.tuple #[.agg #[vx, .int .i64 b.ex, .bool b.sat, vs], .int .i64 0]) ∧ CxsAt w' vx b.X ∧ NumsAt w' vs b.sh ∧ Gr W w')) (HX : Hid (∀ W, CxsAt W (.slice p m1 cap1) xs → Calls Tryz.prog 22 #[.slice p m1 cap1] W fun e w' => e = .returned (.tuple #[.int .i64 0, .int .i64 0]) ∧ Gr W w')) (HR : CR 24 #[.int .i64 0, .int .i64 fo] (.tuple #[.int .i64 r, .int .i64 0])) (AL : CR 11 #[] (.bool true)) (w : World) (hx : CxsAt w (.slice p m1 cap1) xs) :
 Calls Tryz.prog 7 #[.slice p l1 cap1, .agg #[.int .i64 fo, .int .i64 lo, .int .i64 ke, .int .i64 sc, .int .i64 mo, .bool iv], .int .i64 s] w fun e w' => e = .returned (.bool true) ∧ Gr w w' := by
 have hcut1 := run_cut_cx p l1 cap1 m1 hm1
 have VX := Lib.hid hx
 clear hx
 go_enter Tryz.func7, Tryz.ntmps7
 go_wp2_with fail
 obtain ⟨u0, hU⟩ : ∃ uu, uu = (w.alloc (.cells #[.int .i64 fo, .int .i64 lo, .int .i64 ke, .int .i64 1, .int .i64 mo, .bool iv] 24)) := ⟨_, rfl⟩
 have ⟨gu, R0⟩ := lay1 hU
 rw [← hU]
 clear hU
 have lp := R0.lt
 obtain ⟨X, ex, sat, sh⟩ := b
 simp only at HP
 refine (HP.out _ (VX.out.gr gu)).mono ?_
 rintro e w1 ⟨vx, vs, rfl, hx1, hs1, g1⟩
 obtain ⟨xp, xc, rfl⟩ := hx1.len
 obtain ⟨tp, tl, rfl⟩ := hs1.len
 have ⟨Fp_1, lp_1⟩ := CellsAt.gl (R0) g1
 have z1 := (gu).trans g1
 clear R0 gu g1
 obtain ⟨cp0, cp1, cp2, cp3, cp4, cp5⟩ := Fp_1.t6
 go_wp2_with fail
 clear cp0 cp1 cp2 cp3 cp4 cp5
 have hx2 := hx1.gr ((Gr.refl w1).alloc #[.slice xp X.length xc, .int .i64 ex, .bool sat, .slice tp sh.length tl] 27)
 have hs2 := hs1.gr ((Gr.refl w1).alloc #[.slice xp X.length xc, .int .i64 ex, .bool sat, .slice tp sh.length tl] 27)
 obtain ⟨u2, hqu2⟩ : ∃ zz, zz = (w1.alloc (.cells #[.slice xp X.length xc, .int .i64 ex, .bool sat, .slice tp sh.length tl] 27)) := ⟨_, rfl⟩
 rw [← hqu2] at hx2 hs2
 have Ypu2 : CellsAt u2 (w.heap.size) 24 #[.int .i64 fo, .int .i64 lo, .int .i64 ke, .int .i64 1, .int .i64 mo, .bool iv] := by rw [hqu2]; first | exact (Fp_1).alloc _ | simpa using (Fp_1).alloc _
 have Ybu2 : CellsAt u2 (w1.heap.size) 27 #[.slice xp X.length xc, .int .i64 ex, .bool sat, .slice tp sh.length tl] := by rw [hqu2]; first | exact CellsAt.new w1 27 #[.slice xp X.length xc, .int .i64 ex, .bool sat, .slice tp sh.length tl] | simpa using CellsAt.new w1 27 #[.slice xp X.length xc, .int .i64 ex, .bool sat, .slice tp sh.length tl]
 have yu2 : Gr w u2 := by rw [hqu2]; exact (z1).alloc _ _
 rw [← hqu2]
 clear hqu2
 refine (HX.out _ (VX.out.gr yu2)).mono ?_
 rintro e w2 ⟨rfl, g2⟩
 have hx3 := hx2.gr g2
 have hs3 := hs2.gr g2
 have ⟨Fp_2, lp_2⟩ := CellsAt.gl (Ypu2) g2
 have ⟨Fb_2, lb_2⟩ := CellsAt.gl (Ybu2) g2
 have z2 := (yu2).trans g2
 clear Ypu2 Ybu2 yu2 g2
 obtain ⟨cp0, cp1, cp2, cp3, cp4, cp5⟩ := Fp_2.t6
 go_wp2_with fail
 clear cp0 cp1 cp2 cp3 cp4 cp5
 refine (HR.out _).mono ?_
 rintro e w3 ⟨rfl, g3⟩
 have hx4 := hx3.gr g3
 have hs4 := hs3.gr g3
 have ⟨Fp_3, lp_3⟩ := CellsAt.gl (Fp_2) g3
 have ⟨Fb_3, lb_3⟩ := CellsAt.gl (Fb_2) g3
 have z3 := (z2).trans g3
 clear Fp_2 Fb_2 z2 g3
 go_wp2_with fail
 refine (AL.out _).mono ?_
 rintro e w4 ⟨rfl, g4⟩
 have hx5 := hx4.gr g4
 have hs5 := hs4.gr g4
 have ⟨Fp_4, lp_4⟩ := CellsAt.gl (Fp_3) g4
 have ⟨Fb_4, lb_4⟩ := CellsAt.gl (Fb_3) g4
 have z4 := (z3).trans g4
 clear Fp_3 Fb_3 z3 g4
 go_wp2_with fail
 go_ret
 exact ⟨by first | rfl | (simp; done), z4⟩
set_option maxHeartbeats 2000000 in
theorem scales15_yes (p : Option Addr) (l1 cap1 m1 : Nat) (fo lo ke sc mo s : Int) (iv : Bool) (xs : List Gi) (hm1 : m1 ≤ cap1) (hmin1 : (if (70 : Int) < (l1 : Int) then 70 else (l1 : Int)) = (m1 : Int)) (m r t n : Int) (hm : (m == 0) = false) (b : BV) (ys : List Gi) (HP : Hid (∀ W, CxsAt W (.slice p m1 cap1) xs → Calls Tryz.prog 9 #[.slice p m1 cap1, .agg #[.int .i64 fo, .int .i64 lo, .int .i64 ke, .int .i64 1, .int .i64 mo, .bool iv]] W fun e w' => ∃ vx vs, e = .returned (.tuple #[.agg #[vx, .int .i64 b.ex, .bool b.sat, vs], .int .i64 0]) ∧ CxsAt w' vx b.X ∧ NumsAt w' vs b.sh ∧ Gr W w')) (HX : Hid (∀ W, CxsAt W (.slice p m1 cap1) xs → Calls Tryz.prog 22 #[.slice p m1 cap1] W fun e w' => e = .returned (.tuple #[.int .i64 m, .int .i64 0]) ∧ Gr W w')) (HR : CR 24 #[.int .i64 m, .int .i64 fo] (.tuple #[.int .i64 r, .int .i64 0])) (HW : Hid (wrap64 (r + 1) = r + 1 ∧ s.tmod (r + 1) = t ∧ wrap64 (t + r) = t + r ∧ wrap64 (t + r + 1) = t + r + 1 ∧ (t + r + 1).tmod (r + 1) = n ∧ wrap64 (-n) = -n ∧ ¬ r + 1 = 0)) (HE : Hid (wrap64 b.ex = b.ex)) (HS : Hid (∀ W, CxsAt W (.slice p m1 cap1) xs → Calls Tryz.prog 25 #[.slice p m1 cap1, .int .i64 (-n), .int .i64 0] W fun e w' => ∃ v', e = .returned (.tuple #[v', .int .i64 0]) ∧ CxsAt w' v' ys ∧ Gr W w')) (HQ : Hid (∀ v W, CxsAt W v ys → Calls Tryz.prog 9 #[v, .agg #[.int .i64 fo, .int .i64 lo, .int .i64 ke, .int .i64 1, .int .i64 mo, .bool iv]] W fun e w' => ∃ vx vs, e = .returned (.tuple #[.agg #[vx, .int .i64 (b.ex + n), .bool b.sat, vs], .int .i64 0]) ∧ CxsAt w' vx b.X ∧ NumsAt w' vs b.sh ∧ Gr W w')) (AL : CR 11 #[] (.bool true)) (w : World) (hx : CxsAt w (.slice p m1 cap1) xs) :
 Calls Tryz.prog 7 #[.slice p l1 cap1, .agg #[.int .i64 fo, .int .i64 lo, .int .i64 ke, .int .i64 sc, .int .i64 mo, .bool iv], .int .i64 s] w fun e w' => e = .returned (.bool true) ∧ Gr w w' := by
 have hcut1 := run_cut_cx p l1 cap1 m1 hm1
 have VX := Lib.hid hx
 clear hx
 go_enter Tryz.func7, Tryz.ntmps7
 go_wp2_with fail
 obtain ⟨u0, hU⟩ : ∃ uu, uu = (w.alloc (.cells #[.int .i64 fo, .int .i64 lo, .int .i64 ke, .int .i64 1, .int .i64 mo, .bool iv] 24)) := ⟨_, rfl⟩
 have ⟨gu, R0⟩ := lay1 hU
 rw [← hU]
 clear hU
 have lp := R0.lt
 obtain ⟨X, ex, sat, sh⟩ := b
 simp only at HP HQ HE
 refine (HP.out _ (VX.out.gr gu)).mono ?_
 rintro e w1 ⟨vx, vs, rfl, hx1, hs1, g1⟩
 obtain ⟨xp, xc, rfl⟩ := hx1.len
 obtain ⟨tp, tl, rfl⟩ := hs1.len
 have ⟨Fp_1, lp_1⟩ := CellsAt.gl (R0) g1
 have z1 := (gu).trans g1
 clear R0 gu g1
 obtain ⟨cp0, cp1, cp2, cp3, cp4, cp5⟩ := Fp_1.t6
 go_wp2_with fail
 clear cp0 cp1 cp2 cp3 cp4 cp5
 have hx2 := hx1.gr ((Gr.refl w1).alloc #[.slice xp X.length xc, .int .i64 ex, .bool sat, .slice tp sh.length tl] 27)
 have hs2 := hs1.gr ((Gr.refl w1).alloc #[.slice xp X.length xc, .int .i64 ex, .bool sat, .slice tp sh.length tl] 27)
 obtain ⟨u2, hqu2⟩ : ∃ zz, zz = (w1.alloc (.cells #[.slice xp X.length xc, .int .i64 ex, .bool sat, .slice tp sh.length tl] 27)) := ⟨_, rfl⟩
 rw [← hqu2] at hx2 hs2
 have Ypu2 : CellsAt u2 (w.heap.size) 24 #[.int .i64 fo, .int .i64 lo, .int .i64 ke, .int .i64 1, .int .i64 mo, .bool iv] := by rw [hqu2]; first | exact (Fp_1).alloc _ | simpa using (Fp_1).alloc _
 have Ybu2 : CellsAt u2 (w1.heap.size) 27 #[.slice xp X.length xc, .int .i64 ex, .bool sat, .slice tp sh.length tl] := by rw [hqu2]; first | exact CellsAt.new w1 27 #[.slice xp X.length xc, .int .i64 ex, .bool sat, .slice tp sh.length tl] | simpa using CellsAt.new w1 27 #[.slice xp X.length xc, .int .i64 ex, .bool sat, .slice tp sh.length tl]
 have yu2 : Gr w u2 := by rw [hqu2]; exact (z1).alloc _ _
 rw [← hqu2]
 clear hqu2
 refine (HX.out _ (VX.out.gr yu2)).mono ?_
 rintro e w2 ⟨rfl, g2⟩
 have hx3 := hx2.gr g2
 have hs3 := hs2.gr g2
 have ⟨Fp_2, lp_2⟩ := CellsAt.gl (Ypu2) g2
 have ⟨Fb_2, lb_2⟩ := CellsAt.gl (Ybu2) g2
 have z2 := (yu2).trans g2
 clear Ypu2 Ybu2 yu2 g2
 obtain ⟨cp0, cp1, cp2, cp3, cp4, cp5⟩ := Fp_2.t6
 go_wp2_with fail
 clear cp0 cp1 cp2 cp3 cp4 cp5
 refine (HR.out _).mono ?_
 rintro e w3 ⟨rfl, g3⟩
 have hx4 := hx3.gr g3
 have hs4 := hs3.gr g3
 have ⟨Fp_3, lp_3⟩ := CellsAt.gl (Fp_2) g3
 have ⟨Fb_3, lb_3⟩ := CellsAt.gl (Fb_2) g3
 have z3 := (z2).trans g3
 clear Fp_2 Fb_2 z2 g3
 go_wp2_with fail
 refine (AL.out _).mono ?_
 rintro e w4 ⟨rfl, g4⟩
 have hx5 := hx4.gr g4
 have hs5 := hs4.gr g4
 have ⟨Fp_4, lp_4⟩ := CellsAt.gl (Fp_3) g4
 have ⟨Fb_4, lb_4⟩ := CellsAt.gl (Fb_3) g4
 have z4 := (z3).trans g4
 clear Fp_3 Fb_3 z3 g4
 obtain ⟨q0, q1, q2, q3, q4, q5, q6⟩ := HW.out
 go_wp2_with fail
 refine (HS.out _ (VX.out.gr z4)).mono ?_
 rintro e w5 ⟨vy, rfl, hy5, g5⟩
 obtain ⟨yp, yc, rfl⟩ := hy5.len
 have hx6 := hx5.gr g5
 have hs6 := hs5.gr g5
 have ⟨Fp_5, lp_5⟩ := CellsAt.gl (Fp_4) g5
 have ⟨Fb_5, lb_5⟩ := CellsAt.gl (Fb_4) g5
 have z5 := (z4).trans g5
 clear Fp_4 Fb_4 z4 g5
 obtain ⟨cp0, cp1, cp2, cp3, cp4, cp5⟩ := Fp_5.t6
 go_wp2_with fail
 clear cp0 cp1 cp2 cp3 cp4 cp5
 refine (HQ.out _ _ hy5).mono ?_
 rintro e w6 ⟨vz, vt, rfl, hz7, ht7, g6⟩
 obtain ⟨zp, zc, rfl⟩ := hz7.len
 obtain ⟨sp, sl, rfl⟩ := ht7.len
 have hx7 := hx6.gr g6
 have hs7 := hs6.gr g6
 have ⟨Fp_6, lp_6⟩ := CellsAt.gl (Fp_5) g6
 have ⟨Fb_6, lb_6⟩ := CellsAt.gl (Fb_5) g6
 have z6 := (z5).trans g6
 clear Fp_5 Fb_5 z5 g6
 clear q0 q1 q2 q3 q4 q5 q6
 have hx8 := hx7.gr ((Gr.refl w6).alloc #[.slice zp X.length zc, .int .i64 ex, .bool sat, .slice sp sh.length sl] 27)
 have hs8 := hs7.gr ((Gr.refl w6).alloc #[.slice zp X.length zc, .int .i64 ex, .bool sat, .slice sp sh.length sl] 27)
 have hz8 := hz7.gr ((Gr.refl w6).alloc #[.slice zp X.length zc, .int .i64 ex, .bool sat, .slice sp sh.length sl] 27)
 have ht8 := ht7.gr ((Gr.refl w6).alloc #[.slice zp X.length zc, .int .i64 ex, .bool sat, .slice sp sh.length sl] 27)
 obtain ⟨cb0, cb1, cb2, cb3⟩ := Fb_6.t4
 go_wp2_with fail
 clear cb0 cb1 cb2 cb3
 rw [HE.out]
 refine (same15_c _ _ _ _ ex sat X sh _ hx8 hs8 hz8 ht8).mono ?_
 rintro e w9 ⟨rfl, g9⟩
 go_wp2_with fail
 go_ret
 exact ⟨by first | rfl | (simp; done), ((z6).alloc _ _).trans g9⟩
end
section
set_option linter.unusedVariables false
set_option linter.unusedSimpArgs false
set_option maxRecDepth 100000
theorem shG_up (n : Nat) (mo : Int) (a : Gi) : shG (-(n : Int)) mo a = ⟨a.re * 2 ^ n, a.im * 2 ^ n⟩ := by
 unfold shG
 split
 ·have e : n = 0 := by omega
  subst e
  rw [show (-((0 : Nat) : Int)).toNat = 0 from rfl, rnd_zero, rnd_zero]
  simp
 ·rw [Int.neg_neg, Int.toNat_natCast]
theorem absI_up (x : Int) (n : Nat) : absI (x * 2 ^ n) = absI x * 2 ^ n := by
 have hp := pow_pos2 n
 unfold absI
 by_cases h : x < 0
 ·rw [if_pos h, if_pos (Int.mul_neg_of_neg_of_pos h hp), Int.neg_mul]
 ·rw [if_neg h, if_neg (by have := Int.mul_nonneg (show 0 ≤ x by omega) (show (0 : Int) ≤ 2 ^ n by omega); omega)]
theorem maxG_up (xs : List Gi) (n : Nat) (mo : Int) : maxG (xs.map (shG (-(n : Int)) mo)) = maxG xs * 2 ^ n := by
 have hp := pow_pos2 n
 have key : ∀ (ys : List Gi) (m : Int), (ys.map (shG (-(n : Int)) mo)).foldl mx (m * 2 ^ n) = ys.foldl mx m * 2 ^ n := by
  intro ys
  induction ys with
  | nil => intro m; rfl
  | cons a ys ih =>
    intro m
    rw [List.map_cons, List.foldl_cons, List.foldl_cons, ← ih]
    congr 1
    rw [shG_up]
    unfold mx
    simp only [absI_up]
    have lt : ∀ x y : Int, x * 2 ^ n < y * 2 ^ n ↔ x < y := fun x y => ⟨fun h => Int.lt_of_mul_lt_mul_right h (by omega), fun h => Int.mul_lt_mul_of_pos_right h hp⟩
    have le : ∀ x y : Int, x * 2 ^ n ≤ y * 2 ^ n ↔ x ≤ y := fun x y => ⟨fun h => Int.le_of_mul_le_mul_right h hp, fun h => Int.mul_le_mul_of_nonneg_right h (by omega)⟩
    simp only [Int.max_def, le]
    repeat' split
    all_goals first | rfl | (simp_all; done) | omega
 have := key xs 0
 rw [Int.zero_mul] at this
 exact this
theorem room_up (p m : Int) (n : Nat) (hp : p < 4294967296) (h0 : 0 < m) (hn : n ≤ room p m) : room p (m * 2 ^ n) = room p m - n := by
 have hp2 := pow_pos2 n
 have hr := room_le p m
 symm
 refine room_unique p (m * 2 ^ n) (room p m - n) hp (by omega) (fun h => ⟨Int.mul_pos h0 hp2, ?_⟩) (fun _ => ?_)
 ·have := (room_fits p m (by omega)).2
  rw [Int.mul_assoc, ← Int.pow_add, show n + (room p m - n) = room p m by omega]
  exact this
 ·have := room_great p m h0 (by omega)
  rw [Int.mul_assoc, ← Int.pow_add, show n + (room p m - n + 1) = room p m + 1 by omega]
  exact this
theorem flipL_map (L : Nat) (xs : List Gi) (f : Gi → Gi) (h0 : f gi0 = gi0) : flipL L (xs.map f) = (flipL L xs).map f := by
 unfold flipL
 rw [List.map_map]
 apply List.map_congr_left
 intro k _
 simp only [Function.comp, List.getD_eq_getElem?_getD, List.getElem?_map]
 cases xs[fl L k]? with
 | none => simpa using h0.symm
 | some a => rfl
theorem ready_up (ke mo mo' p : Int) (L n : Nat) (xs : List Gi) (hp : p < 4294967296) (h0 : 0 < maxG xs) (hn : n ≤ room p (maxG xs)) :
 readyB ke 1 mo p L (xs.map (shG (-(n : Int)) mo')) = { readyB ke 1 mo p L xs with ex := (readyB ke 1 mo p L xs).ex + n } := by
 have er := room_up p (maxG xs) n hp h0 hn
 have e1 : atFirst 1 p (xs.map (shG (-(n : Int)) mo')) = atFirst 1 p xs + n := by
  unfold atFirst
  simp only [show ¬ ((1 : Int) = 0) by decide, if_false, if_true]
  rw [maxG_up, er]
  omega
 have e2 : atFirst 1 p xs = -((room p (maxG xs) : Nat) : Int) := by unfold atFirst; simp
 have ez : shG (-(n : Int)) mo' gi0 = gi0 := by rw [shG_up]; unfold gi0; simp
 have each : ∀ a, shG (atFirst 1 p xs + n) mo (shG (-(n : Int)) mo' a) = shG (atFirst 1 p xs) mo a := by
  intro a
  rw [e2, show -((room p (maxG xs) : Nat) : Int) + n = -((room p (maxG xs) - n : Nat) : Int) by omega, shG_up, shG_up, shG_up]
  simp only [Int.mul_assoc, ← Int.pow_add, show n + (room p (maxG xs) - n) = room p (maxG xs) by omega]
 unfold readyB
 rw [e1]
 simp only [BV.mk.injEq, and_true, true_and]
 split
 ·rw [List.map_map]; exact List.map_congr_left fun a _ => each a
 ·rw [flipL_map L xs _ ez, List.map_map]; exact List.map_congr_left fun a _ => each a
theorem behind_up (ke lo mo p : Int) (iv : Bool) (L B n : Nat) (ws xs ys : List Gi) (h : readyB ke 1 mo p L ys = { readyB ke 1 mo p L xs with ex := (readyB ke 1 mo p L xs).ex + n }) (j : Nat) :
 behindB ke lo 1 mo p iv L B ws ys j = { behindB ke lo 1 mo p iv L B ws xs j with ex := (behindB ke lo 1 mo p iv L B ws xs j).ex + n } := by
 unfold behindB
 rw [h]
 generalize readyB ke 1 mo p L xs = b
 generalize (passL ke lo).take j = l
 induction l generalizing b with
 | nil => rfl
 | cons q l ih =>
   rw [List.foldl_cons, List.foldl_cons, ← ih]
   congr 1
   unfold nextB
   simp only [show ¬ ((1 : Int) = 2) by decide, if_false, BV.mk.injEq, true_and, and_true]
   omega
theorem run_up (ke lo mo mo' p : Int) (iv : Bool) (L B n : Nat) (ws xs : List Gi) (hk : ke ≠ 2) (hp : p < 4294967296) (h0 : 0 < maxG xs) (hn : n ≤ room p (maxG xs)) :
 runB15 ke lo 1 mo p iv L B ws (xs.map (shG (-(n : Int)) mo')) = { runB15 ke lo 1 mo p iv L B ws xs with ex := (runB15 ke lo 1 mo p iv L B ws xs).ex + n } := by
 unfold runB15
 rw [if_neg hk, if_neg hk]
 exact behind_up ke lo mo p iv L B n ws xs _ (ready_up ke mo mo' p L n xs hp h0 hn) _
theorem up_in (p : Int) (n : Nat) (mo : Int) (xs : List Gi) (hp : p = 32768 ∨ p = 2147483648) (hm : ∀ a ∈ xs, (-p ≤ a.re ∧ a.re ≤ p - 1) ∧ (-p ≤ a.im ∧ a.im ≤ p - 1)) (h0 : 0 < maxG xs) (hn : n ≤ room p (maxG xs)) :
 ∀ a ∈ xs.map (shG (-(n : Int)) mo), (-p ≤ a.re ∧ a.re ≤ p - 1) ∧ (-p ≤ a.im ∧ a.im ≤ p - 1) := by
 intro y hy
 by_cases e : n = 0
 ·obtain ⟨a, ha, rfl⟩ := List.mem_map.1 hy
  rw [shG_up, e]
  simpa using hm a ha
 ·have g := maxG_ge _ y hy
  rw [maxG_up] at g
  have hr := room_fits p (maxG xs) (by omega)
  have hle : maxG xs * 2 ^ n ≤ maxG xs * 2 ^ room p (maxG xs) := Int.mul_le_mul_of_nonneg_left (by
   have : (2 : Nat) ^ n ≤ 2 ^ room p (maxG xs) := Nat.pow_le_pow_right (by decide) hn
   exact_mod_cast this) (by omega)
  have h1 := absI_le.1 (Int.le_trans g.1 (Int.le_trans hle hr.2))
  have h2 := absI_le.1 (Int.le_trans g.2 (Int.le_trans hle hr.2))
  rcases hp with rfl | rfl <;> omega
end
end Go.Proofs.YtablflakcaimmaaGreat
