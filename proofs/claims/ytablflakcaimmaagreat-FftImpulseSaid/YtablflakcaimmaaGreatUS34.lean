import Derived.Test.YtablflakcaimmaaGreatUS27
import Derived.Test.YtablflakcaimmaaGreatUS33
namespace Go.Proofs.YtablflakcaimmaaGreat
section
open Go.ChangeShapes Go.WideShapes Go.ChangeAt Go.RowKit
set_option linter.unusedVariables false
set_option maxRecDepth 100000
theorem IntsAt.other {w : World} {v : Value} {xs : List Int} (h : IntsAt w v xs) (B : Nat) (hne : v.ownBlock ≠ some B) (j : Nat) (x : Value) : IntsAt (w.setCell ⟨B, j, none⟩ x) v xs := by
 rcases h with h | ⟨b, o, cap, rfl, hl, hm, hb, hc⟩
 ·exact .inl h
 ·have hbB : b ≠ B := by intro e; exact hne (by rw [e]; rfl)
  refine .inr ⟨b, o, cap, rfl, hl, hm, by simpa using hb, fun k y hk => ?_⟩
  rw [← hc k y hk]
  unfold World.cell?
  rw [Below.heap_setCell _ _ _ _ hbB]
end
section
open Go.ChangeShapes Go.WideShapes Go.ChangeAt Go.RowKit
set_option linter.unusedVariables false
def PtIs (z : Int) (W : World) : Prop := Calls Tryz.prog 181 #[.int .i64 z] W fun e w' => e = .returned (.tuple #[.agg #[.int .i64 (pt z).re, .int .i64 (pt z).im], .int .i64 0]) ∧ Gr W w'
def EiIs (k log : Int) (W : World) : Prop := Calls Tryz.prog 176 #[.int .i64 k, .int .i64 log] W fun e w' => e = .returned (.tuple #[.agg #[.int .i64 (pt (eighthZ k log)).re, .int .i64 (pt (eighthZ k log)).im], .int .i64 0]) ∧ Gr W w'
theorem point_ok (z : Int) (hz : z.natAbs ≤ 72057594037927936) (w : World) : PtIs z w := by
 unfold PtIs
 have HI : CR 187 #[] (.int .i64 43757185469210200) := Lib.hid fun W => gainInv_c W
 have HR : CR 186 #[.int .i64 43757185469210200, .int .i64 z] (.tuple #[.agg #[.int .i64 (pt z).re, .int .i64 (pt z).im], .int .i64 (pt z).left, .int .i64 0]) := Lib.hid fun W => gainRun_ok 43757185469210200 z (by omega) (by omega) hz W
 clear hz
 generalize pt z = s at *
 obtain ⟨re, im, left⟩ := s
 simp only at HR ⊢
 go_enter Tryz.func181, Tryz.ntmps181
 go_wp2_with fail
 have R0 := CellsAt.new w 55 #[.int .i64 0, .int .i64 0]
 refine (HI.out _).mono ?_
 rintro e w1 ⟨rfl, g1⟩
 have R1 := R0.gr g1
 have gw1 := ((Gr.refl w).alloc #[.int .i64 0, .int .i64 0] 55).trans g1
 clear R0 g1
 go_wp2_with fail
 refine (HR.out _).mono ?_
 rintro e w2 ⟨rfl, g2⟩
 have R2 := (R1.gr g2).alloc (.cells #[.int .i64 re, .int .i64 im] 55)
 have gw2 := (gw1.trans g2)
 have hsz := gw2.size
 have gw3 := gw2.alloc #[.int .i64 re, .int .i64 im] 55
 have c0 := R2.cell 0
 have c1 := R2.cell 1
 have f0 := R2.frozen 0
 have f1 := R2.frozen 1
 simp only [getS] at c0 c1
 clear gw1 R1 g2 gw2
 go_wp2_with fail
 refine bodyPost_ret (v := .tuple #[.agg #[.int .i64 re, .int .i64 im], .int .i64 0]) ?_ rfl ⟨rfl, ?_⟩
 ·simp [results, Tryz.f181, go_sem, c0, c1]
 ·exact (gw3.setCell (a := ⟨w.heap.size, 0, none⟩) (by simp) _).setCell (a := ⟨w.heap.size, 1, none⟩) (by simp) _
theorem parts1_c (p q : Nat) (k log : Int) (h0 : 0 ≤ log) (h1 : log ≤ 6) (k0 : 0 ≤ k) (k1 : k ≤ 64) (w : World)
 (c0 : w.cell? ⟨p, 0, none⟩ = some (.int .i64 56593902016227522)) (c1 : w.cell? ⟨q, 0, none⟩ = some (.int .i64 log)) :
 Calls Tryz.prog 183 #[.int .i64 k, .pointer (some ⟨p, 0, none⟩), .pointer (some ⟨q, 0, none⟩)] w fun e w' => e = .returned (.int .i64 (eighthZ k log)) ∧ w' = w := by
 have hm : IntKind.i64.wrap (56593902016227522 * k) = 56593902016227522 * k := IntWalk.i64_in _ ⟨by omega, by omega⟩
 have hb : (56593902016227522 * k) / 2 ^ log.toNat = eighthZ k log := rfl
 go_enter Tryz.func183, Tryz.ntmps183
 go_wp2
 go_ret
 exact ⟨rfl, rfl⟩
theorem partsOf_c (log : Int) (w : World) :
 Calls Tryz.prog 179 #[.int .i64 56593902016227522, .int .i64 log] w fun e w' => ∃ p q : Nat, e = .returned (.func (.func 183) #[] #[.pointer (some ⟨p, 0, none⟩), .pointer (some ⟨q, 0, none⟩)]) ∧ w'.cell? ⟨p, 0, none⟩ = some (.int .i64 56593902016227522) ∧ w'.cell? ⟨q, 0, none⟩ = some (.int .i64 log) ∧ Gr w w' := by
 go_enter Tryz.func179, Tryz.ntmps179
 go_wp2
 go_ret
 refine ⟨w.heap.size, w.heap.size + 1, rfl, ?_, ?_, ((Gr.refl w).alloc _ _).alloc _ _⟩
 ·exact ((CellsAt.new w 3 #[.int .i64 56593902016227522]).alloc _).cell 0
 ·have := (CellsAt.new (w.alloc (.cells #[.int .i64 56593902016227522] 3)) 3 #[.int .i64 log]).cell 0
  rw [World.size_alloc] at this
  exact this
theorem eighth_ok (k log : Int) (h0 : 0 ≤ log) (h1 : log ≤ 6) (k0 : 0 ≤ k) (k1 : k ≤ 2 ^ log.toNat) (w : World) : EiIs k log w := by
 unfold EiIs
 obtain ⟨z0, z1, kb⟩ := eighthZ_bd k log h0 h1 k0 k1
 have HQ := Lib.hid quarter_c
 have HO := Lib.hid (partsOf_c log)
 have HP := Lib.hid (point_ok (eighthZ k log) z0)
 unfold PtIs at HP
 have HC := Lib.hid fun p q W => parts1_c p q k log h0 h1 k0 kb W
 clear z0 z1 kb
 generalize eighthZ k log = z at *
 generalize pt z = s at *
 obtain ⟨re, im, left⟩ := s
 simp only at HP ⊢
 generalize he : (2 : Int) ^ log.toNat = p2 at *
 have hp2 : (1 : Int) ≤ p2 ∧ p2 ≤ 64 := by
  rcases (by omega : log = 0 ∨ log = 1 ∨ log = 2 ∨ log = 3 ∨ log = 4 ∨ log = 5 ∨ log = 6) with rfl | rfl | rfl | rfl | rfl | rfl | rfl <;> simp at he <;> omega
 have hw2 : IntKind.i64.wrap p2 = p2 := IntWalk.i64_in _ ⟨by omega, by omega⟩
 go_enter Tryz.func176, Tryz.ntmps176
 go_wp2_with fail
 have R0 := CellsAt.new w 55 #[.int .i64 0, .int .i64 0]
 refine (HQ.out _).mono ?_
 rintro e w1 ⟨rfl, g1⟩
 have R1 := R0.gr g1
 have gw1 := ((Gr.refl w).alloc #[.int .i64 0, .int .i64 0] 55).trans g1
 clear R0 g1 HQ
 go_wp2_with fail
 refine (HO.out _).mono ?_
 rintro e w2 ⟨p, q, rfl, c0, c1, g2⟩
 have R2 := R1.gr g2
 have gw2 := gw1.trans g2
 have HC2 := Lib.hid (HC.out p q w2 c0 c1)
 clear R1 g2 HO gw1 c0 c1 HC
 go_wp2_with fail
 refine HC2.out.mono ?_
 rintro e w3 ⟨rfl, rfl⟩
 go_wp2_with fail
 refine (HP.out _).mono ?_
 rintro e w4 ⟨rfl, g4⟩
 have R3 := R2.gr g4
 have gw3 := gw2.trans g4
 have hsz := gw3.size
 have d0 := R3.cell 0
 have d1 := R3.cell 1
 have f0 := R3.frozen 0
 have f1 := R3.frozen 1
 simp only [getS] at d0 d1
 clear R2 g4 HP HC2 gw2
 go_wp2_with fail
 refine bodyPost_ret (v := .tuple #[.agg #[.int .i64 re, .int .i64 im], .int .i64 0]) ?_ rfl ⟨rfl, ?_⟩
 ·simp [results, Tryz.f176, go_sem, d0, d1]
 ·exact (gw3.setCell (a := ⟨w.heap.size, 0, none⟩) (by simp) _).setCell (a := ⟨w.heap.size, 1, none⟩) (by simp) _
end
section
open Go.ChangeShapes Go.WideShapes Go.ChangeAt Go.RowKit
set_option linter.unusedVariables false
set_option maxRecDepth 100000
end
section
open Go.ChangeShapes Go.WideShapes Go.ChangeAt Go.RowKit
set_option linter.unusedVariables false
theorem len_log (n log : Int) (h0 : 2 ≤ log) (h1 : log ≤ 6) (hn : n = 2 ^ log.toNat) : IsLen n := by
 unfold IsLen
 rcases (by omega : log = 2 ∨ log = 3 ∨ log = 4 ∨ log = 5 ∨ log = 6) with rfl | rfl | rfl | rfl | rfl <;> simp at hn <;> omega
end
section
open Go.ChangeShapes Go.WideShapes Go.ChangeAt Go.RowKit
set_option linter.unusedVariables false
end
section
open Go.ChangeShapes Go.WideShapes Go.ChangeAt Go.RowKit
set_option linter.unusedVariables false
def rootsL (n : Int) (s : Nat) : List Gi := (List.range n.toNat).map (fun k : Nat => rootG n (k : Int) s)
theorem rootsL_len (n : Int) (s : Nat) : (rootsL n s).length = n.toNat := by unfold rootsL; simp
end
section
open Go.ChangeShapes Go.WideShapes Go.ChangeAt Go.RowKit
set_option linter.unusedVariables false
set_option maxRecDepth 100000
structure PlF (fo b p lo ke sc mo : Int) (L n B : Nat) : Prop where
 fb : FB fo b p
 ok : okF fo lo ke sc mo = true
 lo : lo = L
 n : n = 2 ^ L
 bits : b = B + 2
section
variable {fo b p lo ke sc mo : Int} {L n B : Nat}
theorem PlF.lens (H : PlF fo b p lo ke sc mo L n B) : (2 ≤ L ∧ L ≤ 6) ∧ (4 ≤ n ∧ n ≤ 64) ∧ IsLen (n : Int) := by
 have h := okF_iff.1 H.ok
 have hl := H.lo
 have hL : L = 2 ∨ L = 3 ∨ L = 4 ∨ L = 5 ∨ L = 6 := by omega
 have hn := H.n
 unfold IsLen
 rcases hL with rfl | rfl | rfl | rfl | rfl <;> simp only [Nat.reducePow] at hn <;> omega
theorem PlF.kinds (H : PlF fo b p lo ke sc mo L n B) : (mo = 0 ∨ mo = 1 ∨ mo = 2) ∧ (sc = 0 ∨ sc = 1 ∨ sc = 2) ∧ (ke = 2 → sc = 0) ∧ 0 ≤ ke ∧ ke < 3 := by
 have h := okF_iff.1 H.ok
 refine ⟨by omega, by omega, h.2, by omega, by omega⟩
theorem PlF.sizes (H : PlF fo b p lo ke sc mo L n B) : (fo = 0 ∧ b = 15 ∧ p = 32768 ∧ B = 13) ∨ (fo = 1 ∧ b = 31 ∧ p = 2147483648 ∧ B = 29) := by
 have h := H.bits
 rcases H.fb with ⟨h1, h2, h3⟩ | ⟨h1, h2, h3⟩
 ·left; exact ⟨h1, h2, h3, by omega⟩
 ·right; exact ⟨h1, h2, h3, by omega⟩
end
def tw (n B : Nat) : List Gi := rootsL n (56 - B)
theorem tw_eq (n B : Nat) : tw n B = (List.range n).map fun k : Nat => rootG n k (56 - B) := by unfold tw rootsL; rw [Int.toNat_natCast]
theorem tw_len (n B : Nat) : (tw n B).length = n := by rw [tw_eq]; simp
theorem shOf_bd (sc k p : Int) (xs : List Gi) : 0 ≤ shOf sc k p xs ∧ shOf sc k p xs ≤ 3 := by
 unfold shOf preOf
 repeat' split
 all_goals omega
theorem flip_mem {L : Nat} {xs : List Gi} (h : xs.length = 2 ^ L) {a : Gi} (ha : a ∈ flipL L xs) : a ∈ xs := by
 unfold flipL at ha
 obtain ⟨k, hk, rfl⟩ := List.mem_map.1 ha
 exact getD_mem xs _ (by rw [h]; exact fl_lt L k)
theorem rnd_one (x p : Int) (mo : Int) (hm : mo = 0 ∨ mo = 1 ∨ mo = 2) (h0 : -(2 * p) ≤ x) (h1 : x ≤ 2 * p) : -p ≤ rnd x 1 mo ∧ rnd x 1 mo ≤ p := by
 have e1 := rnd_mul p 1 mo hm
 have e2 := rnd_mul (-p) 1 mo hm
 have a := rnd_mono x (p * 2 ^ 1) 1 mo hm (by omega)
 have b := rnd_mono (-p * 2 ^ 1) x 1 mo hm (by omega)
 rw [e1] at a
 rw [e2] at b
 exact ⟨b, a⟩
theorem rnd_none (x : Int) (mo : Int) (hm : mo = 0 ∨ mo = 1 ∨ mo = 2) : rnd x 0 mo = x := by
 have := rnd_mul x 0 mo hm
 simpa using this
theorem upR_bd (x m q : Int) (r : Nat) (hx : absI x ≤ m) (hm : m * 2 ^ r ≤ q) : -q ≤ x * 2 ^ r ∧ x * 2 ^ r ≤ q := by
 have hp : (0 : Int) < 2 ^ r := Int.pow_pos (by decide)
 have h1 : x ≤ m := by unfold absI at hx; split at hx <;> omega
 have h2 : -x ≤ m := by unfold absI at hx; split at hx <;> omega
 have a := Int.mul_le_mul_of_nonneg_right h1 (Int.le_of_lt hp)
 have b := Int.mul_le_mul_of_nonneg_right h2 (Int.le_of_lt hp)
 rw [Int.neg_mul] at b
 omega
section
variable {fo b p lo ke sc mo : Int} {L n B : Nat} {xs : List Gi}
theorem ready_part (H : PlF fo b p lo ke sc mo L n B) (hm : ManB p xs) (a : Gi) (ha : a ∈ xs) :
 ((-p ≤ (shG (atFirst sc p xs) mo a).re ∧ (shG (atFirst sc p xs) mo a).re ≤ p - 1) ∧ (-p ≤ (shG (atFirst sc p xs) mo a).im ∧ (shG (atFirst sc p xs) mo a).im ≤ p - 1)) ∧
 (sc = 0 → ((-(p / 2) ≤ (shG (atFirst sc p xs) mo a).re ∧ (shG (atFirst sc p xs) mo a).re ≤ p / 2) ∧ (-(p / 2) ≤ (shG (atFirst sc p xs) mo a).im ∧ (shG (atFirst sc p xs) mo a).im ≤ p / 2))) := by
 obtain ⟨hmo, hsc, _⟩ := H.kinds
 have hp : p = 2 * (p / 2) ∧ 4 ≤ p := by rcases H.sizes with h | h <;> omega
 have h := hm a ha
 unfold atFirst
 rcases hsc with rfl | rfl | rfl
 ·rw [if_pos rfl]
  have e1 := rnd_one a.re (p / 2) mo hmo (by omega) (by omega)
  have e2 := rnd_one a.im (p / 2) mo hmo (by omega) (by omega)
  unfold shG
  rw [if_pos (by decide)]
  simp only [show (1 : Int).toNat = 1 from rfl]
  exact ⟨by omega, fun _ => by omega⟩
 ·rw [if_neg (by decide), if_pos rfl]
  refine ⟨?_, fun h => absurd h (by decide)⟩
  by_cases hr : room p (maxG xs) = 0
  ·rw [hr]
   simp only [shG, Int.natCast_zero, Int.neg_zero, Int.le_refl, if_true, Int.toNat_zero, rnd_none _ mo hmo]
   exact h
  ·have hf := (room_fits p (maxG xs) (by omega)).2
   have hg := maxG_ge xs a ha
   have u1 := upR_bd a.re (maxG xs) (p / 2) _ hg.1 hf
   have u2 := upR_bd a.im (maxG xs) (p / 2) _ hg.2 hf
   unfold shG
   rw [if_neg (by omega)]
   simp only [Int.neg_neg, Int.toNat_natCast]
   omega
 ·rw [if_neg (by decide), if_neg (by decide)]
  refine ⟨?_, fun h => absurd h (by decide)⟩
  simp only [shG, Int.le_refl, if_true, Int.toNat_zero, rnd_none _ mo hmo]
  exact h
theorem ready_mem (H : PlF fo b p lo ke sc mo L n B) (hl : xs.length = n) {y : Gi} (hy : y ∈ (readyB ke sc mo p L xs).X) : ∃ a ∈ xs, y = shG (atFirst sc p xs) mo a := by
 obtain ⟨a, ha, rfl⟩ := List.mem_map.1 hy
 refine ⟨a, ?_, rfl⟩
 split at ha
 ·exact ha
 ·exact flip_mem (by rw [hl, H.n]) ha
theorem ready_man (H : PlF fo b p lo ke sc mo L n B) (hl : xs.length = n) (hm : ManB p xs) : ManB p (readyB ke sc mo p L xs).X := by
 intro y hy
 obtain ⟨a, ha, rfl⟩ := ready_mem H hl hy
 exact (ready_part H hm a ha).1
theorem ready_len (H : PlF fo b p lo ke sc mo L n B) (hl : xs.length = n) : (readyB ke sc mo p L xs).X.length = n := by
 unfold readyB
 rw [List.length_map]
 split
 ·exact hl
 ·rw [flipL_len, H.n]
theorem sqR_le (x q : Int) (h0 : -q ≤ x) (h1 : x ≤ q) : x * x ≤ q * q := by
 have a : 0 ≤ (q - x) * (q + x) := Int.mul_nonneg (by omega) (by omega)
 have e : (q - x) * (q + x) = q * q - x * x := by grind
 omega
theorem ready_half (H : PlF fo b p lo ke sc mo L n B) (hs : sc = 0) (hl : xs.length = n) (hm : ManB p xs) : AllN (2 * ((p / 2) * (p / 2))) (readyB ke sc mo p L xs).X := by
 intro y hy
 obtain ⟨a, ha, rfl⟩ := ready_mem H hl hy
 have h := (ready_part H hm a ha).2 hs
 have e1 := sqR_le _ _ h.1.1 h.1.2
 have e2 := sqR_le _ _ h.2.1 h.2.2
 unfold nq
 omega
theorem behind_X (hs : sc ≠ 2) (iv : Bool) (ws : List Gi) : ∀ (l : List Gi) (b0 : BV), (l.foldl (nextB sc mo p iv B ws) b0).X = l.foldl (stepV sc p B mo iv ws) b0.X
 | [], b0 => rfl
 | q :: l, b0 => by
   rw [List.foldl_cons, List.foldl_cons, behind_X hs iv ws l]
   simp only [nextB, if_neg hs]
theorem behind_sat (hs : sc ≠ 2) (iv : Bool) (ws : List Gi) : ∀ (l : List Gi) (b0 : BV), (l.foldl (nextB sc mo p iv B ws) b0).sat = b0.sat
 | [], b0 => rfl
 | q :: l, b0 => by
   rw [List.foldl_cons, behind_sat hs iv ws l]
   simp only [nextB, if_neg hs]
theorem next_len (iv : Bool) (ws : List Gi) (b0 : BV) (q : Gi) : (nextB sc mo p iv B ws b0 q).X.length = b0.X.length := by
 unfold nextB stepV
 split
 ·rw [List.length_map, passV_len]
 ·exact passV_len _ _ _ _ _ _ _
theorem bd_man {p : Int} {ys : List Gi} (h : ∀ y ∈ ys, Bd (p - 1) y) : ManB p ys := by
 intro y hy
 have := bd_iff.1 (h y hy)
 omega
theorem man_bd {p : Int} {ys : List Gi} (h : ManB p ys) : ∀ y ∈ ys, Bd p y := by
 intro y hy
 have := h y hy
 exact bd_iff.2 (by omega)
theorem block_man (H : PlF fo b p lo ke sc mo L n B) (hs : sc = 1) (iv : Bool) {ys : List Gi} (hl : ys.length = n) (hm : ManB p ys) (q : Gi) (hq : Fits n q) : ManB p (stepV sc p B mo iv (tw n B) ys q) := by
 obtain ⟨hmo, _⟩ := H.kinds
 obtain ⟨_, h4, hlen⟩ := H.lens
 subst hs
 rw [tw_eq]
 rcases H.sizes with ⟨_, _, rfl, rfl⟩ | ⟨_, _, rfl, rfl⟩
 ·exact bd_man (stepV_fits15 n hlen mo iv hmo ys q hq hl (man_bd hm))
 ·exact bd_man (stepV_fits31 n hlen mo iv hmo ys q hq hl (man_bd hm))
theorem behind_man (H : PlF fo b p lo ke sc mo L n B) (iv : Bool) (hl : xs.length = n) (hm : ManB p xs) : ∀ j, j ≤ (passL ke lo).length → (behindB ke lo sc mo p iv L B (tw n B) xs j).X.length = n ∧ ManB p (behindB ke lo sc mo p iv L B (tw n B) xs j).X := by
 obtain ⟨hmo, hsc, _, k0, k1⟩ := H.kinds
 obtain ⟨⟨l2, l6⟩, h4, hlen⟩ := H.lens
 have hlo := H.lo
 have hfit : ∀ q ∈ passL ke lo, Fits n q := by
  have := passL_fits ke lo k0 k1 (by omega) (by omega)
  rw [H.n]
  rw [show lo.toNat = L by omega] at this
  exact this
 have h6 : (passL ke lo).length ≤ 6 := by
  have hk : ke = 0 ∨ ke = 1 ∨ ke = 2 := by omega
  have hl : lo = 2 ∨ lo = 3 ∨ lo = 4 ∨ lo = 5 ∨ lo = 6 := by omega
  rcases hk with rfl | rfl | rfl <;> rcases hl with rfl | rfl | rfl | rfl | rfl <;> decide +kernel
 have hlens : ∀ j, j ≤ (passL ke lo).length → (behindB ke lo sc mo p iv L B (tw n B) xs j).X.length = n := by
  intro j
  induction j with
  | zero => intro _; exact ready_len H hl
  | succ j ih =>
    intro hj
    obtain ⟨q, hq⟩ := get_of_lt (show j < (passL ke lo).length by omega)
    rw [behindB_next hq, next_len]
    exact ih (by omega)
 intro j hj
 refine ⟨hlens j hj, ?_⟩
 rcases hsc with rfl | rfl | rfl
 ·
  have hr := ready_half H rfl hl hm
  have e : (behindB ke lo 0 mo p iv L B (tw n B) xs j).X = ((passL ke lo).take j).foldl (stepV 0 p B mo iv (tw n B)) (readyB ke 0 mo p L xs).X := behind_X (by decide) iv (tw n B) _ _
  have hk : ∀ q ∈ (passL ke lo).take j, q.re = 2 ∨ q.re = 4 := fun q hq => (hfit q (List.mem_of_mem_take hq)).1
  have hc : ((passL ke lo).take j).length ≤ 6 := by rw [List.length_take]; omega
  rw [e, tw_eq]
  rcases H.sizes with ⟨_, _, rfl, rfl⟩ | ⟨_, _, rfl, rfl⟩
  ·have := runV_half15 n hlen mo iv hmo ((passL ke lo).take j) _ _ hk hr (by decide) (by omega)
   exact fun y hy => by
    have hy := nq_in15 y (Int.le_trans (this y hy) (by omega))
    omega
  ·have := runV_half31 n hlen mo iv hmo ((passL ke lo).take j) _ _ hk hr (by decide) (by omega)
   exact fun y hy => by
    have hy := nq_in31 y (Int.le_trans (this y hy) (by omega))
    omega
 ·induction j with
  | zero => exact ready_man H hl hm
  | succ j ih =>
    obtain ⟨q, hq⟩ := get_of_lt (show j < (passL ke lo).length by omega)
    rw [behindB_next hq]
    simp only [nextB, show ¬ ((1 : Int) = 2) by decide, if_false]
    exact block_man H rfl iv (hlens j (by omega)) (ih (by omega)) q (hfit q (List.mem_of_getElem? hq))
 ·cases j with
  | zero => exact ready_man H hl hm
  | succ j =>
    obtain ⟨q, hq⟩ := get_of_lt (show j < (passL ke lo).length by omega)
    rw [behindB_next hq]
    simp only [nextB, if_true]
    exact manB_clamp (by rcases H.sizes with h | h <;> omega) _
end
end
section
open Go.ChangeShapes Go.WideShapes Go.ChangeAt Go.RowKit
set_option linter.unusedVariables false
set_option maxRecDepth 100000
theorem plain09_c (n : Int) (h0 : -9223372036854775807 ≤ n) (h1 : n ≤ 9223372036854775807) (w : World) :
 Calls Tryz.prog 74 #[.int .i64 n] w fun e w' => e = .returned (.int .i64 (absI n)) ∧ w' = w := by
 unfold absI
 by_cases h : n < 0
 ·rw [if_pos h]
  go_enter Tryz.func74, Tryz.ntmps74
  go_wp2
  go_ret
  exact ⟨by simp, rfl⟩
 ·rw [if_neg h]
  go_enter Tryz.func74, Tryz.ntmps74
  go_wp2
  go_ret
  exact ⟨rfl, rfl⟩
theorem rshift03_c (x y s mo : Int) (wx : -9223372036854775808 ≤ x ∧ x ≤ 9223372036854775807) (wy : -9223372036854775808 ≤ y ∧ y ≤ 9223372036854775807) (s0 : 0 ≤ s) (s1 : s ≤ 62) (m0 : 0 ≤ mo) (m1 : mo ≤ 2) (w : World) :
 Calls Tryz.prog 63 #[.agg #[.int .i64 x, .int .i64 y], .int .i64 s, .int .i64 mo] w fun e w' => e = .returned (.agg #[.int .i64 (rnd x s.toNat mo), .int .i64 (rnd y s.toNat mo)]) ∧ Gr w w' := by
 have HX := Lib.hid (refShift_c x s mo wx s0 s1 m0 m1)
 have HY := Lib.hid (refShift_c y s mo wy s0 s1 m0 m1)
 generalize rnd x s.toNat mo = r0 at HX ⊢
 generalize rnd y s.toNat mo = r1 at HY ⊢
 clear wx wy s0 s1 m0 m1
 go_enter Tryz.func63, Tryz.ntmps63
 go_wp2_with fail
 go_region_held3 (fun W => W.cell? ⟨w.heap.size, 0, none⟩ = some (.int .i64 x) ∧ W.cell? ⟨w.heap.size, 1, none⟩ = some (.int .i64 y))
  (go_keep)
  (first | (go_at_call 94; ((with_reducible refine (HX.out _).mono ?_); rintro e w' ⟨rfl, rfl⟩)) | (go_at_call 94; ((with_reducible refine (HY.out _).mono ?_); rintro e w' ⟨rfl, rfl⟩)))
 go_wp2
 refine bodyPost_ret (v := .agg #[.int .i64 r0, .int .i64 r1]) ?_ rfl ⟨rfl, ?_⟩
 ·simp [results, Tryz.results63, go_sem]
 ·exact by repeat (first | exact Gr.refl _ | assumption | apply Gr.drew | apply Gr.alloc | (refine Gr.setCell ?_ (by first | (simp; done) | (simp; omega)) _))
end
section
open Go.ChangeShapes Go.WideShapes Go.ChangeAt Go.RowKit
set_option linter.unusedVariables false
set_option maxHeartbeats 2000000 in
theorem max09_c (v : Value) (xs : List Gi) (hn : allIn 2147483648 xs = true) (w : World) (hv : CxsAt w v xs) :
 Calls Tryz.prog 42 #[v] w fun e w' => e = .returned (.int .i64 (maxG xs)) ∧ Gr w w' := by
 by_cases hx : xs = []
 ·subst hx
  obtain ⟨p, cap, rfl⟩ := hv.len
  rw [show ([] : List Gi).length = 0 from rfl]
  clear hv
  go_enter Tryz.func42, Tryz.ntmps42
  go_wp2_with fail
  refine wp_loop_rounds 1 ?_
  rw [rounds_succ]
  go_wp2_with fail
  go_ret
  exact ⟨rfl, Gr.refl _⟩
 ·obtain ⟨b, o, cap, rfl, hlen, hb, hc⟩ := hv.at hx
  have HC := Lib.hid hc
  have HB := Lib.hid ((allIn_iff _ _).1 hn)
  have HA : maxG (xs.take xs.length) = maxG xs := by rw [List.take_length]
  have HS := Lib.hid fun (k : Nat) (a : Gi) (h : xs[k]? = some a) => (by rw [take_snoc h, maxG_snoc] : maxG (xs.take (k + 1)) = mx (maxG (xs.take k)) a)
  have HT := Lib.hid fun (k : Nat) => (maxG_le (xs.take k) 2147483648 (by omega) (fun a ha => HB.out a (List.mem_of_mem_take ha)))
  have HZ := Lib.hid fun (k : Nat) => maxG_nonneg (xs.take k)
  clear hc hv hx hn
  go_enter Tryz.func42, Tryz.ntmps42
  go_wp2_with fail
  go_loopw [3, 5, 8] (fun m _ i wr => ∃ k : Nat, k ≤ xs.length ∧ i = .int .i64 k ∧ m = .int .i64 (maxG (xs.take k)) ∧ Gr w wr) (fun _ _ i _ => xs.length - (intOf i).toNat)
  case atStart => exact ⟨0, Nat.zero_le _, rfl, rfl, Gr.refl _⟩
  case round =>
   obtain ⟨k, hk, rfl, rfl, hl⟩ := hrel
   by_cases hlt : k < xs.length
   ·obtain ⟨x, hx⟩ := get_of_lt hlt
    have h1 := (hl.cell (p := ⟨b, o + k * 2, none⟩) hb).trans (HC.out k x hx).1
    have h2 := (hl.cell (p := ⟨b, o + k * 2 + 1, none⟩) hb).trans (HC.out k x hx).2
    have hbl : b < wr.heap.size := Nat.lt_of_lt_of_le hb hl.size
    have hbd := HB.out x (List.mem_of_getElem? hx)
    have hr := absI_bd x.re
    have hi := absI_bd x.im
    have HR := Lib.hid (plain09_c x.re (by omega) (by omega))
    have HI := Lib.hid (plain09_c x.im (by omega) (by omega))
    have hs := HS.out k x hx
    have ht := HT.out k
    have hz := HZ.out k
    unfold mx at hs
    have HQ := Lib.hid hs
    clear hs hx HC HB HS HT HZ HA hr hi
    obtain ⟨re, im⟩ := x
    simp only at h1 h2 HR HI HQ hbd
    generalize absI re = p at *
    generalize absI im = q at *
    generalize maxG (xs.take k) = m at *
    by_cases c1 : m < p
    ·by_cases c2 : p < q
     ·go_wp2_with (first | (go_at_call 74; with_reducible refine (HR.out _).mono ?_; rintro e wz ⟨rfl, rfl⟩) | (go_at_call 74; with_reducible refine (HI.out _).mono ?_; rintro e wz ⟨rfl, rfl⟩))
      go_roundw
      case rel => exact ⟨k + 1, by omega, by go_num, by rw [HQ.out]; congr 1; omega, hl.alloc _ _⟩
      case measure => simp [intOf]; omega
     ·go_wp2_with (first | (go_at_call 74; with_reducible refine (HR.out _).mono ?_; rintro e wz ⟨rfl, rfl⟩) | (go_at_call 74; with_reducible refine (HI.out _).mono ?_; rintro e wz ⟨rfl, rfl⟩))
      go_roundw
      case rel => exact ⟨k + 1, by omega, by go_num, by rw [HQ.out]; congr 1; omega, hl.alloc _ _⟩
      case measure => simp [intOf]; omega
    ·by_cases c2 : m < q
     ·go_wp2_with (first | (go_at_call 74; with_reducible refine (HR.out _).mono ?_; rintro e wz ⟨rfl, rfl⟩) | (go_at_call 74; with_reducible refine (HI.out _).mono ?_; rintro e wz ⟨rfl, rfl⟩))
      go_roundw
      case rel => exact ⟨k + 1, by omega, by go_num, by rw [HQ.out]; congr 1; omega, hl.alloc _ _⟩
      case measure => simp [intOf]; omega
     ·go_wp2_with (first | (go_at_call 74; with_reducible refine (HR.out _).mono ?_; rintro e wz ⟨rfl, rfl⟩) | (go_at_call 74; with_reducible refine (HI.out _).mono ?_; rintro e wz ⟨rfl, rfl⟩))
      go_roundw
      case rel => exact ⟨k + 1, by omega, by go_num, by rw [HQ.out]; congr 1; omega, hl.alloc _ _⟩
      case measure => simp [intOf]; omega
   ·obtain rfl : k = xs.length := by omega
    have HL := Lib.hid HA
    clear HA HC HB HS HT HZ
    go_wp2_with fail
    go_ret
    exact ⟨by rw [← HL.out]; rfl, hl⟩
set_option maxHeartbeats 1000000 in
theorem room09_c (m f b p : Int) (H : FB f b p) (h0 : 0 ≤ m) (h1 : m ≤ p) (w : World) :
 Calls Tryz.prog 41 #[.int .i64 m, .int .i64 f] w fun e w' => e = .returned (.int .i64 (room p m : Nat)) ∧ w' = w := by
 have HO := Lib.hid (rone_c f b p H)
 have hp := H.pos
 have ht : p.tdiv 2 = p / 2 := Int.tdiv_eq_ediv_of_nonneg (by omega)
 have HS := Lib.hid (roomTo_succ p m)
 have HZ : roomTo p m 0 = 0 := rfl
 have hr : room p m = roomTo p m 31 := rfl
 rw [hr]
 have HB := Lib.hid hp
 clear H hr
 obtain ⟨q, hq⟩ : ∃ q, p / 2 = q := ⟨_, rfl⟩
 rw [hq] at ht
 have hqb : q ≤ 1073741824 := by omega
 have hq0 : 0 ≤ q := by omega
 have HQ := Lib.hid hq
 go_enter Tryz.func41, Tryz.ntmps41
 go_wp2_with fail
 go_loop [5] (fun i => ∃ k : Nat, k ≤ 31 ∧ i = .int .i64 k ∧ roomTo p m 31 = roomTo p m k) (fun i => (intOf i).toNat)
 case atStart => exact ⟨31, by omega, rfl, rfl⟩
 case round =>
  obtain ⟨k, hk, rfl, he⟩ := hrel
  have HE := Lib.hid he
  clear he
  cases k with
  | zero =>
    rw [HZ] at HE
    clear HS HO
    go_wp2_with fail
    go_ret
    exact ⟨by rw [HE.out]; rfl, rfl⟩
  | succ j =>
    have HP := Lib.hid (pow_c ((j + 1 : Nat) : Int) (by omega) (by omega))
    have hs := HS.out j
    have hpow : (2 : Int) ^ (j + 1) ≤ 2147483648 := pow_le31 (j + 1) (by omega)
    have hpos : (0 : Int) < 2 ^ (j + 1) := pow_pos2 _
    rw [Int.toNat_natCast] at HP
    rw [hq] at hs
    have HE2 := Lib.hid (HE.out.trans hs)
    generalize (2 : Int) ^ (j + 1) = P at *
    clear HS HE hs hq HZ
    by_cases hm : 0 < m
    ·have hmul : m * P ≤ 4611686018427387904 := by
      have := Int.mul_le_mul (show m ≤ 2147483648 by omega) hpow (by omega) (by omega)
      omega
     have hmul0 : 0 ≤ m * P := Int.mul_nonneg (by omega) (by omega)
     obtain ⟨t, ht2⟩ : ∃ t, m * P = t := ⟨_, rfl⟩
     rw [ht2] at hmul hmul0
     have hw : wrap64 (m * P) = t := by rw [ht2]; exact IntWalk.wrap64_in _ (by omega)
     have HT2 := Lib.hid ht2
     clear ht2
     by_cases hle : t ≤ q
     ·have HF := Lib.hid (HE2.out.trans (if_pos ⟨hm, by rw [HT2.out]; exact hle⟩))
      clear HE2
      go_wp2_with (first | (go_at_call 26; refine (HP.out _).mono ?_; rintro e wz ⟨rfl, rfl⟩) | (go_at_call 30; refine (HO.out _).mono ?_; rintro e wz ⟨rfl, rfl⟩))
      go_ret
      exact ⟨by rw [HF.out]; rfl, rfl⟩
     ·have HF := Lib.hid (HE2.out.trans (if_neg (by rw [HT2.out]; exact fun h => hle h.2)))
      clear HE2
      go_wp2_with (first | (go_at_call 26; refine (HP.out _).mono ?_; rintro e wz ⟨rfl, rfl⟩) | (go_at_call 30; refine (HO.out _).mono ?_; rintro e wz ⟨rfl, rfl⟩))
      go_round
      case rel => exact ⟨j, by omega, by go_num, HF.out⟩
      case measure => simp [intOf] <;> omega
    ·have HF := Lib.hid (HE2.out.trans (if_neg (fun h => hm h.1)))
     clear HE2
     go_wp2_with fail
     go_round
     case rel => exact ⟨j, by omega, by go_num, HF.out⟩
     case measure => simp [intOf] <;> omega
end
section
open Go.ChangeShapes Go.WideShapes Go.ChangeAt Go.RowKit
set_option linter.unusedVariables false
theorem map_take_snoc {α β : Type} (f : α → β) {xs : List α} {k : Nat} {x : α} (h : xs[k]? = some x) : (xs.take (k + 1)).map f = (xs.take k).map f ++ [f x] := by
 rw [take_snoc h, List.map_append]; rfl
set_option maxRecDepth 10000 in set_option maxHeartbeats 4000000 in
theorem shifted09_c (v : Value) (xs : List Gi) (s mo : Int) (s0 : -62 ≤ s) (s1 : s ≤ 62) (m0 : 0 ≤ mo) (m1 : mo ≤ 2) (hb : ∀ a ∈ xs, (Lit.int .i64 a.re).wf = true ∧ (Lit.int .i64 a.im).wf = true)
 (hu : s < 0 → allIn (2 ^ (62 + s).toNat) xs = true) (hlm : xs.length ≤ 1048576) (w : World) (hv : CxsAt w v xs) :
 Calls Tryz.prog 40 #[v, .int .i64 s, .int .i64 mo] w fun e w' => ∃ v', e = .returned v' ∧ CxsAt w' v' (xs.map (shG s mo)) ∧ Gr w w' := by
 obtain ⟨i0, hi, hz0, hz1, hz2⟩ := info_parts info_cx
 by_cases hx : xs = []
 ·subst hx
  obtain ⟨p, cap, rfl⟩ := hv.len
  rw [show ([] : List Gi).length = 0 from rfl]
  clear hv hb hu
  go_enter Tryz.func40, Tryz.ntmps40
  go_wp2_with fail
  refine wp_loop_rounds 1 ?_
  rw [rounds_succ]
  go_wp2_with fail
  go_ret
  exact ⟨.slice (some ⟨w.heap.size, 0, none⟩) 0 0, rfl, ⟨_, 0, rfl, Nat.le_refl _, Nat.zero_le _, fun h => absurd rfl h⟩, (Gr.refl _).alloc _ _⟩
 ·obtain ⟨b, o, cap, rfl, hlen, hbb, hc⟩ := hv.at hx
  have HC := Lib.hid hc
  have HM := Lib.hid fun (k : Nat) (a : Gi) (h : xs[k]? = some a) => map_take_snoc (shG s mo) h
  have HT : (xs.take xs.length).map (shG s mo) = xs.map (shG s mo) := by rw [List.take_length]
  have HB := Lib.hid hb
  have HU := Lib.hid hu
  have HSH := Lib.hid fun (a : Gi) (ha : a ∈ xs) (h : 0 ≤ s) => rshift03_c a.re a.im s mo (bounds_i64 (hb a ha).1) (bounds_i64 (hb a ha).2) h s1 m0 m1
  clear hc hv hx hb hu
  go_enter Tryz.func40, Tryz.ntmps40
  go_wp2_with fail
  have hs0 : ((w.alloc (.cells #[] 55)).ownsRow w.heap.size 55 2 (.slice (some ⟨w.heap.size, 0, none⟩) 0 0) 0 []) := World.ownsRow_made w #[] 0 (Nat.le_refl _) (by unfold maxLen; omega) (by simp)
  go_loopw [7, 9, 10, 14] (fun out _ _ i wr => ∃ j : Nat, j ≤ xs.length ∧ i = .int .i64 j ∧ wr.ownsRow w.heap.size 55 2 out j (gcells ((xs.take j).map (shG s mo))) ∧ Gr w wr)
   (fun _ _ _ i _ => xs.length - (intOf i).toNat)
  case atStart => exact ⟨0, by omega, rfl, hs0, (Gr.refl _).alloc _ _⟩
  case round =>
   clear hs0
   obtain ⟨j, hj, rfl, hrow, hg⟩ := hrel
   by_cases hlt : j < xs.length
   ·obtain ⟨x, hx⟩ := get_of_lt hlt
    have h1 := (hg.cell (p := ⟨b, o + j * 2, none⟩) hbb).trans (HC.out j x hx).1
    have h2 := (hg.cell (p := ⟨b, o + j * 2 + 1, none⟩) hbb).trans (HC.out j x hx).2
    have hbl : b < wr.heap.size := Nat.lt_of_lt_of_le hbb hg.size
    have hmem := List.mem_of_getElem? hx
    have HM1 := Lib.hid (HM.out j x hx)
    have hgs := hg.size
    by_cases hs : 0 ≤ s
    ·have HSH1 := Lib.hid (HSH.out x hmem hs)
     have hv : shG s mo x = ⟨rnd x.re s.toNat mo, rnd x.im s.toNat mo⟩ := by unfold shG; rw [if_pos hs]
     rw [hv] at HM1
     generalize rnd x.re s.toNat mo = r0 at *
     generalize rnd x.im s.toNat mo = r1 at *
     obtain ⟨re, im⟩ := x
     simp only at h1 h2 HSH1
     clear hx hmem HC HM HT HB HU HSH hv
     go_wp2_with fail
     refine (HSH1.out _).mono ?_
     rintro e w2 ⟨rfl, hg2⟩
     have hrow2 := ownsRow_gr (hrow.alloc (.cells #[.int .i64 re, .int .i64 im] 55)) hg2
     have hg3 := (hg.alloc #[.int .i64 re, .int .i64 im] 55).trans hg2
     have hsz := hg3.size
     clear hrow hg hg2 HSH1
     go_wp2_with (at_builtin; refine wpList_append_own_at _ rfl (.tmp 20) (.tmp 25) 22 rfl w.heap.size 55 i0 (.agg #[.int .i64 0, .int .i64 0]) 2 16 Tryz.underlying22 hi hz0 hz1 hz2 rfl (by decide) _ _ _ rfl (hrow2.alloc _) ⟨w2.heap.size, 0, none⟩ 1 1 [.int .i64 r0, .int .i64 r1] rfl rfl (news_two _ _ _ _) (by simp [Value.oneCell']) (by unfold maxLen; omega) (by omega) (by simp; omega) ?_; intro v' w3 hown' hgrow _ hblk)
     have e : gcells ((xs.take j).map (shG s mo)) ++ [.int .i64 r0, .int .i64 r1] = gcells ((xs.take (j + 1)).map (shG s mo)) := by
      rw [HM1.out, gcells_snoc]
     rw [e] at hown'
     have hg4 := (hg3.allocO _).grown hgrow (fun k e => (hrow2.lt k e).1)
     go_roundw
     case rel => exact ⟨j + 1, by omega, by go_num, hown', hg4⟩
     case measure => simp [intOf] <;> omega
    ·have HP := Lib.hid (pow_c (-s) (by omega) (by omega))
     have hin := (allIn_iff _ _).1 (HU.out (by omega)) x hmem
     have hv : shG s mo x = ⟨x.re * 2 ^ (-s).toNat, x.im * 2 ^ (-s).toNat⟩ := by unfold shG; rw [if_neg hs]
     rw [hv] at HM1
     have hpp : (2 : Int) ^ (62 + s).toNat * 2 ^ (-s).toNat = 4611686018427387904 := by
      rw [← Int.pow_add, show (62 + s).toNat + (-s).toNat = 62 by omega]; rfl
     have hl0 := pow_pos2 (62 + s).toNat
     have hp0 := pow_pos2 (-s).toNat
     generalize (2 : Int) ^ (62 + s).toNat = l at *
     generalize (2 : Int) ^ (-s).toNat = P at *
     obtain ⟨re, im⟩ := x
     simp only at h1 h2 hin HM1
     have hre := absI_le.1 hin.1
     have him := absI_le.1 hin.2
     have b1 : re * P ≤ l * P := Int.mul_le_mul_of_nonneg_right hre.2 (by omega)
     have b2 : -l * P ≤ re * P := Int.mul_le_mul_of_nonneg_right hre.1 (by omega)
     have b3 : im * P ≤ l * P := Int.mul_le_mul_of_nonneg_right him.2 (by omega)
     have b4 : -l * P ≤ im * P := Int.mul_le_mul_of_nonneg_right him.1 (by omega)
     rw [Int.neg_mul] at b2 b4
     rw [hpp] at b1 b2 b3 b4
     obtain ⟨r0, hr0⟩ : ∃ r0, re * P = r0 := ⟨_, rfl⟩
     obtain ⟨r1, hr1⟩ : ∃ r1, im * P = r1 := ⟨_, rfl⟩
     rw [hr0, hr1] at HM1
     rw [hr0] at b1 b2
     rw [hr1] at b3 b4
     have hw0 : wrap64 (re * P) = r0 := by rw [hr0]; exact IntWalk.wrap64_in _ (by omega)
     have hw1 : wrap64 (im * P) = r1 := by rw [hr1]; exact IntWalk.wrap64_in _ (by omega)
     clear hx hmem HC HM HT HB HU HSH hv hpp hl0 hp0 hr0 hr1 b1 b2 b3 b4 hin hre him
     have hrow2 := hrow.alloc (.cells #[.int .i64 re, .int .i64 im] 55)
     have hg3 := (hg.alloc #[.int .i64 re, .int .i64 im] 55)
     have hsz := hg3.size
     clear hrow hg
     go_wp2_with (first
      | (go_at_call 26; refine (HP.out _).mono ?_; rintro e wz ⟨rfl, rfl⟩)
      | (at_builtin; refine wpList_append_own_at _ rfl (.tmp 30) (.tmp 40) 22 rfl w.heap.size 55 i0 (.agg #[.int .i64 0, .int .i64 0]) 2 16 Tryz.underlying22 hi hz0 hz1 hz2 rfl (by decide) _ _ _ rfl (hrow2.alloc _) ⟨wr.heap.size + 1, 0, none⟩ 1 1 [.int .i64 r0, .int .i64 r1] rfl rfl (by have := news_two (wr.alloc (.cells #[.int .i64 re, .int .i64 im] 55)) (.int .i64 r0) (.int .i64 r1) 55; rwa [World.size_alloc] at this) (by simp [Value.oneCell']) (by unfold maxLen; omega) (by omega) (by simp; omega) ?_; intro v' w3 hown' hgrow _ hblk))
     have e : gcells ((xs.take j).map (shG s mo)) ++ [.int .i64 r0, .int .i64 r1] = gcells ((xs.take (j + 1)).map (shG s mo)) := by
      rw [HM1.out, gcells_snoc]
     rw [e] at hown'
     have hg4 := (hg3.allocO _).grown hgrow (fun k e => (hrow2.lt k e).1)
     go_roundw
     case rel => exact ⟨j + 1, by omega, by go_num, hown', hg4⟩
     case measure => simp [intOf] <;> omega
   ·obtain rfl : j = xs.length := by omega
    have HL := Lib.hid HT
    clear HT HC HM HB HU HSH
    go_wp2_with fail
    go_ret
    refine ⟨_, rfl, ?_, hg⟩
    have := CxsAt.of_row hrow
    rw [HL.out] at this
    exact this
end
section
open Go.ChangeShapes Go.WideShapes Go.ChangeAt Go.RowKit
set_option linter.unusedVariables false
set_option maxRecDepth 100000
def SetsOk (b s mo : Int) : Prop := (0 ≤ b ∧ b ≤ 29) ∧ (0 ≤ s ∧ s ≤ 3) ∧ 0 ≤ mo ∧ mo ≤ 2
end
section
open Go.ChangeShapes Go.WideShapes Go.ChangeAt Go.RowKit
set_option linter.unusedVariables false
end
section
open Go.ChangeShapes Go.WideShapes Go.ChangeAt Go.RowKit
set_option linter.unusedVariables false
theorem pair_nums (a b w : Gi) (bits : Nat) (hb : bits ≤ 29) (ha : absI a.re ≤ 2147483648 ∧ absI a.im ≤ 2147483648) (hbb : absI b.re ≤ 2147483648 ∧ absI b.im ≤ 2147483648) (hw : absI w.re ≤ 2 ^ bits ∧ absI w.im ≤ 2 ^ bits) :
 (∀ x y : Int, (x = b.re ∨ x = b.im) → (y = w.re ∨ y = w.im) → -1152921504606846976 ≤ x * y ∧ x * y ≤ 1152921504606846976) ∧
 (-1152921504606846976 ≤ a.re * 2 ^ bits ∧ a.re * 2 ^ bits ≤ 1152921504606846976) ∧ (-1152921504606846976 ≤ a.im * 2 ^ bits ∧ a.im * 2 ^ bits ≤ 1152921504606846976) ∧ (2 : Int) ^ bits ≤ 536870912 ∧ 0 < (2 : Int) ^ bits := by
 have hp := pow_pos2 bits
 have hp2 : (2 : Int) ^ bits ≤ 536870912 := by
  have h1 : (2 : Nat) ^ bits ≤ 2 ^ 29 := Nat.pow_le_pow_right (by decide) hb
  have h2 : ((2 ^ bits : Nat) : Int) ≤ ((2 ^ 29 : Nat) : Int) := Int.ofNat_le.2 h1
  rw [Int.natCast_pow] at h2
  simpa using h2
 have hq : (2147483648 : Int) * 2 ^ bits ≤ 1152921504606846976 := by omega
 have a1 := absI_le.1 ha.1
 have a2 := absI_le.1 ha.2
 have b1 := absI_le.1 hbb.1
 have b2 := absI_le.1 hbb.2
 have w1 := absI_le.1 hw.1
 have w2 := absI_le.1 hw.2
 have m1 := mulG_bd a.re (2 ^ bits) 2147483648 (2 ^ bits) (by omega) a1 (by omega)
 have m2 := mulG_bd a.im (2 ^ bits) 2147483648 (2 ^ bits) (by omega) a2 (by omega)
 refine ⟨fun x y hx hy => ?_, by omega, by omega, hp2, hp⟩
 have hx2 : -2147483648 ≤ x ∧ x ≤ 2147483648 := by rcases hx with rfl | rfl <;> assumption
 have hy2 : -(2 ^ bits) ≤ y ∧ y ≤ 2 ^ bits := by rcases hy with rfl | rfl <;> assumption
 have m3 := mulG_bd x y 2147483648 (2 ^ bits) (by omega) hx2 hy2
 generalize x * y = t at *
 omega
end
section
open Go.ChangeShapes Go.WideShapes Go.ChangeAt Go.RowKit
set_option linter.unusedVariables false
def WhyIs (n m : Nat) (part : Bool) (b s mo : Int) (inx inw : Bool) (e : Int) : Prop :=
 ((¬ ∃ L, IsLog (n : Int) L) ∧ e = 3) ∨
 ((∃ L, IsLog (n : Int) L) ∧ m ≠ n ∧ e = 5) ∨
 ((∃ L, IsLog (n : Int) L) ∧ m = n ∧ (part = false ∨ ¬ SetsOk b s mo) ∧ e = 1) ∨
 ((∃ L, IsLog (n : Int) L) ∧ m = n ∧ part = true ∧ SetsOk b s mo ∧ (inx && inw) = false ∧ e = 2) ∨
 ((∃ L, IsLog (n : Int) L) ∧ m = n ∧ part = true ∧ SetsOk b s mo ∧ inx = true ∧ inw = true ∧ e = 0)
end
end Go.Proofs.YtablflakcaimmaaGreat
