import Derived.Test.YtcgeabpibkejpaaGreatUS22
import Derived.Test.YtcgeabpibkejpaaGreatUS26
namespace Go.Proofs.YtcgeabpibkejpaaGreat
section
open Go.ChangeShapes Go.WideShapes Go.ChangeAt Go.RowKit
set_option linter.unusedVariables false
set_option maxRecDepth 100000
theorem IntsAt.other {w : World} {v : Value} {xs : List Int} (h : IntsAt w v xs) (B : Nat) (hne : v.ownBlock ≠ some B) (j : Nat) (x : Value) : IntsAt (w.setCell ⟨B, j, none⟩ x) v xs := by
 rcases h with h | ⟨b, o, cap, rfl, hl, hm, hb, hc⟩
 ·exact .inl h
 ·have hbB : b ≠ B := by intro e; exact hne (by rw [e]; rfl)
  refine .inr ⟨b, o, cap, rfl, hl, hm, by simpa using hb, fun k y hk => ?_⟩
  rw [← hc k y hk]
  unfold World.cell?
  rw [Below.heap_setCell _ _ _ _ hbB]
end
section
open Go.ChangeShapes Go.WideShapes Go.ChangeAt Go.RowKit
set_option linter.unusedVariables false
def PtIs (z : Int) (W : World) : Prop := Calls Tryz.prog 196 #[.int .i64 z] W fun e w' => e = .returned (.tuple #[.agg #[.int .i64 (pt z).re, .int .i64 (pt z).im], .int .i64 0]) ∧ Gr W w'
def EiIs (k log : Int) (W : World) : Prop := Calls Tryz.prog 191 #[.int .i64 k, .int .i64 log] W fun e w' => e = .returned (.tuple #[.agg #[.int .i64 (pt (eighthZ k log)).re, .int .i64 (pt (eighthZ k log)).im], .int .i64 0]) ∧ Gr W w'
theorem point_ok (z : Int) (hz : z.natAbs ≤ 72057594037927936) (w : World) : PtIs z w := by
 unfold PtIs
 have HI : CR 202 #[] (.int .i64 43757185469210200) := Lib.hid fun W => gainInv_c W
 have HR : CR 201 #[.int .i64 43757185469210200, .int .i64 z] (.tuple #[.agg #[.int .i64 (pt z).re, .int .i64 (pt z).im], .int .i64 (pt z).left, .int .i64 0]) := Lib.hid fun W => gainRun_ok 43757185469210200 z (by omega) (by omega) hz W
 clear hz
 generalize pt z = s at *
 obtain ⟨re, im, left⟩ := s
 simp only at HR ⊢
 go_enter Tryz.func196, Tryz.ntmps196
 go_wp2_with fail
 have R0 := CellsAt.new w 58 #[.int .i64 0, .int .i64 0]
 refine (HI.out _).mono ?_
 rintro e w1 ⟨rfl, g1⟩
 have R1 := R0.gr g1
 have gw1 := ((Gr.refl w).alloc #[.int .i64 0, .int .i64 0] 58).trans g1
 clear R0 g1
 go_wp2_with fail
 refine (HR.out _).mono ?_
 rintro e w2 ⟨rfl, g2⟩
 have R2 := (R1.gr g2).alloc (.cells #[.int .i64 re, .int .i64 im] 58)
 have gw2 := (gw1.trans g2)
 have hsz := gw2.size
 have gw3 := gw2.alloc #[.int .i64 re, .int .i64 im] 58
 have c0 := R2.cell 0
 have c1 := R2.cell 1
 have f0 := R2.frozen 0
 have f1 := R2.frozen 1
 simp only [getS] at c0 c1
 clear gw1 R1 g2 gw2
 go_wp2_with fail
 refine bodyPost_ret (v := .tuple #[.agg #[.int .i64 re, .int .i64 im], .int .i64 0]) ?_ rfl ⟨rfl, ?_⟩
 ·simp [results, Tryz.f196, go_sem, c0, c1]
 ·exact (gw3.setCell (a := ⟨w.heap.size, 0, none⟩) (by simp) _).setCell (a := ⟨w.heap.size, 1, none⟩) (by simp) _
theorem parts1_c (p q : Nat) (k log : Int) (h0 : 0 ≤ log) (h1 : log ≤ 6) (k0 : 0 ≤ k) (k1 : k ≤ 64) (w : World)
 (c0 : w.cell? ⟨p, 0, none⟩ = some (.int .i64 56593902016227522)) (c1 : w.cell? ⟨q, 0, none⟩ = some (.int .i64 log)) :
 Calls Tryz.prog 198 #[.int .i64 k, .pointer (some ⟨p, 0, none⟩), .pointer (some ⟨q, 0, none⟩)] w fun e w' => e = .returned (.int .i64 (eighthZ k log)) ∧ w' = w := by
 have hm : IntKind.i64.wrap (56593902016227522 * k) = 56593902016227522 * k := IntWalk.i64_in _ ⟨by omega, by omega⟩
 have hb : (56593902016227522 * k) / 2 ^ log.toNat = eighthZ k log := rfl
 go_enter Tryz.func198, Tryz.ntmps198
 go_wp2
 go_ret
 exact ⟨rfl, rfl⟩
theorem partsOf_c (log : Int) (w : World) :
 Calls Tryz.prog 194 #[.int .i64 56593902016227522, .int .i64 log] w fun e w' => ∃ p q : Nat, e = .returned (.func (.func 198) #[] #[.pointer (some ⟨p, 0, none⟩), .pointer (some ⟨q, 0, none⟩)]) ∧ w'.cell? ⟨p, 0, none⟩ = some (.int .i64 56593902016227522) ∧ w'.cell? ⟨q, 0, none⟩ = some (.int .i64 log) ∧ Gr w w' := by
 go_enter Tryz.func194, Tryz.ntmps194
 go_wp2
 go_ret
 refine ⟨w.heap.size, w.heap.size + 1, rfl, ?_, ?_, ((Gr.refl w).alloc _ _).alloc _ _⟩
 ·exact ((CellsAt.new w 3 #[.int .i64 56593902016227522]).alloc _).cell 0
 ·have := (CellsAt.new (w.alloc (.cells #[.int .i64 56593902016227522] 3)) 3 #[.int .i64 log]).cell 0
  rw [World.size_alloc] at this
  exact this
theorem eighth_ok (k log : Int) (h0 : 0 ≤ log) (h1 : log ≤ 6) (k0 : 0 ≤ k) (k1 : k ≤ 2 ^ log.toNat) (w : World) : EiIs k log w := by
 unfold EiIs
 obtain ⟨z0, z1, kb⟩ := eighthZ_bd k log h0 h1 k0 k1
 have HQ := Lib.hid quarter_c
 have HO := Lib.hid (partsOf_c log)
 have HP := Lib.hid (point_ok (eighthZ k log) z0)
 unfold PtIs at HP
 have HC := Lib.hid fun p q W => parts1_c p q k log h0 h1 k0 kb W
 clear z0 z1 kb
 generalize eighthZ k log = z at *
 generalize pt z = s at *
 obtain ⟨re, im, left⟩ := s
 simp only at HP ⊢
 generalize he : (2 : Int) ^ log.toNat = p2 at *
 have hp2 : (1 : Int) ≤ p2 ∧ p2 ≤ 64 := by
  rcases (by omega : log = 0 ∨ log = 1 ∨ log = 2 ∨ log = 3 ∨ log = 4 ∨ log = 5 ∨ log = 6) with rfl | rfl | rfl | rfl | rfl | rfl | rfl <;> simp at he <;> omega
 have hw2 : IntKind.i64.wrap p2 = p2 := IntWalk.i64_in _ ⟨by omega, by omega⟩
 go_enter Tryz.func191, Tryz.ntmps191
 go_wp2_with fail
 have R0 := CellsAt.new w 58 #[.int .i64 0, .int .i64 0]
 refine (HQ.out _).mono ?_
 rintro e w1 ⟨rfl, g1⟩
 have R1 := R0.gr g1
 have gw1 := ((Gr.refl w).alloc #[.int .i64 0, .int .i64 0] 58).trans g1
 clear R0 g1 HQ
 go_wp2_with fail
 refine (HO.out _).mono ?_
 rintro e w2 ⟨p, q, rfl, c0, c1, g2⟩
 have R2 := R1.gr g2
 have gw2 := gw1.trans g2
 have HC2 := Lib.hid (HC.out p q w2 c0 c1)
 clear R1 g2 HO gw1 c0 c1 HC
 go_wp2_with fail
 refine HC2.out.mono ?_
 rintro e w3 ⟨rfl, rfl⟩
 go_wp2_with fail
 refine (HP.out _).mono ?_
 rintro e w4 ⟨rfl, g4⟩
 have R3 := R2.gr g4
 have gw3 := gw2.trans g4
 have hsz := gw3.size
 have d0 := R3.cell 0
 have d1 := R3.cell 1
 have f0 := R3.frozen 0
 have f1 := R3.frozen 1
 simp only [getS] at d0 d1
 clear R2 g4 HP HC2 gw2
 go_wp2_with fail
 refine bodyPost_ret (v := .tuple #[.agg #[.int .i64 re, .int .i64 im], .int .i64 0]) ?_ rfl ⟨rfl, ?_⟩
 ·simp [results, Tryz.f191, go_sem, d0, d1]
 ·exact (gw3.setCell (a := ⟨w.heap.size, 0, none⟩) (by simp) _).setCell (a := ⟨w.heap.size, 1, none⟩) (by simp) _
end
section
open Go.ChangeShapes Go.WideShapes Go.ChangeAt Go.RowKit
set_option linter.unusedVariables false
set_option maxRecDepth 100000
end
section
open Go.ChangeShapes Go.WideShapes Go.ChangeAt Go.RowKit
set_option linter.unusedVariables false
theorem len_log (n log : Int) (h0 : 2 ≤ log) (h1 : log ≤ 6) (hn : n = 2 ^ log.toNat) : IsLen n := by
 unfold IsLen
 rcases (by omega : log = 2 ∨ log = 3 ∨ log = 4 ∨ log = 5 ∨ log = 6) with rfl | rfl | rfl | rfl | rfl <;> simp at hn <;> omega
end
section
open Go.ChangeShapes Go.WideShapes Go.ChangeAt Go.RowKit
set_option linter.unusedVariables false
end
section
open Go.ChangeShapes Go.WideShapes Go.ChangeAt Go.RowKit
set_option linter.unusedVariables false
def rootsL (n : Int) (s : Nat) : List Gi := (List.range n.toNat).map (fun k : Nat => rootG n (k : Int) s)
theorem rootsL_len (n : Int) (s : Nat) : (rootsL n s).length = n.toNat := by unfold rootsL; simp
end
section
open Go.ChangeShapes Go.WideShapes Go.ChangeAt Go.RowKit
set_option linter.unusedVariables false
set_option maxRecDepth 100000
structure PlF (fo b p lo ke sc mo : Int) (L n B : Nat) : Prop where
 fb : FB fo b p
 ok : okF fo lo ke sc mo = true
 lo : lo = L
 n : n = 2 ^ L
 bits : b = B + 2
section
variable {fo b p lo ke sc mo : Int} {L n B : Nat}
theorem PlF.lens (H : PlF fo b p lo ke sc mo L n B) : (2 ≤ L ∧ L ≤ 6) ∧ (4 ≤ n ∧ n ≤ 64) ∧ IsLen (n : Int) := by
 have h := okF_iff.1 H.ok
 have hl := H.lo
 have hL : L = 2 ∨ L = 3 ∨ L = 4 ∨ L = 5 ∨ L = 6 := by omega
 have hn := H.n
 unfold IsLen
 rcases hL with rfl | rfl | rfl | rfl | rfl <;> simp only [Nat.reducePow] at hn <;> omega
theorem PlF.kinds (H : PlF fo b p lo ke sc mo L n B) : (mo = 0 ∨ mo = 1 ∨ mo = 2) ∧ (sc = 0 ∨ sc = 1 ∨ sc = 2) ∧ (ke = 2 → sc = 0) ∧ 0 ≤ ke ∧ ke < 3 := by
 have h := okF_iff.1 H.ok
 refine ⟨by omega, by omega, h.2, by omega, by omega⟩
theorem PlF.sizes (H : PlF fo b p lo ke sc mo L n B) : (fo = 0 ∧ b = 15 ∧ p = 32768 ∧ B = 13) ∨ (fo = 1 ∧ b = 31 ∧ p = 2147483648 ∧ B = 29) := by
 have h := H.bits
 rcases H.fb with ⟨h1, h2, h3⟩ | ⟨h1, h2, h3⟩
 ·left; exact ⟨h1, h2, h3, by omega⟩
 ·right; exact ⟨h1, h2, h3, by omega⟩
end
def tw (n B : Nat) : List Gi := rootsL n (56 - B)
theorem tw_eq (n B : Nat) : tw n B = (List.range n).map fun k : Nat => rootG n k (56 - B) := by unfold tw rootsL; rw [Int.toNat_natCast]
theorem tw_len (n B : Nat) : (tw n B).length = n := by rw [tw_eq]; simp
theorem shOf_bd (sc k p : Int) (xs : List Gi) : 0 ≤ shOf sc k p xs ∧ shOf sc k p xs ≤ 3 := by
 unfold shOf preOf
 repeat' split
 all_goals omega
theorem flip_mem {L : Nat} {xs : List Gi} (h : xs.length = 2 ^ L) {a : Gi} (ha : a ∈ flipL L xs) : a ∈ xs := by
 unfold flipL at ha
 obtain ⟨k, hk, rfl⟩ := List.mem_map.1 ha
 exact getD_mem xs _ (by rw [h]; exact fl_lt L k)
theorem rnd_one (x p : Int) (mo : Int) (hm : mo = 0 ∨ mo = 1 ∨ mo = 2) (h0 : -(2 * p) ≤ x) (h1 : x ≤ 2 * p) : -p ≤ rnd x 1 mo ∧ rnd x 1 mo ≤ p := by
 have e1 := rnd_mul p 1 mo hm
 have e2 := rnd_mul (-p) 1 mo hm
 have a := rnd_mono x (p * 2 ^ 1) 1 mo hm (by omega)
 have b := rnd_mono (-p * 2 ^ 1) x 1 mo hm (by omega)
 rw [e1] at a
 rw [e2] at b
 exact ⟨b, a⟩
theorem rnd_none (x : Int) (mo : Int) (hm : mo = 0 ∨ mo = 1 ∨ mo = 2) : rnd x 0 mo = x := by
 have := rnd_mul x 0 mo hm
 simpa using this
theorem upR_bd (x m q : Int) (r : Nat) (hx : absI x ≤ m) (hm : m * 2 ^ r ≤ q) : -q ≤ x * 2 ^ r ∧ x * 2 ^ r ≤ q := by
 have hp : (0 : Int) < 2 ^ r := Int.pow_pos (by decide)
 have h1 : x ≤ m := by unfold absI at hx; split at hx <;> omega
 have h2 : -x ≤ m := by unfold absI at hx; split at hx <;> omega
 have a := Int.mul_le_mul_of_nonneg_right h1 (Int.le_of_lt hp)
 have b := Int.mul_le_mul_of_nonneg_right h2 (Int.le_of_lt hp)
 rw [Int.neg_mul] at b
 omega
section
variable {fo b p lo ke sc mo : Int} {L n B : Nat} {xs : List Gi}
theorem ready_part (H : PlF fo b p lo ke sc mo L n B) (hm : ManB p xs) (a : Gi) (ha : a ∈ xs) :
 ((-p ≤ (shG (atFirst sc p xs) mo a).re ∧ (shG (atFirst sc p xs) mo a).re ≤ p - 1) ∧ (-p ≤ (shG (atFirst sc p xs) mo a).im ∧ (shG (atFirst sc p xs) mo a).im ≤ p - 1)) ∧
 (sc = 0 → ((-(p / 2) ≤ (shG (atFirst sc p xs) mo a).re ∧ (shG (atFirst sc p xs) mo a).re ≤ p / 2) ∧ (-(p / 2) ≤ (shG (atFirst sc p xs) mo a).im ∧ (shG (atFirst sc p xs) mo a).im ≤ p / 2))) := by
 obtain ⟨hmo, hsc, _⟩ := H.kinds
 have hp : p = 2 * (p / 2) ∧ 4 ≤ p := by rcases H.sizes with h | h <;> omega
 have h := hm a ha
 unfold atFirst
 rcases hsc with rfl | rfl | rfl
 ·rw [if_pos rfl]
  have e1 := rnd_one a.re (p / 2) mo hmo (by omega) (by omega)
  have e2 := rnd_one a.im (p / 2) mo hmo (by omega) (by omega)
  unfold shG
  rw [if_pos (by decide)]
  simp only [show (1 : Int).toNat = 1 from rfl]
  exact ⟨by omega, fun _ => by omega⟩
 ·rw [if_neg (by decide), if_pos rfl]
  refine ⟨?_, fun h => absurd h (by decide)⟩
  by_cases hr : room p (maxG xs) = 0
  ·rw [hr]
   simp only [shG, Int.natCast_zero, Int.neg_zero, Int.le_refl, if_true, Int.toNat_zero, rnd_none _ mo hmo]
   exact h
  ·have hf := (room_fits p (maxG xs) (by omega)).2
   have hg := maxG_ge xs a ha
   have u1 := upR_bd a.re (maxG xs) (p / 2) _ hg.1 hf
   have u2 := upR_bd a.im (maxG xs) (p / 2) _ hg.2 hf
   unfold shG
   rw [if_neg (by omega)]
   simp only [Int.neg_neg, Int.toNat_natCast]
   omega
 ·rw [if_neg (by decide), if_neg (by decide)]
  refine ⟨?_, fun h => absurd h (by decide)⟩
  simp only [shG, Int.le_refl, if_true, Int.toNat_zero, rnd_none _ mo hmo]
  exact h
theorem ready_mem (H : PlF fo b p lo ke sc mo L n B) (hl : xs.length = n) {y : Gi} (hy : y ∈ (readyB ke sc mo p L xs).X) : ∃ a ∈ xs, y = shG (atFirst sc p xs) mo a := by
 obtain ⟨a, ha, rfl⟩ := List.mem_map.1 hy
 refine ⟨a, ?_, rfl⟩
 split at ha
 ·exact ha
 ·exact flip_mem (by rw [hl, H.n]) ha
theorem ready_man (H : PlF fo b p lo ke sc mo L n B) (hl : xs.length = n) (hm : ManB p xs) : ManB p (readyB ke sc mo p L xs).X := by
 intro y hy
 obtain ⟨a, ha, rfl⟩ := ready_mem H hl hy
 exact (ready_part H hm a ha).1
theorem ready_len (H : PlF fo b p lo ke sc mo L n B) (hl : xs.length = n) : (readyB ke sc mo p L xs).X.length = n := by
 unfold readyB
 rw [List.length_map]
 split
 ·exact hl
 ·rw [flipL_len, H.n]
theorem sqR_le (x q : Int) (h0 : -q ≤ x) (h1 : x ≤ q) : x * x ≤ q * q := by
 have a : 0 ≤ (q - x) * (q + x) := Int.mul_nonneg (by omega) (by omega)
 have e : (q - x) * (q + x) = q * q - x * x := by grind
 omega
theorem ready_half (H : PlF fo b p lo ke sc mo L n B) (hs : sc = 0) (hl : xs.length = n) (hm : ManB p xs) : AllN (2 * ((p / 2) * (p / 2))) (readyB ke sc mo p L xs).X := by
 intro y hy
 obtain ⟨a, ha, rfl⟩ := ready_mem H hl hy
 have h := (ready_part H hm a ha).2 hs
 have e1 := sqR_le _ _ h.1.1 h.1.2
 have e2 := sqR_le _ _ h.2.1 h.2.2
 unfold nq
 omega
theorem behind_X (hs : sc ≠ 2) (iv : Bool) (ws : List Gi) : ∀ (l : List Gi) (b0 : BV), (l.foldl (nextB sc mo p iv B ws) b0).X = l.foldl (stepV sc p B mo iv ws) b0.X
 | [], b0 => rfl
 | q :: l, b0 => by
   rw [List.foldl_cons, List.foldl_cons, behind_X hs iv ws l]
   simp only [nextB, if_neg hs]
theorem behind_sat (hs : sc ≠ 2) (iv : Bool) (ws : List Gi) : ∀ (l : List Gi) (b0 : BV), (l.foldl (nextB sc mo p iv B ws) b0).sat = b0.sat
 | [], b0 => rfl
 | q :: l, b0 => by
   rw [List.foldl_cons, behind_sat hs iv ws l]
   simp only [nextB, if_neg hs]
theorem next_len (iv : Bool) (ws : List Gi) (b0 : BV) (q : Gi) : (nextB sc mo p iv B ws b0 q).X.length = b0.X.length := by
 unfold nextB stepV
 split
 ·rw [List.length_map, passV_len]
 ·exact passV_len _ _ _ _ _ _ _
theorem bd_man {p : Int} {ys : List Gi} (h : ∀ y ∈ ys, Bd (p - 1) y) : ManB p ys := by
 intro y hy
 have := bd_iff.1 (h y hy)
 omega
theorem man_bd {p : Int} {ys : List Gi} (h : ManB p ys) : ∀ y ∈ ys, Bd p y := by
 intro y hy
 have := h y hy
 exact bd_iff.2 (by omega)
theorem block_man (H : PlF fo b p lo ke sc mo L n B) (hs : sc = 1) (iv : Bool) {ys : List Gi} (hl : ys.length = n) (hm : ManB p ys) (q : Gi) (hq : Fits n q) : ManB p (stepV sc p B mo iv (tw n B) ys q) := by
 obtain ⟨hmo, _⟩ := H.kinds
 obtain ⟨_, h4, hlen⟩ := H.lens
 subst hs
 rw [tw_eq]
 rcases H.sizes with ⟨_, _, rfl, rfl⟩ | ⟨_, _, rfl, rfl⟩
 ·exact bd_man (stepV_fits15 n hlen mo iv hmo ys q hq hl (man_bd hm))
 ·exact bd_man (stepV_fits31 n hlen mo iv hmo ys q hq hl (man_bd hm))
theorem behind_man (H : PlF fo b p lo ke sc mo L n B) (iv : Bool) (hl : xs.length = n) (hm : ManB p xs) : ∀ j, j ≤ (passL ke lo).length → (behindB ke lo sc mo p iv L B (tw n B) xs j).X.length = n ∧ ManB p (behindB ke lo sc mo p iv L B (tw n B) xs j).X := by
 obtain ⟨hmo, hsc, _, k0, k1⟩ := H.kinds
 obtain ⟨⟨l2, l6⟩, h4, hlen⟩ := H.lens
 have hlo := H.lo
 have hfit : ∀ q ∈ passL ke lo, Fits n q := by
  have := passL_fits ke lo k0 k1 (by omega) (by omega)
  rw [H.n]
  rw [show lo.toNat = L by omega] at this
  exact this
 have h6 : (passL ke lo).length ≤ 6 := by
  have hk : ke = 0 ∨ ke = 1 ∨ ke = 2 := by omega
  have hl : lo = 2 ∨ lo = 3 ∨ lo = 4 ∨ lo = 5 ∨ lo = 6 := by omega
  rcases hk with rfl | rfl | rfl <;> rcases hl with rfl | rfl | rfl | rfl | rfl <;> decide +kernel
 have hlens : ∀ j, j ≤ (passL ke lo).length → (behindB ke lo sc mo p iv L B (tw n B) xs j).X.length = n := by
  intro j
  induction j with
  | zero => intro _; exact ready_len H hl
  | succ j ih =>
    intro hj
    obtain ⟨q, hq⟩ := get_of_lt (show j < (passL ke lo).length by omega)
    rw [behindB_next hq, next_len]
    exact ih (by omega)
 intro j hj
 refine ⟨hlens j hj, ?_⟩
 rcases hsc with rfl | rfl | rfl
 ·
  have hr := ready_half H rfl hl hm
  have e : (behindB ke lo 0 mo p iv L B (tw n B) xs j).X = ((passL ke lo).take j).foldl (stepV 0 p B mo iv (tw n B)) (readyB ke 0 mo p L xs).X := behind_X (by decide) iv (tw n B) _ _
  have hk : ∀ q ∈ (passL ke lo).take j, q.re = 2 ∨ q.re = 4 := fun q hq => (hfit q (List.mem_of_mem_take hq)).1
  have hc : ((passL ke lo).take j).length ≤ 6 := by rw [List.length_take]; omega
  rw [e, tw_eq]
  rcases H.sizes with ⟨_, _, rfl, rfl⟩ | ⟨_, _, rfl, rfl⟩
  ·have := runV_half15 n hlen mo iv hmo ((passL ke lo).take j) _ _ hk hr (by decide) (by omega)
   exact fun y hy => by
    have hy := nq_in15 y (Int.le_trans (this y hy) (by omega))
    omega
  ·have := runV_half31 n hlen mo iv hmo ((passL ke lo).take j) _ _ hk hr (by decide) (by omega)
   exact fun y hy => by
    have hy := nq_in31 y (Int.le_trans (this y hy) (by omega))
    omega
 ·induction j with
  | zero => exact ready_man H hl hm
  | succ j ih =>
    obtain ⟨q, hq⟩ := get_of_lt (show j < (passL ke lo).length by omega)
    rw [behindB_next hq]
    simp only [nextB, show ¬ ((1 : Int) = 2) by decide, if_false]
    exact block_man H rfl iv (hlens j (by omega)) (ih (by omega)) q (hfit q (List.mem_of_getElem? hq))
 ·cases j with
  | zero => exact ready_man H hl hm
  | succ j =>
    obtain ⟨q, hq⟩ := get_of_lt (show j < (passL ke lo).length by omega)
    rw [behindB_next hq]
    simp only [nextB, if_true]
    exact manB_clamp (by rcases H.sizes with h | h <;> omega) _
end
end
section
open Go.ChangeShapes Go.WideShapes Go.ChangeAt Go.RowKit
set_option linter.unusedVariables false
set_option maxRecDepth 100000
def SetsOk (b s mo : Int) : Prop := (0 ≤ b ∧ b ≤ 29) ∧ (0 ≤ s ∧ s ≤ 3) ∧ 0 ≤ mo ∧ mo ≤ 2
end
section
open Go.ChangeShapes Go.WideShapes Go.ChangeAt Go.RowKit
set_option linter.unusedVariables false
end
section
open Go.ChangeShapes Go.WideShapes Go.ChangeAt Go.RowKit
set_option linter.unusedVariables false
theorem pair_nums (a b w : Gi) (bits : Nat) (hb : bits ≤ 29) (ha : absI a.re ≤ 2147483648 ∧ absI a.im ≤ 2147483648) (hbb : absI b.re ≤ 2147483648 ∧ absI b.im ≤ 2147483648) (hw : absI w.re ≤ 2 ^ bits ∧ absI w.im ≤ 2 ^ bits) :
 (∀ x y : Int, (x = b.re ∨ x = b.im) → (y = w.re ∨ y = w.im) → -1152921504606846976 ≤ x * y ∧ x * y ≤ 1152921504606846976) ∧
 (-1152921504606846976 ≤ a.re * 2 ^ bits ∧ a.re * 2 ^ bits ≤ 1152921504606846976) ∧ (-1152921504606846976 ≤ a.im * 2 ^ bits ∧ a.im * 2 ^ bits ≤ 1152921504606846976) ∧ (2 : Int) ^ bits ≤ 536870912 ∧ 0 < (2 : Int) ^ bits := by
 have hp := pow_pos2 bits
 have hp2 : (2 : Int) ^ bits ≤ 536870912 := by
  have h1 : (2 : Nat) ^ bits ≤ 2 ^ 29 := Nat.pow_le_pow_right (by decide) hb
  have h2 : ((2 ^ bits : Nat) : Int) ≤ ((2 ^ 29 : Nat) : Int) := Int.ofNat_le.2 h1
  rw [Int.natCast_pow] at h2
  simpa using h2
 have hq : (2147483648 : Int) * 2 ^ bits ≤ 1152921504606846976 := by omega
 have a1 := absI_le.1 ha.1
 have a2 := absI_le.1 ha.2
 have b1 := absI_le.1 hbb.1
 have b2 := absI_le.1 hbb.2
 have w1 := absI_le.1 hw.1
 have w2 := absI_le.1 hw.2
 have m1 := mulG_bd a.re (2 ^ bits) 2147483648 (2 ^ bits) (by omega) a1 (by omega)
 have m2 := mulG_bd a.im (2 ^ bits) 2147483648 (2 ^ bits) (by omega) a2 (by omega)
 refine ⟨fun x y hx hy => ?_, by omega, by omega, hp2, hp⟩
 have hx2 : -2147483648 ≤ x ∧ x ≤ 2147483648 := by rcases hx with rfl | rfl <;> assumption
 have hy2 : -(2 ^ bits) ≤ y ∧ y ≤ 2 ^ bits := by rcases hy with rfl | rfl <;> assumption
 have m3 := mulG_bd x y 2147483648 (2 ^ bits) (by omega) hx2 hy2
 generalize x * y = t at *
 omega
end
section
open Go.ChangeShapes Go.WideShapes Go.ChangeAt Go.RowKit
set_option linter.unusedVariables false
def WhyIs (n m : Nat) (part : Bool) (b s mo : Int) (inx inw : Bool) (e : Int) : Prop :=
 ((¬ ∃ L, IsLog (n : Int) L) ∧ e = 3) ∨
 ((∃ L, IsLog (n : Int) L) ∧ m ≠ n ∧ e = 5) ∨
 ((∃ L, IsLog (n : Int) L) ∧ m = n ∧ (part = false ∨ ¬ SetsOk b s mo) ∧ e = 1) ∨
 ((∃ L, IsLog (n : Int) L) ∧ m = n ∧ part = true ∧ SetsOk b s mo ∧ (inx && inw) = false ∧ e = 2) ∨
 ((∃ L, IsLog (n : Int) L) ∧ m = n ∧ part = true ∧ SetsOk b s mo ∧ inx = true ∧ inw = true ∧ e = 0)
end
section
open Go.ChangeShapes Go.WideShapes Go.ChangeAt Go.RowKit
set_option linter.unusedVariables false
set_option linter.unusedSimpArgs false
set_option maxRecDepth 100000
theorem sL_zero (bits : Nat) (mo : Int) (inv : Bool) (ws xs : List Gi) (h : xs.length = 1) : sL bits mo inv ws 0 xs = xs := by
 have := list_getD xs
 rw [h] at this
 unfold sL
 exact this.symm
theorem sL_one (bits : Nat) (mo : Int) (inv : Bool) (ws xs : List Gi) : sL bits mo inv ws 1 xs = [grnd 1 mo (gadd (xs.getD 0 ⟨0, 0⟩) (xs.getD 1 ⟨0, 0⟩)), grnd 1 mo (gsub (xs.getD 0 ⟨0, 0⟩) (xs.getD 1 ⟨0, 0⟩))] := by
 unfold sL
 rfl
theorem pick_len (xs : List Gi) (F S m : Nat) : ((List.range m).map (pick xs F S)).length = m := by simp
theorem Len.bd31 {R : Int} {bits : Nat} {a : Gi} (hb : bits ≤ 29) (h0 : 0 ≤ R) (h : R ≤ 3 * 2 ^ bits) (k : Len R a) : Bd 2147483648 a := by
 have := pow29 bits hb
 exact (k.bd h0).mono (by omega)
theorem len_units (k L n : Nat) (hL : k + 2 ≤ L) (hn : n = 2 ^ L) : n = 4 * 2 ^ k * 2 ^ (L - (k + 2)) ∧ n / 2 ^ (k + 2) = 2 ^ (L - (k + 2)) := by
 have e : 2 ^ (k + 2) = 4 * 2 ^ k := by rw [Nat.pow_succ, Nat.pow_succ]; omega
 have h : n = 2 ^ (k + 2) * 2 ^ (L - (k + 2)) := by rw [hn, ← Nat.pow_add]; congr 1; omega
 exact ⟨by rw [h, e], by rw [h]; exact Nat.mul_div_cancel_left _ (Nat.two_pow_pos _)⟩
theorem sTransform_c (bits : Nat) (mo : Int) (inv : Bool) (ws : List Gi) (L n : Nat) (hL : L ≤ 6) (hn : n = 2 ^ L) (lw : ws.length = n) (hb : bits ≤ 29) (m0 : 0 ≤ mo) (m1 : mo ≤ 2)
 (hW : ∀ k, Len (2 ^ bits + 2) (rootOf ws inv k)) (hWb : ∀ k, k < n → Bd (2 ^ bits) (ws.getD k ⟨0, 0⟩)) (R : Int) (hR : 0 ≤ R) (hRB : R + 30 ≤ 3 * 2 ^ bits) (pw : Option Addr) (cw : Nat) :
 ∀ (l : Nat), l ≤ L → ∀ (xs : List Gi) (px : Option Addr) (cx : Nat) (w : World), xs.length = 2 ^ l → (∀ j, j < 2 ^ l → Len R (xs.getD j ⟨0, 0⟩)) → CxsAt w (.slice px (2 ^ l : Nat) cx) xs → CxsAt w (.slice pw n cw) ws →
  Calls Tryz.prog 95 #[.agg #[.int .i64 bits, .int .i64 mo, .bool inv], .slice px (2 ^ l : Nat) cx, .slice pw n cw] w fun e w' => ∃ v, e = .returned v ∧ CxsAt w' v (sL bits mo inv ws l xs) ∧ Gr w w'
 | 0, _, xs, px, cx, w, hl, hx, vx, vw => by
   rw [sL_zero _ _ _ _ _ hl]
   exact sTrans_0 bits mo inv pw px n cw cx xs w vx
 | 1, _, xs, px, cx, w, hl, hx, vx, vw => by
   rw [sL_one]
   obtain ⟨b, o, cap, hv, _, hbl, hc⟩ := vx.at (by intro e; rw [e] at hl; simp at hl)
   rw [hl] at hv
   cases hv
   have k0 := CxsAt.getD (n := 0) (cap := 0) hc 0 (by omega)
   have k1 := CxsAt.getD (n := 0) (cap := 0) hc 1 (by omega)
   have b0 := Len.bd31 hb hR (by omega) (hx 0 (by omega))
   have b1 := Len.bd31 hb hR (by omega) (hx 1 (by omega))
   exact sTrans_1 bits mo inv pw b o n cw cx _ _ _ _ (Lib.hid (sHalved_c bits mo inv _ _ m0 m1 b0 b1)) w hbl (by simpa using k0.1) (by simpa using k0.2) (by simpa using k1.1) (by simpa using k1.2)
 | k + 2, hk, xs, px, cx, w, hl, hx, vx, vw => by
   have ih1 := sTransform_c bits mo inv ws L n hL hn lw hb m0 m1 hW hWb R hR hRB pw cw (k + 1) (by omega)
   have ih2 := sTransform_c bits mo inv ws L n hL hn lw hb m0 m1 hW hWb R hR hRB pw cw k (by omega)
   obtain ⟨hu, hdu⟩ := len_units k L n hk hn
   have hp6 : 2 ^ (k + 2) ≤ 64 := Nat.pow_le_pow_right (n := 2) (by omega) (show k + 2 ≤ 6 by omega)
   have hn6 : n ≤ 64 := by rw [hn]; exact Nat.pow_le_pow_right (n := 2) (by omega) hL
   have hp0 := Nat.two_pow_pos k
   have hu0 := Nat.two_pow_pos (L - (k + 2))
   have e1 : 2 ^ (k + 1) = 2 * 2 ^ k := by rw [Nat.pow_succ]; omega
   have e2 : 2 ^ (k + 2) = 4 * 2 ^ k := by rw [Nat.pow_succ, Nat.pow_succ]; omega
   obtain ⟨b, o, cap, hv, _, hbl, hc⟩ := vx.at (by intro e; rw [e] at hl; simp at hl; omega)
   rw [hl] at hv
   cases hv
   have hxe : ∀ j, j < 2 ^ (k + 1) → Len R (xs.getD (0 + 2 * j) ⟨0, 0⟩) := fun j hj => hx _ (by omega)
   have hxf : ∀ j, j < 2 ^ k → Len R (xs.getD (1 + 4 * j) ⟨0, 0⟩) := fun j hj => hx _ (by omega)
   have hxg : ∀ j, j < 2 ^ k → Len R (xs.getD (3 + 4 * j) ⟨0, 0⟩) := fun j hj => hx _ (by omega)
   have hm : mo = 0 ∨ mo = 1 ∨ mo = 2 := by omega
   have bE : ∀ j, j < 2 ^ (k + 1) → Bd 2147483648 ((sL bits mo inv ws (k + 1) ((List.range (2 ^ (k + 1))).map (pick xs 0 2))).getD j ⟨0, 0⟩) := fun j hj => by
    rw [sL_pick _ _ _ _ _ _ _ _ _ hj]
    exact Len.bd31 hb (by omega) (by omega) (spl_len bits mo inv _ _ hm hW (k + 1) R _ hR (by omega) hxe j hj)
   have bF : ∀ F j, j < 2 ^ k → (∀ j, j < 2 ^ k → Len R (xs.getD (F + 4 * j) ⟨0, 0⟩)) → Bd 2147483648 ((sL bits mo inv ws k ((List.range (2 ^ k)).map (pick xs F 4))).getD j ⟨0, 0⟩) := fun F j hj hh => by
    rw [sL_pick _ _ _ _ _ _ _ _ _ hj]
    exact Len.bd31 hb (by omega) (by omega) (spl_len bits mo inv _ _ hm hW k R _ hR (by omega) hh j hj)
   have hju : ∀ j, j < 2 ^ k → j * 2 ^ (L - (k + 2)) < n ∧ 3 * j * 2 ^ (L - (k + 2)) < n := by
    intro j hj
    have k1 : (j + 1) * 2 ^ (L - (k + 2)) ≤ 2 ^ k * 2 ^ (L - (k + 2)) := Nat.mul_le_mul_right _ hj
    rw [Nat.succ_mul] at k1
    rw [Nat.mul_assoc] at hu
    rw [Nat.mul_assoc]
    omega
   have rootB : ∀ i, i < n → Bd (2 ^ bits) (rootOf ws inv i) := by
    intro i hi
    have := hWb i hi
    unfold rootOf
    cases inv
    ·exact this
    ·have h := this.le
     exact Bd.mk (by simp only [if_true]; unfold Gi.conj; simp only; omega)
   have rootC : ∀ i, i < n → ∀ W, Calls Tryz.prog 155 #[.agg #[.int .i64 bits, .int .i64 mo, .bool inv], .agg #[.int .i64 (ws.getD i ⟨0, 0⟩).re, .int .i64 (ws.getD i ⟨0, 0⟩).im]] W fun e w' => e = .returned (.agg #[.int .i64 (rootOf ws inv i).re, .int .i64 (rootOf ws inv i).im]) ∧ Gr W w' := by
    intro i hi W
    have h := (hWb i hi).le
    have hp := pow29 bits hb
    exact sAsked_c bits mo (ws.getD i ⟨0, 0⟩) inv (by omega) W
   have := sTrans_2 bits mo inv pw b o n cw cx (2 ^ (k + 2)) (2 ^ k) (2 ^ (k + 1)) xs ws _ _ _ (sL bits mo inv ws (k + 2) xs) hl e2 e1 hp0 hp6
    (sL_len bits mo inv ws (k + 1) ((List.range (2 ^ (k + 1))).map (pick xs 0 2))) (sL_len bits mo inv ws k ((List.range (2 ^ k)).map (pick xs 1 4))) (sL_len bits mo inv ws k ((List.range (2 ^ k)).map (pick xs 3 4)))
    (Lib.hid fun px cx W h1 h2 => ih1 _ px cx W (pick_len _ _ _ _) (fun j hj => by rw [getD_map _ _ _ hj]; exact hxe j hj) h1 h2)
    (Lib.hid fun px cx W h1 h2 => ih2 _ px cx W (pick_len _ _ _ _) (fun j hj => by rw [getD_map _ _ _ hj]; exact hxf j hj) h1 h2)
    (Lib.hid fun px cx W h1 h2 => ih2 _ px cx W (pick_len _ _ _ _) (fun j hj => by rw [getD_map _ _ _ hj]; exact hxg j hj) h1 h2)
    (Lib.hid fun pe ce pf cf pg cg W h1 h2 h3 h4 => by
     rw [sL_two, lw, hdu]
     refine (fun (key : ∀ m2, m2 = 2 * 2 ^ k → CxsAt W (.slice pe m2 ce) (sL bits mo inv ws (k + 1) ((List.range (2 ^ (k + 1))).map (pick xs 0 2))) → Calls Tryz.prog 123 #[.agg #[.int .i64 bits, .int .i64 mo, .bool inv], .slice pe m2 ce, .slice pf (2 ^ k : Nat) cf, .slice pg (2 ^ k : Nat) cg, .slice pw n cw] W _) => key _ e1 h1) ?_
     intro m2 hm2 h1
     subst hm2
     exact sJoinAll_of bits mo inv pe pf pg pw ce cf cg cw _ _ _ ws (2 ^ k) (2 ^ (L - (k + 2))) n
      (fun j q => joinG bits mo inv q ((sL bits mo inv ws (k + 1) ((List.range (2 ^ (k + 1))).map (pick xs 0 2))).getD j ⟨0, 0⟩) ((sL bits mo inv ws (k + 1) ((List.range (2 ^ (k + 1))).map (pick xs 0 2))).getD (2 ^ k + j) ⟨0, 0⟩)
       ((sL bits mo inv ws k ((List.range (2 ^ k)).map (pick xs 1 4))).getD j ⟨0, 0⟩) ((sL bits mo inv ws k ((List.range (2 ^ k)).map (pick xs 3 4))).getD j ⟨0, 0⟩) (rootOf ws inv (j * 2 ^ (L - (k + 2)))) (rootOf ws inv (3 * j * 2 ^ (L - (k + 2)))))
      (fun j => rootOf ws inv (j * 2 ^ (L - (k + 2)))) (fun j => rootOf ws inv (3 * j * 2 ^ (L - (k + 2)))) hp0 hu0 hu hn6 ((sL_len _ _ _ _ _ _).trans e1) (sL_len _ _ _ _ _ _) (sL_len _ _ _ _ _ _) lw
      (Lib.hid fun j hj W => rootC _ (hju j hj).1 W) (Lib.hid fun j hj W => rootC _ (hju j hj).2 W)
      (Lib.hid fun j hj W => sJoined_c bits mo inv _ _ _ _ _ _ hb m0 m1 (bE j (by omega)) (bE (2 ^ k + j) (by omega)) (bF 1 j hj hxf) (bF 3 j hj hxg) (rootB _ (hju j hj).1) (rootB _ (hju j hj).2) W)
      W h1 h2 h3 h4)
    w hbl (fun j hj => CxsAt.getD (n := 0) (cap := 0) hc j (by omega)) vw
   exact this
end
section
set_option linter.unusedVariables false
set_option maxRecDepth 100000
theorem root_len (n k : Int) (hn : IsLen n) (s : Nat) (h0 : 26 ≤ s) (h1 : s ≤ 44) : Len (2 ^ (56 - s) + 2) (rootG n k s) := by
 have hp := (root_prod n k (-k) hn s h0 h1 _ rfl).1
 rw [root_back n k hn s (by omega) (by omega), show k + -k = 0 by omega, root_zero n hn s (by omega) (by omega)] at hp
 have hq := pow_pos2 (56 - s)
 unfold Len
 generalize rootG n k s = g at *
 obtain ⟨x, y⟩ := g
 unfold Gi.less Gi.mul Gi.conj Gi.up at hp
 simp only at hp ⊢
 generalize (2 : Int) ^ (56 - s) = B at *
 have e : x * x - y * -y - B * B = x * x + y * y - B * B := by grind
 rw [e] at hp
 have e2 : (B + 2) * (B + 2) = B * B + 4 * B + 4 := by grind
 omega
theorem roots_len (n : Int) (hn : IsLen n) (bits : Nat) (h0 : 12 ≤ bits) (h1 : bits ≤ 30) (inv : Bool) (k : Nat) : Len (2 ^ bits + 2) (rootOf (rootsL n (56 - bits)) inv k) := by
 have hp := pow_pos2 bits
 have key : Len (2 ^ bits + 2) ((rootsL n (56 - bits)).getD k ⟨0, 0⟩) := by
  by_cases h : k < n.toNat
  ·unfold rootsL
   rw [List.getD_eq_getElem?_getD, List.getElem?_map, List.getElem?_range h]
   have := root_len n k hn (56 - bits) (by omega) (by omega)
   rw [show 56 - (56 - bits) = bits by omega] at this
   exact this
  ·rw [List.getD_eq_getElem?_getD, List.getElem?_eq_none (by rw [rootsL_len]; omega)]
   exact Len.zero _
 unfold rootOf
 cases inv
 ·exact key
 ·exact key.conj
theorem roots_in (n : Int) (hn : IsLen n) (bits : Nat) (h0 : 1 ≤ bits) (h1 : bits ≤ 40) (k : Nat) (hk : k < n.toNat) : Bd (2 ^ bits) ((rootsL n (56 - bits)).getD k ⟨0, 0⟩) := by
 unfold rootsL
 rw [List.getD_eq_getElem?_getD, List.getElem?_map, List.getElem?_range hk]
 have := root_bd n k hn (56 - bits) (by omega) (by omega)
 rw [show 56 - (56 - bits) = bits by omega] at this
 have e : ((2 ^ bits : Nat) : Int) = 2 ^ bits := by simp
 refine Bd.mk ?_
 simp only [Option.map_some, Option.getD_some]
 generalize (2 : Int) ^ bits = P at *
 generalize 2 ^ bits = p at *
 omega
end
end Go.Proofs.YtcgeabpibkejpaaGreat
