import Derived.RangeFuncNested
import Derived.RangeFuncBound
import Derived.RangeFuncCalls
import Derived.RangeFuncLeaves
import Derived.Shelf.Abstract
import Derived.Shelf.RegionOpen
import Derived.OwnWalkIn
import Derived.TacticsInMore
import Derived.LoopNIn
import Derived.LoopIn
import Derived.Deep.Cut
import Derived.Deep.CutRange
import Derived.Test.YtcgeabpibkejpaaGreatNearTellsS13
namespace Go.Proofs.YtcgeabpibkejpaaGreat
section
set_option linter.unusedVariables false
set_option maxRecDepth 100000
def eZ (n j : Int) : Int := 56593902016227522 * j / n
theorem eighthZ_eq (k log : Int) : eighthZ k log = eZ (2 ^ log.toNat) k := rfl
def ptG (z : Int) : Gi := ⟨(pt z).re, (pt z).im⟩
def rptF (f : Int → Gi) (n u : Int) : Gi := if 2 * u < n then f (eZ n (2 * u)) else if n < 2 * u then (f (eZ n (2 * (n - u)))).swap else ⟨(f (eZ n n)).re, (f (eZ n n)).re⟩
def rpt (n u : Int) : Gi := rptF ptG n u
def rsh (s : Nat) (a : Gi) : Gi := ⟨rnd a.re s 1, rnd a.im s 1⟩
def rootG (n k : Int) (s : Nat) : Gi := ((rsh s (rpt n (4 * (k % n) % n))).turn (4 * (k % n) / n)).conj
def IsLen (n : Int) : Prop := n = 4 ∨ n = 8 ∨ n = 16 ∨ n = 32 ∨ n = 64
theorem q4 (q : Int) : q % 4 = 0 ∨ q % 4 = 1 ∨ q % 4 = 2 ∨ q % 4 = 3 := by omega
theorem pt_bd2 (z : Int) (hz : z.natAbs ≤ 72057594037927936) : (pt z).re.natAbs ≤ 72057594037932032 ∧ (pt z).im.natAbs ≤ 72057594037932032 := by
 have h := (pt_square z hz).2
 generalize (pt z).re = a at *
 generalize (pt z).im = b at *
 have qa : ((a.natAbs * a.natAbs : Nat) : Int) = a * a := Int.natAbs_mul_self
 have qb : ((b.natAbs * b.natAbs : Nat) : Int) = b * b := Int.natAbs_mul_self
 generalize a.natAbs = m at *
 generalize b.natAbs = n at *
 constructor
 ·by_cases c : m ≤ 72057594037932032
  ·exact c
  ·have := Nat.mul_le_mul (show 72057594037932033 ≤ m by omega) (show 72057594037932033 ≤ m by omega)
   generalize m * m = p at *
   generalize n * n = q at *
   omega
 ·by_cases c : n ≤ 72057594037932032
  ·exact c
  ·have := Nat.mul_le_mul (show 72057594037932033 ≤ n by omega) (show 72057594037932033 ≤ n by omega)
   generalize m * m = p at *
   generalize n * n = q at *
   omega
theorem eZ_bd (n j : Int) (hn : IsLen n) (h0 : 0 ≤ j) (h1 : j ≤ n) : 0 ≤ eZ n j ∧ eZ n j ≤ 56593902016227522 := by
 unfold eZ
 rcases hn with rfl | rfl | rfl | rfl | rfl <;> omega
theorem rptF_bd (f : Int → Gi) (M : Nat) (hf : ∀ z : Int, 0 ≤ z → z ≤ 56593902016227522 → (f z).re.natAbs ≤ M ∧ (f z).im.natAbs ≤ M) (n u : Int) (hn : IsLen n) (h0 : 0 ≤ u) (h1 : u < n) : (rptF f n u).re.natAbs ≤ M ∧ (rptF f n u).im.natAbs ≤ M := by
 unfold rptF
 split
 ·have := eZ_bd n (2 * u) hn (by omega) (by omega)
  exact hf _ this.1 this.2
 ·split
  ·have := eZ_bd n (2 * (n - u)) hn (by omega) (by omega)
   exact (hf _ this.1 this.2).symm
  ·have := eZ_bd n n hn (by omega) (by omega)
   exact ⟨(hf _ this.1 this.2).1, (hf _ this.1 this.2).1⟩
theorem ptG_bd (z : Int) (z0 : 0 ≤ z) (z1 : z ≤ 56593902016227522) : (ptG z).re.natAbs ≤ 72057594037932032 ∧ (ptG z).im.natAbs ≤ 72057594037932032 := by
 have := pt_bd2 z (by omega)
 unfold ptG
 simp only
 generalize pt z = s at *
 exact this
theorem rpt_bd (n u : Int) (hn : IsLen n) (h0 : 0 ≤ u) (h1 : u < n) : (rpt n u).re.natAbs ≤ 72057594037932032 ∧ (rpt n u).im.natAbs ≤ 72057594037932032 :=
 rptF_bd ptG 72057594037932032 ptG_bd n u hn h0 h1
theorem rnd_top (x : Int) (s : Nat) (h0 : 16 ≤ s) (h1 : s ≤ 56) (hx : x.natAbs ≤ 72057594037932032) : (rnd x s 1).natAbs ≤ 2 ^ (56 - s) := by
 have h := rnd_off x s 1 (by omega)
 have h2 := h.2.2
 have hp : (2 : Int) ^ s * 2 ^ (56 - s) = 72057594037927936 := by rw [← Int.pow_add, show s + (56 - s) = 56 by omega]; rfl
 have hp2 : (65536 : Int) ≤ 2 ^ s := by
  have : (2 : Nat) ^ 16 ≤ 2 ^ s := Nat.pow_le_pow_right (by decide) h0
  have c : ((2 ^ s : Nat) : Int) = 2 ^ s := by rw [Int.natCast_pow]; rfl
  omega
 have hc : (((2 : Nat) ^ (56 - s) : Nat) : Int) = 2 ^ (56 - s) := by rw [Int.natCast_pow]; rfl
 generalize (2 : Int) ^ (56 - s) = B at *
 generalize (2 : Nat) ^ (56 - s) = B' at *
 generalize (2 : Int) ^ s = S at *
 generalize rnd x s 1 = r at *
 have a1 : r ≤ B := by
  by_cases c : r ≤ B
  ·exact c
  ·exfalso
   have := Int.mul_le_mul_of_nonneg_right (show B + 1 ≤ r by omega) (show 0 ≤ S by omega)
   rw [Int.add_mul, Int.one_mul, Int.mul_comm B S, hp] at this
   omega
 have a2 : -B ≤ r := by
  by_cases c : -B ≤ r
  ·exact c
  ·exfalso
   have := Int.mul_le_mul_of_nonneg_right (show r ≤ -B - 1 by omega) (show 0 ≤ S by omega)
   rw [Int.sub_mul, Int.one_mul, Int.neg_mul, Int.mul_comm B S, hp] at this
   omega
 omega
theorem turn_bd (q : Int) (a : Gi) (M : Nat) (h : a.re.natAbs ≤ M ∧ a.im.natAbs ≤ M) : (a.turn q).re.natAbs ≤ M ∧ (a.turn q).im.natAbs ≤ M := by
 unfold Gi.turn
 rcases q4 q with h1 | h1 | h1 | h1 <;> simp [h1] <;> omega
theorem len_u (n k : Int) (hn : IsLen n) : 0 ≤ 4 * (k % n) % n ∧ 4 * (k % n) % n < n ∧ 0 ≤ 4 * (k % n) / n ∧ 4 * (k % n) / n < 4 ∧ 0 ≤ k % n ∧ k % n < n := by
 rcases hn with rfl | rfl | rfl | rfl | rfl <;> omega
theorem root_bd (n k : Int) (hn : IsLen n) (s : Nat) (h0 : 16 ≤ s) (h1 : s ≤ 56) : (rootG n k s).re.natAbs ≤ 2 ^ (56 - s) ∧ (rootG n k s).im.natAbs ≤ 2 ^ (56 - s) := by
 have hu := len_u n k hn
 have hb := rpt_bd n _ hn hu.1 hu.2.1
 have hr : (rsh s (rpt n (4 * (k % n) % n))).re.natAbs ≤ 2 ^ (56 - s) ∧ (rsh s (rpt n (4 * (k % n) % n))).im.natAbs ≤ 2 ^ (56 - s) := ⟨rnd_top _ s h0 h1 hb.1, rnd_top _ s h0 h1 hb.2⟩
 have := turn_bd (4 * (k % n) / n) _ _ hr
 unfold rootG Gi.conj
 simp only [Int.natAbs_neg]
 exact this
end
section
set_option linter.unusedVariables false
end
section
set_option linter.unusedVariables false
def Gi.up (B : Int) (a : Gi) : Gi := ⟨a.re * B, a.im * B⟩
end
section
open Go.ChangeShapes Go.WideShapes Go.ChangeAt Go.RowKit
set_option linter.unusedVariables false
set_option maxRecDepth 100000
theorem fl_step (k i : Nat) (hk : k < 6) : bits .or .i64 (wrap64 ((fl k i : Int) * 2)) (bits .and .i64 ((i : Int) / 2 ^ k) 1) = ((fl (k + 1) i : Nat) : Int) := by
 have h1 := and1 ((i / 2 ^ k : Nat) : Int)
 have h2 := fl_lt k i
 have h3 : 2 ^ k ≤ 64 := pow_le k (by omega)
 have h4 : wrap64 ((fl k i : Int) * 2) = ((2 * fl k i : Nat) : Int) := by rw [IntWalk.wrap64_in _ (by omega)]; omega
 have h5 : ((i / 2 ^ k : Nat) : Int) % 2 = ((i / 2 ^ k % 2 : Nat) : Int) := by omega
 rw [show (i : Int) / 2 ^ k = ((i / 2 ^ k : Nat) : Int) by simp, h1, h4, h5, or1 (fl k i) _ (by omega) (by omega), fl]
theorem flipped_c (i L : Nat) (hL : L ≤ 6) (hi : i < 64) (w : World) :
 Calls Tryz.prog 74 #[.int .i64 i, .int .i64 L] w fun e w' => e = .returned (.int .i64 (fl L i)) ∧ w' = w := by
 go_enter Tryz.func74, Tryz.ntmps74
 go_wp2
 go_loop [0, 5, 7] (fun i' f r => ∃ k : Nat, k ≤ L ∧ r = .int .i64 k ∧ f = .int .i64 (fl k i) ∧ i' = .int .i64 (i / 2 ^ k : Nat)) (fun _ _ r => L - (intOf r).toNat)
 case atStart => exact ⟨0, Nat.zero_le _, rfl, rfl, by simp⟩
 case round =>
  obtain ⟨k, hk, rfl, rfl, rfl⟩ := hrel
  by_cases hlt : k < L
  ·have hs : (k : Int) < L := by omega
   have HS := Lib.hid (fl_step k i (by omega))
   go_wp2
   go_round
   case rel => exact ⟨k + 1, by omega, by go_num, by rw [HS.out], by rw [Nat.pow_succ, ← Nat.div_div_eq_div_mul]; simp⟩
   case measure => simp [intOf]; omega
  ·have hs : (L : Int) ≤ k := by omega
   obtain rfl : k = L := by omega
   go_wp2
   go_ret
   exact ⟨rfl, rfl⟩
def IsLog (n : Int) (L : Nat) : Prop := 2 ≤ L ∧ L ≤ 6 ∧ n = ((2 ^ L : Nat) : Int)
theorem isLog_cases {n : Int} {L : Nat} (h : IsLog n L) : (L = 2 ∧ n = 4) ∨ (L = 3 ∧ n = 8) ∨ (L = 4 ∧ n = 16) ∨ (L = 5 ∧ n = 32) ∨ (L = 6 ∧ n = 64) := by
 obtain ⟨h0, h1, rfl⟩ := h
 have : L = 2 ∨ L = 3 ∨ L = 4 ∨ L = 5 ∨ L = 6 := by omega
 rcases this with rfl | rfl | rfl | rfl | rfl <;> simp
set_option maxHeartbeats 1000000 in
theorem log08_yes (n : Int) (L : Nat) (h : IsLog n L) (w : World) :
 Calls Tryz.prog 73 #[.int .i64 n] w fun e w' => e = .returned (.tuple #[.int .i64 L, .int .i64 0]) ∧ w' = w := by
 rcases isLog_cases h with ⟨rfl, rfl⟩ | ⟨rfl, rfl⟩ | ⟨rfl, rfl⟩ | ⟨rfl, rfl⟩ | ⟨rfl, rfl⟩
 all_goals
  clear h
  go_enter Tryz.func73, Tryz.ntmps73
  go_wp2_with fail
  refine wp_loop_rounds 6 ?_
  repeat (rw [rounds_succ]; go_wp2_with fail)
  go_ret2
  exact ⟨rfl, rfl⟩
end
section
open Go.ChangeShapes Go.WideShapes Go.ChangeAt Go.RowKit
set_option linter.unusedVariables false
theorem pow08_c (k p : Int) (h : (2 : Int) ^ k.toNat = p) (h0 : 0 ≤ k) (h1 : k ≤ 62) (w : World) :
 Calls Tryz.prog 26 #[.int .i64 k] w fun e w' => e = .returned (.int .i64 p) ∧ w' = w := by
 rw [← h]
 exact pow_c k h0 h1 w
set_option maxHeartbeats 1000000 in
theorem rlog08_yes (n : Int) (L : Nat) (h : IsLog n L) (w : World) :
 Calls Tryz.prog 84 #[.int .i64 n] w fun e w' => e = .returned (.int .i64 L) ∧ w' = w := by
 have P2 := Lib.hid (pow08_c 2 4 (by decide) (by omega) (by omega))
 have P3 := Lib.hid (pow08_c 3 8 (by decide) (by omega) (by omega))
 have P4 := Lib.hid (pow08_c 4 16 (by decide) (by omega) (by omega))
 have P5 := Lib.hid (pow08_c 5 32 (by decide) (by omega) (by omega))
 have P6 := Lib.hid (pow08_c 6 64 (by decide) (by omega) (by omega))
 rcases isLog_cases h with ⟨rfl, rfl⟩ | ⟨rfl, rfl⟩ | ⟨rfl, rfl⟩ | ⟨rfl, rfl⟩ | ⟨rfl, rfl⟩
 all_goals
  clear h
  go_enter Tryz.func84, Tryz.ntmps84
  go_wp2_with fail
  refine wp_loop_rounds 6 ?_
  repeat (rw [rounds_succ]; go_wp2_with (go_at_call 26; first | (with_reducible refine (P2.out _).mono ?_; rintro e wz ⟨rfl, rfl⟩) | (with_reducible refine (P3.out _).mono ?_; rintro e wz ⟨rfl, rfl⟩) | (with_reducible refine (P4.out _).mono ?_; rintro e wz ⟨rfl, rfl⟩) | (with_reducible refine (P5.out _).mono ?_; rintro e wz ⟨rfl, rfl⟩) | (with_reducible refine (P6.out _).mono ?_; rintro e wz ⟨rfl, rfl⟩)))
  go_ret
  exact ⟨rfl, rfl⟩
end
section
open Go.ChangeShapes Go.WideShapes Go.ChangeAt Go.RowKit
set_option linter.unusedVariables false
set_option maxRecDepth 100000
def gi0 : Gi := ⟨0, 0⟩
def flipL (L : Nat) (xs : List Gi) : List Gi := (List.range (2 ^ L)).map (fun k => xs.getD (fl L k) gi0)
theorem flipL_len (L : Nat) (xs : List Gi) : (flipL L xs).length = 2 ^ L := by unfold flipL; simp
theorem flipL_at (L : Nat) (xs : List Gi) (j : Nat) (h : j < 2 ^ L) : (flipL L xs)[j]? = some (xs.getD (fl L j) gi0) := by unfold flipL; simp [h]
def yk (L : Nat) (xs : List Gi) (k j : Nat) : Gi := if min j (fl L j) < k then xs.getD (fl L j) gi0 else xs.getD j gi0
theorem yk_zero (L : Nat) (xs : List Gi) (j : Nat) : yk L xs 0 j = xs.getD j gi0 := by unfold yk; rw [if_neg (by omega)]
theorem yk_all (L : Nat) (xs : List Gi) (j : Nat) (h : j < 2 ^ L) : yk L xs (2 ^ L) j = xs.getD (fl L j) gi0 := by unfold yk; rw [if_pos (by omega)]
theorem yk_stay (L : Nat) (xs : List Gi) (k j : Nat) (hL : L ≤ 6) (hk : k < 2 ^ L) (hj : j < 2 ^ L) (h : fl L k ≤ k) : yk L xs (k + 1) j = yk L xs k j := by
 unfold yk
 by_cases e : j = k
 ·subst e
  by_cases e2 : fl L j = j
  ·rw [e2]; split <;> split <;> rfl
  ·rw [if_pos (by omega), if_pos (by omega)]
 ·by_cases e2 : fl L j = k
  ·have : fl L k = j := by rw [← e2]; exact fl_fl L j hL hj
   by_cases e3 : j < k
   ·rw [if_pos (by omega), if_pos (by omega)]
   ·omega
  ·by_cases e3 : min j (fl L j) < k
   ·rw [if_pos (by omega), if_pos e3]
   ·rw [if_neg (by omega), if_neg e3]
theorem yk_swap (L : Nat) (xs : List Gi) (k : Nat) (hL : L ≤ 6) (hk : k < 2 ^ L) (h : k < fl L k) :
 yk L xs k (fl L k) = xs.getD (fl L k) gi0 ∧ yk L xs k k = xs.getD k gi0 ∧ yk L xs (k + 1) k = xs.getD (fl L k) gi0 ∧ yk L xs (k + 1) (fl L k) = xs.getD k gi0 ∧
 ∀ j, j < 2 ^ L → j ≠ k → j ≠ fl L k → yk L xs (k + 1) j = yk L xs k j := by
 have hf := fl_fl L k hL hk
 unfold yk
 refine ⟨?_, ?_, ?_, ?_, fun j hj h1 h2 => ?_⟩
 ·rw [hf, if_neg (by omega)]
 ·rw [if_neg (by omega)]
 ·rw [if_pos (by omega)]
 ·rw [hf, if_pos (by omega)]
 ·have h3 : fl L j ≠ k := by
   intro e
   exact h2 (by rw [← e]; exact (fl_fl L j hL hj).symm)
  by_cases e3 : min j (fl L j) < k
  ·rw [if_pos (by omega), if_pos e3]
  ·rw [if_neg (by omega), if_neg e3]
theorem gcells_inv (xs : List Gi) (k : Nat) (v : Value) (h : (gcells xs)[k]? = some v) : ∃ j x, xs[j]? = some x ∧ ((k = j * 2 ∧ v = .int .i64 x.re) ∨ (k = j * 2 + 1 ∧ v = .int .i64 x.im)) := by
 have hk := (List.getElem?_eq_some_iff.1 h).1
 rw [gcells_len] at hk
 obtain ⟨x, hx⟩ : ∃ x, xs[k / 2]? = some x := get_of_lt (by omega)
 have h2 := gcells_at xs (k / 2) x hx
 rcases Nat.mod_two_eq_zero_or_one k with e | e
 ·rw [show k / 2 * 2 = k by omega, h] at h2
  exact ⟨k / 2, x, hx, .inl ⟨by omega, Option.some.inj h2.1⟩⟩
 ·rw [show k / 2 * 2 + 1 = k by omega, h] at h2
  exact ⟨k / 2, x, hx, .inr ⟨by omega, Option.some.inj h2.2⟩⟩
set_option maxHeartbeats 2000000 in
theorem flip08_ok (v : Value) (xs : List Gi) (L : Nat) (l0 : 2 ≤ L) (l1 : L ≤ 6) (hl : xs.length = 2 ^ L) (w : World) (hv : CxsAt w v xs) :
 Calls Tryz.prog 44 #[v] w fun e w' => ∃ v', e = .returned (.tuple #[v', .int .i64 0]) ∧ CxsAt w' v' (flipL L xs) ∧ Gr w w' := by
 have h64 := pow_le L l1
 have h4 : 4 ≤ 2 ^ L := Nat.pow_le_pow_right (n := 2) (by omega) l0
 obtain ⟨b, o, cap, rfl, hlen, hb, hc⟩ := hv.at (by intro e; rw [e] at hl; simp at hl; omega)
 have HG := Lib.hid (log08_yes ((2 ^ L : Nat) : Int) L ⟨l0, l1, rfl⟩)
 have HF := Lib.hid fun k (hk : k < 64) => flipped_c k L l1 hk
 have HX : ∀ j, j < 2 ^ L → xs[j]? = some (xs.getD j gi0) := fun j hj => by rw [List.getD_eq_getElem?_getD, List.getElem?_eq_getElem (by omega)]; rfl
 have HY0 := Lib.hid (yk_zero L xs)
 have HYn := Lib.hid (yk_all L xs)
 have HYs := Lib.hid fun k j hk hj h => yk_stay L xs k j l1 hk hj h
 have HYw := Lib.hid fun k hk h => yk_swap L xs k l1 hk h
 have HFl := Lib.hid (fl_lt L)
 have HZ := Lib.hid (flipL_at L xs)
 have HZl := Lib.hid (flipL_len L xs)
 rw [hl]
 generalize flipL L xs = zs at *
 generalize 2 ^ L = n at *
 have hmk := run_make_cx n (by omega) w
 obtain ⟨W2, hcp, hC2, hg2⟩ : ∃ W2, (Builtin.copy_ #[22, 22] 3 #[.slice (some ⟨w.heap.size, 0, none⟩) n n, .slice (some ⟨b, o, none⟩) n cap]).run Tryz.prog (w.alloc (.cells (madeCells #[.int .i64 0, .int .i64 0] (n * 2)) 58)) = .ok (.int .i64 n) W2 ∧ CellsAt W2 w.heap.size 58 (gcells xs).toArray ∧ Gr w W2 := by
  have M0 := CellsAt.new w 58 (madeCells #[.int .i64 0, .int .i64 0] (n * 2))
  have M1 := size_madeCells #[.int .i64 0, .int .i64 0] (n * 2)
  have g1 := (Gr.refl w).alloc (madeCells #[.int .i64 0, .int .i64 0] (n * 2)) 58
  have hL := gcells_len xs
  have hr := run_copy_cx (w.alloc (.cells (madeCells #[.int .i64 0, .int .i64 0] (n * 2)) 58)) 3 w.heap.size n n ⟨b, o, none⟩ n cap _ 58 (gcells xs) M0
   (by rw [hL, hl]; simp) (by
    intro j v hj
    rw [Addr.add_lit]
    obtain ⟨j', x, hx, h⟩ := gcells_inv xs j v hj
    have hcx := hc j' x hx
    rcases h with ⟨rfl, rfl⟩ | ⟨rfl, rfl⟩
    ·exact (g1.cell (p := ⟨b, o + j' * 2, none⟩) hb).trans hcx.1
    ·exact (g1.cell (p := ⟨b, o + j' * 2 + 1, none⟩) hb).trans hcx.2)
   (by rw [hL, hl, M1]; omega) (by
    intro v hv
    obtain ⟨j, hj, rfl⟩ := List.mem_iff_getElem.1 hv
    obtain ⟨j', x, hx, h⟩ := gcells_inv xs j _ (List.getElem?_eq_getElem hj)
    rcases h with ⟨_, h⟩ | ⟨_, h⟩ <;> rw [h] <;> rfl)
  have hd : (madeCells #[.int .i64 0, .int .i64 0] (n * 2)).toList.drop (gcells xs).length = [] := List.drop_eq_nil_of_le (by rw [hL, hl]; simp [M1])
  rw [hd, List.append_nil] at hr
  refine ⟨_, ?_, setRow_heap _ _ _ _ _ _ M0, ⟨below_setRow g1.out (Nat.le_refl _) _⟩⟩
  rw [hr]
  simp [goInt]
 have S0 : (gcells xs).toArray.size = n * 2 := by have := gcells_len xs; simp only [List.size_toArray]; omega
 clear hc hl hb
 go_enter Tryz.func44, Tryz.ntmps44
 go_wp2_with (first | (go_at_call 73; refine (HG.out _).mono ?_; rintro e wz ⟨rfl, rfl⟩))
 go_loopw [7, 8, 26] (fun _ _ i wr => ∃ k : Nat, ∃ c : Array Value, k ≤ n ∧ i = .int .i64 k ∧ CellsAt wr wz.heap.size 58 c ∧ c.size = n * 2 ∧ (∀ j, j < n → c[j * 2]? = some (.int .i64 (yk L xs k j).re) ∧ c[j * 2 + 1]? = some (.int .i64 (yk L xs k j).im)) ∧ Gr wz wr)
  (fun _ _ i _ => n - (intOf i).toNat)
 case atStart =>
  refine ⟨0, _, by omega, rfl, hC2, S0, fun j hj => ?_, hg2⟩
  rw [HY0.out]
  simpa using gcells_at xs j _ (HX j hj)
 case round =>
  clear hC2 hg2 hmk hcp S0 HX
  obtain ⟨k, c, hk, rfl, hC, hs, hj, hg⟩ := hrel
  by_cases hlt : k < n
  ·have HA := Lib.hid (HF.out k (by omega))
   have hfl := HFl.out k
   by_cases hsw : k < fl L k
   ·obtain ⟨e1, e2, e3, e4, e5⟩ := HYw.out k hlt hsw
    have E := Lib.hid (And.intro e3 (And.intro e4 e5))
    have q0 := (hj k hlt).1
    have q1 := (hj k hlt).2
    have p0 := (hj _ hfl).1
    have p1 := (hj _ hfl).2
    rw [e2] at q0 q1
    rw [e1] at p0 p1
    clear e1 e2 e3 e4 e5
    have HJ := Lib.hid hj
    have HS := Lib.hid hs
    clear hj hs HF HFl HY0 HYn HYs HYw
    have q2 := hC.cell (k * 2)
    have q3 := hC.cell (k * 2 + 1)
    have p2 := hC.cell (fl L k * 2)
    have p3 := hC.cell (fl L k * 2 + 1)
    rw [q0] at q2
    rw [q1] at q3
    rw [p0] at p2
    rw [p1] at p3
    have f0 := hC.frozen (k * 2)
    have f1 := hC.frozen (k * 2 + 1)
    have f2 := hC.frozen (fl L k * 2)
    have f3 := hC.frozen (fl L k * 2 + 1)
    clear q0 q1 p0 p1
    have hBl := hC.lt
    generalize fl L k = f at *
    generalize xs.getD f gi0 = gf at *
    generalize xs.getD k gi0 = gk at *
    have hi1 : (f : Int) < n := by omega
    have hi2 : (k : Int) < f := by omega
    have hi3 : ¬ f = k := by omega
    have hi4 : ¬ k = f := by omega
    go_wp2_with (first | (go_at_call 74; refine (HA.out _).mono ?_; rintro e wy ⟨rfl, rfl⟩))
    go_region
    go_wp2_with fail
    have hC4 := ((((hC.set (k * 2) (.int .i64 gf.re)).set (k * 2 + 1) (.int .i64 gf.im)).set (f * 2) (.int .i64 gk.re)).set (f * 2 + 1) (.int .i64 gk.im)).drewN 1
    have hg4 := ((((hg.setCell (a := ⟨wz.heap.size, k * 2, none⟩) (Nat.le_refl _) (.int .i64 gf.re)).setCell (a := ⟨wz.heap.size, k * 2 + 1, none⟩) (Nat.le_refl _) (.int .i64 gf.im)).setCell (a := ⟨wz.heap.size, f * 2, none⟩) (Nat.le_refl _) (.int .i64 gk.re)).setCell (a := ⟨wz.heap.size, f * 2 + 1, none⟩) (Nat.le_refl _) (.int .i64 gk.im)).drew
    obtain ⟨E1, E2, E3⟩ := E.out
    go_roundw
    case rel =>
     refine ⟨k + 1, _, by omega, by go_num, hC4, by simpa using HS.out, fun j hj => ?_, hg4⟩
     have hs := HS.out
     by_cases e : j = k
     ·subst e
      rw [E1]
      constructor
      ·rw [Array.getElem?_setIfInBounds, if_neg (by omega), Array.getElem?_setIfInBounds, if_neg (by omega), Array.getElem?_setIfInBounds, if_neg (by omega), Array.getElem?_setIfInBounds, if_pos rfl, if_pos (by omega)]
      ·rw [Array.getElem?_setIfInBounds, if_neg (by omega), Array.getElem?_setIfInBounds, if_neg (by omega), Array.getElem?_setIfInBounds, if_pos rfl, if_pos (by simp only [Array.size_setIfInBounds]; omega)]
     ·by_cases e' : j = f
      ·subst e'
       rw [E2]
       constructor
       ·rw [Array.getElem?_setIfInBounds, if_neg (by omega), Array.getElem?_setIfInBounds, if_pos rfl, if_pos (by simp only [Array.size_setIfInBounds]; omega)]
       ·rw [Array.getElem?_setIfInBounds, if_pos rfl, if_pos (by simp only [Array.size_setIfInBounds]; omega)]
      ·rw [E3 j hj e e']
       constructor
       ·rw [Array.getElem?_setIfInBounds, if_neg (by omega), Array.getElem?_setIfInBounds, if_neg (by omega), Array.getElem?_setIfInBounds, if_neg (by omega), Array.getElem?_setIfInBounds, if_neg (by omega)]
        exact (HJ.out j hj).1
       ·rw [Array.getElem?_setIfInBounds, if_neg (by omega), Array.getElem?_setIfInBounds, if_neg (by omega), Array.getElem?_setIfInBounds, if_neg (by omega), Array.getElem?_setIfInBounds, if_neg (by omega)]
        exact (HJ.out j hj).2
    case measure => simp [intOf]; omega
   ·have hst := HYs.out k
    have HJ := Lib.hid hj
    have HE := Lib.hid fun j hj => hst j hlt hj (by omega)
    clear hj hst HF HFl HY0 HYn HYs HYw
    generalize fl L k = f at *
    go_wp2_with (first | (go_at_call 74; refine (HA.out _).mono ?_; rintro e wy ⟨rfl, rfl⟩))
    go_roundw
    case rel => exact ⟨k + 1, c, by omega, by go_num, hC, hs, fun j hj => by rw [HE.out j hj]; exact HJ.out j hj, hg⟩
    case measure => simp [intOf]; omega
  ·have he : k = n := by omega
   subst he
   go_wp2_with fail
   go_ret2
   refine ⟨.slice (some ⟨wz.heap.size, 0, none⟩) k k, rfl, ⟨some ⟨wz.heap.size, 0, none⟩, k, by rw [HZl.out], by rw [HZl.out]; omega, by unfold maxLen; omega, fun _ => ⟨wz.heap.size, 0, rfl, hC.lt, fun j x hx => ?_⟩⟩, hg⟩
   have hjl : j < k := by
    have := (List.getElem?_eq_some_iff.1 hx).1
    rwa [HZl.out] at this
   rw [HZ.out j hjl] at hx
   obtain rfl := Option.some.inj hx
   rw [hC.cell, hC.cell, Nat.zero_add, ← HYn.out j hjl]
   exact hj j hjl
end
section
open Go.ChangeShapes Go.WideShapes Go.ChangeAt Go.RowKit
set_option linter.unusedVariables false
end
section
open Go.ChangeShapes Go.WideShapes Go.ChangeAt Go.RowKit Go.Shelf
set_option linter.unusedVariables false
set_option maxRecDepth 100000
end
section
open Go.ChangeShapes Go.WideShapes Go.ChangeAt Go.RowKit Go.Shelf
set_option linter.unusedVariables false
theorem wide_fn (f : FuncId) : Fence.wide.fn f = True := rfl
attribute [local go_sem] wide_fn Oper.semAt_some
def Qi (N : Nat) : Type := { q : Nat // q < N }
end
section
set_option linter.unusedVariables false
set_option linter.unusedSimpArgs false
set_option maxRecDepth 100000
def gsub (a b : Gi) : Gi := ⟨a.re - b.re, a.im - b.im⟩
def Len (R : Int) (a : Gi) : Prop := a.re * a.re + a.im * a.im ≤ R * R
theorem sq_le (x R : Int) (hR : 0 ≤ R) (h : x * x ≤ R * R) : -R ≤ x ∧ x ≤ R := by
 constructor
 ·refine Int.not_lt.1 fun k => ?_
  have h1 := Int.mul_le_mul (a := R + 1) (b := R + 1) (c := -x) (d := -x) (by omega) (by omega) (by omega) (by omega)
  rw [Int.neg_mul_neg] at h1
  have h2 : (R + 1) * (R + 1) = R * R + 2 * R + 1 := by grind
  omega
 ·refine Int.not_lt.1 fun k => ?_
  have h1 := Int.mul_le_mul (a := R + 1) (b := R + 1) (c := x) (d := x) (by omega) (by omega) (by omega) (by omega)
  have h2 : (R + 1) * (R + 1) = R * R + 2 * R + 1 := by grind
  omega
theorem sq_nonneg12 (x : Int) : 0 ≤ x * x := by
 rcases Int.le_total 0 x with h | h
 ·exact Int.mul_nonneg h h
 ·rw [← Int.neg_mul_neg]; exact Int.mul_nonneg (by omega) (by omega)
theorem Len.bd {R : Int} {a : Gi} (hR : 0 ≤ R) (h : Len R a) : Bd R a := by
 unfold Len at h
 have h1 := sq_nonneg12 a.re
 have h2 := sq_nonneg12 a.im
 exact Bd.mk ⟨sq_le _ _ hR (by omega), sq_le _ _ hR (by omega)⟩
theorem Len.mono {R S : Int} {a : Gi} (hR : 0 ≤ R) (h : Len R a) (e : R ≤ S) : Len S a := Int.le_trans h (Int.mul_le_mul e e hR (by omega))
theorem Len.zero (R : Int) : Len R ⟨0, 0⟩ := by unfold Len; simpa using sq_nonneg12 R
theorem Len.mul {R S : Int} {a b : Gi} (hR : 0 ≤ R) (h : Len R a) (k : Len S b) : Len (R * S) (gmul a b) := by
 unfold Len gmul at *
 simp only
 have e : (a.re * b.re - a.im * b.im) * (a.re * b.re - a.im * b.im) + (a.re * b.im + a.im * b.re) * (a.re * b.im + a.im * b.re) = (a.re * a.re + a.im * a.im) * (b.re * b.re + b.im * b.im) := by grind
 rw [e, show R * S * (R * S) = (R * R) * (S * S) by grind]
 have h1 := sq_nonneg12 b.re
 have h2 := sq_nonneg12 b.im
 exact Int.mul_le_mul h k (by omega) (sq_nonneg12 R)
theorem Len.add {R S : Int} {a b : Gi} (hR : 0 ≤ R) (hS : 0 ≤ S) (h : Len R a) (k : Len S b) : Len (R + S) (gadd a b) := by
 unfold Len gadd at *
 simp only
 have hd : -(R * S) ≤ a.re * b.re + a.im * b.im ∧ a.re * b.re + a.im * b.im ≤ R * S := by
  refine sq_le _ _ (Int.mul_nonneg hR hS) ?_
  have h1 := sq_nonneg12 (a.re * b.im - a.im * b.re)
  have h2 := sq_nonneg12 b.re
  have h3 := sq_nonneg12 b.im
  have h4 : (a.re * a.re + a.im * a.im) * (b.re * b.re + b.im * b.im) ≤ (R * R) * (S * S) := Int.mul_le_mul h k (by omega) (sq_nonneg12 R)
  have e : (a.re * b.re + a.im * b.im) * (a.re * b.re + a.im * b.im) + (a.re * b.im - a.im * b.re) * (a.re * b.im - a.im * b.re) = (a.re * a.re + a.im * a.im) * (b.re * b.re + b.im * b.im) := by grind
  have e2 : R * S * (R * S) = (R * R) * (S * S) := by grind
  omega
 have e3 : (a.re + b.re) * (a.re + b.re) + (a.im + b.im) * (a.im + b.im) = (a.re * a.re + a.im * a.im) + 2 * (a.re * b.re + a.im * b.im) + (b.re * b.re + b.im * b.im) := by grind
 have e4 : (R + S) * (R + S) = R * R + 2 * (R * S) + S * S := by grind
 omega
theorem Len.neg {R : Int} {a : Gi} (h : Len R a) : Len R ⟨-a.re, -a.im⟩ := by
 unfold Len at *
 simp only [Int.neg_mul_neg]
 exact h
theorem Len.sub {R S : Int} {a b : Gi} (hR : 0 ≤ R) (hS : 0 ≤ S) (h : Len R a) (k : Len S b) : Len (R + S) (gsub a b) := by
 have e : gsub a b = gadd a ⟨-b.re, -b.im⟩ := by unfold gsub gadd; simp only [Int.sub_eq_add_neg]
 rw [e]
 exact h.add hR hS k.neg
theorem Len.turn {R : Int} {a : Gi} (h : Len R a) (q : Int) : Len R (Gi.turn q a) := by
 unfold Len at *
 have hc : q % 4 = 0 ∨ q % 4 = 1 ∨ q % 4 = 2 ∨ q % 4 = 3 := by omega
 rcases hc with e | e | e | e <;> (unfold Gi.turn; simp only [e]; first | exact h | (simp [Int.neg_mul_neg]; first | exact h | omega))
theorem Len.conj {R : Int} {a : Gi} (h : Len R a) : Len R a.conj := by
 unfold Len Gi.conj at *
 simp only [Int.neg_mul_neg]
 exact h
theorem Len.scale {R : Int} {a : Gi} (h : Len R a) (bits : Nat) : Len (R * 2 ^ bits) (gscale bits a) := by
 unfold Len gscale at *
 simp only
 generalize hP : (2 : Int) ^ bits = P
 have e : a.re * P * (a.re * P) + a.im * P * (a.im * P) = (a.re * a.re + a.im * a.im) * (P * P) := by grind
 rw [e, show R * P * (R * P) = R * R * (P * P) by grind]
 exact Int.mul_le_mul_of_nonneg_right h (sq_nonneg12 P)
theorem Len.rnd {R : Int} {a : Gi} (n : Nat) (mo : Int) (hm : mo = 0 ∨ mo = 1 ∨ mo = 2) (hR : 0 ≤ R) (h : Len (R * 2 ^ n) a) : Len (R + 2) (grnd n mo a) := by
 have h1 := rnd_off a.re n mo hm
 have h2 := rnd_off a.im n mo hm
 have hp := pow_pos2 n
 unfold grnd
 generalize Go.Proofs.YtcgeabpibkejpaaGreat.rnd a.re n mo = x at *
 generalize Go.Proofs.YtcgeabpibkejpaaGreat.rnd a.im n mo = y at *
 generalize (2 : Int) ^ n = P at *
 have he : Len (2 * P) ⟨x * P - a.re, y * P - a.im⟩ := by
  unfold Len
  simp only
  have e1 : (x * P - a.re) * (x * P - a.re) ≤ P * P := by
   have := Int.mul_le_mul (a := absI (x * P - a.re)) (b := absI (x * P - a.re)) (c := P) (d := P) (absI_le.2 (by omega)) (absI_le.2 (by omega)) (absI_nonneg _) (by omega)
   refine Int.le_trans (Int.le_of_eq ?_) this
   unfold absI
   split
   ·rw [Int.neg_mul_neg]
   ·rfl
  have e2 : (y * P - a.im) * (y * P - a.im) ≤ P * P := by
   have := Int.mul_le_mul (a := absI (y * P - a.im)) (b := absI (y * P - a.im)) (c := P) (d := P) (absI_le.2 (by omega)) (absI_le.2 (by omega)) (absI_nonneg _) (by omega)
   refine Int.le_trans (Int.le_of_eq ?_) this
   unfold absI
   split
   ·rw [Int.neg_mul_neg]
   ·rfl
  have e3 := sq_nonneg12 P
  have e4 : 2 * P * (2 * P) = 4 * (P * P) := by grind
  omega
 have ha := h.add (Int.mul_nonneg hR (by omega)) (by omega) he
 unfold Len gadd at ha
 unfold Len
 simp only at ha ⊢
 have e5 : a.re + (x * P - a.re) = x * P := by omega
 have e6 : a.im + (y * P - a.im) = y * P := by omega
 rw [e5, e6, show x * P * (x * P) + y * P * (y * P) = (x * x + y * y) * (P * P) by grind, show (R * P + 2 * P) * (R * P + 2 * P) = (R + 2) * (R + 2) * (P * P) by grind] at ha
 exact Int.le_of_mul_le_mul_right ha (Int.mul_pos hp hp)
end
section
open Go.ChangeShapes Go.WideShapes Go.ChangeAt Go.RowKit
set_option linter.unusedVariables false
set_option maxRecDepth 100000
theorem q4g (q : Int) : q % 4 = 0 ∨ q % 4 = 1 ∨ q % 4 = 2 ∨ q % 4 = 3 := by omega
theorem rturn_gi (a : Gi) (q : Int) (h : a.re.natAbs ≤ 2305843009213693952 ∧ a.im.natAbs ≤ 2305843009213693952) (w : World) :
 Calls Tryz.prog 150 #[.agg #[.int .i64 a.re, .int .i64 a.im], .int .i64 q] w fun e w' => e = .returned (.agg #[.int .i64 (a.turn q).re, .int .i64 (a.turn q).im]) ∧ Gr w w' := by
 have h0 : wrap64 (-a.re) = -a.re := IntWalk.wrap64_in _ (by omega)
 have h1 : wrap64 (-a.im) = -a.im := IntWalk.wrap64_in _ (by omega)
 have ht := tmod4 q
 unfold Gi.turn
 rcases q4g q with hm | hm | hm | hm <;> rw [hm] at ht <;> simp only [hm]
 ·exact rturn_0 a.re a.im q _ _ _ h0 h1 rfl (by omega) w
 ·exact rturn_1 a.re a.im q _ _ _ h0 h1 rfl (by omega) w
 ·exact rturn_2 a.re a.im q _ _ _ h0 h1 rfl (by omega) w
 ·exact rturn_3 a.re a.im q _ _ _ h0 h1 rfl (by omega) w
theorem rconj_gi (a : Gi) (h : a.im.natAbs ≤ 2305843009213693952) (w : World) :
 Calls Tryz.prog 116 #[.agg #[.int .i64 a.re, .int .i64 a.im]] w fun e w' => e = .returned (.agg #[.int .i64 a.conj.re, .int .i64 a.conj.im]) ∧ Gr w w' :=
 rconj_c a.re a.im _ (IntWalk.wrap64_in _ (by omega)) w
theorem cxconj_gi (a : Gi) (h : a.re.natAbs ≤ 2305843009213693952 ∧ a.im.natAbs ≤ 2305843009213693952) (w : World) :
 Calls Tryz.prog 107 #[.agg #[.int .i64 a.re, .int .i64 a.im]] w fun e w' => e = .returned (.tuple #[.agg #[.int .i64 a.conj.re, .int .i64 a.conj.im], .int .i64 0]) ∧ Gr w w' :=
 cxconj_ok a.re a.im (by simp only [Bool.and_eq_true, inB_iff]; omega) w
theorem cxturn_gi (a : Gi) (q : Int) (h : a.re.natAbs ≤ 2305843009213693952 ∧ a.im.natAbs ≤ 2305843009213693952) (w : World) :
 Calls Tryz.prog 158 #[.agg #[.int .i64 a.re, .int .i64 a.im], .int .i64 q] w fun e w' => e = .returned (.tuple #[.agg #[.int .i64 (a.turn q).re, .int .i64 (a.turn q).im], .int .i64 0]) ∧ Gr w w' := by
 have hB : (inB 2305843009213693952 a.re && inB 2305843009213693952 a.im) = true := by simp only [Bool.and_eq_true, inB_iff]; omega
 have ha := and3 q
 unfold Gi.turn
 rcases q4g q with hm | hm | hm | hm <;> rw [hm] at ha <;> simp only [hm]
 ·exact cxturn_0 a.re a.im q hB ha w
 ·exact cxturn_1 a.re a.im q hB ha w
 ·exact cxturn_2 a.re a.im q hB ha w
 ·exact cxturn_3 a.re a.im q hB ha w
theorem cxtimes_gi (a w : Gi) (ha : absI a.re ≤ 2147483648 ∧ absI a.im ≤ 2147483648) (hw : absI w.re ≤ 1073741824 ∧ absI w.im ≤ 1073741824) (W : World) :
 Calls Tryz.prog 141 #[.agg #[.int .i64 a.re, .int .i64 a.im], .agg #[.int .i64 w.re, .int .i64 w.im]] W fun e w' => e = .returned (.tuple #[.agg #[.int .i64 (gmul a w).re, .int .i64 (gmul a w).im], .int .i64 0]) ∧ Gr W w' := by
 have a1 := absI_le.1 ha.1
 have a2 := absI_le.1 ha.2
 have b1 := absI_le.1 hw.1
 have b2 := absI_le.1 hw.2
 exact cxtimes_ok a.re a.im w.re w.im (by simp only [Bool.or_eq_true, Bool.and_eq_true, inB_iff]; omega) W
theorem cxshift_gi (a : Gi) (n : Nat) (mo : Int) (h : (-9223372036854775808 ≤ a.re ∧ a.re ≤ 9223372036854775807) ∧ -9223372036854775808 ≤ a.im ∧ a.im ≤ 9223372036854775807) (hn : n ≤ 62) (m0 : 0 ≤ mo) (m1 : mo ≤ 2) (W : World) :
 Calls Tryz.prog 100 #[.agg #[.int .i64 a.re, .int .i64 a.im], .int .i64 (n : Int), .int .i64 mo] W fun e w' => e = .returned (.tuple #[.agg #[.int .i64 (grnd n mo a).re, .int .i64 (grnd n mo a).im], .int .i64 0]) ∧ Gr W w' := by
 have := cxshift_ok a.re a.im (n : Int) mo h.1 h.2 (by omega) (by omega) m0 m1 W
 rwa [Int.toNat_natCast] at this
end
section
open Go.ChangeShapes Go.WideShapes Go.ChangeAt Go.RowKit
set_option linter.unusedVariables false
set_option linter.unusedSimpArgs false
set_option maxRecDepth 100000
theorem RowAt.made (W : World) (n : Nat) : RowAt (W.alloc (.cells (madeCells #[.int .i64 0, .int .i64 0] (n * 2)) 58)) W.heap.size 58 n (fun _ => ⟨0, 0⟩) := by
 refine ⟨_, CellsAt.new W _ _, size_madeCells _ _, fun j hj => ?_⟩
 have key : ∀ k, k < n * 2 → (madeCells #[.int .i64 0, .int .i64 0] (n * 2))[k]? = some (.int .i64 0) := by
  intro k hk
  unfold madeCells
  have h2 : k % 2 = 0 ∨ k % 2 = 1 := by omega
  rcases h2 with e | e <;> simp [hk, e]
 exact ⟨key _ (by omega), key _ (by omega)⟩
theorem CxsAt.getD {w : World} {b o n cap : Nat} {xs : List Gi} (hc : ∀ j x, xs[j]? = some x → w.cell? ⟨b, o + j * 2, none⟩ = some (.int .i64 x.re) ∧ w.cell? ⟨b, o + j * 2 + 1, none⟩ = some (.int .i64 x.im)) (j : Nat) (hj : j < xs.length) :
 w.cell? ⟨b, o + j * 2, none⟩ = some (.int .i64 (xs.getD j ⟨0, 0⟩).re) ∧ w.cell? ⟨b, o + j * 2 + 1, none⟩ = some (.int .i64 (xs.getD j ⟨0, 0⟩).im) :=
 hc j _ (by rw [List.getD_eq_getElem?_getD, List.getElem?_eq_getElem hj]; rfl)
end
section
open Go.ChangeShapes Go.WideShapes Go.ChangeAt Go.RowKit
set_option linter.unusedVariables false
set_option maxRecDepth 100000
theorem Bd.pow {l : Int} {bits : Nat} {a : Gi} (hb : bits ≤ 29) (h : Bd (2 ^ bits) a) : Bd 1073741824 a := by
 refine h.mono ?_
 have h1 : (2 : Nat) ^ bits ≤ 2 ^ 29 := Nat.pow_le_pow_right (by decide) hb
 have h2 : ((2 ^ bits : Nat) : Int) ≤ ((2 ^ 29 : Nat) : Int) := Int.ofNat_le.2 h1
 rw [Int.natCast_pow] at h2
 simp at h2
 omega
end
section
open Go.ChangeShapes Go.WideShapes Go.ChangeAt Go.RowKit
set_option linter.unusedVariables false
set_option linter.unusedSimpArgs false
set_option maxRecDepth 100000
theorem Bd.sub {l m : Int} {a b : Gi} (h : Bd l a) (k : Bd m b) : Bd (l + m) (gsub a b) := by
 have h1 := h.le
 have h2 := k.le
 unfold gsub
 exact Bd.mk (by simp only; omega)
end
section
open Go.ChangeShapes Go.WideShapes Go.ChangeAt Go.RowKit
set_option linter.unusedVariables false
set_option maxRecDepth 100000
def atFirst (sc p : Int) (xs : List Gi) : Int := if sc = 0 then 1 else if sc = 1 then -(room p (maxG xs) : Int) else 0
def readyB (ke sc mo p : Int) (L : Nat) (xs : List Gi) : BV := ⟨(if ke = 2 then xs else flipL L xs).map (shG (atFirst sc p xs) mo), atFirst sc p xs, false, []⟩
theorem clampI_id (p x : Int) (h0 : -p ≤ x) (h1 : x ≤ p - 1) : clampI p x = x := by unfold clampI; rw [if_neg (by omega), if_neg (by omega)]
theorem allIn_parts {l : Int} {xs : List Gi} : allIn l xs = true ↔ ∀ a ∈ xs, (-l ≤ a.re ∧ a.re ≤ l) ∧ (-l ≤ a.im ∧ a.im ≤ l) := by
 unfold allIn
 rw [List.all_eq_true]
 simp only [Bool.and_eq_true, inB_iff]
theorem allIn_more {l l' : Int} {xs : List Gi} (h : allIn l xs = true) (hl : l ≤ l') : allIn l' xs = true := by
 rw [allIn_parts] at h ⊢
 intro a ha
 have := h a ha
 omega
def ManB (p : Int) (xs : List Gi) : Prop := ∀ a ∈ xs, (-p ≤ a.re ∧ a.re ≤ p - 1) ∧ (-p ≤ a.im ∧ a.im ≤ p - 1)
theorem ManB.all {p : Int} {xs : List Gi} (h : ManB p xs) : allIn p xs = true := by
 rw [allIn_parts]
 intro a ha
 have := h a ha
 omega
theorem manB_iff {p : Int} {xs : List Gi} : partsB (-p) (p - 1) xs = true ↔ ManB p xs := by
 unfold partsB partIn ManB
 rw [List.all_eq_true]
 simp only [decide_eq_true_eq]
end
end Go.Proofs.YtcgeabpibkejpaaGreat
