import Derived.Test.YtcgeabpibkejpaaGreatNearTellsS20
namespace Go.Proofs.YtcgeabpibkejpaaGreat
section
open Go.ChangeShapes Go.WideShapes Go.ChangeAt Go.RowKit
set_option linter.unusedVariables false
set_option maxRecDepth 100000
end
section
open Go.ChangeShapes Go.WideShapes Go.ChangeAt Go.RowKit
set_option linter.unusedVariables false
end
section
open Go.ChangeShapes Go.WideShapes Go.ChangeAt Go.RowKit Go.Shelf
set_option linter.unusedVariables false
attribute [local go_sem] wide_fn Oper.semAt_some
structure KB (B : Nat) (V W : World) : Prop where
 size : V.heap.size ≤ W.heap.size
 same : ∀ k, k < V.heap.size → k ≠ B → W.heap[k]? = V.heap[k]?
theorem KB.refl (B : Nat) (V : World) : KB B V V := ⟨Nat.le_refl _, fun _ _ _ => rfl⟩
theorem KB.gr {B : Nat} {U V W : World} (h : KB B U V) (g : Gr V W) : KB B U W := ⟨Nat.le_trans h.size g.size, fun k hk hb => (g.block (Nat.lt_of_lt_of_le hk h.size)).trans (h.same k hk hb)⟩
theorem KB.set {B : Nat} {U V : World} (h : KB B U V) (j : Nat) (v : Value) : KB B U (V.setCell ⟨B, j, none⟩ v) := ⟨Nat.le_trans h.size (KeepsWalks.setCell V _ v).size, fun k hk hb => (Below.heap_setCell _ _ _ k hb).trans (h.same k hk hb)⟩
theorem KB.drew {B : Nat} {U V : World} (h : KB B U V) : KB B U V.drew := ⟨h.size, h.same⟩
theorem KB.cell {B : Nat} {V W : World} (h : KB B V W) {p : Addr} (hp : p.block < V.heap.size) (hb : p.block ≠ B) : W.cell? p = V.cell? p := by
 unfold World.cell?
 rw [h.same _ hp hb]
theorem KB.cellsAt {B : Nat} {V W : World} (h : KB B V W) {b : Nat} {t : TypeId} {c : Array Value} (hc : CellsAt V b t c) (hb : b ≠ B) : CellsAt W b t c := (h.same b hc.lt hb).trans hc
end
section
open Go.ChangeShapes Go.WideShapes Go.ChangeAt Go.RowKit
set_option linter.unusedVariables false
set_option linter.unusedSimpArgs false
set_option maxRecDepth 100000
theorem lo_of {fo lo ke sc mo : Int} (h : okF fo lo ke sc mo = true) : (lo = 2 ∧ (2 : Int) ^ lo.toNat = 4) ∨ (lo = 3 ∧ (2 : Int) ^ lo.toNat = 8) ∨ (lo = 4 ∧ (2 : Int) ^ lo.toNat = 16) ∨ (lo = 5 ∧ (2 : Int) ^ lo.toNat = 32) ∨ (lo = 6 ∧ (2 : Int) ^ lo.toNat = 64) := by
 have hf := okF_iff.1 h
 have hl : lo = 2 ∨ lo = 3 ∨ lo = 4 ∨ lo = 5 ∨ lo = 6 := by omega
 rcases hl with rfl | rfl | rfl | rfl | rfl <;> simp
theorem one_bd (fo : Int) : 0 ≤ oneB fo ∧ oneB fo ≤ 2147483648 := by unfold oneB; split <;> omega
theorem ftNum_c (fo lo ke sc mo : Int) (iv : Bool) (v : Value) (xs : List Gi) (w : World) (hv : CxsAt w v xs) :
 Calls Tryz.prog 42 #[v, .agg #[.int .i64 fo, .int .i64 lo, .int .i64 ke, .int .i64 sc, .int .i64 mo, .bool iv]] w fun e w' => e = .returned (.int .i64 (whyB fo lo ke sc mo false xs)) ∧ Gr w w' := by
 obtain ⟨p, cap, rfl⟩ := hv.len
 unfold whyB
 by_cases hk : okF fo lo ke sc mo = true
 ·rw [if_pos hk]
  obtain ⟨b, hb, _⟩ := fb_of hk
  have HC := Lib.hid fun W => check_c fo lo ke sc mo iv 0 (by rw [if_pos hk]) W
  by_cases hn : (xs.length : Int) = 2 ^ lo.toNat
  ·rw [if_pos hn]
   simp only [Bool.false_eq_true, if_false]
   exact ftNum_parts p xs.length cap xs fo lo ke sc mo _ (oneB fo) iv _ (lo_of hk) hn (one_bd fo).1 (one_bd fo).2 HC (Lib.hid fun W => ftOne_c fo b (oneB fo) lo ke sc mo iv hb W) (Lib.hid fun W h => ftWithin_c _ xs _ _ W h) w hv
  ·rw [if_neg hn]
   exact ftNum_size p xs.length cap fo lo ke sc mo _ iv (lo_of hk) hn HC w
 ·rw [if_neg hk]
  exact ftNum_plan _ fo lo ke sc mo iv (Lib.hid fun W => check_c fo lo ke sc mo iv 4 (by rw [if_neg hk]) W) w
section
variable {fo b p lo ke sc mo : Int} {L n B : Nat}
theorem ftAhead_c (H : PlF fo b p lo ke sc mo L n B) (v : Value) (xs : List Gi) (hm : ManB p xs) (hl : xs.length ≤ 1048576) (w : World) (hv : CxsAt w v xs) : Calls Tryz.prog (ahF sc) #[rcV fo sc, v] w fun e w' => e = .returned (.int .i64 (atFirst sc p xs)) ∧ Gr w w' := by
 obtain ⟨_, hsc, _⟩ := H.kinds
 have hp : p ≤ 2147483648 ∧ 0 ≤ p := by rcases H.sizes with h | h <;> omega
 rcases hsc with rfl | rfl | rfl
 ·exact ftAhead_0 v w
 ·have hg := maxG_le xs p hp.2 ((allIn_iff p xs).1 hm.all)
  have hr := room_le p (maxG xs)
  exact ftAhead_1 fo (maxG xs) (room p (maxG xs) : Nat) v (IntWalk.i64_in _ ⟨by omega, by omega⟩) w (Lib.hid fun W g => scanMax_yes v xs (allIn_more hm.all hp.1) hl W (hv.gr g)) (Lib.hid fun W => scanRoom_ok (maxG xs) fo b p H.fb (maxG_nonneg xs) hg W)
 ·exact ftAhead_2 fo v w
theorem ft_methods (hsc : sc = 0 ∨ sc = 1 ∨ sc = 2) (fo : Int) : (∀ n W, (method (n + 1) (scT sc) (rcV fo sc) "headroom/fft.ahead").run Tryz.prog W = .ok (ahF sc, rcV fo sc) W) ∧ (∀ n W, (method (n + 1) (scT sc) (rcV fo sc) "headroom/fft.shift").run Tryz.prog W = .ok (shF sc, rcV fo sc) W) ∧
 (∀ n W, (method (n + 1) (scT sc) (rcV fo sc) "headroom/fft.fitted").run Tryz.prog W = .ok (fiF sc, rcV fo sc) W) ∧ Enters (ahF sc) ∧ Enters (shF sc) ∧ Enters (fiF sc) := by
 rcases hsc with rfl | rfl | rfl <;> exact ⟨fun _ _ => by kernel_rfl, fun _ _ => by kernel_rfl, fun _ _ => by kernel_rfl, fun _ _ => by kernel_rfl, fun _ _ => by kernel_rfl, fun _ _ => by kernel_rfl⟩
theorem ftReady_c (H : PlF fo b p lo ke sc mo L n B) (iv : Bool) (v : Value) (xs : List Gi) (hwhy : whyB fo lo ke sc mo false xs = 0) (hl : xs.length = n) (hm : ManB p xs) (w : World) (hv : CxsAt w v xs) :
 Calls Tryz.prog 17 #[v, .agg #[.int .i64 fo, .int .i64 lo, .int .i64 ke, .int .i64 sc, .int .i64 mo, .bool iv]] w fun e w' =>
  ∃ u, e = .returned (.tuple #[.agg #[u, .int .i64 (readyB ke sc mo p L xs).ex, .bool false, .slice none 0 0], .int .i64 0]) ∧ CxsAt w' u (readyB ke sc mo p L xs).X ∧ Gr w w' := by
 obtain ⟨hmo, hsc, hks, _⟩ := H.kinds
 obtain ⟨⟨l2, l6⟩, h4, _⟩ := H.lens
 have hl2 : xs.length = 2 ^ L := by rw [hl, H.n]
 have hfl := flipL_len L xs
 obtain ⟨m1, _, _, n1, _, _⟩ := ft_methods hsc fo
 have hb := first_bd sc p xs
 have hN := fun W (h : CxsAt W v xs) => ftNum_c fo lo ke sc mo iv v xs W h
 rw [hwhy] at hN
 have HSH : ∀ ys : List Gi, ManB p ys → ys.length ≤ 1048576 → ∀ (u : Value) W, CxsAt W u ys → Calls Tryz.prog 45 #[u, .int .i64 (atFirst sc p xs), .int .i64 mo] W fun e w' => ∃ u, e = .returned (.tuple #[u, .int .i64 0]) ∧ CxsAt w' u (ys.map (shG (atFirst sc p xs) mo)) ∧ Gr W w' :=
  fun ys h1 h2 u W h3 => scanShifted_ok u ys _ mo (by omega) (by omega) (by omega) (by omega) (man_wf H h1) (first_room H h1) h2 W h3
 unfold readyB
 by_cases hke : ke = 2
 ·subst hke
  rw [if_pos rfl]
  exact ftReady_split v xs _ fo lo sc mo _ iv _ _ _ n1 m1 (Lib.hid hN) (Lib.hid fun W => ftScale_c fo lo 2 sc mo iv W) (Lib.hid fun W h => ftAhead_c H v xs hm (by omega) W h) (Lib.hid (HSH xs hm (by omega))) w hv
 ·rw [if_neg hke]
  have h64 := pow_le L l6
  exact ftReady_row v xs (flipL L xs) _ fo lo ke sc mo _ iv _ _ _ n1 m1 hke (by simp [hke]) (Lib.hid hN) (Lib.hid fun W => ftScale_c fo lo ke sc mo iv W) (Lib.hid fun W h => ftAhead_c H v xs hm (by omega) W h) (Lib.hid fun W h => flip08_ok v xs L l2 l6 hl2 W h) (Lib.hid (HSH (flipL L xs) (flip_man hl2 hm) (by omega))) w hv
end
theorem fftReady_said : FftSaid 17 readyF := by
 refine ⟨fun fo lo ke sc mo iv v xs h0 W hv => ?_, fun fo lo ke sc mo iv v xs y hy h0 W hv => ?_⟩
 ·obtain ⟨h1, h2, h3⟩ := why_yes h0
  exact (ftReady_c (plF_of h1) iv v xs h0 h2 (manB_iff.1 h3) W hv).mono fun e w' ⟨u, a, b, c⟩ => ⟨u, _, a, b, NumsAt.nil _, c⟩
 ·have hN := fun W (h : CxsAt W v xs) => ftNum_c fo lo ke sc mo iv v xs W h
  rw [hy] at hN
  exact ftReady_no v xs fo lo ke sc mo y iv h0 (by simp [h0]) (Lib.hid hN) W hv
end
end Go.Proofs.YtcgeabpibkejpaaGreat
