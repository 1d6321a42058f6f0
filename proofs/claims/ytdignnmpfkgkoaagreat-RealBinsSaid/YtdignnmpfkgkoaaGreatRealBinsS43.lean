import Derived.Test.YtdignnmpfkgkoaaGreatRealBinsS22
import Derived.Test.YtdignnmpfkgkoaaGreatRealBinsS42
namespace Go.Proofs.YtdignnmpfkgkoaaGreat
set_option maxHeartbeats 16000000
section
open Go.ChangeShapes Go.WideShapes Go.ChangeAt Go.RowKit
set_option linter.unusedVariables false
set_option linter.unusedSimpArgs false
set_option maxRecDepth 100000
set_option maxHeartbeats 16000000
def RlsAt (w : World) (v : Value) (rs : List (Int × Int × Int × Int)) : Prop :=
 ∃ B, v = .slice (some ⟨B, 0, none⟩) rs.length rs.length ∧ B < w.heap.size ∧ ∀ j r, rs[j]? = some r → w.cell? ⟨B, j * 4, none⟩ = some (.int .i64 r.1) ∧ w.cell? ⟨B, j * 4 + 1, none⟩ = some (.int .i64 r.2.1) ∧ w.cell? ⟨B, j * 4 + 2, none⟩ = some (.int .i64 r.2.2.1) ∧ w.cell? ⟨B, j * 4 + 3, none⟩ = some (.int .i64 r.2.2.2)
theorem RlsAt.gr {w w' : World} {v : Value} {rs : List (Int × Int × Int × Int)} (h : RlsAt w v rs) (g : Gr w w') : RlsAt w' v rs := by
 obtain ⟨B, hv, hB, hc⟩ := h
 refine ⟨B, hv, Nat.lt_of_lt_of_le hB g.size, fun j r hj => ?_⟩
 obtain ⟨h1, h2, h3, h4⟩ := hc j r hj
 exact ⟨(g.cell (p := ⟨B, _, none⟩) hB).trans h1, (g.cell (p := ⟨B, _, none⟩) hB).trans h2, (g.cell (p := ⟨B, _, none⟩) hB).trans h3, (g.cell (p := ⟨B, _, none⟩) hB).trans h4⟩
def HvAt (W : World) (x : Value) (n : Nat) (u v : Nat → Gi) : Prop := ∃ B o cap, x = .slice (some ⟨B, o, none⟩) n cap ∧ n ≤ cap ∧ cap ≤ maxLen ∧ B < W.heap.size ∧ ∀ j, j < n →
 W.cell? ⟨B, o + j * 4, none⟩ = some (.int .i64 (u j).re) ∧ W.cell? ⟨B, o + j * 4 + 1, none⟩ = some (.int .i64 (u j).im) ∧ W.cell? ⟨B, o + j * 4 + 2, none⟩ = some (.int .i64 (v j).re) ∧ W.cell? ⟨B, o + j * 4 + 3, none⟩ = some (.int .i64 (v j).im)
theorem HvAt.gr {W W' : World} {x : Value} {n : Nat} {u v : Nat → Gi} (h : HvAt W x n u v) (g : Gr W W') : HvAt W' x n u v := by
 obtain ⟨B, o, cap, hx, hl, hm, hb, hc⟩ := h
 refine ⟨B, o, cap, hx, hl, hm, Nat.lt_of_lt_of_le hb g.size, fun j hj => ?_⟩
 obtain ⟨h0, h1, h2, h3⟩ := hc j hj
 exact ⟨(g.cell (p := ⟨B, o + j * 4, none⟩) hb).trans h0, (g.cell (p := ⟨B, o + j * 4 + 1, none⟩) hb).trans h1, (g.cell (p := ⟨B, o + j * 4 + 2, none⟩) hb).trans h2, (g.cell (p := ⟨B, o + j * 4 + 3, none⟩) hb).trans h3⟩
def DftWhy (n : Nat) (xs : List Gi) (y : Int) : Prop := ((¬ ∃ L, IsLog (n : Int) L) ∧ y = 3) ∨ ((∃ L, IsLog (n : Int) L) ∧ allIn 2147483648 xs = false ∧ y = 2)
theorem DftWhy.ne {n : Nat} {xs : List Gi} {y : Int} (h : DftWhy n xs y) : ¬ y = 0 ∧ (y == 0) = false := by
 rcases h with ⟨_, rfl⟩ | ⟨_, _, rfl⟩ <;> decide
theorem shl_run (l U K : Int) (h0 : 0 ≤ U) (h1 : U ≤ 40) (hK : IntKind.i64.wrap (l * 2 ^ U.toNat) = K) (W : World) : (Op.shift .shl .i64 l .i64 U).run Tryz.prog W = .ok (.int .i64 K) W := by
 subst hK
 go_simp
theorem unt_as (B : Nat) (a b w : Gi) : gadd (gmul a (gadd ⟨2 ^ B, 0⟩ (Gi.turn (-1) w))) (gmul b (gsub ⟨2 ^ B, 0⟩ (Gi.turn (-1) w))) = gadd (gscale B (gadd a b)) (gmul (Gi.turn (-1) (gsub a b)) w) := by
 rw [turn_back, turn_back]
 unfold gadd gmul gsub gscale
 simp only [Gi.mk.injEq]
 generalize (2 : Int) ^ B = q
 constructor <;> grind
theorem mul_two (a x : Gi) (ha : Bd 2147483648 a) (h1 : (-1073741824 ≤ x.re ∧ x.re ≤ 1073741824) ∧ (-536870912 ≤ x.im ∧ x.im ≤ 536870912)) :
 (-3458764513820540928 ≤ (gmul a x).re ∧ (gmul a x).re ≤ 3458764513820540928) ∧ (-3458764513820540928 ≤ (gmul a x).im ∧ (gmul a x).im ≤ 3458764513820540928) := by
 have a' := ha.le
 have m1 := mulG_bd a.re x.re 2147483648 1073741824 (by omega) a'.1 h1.1
 have m2 := mulG_bd a.im x.im 2147483648 536870912 (by omega) a'.2 h1.2
 have m3 := mulG_bd a.re x.im 2147483648 536870912 (by omega) a'.1 h1.2
 have m4 := mulG_bd a.im x.re 2147483648 1073741824 (by omega) a'.2 h1.1
 unfold gmul
 simp only
 omega
theorem rlBits_c {fo b p lo ke sc mo : Int} {L m B : Nat} (H : PlF fo b p lo ke sc mo L m B) (iv : Bool) (w : World) : Calls Tryz.prog 97 #[.agg #[fo, lo, ke, sc, mo, iv]] w fun e w' => e = .returned (.int .i64 b) ∧ Gr w w' :=
 rlBits_of fo lo ke sc mo iv b (kh fun W => calls_gr (bits_c fo b p H.fb W)) w
theorem rlBin_c {fo b p lo ke sc mo : Int} {L m B : Nat} (H : PlF fo b p lo ke sc mo L m B) (h5 : L ≤ 5) (iv : Bool) (a c : Gi) (ha : Bd 2147483648 a) (hc : Bd 2147483648 c) (k : Nat) (hk : k ≤ m) (w : World) :
 CW 73 #[.agg #[a.re, a.im], .agg #[c.re, c.im], (k : Int), .agg #[fo, lo, ke, sc, mo, iv]] w (.agg #[(untG B mo a c.conj ((tw (2 * m) B).getD k ⟨0, 0⟩)).re, (untG B mo a c.conj ((tw (2 * m) B).getD k ⟨0, 0⟩)).im]) :=by
 delta CW
 obtain ⟨⟨l2, l6⟩, ⟨h4, h64⟩, _⟩ := H.lens
 obtain ⟨hmo, _⟩ := H.kinds
 have hs := H.sizes
 have hlo := H.lo
 have hbi := H.bits
 have hB : B ≤ 29 := by omega
 have H2 := H.twice h5
 have htl := tw_len (2 * m) B
 have hp2 : (2 : Int) ^ B ≤ 536870912 := pow29i hB
 have hp0 : (0 : Int) < 2 ^ B := Int.pow_pos (by decide)
 have br : Bd 536870912 ((tw (2 * m) B).getD k ⟨0, 0⟩) := allIn_bd.1 (allIn_more (tw_in H2) hp2) _ (getD_mem _ _ (by omega))
 have hroot : (tw (2 * m) B).getD k ⟨0, 0⟩ = rootG ((2 * m : Nat) : Int) (k : Int) (56 - B) := by
  rw [tw_eq]
  exact getD_map_range (by omega)
 have hR := fun W => rRoot_ok (lo + 1) (k : Int) ((2 * m : Nat) : Int) (B : Int) (by omega) (by omega) (by have := H2.n; rw [this, show (lo + 1).toNat = L + 1 by omega]; simp) (by omega) (by omega) W
 rw [show (56 - (B : Int)).toNat = 56 - B by omega, ← hroot] at hR
 generalize (tw (2 * m) B).getD k ⟨0, 0⟩ = r at *
 have bt := br.turn (-1)
 have bt' := bt.le
 have one : Bd 2305843009213693952 ⟨2 ^ B, 0⟩ := Bd.mk ⟨by simp only; omega, by simp only; omega⟩
 have x1 : (-1073741824 ≤ (gadd ⟨2 ^ B, 0⟩ (Gi.turn (-1) r)).re ∧ (gadd ⟨2 ^ B, 0⟩ (Gi.turn (-1) r)).re ≤ 1073741824) ∧ (-536870912 ≤ (gadd ⟨2 ^ B, 0⟩ (Gi.turn (-1) r)).im ∧ (gadd ⟨2 ^ B, 0⟩ (Gi.turn (-1) r)).im ≤ 536870912) := by
  unfold gadd; simp only; omega
 have x2 : (-1073741824 ≤ (gsub ⟨2 ^ B, 0⟩ (Gi.turn (-1) r)).re ∧ (gsub ⟨2 ^ B, 0⟩ (Gi.turn (-1) r)).re ≤ 1073741824) ∧ (-536870912 ≤ (gsub ⟨2 ^ B, 0⟩ (Gi.turn (-1) r)).im ∧ (gsub ⟨2 ^ B, 0⟩ (Gi.turn (-1) r)).im ≤ 536870912) := by
  unfold gsub; simp only; omega
 have b1 : Bd 1073741824 (gadd ⟨2 ^ B, 0⟩ (Gi.turn (-1) r)) := Bd.mk (by omega)
 have b2 : Bd 1073741824 (gsub ⟨2 ^ B, 0⟩ (Gi.turn (-1) r)) := Bd.mk (by omega)
 have y1 := mul_two a _ ha x1
 have y2 := mul_two c.conj _ hc.conj x2
 have hz : untG B mo a c.conj r = grnd (B + 2) mo (gadd (gmul a (gadd ⟨2 ^ B, 0⟩ (Gi.turn (-1) r))) (gmul c.conj (gsub ⟨2 ^ B, 0⟩ (Gi.turn (-1) r)))) := by unfold untG; rw [unt_as]
 have hS := cxsum_gi ⟨2 ^ B, 0⟩ (Gi.turn (-1) r) one (bt.mono (by decide))
 have hL := cxless_gi ⟨2 ^ B, 0⟩ (Gi.turn (-1) r) one (bt.mono (by decide))
 have h1 := cxtimes_gi a _ ha b1
 have h2 := cxtimes_gi c.conj _ hc.conj b2
 rw [hz]
 generalize gmul a (gadd ⟨2 ^ B, 0⟩ (Gi.turn (-1) r)) = oa at *
 generalize gmul c.conj (gsub ⟨2 ^ B, 0⟩ (Gi.turn (-1) r)) = ob at *
 have hZ := cxshift_gi (gadd oa ob) (B + 2) mo ⟨by unfold gadd; simp only; omega, by unfold gadd; simp only; omega⟩ (by omega) (by omega) (by omega)
 refine rlBin_of a c r (Gi.turn (-1) r) c.conj _ _ oa ob _ fo lo ke sc mo iv (k : Int) b (B : Int) (2 ^ B) (lo + 1) (oa.re + ob.re) (oa.im + ob.im) ((B + 2 : Nat) : Int) (kh fun W => rlBits_c H iv W)
  (kh ⟨?_, ?_, fun W => shl_run 1 (B : Int) _ (by omega) (by omega) ?_ W, IntWalk.wrap64_in _ ⟨by omega, by omega⟩, IntWalk.i64_in _ ⟨by omega, by omega⟩⟩)
  (kh ⟨IntWalk.wrap64_in _ ⟨by omega, by omega⟩, IntWalk.wrap64_in _ ⟨by omega, by omega⟩, ?_, IntWalk.i64_in _ ⟨by omega, by omega⟩, IntWalk.i64_in _ ⟨by omega, by omega⟩, ?_⟩)
  (kh hR) (kh fun W => cxturn_gi r (-1) (by have := br.le; omega) W) (kh fun W => cxconj_gi c hc.wide W) (kh hS) (kh hL) (kh h1) (kh h2) (kh hZ) w
 ·rw [hbi, show ((B : Int) + 2 - 2) = B by omega]; exact IntWalk.wrap64_in _ ⟨by omega, by omega⟩
 ·rw [hbi, show ((B : Int) + 2 - 2) = B by omega]; exact IntWalk.i64_in _ ⟨by omega, by omega⟩
 ·rw [Int.toNat_natCast, Int.one_mul]; exact IntWalk.i64_in _ ⟨by omega, by omega⟩
 ·rw [show ((B : Int) + 2) = ((B + 2 : Nat) : Int) by omega]; exact IntWalk.wrap64_in _ ⟨by omega, by omega⟩
 ·rw [show ((B : Int) + 2) = ((B + 2 : Nat) : Int) by omega]; exact IntWalk.i64_in _ ⟨by omega, by omega⟩
theorem rlUnt_c {fo b p lo ke sc mo : Int} {L m B : Nat} (H : PlF fo b p lo ke sc mo L m B) (h5 : L ≤ 5) (iv : Bool) (k : BV) (px sp : Option Addr) (cx q cl : Nat) (hl : k.X.length = m) (hX : allIn p k.X = true) (hsh : k.sh.length ≤ 20) (e0 : -1000 ≤ k.ex) (e1 : k.ex ≤ 1000) (w : World) (hv : CxsAt w (.slice px m cx) k.X) (hn : NumsAt w (.slice sp q cl) k.sh) :
 Calls Tryz.prog 33 #[.agg #[.slice px m cx, k.ex, k.sat, .slice sp q cl], .agg #[fo, lo, ke, sc, mo, iv]] w fun e w' => ∃ vx vs, e = .returned (.agg #[vx, (untB sc mo p B (tw (2 * m) B) k).ex, (untB sc mo p B (tw (2 * m) B) k).sat, vs]) ∧ CxsAt w' vx (untB sc mo p B (tw (2 * m) B) k).X ∧ NumsAt w' vs k.sh ∧ Gr w w' ∧ ∀ b, vs.ownBlock = some b → w.heap.size ≤ b := by
 obtain ⟨⟨l2, l6⟩, ⟨h4, h64⟩, _⟩ := H.lens
 have hs := H.sizes
 have hp : p ≤ 2147483648 := by omega
 have hul : (untL B mo k.X (tw (2 * m) B)).length = m + 1 := by rw [untL_len, hl]
 have bX := fun a (h : a ∈ k.X) => allIn_bd.1 (allIn_more hX hp) a h
 have hat : ∀ j z, (untL B mo k.X (tw (2 * m) B))[j]? = some z → untAt B mo k.X (tw (2 * m) B) j = z := fun j z h => by
  unfold untL at h;rw [List.getElem?_map] at h;obtain ⟨j', hj', rfl⟩ := Option.map_eq_some_iff.1 h;obtain ⟨hjl, rfl⟩ := List.getElem?_eq_some_iff.1 hj'
  simp
 have HU := kh fun (j : Nat) (x y : Gi) (hj : j ≤ m) (hx : k.X[j % m]? = some x) (hy : k.X[(m - j) % m]? = some y) (W : World) => rlBin_c H h5 iv x y (bX _ (List.mem_of_getElem? hx)) (bX _ (List.mem_of_getElem? hy)) j hj W
 have HU' : Hid (∀ (j : Nat) (x y : Gi), j ≤ m → k.X[j % m]? = some x → k.X[(m - j) % m]? = some y → ∀ W, Calls Tryz.prog 73 #[.agg #[x.re, x.im], .agg #[y.re, y.im], .int .i64 (j : Int), .agg #[fo, lo, ke, sc, mo, iv]] W fun e w' => e = .returned (.agg #[.int .i64 (untAt B mo k.X (tw (2 * m) B) j).re, .int .i64 (untAt B mo k.X (tw (2 * m) B) j).im]) ∧ Gr W w') := kh fun j x y hj hx hy W => by
  have := HU.out j x y hj hx hy W
  unfold untAt;rw [hl, List.getD_eq_getElem?_getD (l := k.X), List.getD_eq_getElem?_getD (l := k.X), hx, hy]
  exact this
 have hex : wrap64 (k.ex + 1) = k.ex + 1 ∧ IntKind.i64.wrap (k.ex + 1) = k.ex + 1 := ⟨IntWalk.wrap64_in _ ⟨by omega, by omega⟩, IntWalk.i64_in _ ⟨by omega, by omega⟩⟩
 unfold untB
 by_cases h2 : sc = 2
 ·subst h2
  simp only [if_true]
  have hany : ∀ n, n ≤ m + 1 → ((untL B mo k.X (tw (2 * m) B)).take n).any (offG p) = ((List.range n).any fun j => offG p (untAt B mo k.X (tw (2 * m) B) j)) := fun n hn => by
   unfold untL;rw [← List.map_take, List.take_range, List.any_map, hl, Nat.min_eq_left hn]
   rfl
  have h := rlUnt_of px sp m cx q cl (by omega) h64 k.X ((untL B mo k.X (tw (2 * m) B)).map (clampG p)) hl (by simp [hul]) fo lo ke 2 mo iv k.ex (k.ex + 1) k.sat k.sh hsh hex (untAt B mo k.X (tw (2 * m) B)) (fun j => offG p (untAt B mo k.X (tw (2 * m) B) j))
   (fun n => k.sat || (List.range n).any fun j => offG p (untAt B mo k.X (tw (2 * m) B) j)) (by simp) (kh fun j hj => by simp only [List.range_succ, List.any_append, List.any_cons, List.any_nil, Bool.or_false, Bool.or_assoc]) HU'
   (kh fun j z hz W => ?_) w hv hn
  ·have e := hany (m + 1) (Nat.le_refl _)
   rw [List.take_of_length_le (by omega)] at e;rw [← e] at h
   exact h
  ·rw [List.getElem?_map] at hz
   obtain ⟨z', hz', rfl⟩ := Option.map_eq_some_iff.1 hz;rw [hat j z' hz']
   exact rlFitted_yes z' fo lo ke mo (clampI p z'.re) (clampI p z'.im) iv _ _ (kh fun W => clamp_c fo b p z'.re H.fb W) (kh fun W => clamp_c fo b p z'.im H.fb W) W
 ·simp only [if_neg h2]
  exact rlUnt_of px sp m cx q cl (by omega) h64 k.X (untL B mo k.X (tw (2 * m) B)) hl hul fo lo ke sc mo iv k.ex (k.ex + 1) k.sat k.sh hsh hex (untAt B mo k.X (tw (2 * m) B)) (fun _ => false) (fun _ => k.sat) rfl (kh fun j hj => Bool.or_false _) HU'
   (kh fun j z hz W => by rw [hat j z hz]; exact rlFitted_no z fo lo ke sc mo iv h2 W) w hv hn
theorem enters_b1 : Enters 29 := enters_of Tryz.func29 (by kernel_rfl) (by kernel_rfl)
theorem enters_b2 : Enters 31 := enters_of Tryz.func31 (by kernel_rfl) (by kernel_rfl)
theorem okR_iff {fo lo ke sc mo : Int} {iv : Bool} : okR fo lo ke sc mo iv = true ↔ okF fo lo ke sc mo = true ∧ lo ≤ 5 ∧ iv = false := by
 unfold okR
 simp only [Bool.and_eq_true, decide_eq_true_eq, Bool.not_eq_true', and_assoc]
theorem rlPlan_c (fo lo ke sc mo : Int) (iv : Bool) (w : World) : CW 30 #[.agg #[fo, lo, ke, sc, mo, iv]] w (.int .i64 (if okR fo lo ke sc mo iv = true then 0 else 4)) :=by
 delta CW
 by_cases hk : okF fo lo ke sc mo = true
 ·have HC := kh fun W => check_c fo lo ke sc mo iv 0 (by rw [if_pos hk]) W
  by_cases h5 : (5 : Int) < lo
  ·rw [if_neg (by rw [okR_iff]; omega)]
   exact rlPlan_long fo lo ke sc mo iv h5 HC w
  ·have h := rlPlan_ok fo lo ke sc mo iv h5 HC w
   have e : (if okR fo lo ke sc mo iv = true then (0 : Int) else 4) = if iv = true then 4 else 0 := by
    cases iv
    ·rw [if_pos (okR_iff.2 ⟨hk, by omega, rfl⟩), if_neg (by decide)]
    ·rw [if_neg (by rw [okR_iff]; simp), if_pos rfl]
   rw [e]
   exact h
 ·rw [if_neg (by rw [okR_iff]; exact fun h => hk h.1)]
  exact rlPlan_bad fo lo ke sc mo iv (kh fun W => check_c fo lo ke sc mo iv 4 (by rw [if_neg hk]) W) w
def whyR (fo lo ke sc mo : Int) (iv : Bool) (rs : List Int) : Int :=
 if okR fo lo ke sc mo iv = true then (if (rs.length : Int) = 2 * 2 ^ lo.toNat then (if partsB (-(oneB fo)) (oneB fo - 1) (packG rs) = true then 0 else 2) else 3) else 4
def bitB (fo : Int) : Nat := if fo = 0 then 13 else 29
def untV (fo lo sc mo : Int) (k : BV) : BV := untB sc mo (oneB fo) (bitB fo) (tw (2 * 2 ^ lo.toNat) (bitB fo)) k
def binV (fo lo ke sc mo : Int) (rs : List Int) : BV := untV fo lo sc mo (runF fo lo ke sc mo false (packG rs))
theorem sh_lo {lo : Int} (c : Int) (h2 : 2 ≤ lo) (h5 : lo ≤ 5) (hc : c = 1 ∨ c = 2) (W : World) : (Op.shift .shl .i64 c .i64 lo).run Tryz.prog W = .ok (.int .i64 (c * 2 ^ lo.toNat)) W := by
 have h : lo = 2 ∨ lo = 3 ∨ lo = 4 ∨ lo = 5 := by omega
 rcases h with rfl | rfl | rfl | rfl <;> rcases hc with rfl | rfl <;> exact shl_run _ _ _ (by decide) (by decide) (by decide) W
theorem askB_c (fo lo ke sc mo : Int) (iv : Bool) (px : Option Addr) (m cx : Nat) (A B Q : Nat) (W : World) (hq : CellsAt W Q 96 #[.func (.func 29) #[] #[.pointer (some ⟨B, 0, none⟩)], .func (.func 31) #[] #[.pointer (some ⟨A, 0, none⟩), .pointer (some ⟨B, 0, none⟩)]]) (ha : CellsAt W A 22 #[.slice px m cx]) (hb : CellsAt W B 24 #[fo, lo, ke, sc, mo, iv]) :
 Calls Tryz.prog 28 #[.slice (some ⟨Q, 0, none⟩) 2 2] W fun e w' => e = .returned (.int .i64 (if okR fo lo ke sc mo iv = true then (if (m : Int) = 2 * 2 ^ lo.toNat then 0 else 3) else 4)) ∧ Gr W w' := by
 have H := fun k y hk hy hQ => rlFirst_c Q 2 k (fun j => match j with | 0 => 29 | _ => 31) (fun j => match j with | 0 => #[.pointer (some ⟨B, 0, none⟩)] | _ => #[.pointer (some ⟨A, 0, none⟩), .pointer (some ⟨B, 0, none⟩)]) y (by decide) hk hy
  (fun j hj => match j, hj with | 0, _ => enters_b1 | 1, _ => enters_b2) W hq.lt (fun j hj => match j, hj with | 0, _ => hq.cell 0 | 1, _ => hq.cell 1) hQ
 have A1 := fun W' (g : Gr W W') => rlAsk_planb B fo lo ke sc mo iv _ (kh fun V => rlPlan_c fo lo ke sc mo iv V) W' (hb.gr g)
 by_cases hk : okR fo lo ke sc mo iv = true
 ·rw [if_pos hk] at A1 ⊢
  obtain ⟨h1, h5, hiv⟩ := okR_iff.1 hk;have hf := okF_iff.1 h1;have A2 := fun W' (g : Gr W W') => rlAsk_sizeb A B fo lo ke sc mo iv px m cx _ _ (kh fun V => sh_lo 2 hf.1.2.1.1 h5 (.inr rfl) V) (kh fun V => rlSize_c (m : Int) (2 * 2 ^ lo.toNat) V) W' (ha.gr g) (hb.gr g)
  by_cases hl : (m : Int) = 2 * 2 ^ lo.toNat
  ·rw [if_pos hl] at A2 ⊢
   exact H 2 0 (by decide) (by decide) (kh fun j hj hjk W' g => match j, hj with | 0, _ => A1 W' g | 1, _ => A2 W' g)
  ·rw [if_neg hl] at A2 ⊢
   exact H 1 3 (by decide) (by decide) (kh fun j hj hjk W' g => match j, hj with | 0, _ => A1 W' g | 1, _ => A2 W' g)
 ·rw [if_neg hk] at A1 ⊢
  exact H 0 4 (by decide) (by decide) (kh fun j hj hjk W' g => match j, hj with | 0, _ => A1 W' g | 1, _ => absurd hjk (by decide))
theorem whyR_yes {fo lo ke sc mo : Int} {iv : Bool} {rs : List Int} (h : whyR fo lo ke sc mo iv rs = 0) : (okF fo lo ke sc mo = true ∧ lo ≤ 5 ∧ iv = false) ∧ rs.length = 2 * 2 ^ lo.toNat ∧ whyB fo lo ke sc mo false (packG rs) = 0 := by
 unfold whyR at h
 split at h
 ·rename_i h1
  split at h
  ·rename_i h2
   split at h
   ·rename_i h3
    have e : ((2 ^ lo.toNat : Nat) : Int) = 2 ^ lo.toNat := by simp
    have hl : rs.length = 2 * 2 ^ lo.toNat := by omega
    obtain ⟨k1, k2, k3⟩ := okR_iff.1 h1;refine ⟨⟨k1, k2, k3⟩, hl, ?_⟩;unfold whyB;rw [if_pos k1, if_pos (by rw [packG_len]; omega)];simp only [Bool.false_eq_true, if_false];rw [if_pos h3]
   ·cases h
  ·cases h
 ·cases h
theorem realPack_no (px : Option Addr) (n cap : Nat) (hn : n ≤ 1000) (h : n % 2 = 0 → ¬ ∃ L, IsLog ((n / 2 : Nat) : Int) L) (w : World) : CW 8 #[.slice px n cap] w (.tuple #[.slice none 0 0, .int .i64 3]) :=by
 delta CW
 by_cases hL : ∃ L, IsLog ((n / 2 : Nat) : Int) L
 ·obtain ⟨L, hL⟩ := hL
  have h2 : ¬ n % 2 = 0 := fun e => h e ⟨L, hL⟩
  exact rlPack_odd px n cap (n / 2) (by omega) (by omega) (L : Int) (by omega) (kh fun W => calls_gr (log08_yes _ L hL W)) w
 ·exact rlPack_log px n cap (n / 2) (by omega) (by omega) (kh fun W => calls_gr (log08_none _ hL W)) w
theorem realPack_yes (px : Option Addr) (n cap : Nat) (hn : n ≤ 1000) (h2 : n % 2 = 0) (L : Nat) (hL : IsLog ((n / 2 : Nat) : Int) L) (rs : List Int) (hrn : rs.length = n) (w : World) (hv : NumsAt w (.slice px n cap) rs) :
 Calls Tryz.prog 8 #[.slice px n cap] w fun e w' => ∃ u, e = .returned (.tuple #[u, .int .i64 0]) ∧ CxsAt w' u (packG rs) ∧ Gr w w' := by
 have hl := isLog_cases hL
 refine rlPack_yes px n cap (n / 2) (by omega) (by omega) (L : Int) (by omega) (by omega) rs (packG rs) hrn (by rw [packG_len, hrn]) (kh fun j z hz => ?_) (kh fun W => calls_gr (log08_yes _ L hL W)) w hv
 have hj := (List.getElem?_eq_some_iff.1 hz).1
 rw [packG_len] at hj
 have e := packG_at rs j hj
 rw [List.getD_eq_getElem?_getD, hz] at e
 simp only [Option.getD_some] at e
 subst e
 simp only
 have a1 : 2 * j < rs.length := by omega
 have a2 : 2 * j + 1 < rs.length := by omega
 refine ⟨?_, ?_⟩
 ·rw [List.getD_eq_getElem?_getD, List.getElem?_eq_getElem a1]; rfl
 ·rw [List.getD_eq_getElem?_getD, List.getElem?_eq_getElem a2]; rfl
theorem runF_facts {fo lo ke sc mo : Int} {iv : Bool} {xs : List Gi} (h0 : whyB fo lo ke sc mo false xs = 0) :
 (runF fo lo ke sc mo iv xs).X.length = 2 ^ lo.toNat ∧ ManB (oneB fo) (runF fo lo ke sc mo iv xs).X ∧ (-100 ≤ (runF fo lo ke sc mo iv xs).ex ∧ (runF fo lo ke sc mo iv xs).ex ≤ 100) ∧ (runF fo lo ke sc mo iv xs).sh.length ≤ 20 ∧ fitsB sc (passL ke lo) (runF fo lo ke sc mo iv xs).sh = true := by
 obtain ⟨h1, h2, h3⟩ := why_yes h0
 have H := plF_of h1
 have hm := manB_iff.1 h3
 have hp := run_pow H iv xs
 have hf : fitsB sc (passL ke lo) (runF fo lo ke sc mo iv xs).sh = true := run_fits H iv xs
 have hr := run_man H iv h2 hm
 have hlen : (runF fo lo ke sc mo iv xs).X.length = 2 ^ lo.toNat := by
  unfold runF runB15
  split
  ·exact sL_len _ _ _ _ _ _
  ·exact (behind_man H iv h2 hm _ (Nat.le_refl _)).1
 have hrm := room_le (oneB fo) (maxG xs)
 have hp2 : 0 ≤ (runF fo lo ke sc mo iv xs).ex + (if sc = 1 then (room (oneB fo) (maxG xs) : Int) else 0) ∧ (runF fo lo ke sc mo iv xs).ex + (if sc = 1 then (room (oneB fo) (maxG xs) : Int) else 0) ≤ 20 := hp
 refine ⟨hlen, hr, ?_, ?_, hf⟩
 ·split at hp2 <;> omega
 ·have := fitsB_len sc _ _ hf
  have h7 : (passL ke lo).length ≤ 7 := by
   by_cases hke : ke = 2
   ·subst hke
    have hk := (okF_iff.1 h1).1.2.1
    have hl : lo = 2 ∨ lo = 3 ∨ lo = 4 ∨ lo = 5 ∨ lo = 6 := by omega
    rcases hl with rfl | rfl | rfl | rfl | rfl <;> decide +kernel
   ·have := (passL_len7 H).1; omega
  omega
theorem realBins_no (fo lo ke sc mo : Int) (iv : Bool) (px : Option Addr) (m cx : Nat) (rs : List Int) (hrm : rs.length = m) (hm : m ≤ 1000) (y : Int) (hy : whyR fo lo ke sc mo iv rs = y) (h0 : ¬ y = 0) (w : World) (hv : NumsAt w (.slice px m cx) rs) :
 CW 7 #[.slice px m cx, .agg #[fo, lo, ke, sc, mo, iv]] w (.tuple #[.agg #[.slice none 0 0, .int .i64 0, false, .slice none 0 0], y]) :=by
 delta CW
 have HA := fun A B Q W hq ha hb => askB_c fo lo ke sc mo iv px m cx A B Q W hq ha hb
 unfold whyR at hy
 by_cases hk : okR fo lo ke sc mo iv = true
 ·obtain ⟨h1, h5, hiv⟩ := okR_iff.1 hk
  have hf := okF_iff.1 h1;simp only [if_pos hk] at HA;rw [if_pos hk] at hy
  by_cases hl : (m : Int) = 2 * 2 ^ lo.toNat
  ·simp only [if_pos hl] at HA
   rw [hrm, if_pos hl] at hy
   by_cases hp : partsB (-(oneB fo)) (oneB fo - 1) (packG rs) = true
   ·rw [if_pos hp] at hy
    exact absurd hy.symm h0
   ·rw [if_neg hp] at hy
    subst hy
    have e : ((2 ^ lo.toNat : Nat) : Int) = 2 ^ lo.toNat := by simp
    have hl2 : m / 2 = 2 ^ lo.toNat := by omega
    have hw : whyB fo lo ke sc mo false (packG rs) = 2 := by
     unfold whyB;rw [if_pos h1, if_pos (by rw [packG_len, hrm, hl2, e])];simp only [Bool.false_eq_true, if_false];rw [if_neg hp]
    have hL : IsLog ((m / 2 : Nat) : Int) lo.toNat := ⟨by omega, by omega, by rw [hl2]⟩
    exact rlBins_run px m cx rs fo lo ke sc mo iv (packG rs) 2 (by decide) (by decide) (kh HA) (kh fun W h => realPack_yes px m cx hm (by omega) _ hL rs hrm W h) (kh fun u W h => fftRun_said.2 fo lo ke sc mo iv u (packG rs) 2 hw (by decide) W h) w hv
  ·simp only [if_neg hl] at HA
   rw [hrm, if_neg hl] at hy;subst hy
   exact rlBins_ask px m cx rs fo lo ke sc mo iv 3 (by decide) (by decide) (kh HA) w
 ·simp only [if_neg hk] at HA
  rw [if_neg hk] at hy;subst hy
  exact rlBins_ask px m cx rs fo lo ke sc mo iv 4 (by decide) (by decide) (kh HA) w
theorem realBins_yes (fo lo ke sc mo : Int) (iv : Bool) (px : Option Addr) (m cx : Nat) (rs : List Int) (hrm : rs.length = m) (h0 : whyR fo lo ke sc mo iv rs = 0) (w : World) (hv : NumsAt w (.slice px m cx) rs) :
 Calls Tryz.prog 7 #[.slice px m cx, .agg #[fo, lo, ke, sc, mo, iv]] w fun e w' => ∃ vx vs, e = .returned (.tuple #[.agg #[vx, (binV fo lo ke sc mo rs).ex, (binV fo lo ke sc mo rs).sat, vs], .int .i64 0]) ∧ CxsAt w' vx (binV fo lo ke sc mo rs).X ∧ NumsAt w' vs (runF fo lo ke sc mo false (packG rs)).sh ∧ Gr w w' := by
 obtain ⟨⟨h1, h5, hiv⟩, hl, hw⟩ := whyR_yes h0
 have hk : okR fo lo ke sc mo iv = true := okR_iff.2 ⟨h1, h5, hiv⟩
 have hf := okF_iff.1 h1
 have H := plF_of h1
 have e : ((2 ^ lo.toNat : Nat) : Int) = 2 ^ lo.toNat := by simp
 have hlen := H.lens.2.1
 have HA := fun A B Q W hq ha hb => askB_c fo lo ke sc mo iv px m cx A B Q W hq ha hb
 simp only [if_pos hk] at HA
 simp only [if_pos (show (m : Int) = 2 * 2 ^ lo.toNat by omega)] at HA
 have hl2 : m / 2 = 2 ^ lo.toNat := by omega
 have hL : IsLog ((m / 2 : Nat) : Int) lo.toNat := ⟨by omega, by omega, by rw [hl2]⟩
 subst hiv
 obtain ⟨r1, r2, ⟨r3, r4⟩, r5, r6⟩ := runF_facts (iv := false) hw
 exact rlBins_yes px m cx rs fo lo ke sc mo false (packG rs) _ _ _ _ _ _ _ _ (kh HA) (kh fun W h => realPack_yes px m cx (by omega) (by omega) _ hL rs hrm W h) (kh fun u W h => fftRun_said.1 fo lo ke sc mo false u (packG rs) hw W h)
  (kh fun px' cx' sp' cl' W hx hs => by
   rw [r1] at hx ⊢
   exact rlUnt_c H (by omega) false (runF fo lo ke sc mo false (packG rs)) px' sp' cx' _ cl' r1 r2.all r5 (by omega) (by omega) W hx hs) w hv
end
end Go.Proofs.YtdignnmpfkgkoaaGreat
