import Derived.Test.YtdignnmpfkgkoaaGreatRealBinsS14
namespace Go.Proofs.YtdignnmpfkgkoaaGreat
section
open Go.ChangeShapes Go.WideShapes Go.ChangeAt Go.RowKit
set_option linter.unusedVariables false
set_option maxRecDepth 100000
set_option maxHeartbeats 16000000
theorem fDown_c (b s mo n : Int) (inv : Bool) (hn : IntKind.i64.wrap (b + s) = n) (w : World) :
 CW 217 #[.agg #[b, s, mo, inv]] w (.int .i64 n) :=by
 delta CW
 go_in
 go_wp2_with fail
 go_ret
 exact ⟨by rw [← hn]; rfl, (Gr.refl w).alloc _ _⟩
theorem fMayBe_last (b s mo x e : Int) (inv : Bool) (hb : 0 ≤ b ∧ b ≤ 29) (hs : 0 ≤ s ∧ s ≤ 3) (z : Bool) (hz : (e == 0) = z)
 (HS : Hid (∀ W, Calls Tryz.prog 70 #[.int .i64 0, .int .i64 (b + s), mo] W fun e' w' => e' = .returned (.tuple #[x, e]) ∧ Gr W w')) (w : World) :
 CW 206 #[.agg #[b, s, mo, inv]] w (.bool z) :=by
 delta CW
 have HD := kh (fDown_c b s mo (b + s) inv (IntWalk.i64_in _ ⟨by omega, by omega⟩))
 go_in
 go_wp2_with fail
 obtain ⟨u, hU⟩ : ∃ u, u = w.alloc (.cells #[b, s, mo, inv] 212) := ⟨_, rfl⟩
 have gu : Gr w u := by rw [hU]; exact (Gr.refl w).alloc _ _
 have zu : w.heap.size < u.heap.size := by rw [hU]; simp
 have d0 : u.cell? ⟨w.heap.size, 0, none⟩ = some (.int .i64 b) := by rw [hU]; go_simp
 have d1 : u.cell? ⟨w.heap.size, 1, none⟩ = some (.int .i64 s) := by rw [hU]; go_simp
 have d2 : u.cell? ⟨w.heap.size, 2, none⟩ = some (.int .i64 mo) := by rw [hU]; go_simp
 have d3 : u.cell? ⟨w.heap.size, 3, none⟩ = some (.bool inv) := by rw [hU]; go_simp
 rw [← hU]
 clear hU
 go_region_held3 (fun W => W.cell? ⟨w.heap.size, 0, none⟩ = some (.int .i64 b) ∧ W.cell? ⟨w.heap.size, 1, none⟩ = some (.int .i64 s) ∧ W.cell? ⟨w.heap.size, 2, none⟩ = some (.int .i64 mo) ∧ W.cell? ⟨w.heap.size, 3, none⟩ = some (.bool inv) ∧ Gr u W) (first | (go_split_ands; refine ⟨?_, ?_, ?_, ?_, ?_⟩; (all_goals (first | assumption | exact Gr.refl _ | exact Gr.drew (Gr.refl _) | exact Gr.drew (by assumption) | (go_keep; done) | ((refine (Gr.cell (by assumption) ?_).trans ?_ <;> (first | assumption)); done)))))
  (first | (go_at_call 217; go_split_ands; ((with_reducible refine (HD.out _).mono ?_); rintro e w' ⟨rfl, hg⟩; have hgw : Gr u w' := Gr.trans (by first | assumption | exact Gr.drew (Gr.refl _) | exact Gr.drew (by assumption) | exact Gr.refl _) hg)) | (go_at_call 70; go_split_ands; ((with_reducible refine (HS.out _).mono ?_); rintro e w' ⟨rfl, hg⟩; have hgw : Gr u w' := Gr.trans (by first | assumption | exact Gr.drew (Gr.refl _) | exact Gr.drew (by assumption) | exact Gr.refl _) hg)))
 go_wp2_with fail
 go_ret
 exact ⟨rfl, gu.trans (by (try go_split_ands); assumption)⟩
theorem fMayBe_yes (b s mo : Int) (inv : Bool) (h : SetsOk2 b s mo) (w : World) :
 CW 206 #[.agg #[b, s, mo, inv]] w (.bool true) :=by
 delta CW
 obtain ⟨h1, h2, h3, h4⟩ := h
 exact fMayBe_last b s mo _ 0 inv h1 h2 true rfl (kh (shift_ok 0 (b + s) mo (by omega) (by omega) (by omega) h3 h4)) w
theorem fMayBe_no (b s mo : Int) (inv : Bool) (h : ¬ SetsOk2 b s mo) (w : World) :
 CW 206 #[.agg #[b, s, mo, inv]] w (.bool false) :=by
 delta CW
 unfold SetsOk2 at h
 by_cases hb : 0 ≤ b ∧ b ≤ 29
 ·by_cases hs : 0 ≤ s ∧ s ≤ 3
  ·exact fMayBe_last b s mo 0 1 inv hb hs false rfl (kh (shift_bad 0 (b + s) mo (.inl (by omega)))) w
  ·have hc : s < 0 ∨ (0 ≤ s ∧ 3 < s) := by omega
   obtain ⟨b0, b1⟩ := hb;clear h hs
   rcases hc with h1 | ⟨h1, h2⟩
   all_goals
    go_in;go_wp2_with fail
    go_ret
    exact ⟨rfl, (Gr.refl w).alloc _ _⟩
 ·have hc : b < 0 ∨ (0 ≤ b ∧ 29 < b) := by omega
  clear h hb
  rcases hc with h1 | ⟨h1, h2⟩
  all_goals
   go_in;go_wp2_with fail
   go_ret
   exact ⟨rfl, (Gr.refl w).alloc _ _⟩
theorem fWithin_c (v : Value) (xs : List Gi) (l : Int) (hl0 : 0 ≤ l) (hl1 : l ≤ 2147483648) (w : World) (hv : CxsAt w v xs) :
 CW 207 #[l, v] w (.bool (allIn l xs)) :=by
 delta CW
 by_cases hx : xs = []
 ·subst hx
  obtain ⟨p, cap, rfl⟩ := hv.len;rw [show ([] : List Gi).length = 0 from rfl];clear hv;go_in;go_wp2_with fail;refine wp_loop_rounds 1 ?_;rw [rounds_succ];go_wp2_with fail
  go_ret
  exact ⟨rfl, Gr.refl _⟩
 ·obtain ⟨b, o, cap, rfl, hlen, hb, hc⟩ := hv.at hx
  have HC := kh hc;have HN := kh fun (k : Nat) (a : Gi) (h : xs[k]? = some a) => allIn_no (l := l) h
  have HS := kh fun (k : Nat) (a : Gi) (h : xs[k]? = some a) => allIn_snoc (l := l) h
  have HA : allIn l (xs.take xs.length) = allIn l xs := by rw [List.take_length]
  clear hc hv hx;go_in;go_wp2_with fail
  go_loopw [6, 9] (fun _ i wr => ∃ k : Nat, k ≤ xs.length ∧ i = .int .i64 k ∧ allIn l (xs.take k) = true ∧ Gr w wr) (fun _ i _ => xs.length - (intOf i).toNat)
  case atStart => exact ⟨0, Nat.zero_le _, rfl, rfl, Gr.refl _⟩
  case round =>
   obtain ⟨k, hk, rfl, hall, hl⟩ := hrel
   by_cases hlt : k < xs.length
   ·obtain ⟨x, hx⟩ := get_of_lt hlt
    have h1 := (hl.cell (p := ⟨b, o + k * 2, none⟩) hb).trans (HC.out k x hx).1;have h2 := (hl.cell (p := ⟨b, o + k * 2 + 1, none⟩) hb).trans (HC.out k x hx).2
    have hbl : b < wr.heap.size := Nat.lt_of_lt_of_le hb hl.size
    have HN1 := kh (HN.out k x hx);have HS1 := kh (HS.out k x hx hall);obtain ⟨re, im⟩ := x
    simp only at h1 h2 HN1 HS1
    clear hx hall HA HN HS HC
    have hll : IntKind.i64.wrap (-l) = -l := IntWalk.i64_in _ ⟨by omega, by omega⟩
    have hu : ∀ a b, ∀ c d : Int, (inB l a && inB l b) = true → -l ≤ a ∧ a ≤ l ∧ -l ≤ b ∧ b ≤ l := by
     intro a b c d h
     rw [Bool.and_eq_true, inB_iff, inB_iff] at h
     omega
    by_cases hq : (inB l re && inB l im) = true
    ·have HS2 := kh (HS1.out hq)
     obtain ⟨q1, q2, q3, q4⟩ := hu re im 0 0 hq;clear HN1 HS1 hq hu
     by_cases hm : im < re
     ·go_wp2_with fail
      go_roundw
      case rel => exact ⟨k + 1, by omega, by go_num, HS2.out, hl.alloc _ _⟩
      case measure => simp [intOf]; omega
     ·go_wp2_with fail
      go_roundw
      case rel => exact ⟨k + 1, by omega, by go_num, HS2.out, hl.alloc _ _⟩
      case measure => simp [intOf]; omega
    ·have hq' : (inB l re && inB l im) = false := by simpa using hq
     have HN2 := kh (HN1.out hq')
     have hor : re < -l ∨ l < re ∨ im < -l ∨ l < im := by
      refine Classical.byContradiction fun h => hq ?_
      rw [Bool.and_eq_true, inB_iff, inB_iff]
      omega
     clear HN1 HS1 hq hq' hu
     have hcs : (im < re ∧ im < -l) ∨ (im < re ∧ -l ≤ im ∧ l < re) ∨ (re ≤ im ∧ re < -l) ∨ (re ≤ im ∧ -l ≤ re ∧ l < im) := by omega
     clear hor
     rcases hcs with ⟨t1, t2⟩ | ⟨t1, t2, t3⟩ | ⟨t1, t2⟩ | ⟨t1, t2, t3⟩
     all_goals
      go_wp2_with fail
     all_goals
      go_ret
      exact ⟨by rw [HN2.out]; rfl, hl.alloc _ _⟩
   ·obtain rfl : k = xs.length := by omega
    rw [HA] at hall;have HL := kh hall;clear hall HA;go_wp2_with fail
    go_ret
    exact ⟨by rw [HL.out]; rfl, hl⟩
def QuarterOk (h : Int) (n : Nat) : Prop := ∃ k : Nat, 4 * 2 ^ k ≤ n ∧ h = ((2 ^ k : Nat) : Int)
theorem quarter_all : ∀ L : Fin 7, ∀ h : Fin 17, 2 ≤ L.val → 1 ≤ h.val → h.val ≤ 2 ^ L.val / 4 → ((2 ^ L.val % h.val = 0) ↔ (h.val = 1 ∨ h.val = 2 ∨ h.val = 4 ∨ h.val = 8 ∨ h.val = 16)) := by decide +kernel
theorem quarter_iff (h L : Nat) (l0 : 2 ≤ L) (l1 : L ≤ 6) (h1 : 1 ≤ h) (h2 : h ≤ 2 ^ L / 4) : 2 ^ L % h = 0 ↔ QuarterOk h (2 ^ L) := by
 have hp := pow_le L l1
 have ha := quarter_all ⟨L, by omega⟩ ⟨h, by omega⟩ l0 h1 h2
 simp only at ha
 rw [ha]
 constructor
 ·rintro (rfl | rfl | rfl | rfl | rfl)
  ·exact ⟨0, by omega, rfl⟩
  ·exact ⟨1, by omega, rfl⟩
  ·exact ⟨2, by omega, rfl⟩
  ·exact ⟨3, by omega, rfl⟩
  ·exact ⟨4, by omega, rfl⟩
 ·rintro ⟨k, hk, he⟩
  have hk4 : k ≤ 4 := by
   rcases Nat.lt_or_ge k 5 with g | g
   ·omega
   ·have := Nat.pow_le_pow_right (n := 2) (by omega) g
    omega
  have he' : h = 2 ^ k := by omega
  have hc : k = 0 ∨ k = 1 ∨ k = 2 ∨ k = 3 ∨ k = 4 := by omega
  rcases hc with rfl | rfl | rfl | rfl | rfl <;> simp at he' <;> omega
theorem fQuarters_c (h : Int) (n L : Nat) (hL : IsLog (n : Int) L) (b : Bool) (hb : b = true ↔ QuarterOk h n) (w : World) :
 Calls Tryz.prog 205 #[h, n] w fun e w' => e = .returned (.bool b) ∧ w' = w := by
 obtain ⟨l0, l1, hn⟩ := hL
 have hn' : n = 2 ^ L := by exact Int.ofNat.inj hn
 have hp := pow_le L l1
 have hq4 : wrap64 ((n : Int) / 4) = (n : Int) / 4 := IntWalk.wrap64_in _ ⟨by omega, by omega⟩
 by_cases h1 : 1 ≤ h
 ·by_cases h2 : h ≤ (n : Int) / 4
  ·obtain ⟨k, rfl⟩ : ∃ k : Nat, h = (k : Int) := ⟨h.toNat, by omega⟩
   have hq := quarter_iff k L l0 l1 (by omega) (by omega);rw [← hn', ← hb] at hq
   have hz : ((n : Int) % (k : Int) == 0) = b := by
    rw [Bool.eq_iff_iff, ← hq, beq_iff_eq]
    omega
   have hz2 : ((n : Int).tmod (k : Int) == 0) = b := by
    rw [Int.tmod_eq_emod_of_nonneg (by omega)]
    exact hz
   have h0 : 0 ≤ (n : Int) := by omega
   have hk0 : ¬ (k : Int) = 0 := by omega
   clear hq hb hn hn' hp l0 l1;go_in;go_wp2_with fail
   go_ret
   first | exact ⟨rfl, rfl⟩ | exact ⟨by rw [hz], rfl⟩ | exact ⟨by rw [hz2], rfl⟩
  ·have hbf : b = false := by
    rw [Bool.eq_false_iff, Ne, hb];rintro ⟨k, hk, rfl⟩
    omega
   subst hbf;clear hb hn hn' hp l0 l1
   have h0 : 0 ≤ (n : Int) := by omega
   have h2' : (n : Int) / 4 < h := by omega
   clear h2;go_in;go_wp2_with fail
   go_ret
   exact ⟨rfl, rfl⟩
 ·have hbf : b = false := by
   rw [Bool.eq_false_iff, Ne, hb];rintro ⟨k, hk, rfl⟩
   have : 1 ≤ 2 ^ k := Nat.one_le_two_pow
   omega
  subst hbf
  have h1' : h < 1 := by omega
  clear hb hn hn' hp l0 l1 h1;go_in;go_wp2_with fail
  go_ret
  exact ⟨rfl, rfl⟩
end
end Go.Proofs.YtdignnmpfkgkoaaGreat
