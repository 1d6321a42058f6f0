import Derived.Test.YtdignnmpfkgkoaaGreatRealUntanglesS39
import Derived.Test.YtdignnmpfkgkoaaGreatRealUntanglesS40
namespace Go.Proofs.YtdignnmpfkgkoaaGreat
section
open Go.ChangeShapes Go.WideShapes Go.ChangeAt Go.RowKit
set_option linter.unusedVariables false
set_option linter.unusedSimpArgs false
set_option maxRecDepth 100000
def RlsAt (w : World) (v : Value) (rs : List (Int × Int × Int × Int)) : Prop :=
 ∃ B, v = .slice (some ⟨B, 0, none⟩) rs.length rs.length ∧ B < w.heap.size ∧ ∀ j r, rs[j]? = some r → w.cell? ⟨B, j * 4, none⟩ = some (.int .i64 r.1) ∧ w.cell? ⟨B, j * 4 + 1, none⟩ = some (.int .i64 r.2.1) ∧ w.cell? ⟨B, j * 4 + 2, none⟩ = some (.int .i64 r.2.2.1) ∧ w.cell? ⟨B, j * 4 + 3, none⟩ = some (.int .i64 r.2.2.2)
theorem RlsAt.gr {w w' : World} {v : Value} {rs : List (Int × Int × Int × Int)} (h : RlsAt w v rs) (g : Gr w w') : RlsAt w' v rs := by
 obtain ⟨B, hv, hB, hc⟩ := h
 refine ⟨B, hv, Nat.lt_of_lt_of_le hB g.size, fun j r hj => ?_⟩
 obtain ⟨h1, h2, h3, h4⟩ := hc j r hj
 exact ⟨(g.cell (p := ⟨B, _, none⟩) hB).trans h1, (g.cell (p := ⟨B, _, none⟩) hB).trans h2, (g.cell (p := ⟨B, _, none⟩) hB).trans h3, (g.cell (p := ⟨B, _, none⟩) hB).trans h4⟩
theorem info_rule : (Tryz.prog.info? 128).map (fun i => (i.zero, i.size, i.bytes)) = some (some (.agg #[.int .i64 0, .int .i64 0, .int .i64 0, .int .i64 0]), 4, 32) := by kernel_rfl
theorem run_make_rule (n : Nat) (hn : n ≤ 1048576) (w : World) : (Instr.makeSlice 123 (.int .i64 (n : Int)) (.int .i64 (n : Int))).run Tryz.prog w = .ok (.slice (some ⟨w.heap.size, 0, none⟩) n n) (w.alloc (.cells (madeCells #[.int .i64 0, .int .i64 0, .int .i64 0, .int .i64 0] (n * 4)) 128)) := by
 obtain ⟨i, hi, hzz⟩ := Option.map_eq_some_iff.1 info_rule
 simp only [Prod.mk.injEq] at hzz
 obtain ⟨hz, hs, hb⟩ := hzz
 have hr := run_make (P := Tryz.prog) w 123 128 i _ Tryz.underlying123 hi hz .i64 .i64 n n (by omega) (Int.le_refl _) (by rw [hb]; omega) (by omega)
 rw [hs] at hr
 simp only [Int.toNat_natCast] at hr
 exact hr
set_option maxHeartbeats 4000000 in
theorem passRules_of (fo lo ke sc mo : Int) (iv : Bool) (L : List Gi) (hL : L.length ≤ 6) (T : Int → Int × Int × Int × Int)
 (HP : Hid (∀ W, Calls Tryz.prog 64 #[.agg #[.int .i64 fo, .int .i64 lo, .int .i64 ke, .int .i64 sc, .int .i64 mo, .bool iv]] W fun e w' => ∃ v, e = .returned (.tuple #[v, .int .i64 0]) ∧ CxsAt w' v L ∧ Gr W w'))
 (HK : Hid (∀ x ∈ L, ∀ W B, RulesAt W B → (Instr.lookup 170 (.map (some B)) (.agg #[.int .i64 x.re, .int .i64 sc]) false).run Tryz.prog W = .ok (ruleR (T x.re)) W)) (w : World) :
 Calls Tryz.prog 99 #[.agg #[.int .i64 fo, .int .i64 lo, .int .i64 ke, .int .i64 sc, .int .i64 mo, .bool iv]] w fun e w' => ∃ v, e = .returned (.tuple #[v, .int .i64 0]) ∧ RlsAt w' v (L.map fun x => T x.re) ∧ Gr w w' := by
 have HR := Lib.hid rules_c
 have hmk := run_make_rule L.length (by omega)
 go_enter Tryz.func99, Tryz.ntmps99
 go_wp2_with fail
 obtain ⟨u0, hu⟩ : ∃ uu, uu = w.alloc (.cells #[.int .i64 fo, .int .i64 lo, .int .i64 ke, .int .i64 sc, .int .i64 mo, .bool iv] 24) := ⟨_, rfl⟩
 have R0 : CellsAt u0 w.heap.size 24 #[.int .i64 fo, .int .i64 lo, .int .i64 ke, .int .i64 sc, .int .i64 mo, .bool iv] := by rw [hu]; exact CellsAt.new w 24 _
 have gu : Gr w u0 := by rw [hu]; exact (Gr.refl w).alloc _ _
 rw [← hu]
 clear hu
 refine (HP.out _).mono ?_
 rintro e w1 ⟨vp, rfl, hv1, g1⟩
 obtain ⟨pp, pcap, rfl⟩ := hv1.len
 go_wp2_with fail
 refine (HR.out _).mono ?_
 rintro e w2 ⟨B, rfl, hR2, g2⟩
 have R2 := (R0.gr g1).gr g2
 have hv2 := hv1.gr g2
 have y2 := (gu.trans g1).trans g2
 clear R0 gu hv1 g1 g2 HP HR
 go_wp2_with fail
 have M0 := CellsAt.new w2 128 (madeCells #[.int .i64 0, .int .i64 0, .int .i64 0, .int .i64 0] (L.length * 4))
 have M1 := size_madeCells #[.int .i64 0, .int .i64 0, .int .i64 0, .int .i64 0] (L.length * 4)
 have n2 := R2.lt
 go_loopw [24] (fun i wr => ∃ k : Nat, ∃ c : Array Value, k ≤ L.length ∧ i = .int .i64 k ∧ CellsAt wr w2.heap.size 128 c ∧ c.size = L.length * 4 ∧ (∀ j x, j < k → L[j]? = some x → c[j * 4]? = some (.int .i64 (T x.re).1) ∧ c[j * 4 + 1]? = some (.int .i64 (T x.re).2.1) ∧ c[j * 4 + 2]? = some (.int .i64 (T x.re).2.2.1) ∧ c[j * 4 + 3]? = some (.int .i64 (T x.re).2.2.2)) ∧ Gr w2 wr)
  (fun i _ => L.length - (intOf i).toNat)
 case atStart => exact ⟨0, _, by omega, rfl, M0, M1, fun j x hj => absurd hj (Nat.not_lt_zero _), (Gr.refl _).alloc _ _⟩
 case round =>
  clear M0 M1 hmk
  obtain ⟨k, c, hk, rfl, hC, hs, hj, hg⟩ := hrel
  have hR := hR2.gr hg
  have hv := hv2.gr hg
  have hP := R2.gr hg
  clear hR2 hv2 R2
  by_cases hlt : k < L.length
  ·obtain ⟨x, hx⟩ := get_of_lt hlt
   have hlI : (k : Int) < (L.length : Int) := by omega
   have hl6 : (L.length : Int) ≤ 6 := by omega
   obtain ⟨b, o, cap', hsl, hln, hb, hc⟩ := hv.at (by intro e; rw [e] at hlt; simp at hlt)
   cases hsl
   obtain ⟨k1, k2⟩ := hc k x hx
   have HX := Lib.hid hx
   have hgx : Gr wr (wr.alloc (.cells #[.int .i64 x.re, .int .i64 x.im] 72)) := (Gr.refl wr).alloc _ _
   have hL := HK.out x (List.mem_of_getElem? hx) _ _ (hR.gr hgx)
   have HS := Lib.hid hs
   have HJ := Lib.hid hj
   clear hs hj hc hx hgx
   obtain ⟨re, im⟩ := x
   simp only at k1 k2 hL
   generalize hT : T re = r at hL
   obtain ⟨rt, ra, rl, rm⟩ := r
   have HT := Lib.hid hT
   unfold ruleR at hL
   simp only at hL
   clear hT
   have c3 := CellsAt.cell hP 3
   simp only [getS] at c3
   have lP := hP.lt
   have lC := hC.lt
   have q0 := hC.cell (k * 4)
   have q1 := hC.cell (k * 4 + 1)
   have q2 := hC.cell (k * 4 + 2)
   have q3 := hC.cell (k * 4 + 3)
   rw [Array.getElem?_eq_getElem (show k * 4 < c.size by rw [HS.out]; omega)] at q0
   rw [Array.getElem?_eq_getElem (show k * 4 + 1 < c.size by rw [HS.out]; omega)] at q1
   rw [Array.getElem?_eq_getElem (show k * 4 + 2 < c.size by rw [HS.out]; omega)] at q2
   rw [Array.getElem?_eq_getElem (show k * 4 + 3 < c.size by rw [HS.out]; omega)] at q3
   have f0 := hC.frozen (k * 4)
   have f1 := hC.frozen (k * 4 + 1)
   have f2 := hC.frozen (k * 4 + 2)
   have f3 := hC.frozen (k * 4 + 3)
   go_wp2_with fail
   have hC3 := (((hC.set (k * 4) (.int .i64 rt)).set (k * 4 + 1) (.int .i64 ra)).set (k * 4 + 2) (.int .i64 rl)).set (k * 4 + 3) (.int .i64 rm)
   have hg4 := (((hg.setCell (a := ⟨w2.heap.size, k * 4, none⟩) (by simp) (.int .i64 rt)).setCell (a := ⟨w2.heap.size, k * 4 + 1, none⟩) (by simp) (.int .i64 ra)).setCell (a := ⟨w2.heap.size, k * 4 + 2, none⟩) (by simp) (.int .i64 rl)).setCell (a := ⟨w2.heap.size, k * 4 + 3, none⟩) (by simp) (.int .i64 rm)
   go_roundw
   case rel =>
    refine ⟨k + 1, _, by omega, by go_num, hC3.alloc _, by simpa using HS.out, fun j x hj hx => ?_, hg4.alloc _ _⟩
    by_cases e : j = k
    ·subst e
     rw [HX.out] at hx
     cases hx
     rw [HT.out]
     simp only
     refine ⟨?_, ?_, ?_, ?_⟩
     ·rw [Array.getElem?_setIfInBounds, if_neg (by omega), Array.getElem?_setIfInBounds, if_neg (by omega), Array.getElem?_setIfInBounds, if_neg (by omega), Array.getElem?_setIfInBounds, if_pos rfl, if_pos (by rw [HS.out]; omega)]
     ·rw [Array.getElem?_setIfInBounds, if_neg (by omega), Array.getElem?_setIfInBounds, if_neg (by omega), Array.getElem?_setIfInBounds, if_pos rfl, if_pos (by simp only [Array.size_setIfInBounds]; rw [HS.out]; omega)]
     ·rw [Array.getElem?_setIfInBounds, if_neg (by omega), Array.getElem?_setIfInBounds, if_pos rfl, if_pos (by simp only [Array.size_setIfInBounds]; rw [HS.out]; omega)]
     ·rw [Array.getElem?_setIfInBounds, if_pos rfl, if_pos (by simp only [Array.size_setIfInBounds]; rw [HS.out]; omega)]
    ·have hq := HJ.out j x (by omega) hx
     have far : ∀ d, d < 4 → ((((c.setIfInBounds (k * 4) (.int .i64 rt)).setIfInBounds (k * 4 + 1) (.int .i64 ra)).setIfInBounds (k * 4 + 2) (.int .i64 rl)).setIfInBounds (k * 4 + 3) (.int .i64 rm))[j * 4 + d]? = c[j * 4 + d]? := fun d hd => by
      rw [Array.getElem?_setIfInBounds, if_neg (by omega), Array.getElem?_setIfInBounds, if_neg (by omega), Array.getElem?_setIfInBounds, if_neg (by omega), Array.getElem?_setIfInBounds, if_neg (by omega)]
     exact ⟨(far 0 (by omega)).trans hq.1, (far 1 (by omega)).trans hq.2.1, (far 2 (by omega)).trans hq.2.2.1, (far 3 (by omega)).trans hq.2.2.2⟩
   case measure => simp [intOf]; omega
  ·obtain rfl : k = L.length := by omega
   have hlI : ¬ (L.length : Int) < (L.length : Int) := by omega
   clear hR hP
   go_wp2_with fail
   go_ret2
   refine ⟨_, rfl, ⟨w2.heap.size, by simp, hC.lt, fun j r hr => ?_⟩, y2.trans hg⟩
   rw [List.getElem?_map] at hr
   obtain ⟨x, hx, rfl⟩ := Option.map_eq_some_iff.1 hr
   obtain ⟨h1, h2, h3, h4⟩ := hj j x (List.getElem?_eq_some_iff.1 hx).1 hx
   exact ⟨(hC.cell _).trans h1, (hC.cell _).trans h2, (hC.cell _).trans h3, (hC.cell _).trans h4⟩
theorem passRules_ok (fo lo ke sc mo : Int) (iv : Bool) (hok : okF fo lo ke sc mo = true) (w : World) :
 Calls Tryz.prog 99 #[.agg #[.int .i64 fo, .int .i64 lo, .int .i64 ke, .int .i64 sc, .int .i64 mo, .bool iv]] w fun e w' => ∃ v, e = .returned (.tuple #[v, .int .i64 0]) ∧ RlsAt w' v ((passL ke lo).map fun x => ruleT x.re sc) ∧ Gr w w' := by
 have hf := okF_iff.1 hok
 refine passRules_of fo lo ke sc mo iv (passL ke lo) (passL_len6 ke lo (by omega) (by omega) (by omega) (by omega)) (fun k => ruleT k sc) (Lib.hid fun W => passes_ok fo lo ke sc mo 0 iv hok W) (Lib.hid fun x hx W B hR => ?_) w
 have := hR.look x.re sc false
 rw [ruleOf_yes x.re sc (passL_kern ke lo x hx) (by omega) (by omega)] at this
 exact this
set_option maxHeartbeats 4000000 in
theorem mayShiftB_of (sc : Int) (L : List Gi) (hL : L.length ≤ 6) (R : Value) (sp : Option Addr) (cl : Nat) (ls : List Int) (hls : ls.length ≤ 10)
 (T : Int → Int × Int × Int × Int) (HF : Hid (∀ x ∈ L, ∀ l, fitB sc x.re l = (decide ((T x.re).2.2.1 ≤ l) && decide (l ≤ (T x.re).2.2.2)))) (w : World) (hR : RlsAt w R (L.map fun x => T x.re)) (hN : NumsAt w (.slice sp ls.length cl) ls) :
 CW 100 #[R, .slice sp ls.length cl] w (.bool (fitsB sc L ls)) :=by
 delta CW
 obtain ⟨B, rfl, hB, hc0⟩ := hR
 rw [List.length_map]
 have HC := Lib.hid hc0
 clear hc0
 by_cases hlen : ls.length = L.length
 ·have hlenI : (ls.length : Int) = (L.length : Int) := by omega
  have hlb : ((ls.length : Int) == (L.length : Int)) = true := by simp [hlen]
  go_enter Tryz.func100, Tryz.ntmps100
  go_wp2_with fail
  go_loopw [14] (fun i wr => ∃ j : Nat, j ≤ L.length ∧ i = .int .i64 j ∧ (∀ (i : Nat) x l, i < j → L[i]? = some x → ls[i]? = some l → fitB sc x.re l = true) ∧ Gr w wr)
   (fun i _ => L.length - (intOf i).toNat)
  case atStart => exact ⟨0, by omega, rfl, fun i _ _ h => absurd h (Nat.not_lt_zero _), Gr.refl _⟩
  case round =>
   clear hlb
   obtain ⟨j, hj, rfl, hgood, hg⟩ := hrel
   by_cases hlt : j < L.length
   ·obtain ⟨x, hx⟩ := get_of_lt hlt
    obtain ⟨l, hll⟩ := get_of_lt (show j < ls.length by omega)
    have hlI : (j : Int) < (L.length : Int) := by omega
    have hlS : (j : Int) < (ls.length : Int) := by omega
    have hl6 : (L.length : Int) ≤ 6 := by omega
    obtain ⟨b2, o2, cap2, hsl, _, hb2, hc2⟩ := (hN.gr hg).at (by intro e; rw [e] at hlen; simp at hlen; omega)
    cases hsl
    have kl := hc2 j l hll
    have hf := HF.out x (List.mem_of_getElem? hx) l
    obtain ⟨a0, a1, a2, a3⟩ := HC.out j (T x.re) (by rw [List.getElem?_map, hx]; rfl)
    replace a0 := (hg.cell (p := ⟨B, _, none⟩) hB).trans a0
    replace a1 := (hg.cell (p := ⟨B, _, none⟩) hB).trans a1
    replace a2 := (hg.cell (p := ⟨B, _, none⟩) hB).trans a2
    replace a3 := (hg.cell (p := ⟨B, _, none⟩) hB).trans a3
    have hfit := Lib.hid hf
    generalize T x.re = r at a0 a1 a2 a3 hf hfit
    obtain ⟨rt, ra, rl, rm⟩ := r
    simp only at a0 a1 a2 a3 hf
    have hBr : B < wr.heap.size := Nat.lt_of_lt_of_le hB hg.size
    clear hc2 hfit
    go_wp2_with fail
    obtain ⟨u3, hu⟩ : ∃ uu, uu = wr.alloc (.cells #[.int .i64 rt, .int .i64 ra, .int .i64 rl, .int .i64 rm] 128) := ⟨_, rfl⟩
    have X3 : CellsAt u3 wr.heap.size 128 #[.int .i64 rt, .int .i64 ra, .int .i64 rl, .int .i64 rm] := by rw [hu]; exact CellsAt.new wr 128 _
    have y3 : Gr wr u3 := by rw [hu]; exact (Gr.refl wr).alloc _ _
    have hb3 : b2 < u3.heap.size := Nat.lt_of_lt_of_le hb2 y3.size
    have kl3 := (y3.cell (p := ⟨b2, o2 + j, none⟩) hb2).trans kl
    try rw [← hu]
    clear hu a0 a1 a2 a3 kl
    have KS : ∀ W, Gr u3 W → (W.cell? ⟨wr.heap.size, 2, none⟩ = some (.int .i64 rl) ∧ W.cell? ⟨wr.heap.size, 3, none⟩ = some (.int .i64 rm) ∧ W.cell? ⟨b2, o2 + j, none⟩ = some (.int .i64 l)) := fun W hG =>
     ⟨(X3.gr hG).cell 2, (X3.gr hG).cell 3, (hG.cell (p := ⟨b2, o2 + j, none⟩) hb3).trans kl3⟩
    by_cases h0 : l < rl
    ·have hfit : fitB sc x.re l = false := by rw [hf, Bool.and_eq_false_iff]; left; simp; omega
     have h0' : decide (l < rl) = true := by simp [h0]
     have hclG := gr_closed u3
     try simp only [List.append_eq, List.cons_append, List.nil_append]
     refine wp_region_grow (S := Gr u3) rfl (Gr.drew (Gr.refl _)) ?_
     refine gK 0 hclG KS ?_
     refine gK 1 hclG KS ?_
     refine gK 2 hclG KS ?_
     refine gK 3 hclG KS ?_
     refine gK 4 hclG KS ?_
     refine gK 5 hclG KS ?_
     refine gK 6 hclG KS ?_
     refine gK 7 hclG KS ?_
     refine wpG_skip (i := 8) hclG rfl (by kernel_rfl) (by kernel_rfl) (by kernel_rfl) (fun _ _ _ h => h) (by rfl) ?_
     try simp only [Act.put, putS]
     refine wpG_skip (i := 9) hclG rfl (by kernel_rfl) (by kernel_rfl) (by kernel_rfl) (fun _ _ _ h => h) (by rfl) ?_
     try simp only [Act.put, putS]
     refine wpG_skip (i := 10) hclG rfl (by kernel_rfl) (by kernel_rfl) (by kernel_rfl) (fun _ _ _ h => h) (by rfl) ?_
     try simp only [Act.put, putS]
     refine wpG_skip (i := 11) hclG rfl (by kernel_rfl) (by kernel_rfl) (by kernel_rfl) (fun _ _ _ h => h) (by rfl) ?_
     try simp only [Act.put, putS]
     refine wpG_skip (i := 12) hclG rfl (by kernel_rfl) (by kernel_rfl) (by kernel_rfl) (fun _ _ _ h => h) (by rfl) ?_
     try simp only [Act.put, putS]
     refine wpG_skip (i := 13) hclG rfl (by kernel_rfl) (by kernel_rfl) (by kernel_rfl) (fun _ _ _ h => h) (by rfl) ?_
     try simp only [Act.put, putS]
     refine wpG_skip (i := 14) hclG rfl (by kernel_rfl) (by kernel_rfl) (by kernel_rfl) (fun _ _ _ h => h) (by rfl) ?_
     try simp only [Act.put, putS]
     refine gK 15 hclG KS ?_
     refine wpG_done (by kernel_rfl) (fun w8 g8 => ?_) _
     replace g8 := (Gr.drew (Gr.refl u3)).trans g8
     clear hclG KS
     have y8 := y3.trans g8
     go_wp2_with fail
     go_ret
     exact ⟨by simp [fitsB_off sc L ls j _ l hx hll hfit], hg.trans y8⟩
    ·have h0' : decide (l < rl) = false := by simp; omega
     by_cases h1 : rm < l
     ·have hfit : fitB sc x.re l = false := by rw [hf, Bool.and_eq_false_iff]; right; simp; omega
      have h1' : decide (rm < l) = true := by simp [h1]
      have hclG := gr_closed u3
      try simp only [List.append_eq, List.cons_append, List.nil_append]
      refine wp_region_grow (S := Gr u3) rfl (Gr.drew (Gr.refl _)) ?_
      refine gK 0 hclG KS ?_
      refine gK 1 hclG KS ?_
      refine gK 2 hclG KS ?_
      refine gK 3 hclG KS ?_
      refine gK 4 hclG KS ?_
      refine gK 5 hclG KS ?_
      refine gK 6 hclG KS ?_
      refine gK 7 hclG KS ?_
      refine gK 8 hclG KS ?_
      refine gK 9 hclG KS ?_
      refine gK 10 hclG KS ?_
      refine gK 11 hclG KS ?_
      refine gK 12 hclG KS ?_
      refine gK 13 hclG KS ?_
      refine gK 14 hclG KS ?_
      refine gK 15 hclG KS ?_
      refine wpG_done (by kernel_rfl) (fun w8 g8 => ?_) _
      replace g8 := (Gr.drew (Gr.refl u3)).trans g8
      clear hclG KS
      have y8 := y3.trans g8
      go_wp2_with fail
      go_ret
      exact ⟨by simp [fitsB_off sc L ls j _ l hx hll hfit], hg.trans y8⟩
     ·have hfit : fitB sc x.re l = true := by rw [hf, Bool.and_eq_true]; simp; omega
      have h1' : decide (rm < l) = false := by simp; omega
      have hclG := gr_closed u3
      try simp only [List.append_eq, List.cons_append, List.nil_append]
      refine wp_region_grow (S := Gr u3) rfl (Gr.drew (Gr.refl _)) ?_
      refine gK 0 hclG KS ?_
      refine gK 1 hclG KS ?_
      refine gK 2 hclG KS ?_
      refine gK 3 hclG KS ?_
      refine gK 4 hclG KS ?_
      refine gK 5 hclG KS ?_
      refine gK 6 hclG KS ?_
      refine gK 7 hclG KS ?_
      refine gK 8 hclG KS ?_
      refine gK 9 hclG KS ?_
      refine gK 10 hclG KS ?_
      refine gK 11 hclG KS ?_
      refine gK 12 hclG KS ?_
      refine gK 13 hclG KS ?_
      refine gK 14 hclG KS ?_
      refine gK 15 hclG KS ?_
      refine wpG_done (by kernel_rfl) (fun w8 g8 => ?_) _
      replace g8 := (Gr.drew (Gr.refl u3)).trans g8
      clear hclG KS
      have y8 := y3.trans g8
      go_wp2_with fail
      go_roundw
      case rel =>
       refine ⟨j + 1, by omega, by go_num, fun i x' l' hi hx' hl' => ?_, hg.trans y8⟩
       by_cases e : i = j
       ·subst e
        rw [hx] at hx'
        rw [hll] at hl'
        cases hx'
        cases hl'
        exact hfit
       ·exact hgood i x' l' (by omega) hx' hl'
      case measure => simp [intOf]; omega
   ·obtain rfl : j = L.length := by omega
    have hlI : ¬ (L.length : Int) < (L.length : Int) := by omega
    go_wp2_with fail
    go_ret
    exact ⟨by simp [fitsB_all sc L ls hlen.symm fun i x l h2 h3 => hgood i x l (List.getElem?_eq_some_iff.1 h2).1 h2 h3], hg⟩
 ·have hlenI : ¬ (ls.length : Int) = (L.length : Int) := by omega
  have hlb : ((ls.length : Int) == (L.length : Int)) = false := by simp; omega
  have hno : fitsB sc L ls = false := by
   rw [Bool.eq_false_iff]
   intro h
   exact hlen (fitsB_len sc L ls h)
  rw [hno]
  go_enter Tryz.func100, Tryz.ntmps100
  go_wp2_with fail
  go_ret
  exact ⟨rfl, Gr.refl _⟩
theorem fitB_rule (sc k l : Int) (hk : k = 2 ∨ k = 4) (h0 : 0 ≤ sc) (h2 : sc ≤ 2) : fitB sc k l = (decide ((ruleT k sc).2.2.1 ≤ l) && decide (l ≤ (ruleT k sc).2.2.2)) := by
 have ht := topB_le sc k
 by_cases hs : sc = 1
 ·subst hs
  simp only [fitB, ruleT, if_true, decide_true, Bool.true_or, Bool.and_true]
  by_cases h1 : 0 ≤ l <;> by_cases h3 : l ≤ topB 1 k <;> simp [h1, h3]
 ·simp only [fitB, ruleT, if_neg hs, hs, decide_false, Bool.false_or]
  by_cases h1 : l = topB sc k
  ·subst h1; simp; omega
  ·have : ¬ (topB sc k ≤ l ∧ l ≤ topB sc k) := by omega
   by_cases h3 : topB sc k ≤ l <;> by_cases h4 : l ≤ topB sc k <;> simp [h1, h3, h4]
   omega
set_option maxHeartbeats 4000000 in
theorem budgetOf_of (fo lo ke sc mo st z : Int) (iv : Bool) (rs : List (Int × Int × Int × Int)) (hL : rs.length ≤ 6) (sp : Option Addr) (cl : Nat) (ls : List Int) (E : Nat → Int) (hlen : ls.length = rs.length)
 (HP : Hid (∀ W, Calls Tryz.prog 99 #[.agg #[.int .i64 fo, .int .i64 lo, .int .i64 ke, .int .i64 sc, .int .i64 mo, .bool iv]] W fun e w' => ∃ v, e = .returned (.tuple #[v, .int .i64 0]) ∧ RlsAt w' v rs ∧ Gr W w'))
 (HM : Hid (∀ R W, RlsAt W R rs → NumsAt W (.slice sp ls.length cl) ls → Calls Tryz.prog 100 #[R, .slice sp ls.length cl] W fun e w' => e = .returned (.bool true) ∧ Gr W w'))
 (HA : CR 101 #[.agg #[.int .i64 fo, .int .i64 lo, .int .i64 ke, .int .i64 sc, .int .i64 mo, .bool iv]] (.int .i64 (E 0)))
 (HB : Hid (∀ (j : Nat) r l, rs[j]? = some r → ls[j]? = some l → ∀ W, Calls Tryz.prog 102 #[ruleR r, .int .i64 (E j), .int .i64 l] W fun e w' => e = .returned (.int .i64 (E (j + 1))) ∧ Gr W w'))
 (hz : if ke = 2 then wrap64 (224 * lo) = st ∧ wrap64 (E 0 + st) = z else E rs.length = z) (w : World) (hl : NumsAt w (.slice sp ls.length cl) ls) :
 CW 54 #[.agg #[.int .i64 fo, .int .i64 lo, .int .i64 ke, .int .i64 sc, .int .i64 mo, .bool iv], .slice sp ls.length cl] w (.tuple #[.int .i64 z, .int .i64 0]) :=by
 delta CW
 have HZ := Lib.hid hz
 have HLEN := Lib.hid hlen
 clear hz hlen
 go_enter Tryz.func54, Tryz.ntmps54
 go_wp2_with fail
 obtain ⟨u0, hu⟩ : ∃ uu, uu = w.alloc (.cells #[.int .i64 fo, .int .i64 lo, .int .i64 ke, .int .i64 sc, .int .i64 mo, .bool iv] 24) := ⟨_, rfl⟩
 have R0 : CellsAt u0 w.heap.size 24 #[.int .i64 fo, .int .i64 lo, .int .i64 ke, .int .i64 sc, .int .i64 mo, .bool iv] := by rw [hu]; exact CellsAt.new w 24 _
 have gu : Gr w u0 := by rw [hu]; exact (Gr.refl w).alloc _ _
 have N0 := hl.gr gu
 try rw [← hu]
 clear hu hl
 refine (HP.out _).mono ?_
 rintro e w1 ⟨vp, rfl, hR1, g1⟩
 have R1 := R0.gr g1
 have N1 := N0.gr g1
 have y1 := gu.trans g1
 have HM1 := Lib.hid (HM.out vp w1 hR1 N1)
 clear R0 N0 gu g1 HP
 go_wp2_with fail
 refine (HM1.out).mono ?_
 rintro e w2 ⟨rfl, g2⟩
 have R9 := R1.gr g2
 have N2 := N1.gr g2
 have hR2 := hR1.gr g2
 have y2 := y1.trans g2
 have lR := R9.lt
 clear R1 N1 y1 g2 HM hR1 HM1
 obtain ⟨c0, c1, c2, c3, c4, c5⟩ := R9.t6
 go_wp2_with fail
 refine (HA.out _).mono ?_
 rintro e w3 ⟨rfl, g3⟩
 replace R9 := R9.gr g3
 have N3 := N2.gr g3
 have hR3 := hR2.gr g3
 have y3 := y2.trans g3
 replace lR := R9.lt
 clear c0 c1 c2 c3 c4 c5 N2 y2 g3 hR2 HA
 obtain ⟨c0, c1, c2, c3, c4, c5⟩ := R9.t6
 by_cases hke : ke = 2
 ·have hke2 : (ke == 2) = true := by simp [hke]
  have HZ' := HZ.out
  rw [if_pos hke] at HZ'
  obtain ⟨z1, z2⟩ := HZ'
  go_wp2_with fail
  go_ret2
  exact ⟨by simp [*], y3⟩
 ·have hke2 : (ke == 2) = false := by simp [hke]
  obtain ⟨B, rfl, hB, hc0⟩ := hR3
  have HC := Lib.hid hc0
  clear hc0
  go_wp2_with fail
  clear c0 c1 c2 c3 c4 c5 lR
  go_loopw [8, 35] (fun v i wr => ∃ j : Nat, j ≤ rs.length ∧ i = .int .i64 j ∧ v = .int .i64 (E j) ∧ Gr w3 wr)
   (fun _ i _ => rs.length - (intOf i).toNat)
  case atStart => exact ⟨0, by omega, rfl, rfl, Gr.refl _⟩
  case round =>
   obtain ⟨j, hj, rfl, rfl, hg⟩ := hrel
   by_cases hlt : j < rs.length
   ·obtain ⟨r, hr⟩ := get_of_lt hlt
    obtain ⟨l, hll⟩ := get_of_lt (show j < ls.length by rw [HLEN.out]; exact hlt)
    have hlI : (j : Int) < (rs.length : Int) := by omega
    have hlS : (j : Int) < (ls.length : Int) := by rw [HLEN.out]; exact hlI
    have hl6 : (rs.length : Int) ≤ 6 := by omega
    obtain ⟨b2, o2, cap2, hsl, _, hb2, hc2⟩ := (N3.gr hg).at (by intro e; have := HLEN.out; rw [e] at this; simp at this; omega)
    cases hsl
    have kl := hc2 j l hll
    obtain ⟨a0, a1, a2, a3⟩ := HC.out j r hr
    replace a0 := (hg.cell (p := ⟨B, _, none⟩) hB).trans a0
    replace a1 := (hg.cell (p := ⟨B, _, none⟩) hB).trans a1
    replace a2 := (hg.cell (p := ⟨B, _, none⟩) hB).trans a2
    replace a3 := (hg.cell (p := ⟨B, _, none⟩) hB).trans a3
    have HBX := Lib.hid (HB.out j r l hr hll)
    obtain ⟨rt, ra, rl, rm⟩ := r
    unfold ruleR at HBX
    simp only at a0 a1 a2 a3 HBX
    have hBr : B < wr.heap.size := Nat.lt_of_lt_of_le hB hg.size
    generalize hE1 : E (j + 1) = E1 at HBX
    have HE := Lib.hid hE1
    clear hE1
    clear hc2 hr hll
    go_wp2_with fail
    obtain ⟨u3, hu⟩ : ∃ uu, uu = wr.alloc (.cells #[.int .i64 rt, .int .i64 ra, .int .i64 rl, .int .i64 rm] 128) := ⟨_, rfl⟩
    have X3 : CellsAt u3 wr.heap.size 128 #[.int .i64 rt, .int .i64 ra, .int .i64 rl, .int .i64 rm] := by rw [hu]; exact CellsAt.new wr 128 _
    have y4 : Gr wr u3 := by rw [hu]; exact (Gr.refl wr).alloc _ _
    have hb3 : b2 < u3.heap.size := Nat.lt_of_lt_of_le hb2 y4.size
    have kl3 := (y4.cell (p := ⟨b2, o2 + j, none⟩) hb2).trans kl
    try rw [← hu]
    clear hu a0 a1 a2 a3 kl
    have KS : ∀ W, Gr u3 W → (W.cell? ⟨wr.heap.size, 0, none⟩ = some (.int .i64 rt) ∧ W.cell? ⟨wr.heap.size, 1, none⟩ = some (.int .i64 ra) ∧ W.cell? ⟨wr.heap.size, 2, none⟩ = some (.int .i64 rl) ∧ W.cell? ⟨wr.heap.size, 3, none⟩ = some (.int .i64 rm) ∧ W.cell? ⟨b2, o2 + j, none⟩ = some (.int .i64 l)) := fun W hG =>
     ⟨(X3.gr hG).cell 0, (X3.gr hG).cell 1, (X3.gr hG).cell 2, (X3.gr hG).cell 3, (hG.cell (p := ⟨b2, o2 + j, none⟩) hb3).trans kl3⟩
    have hclG := gr_closed u3
    try simp only [List.append_eq, List.cons_append, List.nil_append]
    refine wp_region_grow (S := Gr u3) rfl (Gr.drew (Gr.refl _)) ?_
    refine gK 0 hclG KS ?_
    refine gK 1 hclG KS ?_
    refine gK 2 hclG KS ?_
    refine gK 3 hclG KS ?_
    refine gK 4 hclG KS ?_
    refine gK 5 hclG KS ?_
    refine wpG_call (i := 6) hclG rfl (by kernel_rfl) (by kernel_rfl) (by kernel_rfl) (fun _ _ _ h => h) (fun W hS => HBX.out W) (by rfl) ?_ ?_
    ·(intro w' hSw; go_simp; try with_reducible rfl)
    try simp only [Act.put, putS]
    refine gK 7 hclG KS ?_
    refine wpG_done (by kernel_rfl) (fun w8 g8 => ?_) _
    replace g8 := (Gr.drew (Gr.refl u3)).trans g8
    clear hclG KS
    have y8 := y4.trans g8
    go_wp2_with fail
    go_roundw
    case rel => exact ⟨j + 1, by omega, by go_num, by rw [HE.out], hg.trans y8⟩
    case measure => simp [intOf]; omega
   ·obtain rfl : j = rs.length := by omega
    have hlI : ¬ (rs.length : Int) < (rs.length : Int) := by omega
    have HZ' := HZ.out
    rw [if_neg hke] at HZ'
    go_wp2_with fail
    go_ret2
    exact ⟨by simp [HZ'], y3.trans hg⟩
theorem budgetOf_ok (fo lo ke sc mo : Int) (iv : Bool) (hok : okF fo lo ke sc mo = true) (sp : Option Addr) (cl : Nat) (ls : List Int) (hf : fitsB sc (passL ke lo) ls = true) (w : World) (hl : NumsAt w (.slice sp ls.length cl) ls) : Calls Tryz.prog 54 #[.agg #[.int .i64 fo, .int .i64 lo, .int .i64 ke, .int .i64 sc, .int .i64 mo, .bool iv], .slice sp ls.length cl] w fun e' w' => e' = .returned (.tuple #[.int .i64 (ofB sc ke lo ls), .int .i64 0]) ∧ Gr w w' := by
 have ho := okF_iff.1 hok
 have hlen := fitsB_len sc _ ls hf
 have h6 := passL_len6 ke lo (by omega) (by omega) (by omega) (by omega)
 have hn := fun j => lostB_nums sc ke lo ls j (by omega) (by omega) (by omega) (by omega) hf
 refine budgetOf_of fo lo ke sc mo (224 * lo) (ofB sc ke lo ls) iv ((passL ke lo).map fun x => ruleT x.re sc) (by rw [List.length_map]; exact h6) sp cl ls (lostB sc ke lo ls) (by rw [List.length_map]; exact hlen)
  (Lib.hid fun W => passRules_ok fo lo ke sc mo iv hok W) (Lib.hid fun R W hR hN => ?_) (Lib.hid fun W => atFirst_c fo lo ke sc mo iv W) (Lib.hid fun j r l hr hll W => ?_) ?_ w hl
 ·have := mayShiftB_of sc (passL ke lo) h6 R sp cl ls (by omega) (fun k => ruleT k sc) (Lib.hid fun x hx l => fitB_rule sc x.re l (passL_kern ke lo x hx) (by omega) (by omega)) W hR hN
  rw [hf] at this
  exact this
 ·rw [List.getElem?_map] at hr
  obtain ⟨x, hx, rfl⟩ := Option.map_eq_some_iff.1 hr
  have hfit := fitB_iff.1 (fitsB_at sc _ ls j x l hf hx hll)
  have ht := topB_le sc x.re
  have hk := passL_kern ke lo x (List.mem_of_getElem? hx)
  have hb := hn j
  rw [lostB_next sc ke lo ls j x l hx hll]
  exact behind_c x.re sc _ l (mayB_iff.2 ⟨by omega, hk, by omega, by omega⟩) W
 ·have ha := lostB_all sc ke lo ls hlen
  rw [List.length_map]
  by_cases hk : ke = 2
  ·have hb := hn 0
   have hp : (passL ke lo).length = 0 := by rw [hk]; rfl
   rw [if_pos hk] at ha ⊢
   rw [ha, hp]
   exact ⟨IntWalk.wrap64_in _ ⟨by omega, by omega⟩, IntWalk.wrap64_in _ ⟨by omega, by omega⟩⟩
  ·rw [if_neg hk] at ha ⊢
   omega
set_option maxHeartbeats 2000000 in
theorem budgetOf_no (fo lo ke sc mo : Int) (iv : Bool) (rs : List (Int × Int × Int × Int)) (sp : Option Addr) (cl : Nat) (ls : List Int)
 (HP : Hid (∀ W, Calls Tryz.prog 99 #[.agg #[.int .i64 fo, .int .i64 lo, .int .i64 ke, .int .i64 sc, .int .i64 mo, .bool iv]] W fun e w' => ∃ v, e = .returned (.tuple #[v, .int .i64 0]) ∧ RlsAt w' v rs ∧ Gr W w'))
 (HM : Hid (∀ R W, RlsAt W R rs → NumsAt W (.slice sp ls.length cl) ls → Calls Tryz.prog 100 #[R, .slice sp ls.length cl] W fun e w' => e = .returned (.bool false) ∧ Gr W w')) (w : World) (hl : NumsAt w (.slice sp ls.length cl) ls) :
 CW 54 #[.agg #[.int .i64 fo, .int .i64 lo, .int .i64 ke, .int .i64 sc, .int .i64 mo, .bool iv], .slice sp ls.length cl] w (.tuple #[.int .i64 0, .int .i64 1]) :=by
 delta CW
 go_enter Tryz.func54, Tryz.ntmps54
 go_wp2_with fail
 obtain ⟨u0, hu⟩ : ∃ uu, uu = w.alloc (.cells #[.int .i64 fo, .int .i64 lo, .int .i64 ke, .int .i64 sc, .int .i64 mo, .bool iv] 24) := ⟨_, rfl⟩
 have gu : Gr w u0 := by rw [hu]; exact (Gr.refl w).alloc _ _
 have N0 := hl.gr gu
 try rw [← hu]
 clear hu hl
 refine (HP.out _).mono ?_
 rintro e w1 ⟨vp, rfl, hR1, g1⟩
 have HM1 := Lib.hid (HM.out vp w1 hR1 (N0.gr g1))
 have y1 := gu.trans g1
 clear N0 gu g1 HP hR1
 go_wp2_with fail
 refine (HM1.out).mono ?_
 rintro e w2 ⟨rfl, g2⟩
 go_wp2_with fail
 go_ret2
 exact ⟨rfl, y1.trans g2⟩
theorem budgetOf_arg (fo lo ke sc mo : Int) (iv : Bool) (hok : okF fo lo ke sc mo = true) (sp : Option Addr) (cl : Nat) (ls : List Int) (hls : ls.length ≤ 10) (hf : fitsB sc (passL ke lo) ls = false) (w : World) (hl : NumsAt w (.slice sp ls.length cl) ls) : Calls Tryz.prog 54 #[.agg #[.int .i64 fo, .int .i64 lo, .int .i64 ke, .int .i64 sc, .int .i64 mo, .bool iv], .slice sp ls.length cl] w fun e' w' => e' = .returned (.tuple #[.int .i64 0, .int .i64 1]) ∧ Gr w w' := by
 have ho := okF_iff.1 hok
 have h6 := passL_len6 ke lo (by omega) (by omega) (by omega) (by omega)
 refine budgetOf_no fo lo ke sc mo iv ((passL ke lo).map fun x => ruleT x.re sc) sp cl ls (Lib.hid fun W => passRules_ok fo lo ke sc mo iv hok W) (Lib.hid fun R W hR hN => ?_) w hl
 have := mayShiftB_of sc (passL ke lo) h6 R sp cl ls hls (fun k => ruleT k sc) (Lib.hid fun x hx l => fitB_rule sc x.re l (passL_kern ke lo x hx) (by omega) (by omega)) W hR hN
 rw [hf] at this
 exact this
def HvAt (W : World) (x : Value) (n : Nat) (u v : Nat → Gi) : Prop := ∃ B o cap, x = .slice (some ⟨B, o, none⟩) n cap ∧ n ≤ cap ∧ cap ≤ maxLen ∧ B < W.heap.size ∧ ∀ j, j < n →
 W.cell? ⟨B, o + j * 4, none⟩ = some (.int .i64 (u j).re) ∧ W.cell? ⟨B, o + j * 4 + 1, none⟩ = some (.int .i64 (u j).im) ∧ W.cell? ⟨B, o + j * 4 + 2, none⟩ = some (.int .i64 (v j).re) ∧ W.cell? ⟨B, o + j * 4 + 3, none⟩ = some (.int .i64 (v j).im)
theorem HvAt.gr {W W' : World} {x : Value} {n : Nat} {u v : Nat → Gi} (h : HvAt W x n u v) (g : Gr W W') : HvAt W' x n u v := by
 obtain ⟨B, o, cap, hx, hl, hm, hb, hc⟩ := h
 refine ⟨B, o, cap, hx, hl, hm, Nat.lt_of_lt_of_le hb g.size, fun j hj => ?_⟩
 obtain ⟨h0, h1, h2, h3⟩ := hc j hj
 exact ⟨(g.cell (p := ⟨B, o + j * 4, none⟩) hb).trans h0, (g.cell (p := ⟨B, o + j * 4 + 1, none⟩) hb).trans h1, (g.cell (p := ⟨B, o + j * 4 + 2, none⟩) hb).trans h2, (g.cell (p := ⟨B, o + j * 4 + 3, none⟩) hb).trans h3⟩
def DftWhy (n : Nat) (xs : List Gi) (y : Int) : Prop := ((¬ ∃ L, IsLog (n : Int) L) ∧ y = 3) ∨ ((∃ L, IsLog (n : Int) L) ∧ allIn 2147483648 xs = false ∧ y = 2)
theorem DftWhy.ne {n : Nat} {xs : List Gi} {y : Int} (h : DftWhy n xs y) : ¬ y = 0 ∧ (y == 0) = false := by
 rcases h with ⟨_, rfl⟩ | ⟨_, _, rfl⟩ <;> decide
theorem shl_run (l U K : Int) (h0 : 0 ≤ U) (h1 : U ≤ 40) (hK : IntKind.i64.wrap (l * 2 ^ U.toNat) = K) (W : World) : (Op.shift .shl .i64 l .i64 U).run Tryz.prog W = .ok (.int .i64 K) W := by
 subst hK
 go_simp
theorem of_bd {sc ke lo : Int} {ls : List Int} (k0 : 0 ≤ ke) (k1 : ke < 3) (h0 : 2 ≤ lo) (h1 : lo < 7) (hf : fitsB sc (passL ke lo) ls = true) : 0 ≤ ofB sc ke lo ls ∧ ofB sc ke lo ls ≤ 16778560 := by
 have h := lostB_nums sc ke lo ls (passL ke lo).length k0 k1 h0 h1 hf
 have e := lostB_all sc ke lo ls (fitsB_len sc _ ls hf)
 rw [e]
 split <;> omega
end
end Go.Proofs.YtdignnmpfkgkoaaGreat
