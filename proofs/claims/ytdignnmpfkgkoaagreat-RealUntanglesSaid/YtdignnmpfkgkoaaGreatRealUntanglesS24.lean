import Derived.Lib.SliceRun
import Derived.Test.YtdignnmpfkgkoaaGreatRealUntanglesS23
namespace Go.Proofs.YtdignnmpfkgkoaaGreat
section
open Go.ChangeShapes Go.WideShapes Go.ChangeAt Go.RowKit
set_option linter.unusedVariables false
set_option linter.unusedSimpArgs false
set_option maxRecDepth 100000
theorem CxsAt.grown {W w' : World} {b o n c : Nat} {xs : List Gi} {row : Option Nat} (h : CxsAt W (.slice (some ⟨b, o, none⟩) n c) xs) (hg : W.grownBy w' row) (hne : some b ≠ row) : CxsAt w' (.slice (some ⟨b, o, none⟩) n c) xs := by
 obtain ⟨p, cap, hv, hl, hm, hc⟩ := h
 refine ⟨p, cap, hv, hl, hm, fun hx => ?_⟩
 obtain ⟨b', o', hp, hbb, hc⟩ := hc hx
 have hb : b' = b := by
  rw [hp] at hv
  cases hv
  rfl
 have hs := hg.block b' hbb (by rw [hb]; exact hne)
 refine ⟨b', o', hp, Nat.lt_of_lt_of_le hbb hg.size, fun j x hj => ?_⟩
 have := hc j x hj
 unfold World.cell? at this ⊢
 rw [hs]
 exact this
set_option maxHeartbeats 4000000 in
theorem of14_of (fo lo ke sc mo st z : Int) (iv : Bool) (L : List Gi) (sp : Option Addr) (cl : Nat) (ls : List Int) (E : Nat → Int) (hL : L.length ≤ 6) (hlen : ls.length = L.length) (HPS : Hid (∀ W, Calls Tryz.prog 48 #[.agg #[.int .i64 fo, .int .i64 lo, .int .i64 ke, .int .i64 sc, .int .i64 mo, .bool iv]] W fun e w' => ∃ v, e = .returned v ∧ CxsAt w' v L ∧ Gr W w' ∧ (∀ b, v.ownBlock = some b → W.heap.size ≤ b)))
 (HS0 : CR 56 #[.agg #[.int .i64 fo, .int .i64 lo, .int .i64 ke, .int .i64 sc, .int .i64 mo, .bool iv]] (.int .i64 (E 0)))
 (HST : Hid (∀ (j : Nat) x l, L[j]? = some x → ls[j]? = some l → ∀ W, Calls Tryz.prog 57 #[.int .i64 (E j), .int .i64 x.re, .int .i64 sc, .int .i64 l] W fun e w' => e = .returned (.int .i64 (E (j + 1))) ∧ Gr W w'))
 (hz : if ke = 2 then wrap64 (224 * lo) = st ∧ wrap64 (E L.length + st) = z else E L.length = z) (w : World) (hl : NumsAt w (.slice sp ls.length cl) ls) :
 CW 22 #[.agg #[.int .i64 fo, .int .i64 lo, .int .i64 ke, .int .i64 sc, .int .i64 mo, .bool iv], .slice sp ls.length cl] w (.int .i64 z) :=by
 delta CW
 have HZ := Lib.hid hz
 clear hz
 go_enter Tryz.func22, Tryz.ntmps22
 go_wp2_with fail
 obtain ⟨u1, hu⟩ : ∃ uu, uu = w.alloc (.cells #[.int .i64 fo, .int .i64 lo, .int .i64 ke, .int .i64 sc, .int .i64 mo, .bool iv] 24) := ⟨_, rfl⟩
 have R1 : CellsAt u1 w.heap.size 24 #[.int .i64 fo, .int .i64 lo, .int .i64 ke, .int .i64 sc, .int .i64 mo, .bool iv] := by rw [hu]; exact CellsAt.new w 24 _
 have gu1 : Gr w u1 := by rw [hu]; exact (Gr.refl w).alloc _ _
 have N1 := hl.gr gu1
 try rw [← hu]
 clear hu hl
 refine (HS0.out _).mono ?_
 rintro e w9 ⟨rfl, g9⟩
 have R9 := R1.gr g9
 have N9 := N1.gr g9
 have y9 := gu1.trans g9
 have l9 := R9.lt
 clear R1 N1 gu1 g9 HS0
 obtain ⟨c0, c1, c2, c3, c4, c5⟩ := R9.t6
 go_wp2_with fail
 clear c0 c1 c2 c3 c4 c5 l9
 refine (HPS.out _).mono ?_
 rintro e w2 ⟨vp, rfl, hv2, g2, _⟩
 obtain ⟨pp, pcap, rfl⟩ := hv2.len
 have R2 := R9.gr g2
 have N2 := N9.gr g2
 have y2 := y9.trans g2
 have l2 := R2.lt
 clear R9 N9 y9 g2 HPS
 go_wp2_with fail
 go_loopw [5, 13] (fun v i wr => ∃ j : Nat, j ≤ L.length ∧ i = .int .i64 j ∧ v = .int .i64 (E j) ∧ CellsAt wr w.heap.size 24 #[.int .i64 fo, .int .i64 lo, .int .i64 ke, .int .i64 sc, .int .i64 mo, .bool iv] ∧ CxsAt wr (.slice pp L.length pcap) L ∧ NumsAt wr (.slice sp ls.length cl) ls ∧ Gr w wr)
  (fun _ i _ => L.length - (intOf i).toNat)
 case atStart => exact ⟨0, by omega, rfl, rfl, R2, hv2, N2, y2⟩
 case round =>
  clear R2 hv2 N2 y2 l2
  obtain ⟨j, hj, rfl, rfl, hP, hv, hN, hg⟩ := hrel
  by_cases hlt : j < L.length
  ·skip
   obtain ⟨x, hx⟩ := get_of_lt hlt
   obtain ⟨l, hll⟩ := get_of_lt (show j < ls.length by omega)
   have hlI : (j : Int) < (L.length : Int) := by omega
   have hlS : (j : Int) < (ls.length : Int) := by omega
   have hl6 : (L.length : Int) ≤ 6 := by omega
   obtain ⟨b, o, cap', hsl, hln, hb, hc⟩ := hv.at (by intro e; rw [e] at hlt; simp at hlt)
   cases hsl
   obtain ⟨k1, k2⟩ := hc j x hx
   obtain ⟨b2, o2, cap2, hsl, _, hb2, hc2⟩ := hN.at (by intro e; rw [e] at hlen; simp at hlen; omega)
   cases hsl
   have kl := hc2 j l hll
   clear hc hc2
   have HSX := Lib.hid (HST.out j x l hx hll)
   clear hx hll
   obtain ⟨re, im⟩ := x
   simp only at k1 k2 HSX
   go_wp2_with fail
   obtain ⟨u3, hu⟩ : ∃ uu, uu = wr.alloc (.cells #[.int .i64 re, .int .i64 im] 72) := ⟨_, rfl⟩
   have X3 : CellsAt u3 wr.heap.size 72 #[.int .i64 re, .int .i64 im] := by rw [hu]; exact CellsAt.new wr 72 _
   have y3 : Gr wr u3 := by rw [hu]; exact (Gr.refl wr).alloc _ _
   have P3 := hP.gr y3
   have hb3 : b2 < u3.heap.size := Nat.lt_of_lt_of_le hb2 y3.size
   have kl3 := (y3.cell (p := ⟨b2, o2 + j, none⟩) hb2).trans kl
   try rw [← hu]
   clear hu k1 k2 kl
   have KS : ∀ W, Gr u3 W → (W.cell? ⟨wr.heap.size, 0, none⟩ = some (.int .i64 re) ∧ W.cell? ⟨wr.heap.size, 1, none⟩ = some (.int .i64 im) ∧ W.cell? ⟨b2, o2 + j, none⟩ = some (.int .i64 l) ∧ W.cell? ⟨w.heap.size, 0, none⟩ = some (.int .i64 fo) ∧ W.cell? ⟨w.heap.size, 1, none⟩ = some (.int .i64 lo) ∧ W.cell? ⟨w.heap.size, 2, none⟩ = some (.int .i64 ke) ∧ W.cell? ⟨w.heap.size, 3, none⟩ = some (.int .i64 sc) ∧ W.cell? ⟨w.heap.size, 4, none⟩ = some (.int .i64 mo) ∧ W.cell? ⟨w.heap.size, 5, none⟩ = some (.bool iv)) := fun W hG =>
    ⟨(X3.gr hG).cell 0, (X3.gr hG).cell 1, (hG.cell (p := ⟨b2, o2 + j, none⟩) hb3).trans kl3, (P3.gr hG).cell 0, (P3.gr hG).cell 1, (P3.gr hG).cell 2, (P3.gr hG).cell 3, (P3.gr hG).cell 4, (P3.gr hG).cell 5⟩
   have hclG := gr_closed u3
   try simp only [List.append_eq, List.cons_append, List.nil_append]
   refine wp_region_grow (S := Gr u3) rfl (Gr.drew (Gr.refl _)) ?_
   refine gT 0 hclG ?_
   refine gT 1 hclG ?_
   refine gK 2 hclG KS ?_
   refine gT 3 hclG ?_
   refine gK 4 hclG KS ?_
   refine gT 5 hclG ?_
   refine gT 6 hclG ?_
   refine gT 7 hclG ?_
   refine gK 8 hclG KS ?_
   refine wpG_call (i := 9) hclG rfl (by kernel_rfl) (by kernel_rfl) (by kernel_rfl) (fun _ _ _ h => h) (fun W hS => HSX.out W) (by rfl) ?_ ?_
   ·(intro w' hSw; go_simp; try with_reducible rfl)
   try simp only [Act.put, putS]
   refine gT 10 hclG ?_
   refine wpG_done (by kernel_rfl) (fun w8 g8 => ?_) _
   replace g8 := (Gr.drew (Gr.refl u3)).trans g8
   clear hclG KS
   have y8 := y3.trans g8
   go_wp2_with fail
   go_roundw
   case rel => exact ⟨j + 1, by omega, by go_num, rfl, hP.gr y8, hv.gr y8, hN.gr y8, hg.trans y8⟩
   case measure => simp [intOf]; omega
  ·obtain rfl : j = L.length := by omega
   have hlI : ¬ (L.length : Int) < (L.length : Int) := by omega
   have l1 := hP.lt
   obtain ⟨c0, c1, c2, c3, c4, c5⟩ := hP.t6
   have hz := HZ.out
   by_cases hk : ke = 2
   ·rw [if_pos hk] at hz
    subst hk
    obtain ⟨z1, z2⟩ := hz
    go_wp2_with fail
    go_ret
    exact ⟨by simp [*], hg⟩
   ·rw [if_neg hk] at hz
    have hk' : (ke == 2) = false := by simp [hk]
    go_wp2_with fail
    go_ret
    exact ⟨by simp [hz], hg⟩
set_option maxHeartbeats 4000000 in
theorem shifts14_of (fo lo ke sc mo : Int) (iv : Bool) (L : List Gi) (sp : Option Addr) (cl : Nat) (ls : List Int) (hL : L.length ≤ 6) (hls : ls.length ≤ 10) (HPS : Hid (∀ W, Calls Tryz.prog 48 #[.agg #[.int .i64 fo, .int .i64 lo, .int .i64 ke, .int .i64 sc, .int .i64 mo, .bool iv]] W fun e w' => ∃ v, e = .returned v ∧ CxsAt w' v L ∧ Gr W w' ∧ (∀ b, v.ownBlock = some b → W.heap.size ≤ b))) (HT : Hid (∀ k W, Calls Tryz.prog 55 #[.agg #[.int .i64 fo, .int .i64 lo, .int .i64 ke, .int .i64 sc, .int .i64 mo, .bool iv], .int .i64 k] W fun e w' => e = .returned (.int .i64 (topB sc k)) ∧ Gr W w')) (w : World) (hl : NumsAt w (.slice sp ls.length cl) ls) :
 CW 21 #[.agg #[.int .i64 fo, .int .i64 lo, .int .i64 ke, .int .i64 sc, .int .i64 mo, .bool iv], .slice sp ls.length cl] w (.bool (fitsB sc L ls)) :=by
 delta CW
 go_enter Tryz.func21, Tryz.ntmps21
 go_wp2_with fail
 obtain ⟨u1, hu⟩ : ∃ uu, uu = w.alloc (.cells #[.int .i64 fo, .int .i64 lo, .int .i64 ke, .int .i64 sc, .int .i64 mo, .bool iv] 24) := ⟨_, rfl⟩
 have R1 : CellsAt u1 w.heap.size 24 #[.int .i64 fo, .int .i64 lo, .int .i64 ke, .int .i64 sc, .int .i64 mo, .bool iv] := by rw [hu]; exact CellsAt.new w 24 _
 have gu1 : Gr w u1 := by rw [hu]; exact (Gr.refl w).alloc _ _
 have N1 := hl.gr gu1
 try rw [← hu]
 clear hu hl
 refine (HPS.out _).mono ?_
 rintro e w2 ⟨vp, rfl, hv2, g2, _⟩
 obtain ⟨pp, pcap, rfl⟩ := hv2.len
 have R2 := R1.gr g2
 have N2 := N1.gr g2
 have y2 := gu1.trans g2
 have l2 := R2.lt
 clear R1 N1 gu1 g2 HPS
 by_cases hlen : ls.length = L.length
 ·have hlenI : (ls.length : Int) = (L.length : Int) := by omega
  have hlb : ((ls.length : Int) == (L.length : Int)) = true := by simp [hlen]
  go_wp2_with fail
  go_loopw [17] (fun i wr => ∃ j : Nat, j ≤ L.length ∧ i = .int .i64 j ∧ (∀ (i : Nat) x l, i < j → L[i]? = some x → ls[i]? = some l → fitB sc x.re l = true) ∧ CellsAt wr w.heap.size 24 #[.int .i64 fo, .int .i64 lo, .int .i64 ke, .int .i64 sc, .int .i64 mo, .bool iv] ∧ CxsAt wr (.slice pp L.length pcap) L ∧ NumsAt wr (.slice sp ls.length cl) ls ∧ Gr w wr)
   (fun i _ => L.length - (intOf i).toNat)
  case atStart => exact ⟨0, by omega, rfl, fun i _ _ h => absurd h (Nat.not_lt_zero _), R2, hv2, N2, y2⟩
  case round =>
   clear R2 hv2 N2 y2 l2 hlb
   obtain ⟨j, hj, rfl, hgood, hP, hv, hN, hg⟩ := hrel
   by_cases hlt : j < L.length
   ·skip
    obtain ⟨x, hx⟩ := get_of_lt hlt
    obtain ⟨l, hll⟩ := get_of_lt (show j < ls.length by omega)
    have hlI : (j : Int) < (L.length : Int) := by omega
    have hlS : (j : Int) < (ls.length : Int) := by omega
    have hl6 : (L.length : Int) ≤ 6 := by omega
    obtain ⟨b, o, cap', hsl, hln, hb, hc⟩ := hv.at (by intro e; rw [e] at hlt; simp at hlt)
    cases hsl
    obtain ⟨k1, k2⟩ := hc j x hx
    obtain ⟨b2, o2, cap2, hsl, _, hb2, hc2⟩ := hN.at (by intro e; rw [e] at hlen; simp at hlen; omega)
    cases hsl
    have kl := hc2 j l hll
    clear hc hc2
    have HTX := Lib.hid (HT.out x.re)
    obtain ⟨re, im⟩ := x
    simp only at k1 k2 HTX
    go_wp2_with fail
    obtain ⟨u3, hu⟩ : ∃ uu, uu = wr.alloc (.cells #[.int .i64 re, .int .i64 im] 72) := ⟨_, rfl⟩
    have X3 : CellsAt u3 wr.heap.size 72 #[.int .i64 re, .int .i64 im] := by rw [hu]; exact CellsAt.new wr 72 _
    have y3 : Gr wr u3 := by rw [hu]; exact (Gr.refl wr).alloc _ _
    have P3 := hP.gr y3
    have hb3 : b2 < u3.heap.size := Nat.lt_of_lt_of_le hb2 y3.size
    have kl3 := (y3.cell (p := ⟨b2, o2 + j, none⟩) hb2).trans kl
    try rw [← hu]
    clear hu k1 k2 kl
    have KS : ∀ W, Gr u3 W → (W.cell? ⟨wr.heap.size, 0, none⟩ = some (.int .i64 re) ∧ W.cell? ⟨wr.heap.size, 1, none⟩ = some (.int .i64 im) ∧ W.cell? ⟨b2, o2 + j, none⟩ = some (.int .i64 l) ∧ W.cell? ⟨w.heap.size, 0, none⟩ = some (.int .i64 fo) ∧ W.cell? ⟨w.heap.size, 1, none⟩ = some (.int .i64 lo) ∧ W.cell? ⟨w.heap.size, 2, none⟩ = some (.int .i64 ke) ∧ W.cell? ⟨w.heap.size, 3, none⟩ = some (.int .i64 sc) ∧ W.cell? ⟨w.heap.size, 4, none⟩ = some (.int .i64 mo) ∧ W.cell? ⟨w.heap.size, 5, none⟩ = some (.bool iv)) := fun W hG =>
     ⟨(X3.gr hG).cell 0, (X3.gr hG).cell 1, (hG.cell (p := ⟨b2, o2 + j, none⟩) hb3).trans kl3, (P3.gr hG).cell 0, (P3.gr hG).cell 1, (P3.gr hG).cell 2, (P3.gr hG).cell 3, (P3.gr hG).cell 4, (P3.gr hG).cell 5⟩
    have ht := topB_le sc re
    by_cases h0 : l < 0
    ·have hfit : fitB sc re l = false := by rw [Bool.eq_false_iff, Ne, fitB_iff]; omega
     have h0' : decide (l < 0) = true := by simp [h0]
     have hclG := gr_closed u3
     try simp only [List.append_eq, List.cons_append, List.nil_append]
     refine wp_region_grow (S := Gr u3) rfl (Gr.drew (Gr.refl _)) ?_
     refine gT 0 hclG ?_
     refine gT 1 hclG ?_
     refine gT 2 hclG ?_
     refine gK 3 hclG KS ?_
     refine gT 4 hclG ?_
     refine gT 5 hclG ?_
     refine wpG_skip (i := 6) hclG rfl (by kernel_rfl) (by kernel_rfl) (by kernel_rfl) (fun _ _ _ h => h) (by rfl) ?_
     try simp only [Act.put, putS]
     refine wpG_skip (i := 7) hclG rfl (by kernel_rfl) (by kernel_rfl) (by kernel_rfl) (fun _ _ _ h => h) (by rfl) ?_
     try simp only [Act.put, putS]
     refine wpG_skip (i := 8) hclG rfl (by kernel_rfl) (by kernel_rfl) (by kernel_rfl) (fun _ _ _ h => h) (by rfl) ?_
     try simp only [Act.put, putS]
     refine wpG_skip (i := 9) hclG rfl (by kernel_rfl) (by kernel_rfl) (by kernel_rfl) (fun _ _ _ h => h) (by rfl) ?_
     try simp only [Act.put, putS]
     refine wpG_skip (i := 10) hclG rfl (by kernel_rfl) (by kernel_rfl) (by kernel_rfl) (fun _ _ _ h => h) (by rfl) ?_
     try simp only [Act.put, putS]
     refine wpG_skip (i := 11) hclG rfl (by kernel_rfl) (by kernel_rfl) (by kernel_rfl) (fun _ _ _ h => h) (by rfl) ?_
     try simp only [Act.put, putS]
     refine wpG_skip (i := 12) hclG rfl (by kernel_rfl) (by kernel_rfl) (by kernel_rfl) (fun _ _ _ h => h) (by rfl) ?_
     try simp only [Act.put, putS]
     refine wpG_skip (i := 13) hclG rfl (by kernel_rfl) (by kernel_rfl) (by kernel_rfl) (fun _ _ _ h => h) (by rfl) ?_
     try simp only [Act.put, putS]
     refine wpG_skip (i := 14) hclG rfl (by kernel_rfl) (by kernel_rfl) (by kernel_rfl) (fun _ _ _ h => h) (by rfl) ?_
     try simp only [Act.put, putS]
     refine gT 15 hclG ?_
     refine gT 16 hclG ?_
     refine wpG_skip (i := 17) hclG rfl (by kernel_rfl) (by kernel_rfl) (by kernel_rfl) (fun _ _ _ h => h) (by rfl) ?_
     try simp only [Act.put, putS]
     refine wpG_skip (i := 18) hclG rfl (by kernel_rfl) (by kernel_rfl) (by kernel_rfl) (fun _ _ _ h => h) (by rfl) ?_
     try simp only [Act.put, putS]
     refine wpG_skip (i := 19) hclG rfl (by kernel_rfl) (by kernel_rfl) (by kernel_rfl) (fun _ _ _ h => h) (by rfl) ?_
     try simp only [Act.put, putS]
     refine wpG_skip (i := 20) hclG rfl (by kernel_rfl) (by kernel_rfl) (by kernel_rfl) (fun _ _ _ h => h) (by rfl) ?_
     try simp only [Act.put, putS]
     refine wpG_skip (i := 21) hclG rfl (by kernel_rfl) (by kernel_rfl) (by kernel_rfl) (fun _ _ _ h => h) (by rfl) ?_
     try simp only [Act.put, putS]
     refine wpG_skip (i := 22) hclG rfl (by kernel_rfl) (by kernel_rfl) (by kernel_rfl) (fun _ _ _ h => h) (by rfl) ?_
     try simp only [Act.put, putS]
     refine wpG_skip (i := 23) hclG rfl (by kernel_rfl) (by kernel_rfl) (by kernel_rfl) (fun _ _ _ h => h) (by rfl) ?_
     try simp only [Act.put, putS]
     refine wpG_skip (i := 24) hclG rfl (by kernel_rfl) (by kernel_rfl) (by kernel_rfl) (fun _ _ _ h => h) (by rfl) ?_
     try simp only [Act.put, putS]
     refine wpG_skip (i := 25) hclG rfl (by kernel_rfl) (by kernel_rfl) (by kernel_rfl) (fun _ _ _ h => h) (by rfl) ?_
     try simp only [Act.put, putS]
     refine wpG_skip (i := 26) hclG rfl (by kernel_rfl) (by kernel_rfl) (by kernel_rfl) (fun _ _ _ h => h) (by rfl) ?_
     try simp only [Act.put, putS]
     refine wpG_skip (i := 27) hclG rfl (by kernel_rfl) (by kernel_rfl) (by kernel_rfl) (fun _ _ _ h => h) (by rfl) ?_
     try simp only [Act.put, putS]
     refine wpG_skip (i := 28) hclG rfl (by kernel_rfl) (by kernel_rfl) (by kernel_rfl) (fun _ _ _ h => h) (by rfl) ?_
     try simp only [Act.put, putS]
     refine wpG_skip (i := 29) hclG rfl (by kernel_rfl) (by kernel_rfl) (by kernel_rfl) (fun _ _ _ h => h) (by rfl) ?_
     try simp only [Act.put, putS]
     refine wpG_skip (i := 30) hclG rfl (by kernel_rfl) (by kernel_rfl) (by kernel_rfl) (fun _ _ _ h => h) (by rfl) ?_
     try simp only [Act.put, putS]
     refine gT 31 hclG ?_
     refine wpG_done (by kernel_rfl) (fun w8 g8 => ?_) _
     replace g8 := (Gr.drew (Gr.refl u3)).trans g8
     clear hclG KS
     have y8 := y3.trans g8
     go_wp2_with fail
     go_ret
     exact ⟨by simp [fitsB_off sc L ls j _ l hx hll hfit], hg.trans y8⟩
    ·have h0' : decide (l < 0) = false := by simp; omega
     have h0n : 0 ≤ l := by omega
     by_cases h1 : topB sc re < l
     ·have hfit : fitB sc re l = false := by rw [Bool.eq_false_iff, Ne, fitB_iff]; omega
      have h1' : decide (topB sc re < l) = true := by simp [h1]
      generalize topB sc re = t at *
      have hclG := gr_closed u3
      try simp only [List.append_eq, List.cons_append, List.nil_append]
      refine wp_region_grow (S := Gr u3) rfl (Gr.drew (Gr.refl _)) ?_
      refine gT 0 hclG ?_
      refine gT 1 hclG ?_
      refine gT 2 hclG ?_
      refine gK 3 hclG KS ?_
      refine gT 4 hclG ?_
      refine gT 5 hclG ?_
      refine gT 6 hclG ?_
      refine gT 7 hclG ?_
      refine gT 8 hclG ?_
      refine gK 9 hclG KS ?_
      refine gK 10 hclG KS ?_
      refine gT 11 hclG ?_
      refine gK 12 hclG KS ?_
      refine wpG_call (i := 13) hclG rfl (by kernel_rfl) (by kernel_rfl) (by kernel_rfl) (fun _ _ _ h => h) (fun W hS => HTX.out W) (by rfl) ?_ ?_
      ·(intro w' hSw; go_simp; try with_reducible rfl)
      try simp only [Act.put, putS]
      refine gT 14 hclG ?_
      refine gT 15 hclG ?_
      refine gT 16 hclG ?_
      refine wpG_skip (i := 17) hclG rfl (by kernel_rfl) (by kernel_rfl) (by kernel_rfl) (fun _ _ _ h => h) (by rfl) ?_
      try simp only [Act.put, putS]
      refine wpG_skip (i := 18) hclG rfl (by kernel_rfl) (by kernel_rfl) (by kernel_rfl) (fun _ _ _ h => h) (by rfl) ?_
      try simp only [Act.put, putS]
      refine wpG_skip (i := 19) hclG rfl (by kernel_rfl) (by kernel_rfl) (by kernel_rfl) (fun _ _ _ h => h) (by rfl) ?_
      try simp only [Act.put, putS]
      refine wpG_skip (i := 20) hclG rfl (by kernel_rfl) (by kernel_rfl) (by kernel_rfl) (fun _ _ _ h => h) (by rfl) ?_
      try simp only [Act.put, putS]
      refine wpG_skip (i := 21) hclG rfl (by kernel_rfl) (by kernel_rfl) (by kernel_rfl) (fun _ _ _ h => h) (by rfl) ?_
      try simp only [Act.put, putS]
      refine wpG_skip (i := 22) hclG rfl (by kernel_rfl) (by kernel_rfl) (by kernel_rfl) (fun _ _ _ h => h) (by rfl) ?_
      try simp only [Act.put, putS]
      refine wpG_skip (i := 23) hclG rfl (by kernel_rfl) (by kernel_rfl) (by kernel_rfl) (fun _ _ _ h => h) (by rfl) ?_
      try simp only [Act.put, putS]
      refine wpG_skip (i := 24) hclG rfl (by kernel_rfl) (by kernel_rfl) (by kernel_rfl) (fun _ _ _ h => h) (by rfl) ?_
      try simp only [Act.put, putS]
      refine wpG_skip (i := 25) hclG rfl (by kernel_rfl) (by kernel_rfl) (by kernel_rfl) (fun _ _ _ h => h) (by rfl) ?_
      try simp only [Act.put, putS]
      refine wpG_skip (i := 26) hclG rfl (by kernel_rfl) (by kernel_rfl) (by kernel_rfl) (fun _ _ _ h => h) (by rfl) ?_
      try simp only [Act.put, putS]
      refine wpG_skip (i := 27) hclG rfl (by kernel_rfl) (by kernel_rfl) (by kernel_rfl) (fun _ _ _ h => h) (by rfl) ?_
      try simp only [Act.put, putS]
      refine wpG_skip (i := 28) hclG rfl (by kernel_rfl) (by kernel_rfl) (by kernel_rfl) (fun _ _ _ h => h) (by rfl) ?_
      try simp only [Act.put, putS]
      refine wpG_skip (i := 29) hclG rfl (by kernel_rfl) (by kernel_rfl) (by kernel_rfl) (fun _ _ _ h => h) (by rfl) ?_
      try simp only [Act.put, putS]
      refine wpG_skip (i := 30) hclG rfl (by kernel_rfl) (by kernel_rfl) (by kernel_rfl) (fun _ _ _ h => h) (by rfl) ?_
      try simp only [Act.put, putS]
      refine gT 31 hclG ?_
      refine wpG_done (by kernel_rfl) (fun w8 g8 => ?_) _
      replace g8 := (Gr.drew (Gr.refl u3)).trans g8
      clear hclG KS
      have y8 := y3.trans g8
      go_wp2_with fail
      go_ret
      exact ⟨by simp [fitsB_off sc L ls j _ l hx hll hfit], hg.trans y8⟩
     ·have h1' : decide (topB sc re < l) = false := by simp; omega
      have h1n : l ≤ topB sc re := by omega
      by_cases h2 : sc = 1
      ·have hfit : fitB sc re l = true := fitB_iff.2 ⟨⟨h0n, h1n⟩, .inl h2⟩
       subst h2
       generalize topB 1 re = t at *
       have hclG := gr_closed u3
       try simp only [List.append_eq, List.cons_append, List.nil_append]
       refine wp_region_grow (S := Gr u3) rfl (Gr.drew (Gr.refl _)) ?_
       refine gT 0 hclG ?_
       refine gT 1 hclG ?_
       refine gT 2 hclG ?_
       refine gK 3 hclG KS ?_
       refine gT 4 hclG ?_
       refine gT 5 hclG ?_
       refine gT 6 hclG ?_
       refine gT 7 hclG ?_
       refine gT 8 hclG ?_
       refine gK 9 hclG KS ?_
       refine gK 10 hclG KS ?_
       refine gT 11 hclG ?_
       refine gK 12 hclG KS ?_
       refine wpG_call (i := 13) hclG rfl (by kernel_rfl) (by kernel_rfl) (by kernel_rfl) (fun _ _ _ h => h) (fun W hS => HTX.out W) (by rfl) ?_ ?_
       ·(intro w' hSw; go_simp; try with_reducible rfl)
       try simp only [Act.put, putS]
       refine gT 14 hclG ?_
       refine gT 15 hclG ?_
       refine gT 16 hclG ?_
       refine gT 17 hclG ?_
       refine gK 18 hclG KS ?_
       refine gT 19 hclG ?_
       refine gT 20 hclG ?_
       refine wpG_skip (i := 21) hclG rfl (by kernel_rfl) (by kernel_rfl) (by kernel_rfl) (fun _ _ _ h => h) (by rfl) ?_
       try simp only [Act.put, putS]
       refine wpG_skip (i := 22) hclG rfl (by kernel_rfl) (by kernel_rfl) (by kernel_rfl) (fun _ _ _ h => h) (by rfl) ?_
       try simp only [Act.put, putS]
       refine wpG_skip (i := 23) hclG rfl (by kernel_rfl) (by kernel_rfl) (by kernel_rfl) (fun _ _ _ h => h) (by rfl) ?_
       try simp only [Act.put, putS]
       refine wpG_skip (i := 24) hclG rfl (by kernel_rfl) (by kernel_rfl) (by kernel_rfl) (fun _ _ _ h => h) (by rfl) ?_
       try simp only [Act.put, putS]
       refine wpG_skip (i := 25) hclG rfl (by kernel_rfl) (by kernel_rfl) (by kernel_rfl) (fun _ _ _ h => h) (by rfl) ?_
       try simp only [Act.put, putS]
       refine wpG_skip (i := 26) hclG rfl (by kernel_rfl) (by kernel_rfl) (by kernel_rfl) (fun _ _ _ h => h) (by rfl) ?_
       try simp only [Act.put, putS]
       refine wpG_skip (i := 27) hclG rfl (by kernel_rfl) (by kernel_rfl) (by kernel_rfl) (fun _ _ _ h => h) (by rfl) ?_
       try simp only [Act.put, putS]
       refine wpG_skip (i := 28) hclG rfl (by kernel_rfl) (by kernel_rfl) (by kernel_rfl) (fun _ _ _ h => h) (by rfl) ?_
       try simp only [Act.put, putS]
       refine wpG_skip (i := 29) hclG rfl (by kernel_rfl) (by kernel_rfl) (by kernel_rfl) (fun _ _ _ h => h) (by rfl) ?_
       try simp only [Act.put, putS]
       refine gT 30 hclG ?_
       refine gT 31 hclG ?_
       refine wpG_done (by kernel_rfl) (fun w8 g8 => ?_) _
       replace g8 := (Gr.drew (Gr.refl u3)).trans g8
       clear hclG KS
       have y8 := y3.trans g8
       go_wp2_with fail
       go_roundw
       case rel => exact ⟨j + 1, by omega, by go_num, fun i x' l' h1 h2 h3 => by
        by_cases e : i = j
        ·subst e; rw [hx] at h2; rw [hll] at h3; cases h2; cases h3; exact hfit
        ·exact hgood i x' l' (by omega) h2 h3, hP.gr y8, hv.gr y8, hN.gr y8, hg.trans y8⟩
       case measure => simp [intOf]; omega
      ·have h2' : (sc == 1) = false := by simp [h2]
       have h2b : (sc != 1) = true := by simp [h2]
       by_cases h3 : l = topB sc re
       ·have hfit : fitB sc re l = true := fitB_iff.2 ⟨⟨h0n, h1n⟩, .inr h3⟩
        have h3' : (l == topB sc re) = true := by simp [h3]
        generalize topB sc re = t at *
        subst h3
        have hclG := gr_closed u3
        try simp only [List.append_eq, List.cons_append, List.nil_append]
        refine wp_region_grow (S := Gr u3) rfl (Gr.drew (Gr.refl _)) ?_
        refine gT 0 hclG ?_
        refine gT 1 hclG ?_
        refine gT 2 hclG ?_
        refine gK 3 hclG KS ?_
        refine gT 4 hclG ?_
        refine gT 5 hclG ?_
        refine gT 6 hclG ?_
        refine gT 7 hclG ?_
        refine gT 8 hclG ?_
        refine gK 9 hclG KS ?_
        refine gK 10 hclG KS ?_
        refine gT 11 hclG ?_
        refine gK 12 hclG KS ?_
        refine wpG_call (i := 13) hclG rfl (by kernel_rfl) (by kernel_rfl) (by kernel_rfl) (fun _ _ _ h => h) (fun W hS => HTX.out W) (by rfl) ?_ ?_
        ·(intro w' hSw; go_simp; try with_reducible rfl)
        try simp only [Act.put, putS]
        refine gT 14 hclG ?_
        refine gT 15 hclG ?_
        refine gT 16 hclG ?_
        refine gT 17 hclG ?_
        refine gK 18 hclG KS ?_
        refine gT 19 hclG ?_
        refine gT 20 hclG ?_
        refine gT 21 hclG ?_
        refine gT 22 hclG ?_
        refine gT 23 hclG ?_
        refine gK 24 hclG KS ?_
        refine gK 25 hclG KS ?_
        refine gT 26 hclG ?_
        refine gK 27 hclG KS ?_
        refine wpG_call (i := 28) hclG rfl (by kernel_rfl) (by kernel_rfl) (by kernel_rfl) (fun _ _ _ h => h) (fun W hS => HTX.out W) (by rfl) ?_ ?_
        ·(intro w' hSw; go_simp; try with_reducible rfl)
        try simp only [Act.put, putS]
        refine gT 29 hclG ?_
        refine gT 30 hclG ?_
        refine gT 31 hclG ?_
        refine wpG_done (by kernel_rfl) (fun w8 g8 => ?_) _
        replace g8 := (Gr.drew (Gr.refl u3)).trans g8
        clear hclG KS
        have y8 := y3.trans g8
        go_wp2_with fail
        go_roundw
        case rel => exact ⟨j + 1, by omega, by go_num, fun i x' l' h1 h2 h3 => by
         by_cases e : i = j
         ·subst e; rw [hx] at h2; rw [hll] at h3; cases h2; cases h3; exact hfit
         ·exact hgood i x' l' (by omega) h2 h3, hP.gr y8, hv.gr y8, hN.gr y8, hg.trans y8⟩
        case measure => simp [intOf]; omega
       ·have hfit : fitB sc re l = false := by rw [Bool.eq_false_iff, Ne, fitB_iff]; rintro ⟨_, h | h⟩; exact h2 h; exact h3 h
        have h3' : (l == topB sc re) = false := by simp [h3]
        have h3b : (l != topB sc re) = true := by simp [h3]
        generalize topB sc re = t at *
        have hclG := gr_closed u3
        try simp only [List.append_eq, List.cons_append, List.nil_append]
        refine wp_region_grow (S := Gr u3) rfl (Gr.drew (Gr.refl _)) ?_
        refine gT 0 hclG ?_
        refine gT 1 hclG ?_
        refine gT 2 hclG ?_
        refine gK 3 hclG KS ?_
        refine gT 4 hclG ?_
        refine gT 5 hclG ?_
        refine gT 6 hclG ?_
        refine gT 7 hclG ?_
        refine gT 8 hclG ?_
        refine gK 9 hclG KS ?_
        refine gK 10 hclG KS ?_
        refine gT 11 hclG ?_
        refine gK 12 hclG KS ?_
        refine wpG_call (i := 13) hclG rfl (by kernel_rfl) (by kernel_rfl) (by kernel_rfl) (fun _ _ _ h => h) (fun W hS => HTX.out W) (by rfl) ?_ ?_
        ·(intro w' hSw; go_simp; try with_reducible rfl)
        try simp only [Act.put, putS]
        refine gT 14 hclG ?_
        refine gT 15 hclG ?_
        refine gT 16 hclG ?_
        refine gT 17 hclG ?_
        refine gK 18 hclG KS ?_
        refine gT 19 hclG ?_
        refine gT 20 hclG ?_
        refine gT 21 hclG ?_
        refine gT 22 hclG ?_
        refine gT 23 hclG ?_
        refine gK 24 hclG KS ?_
        refine gK 25 hclG KS ?_
        refine gT 26 hclG ?_
        refine gK 27 hclG KS ?_
        refine wpG_call (i := 28) hclG rfl (by kernel_rfl) (by kernel_rfl) (by kernel_rfl) (fun _ _ _ h => h) (fun W hS => HTX.out W) (by rfl) ?_ ?_
        ·(intro w' hSw; go_simp; try with_reducible rfl)
        try simp only [Act.put, putS]
        refine gT 29 hclG ?_
        refine gT 30 hclG ?_
        refine gT 31 hclG ?_
        refine wpG_done (by kernel_rfl) (fun w8 g8 => ?_) _
        replace g8 := (Gr.drew (Gr.refl u3)).trans g8
        clear hclG KS
        have y8 := y3.trans g8
        go_wp2_with fail
        go_ret
        exact ⟨by simp [fitsB_off sc L ls j _ l hx hll hfit], hg.trans y8⟩
   ·obtain rfl : j = L.length := by omega
    have hlI : ¬ (L.length : Int) < (L.length : Int) := by omega
    go_wp2_with fail
    go_ret
    exact ⟨by simp [fitsB_all sc L ls hlen.symm fun i x l h2 h3 => hgood i x l (List.getElem?_eq_some_iff.1 h2).1 h2 h3], hg⟩
 ·have hlb : ((ls.length : Int) == (L.length : Int)) = false := by simp; omega
  have hln : ¬ (ls.length : Int) = (L.length : Int) := by omega
  go_wp2_with fail
  go_ret
  exact ⟨by simp [fitsB_no sc L ls (fun e => hlen e.symm)], y2⟩
theorem nums_of_cells {W : World} {B cap : Nat} {t : TypeId} {c : Array Value} {ls : List Int} (h : CellsAt W B t c) (hc : ∀ (j : Nat) x, ls[j]? = some x → c[j]? = some (.int .i64 x)) (h1 : ls.length ≤ cap) (h2 : cap ≤ maxLen) : NumsAt W (.slice (some ⟨B, 0, none⟩) ls.length cap) ls := by
 refine ⟨_, cap, rfl, h1, h2, fun _ => ⟨B, 0, rfl, h.lt, fun j x hj => ?_⟩⟩
 rw [Nat.zero_add, h.cell]
 exact hc j x hj
end
end Go.Proofs.YtdignnmpfkgkoaaGreat
