import Derived.Test.YtdignnmpfkgkoaaGreatRealUntanglesS22
namespace Go.Proofs.YtdignnmpfkgkoaaGreat
section
open Go.ChangeShapes Go.WideShapes Go.ChangeAt Go.RowKit
set_option linter.unusedVariables false
set_option linter.unusedSimpArgs false
set_option maxRecDepth 100000
theorem start14_c (fo lo ke sc mo : Int) (iv : Bool) (w : World) : CW 56 #[.agg #[.int .i64 fo, .int .i64 lo, .int .i64 ke, .int .i64 sc, .int .i64 mo, .bool iv]] w (.int .i64 (startB sc)) :=by
 delta CW
 by_cases h : sc = 0
 ·subst h
  go_enter Tryz.func56, Tryz.ntmps56
  go_wp2_with fail
  go_ret
  exact ⟨rfl, by repeat (first | exact Gr.refl _ | apply Gr.drew | apply Gr.alloc)⟩
 ·have h' : (sc == 0) = false := by simp [h]
  unfold startB
  rw [if_neg h]
  go_enter Tryz.func56, Tryz.ntmps56
  go_wp2_with fail
  go_ret
  exact ⟨rfl, by repeat (first | exact Gr.refl _ | apply Gr.drew | apply Gr.alloc)⟩
theorem up14_c (n s q : Int) (n0 : 0 ≤ n) (n1 : n ≤ 8796093022208) (s0 : 0 ≤ s) (s1 : s ≤ 3) (hq : upB n s.toNat = q) (w : World) : Calls Tryz.prog 103 #[.int .i64 n, .int .i64 s] w fun e w' => e = .returned (.int .i64 q) ∧ w' = w := by
 have hp := upB_pos n s.toNat n0 (by omega)
 have HF := Lib.hid (floor_c (-n) s (by omega) s0 (by omega))
 have he : -n / 2 ^ s.toNat = -q := by unfold upB at hq; omega
 rw [he] at HF
 rw [hq] at hp
 clear he hq
 go_enter Tryz.func103, Tryz.ntmps103
 go_wp2_with (go_at_call 145; refine (HF.out _).mono ?_; rintro e wz ⟨rfl, rfl⟩)
 go_ret
 exact ⟨by simp, rfl⟩
theorem step14_c (e k sc s : Int) (h : mayB e k sc s = true) (w : World) : Calls Tryz.prog 57 #[.int .i64 e, .int .i64 k, .int .i64 sc, .int .i64 s] w fun e' w' => e' = .returned (.int .i64 (stepB e k sc s)) ∧ w' = w := by
 obtain ⟨⟨h0, h1⟩, hk, ⟨h2, h3⟩, h4, h5⟩ := mayB_iff.1 h
 clear h
 by_cases hs : sc = 2
 ·subst hs
  rcases hk with rfl | rfl
  ·rw [show stepB e 2 2 s = 2 * e + 608 by simp [stepB]]
   go_enter Tryz.func57, Tryz.ntmps57
   go_wp2_with fail
   go_ret
   exact ⟨by first | rfl | (simp; done) | (simp; omega), rfl⟩
  ·rw [show stepB e 4 2 s = 4 * e + 1632 by simp [stepB]]
   go_enter Tryz.func57, Tryz.ntmps57
   go_wp2_with fail
   go_ret
   exact ⟨by first | rfl | (simp; done) | (simp; omega), rfl⟩
 ·have hs' : (sc == 2) = false := by simp [hs]
  rcases hk with rfl | rfl
  ·rw [show stepB e 2 sc s = upB (2 * e) s.toNat + 224 by simp [stepB, hs]]
   obtain ⟨q, hq⟩ : ∃ q, upB (2 * e) s.toNat = q := ⟨_, rfl⟩
   have hp := upB_pos (2 * e) s.toNat (by omega) (by omega)
   rw [hq] at hp ⊢
   obtain ⟨hp1, hp2, hp3⟩ := hp
   have HU := Lib.hid (up14_c (2 * e) s q (by omega) (by omega) h4 h5 hq)
   clear hq
   go_enter Tryz.func57, Tryz.ntmps57
   go_wp2_with (go_at_call 103; refine (HU.out _).mono ?_; rintro e' wz ⟨rfl, rfl⟩)
   go_ret
   exact ⟨by first | rfl | (simp; done) | (simp; omega), rfl⟩
  ·rw [show stepB e 4 sc s = upB (4 * e) s.toNat + 288 by simp [stepB, hs]]
   obtain ⟨q, hq⟩ : ∃ q, upB (4 * e) s.toNat = q := ⟨_, rfl⟩
   have hp := upB_pos (4 * e) s.toNat (by omega) (by omega)
   rw [hq] at hp ⊢
   obtain ⟨hp1, hp2, hp3⟩ := hp
   have HU := Lib.hid (up14_c (4 * e) s q (by omega) (by omega) h4 h5 hq)
   clear hq
   go_enter Tryz.func57, Tryz.ntmps57
   go_wp2_with (go_at_call 103; refine (HU.out _).mono ?_; rintro e' wz ⟨rfl, rfl⟩)
   go_ret
   exact ⟨by first | rfl | (simp; done) | (simp; omega), rfl⟩
set_option maxHeartbeats 1000000 in
theorem top14_c (fo lo ke sc mo k : Int) (iv : Bool) (w : World) : CW 55 #[.agg #[.int .i64 fo, .int .i64 lo, .int .i64 ke, .int .i64 sc, .int .i64 mo, .bool iv], .int .i64 k] w (.int .i64 (topB sc k)) :=by
 delta CW
 by_cases h2 : sc = 2
 ·subst h2
  rw [show topB 2 k = 0 by simp [topB]]
  go_enter Tryz.func55, Tryz.ntmps55
  go_wp2_with fail
  go_ret
  exact ⟨rfl, by repeat (first | exact Gr.refl _ | apply Gr.drew | apply Gr.alloc)⟩
 ·have h2' : (sc == 2) = false := by simp [h2]
  by_cases h1 : sc = 1
  ·subst h1
   by_cases hk : k = 2
   ·subst hk
    rw [show topB 1 2 = 2 by simp [topB]]
    go_enter Tryz.func55, Tryz.ntmps55
    go_wp2_with fail
    go_ret
    exact ⟨rfl, by repeat (first | exact Gr.refl _ | apply Gr.drew | apply Gr.alloc)⟩
   ·have hk' : (k == 2) = false := by simp [hk]
    rw [show topB 1 k = 3 by simp [topB, hk]]
    go_enter Tryz.func55, Tryz.ntmps55
    go_wp2_with fail
    go_ret
    exact ⟨rfl, by repeat (first | exact Gr.refl _ | apply Gr.drew | apply Gr.alloc)⟩
  ·have h1' : (sc == 1) = false := by simp [h1]
   by_cases h0 : sc = 0
   ·subst h0
    by_cases hk : k = 4
    ·subst hk
     rw [show topB 0 4 = 2 by simp [topB]]
     go_enter Tryz.func55, Tryz.ntmps55
     go_wp2_with fail
     go_ret
     exact ⟨rfl, by repeat (first | exact Gr.refl _ | apply Gr.drew | apply Gr.alloc)⟩
    ·have hk' : (k == 4) = false := by simp [hk]
     rw [show topB 0 k = 1 by simp [topB, hk]]
     go_enter Tryz.func55, Tryz.ntmps55
     go_wp2_with fail
     go_ret
     exact ⟨rfl, by repeat (first | exact Gr.refl _ | apply Gr.drew | apply Gr.alloc)⟩
   ·have h0' : (sc == 0) = false := by simp [h0]
    rw [show topB sc k = 1 by simp [topB, h0, h1, h2]]
    go_enter Tryz.func55, Tryz.ntmps55
    go_wp2_with fail
    go_ret
    exact ⟨rfl, by repeat (first | exact Gr.refl _ | apply Gr.drew | apply Gr.alloc)⟩
set_option maxHeartbeats 1000000 in
theorem passKernel_c (fo lo ke sc mo h : Int) (iv : Bool) (w : World) :
 CW 112 #[.agg #[.int .i64 fo, .int .i64 lo, .int .i64 ke, .int .i64 sc, .int .i64 mo, .bool iv], .int .i64 h] w (.int .i64 (passK ke lo h)) :=by
 delta CW
 by_cases hk : ke = 0
 ·subst hk
  go_enter Tryz.func112, Tryz.ntmps112
  go_wp2_with fail
  go_ret
  exact ⟨by simp [passK, *], (Gr.refl w).alloc _ _⟩
 ·have hk' : (ke == 0) = false := by simp [hk]
  obtain ⟨r, hr⟩ : ∃ r, lo.tmod 2 = r := ⟨_, rfl⟩
  by_cases hl : r = 1
  ·have hl' : (r == 1) = true := by simp [hl]
   by_cases hh : h = 1
   ·have hh' : (h == 1) = true := by simp [hh]
    go_enter Tryz.func112, Tryz.ntmps112
    go_wp2_with fail
    go_ret
    exact ⟨by simp [passK, *], (Gr.refl w).alloc _ _⟩
   ·have hh' : (h == 1) = false := by simp [hh]
    go_enter Tryz.func112, Tryz.ntmps112
    go_wp2_with fail
    go_ret
    exact ⟨by simp [passK, *], (Gr.refl w).alloc _ _⟩
  ·have hl' : (r == 1) = false := by simp [hl]
   go_enter Tryz.func112, Tryz.ntmps112
   go_wp2_with fail
   go_ret
   exact ⟨by simp [passK, *], (Gr.refl w).alloc _ _⟩
theorem info_pass : (Tryz.prog.info? 72).map (fun i => (i.zero, i.size, i.bytes)) = some (some (.agg #[.int .i64 0, .int .i64 0]), 2, 16) := by kernel_rfl
set_option maxHeartbeats 4000000 in
theorem passes_new (fo lo ke sc mo n : Int) (iv : Bool) (hok : okF fo lo ke sc mo = true) (w : World) :
 Calls Tryz.prog 64 #[.agg #[.int .i64 fo, .int .i64 lo, .int .i64 ke, .int .i64 sc, .int .i64 mo, .bool iv]] w fun e w' => ∃ v, e = .returned (.tuple #[v, .int .i64 0]) ∧ CxsAt w' v (passL ke lo) ∧ Gr w w' ∧ (∀ b, v.ownBlock = some b → w.heap.size ≤ b) := by
 have HC := Lib.hid (check_c fo lo ke sc mo iv 0 (by rw [if_pos hok]))
 have hf := okF_iff.1 hok
 obtain ⟨n, hn⟩ : ∃ n : Int, n = 2 ^ lo.toNat := ⟨_, rfl⟩
 obtain ⟨i0, hi, hz0, hz1, hz2⟩ := info_parts info_pass
 by_cases hk : ke = 2
 ·subst hk
  clear hok hf hn
  go_enter Tryz.func64, Tryz.ntmps64
  go_wp2_with fail
  obtain ⟨u0, hu⟩ : ∃ uu, uu = w.alloc (.cells #[.int .i64 fo, .int .i64 lo, .int .i64 2, .int .i64 sc, .int .i64 mo, .bool iv] 24) := ⟨_, rfl⟩
  have R0 : CellsAt u0 w.heap.size 24 #[.int .i64 fo, .int .i64 lo, .int .i64 2, .int .i64 sc, .int .i64 mo, .bool iv] := by rw [hu]; exact CellsAt.new w 24 _
  have gu : Gr w u0 := by rw [hu]; exact (Gr.refl w).alloc _ _
  rw [← hu]
  clear hu
  refine (HC.out _).mono ?_
  rintro e w1 ⟨rfl, g1⟩
  have R1 := R0.gr g1
  have l1 := R1.lt
  have c2 := R1.cell 2
  simp only [getS] at c2
  go_wp2_with fail
  go_ret2
  exact ⟨_, rfl, by unfold passL; rw [if_pos rfl]; exact CxsAt.nil _, gu.trans g1, fun b e => by cases e⟩
 ·have hR := passL_rest ke lo n hk (by omega) (by omega) hn
  obtain ⟨n0, n1, hs⟩ := pow_log lo n (by omega) (by omega) hn
  generalize passL ke lo = L at *
  have hl0 : ¬ lo < 0 := by omega
  have hk' : (ke == 2) = false := by simp [hk]
  have HS := Lib.hid hs
  have HF := Lib.hid hf
  clear hn hs hf hok
  go_enter Tryz.func64, Tryz.ntmps64
  go_wp2_with fail
  obtain ⟨u0, hu⟩ : ∃ uu, uu = w.alloc (.cells #[.int .i64 fo, .int .i64 lo, .int .i64 ke, .int .i64 sc, .int .i64 mo, .bool iv] 24) := ⟨_, rfl⟩
  have R0 : CellsAt u0 w.heap.size 24 #[.int .i64 fo, .int .i64 lo, .int .i64 ke, .int .i64 sc, .int .i64 mo, .bool iv] := by rw [hu]; exact CellsAt.new w 24 _
  have gu : Gr w u0 := by rw [hu]; exact (Gr.refl w).alloc _ _
  rw [← hu]
  clear hu
  refine (HC.out _).mono ?_
  rintro e w1 ⟨rfl, g1⟩
  have R1 := R0.gr g1
  have gu1 := gu.trans g1
  clear R0 gu g1 HC
  have l1 := R1.lt
  have c2 := R1.cell 2
  simp only [getS] at c2
  go_wp2_with fail
  clear c2 hk'
  go_loopw [5, 6] (fun v i wr => ∃ (h : Int) (pre rest : List Gi), i = .int .i64 h ∧ 1 ≤ h ∧ h ≤ 256 ∧ pre.length ≤ h ∧ pre ++ rest = L ∧ Rest ke lo n h rest ∧ wr.ownsRow (w.heap.size + 1) 72 2 v pre.length (gcells pre) ∧ CellsAt wr w.heap.size 24 #[.int .i64 fo, .int .i64 lo, .int .i64 ke, .int .i64 sc, .int .i64 mo, .bool iv] ∧ Gr w wr)
   (fun _ i _ => 400 - (intOf i).toNat)
  case atStart => exact ⟨1, [], L, rfl, by omega, by omega, by simp, rfl, hR, World.ownsRow_nil _ _ _ _, R1, gu1⟩
  case round =>
   clear hR R1 gu1 l1
   obtain ⟨h, pre, rest, rfl, hh1, hh2, hln, hL, hR, hrow, hP, hg⟩ := hrel
   have hs := HS.out
   have hsw : wrap64 (2 ^ min lo.toNat 64) = n := by rw [hs]; exact IntWalk.wrap64_in _ ⟨by omega, by omega⟩
   have l1 := hP.lt
   have c0 := hP.cell 0
   have c1 := hP.cell 1
   have c2 := hP.cell 2
   have c3 := hP.cell 3
   have c4 := hP.cell 4
   have c5 := hP.cell 5
   simp only [getS] at c0 c1 c2 c3 c4 c5
   by_cases hlt : h < n
   ·obtain ⟨l', hl', hR'⟩ := hR.step hh1 hlt
    have HK := Lib.hid (passKernel_c fo lo ke sc mo h iv)
    have hk2 := passK_two ke lo h
    clear hR hs
    generalize passK ke lo h = k at *
    have hm1 : h * 2 ≤ h * k := Int.mul_le_mul_of_nonneg_left hk2.1 (by omega)
    have hm2 : h * k ≤ h * 4 := Int.mul_le_mul_of_nonneg_left hk2.2 (by omega)
    generalize hp : h * k = p at *
    have hpw : wrap64 p = p := IntWalk.wrap64_in _ ⟨by omega, by omega⟩
    rw [← hp] at hpw
    go_wp2_with fail
    refine (HK.out _).mono ?_
    rintro e w2 ⟨rfl, g2⟩
    have hrow2 := ownsRow_gr hrow g2
    have hP2 := hP.gr g2
    have hg2 := hg.trans g2
    have hz := hP2.lt
    clear hrow hP hg g2 c0 c1 c2 c3 c4 c5 l1 HK
    go_wp2_with (at_builtin; refine wpList_append_own_at _ rfl (.tmp 24) (.tmp 28) 69 rfl (w.heap.size + 1) 72 i0 (.agg #[.int .i64 0, .int .i64 0]) 2 16 Tryz.underlying69 hi hz0 hz1 hz2 rfl (by decide) _ _ _ rfl (hrow2.alloc _) ⟨_, 0, none⟩ 1 1 [.int .i64 k, .int .i64 h] rfl rfl (news_two _ _ _ _) (by simp [Value.oneCell']) (by unfold maxLen; omega) (by omega) (by simp; omega) ?_; intro v' w3 hown' hgrow _ hblk)
    have hg3 := (hg2.allocO _).grown hgrow (fun k e => by have := (hrow2.lt k e).1; omega)
    have hP3 := (hP2.alloc _).grown hgrow (fun e => by have := (hrow2.lt _ e.symm).1; omega)
    go_roundw
    case rel =>
     refine ⟨p, pre ++ [⟨k, h⟩], l', by first | rfl | rw [hp], by omega, by omega, by simp; omega, by rw [List.append_assoc, ← hL, hl']; rfl, hR', ?_, hP3, hg3⟩
     rw [List.length_append, gcells_snoc]
     exact hown'
    case measure => simp [intOf]; omega
   ·have hl := hR.done hlt
    subst hl
    go_wp2_with fail
    go_ret2
    refine ⟨_, rfl, ?_, hg, fun b e => Nat.le_of_succ_le (hrow.lt b e).1⟩
    rw [← hL, List.append_nil]
    exact CxsAt.of_row hrow
theorem passes_ok (fo lo ke sc mo n : Int) (iv : Bool) (hok : okF fo lo ke sc mo = true) (w : World) :
 Calls Tryz.prog 64 #[.agg #[.int .i64 fo, .int .i64 lo, .int .i64 ke, .int .i64 sc, .int .i64 mo, .bool iv]] w fun e w' => ∃ v, e = .returned (.tuple #[v, .int .i64 0]) ∧ CxsAt w' v (passL ke lo) ∧ Gr w w' :=
 (passes_new fo lo ke sc mo n iv hok w).mono fun e w' ⟨v, h1, h2, h3, _⟩ => ⟨v, h1, h2, h3⟩
set_option maxHeartbeats 4000000 in
theorem refPasses_2 (fo lo sc mo n : Int) (iv : Bool) (h0 : 2 ≤ lo) (h1 : lo < 7) (hn : n = 2 ^ lo.toNat) (w : World) :
 Calls Tryz.prog 48 #[.agg #[.int .i64 fo, .int .i64 lo, .int .i64 2, .int .i64 sc, .int .i64 mo, .bool iv]] w fun e w' => ∃ v, e = .returned v ∧ CxsAt w' v (passL 2 lo) ∧ Gr w w' ∧ (∀ b, v.ownBlock = some b → w.heap.size ≤ b) := by
 have HP := Lib.hid (pow_c lo (by omega) (by omega))
 rw [← hn] at HP
 obtain ⟨n0, n1, _⟩ := pow_log lo n h0 h1 hn
 obtain ⟨i0, hi, hz0, hz1, hz2⟩ := info_parts info_pass
 clear hn h0 h1
 go_enter Tryz.func48, Tryz.ntmps48
 go_wp2_with fail
 obtain ⟨u1, hu⟩ : ∃ uu, uu = (w.alloc (.cells #[.int .i64 fo, .int .i64 lo, .int .i64 2, .int .i64 sc, .int .i64 mo, .bool iv] 24)).alloc (.cells #[] 72) := ⟨_, rfl⟩
 have R1 : CellsAt u1 w.heap.size 24 #[.int .i64 fo, .int .i64 lo, .int .i64 2, .int .i64 sc, .int .i64 mo, .bool iv] := by rw [hu]; exact (CellsAt.new w 24 _).alloc _
 have hrow0 : u1.ownsRow (w.heap.size + 1) 72 2 (.slice (some ⟨w.heap.size + 1, 0, none⟩) 0 0) 0 [] := by
  rw [hu]
  have := World.ownsRow_made (e := 72) (size := 2) (base := w.heap.size + 1) (w.alloc (.cells #[.int .i64 fo, .int .i64 lo, .int .i64 2, .int .i64 sc, .int .i64 mo, .bool iv] 24)) #[] 0 (by simp) (by unfold maxLen; omega) (by simp)
  simpa only [World.size_alloc] using this
 have gu1 : Gr w u1 := by rw [hu]; exact ((Gr.refl w).alloc _ _).alloc _ _
 rw [← hu]
 clear hu
 have l1 := R1.lt
 have c1 := R1.cell 1
 have c2 := R1.cell 2
 simp only [getS] at c1 c2
 go_wp2_with (first | (go_at_call 38; refine (HP.out _).mono ?_; rintro e wz ⟨rfl, hwz⟩; subst wz))
 go_ret
 refine ⟨_, rfl, ?_, gu1, fun b e => Nat.le_of_succ_le (hrow0.lt b e).1⟩
 unfold passL
 rw [if_pos rfl]
 exact CxsAt.of_row hrow0
set_option maxHeartbeats 4000000 in
theorem refPasses_0 (fo lo sc mo n : Int) (iv : Bool) (h0 : 2 ≤ lo) (h1 : lo < 7) (hn : n = 2 ^ lo.toNat) (w : World) :
 Calls Tryz.prog 48 #[.agg #[.int .i64 fo, .int .i64 lo, .int .i64 0, .int .i64 sc, .int .i64 mo, .bool iv]] w fun e w' => ∃ v, e = .returned v ∧ CxsAt w' v (passL 0 lo) ∧ Gr w w' ∧ (∀ b, v.ownBlock = some b → w.heap.size ≤ b) := by
 have HP := Lib.hid (pow_c lo (by omega) (by omega))
 rw [← hn] at HP
 obtain ⟨n0, n1, _⟩ := pow_log lo n h0 h1 hn
 obtain ⟨i0, hi, hz0, hz1, hz2⟩ := info_parts info_pass
 have hR := passL_rest 0 lo n (by decide) h0 h1 hn
 generalize passL 0 lo = L at *
 clear hn h0 h1
 go_enter Tryz.func48, Tryz.ntmps48
 go_wp2_with fail
 obtain ⟨u1, hu⟩ : ∃ uu, uu = (w.alloc (.cells #[.int .i64 fo, .int .i64 lo, .int .i64 0, .int .i64 sc, .int .i64 mo, .bool iv] 24)).alloc (.cells #[] 72) := ⟨_, rfl⟩
 have R1 : CellsAt u1 w.heap.size 24 #[.int .i64 fo, .int .i64 lo, .int .i64 0, .int .i64 sc, .int .i64 mo, .bool iv] := by rw [hu]; exact (CellsAt.new w 24 _).alloc _
 have hrow0 : u1.ownsRow (w.heap.size + 1) 72 2 (.slice (some ⟨w.heap.size + 1, 0, none⟩) 0 0) 0 [] := by
  rw [hu]
  have := World.ownsRow_made (e := 72) (size := 2) (base := w.heap.size + 1) (w.alloc (.cells #[.int .i64 fo, .int .i64 lo, .int .i64 0, .int .i64 sc, .int .i64 mo, .bool iv] 24)) #[] 0 (by simp) (by unfold maxLen; omega) (by simp)
  simpa only [World.size_alloc] using this
 have gu1 : Gr w u1 := by rw [hu]; exact ((Gr.refl w).alloc _ _).alloc _ _
 rw [← hu]
 clear hu
 have l1 := R1.lt
 have c1 := R1.cell 1
 have c2 := R1.cell 2
 simp only [getS] at c1 c2
 go_wp2_with (first | (go_at_call 38; refine (HP.out _).mono ?_; rintro e wz ⟨rfl, hwz⟩; subst wz))
 clear c1 c2
 go_loopw [3, 5] (fun v i wr => ∃ (h : Int) (pre rest : List Gi), i = .int .i64 h ∧ 1 ≤ h ∧ h ≤ 256 ∧ pre.length ≤ h ∧ pre ++ rest = L ∧ Rest 0 lo n h rest ∧ True ∧ wr.ownsRow (w.heap.size + 1) 72 2 v pre.length (gcells pre) ∧ CellsAt wr w.heap.size 24 #[.int .i64 fo, .int .i64 lo, .int .i64 0, .int .i64 sc, .int .i64 mo, .bool iv] ∧ Gr w wr)
  (fun _ i _ => 400 - (intOf i).toNat)
 case atStart => exact ⟨1, [], L, rfl, by omega, by omega, by simp, rfl, hR, trivial, hrow0, R1, gu1⟩
 case round =>
  clear hR hrow0 R1 gu1 l1
  obtain ⟨h, pre, rest, rfl, hh1, hh2, hln, hL, hR, hx, hrow, hP, hg⟩ := hrel
  have l1 := hP.lt
  have c1 := hP.cell 1
  have c2 := hP.cell 2
  simp only [getS] at c1 c2
  by_cases hlt : h < n
  ·obtain ⟨l', hl', hR'⟩ := hR.step hh1 hlt
   have hk : passK 0 lo h = 2 := by unfold passK; rw [if_pos (.inl rfl)]
   rw [hk] at hl' hR'
   have hpe : h * 2 = 2 * h := Int.mul_comm _ _
   rw [hpe] at hR'
   clear hR hk hpe
   go_wp2_with (at_builtin; refine wpList_append_own_at _ rfl (.tmp 19) (.tmp 22) 69 rfl (w.heap.size + 1) 72 i0 (.agg #[.int .i64 0, .int .i64 0]) 2 16 Tryz.underlying69 hi hz0 hz1 hz2 rfl (by decide) _ _ _ rfl (hrow.alloc _) ⟨_, 0, none⟩ 1 1 [.int .i64 2, .int .i64 h] rfl rfl (news_two _ _ _ _) (by simp [Value.oneCell']) (by unfold maxLen; omega) (by omega) (by simp; omega) ?_; intro v' w3 hown' hgrow _ hblk)
   have hg3 := (hg.allocO _).grown hgrow (fun k e => by have := (hrow.lt k e).1; omega)
   have hP3 := (hP.alloc _).grown hgrow (fun e => by have := (hrow.lt _ e.symm).1; omega)
   go_roundw
   case rel =>
    refine ⟨2 * h, pre ++ [⟨2, h⟩], l', rfl, by omega, by omega, by simp; omega, by rw [List.append_assoc, ← hL, hl']; rfl, hR', trivial, ?_, hP3, hg3⟩
    rw [List.length_append, gcells_snoc]
    exact hown'
   case measure => simp [intOf]; omega
  ·have hl := hR.done hlt
   subst hl
   go_wp2_with fail
   go_ret
   refine ⟨_, rfl, ?_, hg, fun b e => Nat.le_of_succ_le (hrow.lt b e).1⟩
   rw [← hL, List.append_nil]
   exact CxsAt.of_row hrow
set_option maxHeartbeats 4000000 in
theorem refPasses_1e (fo lo sc mo n : Int) (iv : Bool) (h0 : 2 ≤ lo) (h1 : lo < 7) (hn : n = 2 ^ lo.toNat) (r : Int) (hr : lo.tmod 2 = r) (hr1 : ¬ r = 1) (w : World) :
 Calls Tryz.prog 48 #[.agg #[.int .i64 fo, .int .i64 lo, .int .i64 1, .int .i64 sc, .int .i64 mo, .bool iv]] w fun e w' => ∃ v, e = .returned v ∧ CxsAt w' v (passL 1 lo) ∧ Gr w w' ∧ (∀ b, v.ownBlock = some b → w.heap.size ≤ b) := by
 have HP := Lib.hid (pow_c lo (by omega) (by omega))
 rw [← hn] at HP
 obtain ⟨n0, n1, _⟩ := pow_log lo n h0 h1 hn
 obtain ⟨i0, hi, hz0, hz1, hz2⟩ := info_parts info_pass
 have hR := passL_rest 1 lo n (by decide) h0 h1 hn
 generalize passL 1 lo = L at *
 have hr' : (r == 1) = false := by simp [hr1]
 clear hn h0 h1
 go_enter Tryz.func48, Tryz.ntmps48
 go_wp2_with fail
 obtain ⟨u1, hu⟩ : ∃ uu, uu = (w.alloc (.cells #[.int .i64 fo, .int .i64 lo, .int .i64 1, .int .i64 sc, .int .i64 mo, .bool iv] 24)).alloc (.cells #[] 72) := ⟨_, rfl⟩
 have R1 : CellsAt u1 w.heap.size 24 #[.int .i64 fo, .int .i64 lo, .int .i64 1, .int .i64 sc, .int .i64 mo, .bool iv] := by rw [hu]; exact (CellsAt.new w 24 _).alloc _
 have hrow0 : u1.ownsRow (w.heap.size + 1) 72 2 (.slice (some ⟨w.heap.size + 1, 0, none⟩) 0 0) 0 [] := by
  rw [hu]
  have := World.ownsRow_made (e := 72) (size := 2) (base := w.heap.size + 1) (w.alloc (.cells #[.int .i64 fo, .int .i64 lo, .int .i64 1, .int .i64 sc, .int .i64 mo, .bool iv] 24)) #[] 0 (by simp) (by unfold maxLen; omega) (by simp)
  simpa only [World.size_alloc] using this
 have gu1 : Gr w u1 := by rw [hu]; exact ((Gr.refl w).alloc _ _).alloc _ _
 rw [← hu]
 clear hu
 have l1 := R1.lt
 have c1 := R1.cell 1
 have c2 := R1.cell 2
 simp only [getS] at c1 c2
 go_wp2_with (first | (go_at_call 38; refine (HP.out _).mono ?_; rintro e wz ⟨rfl, hwz⟩; subst wz))
 clear c1 c2
 go_loopw [3, 6] (fun v i wr => ∃ (h : Int) (pre rest : List Gi), i = .int .i64 h ∧ 1 ≤ h ∧ h ≤ 256 ∧ pre.length ≤ h ∧ pre ++ rest = L ∧ Rest 1 lo n h rest ∧ True ∧ wr.ownsRow (w.heap.size + 1) 72 2 v pre.length (gcells pre) ∧ CellsAt wr w.heap.size 24 #[.int .i64 fo, .int .i64 lo, .int .i64 1, .int .i64 sc, .int .i64 mo, .bool iv] ∧ Gr w wr)
  (fun _ i _ => 400 - (intOf i).toNat)
 case atStart => exact ⟨1, [], L, rfl, by omega, by omega, by simp, rfl, hR, trivial, hrow0, R1, gu1⟩
 case round =>
  clear hR hrow0 R1 gu1 l1
  obtain ⟨h, pre, rest, rfl, hh1, hh2, hln, hL, hR, hx, hrow, hP, hg⟩ := hrel
  have l1 := hP.lt
  have c1 := hP.cell 1
  have c2 := hP.cell 2
  simp only [getS] at c1 c2
  by_cases hlt : h < n
  ·obtain ⟨l', hl', hR'⟩ := hR.step hh1 hlt
   have hk : passK 1 lo h = 4 := by unfold passK; rw [if_neg (by rw [hr]; omega)]
   rw [hk] at hl' hR'
   have hpe : h * 4 = 4 * h := Int.mul_comm _ _
   rw [hpe] at hR'
   clear hR hk hpe
   go_wp2_with (at_builtin; refine wpList_append_own_at _ rfl (.tmp 38) (.tmp 41) 69 rfl (w.heap.size + 1) 72 i0 (.agg #[.int .i64 0, .int .i64 0]) 2 16 Tryz.underlying69 hi hz0 hz1 hz2 rfl (by decide) _ _ _ rfl (hrow.alloc _) ⟨_, 0, none⟩ 1 1 [.int .i64 4, .int .i64 h] rfl rfl (news_two _ _ _ _) (by simp [Value.oneCell']) (by unfold maxLen; omega) (by omega) (by simp; omega) ?_; intro v' w3 hown' hgrow _ hblk)
   have hg3 := (hg.allocO _).grown hgrow (fun k e => by have := (hrow.lt k e).1; omega)
   have hP3 := (hP.alloc _).grown hgrow (fun e => by have := (hrow.lt _ e.symm).1; omega)
   go_roundw
   case rel =>
    refine ⟨4 * h, pre ++ [⟨4, h⟩], l', rfl, by omega, by omega, by simp; omega, by rw [List.append_assoc, ← hL, hl']; rfl, hR', trivial, ?_, hP3, hg3⟩
    rw [List.length_append, gcells_snoc]
    exact hown'
   case measure => simp [intOf]; omega
  ·have hl := hR.done hlt
   subst hl
   go_wp2_with fail
   go_ret
   refine ⟨_, rfl, ?_, hg, fun b e => Nat.le_of_succ_le (hrow.lt b e).1⟩
   rw [← hL, List.append_nil]
   exact CxsAt.of_row hrow
set_option maxHeartbeats 4000000 in
theorem refPasses_1o (fo lo sc mo n : Int) (iv : Bool) (h0 : 2 ≤ lo) (h1 : lo < 7) (hn : n = 2 ^ lo.toNat) (hr : lo.tmod 2 = 1) (w : World) :
 Calls Tryz.prog 48 #[.agg #[.int .i64 fo, .int .i64 lo, .int .i64 1, .int .i64 sc, .int .i64 mo, .bool iv]] w fun e w' => ∃ v, e = .returned v ∧ CxsAt w' v (passL 1 lo) ∧ Gr w w' ∧ (∀ b, v.ownBlock = some b → w.heap.size ≤ b) := by
 have HP := Lib.hid (pow_c lo (by omega) (by omega))
 rw [← hn] at HP
 obtain ⟨n0, n1, _⟩ := pow_log lo n h0 h1 hn
 obtain ⟨i0, hi, hz0, hz1, hz2⟩ := info_parts info_pass
 have hR := passL_rest 1 lo n (by decide) h0 h1 hn
 generalize passL 1 lo = L at *
 obtain ⟨l', hl', hR'⟩ := hR.step (by omega) (by omega)
 have hk : passK 1 lo 1 = 2 := by unfold passK; rw [if_pos (.inr ⟨hr, rfl⟩)]
 rw [hk] at hl' hR'
 clear hn h0 h1 hR hk
 go_enter Tryz.func48, Tryz.ntmps48
 go_wp2_with fail
 obtain ⟨u1, hu⟩ : ∃ uu, uu = (w.alloc (.cells #[.int .i64 fo, .int .i64 lo, .int .i64 1, .int .i64 sc, .int .i64 mo, .bool iv] 24)).alloc (.cells #[] 72) := ⟨_, rfl⟩
 have R1 : CellsAt u1 w.heap.size 24 #[.int .i64 fo, .int .i64 lo, .int .i64 1, .int .i64 sc, .int .i64 mo, .bool iv] := by rw [hu]; exact (CellsAt.new w 24 _).alloc _
 have hrow0 : u1.ownsRow (w.heap.size + 1) 72 2 (.slice (some ⟨w.heap.size + 1, 0, none⟩) 0 0) 0 [] := by
  rw [hu]
  have := World.ownsRow_made (e := 72) (size := 2) (base := w.heap.size + 1) (w.alloc (.cells #[.int .i64 fo, .int .i64 lo, .int .i64 1, .int .i64 sc, .int .i64 mo, .bool iv] 24)) #[] 0 (by simp) (by unfold maxLen; omega) (by simp)
  simpa only [World.size_alloc] using this
 have gu1 : Gr w u1 := by rw [hu]; exact ((Gr.refl w).alloc _ _).alloc _ _
 rw [← hu]
 clear hu
 have l1 := R1.lt
 have c1 := R1.cell 1
 have c2 := R1.cell 2
 simp only [getS] at c1 c2
 go_wp2_with (first | (go_at_call 38; refine (HP.out _).mono ?_; rintro e wz ⟨rfl, hwz⟩; subst wz) | (at_builtin; refine wpList_append_own_at _ rfl (.tmp 31) (.tmp 33) 69 rfl (w.heap.size + 1) 72 i0 (.agg #[.int .i64 0, .int .i64 0]) 2 16 Tryz.underlying69 hi hz0 hz1 hz2 rfl (by decide) _ _ _ rfl (hrow0.alloc _) ⟨_, 0, none⟩ 1 1 [.int .i64 2, .int .i64 1] rfl rfl (news_two _ _ _ _) (by simp [Value.oneCell']) (by unfold maxLen; omega) (by omega) (by simp; omega) ?_; intro v' w3 hown' hgrow _ hblk))
 have gu2 := (gu1.allocO _).grown hgrow (fun k e => by have := (hrow0.lt k e).1; omega)
 have R2 := (R1.alloc _).grown hgrow (fun e => by have := (hrow0.lt _ e.symm).1; omega)
 have hrow2 := hown'
 clear hrow0 gu1 R1 c1 c2 l1 hown' hgrow hblk
 go_loopw [3, 6] (fun v i wr => ∃ (h : Int) (pre rest : List Gi), i = .int .i64 h ∧ 1 ≤ h ∧ h ≤ 256 ∧ pre.length ≤ h ∧ pre ++ rest = L ∧ Rest 1 lo n h rest ∧ 2 ≤ h ∧ wr.ownsRow (w.heap.size + 1) 72 2 v pre.length (gcells pre) ∧ CellsAt wr w.heap.size 24 #[.int .i64 fo, .int .i64 lo, .int .i64 1, .int .i64 sc, .int .i64 mo, .bool iv] ∧ Gr w wr)
  (fun _ i _ => 400 - (intOf i).toNat)
 case atStart => exact ⟨2, [⟨2, 1⟩], l', rfl, by omega, by omega, by simp, by rw [hl']; rfl, hR', by omega, hrow2, R2, gu2⟩
 case round =>
  clear hR' hrow2 R2 gu2
  obtain ⟨h, pre, rest, rfl, hh1, hh2, hln, hL, hR, hx, hrow, hP, hg⟩ := hrel
  have l1 := hP.lt
  have c1 := hP.cell 1
  have c2 := hP.cell 2
  simp only [getS] at c1 c2
  by_cases hlt : h < n
  ·obtain ⟨l', hl', hR'⟩ := hR.step hh1 hlt
   have hk : passK 1 lo h = 4 := by unfold passK; rw [if_neg (by omega)]
   rw [hk] at hl' hR'
   have hpe : h * 4 = 4 * h := Int.mul_comm _ _
   rw [hpe] at hR'
   clear hR hk hpe
   go_wp2_with (at_builtin; refine wpList_append_own_at _ rfl (.tmp 38) (.tmp 41) 69 rfl (w.heap.size + 1) 72 i0 (.agg #[.int .i64 0, .int .i64 0]) 2 16 Tryz.underlying69 hi hz0 hz1 hz2 rfl (by decide) _ _ _ rfl (hrow.alloc _) ⟨_, 0, none⟩ 1 1 [.int .i64 4, .int .i64 h] rfl rfl (news_two _ _ _ _) (by simp [Value.oneCell']) (by unfold maxLen; omega) (by omega) (by simp; omega) ?_; intro v' w3 hown' hgrow _ hblk)
   have hg3 := (hg.allocO _).grown hgrow (fun k e => by have := (hrow.lt k e).1; omega)
   have hP3 := (hP.alloc _).grown hgrow (fun e => by have := (hrow.lt _ e.symm).1; omega)
   go_roundw
   case rel =>
    refine ⟨4 * h, pre ++ [⟨4, h⟩], l', rfl, by omega, by omega, by simp; omega, by rw [List.append_assoc, ← hL, hl']; rfl, hR', by omega, ?_, hP3, hg3⟩
    rw [List.length_append, gcells_snoc]
    exact hown'
   case measure => simp [intOf]; omega
  ·have hl := hR.done hlt
   subst hl
   go_wp2_with fail
   go_ret
   refine ⟨_, rfl, ?_, hg, fun b e => Nat.le_of_succ_le (hrow.lt b e).1⟩
   rw [← hl', ← hL, List.append_nil]
   exact CxsAt.of_row hrow
theorem refPasses_new (fo lo ke sc mo : Int) (iv : Bool) (hok : okF fo lo ke sc mo = true) (w : World) :
 Calls Tryz.prog 48 #[.agg #[.int .i64 fo, .int .i64 lo, .int .i64 ke, .int .i64 sc, .int .i64 mo, .bool iv]] w fun e w' => ∃ v, e = .returned v ∧ CxsAt w' v (passL ke lo) ∧ Gr w w' ∧ (∀ b, v.ownBlock = some b → w.heap.size ≤ b) := by
 have hf := okF_iff.1 hok
 have hc : ke = 0 ∨ ke = 1 ∨ ke = 2 := by omega
 rcases hc with rfl | rfl | rfl
 ·exact refPasses_0 fo lo sc mo _ iv (by omega) (by omega) rfl w
 ·by_cases hr : lo.tmod 2 = 1
  ·exact refPasses_1o fo lo sc mo _ iv (by omega) (by omega) rfl hr w
  ·exact refPasses_1e fo lo sc mo _ iv (by omega) (by omega) rfl _ rfl hr w
 ·exact refPasses_2 fo lo sc mo _ iv (by omega) (by omega) rfl w
end
end Go.Proofs.YtdignnmpfkgkoaaGreat
