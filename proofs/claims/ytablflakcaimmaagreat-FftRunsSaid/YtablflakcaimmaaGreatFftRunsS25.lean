import Derived.Test.YtablflakcaimmaaGreatFftRunsS23
namespace Go.Proofs.YtablflakcaimmaaGreat
section
open Go.ChangeShapes Go.WideShapes Go.ChangeAt Go.RowKit
set_option linter.unusedVariables false
set_option linter.unusedSimpArgs false
set_option maxRecDepth 100000
set_option maxHeartbeats 1000000 in
theorem passKernel_c (fo lo ke sc mo h : Int) (iv : Bool) (w : World) :
 CW 51 #[.agg #[.int .i64 fo, .int .i64 lo, .int .i64 ke, .int .i64 sc, .int .i64 mo, .bool iv], .int .i64 h] w (.int .i64 (passK ke lo h)) :=by
 delta CW
 by_cases hk : ke = 0
 ·subst hk
  go_enter Tryz.func51, Tryz.ntmps51
  go_wp2_with fail
  go_ret
  exact ⟨by simp [passK, *], (Gr.refl w).alloc _ _⟩
 ·have hk' : (ke == 0) = false := by simp [hk]
  obtain ⟨r, hr⟩ : ∃ r, lo.tmod 2 = r := ⟨_, rfl⟩
  by_cases hl : r = 1
  ·have hl' : (r == 1) = true := by simp [hl]
   by_cases hh : h = 1
   ·have hh' : (h == 1) = true := by simp [hh]
    go_enter Tryz.func51, Tryz.ntmps51
    go_wp2_with fail
    go_ret
    exact ⟨by simp [passK, *], (Gr.refl w).alloc _ _⟩
   ·have hh' : (h == 1) = false := by simp [hh]
    go_enter Tryz.func51, Tryz.ntmps51
    go_wp2_with fail
    go_ret
    exact ⟨by simp [passK, *], (Gr.refl w).alloc _ _⟩
  ·have hl' : (r == 1) = false := by simp [hl]
   go_enter Tryz.func51, Tryz.ntmps51
   go_wp2_with fail
   go_ret
   exact ⟨by simp [passK, *], (Gr.refl w).alloc _ _⟩
theorem info_pass : (Tryz.prog.info? 42).map (fun i => (i.zero, i.size, i.bytes)) = some (some (.agg #[.int .i64 0, .int .i64 0]), 2, 16) := by kernel_rfl
set_option maxHeartbeats 4000000 in
theorem passes_new (fo lo ke sc mo n : Int) (iv : Bool) (hok : okF fo lo ke sc mo = true) (w : World) :
 Calls Tryz.prog 20 #[.agg #[.int .i64 fo, .int .i64 lo, .int .i64 ke, .int .i64 sc, .int .i64 mo, .bool iv]] w fun e w' => ∃ v, e = .returned (.tuple #[v, .int .i64 0]) ∧ CxsAt w' v (passL ke lo) ∧ Gr w w' ∧ (∀ b, v.ownBlock = some b → w.heap.size ≤ b) := by
 have HC := Lib.hid (check_c fo lo ke sc mo iv 0 (by rw [if_pos hok]))
 have hf := okF_iff.1 hok
 obtain ⟨n, hn⟩ : ∃ n : Int, n = 2 ^ lo.toNat := ⟨_, rfl⟩
 obtain ⟨i0, hi, hz0, hz1, hz2⟩ := info_parts info_pass
 by_cases hk : ke = 2
 ·subst hk
  clear hok hf hn
  go_enter Tryz.func20, Tryz.ntmps20
  go_wp2_with fail
  obtain ⟨u0, hu⟩ : ∃ uu, uu = w.alloc (.cells #[.int .i64 fo, .int .i64 lo, .int .i64 2, .int .i64 sc, .int .i64 mo, .bool iv] 24) := ⟨_, rfl⟩
  have R0 : CellsAt u0 w.heap.size 24 #[.int .i64 fo, .int .i64 lo, .int .i64 2, .int .i64 sc, .int .i64 mo, .bool iv] := by rw [hu]; exact CellsAt.new w 24 _
  have gu : Gr w u0 := by rw [hu]; exact (Gr.refl w).alloc _ _
  rw [← hu]
  clear hu
  refine (HC.out _).mono ?_
  rintro e w1 ⟨rfl, g1⟩
  have R1 := R0.gr g1
  have l1 := R1.lt
  have c2 := R1.cell 2
  simp only [getS] at c2
  go_wp2_with fail
  go_ret2
  exact ⟨_, rfl, by unfold passL; rw [if_pos rfl]; exact CxsAt.nil _, gu.trans g1, fun b e => by cases e⟩
 ·have hR := passL_rest ke lo n hk (by omega) (by omega) hn
  obtain ⟨n0, n1, hs⟩ := pow_log lo n (by omega) (by omega) hn
  generalize passL ke lo = L at *
  have hl0 : ¬ lo < 0 := by omega
  have hk' : (ke == 2) = false := by simp [hk]
  have HS := Lib.hid hs
  have HF := Lib.hid hf
  clear hn hs hf hok
  go_enter Tryz.func20, Tryz.ntmps20
  go_wp2_with fail
  obtain ⟨u0, hu⟩ : ∃ uu, uu = w.alloc (.cells #[.int .i64 fo, .int .i64 lo, .int .i64 ke, .int .i64 sc, .int .i64 mo, .bool iv] 24) := ⟨_, rfl⟩
  have R0 : CellsAt u0 w.heap.size 24 #[.int .i64 fo, .int .i64 lo, .int .i64 ke, .int .i64 sc, .int .i64 mo, .bool iv] := by rw [hu]; exact CellsAt.new w 24 _
  have gu : Gr w u0 := by rw [hu]; exact (Gr.refl w).alloc _ _
  rw [← hu]
  clear hu
  refine (HC.out _).mono ?_
  rintro e w1 ⟨rfl, g1⟩
  have R1 := R0.gr g1
  have gu1 := gu.trans g1
  clear R0 gu g1 HC
  have l1 := R1.lt
  have c2 := R1.cell 2
  simp only [getS] at c2
  go_wp2_with fail
  clear c2 hk'
  go_loopw [5, 6] (fun v i wr => ∃ (h : Int) (pre rest : List Gi), i = .int .i64 h ∧ 1 ≤ h ∧ h ≤ 256 ∧ pre.length ≤ h ∧ pre ++ rest = L ∧ Rest ke lo n h rest ∧ wr.ownsRow (w.heap.size + 1) 42 2 v pre.length (gcells pre) ∧ CellsAt wr w.heap.size 24 #[.int .i64 fo, .int .i64 lo, .int .i64 ke, .int .i64 sc, .int .i64 mo, .bool iv] ∧ Gr w wr)
   (fun _ i _ => 400 - (intOf i).toNat)
  case atStart => exact ⟨1, [], L, rfl, by omega, by omega, by simp, rfl, hR, World.ownsRow_nil _ _ _ _, R1, gu1⟩
  case round =>
   clear hR R1 gu1 l1
   obtain ⟨h, pre, rest, rfl, hh1, hh2, hln, hL, hR, hrow, hP, hg⟩ := hrel
   have hs := HS.out
   have hsw : wrap64 (2 ^ min lo.toNat 64) = n := by rw [hs]; exact IntWalk.wrap64_in _ ⟨by omega, by omega⟩
   have l1 := hP.lt
   have c0 := hP.cell 0
   have c1 := hP.cell 1
   have c2 := hP.cell 2
   have c3 := hP.cell 3
   have c4 := hP.cell 4
   have c5 := hP.cell 5
   simp only [getS] at c0 c1 c2 c3 c4 c5
   by_cases hlt : h < n
   ·obtain ⟨l', hl', hR'⟩ := hR.step hh1 hlt
    have HK := Lib.hid (passKernel_c fo lo ke sc mo h iv)
    have hk2 := passK_two ke lo h
    clear hR hs
    generalize passK ke lo h = k at *
    have hm1 : h * 2 ≤ h * k := Int.mul_le_mul_of_nonneg_left hk2.1 (by omega)
    have hm2 : h * k ≤ h * 4 := Int.mul_le_mul_of_nonneg_left hk2.2 (by omega)
    generalize hp : h * k = p at *
    have hpw : wrap64 p = p := IntWalk.wrap64_in _ ⟨by omega, by omega⟩
    rw [← hp] at hpw
    go_wp2_with fail
    refine (HK.out _).mono ?_
    rintro e w2 ⟨rfl, g2⟩
    have hrow2 := ownsRow_gr hrow g2
    have hP2 := hP.gr g2
    have hg2 := hg.trans g2
    have hz := hP2.lt
    clear hrow hP hg g2 c0 c1 c2 c3 c4 c5 l1 HK
    go_wp2_with (at_builtin; refine wpList_append_own_at _ rfl (.tmp 24) (.tmp 28) 38 rfl (w.heap.size + 1) 42 i0 (.agg #[.int .i64 0, .int .i64 0]) 2 16 Tryz.underlying38 hi hz0 hz1 hz2 rfl (by decide) _ _ _ rfl (hrow2.alloc _) ⟨_, 0, none⟩ 1 1 [.int .i64 k, .int .i64 h] rfl rfl (news_two _ _ _ _) (by simp [Value.oneCell']) (by unfold maxLen; omega) (by omega) (by simp; omega) ?_; intro v' w3 hown' hgrow _ hblk)
    have hg3 := (hg2.allocO _).grown hgrow (fun k e => by have := (hrow2.lt k e).1; omega)
    have hP3 := (hP2.alloc _).grown hgrow (fun e => by have := (hrow2.lt _ e.symm).1; omega)
    go_roundw
    case rel =>
     refine ⟨p, pre ++ [⟨k, h⟩], l', by first | rfl | rw [hp], by omega, by omega, by simp; omega, by rw [List.append_assoc, ← hL, hl']; rfl, hR', ?_, hP3, hg3⟩
     rw [List.length_append, gcells_snoc]
     exact hown'
    case measure => simp [intOf]; omega
   ·have hl := hR.done hlt
    subst hl
    go_wp2_with fail
    go_ret2
    refine ⟨_, rfl, ?_, hg, fun b e => Nat.le_of_succ_le (hrow.lt b e).1⟩
    rw [← hL, List.append_nil]
    exact CxsAt.of_row hrow
theorem passes_ok (fo lo ke sc mo n : Int) (iv : Bool) (hok : okF fo lo ke sc mo = true) (w : World) :
 Calls Tryz.prog 20 #[.agg #[.int .i64 fo, .int .i64 lo, .int .i64 ke, .int .i64 sc, .int .i64 mo, .bool iv]] w fun e w' => ∃ v, e = .returned (.tuple #[v, .int .i64 0]) ∧ CxsAt w' v (passL ke lo) ∧ Gr w w' :=
 (passes_new fo lo ke sc mo n iv hok w).mono fun e w' ⟨v, h1, h2, h3, _⟩ => ⟨v, h1, h2, h3⟩
set_option maxHeartbeats 4000000 in
theorem refPasses_2 (fo lo sc mo n : Int) (iv : Bool) (h0 : 2 ≤ lo) (h1 : lo < 7) (hn : n = 2 ^ lo.toNat) (w : World) :
 Calls Tryz.prog 18 #[.agg #[.int .i64 fo, .int .i64 lo, .int .i64 2, .int .i64 sc, .int .i64 mo, .bool iv]] w fun e w' => ∃ v, e = .returned v ∧ CxsAt w' v (passL 2 lo) ∧ Gr w w' ∧ (∀ b, v.ownBlock = some b → w.heap.size ≤ b) := by
 have HP := Lib.hid (pow_c lo (by omega) (by omega))
 rw [← hn] at HP
 obtain ⟨n0, n1, _⟩ := pow_log lo n h0 h1 hn
 obtain ⟨i0, hi, hz0, hz1, hz2⟩ := info_parts info_pass
 clear hn h0 h1
 go_enter Tryz.func18, Tryz.ntmps18
 go_wp2_with fail
 obtain ⟨u1, hu⟩ : ∃ uu, uu = (w.alloc (.cells #[.int .i64 fo, .int .i64 lo, .int .i64 2, .int .i64 sc, .int .i64 mo, .bool iv] 24)).alloc (.cells #[] 42) := ⟨_, rfl⟩
 have R1 : CellsAt u1 w.heap.size 24 #[.int .i64 fo, .int .i64 lo, .int .i64 2, .int .i64 sc, .int .i64 mo, .bool iv] := by rw [hu]; exact (CellsAt.new w 24 _).alloc _
 have hrow0 : u1.ownsRow (w.heap.size + 1) 42 2 (.slice (some ⟨w.heap.size + 1, 0, none⟩) 0 0) 0 [] := by
  rw [hu]
  have := World.ownsRow_made (e := 42) (size := 2) (base := w.heap.size + 1) (w.alloc (.cells #[.int .i64 fo, .int .i64 lo, .int .i64 2, .int .i64 sc, .int .i64 mo, .bool iv] 24)) #[] 0 (by simp) (by unfold maxLen; omega) (by simp)
  simpa only [World.size_alloc] using this
 have gu1 : Gr w u1 := by rw [hu]; exact ((Gr.refl w).alloc _ _).alloc _ _
 rw [← hu]
 clear hu
 have l1 := R1.lt
 have c1 := R1.cell 1
 have c2 := R1.cell 2
 simp only [getS] at c1 c2
 go_wp2_with (first | (go_at_call 26; refine (HP.out _).mono ?_; rintro e wz ⟨rfl, hwz⟩; subst wz))
 go_ret
 refine ⟨_, rfl, ?_, gu1, fun b e => Nat.le_of_succ_le (hrow0.lt b e).1⟩
 unfold passL
 rw [if_pos rfl]
 exact CxsAt.of_row hrow0
set_option maxHeartbeats 4000000 in
theorem refPasses_0 (fo lo sc mo n : Int) (iv : Bool) (h0 : 2 ≤ lo) (h1 : lo < 7) (hn : n = 2 ^ lo.toNat) (w : World) :
 Calls Tryz.prog 18 #[.agg #[.int .i64 fo, .int .i64 lo, .int .i64 0, .int .i64 sc, .int .i64 mo, .bool iv]] w fun e w' => ∃ v, e = .returned v ∧ CxsAt w' v (passL 0 lo) ∧ Gr w w' ∧ (∀ b, v.ownBlock = some b → w.heap.size ≤ b) := by
 have HP := Lib.hid (pow_c lo (by omega) (by omega))
 rw [← hn] at HP
 obtain ⟨n0, n1, _⟩ := pow_log lo n h0 h1 hn
 obtain ⟨i0, hi, hz0, hz1, hz2⟩ := info_parts info_pass
 have hR := passL_rest 0 lo n (by decide) h0 h1 hn
 generalize passL 0 lo = L at *
 clear hn h0 h1
 go_enter Tryz.func18, Tryz.ntmps18
 go_wp2_with fail
 obtain ⟨u1, hu⟩ : ∃ uu, uu = (w.alloc (.cells #[.int .i64 fo, .int .i64 lo, .int .i64 0, .int .i64 sc, .int .i64 mo, .bool iv] 24)).alloc (.cells #[] 42) := ⟨_, rfl⟩
 have R1 : CellsAt u1 w.heap.size 24 #[.int .i64 fo, .int .i64 lo, .int .i64 0, .int .i64 sc, .int .i64 mo, .bool iv] := by rw [hu]; exact (CellsAt.new w 24 _).alloc _
 have hrow0 : u1.ownsRow (w.heap.size + 1) 42 2 (.slice (some ⟨w.heap.size + 1, 0, none⟩) 0 0) 0 [] := by
  rw [hu]
  have := World.ownsRow_made (e := 42) (size := 2) (base := w.heap.size + 1) (w.alloc (.cells #[.int .i64 fo, .int .i64 lo, .int .i64 0, .int .i64 sc, .int .i64 mo, .bool iv] 24)) #[] 0 (by simp) (by unfold maxLen; omega) (by simp)
  simpa only [World.size_alloc] using this
 have gu1 : Gr w u1 := by rw [hu]; exact ((Gr.refl w).alloc _ _).alloc _ _
 rw [← hu]
 clear hu
 have l1 := R1.lt
 have c1 := R1.cell 1
 have c2 := R1.cell 2
 simp only [getS] at c1 c2
 go_wp2_with (first | (go_at_call 26; refine (HP.out _).mono ?_; rintro e wz ⟨rfl, hwz⟩; subst wz))
 clear c1 c2
 go_loopw [3, 5] (fun v i wr => ∃ (h : Int) (pre rest : List Gi), i = .int .i64 h ∧ 1 ≤ h ∧ h ≤ 256 ∧ pre.length ≤ h ∧ pre ++ rest = L ∧ Rest 0 lo n h rest ∧ True ∧ wr.ownsRow (w.heap.size + 1) 42 2 v pre.length (gcells pre) ∧ CellsAt wr w.heap.size 24 #[.int .i64 fo, .int .i64 lo, .int .i64 0, .int .i64 sc, .int .i64 mo, .bool iv] ∧ Gr w wr)
  (fun _ i _ => 400 - (intOf i).toNat)
 case atStart => exact ⟨1, [], L, rfl, by omega, by omega, by simp, rfl, hR, trivial, hrow0, R1, gu1⟩
 case round =>
  clear hR hrow0 R1 gu1 l1
  obtain ⟨h, pre, rest, rfl, hh1, hh2, hln, hL, hR, hx, hrow, hP, hg⟩ := hrel
  have l1 := hP.lt
  have c1 := hP.cell 1
  have c2 := hP.cell 2
  simp only [getS] at c1 c2
  by_cases hlt : h < n
  ·obtain ⟨l', hl', hR'⟩ := hR.step hh1 hlt
   have hk : passK 0 lo h = 2 := by unfold passK; rw [if_pos (.inl rfl)]
   rw [hk] at hl' hR'
   have hpe : h * 2 = 2 * h := Int.mul_comm _ _
   rw [hpe] at hR'
   clear hR hk hpe
   go_wp2_with (at_builtin; refine wpList_append_own_at _ rfl (.tmp 19) (.tmp 22) 38 rfl (w.heap.size + 1) 42 i0 (.agg #[.int .i64 0, .int .i64 0]) 2 16 Tryz.underlying38 hi hz0 hz1 hz2 rfl (by decide) _ _ _ rfl (hrow.alloc _) ⟨_, 0, none⟩ 1 1 [.int .i64 2, .int .i64 h] rfl rfl (news_two _ _ _ _) (by simp [Value.oneCell']) (by unfold maxLen; omega) (by omega) (by simp; omega) ?_; intro v' w3 hown' hgrow _ hblk)
   have hg3 := (hg.allocO _).grown hgrow (fun k e => by have := (hrow.lt k e).1; omega)
   have hP3 := (hP.alloc _).grown hgrow (fun e => by have := (hrow.lt _ e.symm).1; omega)
   go_roundw
   case rel =>
    refine ⟨2 * h, pre ++ [⟨2, h⟩], l', rfl, by omega, by omega, by simp; omega, by rw [List.append_assoc, ← hL, hl']; rfl, hR', trivial, ?_, hP3, hg3⟩
    rw [List.length_append, gcells_snoc]
    exact hown'
   case measure => simp [intOf]; omega
  ·have hl := hR.done hlt
   subst hl
   go_wp2_with fail
   go_ret
   refine ⟨_, rfl, ?_, hg, fun b e => Nat.le_of_succ_le (hrow.lt b e).1⟩
   rw [← hL, List.append_nil]
   exact CxsAt.of_row hrow
set_option maxHeartbeats 4000000 in
theorem refPasses_1e (fo lo sc mo n : Int) (iv : Bool) (h0 : 2 ≤ lo) (h1 : lo < 7) (hn : n = 2 ^ lo.toNat) (r : Int) (hr : lo.tmod 2 = r) (hr1 : ¬ r = 1) (w : World) :
 Calls Tryz.prog 18 #[.agg #[.int .i64 fo, .int .i64 lo, .int .i64 1, .int .i64 sc, .int .i64 mo, .bool iv]] w fun e w' => ∃ v, e = .returned v ∧ CxsAt w' v (passL 1 lo) ∧ Gr w w' ∧ (∀ b, v.ownBlock = some b → w.heap.size ≤ b) := by
 have HP := Lib.hid (pow_c lo (by omega) (by omega))
 rw [← hn] at HP
 obtain ⟨n0, n1, _⟩ := pow_log lo n h0 h1 hn
 obtain ⟨i0, hi, hz0, hz1, hz2⟩ := info_parts info_pass
 have hR := passL_rest 1 lo n (by decide) h0 h1 hn
 generalize passL 1 lo = L at *
 have hr' : (r == 1) = false := by simp [hr1]
 clear hn h0 h1
 go_enter Tryz.func18, Tryz.ntmps18
 go_wp2_with fail
 obtain ⟨u1, hu⟩ : ∃ uu, uu = (w.alloc (.cells #[.int .i64 fo, .int .i64 lo, .int .i64 1, .int .i64 sc, .int .i64 mo, .bool iv] 24)).alloc (.cells #[] 42) := ⟨_, rfl⟩
 have R1 : CellsAt u1 w.heap.size 24 #[.int .i64 fo, .int .i64 lo, .int .i64 1, .int .i64 sc, .int .i64 mo, .bool iv] := by rw [hu]; exact (CellsAt.new w 24 _).alloc _
 have hrow0 : u1.ownsRow (w.heap.size + 1) 42 2 (.slice (some ⟨w.heap.size + 1, 0, none⟩) 0 0) 0 [] := by
  rw [hu]
  have := World.ownsRow_made (e := 42) (size := 2) (base := w.heap.size + 1) (w.alloc (.cells #[.int .i64 fo, .int .i64 lo, .int .i64 1, .int .i64 sc, .int .i64 mo, .bool iv] 24)) #[] 0 (by simp) (by unfold maxLen; omega) (by simp)
  simpa only [World.size_alloc] using this
 have gu1 : Gr w u1 := by rw [hu]; exact ((Gr.refl w).alloc _ _).alloc _ _
 rw [← hu]
 clear hu
 have l1 := R1.lt
 have c1 := R1.cell 1
 have c2 := R1.cell 2
 simp only [getS] at c1 c2
 go_wp2_with (first | (go_at_call 26; refine (HP.out _).mono ?_; rintro e wz ⟨rfl, hwz⟩; subst wz))
 clear c1 c2
 go_loopw [3, 6] (fun v i wr => ∃ (h : Int) (pre rest : List Gi), i = .int .i64 h ∧ 1 ≤ h ∧ h ≤ 256 ∧ pre.length ≤ h ∧ pre ++ rest = L ∧ Rest 1 lo n h rest ∧ True ∧ wr.ownsRow (w.heap.size + 1) 42 2 v pre.length (gcells pre) ∧ CellsAt wr w.heap.size 24 #[.int .i64 fo, .int .i64 lo, .int .i64 1, .int .i64 sc, .int .i64 mo, .bool iv] ∧ Gr w wr)
  (fun _ i _ => 400 - (intOf i).toNat)
 case atStart => exact ⟨1, [], L, rfl, by omega, by omega, by simp, rfl, hR, trivial, hrow0, R1, gu1⟩
 case round =>
  clear hR hrow0 R1 gu1 l1
  obtain ⟨h, pre, rest, rfl, hh1, hh2, hln, hL, hR, hx, hrow, hP, hg⟩ := hrel
  have l1 := hP.lt
  have c1 := hP.cell 1
  have c2 := hP.cell 2
  simp only [getS] at c1 c2
  by_cases hlt : h < n
  ·obtain ⟨l', hl', hR'⟩ := hR.step hh1 hlt
   have hk : passK 1 lo h = 4 := by unfold passK; rw [if_neg (by rw [hr]; omega)]
   rw [hk] at hl' hR'
   have hpe : h * 4 = 4 * h := Int.mul_comm _ _
   rw [hpe] at hR'
   clear hR hk hpe
   go_wp2_with (at_builtin; refine wpList_append_own_at _ rfl (.tmp 38) (.tmp 41) 38 rfl (w.heap.size + 1) 42 i0 (.agg #[.int .i64 0, .int .i64 0]) 2 16 Tryz.underlying38 hi hz0 hz1 hz2 rfl (by decide) _ _ _ rfl (hrow.alloc _) ⟨_, 0, none⟩ 1 1 [.int .i64 4, .int .i64 h] rfl rfl (news_two _ _ _ _) (by simp [Value.oneCell']) (by unfold maxLen; omega) (by omega) (by simp; omega) ?_; intro v' w3 hown' hgrow _ hblk)
   have hg3 := (hg.allocO _).grown hgrow (fun k e => by have := (hrow.lt k e).1; omega)
   have hP3 := (hP.alloc _).grown hgrow (fun e => by have := (hrow.lt _ e.symm).1; omega)
   go_roundw
   case rel =>
    refine ⟨4 * h, pre ++ [⟨4, h⟩], l', rfl, by omega, by omega, by simp; omega, by rw [List.append_assoc, ← hL, hl']; rfl, hR', trivial, ?_, hP3, hg3⟩
    rw [List.length_append, gcells_snoc]
    exact hown'
   case measure => simp [intOf]; omega
  ·have hl := hR.done hlt
   subst hl
   go_wp2_with fail
   go_ret
   refine ⟨_, rfl, ?_, hg, fun b e => Nat.le_of_succ_le (hrow.lt b e).1⟩
   rw [← hL, List.append_nil]
   exact CxsAt.of_row hrow
set_option maxHeartbeats 4000000 in
theorem refPasses_1o (fo lo sc mo n : Int) (iv : Bool) (h0 : 2 ≤ lo) (h1 : lo < 7) (hn : n = 2 ^ lo.toNat) (hr : lo.tmod 2 = 1) (w : World) :
 Calls Tryz.prog 18 #[.agg #[.int .i64 fo, .int .i64 lo, .int .i64 1, .int .i64 sc, .int .i64 mo, .bool iv]] w fun e w' => ∃ v, e = .returned v ∧ CxsAt w' v (passL 1 lo) ∧ Gr w w' ∧ (∀ b, v.ownBlock = some b → w.heap.size ≤ b) := by
 have HP := Lib.hid (pow_c lo (by omega) (by omega))
 rw [← hn] at HP
 obtain ⟨n0, n1, _⟩ := pow_log lo n h0 h1 hn
 obtain ⟨i0, hi, hz0, hz1, hz2⟩ := info_parts info_pass
 have hR := passL_rest 1 lo n (by decide) h0 h1 hn
 generalize passL 1 lo = L at *
 obtain ⟨l', hl', hR'⟩ := hR.step (by omega) (by omega)
 have hk : passK 1 lo 1 = 2 := by unfold passK; rw [if_pos (.inr ⟨hr, rfl⟩)]
 rw [hk] at hl' hR'
 clear hn h0 h1 hR hk
 go_enter Tryz.func18, Tryz.ntmps18
 go_wp2_with fail
 obtain ⟨u1, hu⟩ : ∃ uu, uu = (w.alloc (.cells #[.int .i64 fo, .int .i64 lo, .int .i64 1, .int .i64 sc, .int .i64 mo, .bool iv] 24)).alloc (.cells #[] 42) := ⟨_, rfl⟩
 have R1 : CellsAt u1 w.heap.size 24 #[.int .i64 fo, .int .i64 lo, .int .i64 1, .int .i64 sc, .int .i64 mo, .bool iv] := by rw [hu]; exact (CellsAt.new w 24 _).alloc _
 have hrow0 : u1.ownsRow (w.heap.size + 1) 42 2 (.slice (some ⟨w.heap.size + 1, 0, none⟩) 0 0) 0 [] := by
  rw [hu]
  have := World.ownsRow_made (e := 42) (size := 2) (base := w.heap.size + 1) (w.alloc (.cells #[.int .i64 fo, .int .i64 lo, .int .i64 1, .int .i64 sc, .int .i64 mo, .bool iv] 24)) #[] 0 (by simp) (by unfold maxLen; omega) (by simp)
  simpa only [World.size_alloc] using this
 have gu1 : Gr w u1 := by rw [hu]; exact ((Gr.refl w).alloc _ _).alloc _ _
 rw [← hu]
 clear hu
 have l1 := R1.lt
 have c1 := R1.cell 1
 have c2 := R1.cell 2
 simp only [getS] at c1 c2
 go_wp2_with (first | (go_at_call 26; refine (HP.out _).mono ?_; rintro e wz ⟨rfl, hwz⟩; subst wz) | (at_builtin; refine wpList_append_own_at _ rfl (.tmp 31) (.tmp 33) 38 rfl (w.heap.size + 1) 42 i0 (.agg #[.int .i64 0, .int .i64 0]) 2 16 Tryz.underlying38 hi hz0 hz1 hz2 rfl (by decide) _ _ _ rfl (hrow0.alloc _) ⟨_, 0, none⟩ 1 1 [.int .i64 2, .int .i64 1] rfl rfl (news_two _ _ _ _) (by simp [Value.oneCell']) (by unfold maxLen; omega) (by omega) (by simp; omega) ?_; intro v' w3 hown' hgrow _ hblk))
 have gu2 := (gu1.allocO _).grown hgrow (fun k e => by have := (hrow0.lt k e).1; omega)
 have R2 := (R1.alloc _).grown hgrow (fun e => by have := (hrow0.lt _ e.symm).1; omega)
 have hrow2 := hown'
 clear hrow0 gu1 R1 c1 c2 l1 hown' hgrow hblk
 go_loopw [3, 6] (fun v i wr => ∃ (h : Int) (pre rest : List Gi), i = .int .i64 h ∧ 1 ≤ h ∧ h ≤ 256 ∧ pre.length ≤ h ∧ pre ++ rest = L ∧ Rest 1 lo n h rest ∧ 2 ≤ h ∧ wr.ownsRow (w.heap.size + 1) 42 2 v pre.length (gcells pre) ∧ CellsAt wr w.heap.size 24 #[.int .i64 fo, .int .i64 lo, .int .i64 1, .int .i64 sc, .int .i64 mo, .bool iv] ∧ Gr w wr)
  (fun _ i _ => 400 - (intOf i).toNat)
 case atStart => exact ⟨2, [⟨2, 1⟩], l', rfl, by omega, by omega, by simp, by rw [hl']; rfl, hR', by omega, hrow2, R2, gu2⟩
 case round =>
  clear hR' hrow2 R2 gu2
  obtain ⟨h, pre, rest, rfl, hh1, hh2, hln, hL, hR, hx, hrow, hP, hg⟩ := hrel
  have l1 := hP.lt
  have c1 := hP.cell 1
  have c2 := hP.cell 2
  simp only [getS] at c1 c2
  by_cases hlt : h < n
  ·obtain ⟨l', hl', hR'⟩ := hR.step hh1 hlt
   have hk : passK 1 lo h = 4 := by unfold passK; rw [if_neg (by omega)]
   rw [hk] at hl' hR'
   have hpe : h * 4 = 4 * h := Int.mul_comm _ _
   rw [hpe] at hR'
   clear hR hk hpe
   go_wp2_with (at_builtin; refine wpList_append_own_at _ rfl (.tmp 38) (.tmp 41) 38 rfl (w.heap.size + 1) 42 i0 (.agg #[.int .i64 0, .int .i64 0]) 2 16 Tryz.underlying38 hi hz0 hz1 hz2 rfl (by decide) _ _ _ rfl (hrow.alloc _) ⟨_, 0, none⟩ 1 1 [.int .i64 4, .int .i64 h] rfl rfl (news_two _ _ _ _) (by simp [Value.oneCell']) (by unfold maxLen; omega) (by omega) (by simp; omega) ?_; intro v' w3 hown' hgrow _ hblk)
   have hg3 := (hg.allocO _).grown hgrow (fun k e => by have := (hrow.lt k e).1; omega)
   have hP3 := (hP.alloc _).grown hgrow (fun e => by have := (hrow.lt _ e.symm).1; omega)
   go_roundw
   case rel =>
    refine ⟨4 * h, pre ++ [⟨4, h⟩], l', rfl, by omega, by omega, by simp; omega, by rw [List.append_assoc, ← hL, hl']; rfl, hR', by omega, ?_, hP3, hg3⟩
    rw [List.length_append, gcells_snoc]
    exact hown'
   case measure => simp [intOf]; omega
  ·have hl := hR.done hlt
   subst hl
   go_wp2_with fail
   go_ret
   refine ⟨_, rfl, ?_, hg, fun b e => Nat.le_of_succ_le (hrow.lt b e).1⟩
   rw [← hl', ← hL, List.append_nil]
   exact CxsAt.of_row hrow
theorem refPasses_new (fo lo ke sc mo : Int) (iv : Bool) (hok : okF fo lo ke sc mo = true) (w : World) :
 Calls Tryz.prog 18 #[.agg #[.int .i64 fo, .int .i64 lo, .int .i64 ke, .int .i64 sc, .int .i64 mo, .bool iv]] w fun e w' => ∃ v, e = .returned v ∧ CxsAt w' v (passL ke lo) ∧ Gr w w' ∧ (∀ b, v.ownBlock = some b → w.heap.size ≤ b) := by
 have hf := okF_iff.1 hok
 have hc : ke = 0 ∨ ke = 1 ∨ ke = 2 := by omega
 rcases hc with rfl | rfl | rfl
 ·exact refPasses_0 fo lo sc mo _ iv (by omega) (by omega) rfl w
 ·by_cases hr : lo.tmod 2 = 1
  ·exact refPasses_1o fo lo sc mo _ iv (by omega) (by omega) rfl hr w
  ·exact refPasses_1e fo lo sc mo _ iv (by omega) (by omega) rfl _ rfl hr w
 ·exact refPasses_2 fo lo sc mo _ iv (by omega) (by omega) rfl w
theorem refPasses_c (fo lo ke sc mo : Int) (iv : Bool) (hok : okF fo lo ke sc mo = true) (w : World) :
 Calls Tryz.prog 18 #[.agg #[.int .i64 fo, .int .i64 lo, .int .i64 ke, .int .i64 sc, .int .i64 mo, .bool iv]] w fun e w' => ∃ v, e = .returned v ∧ CxsAt w' v (passL ke lo) ∧ Gr w w' :=
 (refPasses_new fo lo ke sc mo iv hok w).mono fun e w' ⟨v, h1, h2, h3, _⟩ => ⟨v, h1, h2, h3⟩
theorem one_shl {lo n : Int} (h : (lo = 2 ∧ n = 4) ∨ (lo = 3 ∧ n = 8) ∨ (lo = 4 ∧ n = 16) ∨ (lo = 5 ∧ n = 32) ∨ (lo = 6 ∧ n = 64)) (W : World) : (Op.shift .shl .i64 1 .i64 lo).run Tryz.prog W = .ok (.int .i64 n) W := by
 rcases h with ⟨rfl, rfl⟩ | ⟨rfl, rfl⟩ | ⟨rfl, rfl⟩ | ⟨rfl, rfl⟩ | ⟨rfl, rfl⟩ <;> kernel_rfl
set_option maxHeartbeats 2000000 in
theorem ftNum_plan (v : Value) (fo lo ke sc mo : Int) (iv : Bool) (HC : CR 50 #[.agg #[.int .i64 fo, .int .i64 lo, .int .i64 ke, .int .i64 sc, .int .i64 mo, .bool iv]] (.int .i64 4)) (w : World) :
 CW 37 #[v, .agg #[.int .i64 fo, .int .i64 lo, .int .i64 ke, .int .i64 sc, .int .i64 mo, .bool iv]] w (.int .i64 4) :=by
 delta CW
 go_enter Tryz.func37, Tryz.ntmps37
 go_wp2_with fail
 obtain ⟨u0, hU⟩ : ∃ uu, uu = (w.alloc (.cells #[.int .i64 fo, .int .i64 lo, .int .i64 ke, .int .i64 sc, .int .i64 mo, .bool iv] 24)) := ⟨_, rfl⟩
 have ⟨gu, R0⟩ := lay1 hU
 rw [← hU]
 clear hU
 have lp := R0.lt
 refine (HC.out _).mono ?_
 rintro e w1 ⟨rfl, g1⟩
 have ⟨Fp_1, lp_1⟩ := R0.gl g1
 have z1 := gu.trans g1
 clear R0 gu g1
 go_wp2_with fail
 go_ret
 exact ⟨rfl, z1⟩
set_option maxHeartbeats 2000000 in
theorem ftNum_size (p : Option Addr) (l cap : Nat) (fo lo ke sc mo n : Int) (iv : Bool) (hlo : (lo = 2 ∧ n = 4) ∨ (lo = 3 ∧ n = 8) ∨ (lo = 4 ∧ n = 16) ∨ (lo = 5 ∧ n = 32) ∨ (lo = 6 ∧ n = 64)) (hn : ¬ (l : Int) = n) (HC : CR 50 #[.agg #[.int .i64 fo, .int .i64 lo, .int .i64 ke, .int .i64 sc, .int .i64 mo, .bool iv]] (.int .i64 0)) (w : World) :
 CW 37 #[.slice p l cap, .agg #[.int .i64 fo, .int .i64 lo, .int .i64 ke, .int .i64 sc, .int .i64 mo, .bool iv]] w (.int .i64 3) :=by
 delta CW
 have hb : ((l : Int) == n) = false := by simp [hn]
 have hsh := one_shl hlo
 clear hlo
 go_enter Tryz.func37, Tryz.ntmps37
 go_wp2_with fail
 obtain ⟨u0, hU⟩ : ∃ uu, uu = (w.alloc (.cells #[.int .i64 fo, .int .i64 lo, .int .i64 ke, .int .i64 sc, .int .i64 mo, .bool iv] 24)) := ⟨_, rfl⟩
 have ⟨gu, R0⟩ := lay1 hU
 rw [← hU]
 clear hU
 have lp := R0.lt
 refine (HC.out _).mono ?_
 rintro e w1 ⟨rfl, g1⟩
 have ⟨Fp_1, lp_1⟩ := R0.gl g1
 have z1 := gu.trans g1
 clear R0 gu g1
 obtain ⟨cp0, cp1, cp2, cp3, cp4, cp5⟩ := Fp_1.t6
 go_wp2_with fail
 clear cp0 cp1 cp2 cp3 cp4 cp5
 go_ret
 exact ⟨rfl, z1⟩
set_option maxHeartbeats 2000000 in
theorem ftNum_parts (p : Option Addr) (l cap : Nat) (xs : List Gi) (fo lo ke sc mo n q : Int) (iv r : Bool) (hlo : (lo = 2 ∧ n = 4) ∨ (lo = 3 ∧ n = 8) ∨ (lo = 4 ∧ n = 16) ∨ (lo = 5 ∧ n = 32) ∨ (lo = 6 ∧ n = 64)) (hn : (l : Int) = n) (q0 : 0 ≤ q) (q1 : q ≤ 2147483648) (HC : CR 50 #[.agg #[.int .i64 fo, .int .i64 lo, .int .i64 ke, .int .i64 sc, .int .i64 mo, .bool iv]] (.int .i64 0)) (HO : CR 70 #[.agg #[.int .i64 fo, .int .i64 lo, .int .i64 ke, .int .i64 sc, .int .i64 mo, .bool iv]] (.int .i64 q))
 (HW : Hid (∀ W, CxsAt W (.slice p l cap) xs → Calls Tryz.prog 71 #[.int .i64 (-q), .int .i64 (q - 1), .slice p l cap] W fun e w' => e = .returned (.bool r) ∧ Gr W w')) (w : World) (hv : CxsAt w (.slice p l cap) xs) :
 CW 37 #[.slice p l cap, .agg #[.int .i64 fo, .int .i64 lo, .int .i64 ke, .int .i64 sc, .int .i64 mo, .bool iv]] w (.int .i64 (if r = true then 0 else 2)) :=by
 delta CW
 have hb : ((l : Int) == n) = true := by simp [hn]
 have hsh := one_shl hlo
 clear hlo
 go_enter Tryz.func37, Tryz.ntmps37
 go_wp2_with fail
 obtain ⟨u0, hU⟩ : ∃ uu, uu = (w.alloc (.cells #[.int .i64 fo, .int .i64 lo, .int .i64 ke, .int .i64 sc, .int .i64 mo, .bool iv] 24)) := ⟨_, rfl⟩
 have ⟨gu, R0⟩ := lay1 hU
 rw [← hU]
 clear hU
 have lp := R0.lt
 refine (HC.out _).mono ?_
 rintro e w1 ⟨rfl, g1⟩
 have ⟨Fp_1, lp_1⟩ := R0.gl g1
 have z1 := gu.trans g1
 clear R0 gu g1
 obtain ⟨cp0, cp1, cp2, cp3, cp4, cp5⟩ := Fp_1.t6
 go_wp2_with fail
 clear cp0 cp1 cp2 cp3 cp4 cp5
 refine (HO.out _).mono ?_
 rintro e w2 ⟨rfl, g2⟩
 have ⟨Fp_2, lp_2⟩ := Fp_1.gl g2
 have z2 := z1.trans g2
 clear Fp_1 z1 g2
 go_wp2_with fail
 refine (HW.out _ (hv.gr z2)).mono ?_
 rintro e w3 ⟨rfl, g3⟩
 have ⟨Fp_3, lp_3⟩ := Fp_2.gl g3
 have z3 := z2.trans g3
 clear Fp_2 z2 g3
 cases r
 all_goals
  go_wp2_with fail
  go_ret
  exact ⟨rfl, z3⟩
set_option maxHeartbeats 2000000 in
theorem ftSplit_c (vx vs : Value) (xs ys : List Gi) (fo lo ke sc mo ex ex2 : Int) (iv sa : Bool) (he : wrap64 (ex + lo) = ex2)
 (HR : Hid (∀ W, CxsAt W vx xs → Calls Tryz.prog 58 #[vx, .int .i64 fo, .int .i64 mo, .bool iv] W fun e w' => ∃ v, e = .returned (.tuple #[v, .int .i64 0]) ∧ CxsAt w' v ys ∧ Gr W w')) (w : World) (hv : CxsAt w vx xs) :
 Calls Tryz.prog 27 #[.agg #[vx, .int .i64 ex, .bool sa, vs], .agg #[.int .i64 fo, .int .i64 lo, .int .i64 ke, .int .i64 sc, .int .i64 mo, .bool iv]] w fun e w' => ∃ u, e = .returned (.agg #[u, .int .i64 ex2, .bool false, .slice none 0 0]) ∧ CxsAt w' u ys ∧ Gr w w' := by
 go_enter Tryz.func27, Tryz.ntmps27
 go_wp2_with fail
 obtain ⟨u0, hU⟩ : ∃ uu, uu = (((w.alloc (.cells #[vx, .int .i64 ex, .bool sa, vs] 27)).alloc (.cells #[.int .i64 fo, .int .i64 lo, .int .i64 ke, .int .i64 sc, .int .i64 mo, .bool iv] 24)).alloc (.cells #[.slice none 0 0, .int .i64 0, .bool false, .slice none 0 0] 27)) := ⟨_, rfl⟩
 have ⟨gu, R0, R1, R2⟩ := lay3 hU
 rw [← hU]
 clear hU
 have lb := R0.lt
 have lp := R1.lt
 have lr := R2.lt
 obtain ⟨cb0, cb1, cb2, cb3⟩ := R0.t4
 obtain ⟨cp0, cp1, cp2, cp3, cp4, cp5⟩ := R1.t6
 go_wp2_with fail
 clear cb0 cb1 cb2 cb3 cp0 cp1 cp2 cp3 cp4 cp5
 refine (HR.out _ (hv.gr gu)).mono ?_
 rintro e w1 ⟨vy, rfl, hy, g1⟩
 have ⟨Fb_1, lb_1⟩ := R0.gl g1
 have ⟨Fp_1, lp_1⟩ := R1.gl g1
 have ⟨Fr_1, lr_1⟩ := R2.gl g1
 have z1 := gu.trans g1
 clear R0 R1 R2 gu g1
 obtain ⟨yp, yc, rfl⟩ := hy.len
 obtain ⟨cb0, cb1, cb2, cb3⟩ := Fb_1.t4
 obtain ⟨cp0, cp1, cp2, cp3, cp4, cp5⟩ := Fp_1.t6
 have mr0 := CellsAt.frozen (Fr_1) 0
 have cr0 := Fr_1.at 0
 have mr1 := CellsAt.frozen (Fr_1) 1
 have cr1 := Fr_1.at 1
 have mr2 := CellsAt.frozen (Fr_1) 2
 have cr2 := Fr_1.at 2
 have mr3 := CellsAt.frozen (Fr_1) 3
 have cr3 := Fr_1.at 3
 go_wp2_with fail
 clear cb0 cb1 cb2 cb3 cp0 cp1 cp2 cp3 cp4 cp5 mr0 cr0 mr1 cr1 mr2 cr2 mr3 cr3
 have ap := CxsAt.apart hy Fr_1
 have cxe := (((hy.set ap 0 (.slice yp ys.length yc)).set ap 1 (.int .i64 ex2)).set ap 2 (.bool false)).set ap 3 (.slice none 0 0)
 obtain ⟨uf, hqf⟩ : ∃ zz, zz = ((((w1.setCell ⟨w.heap.size + 1 + 1, 0, none⟩ (.slice yp ys.length yc)).setCell ⟨w.heap.size + 1 + 1, 1, none⟩ (.int .i64 ex2)).setCell ⟨w.heap.size + 1 + 1, 2, none⟩ (.bool false)).setCell ⟨w.heap.size + 1 + 1, 3, none⟩ (.slice none 0 0)) := ⟨_, rfl⟩
 rw [← hqf] at cxe
 have Yr : CellsAt uf (w.heap.size + 1 + 1) 27 #[.slice yp ys.length yc, .int .i64 ex2, .bool false, .slice none 0 0] := by rw [hqf]; have q_ := CellsAt.set (CellsAt.set (CellsAt.set (CellsAt.set (Fr_1) 0 (.slice yp ys.length yc)) 1 (.int .i64 ex2)) 2 (.bool false)) 3 (.slice none 0 0); first | exact q_ | simpa using q_
 have yz : Gr w uf := by rw [hqf]; exact (((z1.sc _).sc _).sc _).sc _
 rw [← hqf]
 clear hqf
 obtain ⟨cr0, cr1, cr2, cr3⟩ := Yr.t4
 refine bodyPost_ret (v := .agg #[.slice yp ys.length yc, .int .i64 ex2, .bool false, .slice none 0 0]) ?_ rfl ⟨_, rfl, cxe, yz⟩
 simp [results, Tryz.results27, go_sem, *]
end
section
open Go.ChangeShapes Go.WideShapes Go.ChangeAt Go.RowKit
set_option linter.unusedVariables false
set_option maxRecDepth 100000
set_option maxHeartbeats 2000000 in
theorem same03_no (u v : Value) (xs ys : List Gi) (w : World) (hl : xs.length = ys.length) (hne : xs ≠ ys) (hu : CxsAt w u xs) (hv : CxsAt w v ys) :
 CW 32 #[u, v] w (.bool false) :=by
 delta CW
 have hx : xs ≠ [] := by intro e; subst e; exact hne (List.length_eq_zero_iff.1 hl.symm).symm
 have hy : ys ≠ [] := by intro e; subst e; exact hx (List.length_eq_zero_iff.1 hl)
 obtain ⟨b, o, cap, rfl, hlen, hb, hc⟩ := hu.at hx
 obtain ⟨b', o', cap', rfl, _, hb', hc'⟩ := hv.at hy
 rw [← hl]
 have HC := Lib.hid hc
 have HC' := Lib.hid hc'
 have HNE := Lib.hid hne
 have HL := Lib.hid hl
 clear hc hc' hu hv hx hy hne hl
 go_enter Tryz.func32, Tryz.ntmps32
 go_wp2_with fail
 go_loopw [13] (fun i wr => ∃ k : Nat, k ≤ xs.length ∧ i = .int .i64 k ∧ (∀ j, j < k → xs[j]? = ys[j]?) ∧ Gr w wr) (fun i _ => xs.length - (intOf i).toNat)
 case atStart => exact ⟨0, Nat.zero_le _, rfl, fun j hj => absurd hj (Nat.not_lt_zero _), Gr.refl _⟩
 case round =>
  obtain ⟨k, hk, rfl, hp, hg⟩ := hrel
  by_cases hlt : k < xs.length
  ·obtain ⟨x, hx⟩ := get_of_lt hlt
   obtain ⟨y, hy⟩ := get_of_lt (show k < ys.length by have := HL.out; omega)
   have h1 := (hg.cell (p := ⟨b, o + k * 2, none⟩) hb).trans (HC.out k x hx).1
   have h2 := (hg.cell (p := ⟨b, o + k * 2 + 1, none⟩) hb).trans (HC.out k x hx).2
   have h3 := (hg.cell (p := ⟨b', o' + k * 2, none⟩) hb').trans (HC'.out k y hy).1
   have h4 := (hg.cell (p := ⟨b', o' + k * 2 + 1, none⟩) hb').trans (HC'.out k y hy).2
   have hlI : (k : Int) < (xs.length : Int) := by omega
   obtain ⟨a, c⟩ := x
   obtain ⟨a', c'⟩ := y
   simp only at h1 h2 h3 h4
   by_cases e1 : a = a'
   ·subst e1
    by_cases e2 : c = c'
    ·subst e2
     have HP := Lib.hid (show ∀ j, j < k + 1 → xs[j]? = ys[j]? from fun j hj => by
      by_cases e : j = k
      ·rw [e, hx, hy]
      ·exact hp j (by omega))
     clear hx hy
     go_wp2_with fail
     go_quiet (fail)
     go_wp2_with fail
     go_roundw
     case rel => exact ⟨k + 1, by omega, by go_num, HP.out, hg.drewN _⟩
     case measure => simp [intOf]; omega
    ·have hb2 : (c == c') = false := by simp [e2]
     clear hx hy
     go_wp2_with fail
     go_quiet (fail)
     go_wp2_with fail
     go_ret
     exact ⟨rfl, hg.drewN _⟩
   ·have hb2 : (a == a') = false := by simp [e1]
    clear hx hy
    go_wp2_with fail
    go_quiet (fail)
    go_wp2_with fail
    go_ret
    exact ⟨rfl, hg.drewN _⟩
  ·exfalso
   have hl := HL.out
   refine HNE.out (List.ext_getElem? fun j => ?_)
   by_cases hj : j < k
   ·exact hp j hj
   ·rw [List.getElem?_eq_none (by omega), List.getElem?_eq_none (by omega)]
end
section
open Go.ChangeShapes Go.WideShapes Go.ChangeAt Go.RowKit
set_option linter.unusedVariables false
set_option linter.unusedSimpArgs false
set_option maxRecDepth 100000
theorem cxs_of_cells {W : World} {B : Nat} {t : TypeId} {xs : List Gi} (h : CellsAt W B t (gcells xs).toArray) (hl : xs.length ≤ maxLen) : CxsAt W (.slice (some ⟨B, 0, none⟩) xs.length xs.length) xs := by
 refine ⟨_, _, rfl, Nat.le_refl _, hl, fun _ => ⟨B, 0, rfl, h.lt, fun j x hj => ?_⟩⟩
 have k := gcells_at xs j x hj
 rw [Nat.zero_add, h.cell, h.cell]
 simpa using k
end
end Go.Proofs.YtablflakcaimmaaGreat
