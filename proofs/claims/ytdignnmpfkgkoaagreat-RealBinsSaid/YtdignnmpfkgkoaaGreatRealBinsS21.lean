import Derived.Lib.SliceRun
import Derived.Test.YtdignnmpfkgkoaaGreatRealBinsS20
namespace Go.Proofs.YtdignnmpfkgkoaaGreat
section
open Go.ChangeShapes Go.WideShapes Go.ChangeAt Go.RowKit Go.MapKept
set_option linter.unusedVariables false
set_option linter.unusedSimpArgs false
set_option maxRecDepth 100000
set_option maxHeartbeats 16000000
def passF (k : Int) : Value := if k = 4 then .func (.func 155) #[] #[] else .func (.func 154) #[] #[]
def KMap (W : World) (B : Nat) : Prop := W.heap[B]? = some (.map #[⟨.int .i64 2, passF 2, 0⟩, ⟨.int .i64 4, passF 4, 1⟩] 2)
theorem KMap.gr {W W' : World} {B : Nat} (h : KMap W B) (g : Gr W W') : KMap W' B := (g.block (Array.getElem?_eq_some_iff.1 h).1).trans h
theorem KMap.lt {W : World} {B : Nat} (h : KMap W B) : B < W.heap.size := (Array.getElem?_eq_some_iff.1 h).1
theorem und_kmap : ∃ k e, Tryz.prog.underlying 84 = some (.map k e) ∧ k = 3 ∧ e = 139 := ⟨_, _, by kernel_rfl, rfl, rfl⟩
theorem kkey_check (e : Bool) (x : Int) (w : World) : (Instr.checkKey e 10000 3 (.int .i64 x)).run Tryz.prog w = .ok () w := by kernel_rfl
theorem und_int : Tryz.prog.underlying 3 = some (.int .i64) := by kernel_rfl
theorem KMap.look {W : World} {B : Nat} (h : KMap W B) (k : Int) (hk : k = 2 ∨ k = 4) : (Instr.lookup 84 (.map (some B)) (.int .i64 k) false).run Tryz.prog W = .ok (passF k) W := by
 obtain ⟨a, e, hu, rfl, rfl⟩ := und_kmap
 rcases hk with rfl | rfl <;> simp [Instr.lookup, run_underlying hu, MapKept.run_getObj_map h, kkey_check, Instr.findKey, run_underlying und_int, Instr.findNow, Instr.sameNow, Result.andThen]
theorem kmap_first (W : World) (B : Nat) (h : W.heap[B]? = some (.map #[] 0)) (v : Value) :
 (Instr.mapUpdate 84 (.map (some B)) (.int .i64 2) v).run Tryz.prog W = .ok () { W with heap := W.heap.setIfInBounds B (.map #[⟨.int .i64 2, v, 0⟩] 1) } := by
 obtain ⟨a, e, hu, rfl, rfl⟩ := und_kmap
 simp [Instr.mapUpdate, run_underlying hu, MapKept.run_getObj_map h, kkey_check, Instr.findKey, run_underlying und_int, Instr.findNow, Instr.sameNow, MapKept.run_setObj_map _ h, Result.andThen]
theorem kmap_second (W : World) (B : Nat) (u v : Value) (h : W.heap[B]? = some (.map #[⟨.int .i64 2, u, 0⟩] 1)) :
 (Instr.mapUpdate 84 (.map (some B)) (.int .i64 4) v).run Tryz.prog W = .ok () { W with heap := W.heap.setIfInBounds B (.map #[⟨.int .i64 2, u, 0⟩, ⟨.int .i64 4, v, 1⟩] 2) } := by
 obtain ⟨a, e, hu, rfl, rfl⟩ := und_kmap
 simp [Instr.mapUpdate, run_underlying hu, MapKept.run_getObj_map h, kkey_check, Instr.findKey, run_underlying und_int, Instr.findNow, Instr.sameNow, MapKept.run_setObj_map _ h, Result.andThen]
theorem ftKernels_c (w : World) : Calls Tryz.prog 114 #[] w fun e w' => ∃ B, e = .returned (.map (some B)) ∧ KMap w' B ∧ Gr w w' := by
 have hmm := @run_makeMap Tryz.prog
 have h0 := (MapKept.heap_alloc w (.map #[] 0)).1
 have h1 := kmap_first (w.alloc (.map #[] 0)) w.heap.size h0 (.func (.func 154) #[] #[])
 have h2 := (MapKept.heap_set (o' := .map #[⟨.int .i64 2, .func (.func 154) #[] #[], 0⟩] 1) h0).1
 have g0 := (Gr.refl w).allocO (.map #[] 0)
 generalize hw1 : (w.alloc (.map #[] 0)) = W0 at h0 h1 h2 g0
 have g1 : Gr w { W0 with heap := W0.heap.setIfInBounds w.heap.size (.map #[⟨.int .i64 2, .func (.func 154) #[] #[], 0⟩] 1) } := ⟨g0.out.os, g0.out.tape, g0.out.output, by have := g0.out.size; simpa using this, fun j hj => ((MapKept.heap_set h0).2 j (by omega)).trans (g0.out.block j hj)⟩
 generalize hw2 : ({ W0 with heap := W0.heap.setIfInBounds w.heap.size (.map #[⟨.int .i64 2, .func (.func 154) #[] #[], 0⟩] 1) } : World) = W1 at h1 g1
 have h2' : W1.heap[w.heap.size]? = some (.map #[⟨.int .i64 2, .func (.func 154) #[] #[], 0⟩] 1) := by rw [← hw2]; exact h2
 have h3 := kmap_second W1 w.heap.size _ (.func (.func 155) #[] #[]) h2'
 have h4 := (MapKept.heap_set (o' := .map #[⟨.int .i64 2, .func (.func 154) #[] #[], 0⟩, ⟨.int .i64 4, .func (.func 155) #[] #[], 1⟩] 2) h2').1
 have g2 : Gr w { W1 with heap := W1.heap.setIfInBounds w.heap.size (.map #[⟨.int .i64 2, .func (.func 154) #[] #[], 0⟩, ⟨.int .i64 4, .func (.func 155) #[] #[], 1⟩] 2) } := ⟨g1.out.os, g1.out.tape, g1.out.output, by have := g1.out.size; simpa using this, fun j hj => ((MapKept.heap_set h2').2 j (by omega)).trans (g1.out.block j hj)⟩
 rw [← hw1] at h1
 clear h0 h2 h2' g0 g1 hw2 hw1
 go_in
 go_wp2_with fail
 go_ret
 exact ⟨_, rfl, h4, g2⟩
theorem nil_yes (c : Nat) (W : World) : (binOp .eql 22 (.slice none 0 c) (.slice none 0 0)).run Tryz.prog W = .ok (.bool true) W := by kernel_rfl
theorem nil_no (q : Addr) (n c : Nat) (W : World) : (binOp .eql 22 (.slice (some q) n c) (.slice none 0 0)).run Tryz.prog W = .ok (.bool false) W := by kernel_rfl
theorem ftClone_c (v : Value) (ls : List Int) (hls : ls.length ≤ 20) (w : World) (hv : NumsAt w v ls) :
 Calls Tryz.prog 74 #[v] w fun e w' => ∃ u, e = .returned u ∧ w'.ownsRow w.heap.size 3 1 u ls.length (ls.map (Value.int .i64)) ∧ Gr w w' := by
 obtain ⟨sp, sl, rfl⟩ := hv.len
 cases sp with
 | none =>
   have h0 : ls = [] := by
    apply Classical.byContradiction
    intro hx
    obtain ⟨b, o, cap, hsl, _⟩ := hv.at hx
    cases hsl
   subst h0;have hn := nil_yes sl;go_in;go_wp2_with fail
   go_ret
   exact ⟨_, rfl, ⟨rfl, .inl ⟨rfl, rfl⟩⟩, Gr.refl _⟩
 | some q =>
   have hn := nil_no q ls.length sl;have hlw := hv.gr ((Gr.refl w).alloc #[] 3);go_in
   go_wp2_with (at_builtin; refine wpList_append_nums rfl (.tmp 5) (.tmp 6) rfl w.heap.size _ 0 [] ls rfl (World.ownsRow_made w #[] 0 (Nat.le_refl _) (by unfold maxLen; omega) (by simp)) (some q) sl rfl hlw (by omega) (by simp) ?_; intro v1 W1 hown1 hgrow1 hblk1; rw [Nat.zero_add, List.nil_append] at hown1; have G1 : Gr w W1 := ((Gr.refl w).alloc _ _).grown hgrow1 (fun k e => by cases e; exact Nat.le_refl _); clear hgrow1 hblk1)
   go_ret
   exact ⟨_, rfl, hown1, G1⟩
end
section
open Go.ChangeShapes Go.WideShapes Go.ChangeAt Go.RowKit
set_option linter.unusedVariables false
set_option linter.unusedSimpArgs false
set_option maxRecDepth 100000
set_option maxHeartbeats 16000000
theorem rlSize_c (a b : Int) (w : World) : CW 32 #[a, b] w (.int .i64 (if a = b then 0 else 3)) :=by
 delta CW
 by_cases h : a = b
 ·subst h
  rw [if_pos rfl]
  have hb : (a != a) = false := by simp
  have hc : (a == a) = true := by simp
  go_in;go_wp2_with fail
  go_ret
  exact ⟨rfl, Gr.refl _⟩
 ·rw [if_neg h]
  have hb : (a != b) = true := by simp [h]
  have hc : (a == b) = false := by simp [h]
  go_in;go_wp2_with fail
  go_ret
  exact ⟨rfl, Gr.refl _⟩
theorem rlBits_of (fo lo ke sc mo : Int) (iv : Bool) (b : Int) (HB : CR 58 #[fo] (.tuple #[b, .int .i64 0])) (w : World) : CW 97 #[.agg #[fo, lo, ke, sc, mo, iv]] w (.int .i64 b) :=by
 delta CW
 go_in
 go_wp2_with fail
 refine lc1 fun u0 gu R0 => ?_
 have lp := R0.lt
 obtain ⟨cp0, cp1, cp2, cp3, cp4, cp5⟩ := R0.t6
 go_wp2_with fail
 clear cp0 cp1 cp2 cp3 cp4 cp5
 refine (HB.out _).mono ?_
 rintro e w1 ⟨rfl, g1⟩
 have ⟨Fp_1, lp_1⟩ := R0.gl g1
 have z1 := gu.trans g1
 clear R0 gu g1
 go_wp2_with fail
 go_ret
 exact ⟨rfl, z1⟩
theorem rlPlan_bad (fo lo ke sc mo : Int) (iv : Bool) (HC : CR 71 #[.agg #[fo, lo, ke, sc, mo, iv]] (.int .i64 4)) (w : World) : CW 30 #[.agg #[fo, lo, ke, sc, mo, iv]] w (.int .i64 4) :=by
 delta CW
 go_in
 go_wp2_with fail
 refine lc1 fun u0 gu R0 => ?_
 have lp := R0.lt
 obtain ⟨cp0, cp1, cp2, cp3, cp4, cp5⟩ := R0.t6
 go_wp2_with fail
 clear cp0 cp1 cp2 cp3 cp4 cp5
 refine (HC.out _).mono ?_
 rintro e w1 ⟨rfl, g1⟩
 have ⟨Fp_1, lp_1⟩ := R0.gl g1
 have z1 := gu.trans g1
 clear R0 gu g1
 go_wp2_with fail
 go_ret
 exact ⟨rfl, z1⟩
theorem rlPlan_long (fo lo ke sc mo : Int) (iv : Bool) (h5 : (5 : Int) < lo) (HC : CR 71 #[.agg #[fo, lo, ke, sc, mo, iv]] (.int .i64 0)) (w : World) : CW 30 #[.agg #[fo, lo, ke, sc, mo, iv]] w (.int .i64 4) :=by
 delta CW
 go_in
 go_wp2_with fail
 refine lc1 fun u0 gu R0 => ?_
 have lp := R0.lt
 obtain ⟨cp0, cp1, cp2, cp3, cp4, cp5⟩ := R0.t6
 go_wp2_with fail
 clear cp0 cp1 cp2 cp3 cp4 cp5
 refine (HC.out _).mono ?_
 rintro e w1 ⟨rfl, g1⟩
 have ⟨Fp_1, lp_1⟩ := R0.gl g1
 have z1 := gu.trans g1
 clear R0 gu g1
 obtain ⟨cp0, cp1, cp2, cp3, cp4, cp5⟩ := Fp_1.t6
 go_wp2_with fail
 clear cp0 cp1 cp2 cp3 cp4 cp5
 go_ret
 exact ⟨rfl, z1⟩
theorem rlPlan_ok (fo lo ke sc mo : Int) (iv : Bool) (h5 : ¬ (5 : Int) < lo) (HC : CR 71 #[.agg #[fo, lo, ke, sc, mo, iv]] (.int .i64 0)) (w : World) : CW 30 #[.agg #[fo, lo, ke, sc, mo, iv]] w (.int .i64 (if iv then 4 else 0)) :=by
 delta CW
 cases iv
 ·go_in
  go_wp2_with fail;refine lc1 fun u0 gu R0 => ?_
  have lp := R0.lt;obtain ⟨cp0, cp1, cp2, cp3, cp4, cp5⟩ := R0.t6;go_wp2_with fail;clear cp0 cp1 cp2 cp3 cp4 cp5;refine (HC.out _).mono ?_;rintro e w1 ⟨rfl, g1⟩;have ⟨Fp_1, lp_1⟩ := R0.gl g1;have z1 := gu.trans g1;clear R0 gu g1;obtain ⟨cp0, cp1, cp2, cp3, cp4, cp5⟩ := Fp_1.t6;go_wp2_with fail;clear cp0 cp1 cp2 cp3 cp4 cp5
  go_ret
  exact ⟨rfl, z1⟩
 ·go_in
  go_wp2_with fail;refine lc1 fun u0 gu R0 => ?_
  have lp := R0.lt;obtain ⟨cp0, cp1, cp2, cp3, cp4, cp5⟩ := R0.t6;go_wp2_with fail;clear cp0 cp1 cp2 cp3 cp4 cp5;refine (HC.out _).mono ?_;rintro e w1 ⟨rfl, g1⟩;have ⟨Fp_1, lp_1⟩ := R0.gl g1;have z1 := gu.trans g1;clear R0 gu g1;obtain ⟨cp0, cp1, cp2, cp3, cp4, cp5⟩ := Fp_1.t6;go_wp2_with fail;clear cp0 cp1 cp2 cp3 cp4 cp5
  go_ret
  exact ⟨rfl, z1⟩
theorem rlFitted_no (z : Gi) (fo lo ke sc mo : Int) (iv : Bool) (h2 : ¬ sc = 2) (w : World) : CW 72 #[.agg #[z.re, z.im], .agg #[fo, lo, ke, sc, mo, iv]] w (.tuple #[.agg #[z.re, z.im], false]) :=by
 delta CW
 have hb : (sc == 2) = false := by simp [h2]
 have hc : (sc != 2) = true := by simp [h2]
 go_in
 go_wp2_with fail
 refine bodyPost_ret (v := .tuple #[.agg #[z.re, z.im], false]) ?_ rfl ⟨rfl, (((Gr.refl w).alloc _ _).alloc _ _).alloc _ _⟩
 simp [results, Tryz.results72, go_sem, *]
theorem rlFitted_yes (z : Gi) (fo lo ke mo r s : Int) (iv f g : Bool) (H1 : CR 23 #[z.re, fo] (.tuple #[r, f, .int .i64 0])) (H2 : CR 23 #[z.im, fo] (.tuple #[s, g, .int .i64 0])) (w : World) : CW 72 #[.agg #[z.re, z.im], .agg #[fo, lo, ke, .int .i64 2, mo, iv]] w (.tuple #[.agg #[r, s], .bool (f || g)]) :=by
 delta CW
 cases f
 ·go_in
  go_wp2_with fail;refine lc3 fun u0 gu R0 R1 R2 => ?_
  have lz := R0.lt;have lp := R1.lt;have lr := R2.lt;obtain ⟨cz0, cz1⟩ := R0.t2;obtain ⟨cp0, cp1, cp2, cp3, cp4, cp5⟩ := R1.t6;go_wp2_with fail;clear cz0 cz1 cp0 cp1 cp2 cp3 cp4 cp5;refine (H1.out _).mono ?_;rintro e w1 ⟨rfl, g1⟩;have ⟨Fz_1, lz_1⟩ := R0.gl g1;have ⟨Fp_1, lp_1⟩ := R1.gl g1;have ⟨Fr_1, lr_1⟩ := R2.gl g1;have z1 := gu.trans g1;clear R0 R1 R2 gu g1;obtain ⟨cz0, cz1⟩ := Fz_1.t2;obtain ⟨cp0, cp1, cp2, cp3, cp4, cp5⟩ := Fp_1.t6;go_wp2_with fail;clear cz0 cz1 cp0 cp1 cp2 cp3 cp4 cp5;refine (H2.out _).mono ?_;rintro e w2 ⟨rfl, g2⟩;have ⟨Fz_2, lz_2⟩ := Fz_1.gl g2;have ⟨Fp_2, lp_2⟩ := Fp_1.gl g2;have ⟨Fr_2, lr_2⟩ := Fr_1.gl g2;have z2 := z1.trans g2;clear Fz_1 Fp_1 Fr_1 z1 g2;obtain ⟨mr0, mr1⟩ := Fr_2.f2;obtain ⟨cr0, cr1⟩ := Fr_2.t2;go_wp2_with fail;clear mr0 cr0 mr1 cr1
  obtain ⟨uf, hqp1⟩ : ∃ zz, zz = ((w2.setCell ⟨w.heap.size + 1 + 1, 0, none⟩ (.int .i64 r)).setCell ⟨w.heap.size + 1 + 1, 1, none⟩ (.int .i64 s)) := ⟨_, rfl⟩
  have Yz_p1 : CellsAt uf (w.heap.size) 50 #[z.re, z.im] := by rw [hqp1]; first | exact (Fz_2.ot).ot | simpa using (Fz_2.ot).ot
  have Yp_p1 : CellsAt uf (w.heap.size + 1) 24 #[fo, lo, ke, .int .i64 2, mo, iv] := by rw [hqp1]; first | exact (Fp_2.ot).ot | simpa using (Fp_2.ot).ot
  have Yr_p1 : CellsAt uf (w.heap.size + 1 + 1) 50 #[r, s] := by rw [hqp1]; first | exact CellsAt.set2 (Fr_2) _ _ | simpa using CellsAt.set2 (Fr_2) _ _
  have yp1 : Gr w uf := by rw [hqp1]; exact (z2.sc _).sc _
  rw [← hqp1];clear hqp1;obtain ⟨cr0, cr1⟩ := Yr_p1.t2;refine bodyPost_ret (v := .tuple #[.agg #[r, s], .bool (false || g)]) ?_ rfl ⟨rfl, yp1⟩
  simp [results, Tryz.results72, go_sem, *]
 ·go_in
  go_wp2_with fail;refine lc3 fun u0 gu R0 R1 R2 => ?_
  have lz := R0.lt;have lp := R1.lt;have lr := R2.lt;obtain ⟨cz0, cz1⟩ := R0.t2;obtain ⟨cp0, cp1, cp2, cp3, cp4, cp5⟩ := R1.t6;go_wp2_with fail;clear cz0 cz1 cp0 cp1 cp2 cp3 cp4 cp5;refine (H1.out _).mono ?_;rintro e w1 ⟨rfl, g1⟩;have ⟨Fz_1, lz_1⟩ := R0.gl g1;have ⟨Fp_1, lp_1⟩ := R1.gl g1;have ⟨Fr_1, lr_1⟩ := R2.gl g1;have z1 := gu.trans g1;clear R0 R1 R2 gu g1;obtain ⟨cz0, cz1⟩ := Fz_1.t2;obtain ⟨cp0, cp1, cp2, cp3, cp4, cp5⟩ := Fp_1.t6;go_wp2_with fail;clear cz0 cz1 cp0 cp1 cp2 cp3 cp4 cp5;refine (H2.out _).mono ?_;rintro e w2 ⟨rfl, g2⟩;have ⟨Fz_2, lz_2⟩ := Fz_1.gl g2;have ⟨Fp_2, lp_2⟩ := Fp_1.gl g2;have ⟨Fr_2, lr_2⟩ := Fr_1.gl g2;have z2 := z1.trans g2;clear Fz_1 Fp_1 Fr_1 z1 g2;obtain ⟨mr0, mr1⟩ := Fr_2.f2;obtain ⟨cr0, cr1⟩ := Fr_2.t2;go_wp2_with fail;clear mr0 cr0 mr1 cr1
  obtain ⟨uf, hqp1⟩ : ∃ zz, zz = ((w2.setCell ⟨w.heap.size + 1 + 1, 0, none⟩ (.int .i64 r)).setCell ⟨w.heap.size + 1 + 1, 1, none⟩ (.int .i64 s)) := ⟨_, rfl⟩
  have Yz_p1 : CellsAt uf (w.heap.size) 50 #[z.re, z.im] := by rw [hqp1]; first | exact (Fz_2.ot).ot | simpa using (Fz_2.ot).ot
  have Yp_p1 : CellsAt uf (w.heap.size + 1) 24 #[fo, lo, ke, .int .i64 2, mo, iv] := by rw [hqp1]; first | exact (Fp_2.ot).ot | simpa using (Fp_2.ot).ot
  have Yr_p1 : CellsAt uf (w.heap.size + 1 + 1) 50 #[r, s] := by rw [hqp1]; first | exact CellsAt.set2 (Fr_2) _ _ | simpa using CellsAt.set2 (Fr_2) _ _
  have yp1 : Gr w uf := by rw [hqp1]; exact (z2.sc _).sc _
  rw [← hqp1];clear hqp1;obtain ⟨cr0, cr1⟩ := Yr_p1.t2;refine bodyPost_ret (v := .tuple #[.agg #[r, s], .bool (true || g)]) ?_ rfl ⟨rfl, yp1⟩
  simp [results, Tryz.results72, go_sem, *]
end
section
set_option linter.unusedVariables false
set_option maxRecDepth 100000
set_option maxHeartbeats 16000000
def topB (sc k : Int) : Int := if sc = 2 then 0 else if (sc = 1 ∧ k = 2) ∨ (sc = 0 ∧ k = 4) then 2 else if sc = 1 then 3 else 1
def fitB (sc k l : Int) : Bool := decide (0 ≤ l ∧ l ≤ topB sc k) && (decide (sc = 1) || decide (l = topB sc k))
def fitsB (sc : Int) : List Gi → List Int → Bool
 | [], [] => true
 | p :: ps, l :: ls => fitB sc p.re l && fitsB sc ps ls
 | _, _ => false
theorem fitB_iff {sc k l : Int} : fitB sc k l = true ↔ (0 ≤ l ∧ l ≤ topB sc k) ∧ (sc = 1 ∨ l = topB sc k) := by simp [fitB]
theorem fitsB_len (sc : Int) (ps : List Gi) : ∀ ls : List Int, fitsB sc ps ls = true → ls.length = ps.length := by
 induction ps with
 | nil => intro ls h; cases ls with | nil => rfl | cons l ls => cases h
 | cons p ps ih =>
   intro ls h
   cases ls with
   | nil => cases h
   | cons l ls =>
     simp only [fitsB, Bool.and_eq_true] at h
     simp [ih ls h.2]
theorem passL_len6 (ke lo : Int) (k0 : 0 ≤ ke) (k1 : ke < 3) (h0 : 2 ≤ lo) (h1 : lo < 7) : (passL ke lo).length ≤ 6 := by
 have hk : ke = 0 ∨ ke = 1 ∨ ke = 2 := by omega
 have hl : lo = 2 ∨ lo = 3 ∨ lo = 4 ∨ lo = 5 ∨ lo = 6 := by omega
 rcases hk with rfl | rfl | rfl <;> rcases hl with rfl | rfl | rfl | rfl | rfl <;> decide +kernel
end
section
open Go.ChangeShapes Go.WideShapes Go.ChangeAt Go.RowKit
set_option linter.unusedVariables false
set_option linter.unusedSimpArgs false
set_option maxRecDepth 100000
set_option maxHeartbeats 16000000
theorem passKernel_c (fo lo ke sc mo h : Int) (iv : Bool) (w : World) :
 CW 112 #[.agg #[fo, lo, ke, sc, mo, iv], h] w (.int .i64 (passK ke lo h)) :=by
 delta CW
 by_cases hk : ke = 0
 ·subst hk
  go_in;go_wp2_with fail
  go_ret
  exact ⟨by simp [passK, *], (Gr.refl w).alloc _ _⟩
 ·have hk' : (ke == 0) = false := by simp [hk]
  obtain ⟨r, hr⟩ : ∃ r, lo.tmod 2 = r := ⟨_, rfl⟩
  by_cases hl : r = 1
  ·have hl' : (r == 1) = true := by simp [hl]
   by_cases hh : h = 1
   ·have hh' : (h == 1) = true := by simp [hh]
    go_in;go_wp2_with fail
    go_ret
    exact ⟨by simp [passK, *], (Gr.refl w).alloc _ _⟩
   ·have hh' : (h == 1) = false := by simp [hh]
    go_in;go_wp2_with fail
    go_ret
    exact ⟨by simp [passK, *], (Gr.refl w).alloc _ _⟩
  ·have hl' : (r == 1) = false := by simp [hl]
   go_in;go_wp2_with fail
   go_ret
   exact ⟨by simp [passK, *], (Gr.refl w).alloc _ _⟩
theorem info_pass : (Tryz.prog.info? 72).map (fun i => (i.zero, i.size, i.bytes)) = some (some (.agg #[.int .i64 0, .int .i64 0]), 2, 16) := by kernel_rfl
theorem passes_new (fo lo ke sc mo n : Int) (iv : Bool) (hok : okF fo lo ke sc mo = true) (w : World) :
 Calls Tryz.prog 64 #[.agg #[fo, lo, ke, sc, mo, iv]] w fun e w' => ∃ v, e = .returned (.tuple #[v, .int .i64 0]) ∧ CxsAt w' v (passL ke lo) ∧ Gr w w' ∧ (∀ b, v.ownBlock = some b → w.heap.size ≤ b) := by
 have HC := kh (check_c fo lo ke sc mo iv 0 (by rw [if_pos hok]))
 have hf := okF_iff.1 hok
 obtain ⟨n, hn⟩ : ∃ n : Int, n = 2 ^ lo.toNat := ⟨_, rfl⟩
 obtain ⟨i0, hi, hz0, hz1, hz2⟩ := info_parts info_pass
 by_cases hk : ke = 2
 ·subst hk
  clear hok hf hn;go_in;go_wp2_with fail
  obtain ⟨u0, hu⟩ : ∃ uu, uu = w.alloc (.cells #[fo, lo, .int .i64 2, sc, mo, iv] 24) := ⟨_, rfl⟩
  have R0 : CellsAt u0 w.heap.size 24 #[fo, lo, .int .i64 2, sc, mo, iv] := by rw [hu]; exact CellsAt.new w 24 _
  have gu : Gr w u0 := by rw [hu]; exact (Gr.refl w).alloc _ _
  rw [← hu];clear hu;refine (HC.out _).mono ?_;rintro e w1 ⟨rfl, g1⟩;have R1 := R0.gr g1;have l1 := R1.lt;have c2 := R1.cell 2;simp only [getS] at c2;go_wp2_with fail
  go_ret2
  exact ⟨_, rfl, by unfold passL; rw [if_pos rfl]; exact CxsAt.nil _, gu.trans g1, fun b e => by cases e⟩
 ·have hR := passL_rest ke lo n hk (by omega) (by omega) hn
  obtain ⟨n0, n1, hs⟩ := pow_log lo n (by omega) (by omega) hn;generalize passL ke lo = L at *
  have hl0 : ¬ lo < 0 := by omega
  have hk' : (ke == 2) = false := by simp [hk]
  have HS := kh hs;have HF := kh hf;clear hn hs hf hok;go_in;go_wp2_with fail
  obtain ⟨u0, hu⟩ : ∃ uu, uu = w.alloc (.cells #[fo, lo, ke, sc, mo, iv] 24) := ⟨_, rfl⟩
  have R0 : CellsAt u0 w.heap.size 24 #[fo, lo, ke, sc, mo, iv] := by rw [hu]; exact CellsAt.new w 24 _
  have gu : Gr w u0 := by rw [hu]; exact (Gr.refl w).alloc _ _
  rw [← hu];clear hu;refine (HC.out _).mono ?_;rintro e w1 ⟨rfl, g1⟩;have R1 := R0.gr g1;have gu1 := gu.trans g1;clear R0 gu g1 HC;have l1 := R1.lt;have c2 := R1.cell 2;simp only [getS] at c2;go_wp2_with fail;clear c2 hk'
  go_loopw [5, 6] (fun v i wr => ∃ (h : Int) (pre rest : List Gi), i = .int .i64 h ∧ 1 ≤ h ∧ h ≤ 256 ∧ pre.length ≤ h ∧ pre ++ rest = L ∧ Rest ke lo n h rest ∧ wr.ownsRow (w.heap.size + 1) 72 2 v pre.length (gcells pre) ∧ CellsAt wr w.heap.size 24 #[fo, lo, ke, sc, mo, iv] ∧ Gr w wr)
   (fun _ i _ => 400 - (intOf i).toNat)
  case atStart => exact ⟨1, [], L, rfl, by omega, by omega, by simp, rfl, hR, World.ownsRow_nil _ _ _ _, R1, gu1⟩
  case round =>
   clear hR R1 gu1 l1;obtain ⟨h, pre, rest, rfl, hh1, hh2, hln, hL, hR, hrow, hP, hg⟩ := hrel;have hs := HS.out
   have hsw : wrap64 (2 ^ min lo.toNat 64) = n := by rw [hs]; exact IntWalk.wrap64_in _ ⟨by omega, by omega⟩
   have l1 := hP.lt;obtain ⟨c0, c1, c2, c3, c4, c5⟩ := hP.t6
   by_cases hlt : h < n
   ·obtain ⟨l', hl', hR'⟩ := hR.step hh1 hlt
    have HK := kh (passKernel_c fo lo ke sc mo h iv);have hk2 := passK_two ke lo h;clear hR hs;generalize passK ke lo h = k at *
    have hm1 : h * 2 ≤ h * k := Int.mul_le_mul_of_nonneg_left hk2.1 (by omega)
    have hm2 : h * k ≤ h * 4 := Int.mul_le_mul_of_nonneg_left hk2.2 (by omega)
    generalize hp : h * k = p at *
    have hpw : wrap64 p = p := IntWalk.wrap64_in _ ⟨by omega, by omega⟩
    rw [← hp] at hpw;go_wp2_with fail;refine (HK.out _).mono ?_;rintro e w2 ⟨rfl, g2⟩;have hrow2 := ownsRow_gr hrow g2;have hP2 := hP.gr g2;have hg2 := hg.trans g2;have hz := hP2.lt;clear hrow hP hg g2 c0 c1 c2 c3 c4 c5 l1 HK
    go_wp2_with (at_builtin; refine wpList_append_own_at _ rfl (.tmp 24) (.tmp 28) 69 rfl (w.heap.size + 1) 72 i0 (.agg #[.int .i64 0, .int .i64 0]) 2 16 Tryz.underlying69 hi hz0 hz1 hz2 rfl (by decide) _ _ _ rfl (hrow2.alloc _) ⟨_, 0, none⟩ 1 1 [.int .i64 k, .int .i64 h] rfl rfl (news_two _ _ _ _) (by simp [Value.oneCell']) (by unfold maxLen; omega) (by omega) (by simp; omega) ?_; intro v' w3 hown' hgrow _ hblk)
    have hg3 := (hg2.allocO _).grown hgrow (fun k e => by have := (hrow2.lt k e).1; omega);have hP3 := (hP2.alloc _).grown hgrow (fun e => by have := (hrow2.lt _ e.symm).1; omega)
    go_roundw
    case rel =>
     refine ⟨p, pre ++ [⟨k, h⟩], l', by first | rfl | rw [hp], by omega, by omega, by simp; omega, by rw [List.append_assoc, ← hL, hl']; rfl, hR', ?_, hP3, hg3⟩;rw [List.length_append, gcells_snoc]
     exact hown'
    case measure => simp [intOf]; omega
   ·have hl := hR.done hlt
    subst hl;go_wp2_with fail
    go_ret2
    refine ⟨_, rfl, ?_, hg, fun b e => Nat.le_of_succ_le (hrow.lt b e).1⟩;rw [← hL, List.append_nil]
    exact CxsAt.of_row hrow
theorem passes_ok (fo lo ke sc mo n : Int) (iv : Bool) (hok : okF fo lo ke sc mo = true) (w : World) :
 Calls Tryz.prog 64 #[.agg #[fo, lo, ke, sc, mo, iv]] w fun e w' => ∃ v, e = .returned (.tuple #[v, .int .i64 0]) ∧ CxsAt w' v (passL ke lo) ∧ Gr w w' :=
 (passes_new fo lo ke sc mo n iv hok w).mono fun e w' ⟨v, h1, h2, h3, _⟩ => ⟨v, h1, h2, h3⟩
theorem refPasses_2 (fo lo sc mo n : Int) (iv : Bool) (h0 : 2 ≤ lo) (h1 : lo < 7) (hn : n = 2 ^ lo.toNat) (w : World) :
 Calls Tryz.prog 48 #[.agg #[fo, lo, .int .i64 2, sc, mo, iv]] w fun e w' => ∃ v, e = .returned v ∧ CxsAt w' v (passL 2 lo) ∧ Gr w w' ∧ (∀ b, v.ownBlock = some b → w.heap.size ≤ b) := by
 have HP := kh (pow_c lo (by omega) (by omega))
 rw [← hn] at HP
 obtain ⟨n0, n1, _⟩ := pow_log lo n h0 h1 hn
 obtain ⟨i0, hi, hz0, hz1, hz2⟩ := info_parts info_pass
 clear hn h0 h1
 go_in
 go_wp2_with fail
 obtain ⟨u1, hu⟩ : ∃ uu, uu = (w.alloc (.cells #[fo, lo, .int .i64 2, sc, mo, iv] 24)).alloc (.cells #[] 72) := ⟨_, rfl⟩
 have R1 : CellsAt u1 w.heap.size 24 #[fo, lo, .int .i64 2, sc, mo, iv] := by rw [hu]; exact (CellsAt.new w 24 _).alloc _
 have hrow0 : u1.ownsRow (w.heap.size + 1) 72 2 (.slice (some ⟨w.heap.size + 1, 0, none⟩) 0 0) 0 [] := by
  rw [hu]
  have := World.ownsRow_made (e := 72) (size := 2) (base := w.heap.size + 1) (w.alloc (.cells #[fo, lo, .int .i64 2, sc, mo, iv] 24)) #[] 0 (by simp) (by unfold maxLen; omega) (by simp)
  simpa only [World.size_alloc] using this
 have gu1 : Gr w u1 := by rw [hu]; exact ((Gr.refl w).alloc _ _).alloc _ _
 rw [← hu]
 clear hu
 have l1 := R1.lt
 have c1 := R1.at 1
 have c2 := R1.at 2
 go_wp2_with (first | (go_at_call 38; refine (HP.out _).mono ?_; rintro e wz ⟨rfl, hwz⟩; subst wz))
 go_ret
 refine ⟨_, rfl, ?_, gu1, fun b e => Nat.le_of_succ_le (hrow0.lt b e).1⟩
 unfold passL
 rw [if_pos rfl]
 exact CxsAt.of_row hrow0
theorem refPasses_0 (fo lo sc mo n : Int) (iv : Bool) (h0 : 2 ≤ lo) (h1 : lo < 7) (hn : n = 2 ^ lo.toNat) (w : World) :
 Calls Tryz.prog 48 #[.agg #[fo, lo, .int .i64 0, sc, mo, iv]] w fun e w' => ∃ v, e = .returned v ∧ CxsAt w' v (passL 0 lo) ∧ Gr w w' ∧ (∀ b, v.ownBlock = some b → w.heap.size ≤ b) := by
 have HP := kh (pow_c lo (by omega) (by omega))
 rw [← hn] at HP
 obtain ⟨n0, n1, _⟩ := pow_log lo n h0 h1 hn
 obtain ⟨i0, hi, hz0, hz1, hz2⟩ := info_parts info_pass
 have hR := passL_rest 0 lo n (by decide) h0 h1 hn
 generalize passL 0 lo = L at *
 clear hn h0 h1
 go_in
 go_wp2_with fail
 obtain ⟨u1, hu⟩ : ∃ uu, uu = (w.alloc (.cells #[fo, lo, .int .i64 0, sc, mo, iv] 24)).alloc (.cells #[] 72) := ⟨_, rfl⟩
 have R1 : CellsAt u1 w.heap.size 24 #[fo, lo, .int .i64 0, sc, mo, iv] := by rw [hu]; exact (CellsAt.new w 24 _).alloc _
 have hrow0 : u1.ownsRow (w.heap.size + 1) 72 2 (.slice (some ⟨w.heap.size + 1, 0, none⟩) 0 0) 0 [] := by
  rw [hu]
  have := World.ownsRow_made (e := 72) (size := 2) (base := w.heap.size + 1) (w.alloc (.cells #[fo, lo, .int .i64 0, sc, mo, iv] 24)) #[] 0 (by simp) (by unfold maxLen; omega) (by simp)
  simpa only [World.size_alloc] using this
 have gu1 : Gr w u1 := by rw [hu]; exact ((Gr.refl w).alloc _ _).alloc _ _
 rw [← hu]
 clear hu
 have l1 := R1.lt
 have c1 := R1.at 1
 have c2 := R1.at 2
 go_wp2_with (first | (go_at_call 38; refine (HP.out _).mono ?_; rintro e wz ⟨rfl, hwz⟩; subst wz))
 clear c1 c2
 go_loopw [3, 5] (fun v i wr => ∃ (h : Int) (pre rest : List Gi), i = .int .i64 h ∧ 1 ≤ h ∧ h ≤ 256 ∧ pre.length ≤ h ∧ pre ++ rest = L ∧ Rest 0 lo n h rest ∧ True ∧ wr.ownsRow (w.heap.size + 1) 72 2 v pre.length (gcells pre) ∧ CellsAt wr w.heap.size 24 #[fo, lo, .int .i64 0, sc, mo, iv] ∧ Gr w wr)
  (fun _ i _ => 400 - (intOf i).toNat)
 case atStart => exact ⟨1, [], L, rfl, by omega, by omega, by simp, rfl, hR, trivial, hrow0, R1, gu1⟩
 case round =>
  clear hR hrow0 R1 gu1 l1;obtain ⟨h, pre, rest, rfl, hh1, hh2, hln, hL, hR, hx, hrow, hP, hg⟩ := hrel;have l1 := hP.lt;have c1 := hP.at 1;have c2 := hP.at 2
  by_cases hlt : h < n
  ·obtain ⟨l', hl', hR'⟩ := hR.step hh1 hlt
   have hk : passK 0 lo h = 2 := by unfold passK; rw [if_pos (.inl rfl)]
   rw [hk] at hl' hR'
   have hpe : h * 2 = 2 * h := Int.mul_comm _ _
   rw [hpe] at hR';clear hR hk hpe
   go_wp2_with (at_builtin; refine wpList_append_own_at _ rfl (.tmp 19) (.tmp 22) 69 rfl (w.heap.size + 1) 72 i0 (.agg #[.int .i64 0, .int .i64 0]) 2 16 Tryz.underlying69 hi hz0 hz1 hz2 rfl (by decide) _ _ _ rfl (hrow.alloc _) ⟨_, 0, none⟩ 1 1 [.int .i64 2, .int .i64 h] rfl rfl (news_two _ _ _ _) (by simp [Value.oneCell']) (by unfold maxLen; omega) (by omega) (by simp; omega) ?_; intro v' w3 hown' hgrow _ hblk)
   have hg3 := (hg.allocO _).grown hgrow (fun k e => by have := (hrow.lt k e).1; omega);have hP3 := (hP.alloc _).grown hgrow (fun e => by have := (hrow.lt _ e.symm).1; omega)
   go_roundw
   case rel =>
    refine ⟨2 * h, pre ++ [⟨2, h⟩], l', rfl, by omega, by omega, by simp; omega, by rw [List.append_assoc, ← hL, hl']; rfl, hR', trivial, ?_, hP3, hg3⟩;rw [List.length_append, gcells_snoc]
    exact hown'
   case measure => simp [intOf]; omega
  ·have hl := hR.done hlt
   subst hl;go_wp2_with fail
   go_ret
   refine ⟨_, rfl, ?_, hg, fun b e => Nat.le_of_succ_le (hrow.lt b e).1⟩;rw [← hL, List.append_nil]
   exact CxsAt.of_row hrow
theorem refPasses_1e (fo lo sc mo n : Int) (iv : Bool) (h0 : 2 ≤ lo) (h1 : lo < 7) (hn : n = 2 ^ lo.toNat) (r : Int) (hr : lo.tmod 2 = r) (hr1 : ¬ r = 1) (w : World) :
 Calls Tryz.prog 48 #[.agg #[fo, lo, .int .i64 1, sc, mo, iv]] w fun e w' => ∃ v, e = .returned v ∧ CxsAt w' v (passL 1 lo) ∧ Gr w w' ∧ (∀ b, v.ownBlock = some b → w.heap.size ≤ b) := by
 have HP := kh (pow_c lo (by omega) (by omega))
 rw [← hn] at HP
 obtain ⟨n0, n1, _⟩ := pow_log lo n h0 h1 hn
 obtain ⟨i0, hi, hz0, hz1, hz2⟩ := info_parts info_pass
 have hR := passL_rest 1 lo n (by decide) h0 h1 hn
 generalize passL 1 lo = L at *
 have hr' : (r == 1) = false := by simp [hr1]
 clear hn h0 h1
 go_in
 go_wp2_with fail
 obtain ⟨u1, hu⟩ : ∃ uu, uu = (w.alloc (.cells #[fo, lo, .int .i64 1, sc, mo, iv] 24)).alloc (.cells #[] 72) := ⟨_, rfl⟩
 have R1 : CellsAt u1 w.heap.size 24 #[fo, lo, .int .i64 1, sc, mo, iv] := by rw [hu]; exact (CellsAt.new w 24 _).alloc _
 have hrow0 : u1.ownsRow (w.heap.size + 1) 72 2 (.slice (some ⟨w.heap.size + 1, 0, none⟩) 0 0) 0 [] := by
  rw [hu]
  have := World.ownsRow_made (e := 72) (size := 2) (base := w.heap.size + 1) (w.alloc (.cells #[fo, lo, .int .i64 1, sc, mo, iv] 24)) #[] 0 (by simp) (by unfold maxLen; omega) (by simp)
  simpa only [World.size_alloc] using this
 have gu1 : Gr w u1 := by rw [hu]; exact ((Gr.refl w).alloc _ _).alloc _ _
 rw [← hu]
 clear hu
 have l1 := R1.lt
 have c1 := R1.at 1
 have c2 := R1.at 2
 go_wp2_with (first | (go_at_call 38; refine (HP.out _).mono ?_; rintro e wz ⟨rfl, hwz⟩; subst wz))
 clear c1 c2
 go_loopw [3, 6] (fun v i wr => ∃ (h : Int) (pre rest : List Gi), i = .int .i64 h ∧ 1 ≤ h ∧ h ≤ 256 ∧ pre.length ≤ h ∧ pre ++ rest = L ∧ Rest 1 lo n h rest ∧ True ∧ wr.ownsRow (w.heap.size + 1) 72 2 v pre.length (gcells pre) ∧ CellsAt wr w.heap.size 24 #[fo, lo, .int .i64 1, sc, mo, iv] ∧ Gr w wr)
  (fun _ i _ => 400 - (intOf i).toNat)
 case atStart => exact ⟨1, [], L, rfl, by omega, by omega, by simp, rfl, hR, trivial, hrow0, R1, gu1⟩
 case round =>
  clear hR hrow0 R1 gu1 l1;obtain ⟨h, pre, rest, rfl, hh1, hh2, hln, hL, hR, hx, hrow, hP, hg⟩ := hrel;have l1 := hP.lt;have c1 := hP.at 1;have c2 := hP.at 2
  by_cases hlt : h < n
  ·obtain ⟨l', hl', hR'⟩ := hR.step hh1 hlt
   have hk : passK 1 lo h = 4 := by unfold passK; rw [if_neg (by rw [hr]; omega)]
   rw [hk] at hl' hR'
   have hpe : h * 4 = 4 * h := Int.mul_comm _ _
   rw [hpe] at hR';clear hR hk hpe
   go_wp2_with (at_builtin; refine wpList_append_own_at _ rfl (.tmp 38) (.tmp 41) 69 rfl (w.heap.size + 1) 72 i0 (.agg #[.int .i64 0, .int .i64 0]) 2 16 Tryz.underlying69 hi hz0 hz1 hz2 rfl (by decide) _ _ _ rfl (hrow.alloc _) ⟨_, 0, none⟩ 1 1 [.int .i64 4, .int .i64 h] rfl rfl (news_two _ _ _ _) (by simp [Value.oneCell']) (by unfold maxLen; omega) (by omega) (by simp; omega) ?_; intro v' w3 hown' hgrow _ hblk)
   have hg3 := (hg.allocO _).grown hgrow (fun k e => by have := (hrow.lt k e).1; omega);have hP3 := (hP.alloc _).grown hgrow (fun e => by have := (hrow.lt _ e.symm).1; omega)
   go_roundw
   case rel =>
    refine ⟨4 * h, pre ++ [⟨4, h⟩], l', rfl, by omega, by omega, by simp; omega, by rw [List.append_assoc, ← hL, hl']; rfl, hR', trivial, ?_, hP3, hg3⟩;rw [List.length_append, gcells_snoc]
    exact hown'
   case measure => simp [intOf]; omega
  ·have hl := hR.done hlt
   subst hl;go_wp2_with fail
   go_ret
   refine ⟨_, rfl, ?_, hg, fun b e => Nat.le_of_succ_le (hrow.lt b e).1⟩;rw [← hL, List.append_nil]
   exact CxsAt.of_row hrow
theorem refPasses_1o (fo lo sc mo n : Int) (iv : Bool) (h0 : 2 ≤ lo) (h1 : lo < 7) (hn : n = 2 ^ lo.toNat) (hr : lo.tmod 2 = 1) (w : World) :
 Calls Tryz.prog 48 #[.agg #[fo, lo, .int .i64 1, sc, mo, iv]] w fun e w' => ∃ v, e = .returned v ∧ CxsAt w' v (passL 1 lo) ∧ Gr w w' ∧ (∀ b, v.ownBlock = some b → w.heap.size ≤ b) := by
 have HP := kh (pow_c lo (by omega) (by omega))
 rw [← hn] at HP
 obtain ⟨n0, n1, _⟩ := pow_log lo n h0 h1 hn
 obtain ⟨i0, hi, hz0, hz1, hz2⟩ := info_parts info_pass
 have hR := passL_rest 1 lo n (by decide) h0 h1 hn
 generalize passL 1 lo = L at *
 obtain ⟨l', hl', hR'⟩ := hR.step (by omega) (by omega)
 have hk : passK 1 lo 1 = 2 := by unfold passK; rw [if_pos (.inr ⟨hr, rfl⟩)]
 rw [hk] at hl' hR'
 clear hn h0 h1 hR hk
 go_in
 go_wp2_with fail
 obtain ⟨u1, hu⟩ : ∃ uu, uu = (w.alloc (.cells #[fo, lo, .int .i64 1, sc, mo, iv] 24)).alloc (.cells #[] 72) := ⟨_, rfl⟩
 have R1 : CellsAt u1 w.heap.size 24 #[fo, lo, .int .i64 1, sc, mo, iv] := by rw [hu]; exact (CellsAt.new w 24 _).alloc _
 have hrow0 : u1.ownsRow (w.heap.size + 1) 72 2 (.slice (some ⟨w.heap.size + 1, 0, none⟩) 0 0) 0 [] := by
  rw [hu]
  have := World.ownsRow_made (e := 72) (size := 2) (base := w.heap.size + 1) (w.alloc (.cells #[fo, lo, .int .i64 1, sc, mo, iv] 24)) #[] 0 (by simp) (by unfold maxLen; omega) (by simp)
  simpa only [World.size_alloc] using this
 have gu1 : Gr w u1 := by rw [hu]; exact ((Gr.refl w).alloc _ _).alloc _ _
 rw [← hu]
 clear hu
 have l1 := R1.lt
 have c1 := R1.at 1
 have c2 := R1.at 2
 go_wp2_with (first | (go_at_call 38; refine (HP.out _).mono ?_; rintro e wz ⟨rfl, hwz⟩; subst wz) | (at_builtin; refine wpList_append_own_at _ rfl (.tmp 31) (.tmp 33) 69 rfl (w.heap.size + 1) 72 i0 (.agg #[.int .i64 0, .int .i64 0]) 2 16 Tryz.underlying69 hi hz0 hz1 hz2 rfl (by decide) _ _ _ rfl (hrow0.alloc _) ⟨_, 0, none⟩ 1 1 [.int .i64 2, .int .i64 1] rfl rfl (news_two _ _ _ _) (by simp [Value.oneCell']) (by unfold maxLen; omega) (by omega) (by simp; omega) ?_; intro v' w3 hown' hgrow _ hblk))
 have gu2 := (gu1.allocO _).grown hgrow (fun k e => by have := (hrow0.lt k e).1; omega)
 have R2 := (R1.alloc _).grown hgrow (fun e => by have := (hrow0.lt _ e.symm).1; omega)
 have hrow2 := hown'
 clear hrow0 gu1 R1 c1 c2 l1 hown' hgrow hblk
 go_loopw [3, 6] (fun v i wr => ∃ (h : Int) (pre rest : List Gi), i = .int .i64 h ∧ 1 ≤ h ∧ h ≤ 256 ∧ pre.length ≤ h ∧ pre ++ rest = L ∧ Rest 1 lo n h rest ∧ 2 ≤ h ∧ wr.ownsRow (w.heap.size + 1) 72 2 v pre.length (gcells pre) ∧ CellsAt wr w.heap.size 24 #[fo, lo, .int .i64 1, sc, mo, iv] ∧ Gr w wr)
  (fun _ i _ => 400 - (intOf i).toNat)
 case atStart => exact ⟨2, [⟨2, 1⟩], l', rfl, by omega, by omega, by simp, by rw [hl']; rfl, hR', by omega, hrow2, R2, gu2⟩
 case round =>
  clear hR' hrow2 R2 gu2;obtain ⟨h, pre, rest, rfl, hh1, hh2, hln, hL, hR, hx, hrow, hP, hg⟩ := hrel;have l1 := hP.lt;have c1 := hP.at 1;have c2 := hP.at 2
  by_cases hlt : h < n
  ·obtain ⟨l', hl', hR'⟩ := hR.step hh1 hlt
   have hk : passK 1 lo h = 4 := by unfold passK; rw [if_neg (by omega)]
   rw [hk] at hl' hR'
   have hpe : h * 4 = 4 * h := Int.mul_comm _ _
   rw [hpe] at hR';clear hR hk hpe
   go_wp2_with (at_builtin; refine wpList_append_own_at _ rfl (.tmp 38) (.tmp 41) 69 rfl (w.heap.size + 1) 72 i0 (.agg #[.int .i64 0, .int .i64 0]) 2 16 Tryz.underlying69 hi hz0 hz1 hz2 rfl (by decide) _ _ _ rfl (hrow.alloc _) ⟨_, 0, none⟩ 1 1 [.int .i64 4, .int .i64 h] rfl rfl (news_two _ _ _ _) (by simp [Value.oneCell']) (by unfold maxLen; omega) (by omega) (by simp; omega) ?_; intro v' w3 hown' hgrow _ hblk)
   have hg3 := (hg.allocO _).grown hgrow (fun k e => by have := (hrow.lt k e).1; omega);have hP3 := (hP.alloc _).grown hgrow (fun e => by have := (hrow.lt _ e.symm).1; omega)
   go_roundw
   case rel =>
    refine ⟨4 * h, pre ++ [⟨4, h⟩], l', rfl, by omega, by omega, by simp; omega, by rw [List.append_assoc, ← hL, hl']; rfl, hR', by omega, ?_, hP3, hg3⟩;rw [List.length_append, gcells_snoc]
    exact hown'
   case measure => simp [intOf]; omega
  ·have hl := hR.done hlt
   subst hl;go_wp2_with fail
   go_ret
   refine ⟨_, rfl, ?_, hg, fun b e => Nat.le_of_succ_le (hrow.lt b e).1⟩;rw [← hl', ← hL, List.append_nil]
   exact CxsAt.of_row hrow
theorem refPasses_new (fo lo ke sc mo : Int) (iv : Bool) (hok : okF fo lo ke sc mo = true) (w : World) :
 Calls Tryz.prog 48 #[.agg #[fo, lo, ke, sc, mo, iv]] w fun e w' => ∃ v, e = .returned v ∧ CxsAt w' v (passL ke lo) ∧ Gr w w' ∧ (∀ b, v.ownBlock = some b → w.heap.size ≤ b) := by
 have hf := okF_iff.1 hok
 have hc : ke = 0 ∨ ke = 1 ∨ ke = 2 := by omega
 rcases hc with rfl | rfl | rfl
 ·exact refPasses_0 fo lo sc mo _ iv (by omega) (by omega) rfl w
 ·by_cases hr : lo.tmod 2 = 1
  ·exact refPasses_1o fo lo sc mo _ iv (by omega) (by omega) rfl hr w
  ·exact refPasses_1e fo lo sc mo _ iv (by omega) (by omega) rfl _ rfl hr w
 ·exact refPasses_2 fo lo sc mo _ iv (by omega) (by omega) rfl w
theorem refPasses_c (fo lo ke sc mo : Int) (iv : Bool) (hok : okF fo lo ke sc mo = true) (w : World) :
 Calls Tryz.prog 48 #[.agg #[fo, lo, ke, sc, mo, iv]] w fun e w' => ∃ v, e = .returned v ∧ CxsAt w' v (passL ke lo) ∧ Gr w w' :=
 (refPasses_new fo lo ke sc mo iv hok w).mono fun e w' ⟨v, h1, h2, h3, _⟩ => ⟨v, h1, h2, h3⟩
theorem CxsAt.grown {W w' : World} {b o n c : Nat} {xs : List Gi} {row : Option Nat} (h : CxsAt W (.slice (some ⟨b, o, none⟩) n c) xs) (hg : W.grownBy w' row) (hne : some b ≠ row) : CxsAt w' (.slice (some ⟨b, o, none⟩) n c) xs := by
 obtain ⟨p, cap, hv, hl, hm, hc⟩ := h
 refine ⟨p, cap, hv, hl, hm, fun hx => ?_⟩
 obtain ⟨b', o', hp, hbb, hc⟩ := hc hx
 have hb : b' = b := by
  rw [hp] at hv
  cases hv
  rfl
 have hs := hg.block b' hbb (by rw [hb]; exact hne)
 refine ⟨b', o', hp, Nat.lt_of_lt_of_le hbb hg.size, fun j x hj => ?_⟩
 have := hc j x hj
 unfold World.cell? at this ⊢
 rw [hs]
 exact this
theorem nums_of_cells {W : World} {B cap : Nat} {t : TypeId} {c : Array Value} {ls : List Int} (h : CellsAt W B t c) (hc : ∀ (j : Nat) x, ls[j]? = some x → c[j]? = some (.int .i64 x)) (h1 : ls.length ≤ cap) (h2 : cap ≤ maxLen) : NumsAt W (.slice (some ⟨B, 0, none⟩) ls.length cap) ls := by
 refine ⟨_, cap, rfl, h1, h2, fun _ => ⟨B, 0, rfl, h.lt, fun j x hj => ?_⟩⟩
 rw [Nat.zero_add, h.cell]
 exact hc j x hj
end
end Go.Proofs.YtdignnmpfkgkoaaGreat
