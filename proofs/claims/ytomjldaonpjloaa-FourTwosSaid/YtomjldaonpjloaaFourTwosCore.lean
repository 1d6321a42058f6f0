/- FourTwos, from what the passes answer. -/
import Derived.Test.YtomjldaonpjloaaLaw11
import Derived.Test.YtomjldaonpjloaaLaw10
import Derived.Test.YtomjldaonpjloaaArr4
namespace Go.Proofs.Ytomjldaonpjloaa
open Go.ChangeShapes Go.WideShapes Go.ChangeAt Go.RowKit
set_option linter.unusedVariables false
set_option linter.unusedSimpArgs false
set_option maxRecDepth 100000

/-- A number's parts behind the last 29 bits. -/
def md (g : Gi) : Gi := ⟨g.re.tmod 536870912, g.im.tmod 536870912⟩
theorem news_two1 (W : World) (o : Obj) (x y : Value) (t : TypeId) : ∀ j u, [x, y][j]? = some u → ((W.alloc o).alloc (.cells #[x, y] t)).cell? ((⟨W.heap.size + 1, 0, none⟩ : Addr).add j) = some u := by
  have h := news_two (W.alloc o) x y t
  rw [World.size_alloc] at h
  exact h
theorem cxs_lit {W : World} {B : Nat} {t : TypeId} {xs : List Gi} (h : CellsAt W B t (gcells xs).toArray) (hl : xs.length ≤ maxLen) : CxsAt W (.slice (some ⟨B, 0, none⟩) xs.length xs.length) xs := by
  refine ⟨_, _, rfl, Nat.le_refl _, hl, fun _ => ⟨B, 0, rfl, h.lt, fun j x hj => ?_⟩⟩
  have k := gcells_at xs j x hj
  rw [Nat.zero_add, h.cell, h.cell]
  simpa using k


set_option maxHeartbeats 4000000 in
theorem fourTwos_of (f : Nat → Gi) (inv : Bool) (L2 L4 : List Gi) (h2 : L2.length = 4)
    (HF : Hid (∀ px cx pw cw W, CxsAt W (.slice px 4 cx) [md (f 0), md (f 1), md (f 2), md (f 3)] → CxsAt W (.slice pw 4 cw) [⟨1, 0⟩, ⟨0, -1⟩, ⟨-1, 0⟩, ⟨0, 1⟩] → Calls Try.prog 24 #[.slice px 4 cx, .slice pw 4 cw, .int .i64 1, .int .i64 0, .int .i64 0, .int .i64 0, .bool inv] W fun e w' => ∃ v, e = .returned (.tuple #[v, .int .i64 0]) ∧ CxsAt w' v L4 ∧ Gr W w'))
    (HT : Hid (∀ px cx pw cw W, CxsAt W (.slice px 4 cx) [md (f 0), md (f 1), md (f 2), md (f 3)] → CxsAt W (.slice pw 4 cw) [⟨1, 0⟩, ⟨0, -1⟩, ⟨-1, 0⟩, ⟨0, 1⟩] → Calls Try.prog 25 #[.slice px 4 cx, .slice pw 4 cw, .int .i64 1, .int .i64 0, .int .i64 0, .int .i64 0, .bool inv] W fun e w' => ∃ v, e = .returned (.tuple #[v, .int .i64 0]) ∧ CxsAt w' v L2 ∧ Gr W w'))
    (HU : Hid (∀ px cx pw cw W, CxsAt W (.slice px 4 cx) L2 → CxsAt W (.slice pw 4 cw) [⟨1, 0⟩, ⟨0, -1⟩, ⟨-1, 0⟩, ⟨0, 1⟩] → Calls Try.prog 25 #[.slice px 4 cx, .slice pw 4 cw, .int .i64 2, .int .i64 0, .int .i64 0, .int .i64 0, .bool inv] W fun e w' => ∃ v, e = .returned (.tuple #[v, .int .i64 0]) ∧ CxsAt w' v L4 ∧ Gr W w'))
    (AL : Hid (∀ W, Calls Try.prog 19 #[] W fun e w' => e = .returned (.bool true) ∧ Gr W w')) (w : World) :
    Calls Try.prog 7 #[.agg #[.int .i64 (f 0).re, .int .i64 (f 0).im, .int .i64 (f 1).re, .int .i64 (f 1).im, .int .i64 (f 2).re, .int .i64 (f 2).im, .int .i64 (f 3).re, .int .i64 (f 3).im], .bool inv] w fun e w' => e = .returned (.bool true) ∧ Gr w w' := by
  obtain ⟨i0', hi, hz0, hz1, hz2⟩ := info_parts info_cx
  go_enter Try.func7, Try.ntmps7
  go_wp2_with fail
  obtain ⟨u0, hU⟩ : ∃ uu, uu = ((w.alloc (.cells #[.int .i64 (f 0).re, .int .i64 (f 0).im, .int .i64 (f 1).re, .int .i64 (f 1).im, .int .i64 (f 2).re, .int .i64 (f 2).im, .int .i64 (f 3).re, .int .i64 (f 3).im] 40)).alloc (.cells #[.int .i64 1, .int .i64 0, .int .i64 0, .int .i64 (-1), .int .i64 (-1), .int .i64 0, .int .i64 0, .int .i64 1] 39)) := ⟨_, rfl⟩
  have gu : Gr w u0 := by rw [hU]; exact ((Gr.refl w).alloc _ _).alloc _ _
  have R0 : CellsAt u0 (w.heap.size) 40 #[.int .i64 (f 0).re, .int .i64 (f 0).im, .int .i64 (f 1).re, .int .i64 (f 1).im, .int .i64 (f 2).re, .int .i64 (f 2).im, .int .i64 (f 3).re, .int .i64 (f 3).im] := by
    rw [hU]
    have := ((CellsAt.new w 40 #[.int .i64 (f 0).re, .int .i64 (f 0).im, .int .i64 (f 1).re, .int .i64 (f 1).im, .int .i64 (f 2).re, .int .i64 (f 2).im, .int .i64 (f 3).re, .int .i64 (f 3).im]).alloc (.cells #[.int .i64 1, .int .i64 0, .int .i64 0, .int .i64 (-1), .int .i64 (-1), .int .i64 0, .int .i64 0, .int .i64 1] 39))
    simpa only [World.size_alloc] using this
  have R1 : CellsAt u0 (w.heap.size + 1) 39 #[.int .i64 1, .int .i64 0, .int .i64 0, .int .i64 (-1), .int .i64 (-1), .int .i64 0, .int .i64 0, .int .i64 1] := by
    rw [hU]
    have := (CellsAt.new (w.alloc (.cells #[.int .i64 (f 0).re, .int .i64 (f 0).im, .int .i64 (f 1).re, .int .i64 (f 1).im, .int .i64 (f 2).re, .int .i64 (f 2).im, .int .i64 (f 3).re, .int .i64 (f 3).im] 40)) 39 #[.int .i64 1, .int .i64 0, .int .i64 0, .int .i64 (-1), .int .i64 (-1), .int .i64 0, .int .i64 0, .int .i64 1])
    simpa only [World.size_alloc] using this
  rw [← hU]
  clear hU
  have la := R0.lt
  have ls := R1.lt
  have i0 : ∀ W, (Instr.index 40 (.agg #[.int .i64 (f 0).re, .int .i64 (f 0).im, .int .i64 (f 1).re, .int .i64 (f 1).im, .int .i64 (f 2).re, .int .i64 (f 2).im, .int .i64 (f 3).re, .int .i64 (f 3).im]) (.int .i64 0)).run Try.prog W = .ok (.agg #[.int .i64 (f 0).re, .int .i64 (f 0).im]) W := fun W => idx4 f 0 (by omega) W
  have i1 : ∀ W, (Instr.index 40 (.agg #[.int .i64 (f 0).re, .int .i64 (f 0).im, .int .i64 (f 1).re, .int .i64 (f 1).im, .int .i64 (f 2).re, .int .i64 (f 2).im, .int .i64 (f 3).re, .int .i64 (f 3).im]) (.int .i64 1)).run Try.prog W = .ok (.agg #[.int .i64 (f 1).re, .int .i64 (f 1).im]) W := fun W => idx4 f 1 (by omega) W
  have i2 : ∀ W, (Instr.index 40 (.agg #[.int .i64 (f 0).re, .int .i64 (f 0).im, .int .i64 (f 1).re, .int .i64 (f 1).im, .int .i64 (f 2).re, .int .i64 (f 2).im, .int .i64 (f 3).re, .int .i64 (f 3).im]) (.int .i64 2)).run Try.prog W = .ok (.agg #[.int .i64 (f 2).re, .int .i64 (f 2).im]) W := fun W => idx4 f 2 (by omega) W
  have i3 : ∀ W, (Instr.index 40 (.agg #[.int .i64 (f 0).re, .int .i64 (f 0).im, .int .i64 (f 1).re, .int .i64 (f 1).im, .int .i64 (f 2).re, .int .i64 (f 2).im, .int .i64 (f 3).re, .int .i64 (f 3).im]) (.int .i64 3)).run Try.prog W = .ok (.agg #[.int .i64 (f 3).re, .int .i64 (f 3).im]) W := fun W => idx4 f 3 (by omega) W
  have hown0 := World.ownsRow_nil u0 u0.heap.size 39 2
  have hs0 : u0.heap.size ≤ u0.heap.size := Nat.le_refl _
  have S0 := R1
  have y0 := gu
  clear R0 R1 gu
  refine wp_loop_rounds 5 ?_
  rw [rounds_succ]
  go_wp2_with (at_builtin; refine wpList_append_own_at _ rfl (.tmp 24) (.tmp 32) 51 rfl u0.heap.size 39 i0' (.agg #[.int .i64 0, .int .i64 0]) 2 16 Try.underlying51 hi hz0 hz1 hz2 rfl (by decide) _ _ _ rfl ((hown0.alloc _).alloc _) ⟨_, 0, none⟩ 1 1 [.int .i64 ((f 0).re.tmod 536870912), .int .i64 ((f 0).im.tmod 536870912)] rfl rfl (news_two1 _ _ _ _ _) (by simp [Value.oneCell']) (by unfold maxLen; omega) (by omega) (by simp; omega) ?_; intro v1 W1 hown1 hgrow1 _ _)
  have y1 : Gr w W1 := ((y0.allocO _).allocO _).grown hgrow1 (fun b e => by have := (hown0.lt b e).1; omega)
  have S1 := ((S0.alloc _).alloc _).grown hgrow1 (fun e => by have := (hown0.lt _ e.symm).1; omega)
  have hs1 : u0.heap.size ≤ W1.heap.size := by have := hgrow1.size; simp at this; omega
  clear hown0 hgrow1 y0 S0 i0
  rw [rounds_succ]
  go_wp2_with (at_builtin; refine wpList_append_own_at _ rfl (.tmp 24) (.tmp 32) 51 rfl u0.heap.size 39 i0' (.agg #[.int .i64 0, .int .i64 0]) 2 16 Try.underlying51 hi hz0 hz1 hz2 rfl (by decide) _ _ _ rfl ((hown1.alloc _).alloc _) ⟨_, 0, none⟩ 1 1 [.int .i64 ((f 1).re.tmod 536870912), .int .i64 ((f 1).im.tmod 536870912)] rfl rfl (news_two1 _ _ _ _ _) (by simp [Value.oneCell']) (by unfold maxLen; omega) (by omega) (by simp; omega) ?_; intro v2 W2 hown2 hgrow2 _ _)
  have y2 : Gr w W2 := ((y1.allocO _).allocO _).grown hgrow2 (fun b e => by have := (hown1.lt b e).1; omega)
  have S2 := ((S1.alloc _).alloc _).grown hgrow2 (fun e => by have := (hown1.lt _ e.symm).1; omega)
  have hs2 : u0.heap.size ≤ W2.heap.size := by have := hgrow2.size; simp at this; omega
  clear hown1 hgrow2 y1 S1 i1
  rw [rounds_succ]
  go_wp2_with (at_builtin; refine wpList_append_own_at _ rfl (.tmp 24) (.tmp 32) 51 rfl u0.heap.size 39 i0' (.agg #[.int .i64 0, .int .i64 0]) 2 16 Try.underlying51 hi hz0 hz1 hz2 rfl (by decide) _ _ _ rfl ((hown2.alloc _).alloc _) ⟨_, 0, none⟩ 1 1 [.int .i64 ((f 2).re.tmod 536870912), .int .i64 ((f 2).im.tmod 536870912)] rfl rfl (news_two1 _ _ _ _ _) (by simp [Value.oneCell']) (by unfold maxLen; omega) (by omega) (by simp; omega) ?_; intro v3 W3 hown3 hgrow3 _ _)
  have y3 : Gr w W3 := ((y2.allocO _).allocO _).grown hgrow3 (fun b e => by have := (hown2.lt b e).1; omega)
  have S3 := ((S2.alloc _).alloc _).grown hgrow3 (fun e => by have := (hown2.lt _ e.symm).1; omega)
  have hs3 : u0.heap.size ≤ W3.heap.size := by have := hgrow3.size; simp at this; omega
  clear hown2 hgrow3 y2 S2 i2
  rw [rounds_succ]
  go_wp2_with (at_builtin; refine wpList_append_own_at _ rfl (.tmp 24) (.tmp 32) 51 rfl u0.heap.size 39 i0' (.agg #[.int .i64 0, .int .i64 0]) 2 16 Try.underlying51 hi hz0 hz1 hz2 rfl (by decide) _ _ _ rfl ((hown3.alloc _).alloc _) ⟨_, 0, none⟩ 1 1 [.int .i64 ((f 3).re.tmod 536870912), .int .i64 ((f 3).im.tmod 536870912)] rfl rfl (news_two1 _ _ _ _ _) (by simp [Value.oneCell']) (by unfold maxLen; omega) (by omega) (by simp; omega) ?_; intro v4 W4 hown4 hgrow4 _ _; obtain ⟨g4, cap4, rfl⟩ := ownsRow_succ hown4)
  have y4 : Gr w W4 := ((y3.allocO _).allocO _).grown hgrow4 (fun b e => by have := (hown3.lt b e).1; omega)
  have S4 := ((S3.alloc _).alloc _).grown hgrow4 (fun e => by have := (hown3.lt _ e.symm).1; omega)
  have hs4 : u0.heap.size ≤ W4.heap.size := by have := hgrow4.size; simp at this; omega
  clear hown3 hgrow4 y3 S3 i3
  have X4 : CxsAt W4 (.slice (some ⟨g4, 0, none⟩) 4 cap4) [md (f 0), md (f 1), md (f 2), md (f 3)] := CxsAt.of_row hown4
  have V4 : CxsAt W4 (.slice (some ⟨w.heap.size + 1, 0, none⟩) 4 4) [⟨1, 0⟩, ⟨0, -1⟩, ⟨-1, 0⟩, ⟨0, 1⟩] := cxs_lit (xs := [⟨1, 0⟩, ⟨0, -1⟩, ⟨-1, 0⟩, ⟨0, 1⟩]) S4 (by unfold maxLen; simp)
  clear hown4 S4
  rw [rounds_succ]
  go_wp2_with fail
  refine (HF.out _ _ _ _ _ X4 V4).mono ?_
  rintro e w5 ⟨y, rfl, hy5, g5⟩
  have X5 := X4.gr g5
  have V5 := V4.gr g5
  have y5 := y4.trans g5
  clear X4 V4 g5 y4
  go_wp2_with fail
  refine (HT.out _ _ _ _ _ X5 V5).mono ?_
  rintro e w6 ⟨p, rfl, hp6, g6⟩
  have V6 := V5.gr g6
  have y6 := y5.trans g6
  have hy6 := hy5.gr g6
  obtain ⟨pp, pc, rfl⟩ := hp6.len
  rw [h2] at hp6 ⊢
  clear X5 V5 g6 y5 hy5
  go_wp2_with fail
  refine (HU.out _ _ _ _ _ hp6 V6).mono ?_
  rintro e w7 ⟨z, rfl, hz7, g7⟩
  have y7 := y6.trans g7
  have hy7 := hy6.gr g7
  go_wp2_with fail
  refine (AL.out _).mono ?_
  rintro e w8 ⟨rfl, g8⟩
  go_wp2_with fail
  refine (same03_c _ _ L4 w8 (hy7.gr g8) (hz7.gr g8)).mono ?_
  rintro e w9 ⟨rfl, g9⟩
  go_wp2_with fail
  go_ret
  exact ⟨rfl, (y7.trans g8).trans g9⟩

end Go.Proofs.Ytomjldaonpjloaa
