import Derived.Laws.Rows
import Derived.Laws.Tables
import Derived.Test.YtdignnmpfkgkoaaGreatRealBinsS2
namespace Go.Proofs.YtdignnmpfkgkoaaGreat
section
set_option maxHeartbeats 16000000
theorem CellsAt.gl {W W' : World} {B : Nat} {t : TypeId} {c : Array Value} (h : CellsAt W B t c) (hg : Gr W W') : CellsAt W' B t c ∧ B < W'.heap.size := ⟨h.gr hg, (h.gr hg).lt⟩
theorem CellsAt.t1 {W : World} {B : Nat} {t : TypeId} {c : Array Value} (h : CellsAt W B t c) {v0 : Value} (e0 : c[0]? = some v0 := by ((simp only [getS]) <;> rfl)) : W.cell? ⟨B, 0, none⟩ = some v0 := (h.cell 0).trans e0
theorem CellsAt.t2 {W : World} {B : Nat} {t : TypeId} {c : Array Value} (h : CellsAt W B t c) {v0 v1 : Value} (e0 : c[0]? = some v0 := by ((simp only [getS]) <;> rfl)) (e1 : c[1]? = some v1 := by ((simp only [getS]) <;> rfl)) : W.cell? ⟨B, 0, none⟩ = some v0 ∧ W.cell? ⟨B, 1, none⟩ = some v1 := ⟨(h.cell 0).trans e0, (h.cell 1).trans e1⟩
theorem CellsAt.t3 {W : World} {B : Nat} {t : TypeId} {c : Array Value} (h : CellsAt W B t c) {v0 v1 v2 : Value} (e0 : c[0]? = some v0 := by ((simp only [getS]) <;> rfl)) (e1 : c[1]? = some v1 := by ((simp only [getS]) <;> rfl)) (e2 : c[2]? = some v2 := by ((simp only [getS]) <;> rfl)) : W.cell? ⟨B, 0, none⟩ = some v0 ∧ W.cell? ⟨B, 1, none⟩ = some v1 ∧ W.cell? ⟨B, 2, none⟩ = some v2 := ⟨(h.cell 0).trans e0, (h.cell 1).trans e1, (h.cell 2).trans e2⟩
theorem CellsAt.t4 {W : World} {B : Nat} {t : TypeId} {c : Array Value} (h : CellsAt W B t c) {v0 v1 v2 v3 : Value} (e0 : c[0]? = some v0 := by ((simp only [getS]) <;> rfl)) (e1 : c[1]? = some v1 := by ((simp only [getS]) <;> rfl)) (e2 : c[2]? = some v2 := by ((simp only [getS]) <;> rfl)) (e3 : c[3]? = some v3 := by ((simp only [getS]) <;> rfl)) : W.cell? ⟨B, 0, none⟩ = some v0 ∧ W.cell? ⟨B, 1, none⟩ = some v1 ∧ W.cell? ⟨B, 2, none⟩ = some v2 ∧ W.cell? ⟨B, 3, none⟩ = some v3 := ⟨(h.cell 0).trans e0, (h.cell 1).trans e1, (h.cell 2).trans e2, (h.cell 3).trans e3⟩
theorem CellsAt.t5 {W : World} {B : Nat} {t : TypeId} {c : Array Value} (h : CellsAt W B t c) {v0 v1 v2 v3 v4 : Value} (e0 : c[0]? = some v0 := by ((simp only [getS]) <;> rfl)) (e1 : c[1]? = some v1 := by ((simp only [getS]) <;> rfl)) (e2 : c[2]? = some v2 := by ((simp only [getS]) <;> rfl)) (e3 : c[3]? = some v3 := by ((simp only [getS]) <;> rfl)) (e4 : c[4]? = some v4 := by ((simp only [getS]) <;> rfl)) : W.cell? ⟨B, 0, none⟩ = some v0 ∧ W.cell? ⟨B, 1, none⟩ = some v1 ∧ W.cell? ⟨B, 2, none⟩ = some v2 ∧ W.cell? ⟨B, 3, none⟩ = some v3 ∧ W.cell? ⟨B, 4, none⟩ = some v4 := ⟨(h.cell 0).trans e0, (h.cell 1).trans e1, (h.cell 2).trans e2, (h.cell 3).trans e3, (h.cell 4).trans e4⟩
theorem CellsAt.t6 {W : World} {B : Nat} {t : TypeId} {c : Array Value} (h : CellsAt W B t c) {v0 v1 v2 v3 v4 v5 : Value} (e0 : c[0]? = some v0 := by ((simp only [getS]) <;> rfl)) (e1 : c[1]? = some v1 := by ((simp only [getS]) <;> rfl)) (e2 : c[2]? = some v2 := by ((simp only [getS]) <;> rfl)) (e3 : c[3]? = some v3 := by ((simp only [getS]) <;> rfl)) (e4 : c[4]? = some v4 := by ((simp only [getS]) <;> rfl)) (e5 : c[5]? = some v5 := by ((simp only [getS]) <;> rfl)) : W.cell? ⟨B, 0, none⟩ = some v0 ∧ W.cell? ⟨B, 1, none⟩ = some v1 ∧ W.cell? ⟨B, 2, none⟩ = some v2 ∧ W.cell? ⟨B, 3, none⟩ = some v3 ∧ W.cell? ⟨B, 4, none⟩ = some v4 ∧ W.cell? ⟨B, 5, none⟩ = some v5 := ⟨(h.cell 0).trans e0, (h.cell 1).trans e1, (h.cell 2).trans e2, (h.cell 3).trans e3, (h.cell 4).trans e4, (h.cell 5).trans e5⟩
theorem CellsAt.t7 {W : World} {B : Nat} {t : TypeId} {c : Array Value} (h : CellsAt W B t c) {v0 v1 v2 v3 v4 v5 v6 : Value} (e0 : c[0]? = some v0 := by ((simp only [getS]) <;> rfl)) (e1 : c[1]? = some v1 := by ((simp only [getS]) <;> rfl)) (e2 : c[2]? = some v2 := by ((simp only [getS]) <;> rfl)) (e3 : c[3]? = some v3 := by ((simp only [getS]) <;> rfl)) (e4 : c[4]? = some v4 := by ((simp only [getS]) <;> rfl)) (e5 : c[5]? = some v5 := by ((simp only [getS]) <;> rfl)) (e6 : c[6]? = some v6 := by ((simp only [getS]) <;> rfl)) : W.cell? ⟨B, 0, none⟩ = some v0 ∧ W.cell? ⟨B, 1, none⟩ = some v1 ∧ W.cell? ⟨B, 2, none⟩ = some v2 ∧ W.cell? ⟨B, 3, none⟩ = some v3 ∧ W.cell? ⟨B, 4, none⟩ = some v4 ∧ W.cell? ⟨B, 5, none⟩ = some v5 ∧ W.cell? ⟨B, 6, none⟩ = some v6 := ⟨(h.cell 0).trans e0, (h.cell 1).trans e1, (h.cell 2).trans e2, (h.cell 3).trans e3, (h.cell 4).trans e4, (h.cell 5).trans e5, (h.cell 6).trans e6⟩
theorem CellsAt.t8 {W : World} {B : Nat} {t : TypeId} {c : Array Value} (h : CellsAt W B t c) {v0 v1 v2 v3 v4 v5 v6 v7 : Value} (e0 : c[0]? = some v0 := by ((simp only [getS]) <;> rfl)) (e1 : c[1]? = some v1 := by ((simp only [getS]) <;> rfl)) (e2 : c[2]? = some v2 := by ((simp only [getS]) <;> rfl)) (e3 : c[3]? = some v3 := by ((simp only [getS]) <;> rfl)) (e4 : c[4]? = some v4 := by ((simp only [getS]) <;> rfl)) (e5 : c[5]? = some v5 := by ((simp only [getS]) <;> rfl)) (e6 : c[6]? = some v6 := by ((simp only [getS]) <;> rfl)) (e7 : c[7]? = some v7 := by ((simp only [getS]) <;> rfl)) : W.cell? ⟨B, 0, none⟩ = some v0 ∧ W.cell? ⟨B, 1, none⟩ = some v1 ∧ W.cell? ⟨B, 2, none⟩ = some v2 ∧ W.cell? ⟨B, 3, none⟩ = some v3 ∧ W.cell? ⟨B, 4, none⟩ = some v4 ∧ W.cell? ⟨B, 5, none⟩ = some v5 ∧ W.cell? ⟨B, 6, none⟩ = some v6 ∧ W.cell? ⟨B, 7, none⟩ = some v7 := ⟨(h.cell 0).trans e0, (h.cell 1).trans e1, (h.cell 2).trans e2, (h.cell 3).trans e3, (h.cell 4).trans e4, (h.cell 5).trans e5, (h.cell 6).trans e6, (h.cell 7).trans e7⟩
theorem CellsAt.t10 {W : World} {B : Nat} {t : TypeId} {c : Array Value} (h : CellsAt W B t c) {v0 v1 v2 v3 v4 v5 v6 v7 v8 v9 : Value} (e0 : c[0]? = some v0 := by ((simp only [getS]) <;> rfl)) (e1 : c[1]? = some v1 := by ((simp only [getS]) <;> rfl)) (e2 : c[2]? = some v2 := by ((simp only [getS]) <;> rfl)) (e3 : c[3]? = some v3 := by ((simp only [getS]) <;> rfl)) (e4 : c[4]? = some v4 := by ((simp only [getS]) <;> rfl)) (e5 : c[5]? = some v5 := by ((simp only [getS]) <;> rfl)) (e6 : c[6]? = some v6 := by ((simp only [getS]) <;> rfl)) (e7 : c[7]? = some v7 := by ((simp only [getS]) <;> rfl)) (e8 : c[8]? = some v8 := by ((simp only [getS]) <;> rfl)) (e9 : c[9]? = some v9 := by ((simp only [getS]) <;> rfl)) : W.cell? ⟨B, 0, none⟩ = some v0 ∧ W.cell? ⟨B, 1, none⟩ = some v1 ∧ W.cell? ⟨B, 2, none⟩ = some v2 ∧ W.cell? ⟨B, 3, none⟩ = some v3 ∧ W.cell? ⟨B, 4, none⟩ = some v4 ∧ W.cell? ⟨B, 5, none⟩ = some v5 ∧ W.cell? ⟨B, 6, none⟩ = some v6 ∧ W.cell? ⟨B, 7, none⟩ = some v7 ∧ W.cell? ⟨B, 8, none⟩ = some v8 ∧ W.cell? ⟨B, 9, none⟩ = some v9 := ⟨(h.cell 0).trans e0, (h.cell 1).trans e1, (h.cell 2).trans e2, (h.cell 3).trans e3, (h.cell 4).trans e4, (h.cell 5).trans e5, (h.cell 6).trans e6, (h.cell 7).trans e7, (h.cell 8).trans e8, (h.cell 9).trans e9⟩
theorem CellsAt.t11 {W : World} {B : Nat} {t : TypeId} {c : Array Value} (h : CellsAt W B t c) {v0 v1 v2 v3 v4 v5 v6 v7 v8 v9 v10 : Value} (e0 : c[0]? = some v0 := by ((simp only [getS]) <;> rfl)) (e1 : c[1]? = some v1 := by ((simp only [getS]) <;> rfl)) (e2 : c[2]? = some v2 := by ((simp only [getS]) <;> rfl)) (e3 : c[3]? = some v3 := by ((simp only [getS]) <;> rfl)) (e4 : c[4]? = some v4 := by ((simp only [getS]) <;> rfl)) (e5 : c[5]? = some v5 := by ((simp only [getS]) <;> rfl)) (e6 : c[6]? = some v6 := by ((simp only [getS]) <;> rfl)) (e7 : c[7]? = some v7 := by ((simp only [getS]) <;> rfl)) (e8 : c[8]? = some v8 := by ((simp only [getS]) <;> rfl)) (e9 : c[9]? = some v9 := by ((simp only [getS]) <;> rfl)) (e10 : c[10]? = some v10 := by ((simp only [getS]) <;> rfl)) : W.cell? ⟨B, 0, none⟩ = some v0 ∧ W.cell? ⟨B, 1, none⟩ = some v1 ∧ W.cell? ⟨B, 2, none⟩ = some v2 ∧ W.cell? ⟨B, 3, none⟩ = some v3 ∧ W.cell? ⟨B, 4, none⟩ = some v4 ∧ W.cell? ⟨B, 5, none⟩ = some v5 ∧ W.cell? ⟨B, 6, none⟩ = some v6 ∧ W.cell? ⟨B, 7, none⟩ = some v7 ∧ W.cell? ⟨B, 8, none⟩ = some v8 ∧ W.cell? ⟨B, 9, none⟩ = some v9 ∧ W.cell? ⟨B, 10, none⟩ = some v10 := ⟨(h.cell 0).trans e0, (h.cell 1).trans e1, (h.cell 2).trans e2, (h.cell 3).trans e3, (h.cell 4).trans e4, (h.cell 5).trans e5, (h.cell 6).trans e6, (h.cell 7).trans e7, (h.cell 8).trans e8, (h.cell 9).trans e9, (h.cell 10).trans e10⟩
theorem CellsAt.t12 {W : World} {B : Nat} {t : TypeId} {c : Array Value} (h : CellsAt W B t c) {v0 v1 v2 v3 v4 v5 v6 v7 v8 v9 v10 v11 : Value} (e0 : c[0]? = some v0 := by ((simp only [getS]) <;> rfl)) (e1 : c[1]? = some v1 := by ((simp only [getS]) <;> rfl)) (e2 : c[2]? = some v2 := by ((simp only [getS]) <;> rfl)) (e3 : c[3]? = some v3 := by ((simp only [getS]) <;> rfl)) (e4 : c[4]? = some v4 := by ((simp only [getS]) <;> rfl)) (e5 : c[5]? = some v5 := by ((simp only [getS]) <;> rfl)) (e6 : c[6]? = some v6 := by ((simp only [getS]) <;> rfl)) (e7 : c[7]? = some v7 := by ((simp only [getS]) <;> rfl)) (e8 : c[8]? = some v8 := by ((simp only [getS]) <;> rfl)) (e9 : c[9]? = some v9 := by ((simp only [getS]) <;> rfl)) (e10 : c[10]? = some v10 := by ((simp only [getS]) <;> rfl)) (e11 : c[11]? = some v11 := by ((simp only [getS]) <;> rfl)) : W.cell? ⟨B, 0, none⟩ = some v0 ∧ W.cell? ⟨B, 1, none⟩ = some v1 ∧ W.cell? ⟨B, 2, none⟩ = some v2 ∧ W.cell? ⟨B, 3, none⟩ = some v3 ∧ W.cell? ⟨B, 4, none⟩ = some v4 ∧ W.cell? ⟨B, 5, none⟩ = some v5 ∧ W.cell? ⟨B, 6, none⟩ = some v6 ∧ W.cell? ⟨B, 7, none⟩ = some v7 ∧ W.cell? ⟨B, 8, none⟩ = some v8 ∧ W.cell? ⟨B, 9, none⟩ = some v9 ∧ W.cell? ⟨B, 10, none⟩ = some v10 ∧ W.cell? ⟨B, 11, none⟩ = some v11 := ⟨(h.cell 0).trans e0, (h.cell 1).trans e1, (h.cell 2).trans e2, (h.cell 3).trans e3, (h.cell 4).trans e4, (h.cell 5).trans e5, (h.cell 6).trans e6, (h.cell 7).trans e7, (h.cell 8).trans e8, (h.cell 9).trans e9, (h.cell 10).trans e10, (h.cell 11).trans e11⟩
theorem CellsAt.at {W : World} {B : Nat} {t : TypeId} {c : Array Value} (h : CellsAt W B t c) (j : Nat) {v : Value} (e : c[j]? = some v := by ((simp only [getS]) <;> rfl)) : W.cell? ⟨B, j, none⟩ = some v := (h.cell j).trans e
theorem lay1 {u w : World} {t0 : TypeId} {c0 : Array Value} (h : u = (w.alloc (.cells c0 t0))) : Gr w u ∧ CellsAt u (w.heap.size) t0 c0 := by
  subst h
  exact ⟨(Gr.refl w).alloc _ _, by simpa only [World.size_alloc] using (CellsAt.new w t0 c0)⟩
theorem lay2 {u w : World} {t0 : TypeId} {c0 : Array Value} {t1 : TypeId} {c1 : Array Value} (h : u = ((w.alloc (.cells c0 t0)).alloc (.cells c1 t1))) : Gr w u ∧ CellsAt u (w.heap.size) t0 c0 ∧ CellsAt u (w.heap.size + 1) t1 c1 := by
  subst h
  exact ⟨((Gr.refl w).alloc _ _).alloc _ _, by simpa only [World.size_alloc] using ((CellsAt.new w t0 c0).alloc _), by simpa only [World.size_alloc] using (CellsAt.new (w.alloc (.cells c0 t0)) t1 c1)⟩
theorem lay3 {u w : World} {t0 : TypeId} {c0 : Array Value} {t1 : TypeId} {c1 : Array Value} {t2 : TypeId} {c2 : Array Value} (h : u = (((w.alloc (.cells c0 t0)).alloc (.cells c1 t1)).alloc (.cells c2 t2))) : Gr w u ∧ CellsAt u (w.heap.size) t0 c0 ∧ CellsAt u (w.heap.size + 1) t1 c1 ∧ CellsAt u (w.heap.size + 1 + 1) t2 c2 := by
  subst h
  exact ⟨(((Gr.refl w).alloc _ _).alloc _ _).alloc _ _, by simpa only [World.size_alloc] using (((CellsAt.new w t0 c0).alloc _).alloc _), by simpa only [World.size_alloc] using ((CellsAt.new (w.alloc (.cells c0 t0)) t1 c1).alloc _), by simpa only [World.size_alloc] using (CellsAt.new ((w.alloc (.cells c0 t0)).alloc (.cells c1 t1)) t2 c2)⟩
theorem lay4 {u w : World} {t0 : TypeId} {c0 : Array Value} {t1 : TypeId} {c1 : Array Value} {t2 : TypeId} {c2 : Array Value} {t3 : TypeId} {c3 : Array Value} (h : u = ((((w.alloc (.cells c0 t0)).alloc (.cells c1 t1)).alloc (.cells c2 t2)).alloc (.cells c3 t3))) : Gr w u ∧ CellsAt u (w.heap.size) t0 c0 ∧ CellsAt u (w.heap.size + 1) t1 c1 ∧ CellsAt u (w.heap.size + 1 + 1) t2 c2 ∧ CellsAt u (w.heap.size + 1 + 1 + 1) t3 c3 := by
  subst h
  exact ⟨((((Gr.refl w).alloc _ _).alloc _ _).alloc _ _).alloc _ _, by simpa only [World.size_alloc] using ((((CellsAt.new w t0 c0).alloc _).alloc _).alloc _), by simpa only [World.size_alloc] using (((CellsAt.new (w.alloc (.cells c0 t0)) t1 c1).alloc _).alloc _), by simpa only [World.size_alloc] using ((CellsAt.new ((w.alloc (.cells c0 t0)).alloc (.cells c1 t1)) t2 c2).alloc _), by simpa only [World.size_alloc] using (CellsAt.new (((w.alloc (.cells c0 t0)).alloc (.cells c1 t1)).alloc (.cells c2 t2)) t3 c3)⟩
theorem lay5 {u w : World} {t0 : TypeId} {c0 : Array Value} {t1 : TypeId} {c1 : Array Value} {t2 : TypeId} {c2 : Array Value} {t3 : TypeId} {c3 : Array Value} {t4 : TypeId} {c4 : Array Value} (h : u = (((((w.alloc (.cells c0 t0)).alloc (.cells c1 t1)).alloc (.cells c2 t2)).alloc (.cells c3 t3)).alloc (.cells c4 t4))) : Gr w u ∧ CellsAt u (w.heap.size) t0 c0 ∧ CellsAt u (w.heap.size + 1) t1 c1 ∧ CellsAt u (w.heap.size + 1 + 1) t2 c2 ∧ CellsAt u (w.heap.size + 1 + 1 + 1) t3 c3 ∧ CellsAt u (w.heap.size + 1 + 1 + 1 + 1) t4 c4 := by
  subst h
  exact ⟨(((((Gr.refl w).alloc _ _).alloc _ _).alloc _ _).alloc _ _).alloc _ _, by simpa only [World.size_alloc] using (((((CellsAt.new w t0 c0).alloc _).alloc _).alloc _).alloc _), by simpa only [World.size_alloc] using ((((CellsAt.new (w.alloc (.cells c0 t0)) t1 c1).alloc _).alloc _).alloc _), by simpa only [World.size_alloc] using (((CellsAt.new ((w.alloc (.cells c0 t0)).alloc (.cells c1 t1)) t2 c2).alloc _).alloc _), by simpa only [World.size_alloc] using ((CellsAt.new (((w.alloc (.cells c0 t0)).alloc (.cells c1 t1)).alloc (.cells c2 t2)) t3 c3).alloc _), by simpa only [World.size_alloc] using (CellsAt.new ((((w.alloc (.cells c0 t0)).alloc (.cells c1 t1)).alloc (.cells c2 t2)).alloc (.cells c3 t3)) t4 c4)⟩
theorem lay8 {u w : World} {t0 : TypeId} {c0 : Array Value} {t1 : TypeId} {c1 : Array Value} {t2 : TypeId} {c2 : Array Value} {t3 : TypeId} {c3 : Array Value} {t4 : TypeId} {c4 : Array Value} {t5 : TypeId} {c5 : Array Value} {t6 : TypeId} {c6 : Array Value} {t7 : TypeId} {c7 : Array Value} (h : u = ((((((((w.alloc (.cells c0 t0)).alloc (.cells c1 t1)).alloc (.cells c2 t2)).alloc (.cells c3 t3)).alloc (.cells c4 t4)).alloc (.cells c5 t5)).alloc (.cells c6 t6)).alloc (.cells c7 t7))) : Gr w u ∧ CellsAt u (w.heap.size) t0 c0 ∧ CellsAt u (w.heap.size + 1) t1 c1 ∧ CellsAt u (w.heap.size + 1 + 1) t2 c2 ∧ CellsAt u (w.heap.size + 1 + 1 + 1) t3 c3 ∧ CellsAt u (w.heap.size + 1 + 1 + 1 + 1) t4 c4 ∧ CellsAt u (w.heap.size + 1 + 1 + 1 + 1 + 1) t5 c5 ∧ CellsAt u (w.heap.size + 1 + 1 + 1 + 1 + 1 + 1) t6 c6 ∧ CellsAt u (w.heap.size + 1 + 1 + 1 + 1 + 1 + 1 + 1) t7 c7 := by
  subst h
  exact ⟨((((((((Gr.refl w).alloc _ _).alloc _ _).alloc _ _).alloc _ _).alloc _ _).alloc _ _).alloc _ _).alloc _ _, by simpa only [World.size_alloc] using ((((((((CellsAt.new w t0 c0).alloc _).alloc _).alloc _).alloc _).alloc _).alloc _).alloc _), by simpa only [World.size_alloc] using (((((((CellsAt.new (w.alloc (.cells c0 t0)) t1 c1).alloc _).alloc _).alloc _).alloc _).alloc _).alloc _), by simpa only [World.size_alloc] using ((((((CellsAt.new ((w.alloc (.cells c0 t0)).alloc (.cells c1 t1)) t2 c2).alloc _).alloc _).alloc _).alloc _).alloc _), by simpa only [World.size_alloc] using (((((CellsAt.new (((w.alloc (.cells c0 t0)).alloc (.cells c1 t1)).alloc (.cells c2 t2)) t3 c3).alloc _).alloc _).alloc _).alloc _), by simpa only [World.size_alloc] using ((((CellsAt.new ((((w.alloc (.cells c0 t0)).alloc (.cells c1 t1)).alloc (.cells c2 t2)).alloc (.cells c3 t3)) t4 c4).alloc _).alloc _).alloc _), by simpa only [World.size_alloc] using (((CellsAt.new (((((w.alloc (.cells c0 t0)).alloc (.cells c1 t1)).alloc (.cells c2 t2)).alloc (.cells c3 t3)).alloc (.cells c4 t4)) t5 c5).alloc _).alloc _), by simpa only [World.size_alloc] using ((CellsAt.new ((((((w.alloc (.cells c0 t0)).alloc (.cells c1 t1)).alloc (.cells c2 t2)).alloc (.cells c3 t3)).alloc (.cells c4 t4)).alloc (.cells c5 t5)) t6 c6).alloc _), by simpa only [World.size_alloc] using (CellsAt.new (((((((w.alloc (.cells c0 t0)).alloc (.cells c1 t1)).alloc (.cells c2 t2)).alloc (.cells c3 t3)).alloc (.cells c4 t4)).alloc (.cells c5 t5)).alloc (.cells c6 t6)) t7 c7)⟩
theorem lc1 {P : Program} {f : FuncId} {xs : Array Value} {Q : Ending → World → Prop} {w : World} {t0 : TypeId} {c0 : Array Value} (h : ∀ u, Gr w u → CellsAt u (w.heap.size) t0 c0 → Calls P f xs u Q) : Calls P f xs (w.alloc (.cells c0 t0)) Q := have ⟨g, a0⟩ := lay1 rfl; h _ g a0
theorem lc2 {P : Program} {f : FuncId} {xs : Array Value} {Q : Ending → World → Prop} {w : World} {t0 : TypeId} {c0 : Array Value} {t1 : TypeId} {c1 : Array Value} (h : ∀ u, Gr w u → CellsAt u (w.heap.size) t0 c0 → CellsAt u (w.heap.size + 1) t1 c1 → Calls P f xs u Q) : Calls P f xs ((w.alloc (.cells c0 t0)).alloc (.cells c1 t1)) Q := have ⟨g, a0, a1⟩ := lay2 rfl; h _ g a0 a1
theorem lc3 {P : Program} {f : FuncId} {xs : Array Value} {Q : Ending → World → Prop} {w : World} {t0 : TypeId} {c0 : Array Value} {t1 : TypeId} {c1 : Array Value} {t2 : TypeId} {c2 : Array Value} (h : ∀ u, Gr w u → CellsAt u (w.heap.size) t0 c0 → CellsAt u (w.heap.size + 1) t1 c1 → CellsAt u (w.heap.size + 1 + 1) t2 c2 → Calls P f xs u Q) : Calls P f xs (((w.alloc (.cells c0 t0)).alloc (.cells c1 t1)).alloc (.cells c2 t2)) Q := have ⟨g, a0, a1, a2⟩ := lay3 rfl; h _ g a0 a1 a2
theorem lc4 {P : Program} {f : FuncId} {xs : Array Value} {Q : Ending → World → Prop} {w : World} {t0 : TypeId} {c0 : Array Value} {t1 : TypeId} {c1 : Array Value} {t2 : TypeId} {c2 : Array Value} {t3 : TypeId} {c3 : Array Value} (h : ∀ u, Gr w u → CellsAt u (w.heap.size) t0 c0 → CellsAt u (w.heap.size + 1) t1 c1 → CellsAt u (w.heap.size + 1 + 1) t2 c2 → CellsAt u (w.heap.size + 1 + 1 + 1) t3 c3 → Calls P f xs u Q) : Calls P f xs ((((w.alloc (.cells c0 t0)).alloc (.cells c1 t1)).alloc (.cells c2 t2)).alloc (.cells c3 t3)) Q := have ⟨g, a0, a1, a2, a3⟩ := lay4 rfl; h _ g a0 a1 a2 a3
theorem lc8 {P : Program} {f : FuncId} {xs : Array Value} {Q : Ending → World → Prop} {w : World} {t0 : TypeId} {c0 : Array Value} {t1 : TypeId} {c1 : Array Value} {t2 : TypeId} {c2 : Array Value} {t3 : TypeId} {c3 : Array Value} {t4 : TypeId} {c4 : Array Value} {t5 : TypeId} {c5 : Array Value} {t6 : TypeId} {c6 : Array Value} {t7 : TypeId} {c7 : Array Value} (h : ∀ u, Gr w u → CellsAt u (w.heap.size) t0 c0 → CellsAt u (w.heap.size + 1) t1 c1 → CellsAt u (w.heap.size + 1 + 1) t2 c2 → CellsAt u (w.heap.size + 1 + 1 + 1) t3 c3 → CellsAt u (w.heap.size + 1 + 1 + 1 + 1) t4 c4 → CellsAt u (w.heap.size + 1 + 1 + 1 + 1 + 1) t5 c5 → CellsAt u (w.heap.size + 1 + 1 + 1 + 1 + 1 + 1) t6 c6 → CellsAt u (w.heap.size + 1 + 1 + 1 + 1 + 1 + 1 + 1) t7 c7 → Calls P f xs u Q) : Calls P f xs ((((((((w.alloc (.cells c0 t0)).alloc (.cells c1 t1)).alloc (.cells c2 t2)).alloc (.cells c3 t3)).alloc (.cells c4 t4)).alloc (.cells c5 t5)).alloc (.cells c6 t6)).alloc (.cells c7 t7)) Q := have ⟨g, a0, a1, a2, a3, a4, a5, a6, a7⟩ := lay8 rfl; h _ g a0 a1 a2 a3 a4 a5 a6 a7
theorem CellsAt.ot {W : World} {B B' j : Nat} {t : TypeId} {c : Array Value} {v : Value} (h : CellsAt W B t c) (hne : B ≠ B' := by omega) : CellsAt (W.setCell ⟨B', j, none⟩ v) B t c := h.other hne j v
theorem CellsAt.f2 {W : World} {B : Nat} {t : TypeId} {c : Array Value} (h : CellsAt W B t c) : W.frozen? ⟨B, 0, none⟩ = false ∧ W.frozen? ⟨B, 1, none⟩ = false := ⟨h.frozen 0, h.frozen 1⟩
theorem CellsAt.f3 {W : World} {B : Nat} {t : TypeId} {c : Array Value} (h : CellsAt W B t c) : W.frozen? ⟨B, 0, none⟩ = false ∧ W.frozen? ⟨B, 1, none⟩ = false ∧ W.frozen? ⟨B, 2, none⟩ = false := ⟨h.frozen 0, h.frozen 1, h.frozen 2⟩
theorem CellsAt.f4 {W : World} {B : Nat} {t : TypeId} {c : Array Value} (h : CellsAt W B t c) : W.frozen? ⟨B, 0, none⟩ = false ∧ W.frozen? ⟨B, 1, none⟩ = false ∧ W.frozen? ⟨B, 2, none⟩ = false ∧ W.frozen? ⟨B, 3, none⟩ = false := ⟨h.frozen 0, h.frozen 1, h.frozen 2, h.frozen 3⟩
theorem CellsAt.f5 {W : World} {B : Nat} {t : TypeId} {c : Array Value} (h : CellsAt W B t c) : W.frozen? ⟨B, 0, none⟩ = false ∧ W.frozen? ⟨B, 1, none⟩ = false ∧ W.frozen? ⟨B, 2, none⟩ = false ∧ W.frozen? ⟨B, 3, none⟩ = false ∧ W.frozen? ⟨B, 4, none⟩ = false := ⟨h.frozen 0, h.frozen 1, h.frozen 2, h.frozen 3, h.frozen 4⟩
theorem CellsAt.f8 {W : World} {B : Nat} {t : TypeId} {c : Array Value} (h : CellsAt W B t c) : W.frozen? ⟨B, 0, none⟩ = false ∧ W.frozen? ⟨B, 1, none⟩ = false ∧ W.frozen? ⟨B, 2, none⟩ = false ∧ W.frozen? ⟨B, 3, none⟩ = false ∧ W.frozen? ⟨B, 4, none⟩ = false ∧ W.frozen? ⟨B, 5, none⟩ = false ∧ W.frozen? ⟨B, 6, none⟩ = false ∧ W.frozen? ⟨B, 7, none⟩ = false := ⟨h.frozen 0, h.frozen 1, h.frozen 2, h.frozen 3, h.frozen 4, h.frozen 5, h.frozen 6, h.frozen 7⟩
theorem CellsAt.f10 {W : World} {B : Nat} {t : TypeId} {c : Array Value} (h : CellsAt W B t c) : W.frozen? ⟨B, 0, none⟩ = false ∧ W.frozen? ⟨B, 1, none⟩ = false ∧ W.frozen? ⟨B, 2, none⟩ = false ∧ W.frozen? ⟨B, 3, none⟩ = false ∧ W.frozen? ⟨B, 4, none⟩ = false ∧ W.frozen? ⟨B, 5, none⟩ = false ∧ W.frozen? ⟨B, 6, none⟩ = false ∧ W.frozen? ⟨B, 7, none⟩ = false ∧ W.frozen? ⟨B, 8, none⟩ = false ∧ W.frozen? ⟨B, 9, none⟩ = false := ⟨h.frozen 0, h.frozen 1, h.frozen 2, h.frozen 3, h.frozen 4, h.frozen 5, h.frozen 6, h.frozen 7, h.frozen 8, h.frozen 9⟩
theorem CellsAt.f12 {W : World} {B : Nat} {t : TypeId} {c : Array Value} (h : CellsAt W B t c) : W.frozen? ⟨B, 0, none⟩ = false ∧ W.frozen? ⟨B, 1, none⟩ = false ∧ W.frozen? ⟨B, 2, none⟩ = false ∧ W.frozen? ⟨B, 3, none⟩ = false ∧ W.frozen? ⟨B, 4, none⟩ = false ∧ W.frozen? ⟨B, 5, none⟩ = false ∧ W.frozen? ⟨B, 6, none⟩ = false ∧ W.frozen? ⟨B, 7, none⟩ = false ∧ W.frozen? ⟨B, 8, none⟩ = false ∧ W.frozen? ⟨B, 9, none⟩ = false ∧ W.frozen? ⟨B, 10, none⟩ = false ∧ W.frozen? ⟨B, 11, none⟩ = false := ⟨h.frozen 0, h.frozen 1, h.frozen 2, h.frozen 3, h.frozen 4, h.frozen 5, h.frozen 6, h.frozen 7, h.frozen 8, h.frozen 9, h.frozen 10, h.frozen 11⟩
end
section
open Go.ChangeShapes Go.WideShapes Go.ChangeAt Go.RowKit
set_option linter.unusedVariables false
set_option maxRecDepth 100000
set_option maxHeartbeats 16000000
structure GB (B : Nat) (V W : World) : Prop where
 out : V.grownBy W (some B)
theorem GB.refl (B : Nat) (V : World) : GB B V V := ⟨⟨rfl, rfl, rfl, Nat.le_refl _, fun _ _ _ => rfl⟩⟩
theorem GB.size {B : Nat} {V W : World} (h : GB B V W) : V.heap.size ≤ W.heap.size := h.out.size
theorem GB.same {B : Nat} {V W : World} (h : GB B V W) (k : Nat) (hk : k < V.heap.size) (hb : k ≠ B) : W.heap[k]? = V.heap[k]? := h.out.block k hk (fun e => hb (Option.some.inj e))
theorem GB.trans {B : Nat} {U V W : World} (h : GB B U V) (g : GB B V W) : GB B U W :=
 ⟨⟨g.out.os.trans h.out.os, g.out.tape.trans h.out.tape, g.out.output.trans h.out.output, Nat.le_trans h.size g.size, fun k hk hb => (g.out.block k (Nat.lt_of_lt_of_le hk h.size) hb).trans (h.out.block k hk hb)⟩⟩
theorem GB.of {B : Nat} {V W : World} (g : Gr V W) : GB B V W := ⟨⟨g.out.os, g.out.tape, g.out.output, g.size, fun k hk _ => g.block hk⟩⟩
theorem GB.gr {B : Nat} {U V W : World} (h : GB B U V) (g : Gr V W) : GB B U W := h.trans (GB.of g)
theorem GB.drew {B : Nat} {U V : World} (h : GB B U V) : GB B U V.drew := h.gr (Gr.refl _).drew
theorem GB.alloc {B : Nat} {U V : World} (h : GB B U V) (c : Array Value) (t : TypeId) : GB B U (V.alloc (.cells c t)) := h.gr ((Gr.refl _).alloc c t)
theorem GB.set {B : Nat} {U V : World} (h : GB B U V) (j : Nat) (v : Value) : GB B U (V.setCell ⟨B, j, none⟩ v) :=
 h.trans ⟨⟨rfl, rfl, rfl, (KeepsWalks.setCell V _ v).size, fun k hk hb => Below.heap_setCell _ _ _ k (fun e => hb (congrArg some e))⟩⟩
theorem GB.setRow {B : Nat} {U V : World} (h : GB B U V) (c : Array Value) : GB B U (V.setRow B c) :=
 h.trans ⟨⟨rfl, rfl, rfl, by simp, fun k hk hb => setRow_other _ _ _ _ (fun e => hb (congrArg some e))⟩⟩
theorem GB.cell {B : Nat} {V W : World} (h : GB B V W) {p : Addr} (hp : p.block < V.heap.size) (hb : p.block ≠ B) : W.cell? p = V.cell? p := by
 unfold World.cell?
 rw [h.same _ hp hb]
theorem GB.cellsAt {B : Nat} {V W : World} (h : GB B V W) {b : Nat} {t : TypeId} {c : Array Value} (hc : CellsAt V b t c) (hb : b ≠ B) : CellsAt W b t c := (h.same b hc.lt hb).trans hc
theorem GB.new {B : Nat} {U V W : World} (h : GB B V W) (g : Gr U V) (hB : U.heap.size ≤ B) : Gr U W := g.grown h.out (fun k e => by cases e; exact hB)
theorem GB.cxs {B : Nat} {V W : World} (h : GB B V W) {b o n c : Nat} {xs : List Gi} (hc : CxsAt V (.slice (some ⟨b, o, none⟩) n c) xs) (hb : b ≠ B) : CxsAt W (.slice (some ⟨b, o, none⟩) n c) xs := by
 obtain ⟨p, cap, hv, hl, hm, hc⟩ := hc
 refine ⟨p, cap, hv, hl, hm, fun hx => ?_⟩
 obtain ⟨b', o', hp, hbb, hc⟩ := hc hx
 have hne : b' ≠ B := by
  rw [hp] at hv
  cases hv
  exact hb
 exact ⟨b', o', hp, Nat.lt_of_lt_of_le hbb h.size, fun j x hj => ⟨(h.cell (p := ⟨b', o' + j * 2, none⟩) hbb hne).trans (hc j x hj).1, (h.cell (p := ⟨b', o' + j * 2 + 1, none⟩) hbb hne).trans (hc j x hj).2⟩⟩
theorem CellsAt.setRow {W : World} {B : Nat} {t : TypeId} {c : Array Value} (h : CellsAt W B t c) (c' : Array Value) : CellsAt (W.setRow B c') B t c' := setRow_heap W B c c' t (0, 0) h
theorem Gr.setRow {W w' : World} (h : Gr W w') {B : Nat} (hB : W.heap.size ≤ B) (c' : Array Value) : Gr W (w'.setRow B c') := ⟨h.out.trans ⟨rfl, rfl, rfl, by simp, fun k hk => setRow_other _ _ _ _ (by omega)⟩⟩
theorem CellsAt.set2 {W : World} {B : Nat} {t : TypeId} {a0 a1 : Value} (h : CellsAt W B t #[a0, a1]) (v0 v1 : Value) : CellsAt ((W.setCell ⟨B, 0, none⟩ v0).setCell ⟨B, 1, none⟩ v1) B t #[v0, v1] := by
 have := ((h.set 0 v0).set 1 v1)
 simpa using this
theorem CellsAt.set8 {W : World} {B : Nat} {t : TypeId} {a0 a1 a2 a3 a4 a5 a6 a7 : Value} (h : CellsAt W B t #[a0, a1, a2, a3, a4, a5, a6, a7]) (v0 v1 v2 v3 v4 v5 v6 v7 : Value) : CellsAt ((((((((W.setCell ⟨B, 0, none⟩ v0).setCell ⟨B, 1, none⟩ v1).setCell ⟨B, 2, none⟩ v2).setCell ⟨B, 3, none⟩ v3).setCell ⟨B, 4, none⟩ v4).setCell ⟨B, 5, none⟩ v5).setCell ⟨B, 6, none⟩ v6).setCell ⟨B, 7, none⟩ v7) B t #[v0, v1, v2, v3, v4, v5, v6, v7] := by
 have := ((((((((h.set 0 v0).set 1 v1).set 2 v2).set 3 v3).set 4 v4).set 5 v5).set 6 v6).set 7 v7)
 simpa using this
def RowAt (W : World) (B : Nat) (t : TypeId) (n : Nat) (f : Nat → Gi) : Prop := ∃ c, CellsAt W B t c ∧ c.size = n * 2 ∧ ∀ j, j < n → c[j * 2]? = some (.int .i64 (f j).re) ∧ c[j * 2 + 1]? = some (.int .i64 (f j).im)
theorem RowAt.lt {W : World} {B n : Nat} {t : TypeId} {f : Nat → Gi} (h : RowAt W B t n f) : B < W.heap.size := by obtain ⟨c, h, _⟩ := h; exact h.lt
theorem RowAt.gr {W W' : World} {B n : Nat} {t : TypeId} {f : Nat → Gi} (h : RowAt W B t n f) (g : Gr W W') : RowAt W' B t n f := by obtain ⟨c, h, k⟩ := h; exact ⟨c, h.gr g, k⟩
theorem RowAt.gb {W W' : World} {B B' n : Nat} {t : TypeId} {f : Nat → Gi} (h : RowAt W B t n f) (g : GB B' W W') (hb : B ≠ B') : RowAt W' B t n f := by obtain ⟨c, h, k⟩ := h; exact ⟨c, g.cellsAt h hb, k⟩
theorem RowAt.drew {W : World} {B n : Nat} {t : TypeId} {f : Nat → Gi} (h : RowAt W B t n f) : RowAt W.drew B t n f := h
theorem RowAt.alloc {W : World} {B n : Nat} {t : TypeId} {f : Nat → Gi} (h : RowAt W B t n f) (o : Obj) : RowAt (W.alloc o) B t n f := by obtain ⟨c, h, k⟩ := h; exact ⟨c, h.alloc o, k⟩
theorem RowAt.cells {W : World} {B n : Nat} {t : TypeId} {f : Nat → Gi} (h : RowAt W B t n f) (j : Nat) (hj : j < n) : W.cell? ⟨B, j * 2, none⟩ = some (.int .i64 (f j).re) ∧ W.cell? ⟨B, j * 2 + 1, none⟩ = some (.int .i64 (f j).im) := by
 obtain ⟨c, h, _, k⟩ := h
 exact ⟨(h.cell _).trans (k j hj).1, (h.cell _).trans (k j hj).2⟩
theorem RowAt.marks {W : World} {B n : Nat} {t : TypeId} {f : Nat → Gi} (h : RowAt W B t n f) (j : Nat) : W.frozen? ⟨B, j, none⟩ = false := by
 obtain ⟨c, h, _, k⟩ := h
 exact h.frozen j
theorem RowAt.eq {W : World} {B n : Nat} {t : TypeId} {f g : Nat → Gi} (h : RowAt W B t n f) (e : ∀ j, j < n → f j = g j) : RowAt W B t n g := by
 obtain ⟨c, h, hs, k⟩ := h
 exact ⟨c, h, hs, fun j hj => by rw [← e j hj]; exact k j hj⟩
theorem RowAt.set {W : World} {B n : Nat} {t : TypeId} {f : Nat → Gi} (h : RowAt W B t n f) (k : Nat) (hk : k < n) (g : Gi) :
 RowAt ((W.setCell ⟨B, k * 2, none⟩ (.int .i64 g.re)).setCell ⟨B, k * 2 + 1, none⟩ (.int .i64 g.im)) B t n (fun j => if j = k then g else f j) := by
 obtain ⟨c, h, hs, hc⟩ := h
 refine ⟨_, (h.set (k * 2) _).set (k * 2 + 1) _, by simpa using hs, fun j hj => ?_⟩
 have := hc j hj
 by_cases e : j = k
 ·subst e
  simp only [if_true];refine ⟨?_, ?_⟩
  ·rw [Array.getElem?_setIfInBounds_ne (by omega), Array.getElem?_setIfInBounds_self_of_lt (by omega)]
  ·rw [Array.getElem?_setIfInBounds_self_of_lt (by simp; omega)]
 ·simp only [if_neg e]
  rw [Array.getElem?_setIfInBounds_ne (by omega), Array.getElem?_setIfInBounds_ne (by omega), Array.getElem?_setIfInBounds_ne (by omega), Array.getElem?_setIfInBounds_ne (by omega)]
  exact this
theorem RowAt.other {W : World} {B B' n : Nat} {t : TypeId} {f : Nat → Gi} (h : RowAt W B t n f) (hne : B ≠ B') (j k : Nat) (v u : Value) : RowAt ((W.setCell ⟨B', j, none⟩ v).setCell ⟨B', k, none⟩ u) B t n f := by
 obtain ⟨c, h, k⟩ := h
 exact ⟨c, (h.other hne _ _).other hne _ _, k⟩
theorem RowAt.cxs {W : World} {B n : Nat} {t : TypeId} {f : Nat → Gi} (h : RowAt W B t n f) (F m cap : Nat) (hF : F + m ≤ n) (hc : m ≤ cap) (hm : cap ≤ maxLen) : CxsAt W (.slice (some ⟨B, F * 2, none⟩) m cap) ((List.range m).map (fun i => f (F + i))) := by
 refine ⟨some ⟨B, F * 2, none⟩, cap, by simp, by simpa using hc, hm, fun _ => ⟨B, F * 2, rfl, h.lt, fun j x hj => ?_⟩⟩
 have hjm : j < m := by
  have := (List.getElem?_eq_some_iff.1 hj).1
  simpa using this
 rw [List.getElem?_map, List.getElem?_range hjm] at hj
 obtain rfl := Option.some.inj hj
 have := h.cells (F + j) (by omega)
 rw [Nat.add_mul] at this
 exact this
def upto (T f : Nat → Gi) (k j : Nat) : Gi := if j < k then T j else f j
theorem upto_next (T f : Nat → Gi) (k j : Nat) : (if j = k then T k else upto T f k j) = upto T f (k + 1) j := by
 unfold upto
 by_cases e : j = k
 ·subst e; simp
 ·by_cases h : j < k
  ·simp [e, h, show j < k + 1 by omega]
  ·simp [e, h, show ¬ j < k + 1 by omega]
theorem upto_all (T f : Nat → Gi) (n j : Nat) (h : j < n) : upto T f n j = T j := by unfold upto; rw [if_pos h]
theorem upto_none (T f : Nat → Gi) (j : Nat) : upto T f 0 j = f j := by simp [upto]
theorem upto_at (T f : Nat → Gi) (k : Nat) : upto T f k k = f k := by simp [upto]
theorem wadd (a b : Nat) (h : a + b ≤ 1000000) : wrap64 ((a : Int) + (b : Int)) = ((a + b : Nat) : Int) := by rw [IntWalk.wrap64_in _ ⟨by omega, by omega⟩]; omega
theorem wmul (a b : Nat) (h : a * b ≤ 1000000) : wrap64 ((a : Int) * (b : Int)) = ((a * b : Nat) : Int) := by
 have : (a : Int) * (b : Int) = ((a * b : Nat) : Int) := by simp
 rw [this]
 exact IntWalk.wrap64_in _ ⟨by omega, by omega⟩
theorem iadd (a b : Nat) (h : a + b ≤ 1000000) : IntKind.i64.wrap ((a : Int) + (b : Int)) = ((a + b : Nat) : Int) := by rw [IntWalk.i64_in _ ⟨by omega, by omega⟩]; omega
theorem imul (a b : Nat) (h : a * b ≤ 1000000) : IntKind.i64.wrap ((a : Int) * (b : Int)) = ((a * b : Nat) : Int) := by
 have : (a : Int) * (b : Int) = ((a * b : Nat) : Int) := by simp
 rw [this]
 exact IntWalk.i64_in _ ⟨by omega, by omega⟩
def c4 (f : Nat → Gi) : Array Value := #[.int .i64 (f 0).re, .int .i64 (f 0).im, .int .i64 (f 1).re, .int .i64 (f 1).im, .int .i64 (f 2).re, .int .i64 (f 2).im, .int .i64 (f 3).re, .int .i64 (f 3).im]
theorem RowAt.of4 {W : World} {B : Nat} {t : TypeId} {f : Nat → Gi} (h : CellsAt W B t (c4 f)) : RowAt W B t 4 f := by
 refine ⟨_, h, rfl, fun j hj => ?_⟩
 have hc : j = 0 ∨ j = 1 ∨ j = 2 ∨ j = 3 := by omega
 rcases hc with rfl | rfl | rfl | rfl <;> exact ⟨rfl, rfl⟩
theorem RowAt.cells4 {W : World} {B : Nat} {t : TypeId} {f : Nat → Gi} (h : RowAt W B t 4 f) : CellsAt W B t (c4 f) := by
 obtain ⟨c, h, hs, k⟩ := h
 have e : c = c4 f := by
  obtain ⟨a0, b0⟩ := k 0 (by omega);obtain ⟨a1, b1⟩ := k 1 (by omega);obtain ⟨a2, b2⟩ := k 2 (by omega);obtain ⟨a3, b3⟩ := k 3 (by omega);obtain ⟨l⟩ := c
  match l, hs with
  | [c0, c1, c2, c3, c4, c5, c6, c7], _ =>
    simp at a0 b0 a1 b1 a2 b2 a3 b3
    unfold Go.Proofs.YtdignnmpfkgkoaaGreat.c4;rw [a0, b0, a1, b1, a2, b2, a3, b3]
 rw [← e]
 exact h
end
end Go.Proofs.YtdignnmpfkgkoaaGreat
