/- What package sat's Mul answers of mantissas, and of what is none. -/
import Derived.Test.YtchdeniiponhmaaSat2
namespace Go.Proofs.Ytchdeniiponhmaa
open Go.ChangeShapes Go.WideShapes Go.ChangeAt Go.RowKit
set_option linter.unusedVariables false

theorem mul_c (f b p a m mo : Int) (H : FB f b p) (a0 : -p ≤ a) (a1 : a < p) (m0 : -p ≤ m) (m1 : m < p) (o0 : 0 ≤ mo) (o1 : mo ≤ 2) (w : World) :
    Calls Try.prog 17 #[.int .i64 a, .int .i64 m, .int .i64 f, .int .i64 mo] w fun e w' => e = .returned (.tuple #[.int .i64 (clampI p (rnd (a * m) b.toNat mo)), .bool (clampI p (rnd (a * m) b.toNat mo) != rnd (a * m) b.toNat mo), .int .i64 0]) ∧ Gr w w' := by
  have hp := H.pos
  have hx := prod_fits p a m hp.1 hp.2.1 a0 (by omega) m0 (by omega)
  have HB := Lib.hid (bits_c f b p H)
  have HS := Lib.hid (shift_ok 0 b mo (by omega) (by omega) (by omega) o0 o1)
  have HC := Lib.hid (combined_product f b p a m mo H a0 a1 m0 m1 o0 o1 (by omega))
  generalize rnd (a * m) b.toNat mo = r at HC ⊢
  generalize clampI p r = y at HC ⊢
  clear H hp hx a0 a1 m0 m1 o0 o1
  go_enter Try.func17, Try.ntmps17
  go_wp2_with fail
  refine (HB.out _).mono ?_
  rintro e w1 ⟨rfl, rfl⟩
  go_wp2_with fail
  refine (HS.out _).mono ?_
  rintro e w2 ⟨rfl, hg⟩
  have z : w.heap.size + 2 ≤ w2.heap.size := by have := hg.size; simpa using this
  have c0 : w2.cell? ⟨w.heap.size, 0, none⟩ = some (.int .i64 mo) := (hg.cell (p := ⟨w.heap.size, 0, none⟩) (by simp; omega)).trans (by go_simp)
  have c1 : w2.cell? ⟨w.heap.size + 1, 0, none⟩ = some (.int .i64 b) := (hg.cell (p := ⟨w.heap.size + 1, 0, none⟩) (by simp)).trans (by go_simp)
  go_wp2_with fail
  refine (HC.out (w.heap.size + 1) w.heap.size _ _ ?_ ?_ ?_ ?_ ?_ ?_).mono ?_
  · simp
  · go_simp
  · simp; omega
  · simp; omega
  · exact (((Gr.refl w2).alloc _ _).cell (p := ⟨w.heap.size + 1, 0, none⟩) (by simp; omega)).trans c1
  · exact (((Gr.refl w2).alloc _ _).cell (p := ⟨w.heap.size, 0, none⟩) (by simp; omega)).trans c0
  · rintro e w3 ⟨rfl, hg3⟩
    go_wp2
    go_ret3
    exact ⟨rfl, Gr.trans (Gr.alloc (Gr.trans (by repeat (first | exact Gr.refl _ | assumption | apply Gr.drew | apply Gr.alloc)) hg) _ _) hg3⟩

theorem mul_range (f b p a m mo : Int) (H : FB f b p) (h : ¬ ((-p ≤ a ∧ a < p) ∧ -p ≤ m ∧ m < p)) (o0 : 0 ≤ mo) (o1 : mo ≤ 2) (w : World) :
    Calls Try.prog 17 #[.int .i64 a, .int .i64 m, .int .i64 f, .int .i64 mo] w fun e w' => e = .returned (.tuple #[.int .i64 0, .bool false, .int .i64 2]) ∧ Gr w w' := by
  have hp := H.pos
  have HB := Lib.hid (bits_c f b p H)
  have HS := Lib.hid (shift_ok 0 b mo (by omega) (by omega) (by omega) o0 o1)
  have HC : Hid (∀ (fv : Value) (k : Nat) (w : World) (hk : k < w.heap.size) (hc : w.cell? ⟨k, 0, none⟩ = some (.int .i64 m)),
    Calls Try.prog 20 #[.int .i64 f, fv, .int .i64 a, .slice (some ⟨k, 0, none⟩) 1 1] w fun e w' => e = .returned (.tuple #[.int .i64 0, .bool false, .int .i64 2]) ∧ Gr w w') := by
    apply Lib.hid
    intro fv k w hk hc
    by_cases ha : -p ≤ a ∧ a < p
    · exact combined_bad_second f b p a m fv H ha.1 ha.2 (by omega) k w hk hc
    · exact combined_bad_first f b p a fv _ H (by omega) w
  clear H hp o0 o1 h
  go_enter Try.func17, Try.ntmps17
  go_wp2_with fail
  refine (HB.out _).mono ?_
  rintro e w1 ⟨rfl, rfl⟩
  go_wp2_with fail
  refine (HS.out _).mono ?_
  rintro e w2 ⟨rfl, hg⟩
  go_wp2_with fail
  refine (HC.out _ _ _ ?_ ?_).mono ?_
  · simp
  · go_simp
  · rintro e w3 ⟨rfl, hg3⟩
    go_wp2
    go_ret3
    exact ⟨rfl, Gr.trans (Gr.alloc (Gr.trans (by repeat (first | exact Gr.refl _ | assumption | apply Gr.drew | apply Gr.alloc)) hg) _ _) hg3⟩

theorem alive02_c (w : World) : Calls Try.prog 10 #[] w fun e w' => e = .returned (.bool true) ∧ Gr w w' := by
  have HA := Lib.hid fun W => (add_c 0 15 32768 32767 1 (.inl ⟨rfl, rfl, rfl⟩) (by omega) (by omega) (by omega) (by omega) W).mono fun e w' ⟨he, hg⟩ =>
    (⟨by rw [he, show clampI 32768 (32767 + 1) = 32767 by decide, show ((32767 : Int) != 32767 + 1) = true by decide], hg⟩ : e = Ending.returned (.tuple #[.int .i64 32767, .bool true, .int .i64 0]) ∧ Gr W w')
  have HB := Lib.hid (bits_c 1 31 2147483648 (.inr ⟨rfl, rfl, rfl⟩))
  go_enter Try.func10, Try.ntmps10
  go_wp2_with fail
  refine (HA.out _).mono ?_
  rintro e w1 ⟨rfl, hg1⟩
  go_wp2_with fail
  refine (HB.out _).mono ?_
  rintro e w2 ⟨rfl, rfl⟩
  go_wp2
  go_ret
  exact ⟨rfl, hg1⟩

end Go.Proofs.Ytchdeniiponhmaa
