/- Reference 10's pairs and roots, in numbers. -/
import Derived.Test.YtkbfniogannlhaaRef10b
namespace Go.Proofs.Ytkbfniogannlhaa
open Go.ChangeShapes Go.WideShapes Go.ChangeAt Go.RowKit
set_option linter.unusedVariables false

/-- The numbers of a pair: nothing runs over. -/
theorem pair_nums (a b w : Gi) (bits : Nat) (hb : bits ≤ 29) (ha : absI a.re ≤ 2147483648 ∧ absI a.im ≤ 2147483648) (hbb : absI b.re ≤ 2147483648 ∧ absI b.im ≤ 2147483648) (hw : absI w.re ≤ 2 ^ bits ∧ absI w.im ≤ 2 ^ bits) :
    (∀ x y : Int, (x = b.re ∨ x = b.im) → (y = w.re ∨ y = w.im) → -1152921504606846976 ≤ x * y ∧ x * y ≤ 1152921504606846976) ∧
    (-1152921504606846976 ≤ a.re * 2 ^ bits ∧ a.re * 2 ^ bits ≤ 1152921504606846976) ∧ (-1152921504606846976 ≤ a.im * 2 ^ bits ∧ a.im * 2 ^ bits ≤ 1152921504606846976) ∧ (2 : Int) ^ bits ≤ 536870912 ∧ 0 < (2 : Int) ^ bits := by
  have hp := pow_pos2 bits
  have hp2 : (2 : Int) ^ bits ≤ 536870912 := by
    have h1 : (2 : Nat) ^ bits ≤ 2 ^ 29 := Nat.pow_le_pow_right (by decide) hb
    have h2 : ((2 ^ bits : Nat) : Int) ≤ ((2 ^ 29 : Nat) : Int) := Int.ofNat_le.2 h1
    rw [Int.natCast_pow] at h2
    simpa using h2
  have hq : (2147483648 : Int) * 2 ^ bits ≤ 1152921504606846976 := by omega
  have a1 := absI_le.1 ha.1
  have a2 := absI_le.1 ha.2
  have b1 := absI_le.1 hbb.1
  have b2 := absI_le.1 hbb.2
  have w1 := absI_le.1 hw.1
  have w2 := absI_le.1 hw.2
  have m1 := mulG_bd a.re (2 ^ bits) 2147483648 (2 ^ bits) (by omega) a1 (by omega)
  have m2 := mulG_bd a.im (2 ^ bits) 2147483648 (2 ^ bits) (by omega) a2 (by omega)
  refine ⟨fun x y hx hy => ?_, by omega, by omega, hp2, hp⟩
  have hx2 : -2147483648 ≤ x ∧ x ≤ 2147483648 := by rcases hx with rfl | rfl <;> assumption
  have hy2 : -(2 ^ bits) ≤ y ∧ y ≤ 2 ^ bits := by rcases hy with rfl | rfl <;> assumption
  have m3 := mulG_bd x y 2147483648 (2 ^ bits) (by omega) hx2 hy2
  generalize x * y = t at *
  omega

theorem up10_c (a b w : Gi) (bits s : Nat) (mo : Int) (hb : bits ≤ 29) (hs : s ≤ 3) (m0 : 0 ≤ mo) (m1 : mo ≤ 2) (ha : absI a.re ≤ 2147483648 ∧ absI a.im ≤ 2147483648) (hbb : absI b.re ≤ 2147483648 ∧ absI b.im ≤ 2147483648) (hw : absI w.re ≤ 2 ^ bits ∧ absI w.im ≤ 2 ^ bits) (W : World) :
    Calls Try.prog 12 #[.agg #[.int .i64 a.re, .int .i64 a.im], .agg #[.int .i64 b.re, .int .i64 b.im], .agg #[.int .i64 w.re, .int .i64 w.im], .int .i64 bits, .int .i64 s, .int .i64 mo] W fun e w' => e = .returned (.agg #[.int .i64 (pairUp bits s mo a b w).re, .int .i64 (pairUp bits s mo a b w).im]) ∧ Gr W w' := by
  obtain ⟨hm, h1, h2, h3, h4⟩ := pair_nums a b w bits hb ha hbb hw
  have m1' := hm b.re w.re (.inl rfl) (.inl rfl)
  have m2' := hm b.im w.im (.inr rfl) (.inr rfl)
  have m3' := hm b.re w.im (.inl rfl) (.inr rfl)
  have m4' := hm b.im w.re (.inr rfl) (.inl rfl)
  exact up10_of a.re a.im b.re b.im w.re w.im bits s ((bits + s : Nat) : Int) mo (a.re * 2 ^ bits) (a.im * 2 ^ bits) (gmul b w).re (gmul b w).im (a.re * 2 ^ bits + (gmul b w).re) (a.im * 2 ^ bits + (gmul b w).im) _ _
    (by rw [IntWalk.wrap64_in _ (by omega)]; omega)
    (Lib.hid (scale10_c a.re a.im bits (2 ^ bits) _ _ hb rfl (IntWalk.wrap64_in _ (by omega)) (IntWalk.wrap64_in _ (by omega))))
    (Lib.hid (rtimes_c b.re b.im w.re w.im _ _ _ _ _ _ (IntWalk.wrap64_in _ (by omega)) (IntWalk.wrap64_in _ (by omega)) (IntWalk.wrap64_in _ (by omega)) (IntWalk.wrap64_in _ (by omega)) (IntWalk.wrap64_in _ (by omega)) (IntWalk.wrap64_in _ (by omega))))
    (Lib.hid (rsum_c _ _ _ _ _ _ (IntWalk.wrap64_in _ (by unfold gmul; simp only; omega)) (IntWalk.wrap64_in _ (by unfold gmul; simp only; omega))))
    (Lib.hid (by
      have := rshift03_c (a.re * 2 ^ bits + (gmul b w).re) (a.im * 2 ^ bits + (gmul b w).im) ((bits + s : Nat) : Int) mo (by unfold gmul; simp only; omega) (by unfold gmul; simp only; omega) (by omega) (by omega) m0 m1
      rwa [Int.toNat_natCast] at this)) W

theorem down10_c (a b w : Gi) (bits s : Nat) (mo : Int) (hb : bits ≤ 29) (hs : s ≤ 3) (m0 : 0 ≤ mo) (m1 : mo ≤ 2) (ha : absI a.re ≤ 2147483648 ∧ absI a.im ≤ 2147483648) (hbb : absI b.re ≤ 2147483648 ∧ absI b.im ≤ 2147483648) (hw : absI w.re ≤ 2 ^ bits ∧ absI w.im ≤ 2 ^ bits) (W : World) :
    Calls Try.prog 13 #[.agg #[.int .i64 a.re, .int .i64 a.im], .agg #[.int .i64 b.re, .int .i64 b.im], .agg #[.int .i64 w.re, .int .i64 w.im], .int .i64 bits, .int .i64 s, .int .i64 mo] W fun e w' => e = .returned (.agg #[.int .i64 (pairDown bits s mo a b w).re, .int .i64 (pairDown bits s mo a b w).im]) ∧ Gr W w' := by
  obtain ⟨hm, h1, h2, h3, h4⟩ := pair_nums a b w bits hb ha hbb hw
  have m1' := hm b.re w.re (.inl rfl) (.inl rfl)
  have m2' := hm b.im w.im (.inr rfl) (.inr rfl)
  have m3' := hm b.re w.im (.inl rfl) (.inr rfl)
  have m4' := hm b.im w.re (.inr rfl) (.inl rfl)
  exact down10_of a.re a.im b.re b.im w.re w.im bits s ((bits + s : Nat) : Int) mo (a.re * 2 ^ bits) (a.im * 2 ^ bits) (gmul b w).re (gmul b w).im (a.re * 2 ^ bits - (gmul b w).re) (a.im * 2 ^ bits - (gmul b w).im) _ _
    (by rw [IntWalk.wrap64_in _ (by omega)]; omega)
    (Lib.hid (scale10_c a.re a.im bits (2 ^ bits) _ _ hb rfl (IntWalk.wrap64_in _ (by omega)) (IntWalk.wrap64_in _ (by omega))))
    (Lib.hid (rtimes_c b.re b.im w.re w.im _ _ _ _ _ _ (IntWalk.wrap64_in _ (by omega)) (IntWalk.wrap64_in _ (by omega)) (IntWalk.wrap64_in _ (by omega)) (IntWalk.wrap64_in _ (by omega)) (IntWalk.wrap64_in _ (by omega)) (IntWalk.wrap64_in _ (by omega))))
    (Lib.hid (rless_c _ _ _ _ _ _ (IntWalk.wrap64_in _ (by unfold gmul; simp only; omega)) (IntWalk.wrap64_in _ (by unfold gmul; simp only; omega))))
    (Lib.hid (by
      have := rshift03_c (a.re * 2 ^ bits - (gmul b w).re) (a.im * 2 ^ bits - (gmul b w).im) ((bits + s : Nat) : Int) mo (by unfold gmul; simp only; omega) (by unfold gmul; simp only; omega) (by omega) (by omega) m0 m1
      rwa [Int.toNat_natCast] at this)) W

theorem root10_c (v : Value) (ws : List Gi) (k : Nat) (inv : Bool) (hk : k < ws.length) (hb : ∀ a ∈ ws, absI a.im ≤ 4611686018427387904) (w : World) (hv : CxsAt w v ws) :
    Calls Try.prog 35 #[v, .int .i64 k, .bool inv] w fun e w' => e = .returned (.agg #[.int .i64 (rootOf ws inv k).re, .int .i64 (rootOf ws inv k).im]) ∧ Gr w w' := by
  obtain ⟨x, hx⟩ := get_of_lt hk
  obtain ⟨b, o, cap, rfl, hlen, hbl, hc⟩ := hv.at (by intro e; rw [e] at hk; simp at hk)
  have h1 := (hc k x hx).1
  have h2 := (hc k x hx).2
  have hbd := absI_le.1 (hb x (List.mem_of_getElem? hx))
  have hg : ws.getD k ⟨0, 0⟩ = x := by rw [List.getD_eq_getElem?_getD, hx]; rfl
  have HC := Lib.hid (rconj_c x.re x.im (-x.im) (IntWalk.wrap64_in _ (by omega)))
  have hki : (k : Int) < ws.length := by omega
  unfold rootOf
  rw [hg]
  obtain ⟨re, im⟩ := x
  simp only at h1 h2 HC
  clear hc hv hb hbd hx hg
  cases inv
  · simp only [Bool.false_eq_true, if_false]
    go_enter Try.func35, Try.ntmps35
    go_wp2_with fail
    refine bodyPost_ret (v := .agg #[.int .i64 re, .int .i64 im]) ?_ rfl ⟨rfl, ?_⟩
    · simp [results, Try.results35, go_sem]
    · exact by repeat (first | exact Gr.refl _ | assumption | apply Gr.drew | apply Gr.alloc | (refine Gr.setCell ?_ (by first | (simp; done) | (simp; omega)) _))
  · simp only [if_true, Gi.conj]
    go_enter Try.func35, Try.ntmps35
    go_wp2_with fail
    have R0 := CellsAt.new w 23 #[.int .i64 0, .int .i64 0]
    have g0 := (Gr.refl w).alloc #[.int .i64 0, .int .i64 0] 23
    refine (HC.out _).mono ?_
    rintro e w2 ⟨rfl, g2⟩
    have R2 := R0.gr g2
    have gw := g0.trans g2
    have c0 := R2.cell 0
    have c1 := R2.cell 1
    have f0 := R2.frozen 0
    have f1 := R2.frozen 1
    have hl2 := R2.lt
    simp only [List.getElem?_toArray, List.getElem?_cons_zero, List.getElem?_cons_succ] at c0 c1
    clear R0 g0 R2 g2
    go_wp2_with fail
    refine bodyPost_ret (v := .agg #[.int .i64 re, .int .i64 (-im)]) ?_ rfl ⟨rfl, ?_⟩
    · simp [results, Try.f35, go_sem, c0, c1]
    · exact Gr.setCell (Gr.setCell gw (by simp) _) (by simp) _

end Go.Proofs.Ytkbfniogannlhaa
