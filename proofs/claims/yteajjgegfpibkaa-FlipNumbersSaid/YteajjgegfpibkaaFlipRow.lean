/- What package flip's Flip answers. -/
import Derived.Test.YteajjgegfpibkaaFlipCode
import Derived.Test.YteajjgegfpibkaaCxMake
namespace Go.Proofs.Yteajjgegfpibkaa
open Go.ChangeShapes Go.WideShapes Go.ChangeAt Go.RowKit
set_option linter.unusedVariables false

def gi0 : Gi := ⟨0, 0⟩
/-- Numbers, each at the place flipped. -/
def flipL (L : Nat) (xs : List Gi) : List Gi := (List.range (2 ^ L)).map (fun k => xs.getD (fl L k) gi0)
theorem flipL_len (L : Nat) (xs : List Gi) : (flipL L xs).length = 2 ^ L := by unfold flipL; simp
theorem flipL_at (L : Nat) (xs : List Gi) (j : Nat) (h : j < 2 ^ L) : (flipL L xs)[j]? = some (xs.getD (fl L j) gi0) := by unfold flipL; simp [h]
theorem flipL_getD (L : Nat) (xs : List Gi) (j : Nat) (h : j < 2 ^ L) : (flipL L xs).getD j gi0 = xs.getD (fl L j) gi0 := by rw [List.getD_eq_getElem?_getD, flipL_at L xs j h]; rfl
/-- Flipped twice is as it was. -/
theorem flipL_flipL (L : Nat) (xs : List Gi) (hL : L ≤ 6) (hl : xs.length = 2 ^ L) : flipL L (flipL L xs) = xs := by
  apply List.ext_getElem?
  intro j
  by_cases h : j < 2 ^ L
  · rw [flipL_at _ _ _ h, flipL_getD _ _ _ (fl_lt L j), fl_fl L j hL h, List.getD_eq_getElem?_getD, List.getElem?_eq_getElem (by omega)]
    rfl
  · rw [List.getElem?_eq_none (by rw [flipL_len]; omega), List.getElem?_eq_none (by omega)]

/-- What lies at place j when the places below k have changed with theirs. -/
def yk (L : Nat) (xs : List Gi) (k j : Nat) : Gi := if min j (fl L j) < k then xs.getD (fl L j) gi0 else xs.getD j gi0
theorem yk_zero (L : Nat) (xs : List Gi) (j : Nat) : yk L xs 0 j = xs.getD j gi0 := by unfold yk; rw [if_neg (by omega)]
theorem yk_all (L : Nat) (xs : List Gi) (j : Nat) (h : j < 2 ^ L) : yk L xs (2 ^ L) j = xs.getD (fl L j) gi0 := by unfold yk; rw [if_pos (by omega)]
theorem yk_stay (L : Nat) (xs : List Gi) (k j : Nat) (hL : L ≤ 6) (hk : k < 2 ^ L) (hj : j < 2 ^ L) (h : fl L k ≤ k) : yk L xs (k + 1) j = yk L xs k j := by
  unfold yk
  by_cases e : j = k
  · subst e
    by_cases e2 : fl L j = j
    · rw [e2]; split <;> split <;> rfl
    · rw [if_pos (by omega), if_pos (by omega)]
  · by_cases e2 : fl L j = k
    · have : fl L k = j := by rw [← e2]; exact fl_fl L j hL hj
      by_cases e3 : j < k
      · rw [if_pos (by omega), if_pos (by omega)]
      · omega
    · by_cases e3 : min j (fl L j) < k
      · rw [if_pos (by omega), if_pos e3]
      · rw [if_neg (by omega), if_neg e3]
theorem yk_swap (L : Nat) (xs : List Gi) (k : Nat) (hL : L ≤ 6) (hk : k < 2 ^ L) (h : k < fl L k) :
    yk L xs k (fl L k) = xs.getD (fl L k) gi0 ∧ yk L xs k k = xs.getD k gi0 ∧ yk L xs (k + 1) k = xs.getD (fl L k) gi0 ∧ yk L xs (k + 1) (fl L k) = xs.getD k gi0 ∧
    ∀ j, j < 2 ^ L → j ≠ k → j ≠ fl L k → yk L xs (k + 1) j = yk L xs k j := by
  have hf := fl_fl L k hL hk
  unfold yk
  refine ⟨?_, ?_, ?_, ?_, fun j hj h1 h2 => ?_⟩
  · rw [hf, if_neg (by omega)]
  · rw [if_neg (by omega)]
  · rw [if_pos (by omega)]
  · rw [hf, if_pos (by omega)]
  · have h3 : fl L j ≠ k := by
      intro e
      exact h2 (by rw [← e]; exact (fl_fl L j hL hj).symm)
    by_cases e3 : min j (fl L j) < k
    · rw [if_pos (by omega), if_pos e3]
    · rw [if_neg (by omega), if_neg e3]

theorem gcells_inv (xs : List Gi) (k : Nat) (v : Value) (h : (gcells xs)[k]? = some v) : ∃ j x, xs[j]? = some x ∧ ((k = j * 2 ∧ v = .int .i64 x.re) ∨ (k = j * 2 + 1 ∧ v = .int .i64 x.im)) := by
  have hk := (List.getElem?_eq_some_iff.1 h).1
  rw [gcells_len] at hk
  obtain ⟨x, hx⟩ : ∃ x, xs[k / 2]? = some x := get_of_lt (by omega)
  have h2 := gcells_at xs (k / 2) x hx
  rcases Nat.mod_two_eq_zero_or_one k with e | e
  · rw [show k / 2 * 2 = k by omega, h] at h2
    exact ⟨k / 2, x, hx, .inl ⟨by omega, Option.some.inj h2.1⟩⟩
  · rw [show k / 2 * 2 + 1 = k by omega, h] at h2
    exact ⟨k / 2, x, hx, .inr ⟨by omega, Option.some.inj h2.2⟩⟩

set_option maxHeartbeats 2000000 in
theorem flip08_ok (v : Value) (xs : List Gi) (L : Nat) (l0 : 2 ≤ L) (l1 : L ≤ 6) (hl : xs.length = 2 ^ L) (w : World) (hv : CxsAt w v xs) :
    Calls Try.prog 16 #[v] w fun e w' => ∃ v', e = .returned (.tuple #[v', .int .i64 0]) ∧ CxsAt w' v' (flipL L xs) ∧ Gr w w' := by
  have h64 := pow_le L l1
  have h4 : 4 ≤ 2 ^ L := Nat.pow_le_pow_right (n := 2) (by omega) l0
  obtain ⟨b, o, cap, rfl, hlen, hb, hc⟩ := hv.at (by intro e; rw [e] at hl; simp at hl; omega)
  have HG := Lib.hid (log08_yes ((2 ^ L : Nat) : Int) L ⟨l0, l1, rfl⟩)
  have HF := Lib.hid fun k (hk : k < 64) => flipped_c k L l1 hk
  have HX : ∀ j, j < 2 ^ L → xs[j]? = some (xs.getD j gi0) := fun j hj => by rw [List.getD_eq_getElem?_getD, List.getElem?_eq_getElem (by omega)]; rfl
  have HY0 := Lib.hid (yk_zero L xs)
  have HYn := Lib.hid (yk_all L xs)
  have HYs := Lib.hid fun k j hk hj h => yk_stay L xs k j l1 hk hj h
  have HYw := Lib.hid fun k hk h => yk_swap L xs k l1 hk h
  have HFl := Lib.hid (fl_lt L)
  have HZ := Lib.hid (flipL_at L xs)
  have HZl := Lib.hid (flipL_len L xs)
  rw [hl]
  generalize flipL L xs = zs at *
  generalize 2 ^ L = n at *
  have hmk := run_make_cx n (by omega) w
  obtain ⟨W2, hcp, hC2, hg2⟩ : ∃ W2, (Builtin.copy_ #[37, 37] 3 #[.slice (some ⟨w.heap.size, 0, none⟩) n n, .slice (some ⟨b, o, none⟩) n cap]).run Try.prog (w.alloc (.cells (madeCells #[.int .i64 0, .int .i64 0] (n * 2)) 45)) = .ok (.int .i64 n) W2 ∧ CellsAt W2 w.heap.size 45 (gcells xs).toArray ∧ Gr w W2 := by
    have M0 := CellsAt.new w 45 (madeCells #[.int .i64 0, .int .i64 0] (n * 2))
    have M1 := size_madeCells #[.int .i64 0, .int .i64 0] (n * 2)
    have g1 := (Gr.refl w).alloc (madeCells #[.int .i64 0, .int .i64 0] (n * 2)) 45
    have hL := gcells_len xs
    have hr := run_copy_cx (w.alloc (.cells (madeCells #[.int .i64 0, .int .i64 0] (n * 2)) 45)) 3 w.heap.size n n ⟨b, o, none⟩ n cap _ 45 (gcells xs) M0
      (by rw [hL, hl]; simp) (by
        intro j v hj
        rw [Addr.add_lit]
        obtain ⟨j', x, hx, h⟩ := gcells_inv xs j v hj
        have hcx := hc j' x hx
        rcases h with ⟨rfl, rfl⟩ | ⟨rfl, rfl⟩
        · exact (g1.cell (p := ⟨b, o + j' * 2, none⟩) hb).trans hcx.1
        · exact (g1.cell (p := ⟨b, o + j' * 2 + 1, none⟩) hb).trans hcx.2)
      (by rw [hL, hl, M1]; omega) (by
        intro v hv
        obtain ⟨j, hj, rfl⟩ := List.mem_iff_getElem.1 hv
        obtain ⟨j', x, hx, h⟩ := gcells_inv xs j _ (List.getElem?_eq_getElem hj)
        rcases h with ⟨_, h⟩ | ⟨_, h⟩ <;> rw [h] <;> rfl)
    have hd : (madeCells #[.int .i64 0, .int .i64 0] (n * 2)).toList.drop (gcells xs).length = [] := List.drop_eq_nil_of_le (by rw [hL, hl]; simp [M1])
    rw [hd, List.append_nil] at hr
    refine ⟨_, ?_, setRow_heap _ _ _ _ _ _ M0, ⟨below_setRow g1.out (Nat.le_refl _) _⟩⟩
    rw [hr]
    simp [goInt]
  have S0 : (gcells xs).toArray.size = n * 2 := by have := gcells_len xs; simp only [List.size_toArray]; omega
  clear hc hl hb
  go_enter Try.func16, Try.ntmps16
  go_wp2_with (first | (go_at_call 8; refine (HG.out _).mono ?_; rintro e wz ⟨rfl, rfl⟩))
  go_loopw [7, 8, 26] (fun _ _ i wr => ∃ k : Nat, ∃ c : Array Value, k ≤ n ∧ i = .int .i64 k ∧ CellsAt wr wz.heap.size 45 c ∧ c.size = n * 2 ∧ (∀ j, j < n → c[j * 2]? = some (.int .i64 (yk L xs k j).re) ∧ c[j * 2 + 1]? = some (.int .i64 (yk L xs k j).im)) ∧ Gr wz wr)
    (fun _ _ i _ => n - (intOf i).toNat)
  case atStart =>
    refine ⟨0, _, by omega, rfl, hC2, S0, fun j hj => ?_, hg2⟩
    rw [HY0.out]
    simpa using gcells_at xs j _ (HX j hj)
  case round =>
    clear hC2 hg2 hmk hcp S0 HX
    obtain ⟨k, c, hk, rfl, hC, hs, hj, hg⟩ := hrel
    by_cases hlt : k < n
    · have HA := Lib.hid (HF.out k (by omega))
      have hfl := HFl.out k
      by_cases hsw : k < fl L k
      · obtain ⟨e1, e2, e3, e4, e5⟩ := HYw.out k hlt hsw
        have E := Lib.hid (And.intro e3 (And.intro e4 e5))
        have q0 := (hj k hlt).1
        have q1 := (hj k hlt).2
        have p0 := (hj _ hfl).1
        have p1 := (hj _ hfl).2
        rw [e2] at q0 q1
        rw [e1] at p0 p1
        clear e1 e2 e3 e4 e5
        have HJ := Lib.hid hj
        have HS := Lib.hid hs
        clear hj hs HF HFl HY0 HYn HYs HYw
        have q2 := hC.cell (k * 2)
        have q3 := hC.cell (k * 2 + 1)
        have p2 := hC.cell (fl L k * 2)
        have p3 := hC.cell (fl L k * 2 + 1)
        rw [q0] at q2
        rw [q1] at q3
        rw [p0] at p2
        rw [p1] at p3
        have f0 := hC.frozen (k * 2)
        have f1 := hC.frozen (k * 2 + 1)
        have f2 := hC.frozen (fl L k * 2)
        have f3 := hC.frozen (fl L k * 2 + 1)
        clear q0 q1 p0 p1
        have hBl := hC.lt
        generalize fl L k = f at *
        generalize xs.getD f gi0 = gf at *
        generalize xs.getD k gi0 = gk at *
        have hi1 : (f : Int) < n := by omega
        have hi2 : (k : Int) < f := by omega
        have hi3 : ¬ f = k := by omega
        have hi4 : ¬ k = f := by omega
        go_wp2_with (first | (go_at_call 20; refine (HA.out _).mono ?_; rintro e wy ⟨rfl, rfl⟩))
        go_region
        go_wp2_with fail
        have hC4 := ((((hC.set (k * 2) (.int .i64 gf.re)).set (k * 2 + 1) (.int .i64 gf.im)).set (f * 2) (.int .i64 gk.re)).set (f * 2 + 1) (.int .i64 gk.im)).drewN 1
        have hg4 := ((((hg.setCell (a := ⟨wz.heap.size, k * 2, none⟩) (Nat.le_refl _) (.int .i64 gf.re)).setCell (a := ⟨wz.heap.size, k * 2 + 1, none⟩) (Nat.le_refl _) (.int .i64 gf.im)).setCell (a := ⟨wz.heap.size, f * 2, none⟩) (Nat.le_refl _) (.int .i64 gk.re)).setCell (a := ⟨wz.heap.size, f * 2 + 1, none⟩) (Nat.le_refl _) (.int .i64 gk.im)).drew
        obtain ⟨E1, E2, E3⟩ := E.out
        go_roundw
        case rel =>
          refine ⟨k + 1, _, by omega, by go_num, hC4, by simpa using HS.out, fun j hj => ?_, hg4⟩
          have hs := HS.out
          by_cases e : j = k
          · subst e
            rw [E1]
            constructor
            · rw [Array.getElem?_setIfInBounds, if_neg (by omega), Array.getElem?_setIfInBounds, if_neg (by omega), Array.getElem?_setIfInBounds, if_neg (by omega), Array.getElem?_setIfInBounds, if_pos rfl, if_pos (by omega)]
            · rw [Array.getElem?_setIfInBounds, if_neg (by omega), Array.getElem?_setIfInBounds, if_neg (by omega), Array.getElem?_setIfInBounds, if_pos rfl, if_pos (by simp only [Array.size_setIfInBounds]; omega)]
          · by_cases e' : j = f
            · subst e'
              rw [E2]
              constructor
              · rw [Array.getElem?_setIfInBounds, if_neg (by omega), Array.getElem?_setIfInBounds, if_pos rfl, if_pos (by simp only [Array.size_setIfInBounds]; omega)]
              · rw [Array.getElem?_setIfInBounds, if_pos rfl, if_pos (by simp only [Array.size_setIfInBounds]; omega)]
            · rw [E3 j hj e e']
              constructor
              · rw [Array.getElem?_setIfInBounds, if_neg (by omega), Array.getElem?_setIfInBounds, if_neg (by omega), Array.getElem?_setIfInBounds, if_neg (by omega), Array.getElem?_setIfInBounds, if_neg (by omega)]
                exact (HJ.out j hj).1
              · rw [Array.getElem?_setIfInBounds, if_neg (by omega), Array.getElem?_setIfInBounds, if_neg (by omega), Array.getElem?_setIfInBounds, if_neg (by omega), Array.getElem?_setIfInBounds, if_neg (by omega)]
                exact (HJ.out j hj).2
        case measure => simp [intOf]; omega
      · have hst := HYs.out k
        have HJ := Lib.hid hj
        have HE := Lib.hid fun j hj => hst j hlt hj (by omega)
        clear hj hst HF HFl HY0 HYn HYs HYw
        generalize fl L k = f at *
        go_wp2_with (first | (go_at_call 20; refine (HA.out _).mono ?_; rintro e wy ⟨rfl, rfl⟩))
        go_roundw
        case rel => exact ⟨k + 1, c, by omega, by go_num, hC, hs, fun j hj => by rw [HE.out j hj]; exact HJ.out j hj, hg⟩
        case measure => simp [intOf]; omega
    · have he : k = n := by omega
      subst he
      go_wp2_with fail
      go_ret2
      refine ⟨.slice (some ⟨wz.heap.size, 0, none⟩) k k, rfl, ⟨some ⟨wz.heap.size, 0, none⟩, k, by rw [HZl.out], by rw [HZl.out]; omega, by unfold maxLen; omega, fun _ => ⟨wz.heap.size, 0, rfl, hC.lt, fun j x hx => ?_⟩⟩, hg⟩
      have hjl : j < k := by
        have := (List.getElem?_eq_some_iff.1 hx).1
        rwa [HZl.out] at this
      rw [HZ.out j hjl] at hx
      obtain rfl := Option.some.inj hx
      rw [hC.cell, hC.cell, Nat.zero_add, ← HYn.out j hjl]
      exact hj j hjl

theorem flip08_bad (p : Option Addr) (len cap : Nat) (h4 : len ≠ 4) (h8 : len ≠ 8) (h16 : len ≠ 16) (h32 : len ≠ 32) (h64 : len ≠ 64) (w : World) :
    Calls Try.prog 16 #[.slice p len cap] w fun e w' => e = .returned (.tuple #[.slice none 0 0, .int .i64 3]) ∧ w' = w := by
  have HG := Lib.hid (log08_no len (by omega) (by omega) (by omega) (by omega) (by omega))
  clear h4 h8 h16 h32 h64
  go_enter Try.func16, Try.ntmps16
  go_wp2_with (first | (go_at_call 8; refine (HG.out _).mono ?_; rintro e wz ⟨rfl, rfl⟩))
  go_ret2
  exact ⟨rfl, rfl⟩

end Go.Proofs.Yteajjgegfpibkaa
