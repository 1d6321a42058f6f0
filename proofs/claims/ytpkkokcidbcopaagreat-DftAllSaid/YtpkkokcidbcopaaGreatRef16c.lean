/- What reference 16's Bin, Place, Roots, All, Slack and May answer, in whole complex numbers. -/
import Derived.Test.YtpkkokcidbcopaaGreatRef16b
import Derived.Test.YtpkkokcidbcopaaGreatDftDefs
import Derived.Test.YtpkkokcidbcopaaGreatRef09
namespace Go.Proofs.YtpkkokcidbcopaaGreat
open Go.ChangeShapes Go.WideShapes Go.ChangeAt Go.RowKit
set_option linter.unusedVariables false
set_option linter.unusedSimpArgs false
set_option maxRecDepth 100000

theorem rootsL_wv (n : Nat) (hn : IsLen (n : Int)) (k : Nat) (inv : Bool) : rootOf (rootsL (n : Int) 16) inv (k % n) = wv n inv k := wv_root n (by unfold IsLen at hn; omega) inv k
theorem rootsL_im (n : Nat) (hn : IsLen (n : Int)) : ∀ a ∈ rootsL (n : Int) 16, absI a.im ≤ 4611686018427387904 := by
  intro a ha
  unfold rootsL at ha
  obtain ⟨j, _, rfl⟩ := List.mem_map.1 ha
  have h := root_bd n j hn 16 (by omega) (by omega)
  simp at h
  exact absI_le.2 (by omega)
def wdG (v : Int) : Gi := ⟨wdH v, wdL v⟩
theorem rbin16_c (n : Nat) (hn : IsLen (n : Int)) (k : Nat) (hk : k < n) (inv : Bool) (px : Option Addr) (cx : Nat) (vw : Value) (xs : List Gi) (hxn : xs.length = n) (hx : allIn 2147483648 xs = true) (w : World) (hvx : CxsAt w (.slice px n cx) xs) (hvw : CxsAt w vw (rootsL (n : Int) 16)) :
    Calls Tryz.prog 10 #[.slice px n cx, vw, .int .i64 (k : Int), .bool inv] w fun e w' => e = .returned (.agg #[.int .i64 (binG n xs inv k).re, .int .i64 (binG n xs inv k).im]) ∧ Gr w w' := by
  have h64 : 4 ≤ n ∧ n ≤ 64 := by unfold IsLen at hn; omega
  have hjk : ∀ j : Nat, j < n → j * k ≤ 4096 := fun j hj => by
    have := Nat.mul_le_mul (show j ≤ 64 by omega) (show k ≤ 64 by omega)
    omega
  have hlen : (rootsL (n : Int) 16).length = n := by rw [rootsL_len]; omega
  have hb : ∀ (j : Nat) (x : Gi), xs[j]? = some x → xs.getD j ⟨0, 0⟩ = x := fun j x h => by rw [List.getD_eq_getElem?_getD, h]; rfl
  have hpx : ∀ (j : Nat) (x : Gi), xs[j]? = some x → (-2147483648 ≤ x.re ∧ x.re ≤ 2147483648) ∧ (-2147483648 ≤ x.im ∧ x.im ≤ 2147483648) := fun j x h => by
    have := part_in hx (by decide) j
    rw [hb j x h] at this
    exact this
  have pb : ∀ j, Wd ((xs.getD j ⟨0, 0⟩).re * (wv n inv (j * k)).re) ∧ Wd ((xs.getD j ⟨0, 0⟩).im * (wv n inv (j * k)).im) ∧ Wd ((xs.getD j ⟨0, 0⟩).re * (wv n inv (j * k)).im) ∧ Wd ((xs.getD j ⟨0, 0⟩).im * (wv n inv (j * k)).re) ∧
      (-2361183241434822606848 ≤ (xs.getD j ⟨0, 0⟩).re * (wv n inv (j * k)).re ∧ (xs.getD j ⟨0, 0⟩).re * (wv n inv (j * k)).re ≤ 2361183241434822606848) ∧ (-2361183241434822606848 ≤ (xs.getD j ⟨0, 0⟩).re * (wv n inv (j * k)).im ∧ (xs.getD j ⟨0, 0⟩).re * (wv n inv (j * k)).im ≤ 2361183241434822606848) := fun j => by
    have hw := wv_bd n hn inv (j * k)
    have ha := part_in hx (by decide) j
    have p1 := (wd_times_bd _ _ ha.1 hw.1).2.2.2
    have p2 := (wd_times_bd _ _ ha.2 hw.2).2.2.2
    have p3 := (wd_times_bd _ _ ha.1 hw.2).2.2.2
    have p4 := (wd_times_bd _ _ ha.2 hw.1).2.2.2
    unfold Wd
    exact ⟨by omega, by omega, by omega, by omega, p1, p3⟩
  have sb : ∀ j, j ≤ n → Wd (sumG n xs inv k j).re ∧ Wd (sumG n xs inv k j).im ∧ (-302231454903657293676544 ≤ (sumG n xs inv k j).re ∧ (sumG n xs inv k j).re ≤ 302231454903657293676544) ∧ (-302231454903657293676544 ≤ (sumG n xs inv k j).im ∧ (sumG n xs inv k j).im ≤ 302231454903657293676544) := fun j hj => by
    have h := sum_bd n hn xs inv hx k j hj
    unfold Wd
    exact ⟨by omega, by omega, h.1, h.2⟩
  have next : ∀ j, sumG n xs inv k (j + 1) = ⟨(sumG n xs inv k j).re + (xs.getD j ⟨0, 0⟩).re * (wv n inv (j * k)).re - (xs.getD j ⟨0, 0⟩).im * (wv n inv (j * k)).im, (sumG n xs inv k j).im + (xs.getD j ⟨0, 0⟩).re * (wv n inv (j * k)).im + (xs.getD j ⟨0, 0⟩).im * (wv n inv (j * k)).re⟩ := fun j => by
    rw [sumG_next]
    unfold gadd termG gmul
    simp only [Gi.mk.injEq]
    omega
  refine rBin16_of n k inv px cx vw xs (rootsL (n : Int) 16) hxn (fun j => wdG (sumG n xs inv k j).re) (fun j => wdG (sumG n xs inv k j).im)
    (fun j => wdG ((sumG n xs inv k j).re + (xs.getD j ⟨0, 0⟩).re * (wv n inv (j * k)).re)) (fun j => wdG ((sumG n xs inv k j).im + (xs.getD j ⟨0, 0⟩).re * (wv n inv (j * k)).im))
    (fun j => wdG ((xs.getD j ⟨0, 0⟩).re * (wv n inv (j * k)).re)) (fun j => wdG ((xs.getD j ⟨0, 0⟩).im * (wv n inv (j * k)).im)) (fun j => wdG ((xs.getD j ⟨0, 0⟩).re * (wv n inv (j * k)).im)) (fun j => wdG ((xs.getD j ⟨0, 0⟩).im * (wv n inv (j * k)).re))
    (fun j => wv n inv (j * k)) (fun j => ((j * k : Nat) : Int)) (fun j => ((j * k % n : Nat) : Int)) _ _ ⟨rfl, rfl⟩
    (Lib.hid fun j hj => ⟨wmul j k (by have := hjk j hj; omega), by rw [Int.tmod_eq_emod_of_nonneg (by omega)]; exact (Int.natCast_emod _ _).symm⟩) (by omega) (by omega)
    (Lib.hid fun j hj W hW => ?_) (Lib.hid fun j x h W => ?_) (Lib.hid fun j x h W => ?_) (Lib.hid fun j x h W => ?_) (Lib.hid fun j x h W => ?_)
    (Lib.hid fun j hj W => ?_) (Lib.hid fun j hj W => ?_) (Lib.hid fun j hj W => ?_) (Lib.hid fun j hj W => ?_)
    (Lib.hid (down16_c _ (sb n (Nat.le_refl _)).1)) (Lib.hid (down16_c _ (sb n (Nat.le_refl _)).2.1)) w hvx hvw
  · have h := root10_c vw (rootsL (n : Int) 16) (j * k % n) inv (by rw [hlen]; exact Nat.mod_lt _ (by omega)) (rootsL_im n hn) W hW
    rw [rootsL_wv n hn] at h
    exact h
  · have h1 := hpx j x h
    have h2 := wv_bd n hn inv (j * k)
    have h3 := times16_c x.re (wv n inv (j * k)).re h1.1 h2.1 W
    rw [hb j x h]
    exact h3
  · have h1 := hpx j x h
    have h2 := wv_bd n hn inv (j * k)
    have h3 := times16_c x.im (wv n inv (j * k)).im h1.2 h2.2 W
    rw [hb j x h]
    exact h3
  · have h1 := hpx j x h
    have h2 := wv_bd n hn inv (j * k)
    have h3 := times16_c x.re (wv n inv (j * k)).im h1.1 h2.2 W
    rw [hb j x h]
    exact h3
  · have h1 := hpx j x h
    have h2 := wv_bd n hn inv (j * k)
    have h3 := times16_c x.im (wv n inv (j * k)).re h1.2 h2.1 W
    rw [hb j x h]
    exact h3
  · exact add16_c _ _ (sb j (by omega)).1 (pb j).1 W
  · have h3 := less16_c (u := (sumG n xs inv k j).re + (xs.getD j ⟨0, 0⟩).re * (wv n inv (j * k)).re) (v := (xs.getD j ⟨0, 0⟩).im * (wv n inv (j * k)).im) (by have := (sb j (by omega)).2.2.1; have := (pb j).2.2.2.2.1; unfold Wd; omega) (pb j).2.1 W
    rw [next j]
    exact h3
  · exact add16_c _ _ (sb j (by omega)).2.1 (pb j).2.2.1 W
  · have h3 := add16_c (u := (sumG n xs inv k j).im + (xs.getD j ⟨0, 0⟩).re * (wv n inv (j * k)).im) (v := (xs.getD j ⟨0, 0⟩).im * (wv n inv (j * k)).re) (by have := (sb j (by omega)).2.2.2; have := (pb j).2.2.2.2.2; unfold Wd; omega) (pb j).2.2.2.1 W
    rw [next j]
    exact h3

theorem rplace16_c (k : Int) (n : Nat) (hn : IsLen (n : Int)) (wk : -9223372036854775808 ≤ k ∧ k ≤ 9223372036854775807) (w : World) :
    Calls Tryz.prog 12 #[.int .i64 k, .int .i64 (n : Int)] w fun e w' => e = .returned (.int .i64 (k % (n : Int))) ∧ w' = w := by
  have h64 : 4 ≤ (n : Int) ∧ (n : Int) ≤ 64 := by unfold IsLen at hn; omega
  clear hn
  generalize (n : Int) = n at *
  have hz : ¬ n = 0 := by omega
  have hb := Int.emod_nonneg k hz
  have hb2 := Int.emod_lt_of_pos k (show 0 < n by omega)
  have ht : (0 ≤ k.tmod n ∧ k.tmod n = k % n) ∨ (k.tmod n < 0 ∧ k.tmod n + n = k % n) := by
    have h1 := Int.tmod_eq_emod (a := k) (b := n)
    split at h1
    · exact .inl (by omega)
    · right
      have hd : (n.natAbs : Int) = n := by omega
      rename_i hq
      have : ¬ k % n = 0 := fun e => hq (.inr (Int.dvd_of_emod_eq_zero e))
      omega
  generalize hm : k.tmod n = m at *
  generalize k % n = r at *
  rcases ht with ⟨h1, rfl⟩ | ⟨h1, h2⟩
  · have h1' : ¬ m < 0 := by omega
    clear hb hb2 wk
    go_enter Tryz.func12, Tryz.ntmps12
    go_wp2_with fail
    go_ret
    exact ⟨rfl, rfl⟩
  · subst h2
    have h3 : wrap64 (m + n) = m + n := IntWalk.wrap64_in _ ⟨by omega, by omega⟩
    clear hb hb2 wk
    go_enter Tryz.func12, Tryz.ntmps12
    go_wp2_with fail
    go_ret
    refine ⟨?_, rfl⟩
    show Ending.returned (Value.int .i64 (wrap64 (m + n))) = _
    rw [h3]

theorem rroots16_c (n L : Nat) (h : IsLog (n : Int) L) (w : World) :
    Calls Tryz.prog 11 #[.int .i64 (n : Int)] w fun e w' => ∃ v, e = .returned v ∧ CxsAt w' v (rootsL (n : Int) 16) ∧ Gr w w' := by
  have HL := Lib.hid (rlog08_yes (n : Int) L h)
  have HT := Lib.hid (table07_c (L : Int) (n : Int) 40 (by have := h.1; omega) (by have := h.2.1; omega) (by rw [h.2.2, Int.toNat_natCast]; exact Int.natCast_pow 2 L) (by decide) (by decide))
  clear h
  go_enter Tryz.func11, Tryz.ntmps11
  go_wp2_with (go_at_call 20; refine (HL.out _).mono ?_; rintro e wz ⟨rfl, rfl⟩)
  refine (HT.out _).mono ?_
  rintro e w1 ⟨v, rfl, hv, g1⟩
  go_wp2_with fail
  go_ret
  exact ⟨_, rfl, hv, g1⟩

set_option maxHeartbeats 2000000 in
theorem rall16_of (n : Nat) (hn : n ≤ 70) (inv : Bool) (px : Option Addr) (cx : Nat) (xs ws : List Gi) (B : Nat → Gi)
    (HR : Hid (∀ W, Calls Tryz.prog 11 #[.int .i64 (n : Int)] W fun e w' => ∃ v, e = .returned v ∧ CxsAt w' v ws ∧ Gr W w'))
    (HB : Hid (∀ j v W, j < n → CxsAt W (.slice px n cx) xs → CxsAt W v ws → Calls Tryz.prog 10 #[.slice px n cx, v, .int .i64 (j : Int), .bool inv] W fun e w' => e = .returned (.agg #[.int .i64 (B j).re, .int .i64 (B j).im]) ∧ Gr W w')) (w : World) (hvx : CxsAt w (.slice px n cx) xs) :
    Calls Tryz.prog 15 #[.slice px n cx, .bool inv] w fun e w' => ∃ v, e = .returned v ∧ CxsAt w' v ((List.range n).map B) ∧ Gr w w' := by
  obtain ⟨i0, hi, hz0, hz1, hz2⟩ := info_parts info_cx
  go_enter Tryz.func15, Tryz.ntmps15
  go_wp2_with fail
  refine (HR.out _).mono ?_
  rintro e w1 ⟨vw, rfl, hvw, g1⟩
  have hvx1 := hvx.gr g1
  go_wp2_with fail
  have hs0 : ((w1.alloc (.cells #[] 24)).ownsRow w1.heap.size 24 2 (.slice (some ⟨w1.heap.size, 0, none⟩) 0 0) 0 []) := World.ownsRow_made w1 #[] 0 (Nat.le_refl _) (by unfold maxLen; omega) (by simp)
  have gs0 := (Gr.refl w1).alloc #[] 24
  go_loopw [6, 7, 14] (fun v _ i wr => ∃ j : Nat, j ≤ n ∧ i = .int .i64 j ∧ wr.ownsRow w1.heap.size 24 2 v j (gcells ((List.range j).map B)) ∧ Gr w1 wr) (fun _ _ i _ => n - (intOf i).toNat)
  case atStart => exact ⟨0, by omega, rfl, hs0, gs0⟩
  case round =>
    clear hs0 gs0
    obtain ⟨j, hj, rfl, hrow, hg⟩ := hrel
    by_cases hlt : j < n
    · have hjI : (j : Int) < (n : Int) := by omega
      have HB1 := Lib.hid fun v W => HB.out j v W hlt
      have er : (List.range (j + 1)).map B = (List.range j).map B ++ [B j] := by rw [List.range_succ, List.map_append]; rfl
      have ER := Lib.hid er
      clear er
      generalize B j = g at *
      obtain ⟨re, im⟩ := g
      simp only at HB1
      go_wp2_with fail
      refine (HB1.out _ _ (hvx1.gr hg) (hvw.gr hg)).mono ?_
      rintro e wq ⟨rfl, hgq⟩
      have hrow2 := ownsRow_gr hrow hgq
      have hsz := hg.size
      have hsq := hgq.size
      have hg2 := hg.trans hgq
      clear hrow hg hgq HB1
      go_wp2_with (at_builtin; refine wpList_append_own_at _ rfl (.tmp 17) (.tmp 23) 22 rfl w1.heap.size 24 i0 (.agg #[.int .i64 0, .int .i64 0]) 2 16 Tryz.underlying22 hi hz0 hz1 hz2 rfl (by decide) _ _ _ rfl (hrow2.alloc _) ⟨wq.heap.size, 0, none⟩ 1 1 [.int .i64 re, .int .i64 im] rfl rfl (news_two _ _ _ _) (by simp [Value.oneCell']) (by unfold maxLen; omega) (by omega) (by simp; omega) ?_; intro v' w3 hown' hgrow _ hblk)
      have e : gcells ((List.range j).map B) ++ [.int .i64 re, .int .i64 im] = gcells ((List.range (j + 1)).map B) := by
        rw [ER.out, gcells_snoc]
      rw [e] at hown'
      have hg3 := (hg2.allocO _).grown hgrow (fun k e => (hrow2.lt k e).1)
      go_roundw
      case rel => exact ⟨j + 1, by omega, by go_num, hown', hg3⟩
      case measure => simp [intOf]; omega
    · obtain rfl : j = n := by omega
      have hjI : ¬ (j : Int) < (j : Int) := by omega
      go_wp2_with fail
      go_ret
      exact ⟨_, rfl, CxsAt.of_row hrow, g1.trans hg⟩

theorem rall16_c (n L : Nat) (h : IsLog (n : Int) L) (inv : Bool) (px : Option Addr) (cx : Nat) (xs : List Gi) (hxn : xs.length = n) (hx : allIn 2147483648 xs = true) (w : World) (hvx : CxsAt w (.slice px n cx) xs) :
    Calls Tryz.prog 15 #[.slice px n cx, .bool inv] w fun e w' => ∃ v, e = .returned v ∧ CxsAt w' v (binsG n xs inv) ∧ Gr w w' :=
  rall16_of n (by have := h.len; unfold IsLen at this; omega) inv px cx xs _ _ (Lib.hid (rroots16_c n L h)) (Lib.hid fun j v W hj h1 h2 => rbin16_c n h.len j hj inv px cx v xs hxn hx W h1 h2) w hvx

set_option maxHeartbeats 2000000 in
theorem rslack16_c (n : Nat) (hn : n ≤ 64) (px : Option Addr) (cx : Nat) (xs : List Gi) (hxn : xs.length = n) (hx : allIn 2147483648 xs = true) (w : World) (hvx : CxsAt w (.slice px n cx) xs) :
    Calls Tryz.prog 9 #[.slice px n cx] w fun e w' => e = .returned (.int .i64 (slackG n xs)) ∧ Gr w w' := by
  obtain ⟨b1, b2, b3⟩ := slackG_bd n hn xs hx
  have HM := Lib.hid fun W hW => max09_c (.slice px n cx) xs hx W hW
  have HF := Lib.hid (floor_c (2 * (n : Int) * maxG xs) 32 ⟨by omega, by omega⟩ (by decide) (by decide))
  rw [show (2 : Int) ^ (32 : Int).toNat = 4294967296 from rfl] at HF
  have hn2 : wrap64 (2 * (n : Int)) = 2 * n := IntWalk.wrap64_in _ ⟨by omega, by omega⟩
  unfold slackG at b3 ⊢
  generalize maxG xs = M at *
  have hw1 : wrap64 (2 * (n : Int) * M) = 2 * n * M := IntWalk.wrap64_in _ ⟨by omega, by omega⟩
  have hw2 : wrap64 (2 * (n : Int) * M / 4294967296 + 2) = 2 * n * M / 4294967296 + 2 := IntWalk.wrap64_in _ ⟨by omega, by omega⟩
  have HW2 := Lib.hid hw2
  clear b1 b2 b3 hw2 hxn hx hn
  go_enter Tryz.func9, Tryz.ntmps9
  go_wp2_with fail
  refine (HM.out _ hvx).mono ?_
  rintro e w1 ⟨rfl, g1⟩
  go_wp2_with fail
  with_reducible refine (HF.out _).mono ?_
  rintro e wz ⟨rfl, rfl⟩
  go_wp2_with fail
  go_ret
  refine ⟨?_, g1⟩
  show Ending.returned (Value.int .i64 (wrap64 (2 * (n : Int) * M / 4294967296 + 2))) = _
  rw [HW2.out]

theorem rmay16_yes (n L : Nat) (h : IsLog (n : Int) L) (px : Option Addr) (cx : Nat) (xs : List Gi) (hxn : xs.length = n) (y : Int) (hy : (allIn 2147483648 xs = true ∧ y = 0) ∨ (allIn 2147483648 xs = false ∧ y = 2)) (w : World) (hvx : CxsAt w (.slice px n cx) xs) :
    Calls Tryz.prog 7 #[.slice px n cx] w fun e w' => e = .returned (.int .i64 y) ∧ Gr w w' := by
  have HL := Lib.hid (rlog08_yes (n : Int) L h)
  have HN := Lib.hid fun W hW => narrow09_c (.slice px n cx) xs W hW
  have hL : ¬ (L : Int) < 0 := by omega
  clear h
  rcases hy with ⟨hb, rfl⟩ | ⟨hb, rfl⟩
  all_goals
    rw [hb] at HN
    clear hb
    go_enter Tryz.func7, Tryz.ntmps7
    go_wp2_with (go_at_call 20; refine (HL.out _).mono ?_; rintro e wz ⟨rfl, rfl⟩)
    refine (HN.out _ hvx).mono ?_
    rintro e w1 ⟨rfl, g1⟩
    go_wp2_with fail
    go_ret
    exact ⟨rfl, g1⟩
theorem rmay16_no (n : Nat) (h : ¬ ∃ L, IsLog (n : Int) L) (px : Option Addr) (cx : Nat) (w : World) :
    Calls Tryz.prog 7 #[.slice px n cx] w fun e w' => e = .returned (.int .i64 3) ∧ Gr w w' := by
  have hh : ∀ q L : Nat, 2 ≤ L → L ≤ 6 → 2 ^ L = q → (n : Int) ≠ (q : Int) := fun q L a b e hq => h ⟨L, a, b, by rw [hq, e]⟩
  have HL := Lib.hid (rlog08_no (n : Int) (hh 4 2 (by decide) (by decide) rfl) (hh 8 3 (by decide) (by decide) rfl) (hh 16 4 (by decide) (by decide) rfl) (hh 32 5 (by decide) (by decide) rfl) (hh 64 6 (by decide) (by decide) rfl))
  clear h hh
  go_enter Tryz.func7, Tryz.ntmps7
  go_wp2_with (go_at_call 20; refine (HL.out _).mono ?_; rintro e wz ⟨rfl, rfl⟩)
  go_ret
  exact ⟨rfl, Gr.refl _⟩

end Go.Proofs.YtpkkokcidbcopaaGreat
