/- Reference 19: a weight, a table, a sum. -/
import Derived.Test.YtbdglbpkbpedoaaWinNum
import Derived.Test.YtbdglbpkbpedoaaRef07
namespace Go.Proofs.Ytbdglbpkbpedoaa
open Go.ChangeShapes Go.WideShapes Go.ChangeAt Go.RowKit
set_option linter.unusedVariables false
set_option linter.unusedSimpArgs false
set_option maxRecDepth 100000

theorem CxsAt.grownW {W w' : World} {b o n c : Nat} {xs : List Gi} {row : Option Nat} (h : CxsAt W (.slice (some ⟨b, o, none⟩) n c) xs) (hg : W.grownBy w' row) (hne : some b ≠ row) : CxsAt w' (.slice (some ⟨b, o, none⟩) n c) xs := by
  obtain ⟨p, cap, hv, hl, hm, hc⟩ := h
  refine ⟨p, cap, hv, hl, hm, fun hx => ?_⟩
  obtain ⟨b', o', hp, hbb, hc⟩ := hc hx
  have hb : b' = b := by
    rw [hp] at hv
    cases hv
    rfl
  have hs := hg.block b' hbb (by rw [hb]; exact hne)
  refine ⟨b', o', hp, Nat.lt_of_lt_of_le hbb hg.size, fun j x hj => ?_⟩
  have := hc j x hj
  unfold World.cell? at this ⊢
  rw [hs]
  exact this

set_option maxHeartbeats 1000000 in
theorem rWeight_0 (yb yo cap n k m k2 : Nat) (bits O c d : Int) (hkn : (k : Int) < (n : Int)) (hmn : (m : Int) < (n : Int)) (h0 : ¬ (n : Int) = 0) (e2 : wrap64 (2 * (k : Int)) = (k2 : Int)) (emod : (k2 : Int).tmod (n : Int) = (m : Int))
    (HP : Hid (∀ W, Calls Try.prog 44 #[.int .i64 bits] W fun e w' => e = .returned (.int .i64 O) ∧ w' = W))
    (w : World) (hb : yb < w.heap.size) (h1 : w.cell? ⟨yb, yo + k * 2, none⟩ = some (.int .i64 c)) (h2 : w.cell? ⟨yb, yo + m * 2, none⟩ = some (.int .i64 d)) :
    Calls Try.prog 21 #[.slice (some ⟨yb, yo, none⟩) n cap, .int .i64 0, .int .i64 bits, .int .i64 k] w fun e w' => e = .returned (.int .i64 O) ∧ w' = w := by
  go_enter Try.func21, Try.ntmps21
  go_wp2_with fail
  refine (HP.out _).mono ?_
  rintro e w1 ⟨rfl, hw⟩
  subst hw
  go_wp2_with fail
  go_ret
  exact ⟨rfl, rfl⟩

set_option maxHeartbeats 1000000 in
theorem rWeight_1 (yb yo cap n k m k2 : Nat) (bits O c d x r : Int) (hkn : (k : Int) < (n : Int)) (hmn : (m : Int) < (n : Int)) (h0 : ¬ (n : Int) = 0) (e2 : wrap64 (2 * (k : Int)) = (k2 : Int)) (emod : (k2 : Int).tmod (n : Int) = (m : Int)) (HX : Hid (wrap64 (O - c) = x))
    (HP : Hid (∀ W, Calls Try.prog 44 #[.int .i64 bits] W fun e w' => e = .returned (.int .i64 O) ∧ w' = W)) (HS : Hid (∀ W, Calls Try.prog 30 #[.int .i64 x, .int .i64 1, .int .i64 1] W fun e w' => e = .returned (.int .i64 r) ∧ w' = W))
    (w : World) (hb : yb < w.heap.size) (h1 : w.cell? ⟨yb, yo + k * 2, none⟩ = some (.int .i64 c)) (h2 : w.cell? ⟨yb, yo + m * 2, none⟩ = some (.int .i64 d)) :
    Calls Try.prog 21 #[.slice (some ⟨yb, yo, none⟩) n cap, .int .i64 1, .int .i64 bits, .int .i64 k] w fun e w' => e = .returned (.int .i64 r) ∧ w' = w := by
  go_enter Try.func21, Try.ntmps21
  go_wp2_with fail
  refine (HP.out _).mono ?_
  rintro e w1 ⟨rfl, hw⟩
  subst hw
  go_wp2_with fail
  rw [HX.out]
  refine (HS.out _).mono ?_
  rintro e w2 ⟨rfl, hw⟩
  subst hw
  go_wp2_with fail
  go_ret
  exact ⟨rfl, rfl⟩

set_option maxHeartbeats 1000000 in
theorem rWeight_2 (yb yo cap n k m k2 : Nat) (bits O c d x r : Int) (hkn : (k : Int) < (n : Int)) (hmn : (m : Int) < (n : Int)) (h0 : ¬ (n : Int) = 0) (e2 : wrap64 (2 * (k : Int)) = (k2 : Int)) (emod : (k2 : Int).tmod (n : Int) = (m : Int)) (HX : Hid (wrap64 (wrap64 (25 * O) - wrap64 (21 * c)) = x))
    (HP : Hid (∀ W, Calls Try.prog 44 #[.int .i64 bits] W fun e w' => e = .returned (.int .i64 O) ∧ w' = W)) (HS : Hid (∀ W, Calls Try.prog 46 #[.int .i64 x, .int .i64 46] W fun e w' => e = .returned (.int .i64 r) ∧ w' = W))
    (w : World) (hb : yb < w.heap.size) (h1 : w.cell? ⟨yb, yo + k * 2, none⟩ = some (.int .i64 c)) (h2 : w.cell? ⟨yb, yo + m * 2, none⟩ = some (.int .i64 d)) :
    Calls Try.prog 21 #[.slice (some ⟨yb, yo, none⟩) n cap, .int .i64 2, .int .i64 bits, .int .i64 k] w fun e w' => e = .returned (.int .i64 r) ∧ w' = w := by
  go_enter Try.func21, Try.ntmps21
  go_wp2_with fail
  refine (HP.out _).mono ?_
  rintro e w1 ⟨rfl, hw⟩
  subst hw
  go_wp2_with fail
  rw [HX.out]
  refine (HS.out _).mono ?_
  rintro e w2 ⟨rfl, hw⟩
  subst hw
  go_wp2_with fail
  go_ret
  exact ⟨rfl, rfl⟩

set_option maxHeartbeats 1000000 in
theorem rWeight_3 (yb yo cap n k m k2 : Nat) (bits O c d x r : Int) (hkn : (k : Int) < (n : Int)) (hmn : (m : Int) < (n : Int)) (h0 : ¬ (n : Int) = 0) (e2 : wrap64 (2 * (k : Int)) = (k2 : Int)) (emod : (k2 : Int).tmod (n : Int) = (m : Int)) (HX : Hid (wrap64 (wrap64 (wrap64 (21 * O) - wrap64 (25 * c)) + wrap64 (4 * d)) = x))
    (HP : Hid (∀ W, Calls Try.prog 44 #[.int .i64 bits] W fun e w' => e = .returned (.int .i64 O) ∧ w' = W)) (HS : Hid (∀ W, Calls Try.prog 46 #[.int .i64 x, .int .i64 50] W fun e w' => e = .returned (.int .i64 r) ∧ w' = W))
    (w : World) (hb : yb < w.heap.size) (h1 : w.cell? ⟨yb, yo + k * 2, none⟩ = some (.int .i64 c)) (h2 : w.cell? ⟨yb, yo + m * 2, none⟩ = some (.int .i64 d)) :
    Calls Try.prog 21 #[.slice (some ⟨yb, yo, none⟩) n cap, .int .i64 3, .int .i64 bits, .int .i64 k] w fun e w' => e = .returned (.int .i64 r) ∧ w' = w := by
  go_enter Try.func21, Try.ntmps21
  go_wp2_with fail
  refine (HP.out _).mono ?_
  rintro e w1 ⟨rfl, hw⟩
  subst hw
  go_wp2_with fail
  rw [HX.out]
  refine (HS.out _).mono ?_
  rintro e w2 ⟨rfl, hw⟩
  subst hw
  go_wp2_with fail
  go_ret
  exact ⟨rfl, rfl⟩

/-- What reference 19 tells as weight k. -/
theorem rWeight_c (kind : Int) (n s : Nat) (b : Int) (hn : IsLen n) (k0 : 0 ≤ kind) (k1 : kind ≤ 3) (b0 : 0 ≤ b) (b1 : b ≤ 40) (hs : s = (56 - b).toNat) (k : Nat) (hk : k < n) (v : Value) (w : World) (hv : CxsAt w v (rootsL n s)) :
    Calls Try.prog 21 #[v, .int .i64 kind, .int .i64 b, .int .i64 k] w fun e w' => e = .returned (.int .i64 (winW kind n s k)) ∧ w' = w := by
  have hs0 : 16 ≤ s := by omega
  have hs1 : s ≤ 56 := by omega
  have hn4 : 4 ≤ n ∧ n ≤ 64 := by unfold IsLen at hn; omega
  have hlen : (rootsL (n : Int) s).length = n := by rw [rootsL_len]; omega
  have hat : ∀ j : Nat, j < n → (rootsL (n : Int) s)[j]? = some (rootG n j s) := fun j hj => by
    unfold rootsL
    rw [List.getElem?_map, Int.toNat_natCast, List.getElem?_range hj]
    rfl
  obtain ⟨yb, yo, cap, rfl, _, hb, hc⟩ := hv.at (by intro e; rw [e] at hlen; simp at hlen; omega)
  rw [hlen]
  have hmn : 2 * k % n < n := Nat.mod_lt _ (by omega)
  have h1 := (hc k _ (hat k hk)).1
  have h2 := (hc _ _ (hat _ hmn)).1
  have HP := Lib.hid (pow_c b b0 (by omega))
  rw [show b.toNat = 56 - s by omega] at HP
  have hc := root_re40 n hn k s hs0 hs1
  have hd := (root_re40 n hn ((2 * k % n : Nat) : Int) s hs0 hs1).1
  have e2 : wrap64 (2 * (k : Int)) = ((2 * k : Nat) : Int) := IntWalk.wrap64_in _ ⟨by omega, by omega⟩
  have emod : ((2 * k : Nat) : Int).tmod (n : Int) = ((2 * k % n : Nat) : Int) := by rw [Int.tmod_eq_emod_of_nonneg (by omega)]; rfl
  unfold winW
  generalize hO : (2 : Int) ^ (56 - s) = O at *
  generalize (rootG n k s).re = c at *
  generalize (rootG n ((2 * k % n : Nat) : Int) s).re = d at *
  clear hv hlen hat hO
  rcases (by omega : kind = 0 ∨ kind = 1 ∨ kind = 2 ∨ kind = 3) with rfl | rfl | rfl | rfl
  · exact rWeight_0 yb yo cap n k _ _ b O c d (by omega) (by omega) (by omega) e2 emod HP w hb h1 h2
  · exact rWeight_1 yb yo cap n k _ _ b O c d (O - c) _ (by omega) (by omega) (by omega) e2 emod (Lib.hid (IntWalk.wrap64_in _ ⟨by omega, by omega⟩)) HP (Lib.hid (refShift_c _ 1 1 ⟨by omega, by omega⟩ (by decide) (by decide) (by decide) (by decide))) w hb h1 h2
  · exact rWeight_2 yb yo cap n k _ _ b O c d (25 * O - 21 * c) _ (by omega) (by omega) (by omega) e2 emod (Lib.hid (by rw [IntWalk.wrap64_in (25 * O) ⟨by omega, by omega⟩, IntWalk.wrap64_in (21 * c) ⟨by omega, by omega⟩]; exact IntWalk.wrap64_in _ ⟨by omega, by omega⟩)) HP (Lib.hid (refDiv_c _ 46 ⟨by omega, by omega⟩ (by decide))) w hb h1 h2
  · exact rWeight_3 yb yo cap n k _ _ b O c d (21 * O - 25 * c + 4 * d) _ (by omega) (by omega) (by omega) e2 emod (Lib.hid (by rw [IntWalk.wrap64_in (21 * O) ⟨by omega, by omega⟩, IntWalk.wrap64_in (25 * c) ⟨by omega, by omega⟩, IntWalk.wrap64_in (4 * d) ⟨by omega, by omega⟩, IntWalk.wrap64_in (21 * O - 25 * c) ⟨by omega, by omega⟩]; exact IntWalk.wrap64_in _ ⟨by omega, by omega⟩)) HP (Lib.hid (refDiv_c _ 50 ⟨by omega, by omega⟩ (by decide))) w hb h1 h2

set_option maxHeartbeats 2000000 in
/-- Its table; the slice is a new one. -/
theorem rWin_of (kind log b : Int) (n : Nat) (f : Nat → Int) (hn : n ≤ 64) (T : List Gi) (hT : T.length = n) (hne : T ≠ [])
    (HT : Hid (∀ W, Calls Try.prog 20 #[.int .i64 log, .int .i64 b] W fun e w' => ∃ v, e = .returned v ∧ CxsAt w' v T ∧ Gr W w' ∧ (∀ k, v.ownBlock = some k → W.heap.size ≤ k)))
    (HW : Hid (∀ k : Nat, k < n → ∀ v W, CxsAt W v T → Calls Try.prog 21 #[v, .int .i64 kind, .int .i64 b, .int .i64 k] W fun e w' => e = .returned (.int .i64 (f k)) ∧ w' = W)) (w : World) :
    Calls Try.prog 11 #[.int .i64 kind, .int .i64 log, .int .i64 b] w fun e w' => ∃ v, e = .returned v ∧ NumsAt w' v ((List.range n).map f) ∧ Gr w w' := by
  obtain ⟨i0, hi, hz0, hz1, hz2⟩ := info_parts info_int
  go_enter Try.func11, Try.ntmps11
  go_wp2_with fail
  obtain ⟨u1, hu⟩ : ∃ uu, uu = w.alloc (.cells #[] 3) := ⟨_, rfl⟩
  have hrow0 : u1.ownsRow w.heap.size 3 1 (.slice (some ⟨w.heap.size, 0, none⟩) 0 0) 0 [] := by
    rw [hu]
    exact World.ownsRow_made w #[] 0 (Nat.le_refl _) (by unfold maxLen; omega) (by simp)
  have gu1 : Gr w u1 := by rw [hu]; exact (Gr.refl w).alloc _ _
  have hu1s : w.heap.size < u1.heap.size := by rw [hu]; simp
  rw [← hu]
  clear hu
  refine (HT.out _).mono ?_
  rintro e w1 ⟨vt, rfl, hv1, g1, hfr⟩
  have row1 := ownsRow_gr hrow0 g1
  have y1 := gu1.trans g1
  obtain ⟨bb, oo, cap, rfl, _, hbb, _⟩ := hv1.at hne
  have hbu : w.heap.size < bb := Nat.lt_of_lt_of_le hu1s (hfr bb rfl)
  rw [hT] at hv1 ⊢
  clear hrow0 gu1 g1 HT hfr hu1s
  go_wp2_with fail
  go_loopw [7, 9, 16] (fun v _ i wr => ∃ j : Nat, j ≤ n ∧ i = .int .i64 j ∧ wr.ownsRow w.heap.size 3 1 v j (((List.range j).map f).map (Value.int .i64)) ∧ v.ownBlock ≠ some bb ∧ CxsAt wr (.slice (some ⟨bb, oo, none⟩) n cap) T ∧ Gr w wr)
    (fun _ _ i _ => n - (intOf i).toNat)
  case atStart => exact ⟨0, by omega, rfl, row1, by simp [Value.ownBlock]; omega, hv1, y1⟩
  case round =>
    clear row1 hv1 y1
    obtain ⟨j, hj, rfl, hrow, hnb, hv, hg⟩ := hrel
    by_cases hlt : j < n
    · have hlI : (j : Int) < (n : Int) := by omega
      have HW1 := Lib.hid (HW.out j hlt _ _ hv)
      have HTK := Lib.hid (show (List.range (j + 1)).map f = (List.range j).map f ++ [f j] by rw [List.range_succ, List.map_append]; rfl)
      generalize f j = x at *
      go_wp2_with fail
      refine (HW1.out).mono ?_
      rintro e w2 ⟨rfl, hw⟩
      subst hw
      clear HW1
      have hbl : bb < w2.heap.size := by
        obtain ⟨_, _, _, h, _, hb, _⟩ := hv.at hne
        cases h
        exact hb
      go_wp2_with (at_builtin; refine wpList_append_own_at _ rfl (.tmp 19) (.tmp 25) 22 rfl w.heap.size 3 i0 (.int .i64 0) 1 8 Try.underlying22 hi hz0 hz1 hz2 rfl (by decide) _ _ _ rfl (hrow.alloc _) ⟨_, 0, none⟩ 1 1 [.int .i64 x] rfl rfl (cell_one_new _ _ _) (by simp [Value.oneCell']) (by unfold maxLen; omega) (by omega) (by simp; omega) ?_; intro v1 W1 hown1 hgrow1 _ hblk)
      have hg3 := (hg.allocO _).grown hgrow1 (fun k e => (hrow.lt k e).1)
      have hv3 : CxsAt W1 (.slice (some ⟨bb, oo, none⟩) n cap) T := (hv.gr ((Gr.refl _).alloc _ _)).grownW hgrow1 (fun e => hnb e.symm)
      go_roundw
      case rel =>
        refine ⟨j + 1, by omega, by go_num, ?_, by rcases hblk with h | h <;> rw [h]; exact hnb; simp; omega, hv3, hg3⟩
        rw [HTK.out, List.map_append]
        exact hown1
      case measure => simp [intOf]; omega
    · obtain rfl : j = n := by omega
      have hlI : ¬ (j : Int) < (j : Int) := by omega
      go_wp2_with fail
      go_ret
      exact ⟨_, rfl, NumsAt.of_row hrow, hg⟩

set_option maxHeartbeats 1000000 in
theorem rSum_c (v : Value) (ls : List Int) (hl : ls.length ≤ 64) (hb : ∀ x ∈ ls, -8796093022208 ≤ x ∧ x ≤ 8796093022208) (hne : ls ≠ []) (w : World) (hv : NumsAt w v ls) :
    Calls Try.prog 13 #[v] w fun e w' => e = .returned (.int .i64 (addL ls)) ∧ w' = w := by
  obtain ⟨yb, yo, cap, rfl, _, hbb, hc⟩ := hv.at hne
  have HC := Lib.hid hc
  have HB := Lib.hid hb
  have HL := Lib.hid hl
  clear hc hv hb hl hne
  go_enter Try.func13, Try.ntmps13
  go_wp2_with fail
  go_loopw [3, 5, 8] (fun a _ i wr => ∃ j : Nat, j ≤ ls.length ∧ i = .int .i64 j ∧ a = .int .i64 (addL (ls.take j)) ∧ wr = w) (fun _ _ i _ => ls.length - (intOf i).toNat)
  case atStart => exact ⟨0, by omega, rfl, rfl, rfl⟩
  case round =>
    obtain ⟨j, hj, rfl, rfl, rfl⟩ := hrel
    by_cases hlt : j < ls.length
    · obtain ⟨x, hx⟩ := get_of_lt hlt
      have hlI : (j : Int) < (ls.length : Int) := by omega
      have h1 := HC.out j x hx
      have es : addL (ls.take (j + 1)) = addL (ls.take j) + x := by rw [take_snoc hx, addL_snoc]
      have hx1 := HB.out x (List.mem_of_getElem? hx)
      have hx2 := addL_bd (ls.take j) 8796093022208 (fun y hy => HB.out y (List.mem_of_mem_take hy))
      rw [List.length_take, Nat.min_eq_left hj] at hx2
      have HL1 := HL.out
      have hw : wrap64 (addL (ls.take j) + x) = addL (ls.take (j + 1)) := by rw [es]; exact IntWalk.wrap64_in _ ⟨by omega, by omega⟩
      clear hx1 hx2 es hx
      go_wp2_with fail
      go_roundw
      case rel => exact ⟨j + 1, by omega, by go_num, by first | rfl | (simp [hw]), by trivial⟩
      case measure => simp [intOf]; omega
    · obtain rfl : j = ls.length := by omega
      have hlI : ¬ (ls.length : Int) < (ls.length : Int) := by omega
      go_wp2_with fail
      go_ret
      exact ⟨by simp [List.take_length], rfl⟩

end Go.Proofs.Ytbdglbpkbpedoaa
