/- What package scan's Shifted answers; the contracts of all its calls. -/
import Derived.Test.YtmmhgcemkbgajaaScanCode3
import Derived.Test.YtmmhgcemkbgajaaLaw09
namespace Go.Proofs.Ytmmhgcemkbgajaa
open Go.ChangeShapes Go.WideShapes Go.ChangeAt Go.RowKit
set_option linter.unusedVariables false

theorem sShifted_down (x y s mo : Int) (wx : -9223372036854775808 ≤ x ∧ x ≤ 9223372036854775807) (wy : -9223372036854775808 ≤ y ∧ y ≤ 9223372036854775807) (s0 : 0 ≤ s) (s1 : s ≤ 62) (m0 : 0 ≤ mo) (m1 : mo ≤ 2) (w : World) :
    Calls Try.prog 31 #[.agg #[.int .i64 x, .int .i64 y], .int .i64 s, .int .i64 mo] w fun e w' => e = .returned (.tuple #[.agg #[.int .i64 (rnd x s.toNat mo), .int .i64 (rnd y s.toNat mo)], .int .i64 0]) ∧ Gr w w' := by
  have HS := Lib.hid (cxshift_ok x y s mo wx wy s0 s1 m0 m1)
  generalize rnd x s.toNat mo = r0 at *
  generalize rnd y s.toNat mo = r1 at *
  clear wx wy m0 m1 s1
  go_enter Try.func31, Try.ntmps31
  go_wp2_with fail
  have R0 := CellsAt.new (w.alloc (.cells #[.int .i64 x, .int .i64 y] 45)) 45 #[.int .i64 0, .int .i64 0]
  have gw0 := ((Gr.refl w).alloc #[.int .i64 x, .int .i64 y] 45).alloc #[.int .i64 0, .int .i64 0] 45
  rw [World.size_alloc] at R0
  refine (HS.out _).mono ?_
  rintro e w2 ⟨rfl, hg⟩
  have R1 := R0.gr hg
  have gw := gw0.trans hg
  have hsz := gw.size
  have c0 := R1.cell 0
  have c1 := R1.cell 1
  have f0 := R1.frozen 0
  have f1 := R1.frozen 1
  have hlt := R1.lt
  simp only [List.getElem?_toArray, List.getElem?_cons_zero, List.getElem?_cons_succ] at c0 c1
  clear R0 gw0 hg
  go_wp2_with fail
  refine bodyPost_ret (v := .tuple #[.agg #[.int .i64 r0, .int .i64 r1], .int .i64 0]) ?_ rfl ⟨rfl, ?_⟩
  · simp [results, Try.results31, go_sem, c0, c1]
  · exact (gw.setCell (a := ⟨w.heap.size + 1, 0, none⟩) (by simp) _).setCell (a := ⟨w.heap.size + 1, 1, none⟩) (by simp) _

theorem sShifted_up (x y s mo r0 r1 : Int) (s0 : 0 < s) (s1 : s ≤ 62) (hx : inB (2 ^ (62 - s).toNat) x = true) (hy : inB (2 ^ (62 - s).toNat) y = true) (h0 : x * 2 ^ s.toNat = r0) (h1 : y * 2 ^ s.toNat = r1) (w : World) :
    Calls Try.prog 31 #[.agg #[.int .i64 x, .int .i64 y], .int .i64 (-s), .int .i64 mo] w fun e w' => e = .returned (.tuple #[.agg #[.int .i64 r0, .int .i64 r1], .int .i64 0]) ∧ Gr w w' := by
  have HX := Lib.hid (up_ok x s (by omega) s1 (inB_iff.1 hx).1 (inB_iff.1 hx).2)
  have HY := Lib.hid (up_ok y s (by omega) s1 (inB_iff.1 hy).1 (inB_iff.1 hy).2)
  rw [h0] at HX
  rw [h1] at HY
  clear hx hy h0 h1
  go_enter Try.func31, Try.ntmps31
  go_wp2_with (first | (go_at_call 37; ((with_reducible refine (HX.out _).mono ?_); rintro e w' ⟨rfl, rfl⟩)) | (go_at_call 37; ((with_reducible refine (HY.out _).mono ?_); rintro e w' ⟨rfl, rfl⟩)))
  refine bodyPost_ret (v := .tuple #[.agg #[.int .i64 r0, .int .i64 r1], .int .i64 0]) ?_ rfl ⟨rfl, ?_⟩
  · simp [results, Try.results31, go_sem]
  · exact ((Gr.refl w).alloc _ _).alloc _ _

theorem sShifted_range (x y s mo : Int) (s0 : 0 < s) (s1 : s ≤ 62) (h : (inB (2 ^ (62 - s).toNat) x && inB (2 ^ (62 - s).toNat) y) = false) (w : World) :
    Calls Try.prog 31 #[.agg #[.int .i64 x, .int .i64 y], .int .i64 (-s), .int .i64 mo] w fun e w' => e = .returned (.tuple #[.agg #[.int .i64 0, .int .i64 0], .int .i64 2]) ∧ Gr w w' := by
  have out : ∀ z, inB (2 ^ (62 - s).toNat) z = false → z < -(2 ^ (62 - s).toNat) ∨ 2 ^ (62 - s).toNat < z := by
    intro z hz
    unfold inB at hz
    have := of_decide_eq_false hz
    omega
  cases hx : inB (2 ^ (62 - s).toNat) x
  · have HX := Lib.hid (up_range x s (by omega) s1 (out x hx))
    clear out hx h
    go_enter Try.func31, Try.ntmps31
    go_wp2_with (first | (go_at_call 37; ((with_reducible refine (HX.out _).mono ?_); rintro e w' ⟨rfl, rfl⟩)))
    refine bodyPost_ret (v := .tuple #[.agg #[.int .i64 0, .int .i64 0], .int .i64 2]) ?_ rfl ⟨rfl, ?_⟩
    · simp [results, Try.results31, go_sem]
    · exact ((Gr.refl w).alloc _ _).alloc _ _
  · have hy : inB (2 ^ (62 - s).toNat) y = false := by rw [hx] at h; simpa using h
    have HX := Lib.hid (up_ok x s (by omega) s1 (inB_iff.1 hx).1 (inB_iff.1 hx).2)
    have HY := Lib.hid (up_range y s (by omega) s1 (out y hy))
    generalize x * 2 ^ s.toNat = r0 at HX
    clear out hx h hy
    go_enter Try.func31, Try.ntmps31
    go_wp2_with (first | (go_at_call 37; ((with_reducible refine (HX.out _).mono ?_); rintro e w' ⟨rfl, rfl⟩)) | (go_at_call 37; ((with_reducible refine (HY.out _).mono ?_); rintro e w' ⟨rfl, rfl⟩)))
    refine bodyPost_ret (v := .tuple #[.agg #[.int .i64 0, .int .i64 0], .int .i64 2]) ?_ rfl ⟨rfl, ?_⟩
    · simp [results, Try.results31, go_sem]
    · exact ((Gr.refl w).alloc _ _).alloc _ _

theorem scanShifted_arg (v : Value) (xs : List Gi) (s mo : Int) (h : s < -62 ∨ 62 < s ∨ mo < 0 ∨ 2 < mo) (hs : -9223372036854775808 ≤ s) (hl : xs.length ≤ 1048576) (w : World) (hv : CxsAt w v xs) :
    Calls Try.prog 17 #[v, .int .i64 s, .int .i64 mo] w fun e w' => e = .returned (.tuple #[.slice none 0 0, .int .i64 1]) ∧ Gr w w' := by
  clear hv hl hs
  by_cases a : s < -62
  · clear h
    go_enter Try.func17, Try.ntmps17
    go_wp2_with fail
    go_ret2
    exact ⟨rfl, Gr.refl _⟩
  · by_cases b : 62 < s
    · clear h
      go_enter Try.func17, Try.ntmps17
      go_wp2_with fail
      go_ret2
      exact ⟨rfl, Gr.refl _⟩
    · have HM := Lib.hid (sMode_no mo (by omega))
      clear h
      go_enter Try.func17, Try.ntmps17
      go_wp2_with (go_at_call 30; ((with_reducible refine (HM.out _).mono ?_); rintro e w' ⟨rfl, hg⟩))
      go_ret2
      exact ⟨rfl, hg⟩

theorem shifted_one (x : Gi) (s mo : Int) (s0 : -62 ≤ s) (s1 : s ≤ 62) (m0 : 0 ≤ mo) (m1 : mo ≤ 2) (hb : (Lit.int .i64 x.re).wf = true ∧ (Lit.int .i64 x.im).wf = true)
    (h : s < 0 → (inB (2 ^ (62 + s).toNat) x.re && inB (2 ^ (62 + s).toNat) x.im) = true) (w : World) :
    Calls Try.prog 31 #[.agg #[.int .i64 x.re, .int .i64 x.im], .int .i64 s, .int .i64 mo] w fun e w' => e = .returned (.tuple #[.agg #[.int .i64 (shG s mo x).re, .int .i64 (shG s mo x).im], .int .i64 0]) ∧ Gr w w' := by
  unfold shG
  by_cases hs : 0 ≤ s
  · rw [if_pos hs]
    exact sShifted_down x.re x.im s mo (bounds_i64 hb.1) (bounds_i64 hb.2) hs s1 m0 m1 w
  · rw [if_neg hs]
    have hh := h (by omega)
    rw [Bool.and_eq_true] at hh
    have := sShifted_up x.re x.im (-s) mo _ _ (by omega) (by omega) (by rw [show 62 - -s = 62 + s by omega]; exact hh.1) (by rw [show 62 - -s = 62 + s by omega]; exact hh.2) rfl rfl w
    rwa [Int.neg_neg] at this
theorem shifted_not (x : Gi) (s mo : Int) (s0 : -62 ≤ s) (s1 : s < 0) (h : (inB (2 ^ (62 + s).toNat) x.re && inB (2 ^ (62 + s).toNat) x.im) = false) (w : World) :
    Calls Try.prog 31 #[.agg #[.int .i64 x.re, .int .i64 x.im], .int .i64 s, .int .i64 mo] w fun e w' => e = .returned (.tuple #[.agg #[.int .i64 0, .int .i64 0], .int .i64 2]) ∧ Gr w w' := by
  have := sShifted_range x.re x.im (-s) mo (by omega) (by omega) (by rw [show 62 - -s = 62 + s by omega]; exact h) w
  rwa [Int.neg_neg] at this

set_option maxRecDepth 10000 in set_option maxHeartbeats 4000000 in
theorem scanShifted_ok (v : Value) (xs : List Gi) (s mo : Int) (s0 : -62 ≤ s) (s1 : s ≤ 62) (m0 : 0 ≤ mo) (m1 : mo ≤ 2) (hb : ∀ a ∈ xs, (Lit.int .i64 a.re).wf = true ∧ (Lit.int .i64 a.im).wf = true)
    (hu : s < 0 → allIn (2 ^ (62 + s).toNat) xs = true) (hl : xs.length ≤ 1048576) (w : World) (hv : CxsAt w v xs) :
    Calls Try.prog 17 #[v, .int .i64 s, .int .i64 mo] w fun e w' => ∃ v', e = .returned (.tuple #[v', .int .i64 0]) ∧ CxsAt w' v' (xs.map (shG s mo)) ∧ Gr w w' := by
  have HM := Lib.hid (sMode_yes mo m0 m1)
  have hs62 : s ≤ 62 := by omega
  have hmk := run_make_cx xs.length hl
  by_cases hx : xs = []
  · subst hx
    obtain ⟨p, cap, rfl⟩ := hv.len
    rw [show ([] : List Gi).length = 0 from rfl]
    clear hmk
    have hmk : ∀ W : World, (Instr.makeSlice 22 (.int .i64 0) (.int .i64 0)).run Try.prog W = .ok (.slice (some ⟨W.heap.size, 0, none⟩) 0 0) (W.alloc (.cells (madeCells #[.int .i64 0, .int .i64 0] (0 * 2)) 45)) := run_make_cx 0 (by omega)
    clear hv hb hu hl m0 m1
    go_enter Try.func17, Try.ntmps17
    go_wp2_with (go_at_call 30; ((with_reducible refine (HM.out _).mono ?_); rintro e wz ⟨rfl, hgz⟩))
    refine wp_loop_rounds 1 ?_
    rw [rounds_succ]
    go_wp2_with fail
    go_ret2
    exact ⟨_, rfl, ⟨_, 0, rfl, Nat.le_refl _, Nat.zero_le _, fun h => absurd rfl h⟩, hgz.alloc _ _⟩
  · obtain ⟨b, o, cap, rfl, hlen, hbb, hc⟩ := hv.at hx
    have HC := Lib.hid hc
    have HG := Lib.hid fun (x : Gi) (hi : x ∈ xs) => shifted_one x s mo s0 s1 m0 m1 (hb x hi) (fun h => by
      have := (allIn_iff _ _).1 (hu h) x hi
      simp only [Bool.and_eq_true, inB_iff]
      exact ⟨absI_le.1 this.1, absI_le.1 this.2⟩)
    clear hu
    clear hc hv hx hb m0 m1
    go_enter Try.func17, Try.ntmps17
    go_wp2_with (go_at_call 30; ((with_reducible refine (HM.out _).mono ?_); rintro e wz ⟨rfl, hgz⟩))
    have M0 := CellsAt.new wz 45 (madeCells #[.int .i64 0, .int .i64 0] (xs.length * 2))
    have M1 := size_madeCells #[.int .i64 0, .int .i64 0] (xs.length * 2)
    have hzs := hgz.size
    go_loopw [9, 10, 11, 12, 29] (fun _ _ _ _ i wr => ∃ k : Nat, ∃ c : Array Value, k ≤ xs.length ∧ i = .int .i64 k ∧ CellsAt wr wz.heap.size 45 c ∧ c.size = xs.length * 2 ∧ (∀ j x, j < k → xs[j]? = some x → c[j * 2]? = some (.int .i64 (shG s mo x).re) ∧ c[j * 2 + 1]? = some (.int .i64 (shG s mo x).im)) ∧ Gr w wr) (fun _ _ _ _ i _ => xs.length - (intOf i).toNat)
    case atStart => exact ⟨0, _, by omega, rfl, M0, M1, fun j x hj => absurd hj (Nat.not_lt_zero _), hgz.alloc _ _⟩
    case round =>
      clear M0 M1 hmk HM
      obtain ⟨k, c, hk, rfl, hC, hsz, hj, hg⟩ := hrel
      by_cases hlt : k < xs.length
      · obtain ⟨x, hx⟩ := get_of_lt hlt
        have h1 := (hg.cell (p := ⟨b, o + k * 2, none⟩) hbb).trans (HC.out k x hx).1
        have h2 := (hg.cell (p := ⟨b, o + k * 2 + 1, none⟩) hbb).trans (HC.out k x hx).2
        have hbl : b < wr.heap.size := Nat.lt_of_lt_of_le hbb hg.size
        have HS := Lib.hid hsz
        have HJ := Lib.hid hj
        have HXK := Lib.hid hx
        have HG2 := Lib.hid (HG.out x (List.mem_of_getElem? hx))
        clear hx hsz hj HC HG
        generalize hgg : shG s mo x = g at *
        have HGG := Lib.hid hgg
        clear hgg
        obtain ⟨re, im⟩ := x
        obtain ⟨r0, r1⟩ := g
        simp only at h1 h2 HG2
        go_wp2_with fail
        refine (HG2.out _).mono ?_
        rintro e w2 ⟨rfl, hg2⟩
        have hC2 := (hC.alloc (.cells #[.int .i64 re, .int .i64 im] 45)).gr hg2
        have hg3 := (hg.alloc #[.int .i64 re, .int .i64 im] 45).trans hg2
        have f2 := hC2.frozen (k * 2)
        have f3 := hC2.frozen (k * 2 + 1)
        have q2 := hC2.cell (k * 2)
        have q3 := hC2.cell (k * 2 + 1)
        rw [Array.getElem?_eq_getElem (show k * 2 < c.size by rw [HS.out]; omega)] at q2
        rw [Array.getElem?_eq_getElem (show k * 2 + 1 < c.size by rw [HS.out]; omega)] at q3
        have hBl := hC2.lt
        clear hC hg2 hg HG2
        go_wp2_with fail
        have hC3 := ((hC2.set (k * 2) (.int .i64 r0)).set (k * 2 + 1) (.int .i64 r1)).alloc (.cells #[.int .i64 r0, .int .i64 r1] 45)
        have hg4 := ((hg3.setCell (a := ⟨wz.heap.size, k * 2, none⟩) hzs (.int .i64 r0)).setCell (a := ⟨wz.heap.size, k * 2 + 1, none⟩) hzs (.int .i64 r1)).alloc #[.int .i64 r0, .int .i64 r1] 45
        go_roundw
        case rel =>
          refine ⟨k + 1, _, by omega, by go_num, hC3, by simpa using HS.out, fun j y hj hy => ?_, hg4⟩
          by_cases e : j = k
          · subst e
            rw [HXK.out] at hy
            obtain rfl := Option.some.inj hy
            rw [HGG.out]
            constructor
            · rw [Array.getElem?_setIfInBounds, if_neg (by omega), Array.getElem?_setIfInBounds, if_pos rfl, if_pos (by rw [HS.out]; omega)]
            · rw [Array.getElem?_setIfInBounds, if_pos rfl, if_pos (by simp only [Array.size_setIfInBounds]; rw [HS.out]; omega)]
          · have := HJ.out j y (by omega) hy
            constructor
            · rw [Array.getElem?_setIfInBounds, if_neg (by omega), Array.getElem?_setIfInBounds, if_neg (by omega)]
              exact this.1
            · rw [Array.getElem?_setIfInBounds, if_neg (by omega), Array.getElem?_setIfInBounds, if_neg (by omega)]
              exact this.2
        case measure => simp [intOf] <;> omega
      · have he : k = xs.length := by omega
        have HE := Lib.hid he
        clear he
        go_wp2_with fail
        go_ret2
        refine ⟨.slice (some ⟨wz.heap.size, 0, none⟩) xs.length xs.length, rfl, ⟨some ⟨wz.heap.size, 0, none⟩, xs.length, by rw [List.length_map], by rw [List.length_map]; omega, by unfold maxLen; omega, fun _ => ⟨wz.heap.size, 0, rfl, hC.lt, fun j x hx => ?_⟩⟩, hg⟩
        rw [List.getElem?_map] at hx
        obtain ⟨x', hx', rfl⟩ := Option.map_eq_some_iff.1 hx
        have hjl := (List.getElem?_eq_some_iff.1 hx').1
        have := hj j x' (by rw [HE.out]; exact hjl) hx'
        rw [hC.cell, hC.cell, Nat.zero_add]
        exact this

set_option maxRecDepth 10000 in set_option maxHeartbeats 4000000 in
theorem scanShifted_range (v : Value) (xs : List Gi) (s mo : Int) (s0 : -62 ≤ s) (s1 : s < 0) (m0 : 0 ≤ mo) (m1 : mo ≤ 2) (hb : ∀ a ∈ xs, (Lit.int .i64 a.re).wf = true ∧ (Lit.int .i64 a.im).wf = true)
    (hn : allIn (2 ^ (62 + s).toNat) xs = false) (hl : xs.length ≤ 1048576) (w : World) (hv : CxsAt w v xs) :
    Calls Try.prog 17 #[v, .int .i64 s, .int .i64 mo] w fun e w' => e = .returned (.tuple #[.slice none 0 0, .int .i64 2]) ∧ Gr w w' := by
  have HM := Lib.hid (sMode_yes mo m0 m1)
  have hs62 : s ≤ 62 := by omega
  have hmk := run_make_cx xs.length hl
  by_cases hx : xs = []
  · subst hx
    cases hn
  · obtain ⟨b, o, cap, rfl, hlen, hbb, hc⟩ := hv.at hx
    have HC := Lib.hid hc
    have HG := Lib.hid fun (x : Gi) (hi : x ∈ xs) (h : (inB (2 ^ (62 + s).toNat) x.re && inB (2 ^ (62 + s).toNat) x.im) = true) => shifted_one x s mo s0 hs62 m0 m1 (hb x hi) (fun _ => h)
    have HN := Lib.hid fun (x : Gi) (h : (inB (2 ^ (62 + s).toNat) x.re && inB (2 ^ (62 + s).toNat) x.im) = false) => shifted_not x s mo s0 s1 h
    have HE := Lib.hid fun (k : Nat) (a : Gi) (h : xs[k]? = some a) => allIn_snoc (l := 2 ^ (62 + s).toNat) h
    have HX := Lib.hid hn
    have HA : allIn (2 ^ (62 + s).toNat) (xs.take xs.length) = allIn (2 ^ (62 + s).toNat) xs := by rw [List.take_length]
    clear hn
    clear hc hv hx hb m0 m1
    go_enter Try.func17, Try.ntmps17
    go_wp2_with (go_at_call 30; ((with_reducible refine (HM.out _).mono ?_); rintro e wz ⟨rfl, hgz⟩))
    have M0 := CellsAt.new wz 45 (madeCells #[.int .i64 0, .int .i64 0] (xs.length * 2))
    have M1 := size_madeCells #[.int .i64 0, .int .i64 0] (xs.length * 2)
    have hzs := hgz.size
    go_loopw [9, 10, 11, 12, 29] (fun _ _ _ _ i wr => ∃ k : Nat, ∃ c : Array Value, k ≤ xs.length ∧ i = .int .i64 k ∧ CellsAt wr wz.heap.size 45 c ∧ c.size = xs.length * 2 ∧ allIn (2 ^ (62 + s).toNat) (xs.take k) = true ∧ Gr w wr) (fun _ _ _ _ i _ => xs.length - (intOf i).toNat)
    case atStart => exact ⟨0, _, by omega, rfl, M0, M1, rfl, hgz.alloc _ _⟩
    case round =>
      clear M0 M1 hmk HM
      obtain ⟨k, c, hk, rfl, hC, hsz, hj, hg⟩ := hrel
      by_cases hlt : k < xs.length
      · obtain ⟨x, hx⟩ := get_of_lt hlt
        have h1 := (hg.cell (p := ⟨b, o + k * 2, none⟩) hbb).trans (HC.out k x hx).1
        have h2 := (hg.cell (p := ⟨b, o + k * 2 + 1, none⟩) hbb).trans (HC.out k x hx).2
        have hbl : b < wr.heap.size := Nat.lt_of_lt_of_le hbb hg.size
        have HS := Lib.hid hsz
        have HJ := Lib.hid hj
        have HXK := Lib.hid hx
        have HG1 := Lib.hid fun h => HG.out x (List.mem_of_getElem? hx) h
        have HN1 := Lib.hid (HN.out x)
        have HE1 := Lib.hid (HE.out k x hx hj)
        clear hx hsz hj HC HG HN HE HA HX HJ
        obtain ⟨re, im⟩ := x
        simp only at h1 h2 HG1 HN1 HE1
        generalize (inB (2 ^ (62 + s).toNat) re && inB (2 ^ (62 + s).toNat) im) = q at *
        cases q
        · have HN2 := Lib.hid (HN1.out rfl)
          clear HN1 HG1 HE1
          go_wp2_with fail
          refine (HN2.out _).mono ?_
          rintro e w2 ⟨rfl, hg2⟩
          go_wp2_with fail
          go_ret2
          exact ⟨rfl, ((hg.alloc _ _).trans hg2).alloc _ _⟩
        · have HG2 := Lib.hid (HG1.out rfl)
          clear HN1 HG1
          generalize shG s mo ⟨re, im⟩ = g at *
          obtain ⟨r0, r1⟩ := g
          simp only at HG2
          go_wp2_with fail
          refine (HG2.out _).mono ?_
          rintro e w2 ⟨rfl, hg2⟩
          have hC2 := (hC.alloc (.cells #[.int .i64 re, .int .i64 im] 45)).gr hg2
          have hg3 := (hg.alloc #[.int .i64 re, .int .i64 im] 45).trans hg2
          have f2 := hC2.frozen (k * 2)
          have f3 := hC2.frozen (k * 2 + 1)
          have q2 := hC2.cell (k * 2)
          have q3 := hC2.cell (k * 2 + 1)
          rw [Array.getElem?_eq_getElem (show k * 2 < c.size by rw [HS.out]; omega)] at q2
          rw [Array.getElem?_eq_getElem (show k * 2 + 1 < c.size by rw [HS.out]; omega)] at q3
          have hBl := hC2.lt
          clear hC hg2 hg HG2
          go_wp2_with fail
          have hC3 := ((hC2.set (k * 2) (.int .i64 r0)).set (k * 2 + 1) (.int .i64 r1)).alloc (.cells #[.int .i64 r0, .int .i64 r1] 45)
          have hg4 := ((hg3.setCell (a := ⟨wz.heap.size, k * 2, none⟩) hzs (.int .i64 r0)).setCell (a := ⟨wz.heap.size, k * 2 + 1, none⟩) hzs (.int .i64 r1)).alloc #[.int .i64 r0, .int .i64 r1] 45
          go_roundw
          case rel => exact ⟨k + 1, _, by omega, by go_num, hC3, by simpa using HS.out, HE1.out trivial, hg4⟩
          case measure => simp [intOf] <;> omega
      · obtain rfl : k = xs.length := by omega
        rw [HA, HX.out] at hj
        cases hj

theorem alive09_c (w : World) : Calls Try.prog 9 #[] w fun e w' => e = .returned (.bool true) ∧ Gr w w' :=
  alive09_of (scanRoom_ok 1000 0 15 32768 (.inl ⟨rfl, rfl, rfl⟩) (by omega) (by omega)) (scanPre_ok 4 32768 0 15 32768 (.inl ⟨rfl, rfl, rfl⟩) (.inr rfl) (by omega) (by omega)) w

end Go.Proofs.Ytmmhgcemkbgajaa
