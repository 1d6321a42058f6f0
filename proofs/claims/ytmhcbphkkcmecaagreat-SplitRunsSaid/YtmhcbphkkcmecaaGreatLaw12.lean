/- What the laws of stage 12 call: Run and Join, in numbers; alive. -/
import Derived.Test.YtmhcbphkkcmecaaGreatSplitCode7
import Derived.Test.YtmhcbphkkcmecaaGreatSplitCode8
namespace Go.Proofs.YtmhcbphkkcmecaaGreat
open Go.ChangeShapes Go.WideShapes Go.ChangeAt Go.RowKit
set_option linter.unusedVariables false
set_option linter.unusedSimpArgs false
set_option maxRecDepth 100000

theorem sL_congr (bits : Nat) (mo : Int) (inv : Bool) (ws : List Gi) (l : Nat) (xs : List Gi) (f : Nat → Gi) (h : ∀ j, j < 2 ^ l → xs.getD j ⟨0, 0⟩ = f j) : sL bits mo inv ws l xs = (List.range (2 ^ l)).map (spl bits mo inv (rootOf ws inv) ws.length l f) := by
  unfold sL
  exact List.map_congr_left fun i hi => spl_congr _ _ _ _ _ _ _ _ h i (List.mem_range.1 hi)
/-- The same number n times. -/
theorem sL_same (bits : Nat) (mo : Int) (inv : Bool) (ws : List Gi) (l : Nat) (xs : List Gi) (a : Gi) (hm : mo = 0 ∨ mo = 1 ∨ mo = 2) (hW : rootOf ws inv 0 = ⟨2 ^ bits, 0⟩) (h : ∀ j, j < 2 ^ l → xs.getD j ⟨0, 0⟩ = a) :
    sL bits mo inv ws l xs = (List.range (2 ^ l)).map (fun i => if i = 0 then a else ⟨0, 0⟩) := by
  rw [sL_congr _ _ _ _ _ _ (fun _ => a) h]
  exact List.map_congr_left fun i hi => spl_same _ _ _ _ _ _ hm hW _ _ (List.mem_range.1 hi)


/-- Four that may be joined. -/
def JoinsOk (b : Nat) (ju jv jy jz ja jc : Gi) : Prop := allIn 2147483648 [ju, jv, jy, jz] = true ∧ allIn (2 ^ b) [ja, jc] = true
/-- When Run refuses, and why. -/
inductive RunNo (n : Nat) (f mo : Int) (xs : List Gi) : Int → Prop where
  | size (h : ¬ ∃ L, IsLog (n : Int) L) : RunNo n f mo xs 3
  | arg (h : ∃ L, IsLog (n : Int) L) (k : (f < 0 ∨ 1 < f) ∨ mo < 0 ∨ 2 < mo) : RunNo n f mo xs 1
  | range (h : ∃ L, IsLog (n : Int) L) (lim b p : Int) (H : FB f b p) (hl : lim = p / 2) (m0 : 0 ≤ mo) (m1 : mo ≤ 2) (k : allIn lim xs = false) : RunNo n f mo xs 2
/-- When it answers, and in how many bits. -/
def RunYes (n : Nat) (f mo : Int) (xs : List Gi) (L B : Nat) : Prop := IsLog (n : Int) L ∧ (0 ≤ mo ∧ mo ≤ 2) ∧ ((f = 0 ∧ B = 13 ∧ allIn 16384 xs = true) ∨ (f = 1 ∧ B = 29 ∧ allIn 1073741824 xs = true))
theorem run_cases (n : Nat) (f mo : Int) (xs : List Gi) : (∃ e, RunNo n f mo xs e) ∨ ∃ L B, RunYes n f mo xs L B := by
  by_cases hL : ∃ L, IsLog (n : Int) L
  · by_cases hf : f < 0 ∨ 1 < f
    · exact .inl ⟨1, .arg hL (.inl hf)⟩
    · by_cases hm : mo < 0 ∨ 2 < mo
      · exact .inl ⟨1, .arg hL (.inr hm)⟩
      · obtain ⟨L, h⟩ := hL
        have hc : f = 0 ∨ f = 1 := by omega
        rcases hc with rfl | rfl
        · cases hx : allIn 16384 xs
          · exact .inl ⟨2, .range ⟨L, h⟩ 16384 15 32768 (by unfold FB; omega) (by decide) (by omega) (by omega) hx⟩
          · exact .inr ⟨L, 13, h, by omega, .inl ⟨rfl, rfl, hx⟩⟩
        · cases hx : allIn 1073741824 xs
          · exact .inl ⟨2, .range ⟨L, h⟩ 1073741824 31 2147483648 (by unfold FB; omega) (by decide) (by omega) (by omega) hx⟩
          · exact .inr ⟨L, 29, h, by omega, .inr ⟨rfl, rfl, hx⟩⟩
  · exact .inl ⟨3, .size hL⟩
theorem RunNo.pos {n : Nat} {f mo : Int} {xs : List Gi} {e : Int} (h : RunNo n f mo xs e) : e = 1 ∨ e = 2 ∨ e = 3 := by cases h <;> simp


theorem sRun_no (px : Option Addr) (cx n : Nat) (f mo e : Int) (inv : Bool) (xs : List Gi) (hl : xs.length = n) (h : RunNo n f mo xs e) (w : World) (vx : CxsAt w (.slice px n cx) xs) :
    Calls Tryz.prog 4 #[.slice px n cx, .int .i64 f, .int .i64 mo, .bool inv] w fun e' w' => e' = .returned (.tuple #[.slice none 0 0, .int .i64 e]) ∧ Gr w w' := by
  cases h with
  | size h => exact sRun_size px cx n f mo inv h w
  | arg h k =>
    obtain ⟨L, hL⟩ := h
    by_cases hf : f < 0 ∨ 1 < f
    · exact sRun_fmt px cx n L f mo inv hL hf w
    · have hm : mo < 0 ∨ 2 < mo := by omega
      have hc : f = 0 ∨ f = 1 := by omega
      rcases hc with rfl | rfl
      · exact sRun_mode_15 px cx n L mo inv hL hm w
      · exact sRun_mode_31 px cx n L mo inv hL hm w
  | range h lim b p H hlim m0 m1 k =>
    obtain ⟨L, hL⟩ := h
    rcases H with ⟨rfl, rfl, rfl⟩ | ⟨rfl, rfl, rfl⟩
    · subst hlim
      exact sRun_range_15 px cx n L mo inv xs hl hL m0 m1 k w vx
    · subst hlim
      exact sRun_range_31 px cx n L mo inv xs hl hL m0 m1 k w vx
theorem sRun_yes (px : Option Addr) (cx n : Nat) (f mo : Int) (inv : Bool) (xs : List Gi) (L B : Nat) (hl : xs.length = n) (h : RunYes n f mo xs L B) (w : World) (vx : CxsAt w (.slice px n cx) xs) :
    Calls Tryz.prog 4 #[.slice px n cx, .int .i64 f, .int .i64 mo, .bool inv] w fun e w' => ∃ v, e = .returned (.tuple #[v, .int .i64 0]) ∧ CxsAt w' v (sL B mo inv (rootsL n (56 - B)) L xs) ∧ Gr w w' := by
  obtain ⟨hL, ⟨m0, m1⟩, ⟨rfl, rfl, hx⟩ | ⟨rfl, rfl, hx⟩⟩ := h
  · exact sRun_ok_15 px cx n L mo inv xs hl hL m0 m1 hx w vx
  · exact sRun_ok_31 px cx n L mo inv xs hl hL m0 m1 hx w vx

theorem run_facts {n : Nat} {f mo : Int} {xs : List Gi} {L B : Nat} (inv : Bool) (h : RunYes n f mo xs L B) : n = 2 ^ L ∧ IsLen (n : Int) ∧ (12 ≤ B ∧ B ≤ 29) ∧ (mo = 0 ∨ mo = 1 ∨ mo = 2) ∧ rootOf (rootsL n (56 - B)) inv 0 = ⟨2 ^ B, 0⟩ ∧ (rootsL n (56 - B)).length = n := by
  obtain ⟨⟨l0, l1, hn⟩, hm, hB⟩ := h
  have hn2 : n = 2 ^ L := by exact Int.ofNat.inj hn
  have hnl : (n : Int) = 2 ^ (L : Int).toNat := by rw [hn2, Int.toNat_natCast]; simp
  have hN : IsLen n := len_log n L (by omega) (by omega) hnl
  have hb : 12 ≤ B ∧ B ≤ 29 := by omega
  exact ⟨hn2, hN, hb, by omega, roots_first n hN B (by omega) inv, by rw [rootsL_len, Int.toNat_natCast]⟩


set_option maxHeartbeats 2000000 in
theorem alive12_c (w : World) : Calls Tryz.prog 6 #[] w fun e w' => e = .returned (.bool true) ∧ Gr w w' := by
  have HR := Lib.hid fun W (vx : CxsAt W (.slice (some ⟨w.heap.size + 1, 0, none⟩) 4 4) [⟨4, 0⟩, ⟨4, 0⟩, ⟨4, 0⟩, ⟨4, 0⟩]) => sRun_yes (some ⟨w.heap.size + 1, 0, none⟩) 4 4 0 0 false [⟨4, 0⟩, ⟨4, 0⟩, ⟨4, 0⟩, ⟨4, 0⟩] 2 13 rfl ⟨⟨by omega, by omega, by decide⟩, by omega, .inl ⟨rfl, rfl, by decide⟩⟩ W vx
  have e : sL 13 0 false (rootsL (4 : Nat) (56 - 13)) 2 [⟨4, 0⟩, ⟨4, 0⟩, ⟨4, 0⟩, ⟨4, 0⟩] = [⟨4, 0⟩, ⟨0, 0⟩, ⟨0, 0⟩, ⟨0, 0⟩] := by
    have hs := sL_same 13 0 false (rootsL (4 : Nat) (56 - 13)) 2 [⟨4, 0⟩, ⟨4, 0⟩, ⟨4, 0⟩, ⟨4, 0⟩] ⟨4, 0⟩ (by omega) (roots_first ((4 : Nat) : Int) (by unfold IsLen; omega) 13 (by omega) false) (fun j hj => by
      have hc : j = 0 ∨ j = 1 ∨ j = 2 ∨ j = 3 := by omega
      rcases hc with rfl | rfl | rfl | rfl <;> rfl)
    rw [hs]
    rfl
  rw [e] at HR
  clear e
  go_enter Tryz.func6, Tryz.ntmps6
  go_wp2_with fail
  obtain ⟨u0, hU⟩ : ∃ uu, uu = ((w.alloc (.cells #[.int .i64 4, .int .i64 0] 42)).alloc (.cells #[.int .i64 4, .int .i64 0, .int .i64 4, .int .i64 0, .int .i64 4, .int .i64 0, .int .i64 4, .int .i64 0] 42)) := ⟨_, rfl⟩
  have gu : Gr w u0 := by rw [hU]; exact ((Gr.refl w).alloc _ _).alloc _ _
  have R0 : CellsAt u0 (w.heap.size) 42 #[.int .i64 4, .int .i64 0] := by
    rw [hU]
    have := ((CellsAt.new w 42 #[.int .i64 4, .int .i64 0]).alloc (.cells #[.int .i64 4, .int .i64 0, .int .i64 4, .int .i64 0, .int .i64 4, .int .i64 0, .int .i64 4, .int .i64 0] 42))
    simpa only [World.size_alloc] using this
  have R1 : CellsAt u0 (w.heap.size + 1) 42 #[.int .i64 4, .int .i64 0, .int .i64 4, .int .i64 0, .int .i64 4, .int .i64 0, .int .i64 4, .int .i64 0] := by
    rw [hU]
    have := (CellsAt.new (w.alloc (.cells #[.int .i64 4, .int .i64 0] 42)) 42 #[.int .i64 4, .int .i64 0, .int .i64 4, .int .i64 0, .int .i64 4, .int .i64 0, .int .i64 4, .int .i64 0])
    simpa only [World.size_alloc] using this
  rw [← hU]
  clear hU
  have la := R0.lt
  have ls := R1.lt
  refine (HR.out _ (CxsAt.four (a := ⟨4, 0⟩) (b := ⟨4, 0⟩) (c := ⟨4, 0⟩) (d := ⟨4, 0⟩) R1)).mono ?_
  rintro e w1 ⟨v, rfl, hv, g1⟩
  have Fa_1 := CellsAt.gr (R0) g1
  have la_1 := CellsAt.lt (Fa_1)
  have Fs_1 := CellsAt.gr (R1) g1
  have ls_1 := CellsAt.lt (Fs_1)
  have z1 := (gu).trans g1
  clear R0 R1 gu g1
  have ca0 := CellsAt.cell (Fa_1) 0
  have ca1 := CellsAt.cell (Fa_1) 1
  simp only [List.getElem?_toArray, List.getElem?_cons_zero, List.getElem?_cons_succ] at ca0 ca1
  go_wp2_with fail
  clear ca0 ca1
  have Ya_p1 : CellsAt (w1.alloc (.cells #[.int .i64 4, .int .i64 0, .int .i64 0, .int .i64 0, .int .i64 0, .int .i64 0, .int .i64 0, .int .i64 0] 42)) (w.heap.size) 42 #[.int .i64 4, .int .i64 0] := by first | exact CellsAt.alloc (Fa_1) (.cells #[.int .i64 4, .int .i64 0, .int .i64 0, .int .i64 0, .int .i64 0, .int .i64 0, .int .i64 0, .int .i64 0] 42) | simpa using CellsAt.alloc (Fa_1) (.cells #[.int .i64 4, .int .i64 0, .int .i64 0, .int .i64 0, .int .i64 0, .int .i64 0, .int .i64 0, .int .i64 0] 42)
  have Ys_p1 : CellsAt (w1.alloc (.cells #[.int .i64 4, .int .i64 0, .int .i64 0, .int .i64 0, .int .i64 0, .int .i64 0, .int .i64 0, .int .i64 0] 42)) (w.heap.size + 1) 42 #[.int .i64 4, .int .i64 0, .int .i64 4, .int .i64 0, .int .i64 4, .int .i64 0, .int .i64 4, .int .i64 0] := by first | exact CellsAt.alloc (Fs_1) (.cells #[.int .i64 4, .int .i64 0, .int .i64 0, .int .i64 0, .int .i64 0, .int .i64 0, .int .i64 0, .int .i64 0] 42) | simpa using CellsAt.alloc (Fs_1) (.cells #[.int .i64 4, .int .i64 0, .int .i64 0, .int .i64 0, .int .i64 0, .int .i64 0, .int .i64 0, .int .i64 0] 42)
  have Yl_p1 : CellsAt (w1.alloc (.cells #[.int .i64 4, .int .i64 0, .int .i64 0, .int .i64 0, .int .i64 0, .int .i64 0, .int .i64 0, .int .i64 0] 42)) (w1.heap.size) 42 #[.int .i64 4, .int .i64 0, .int .i64 0, .int .i64 0, .int .i64 0, .int .i64 0, .int .i64 0, .int .i64 0] := by first | exact CellsAt.new w1 42 #[.int .i64 4, .int .i64 0, .int .i64 0, .int .i64 0, .int .i64 0, .int .i64 0, .int .i64 0, .int .i64 0] | simpa using CellsAt.new w1 42 #[.int .i64 4, .int .i64 0, .int .i64 0, .int .i64 0, .int .i64 0, .int .i64 0, .int .i64 0, .int .i64 0]
  have yp1 := Gr.alloc (z1) #[.int .i64 4, .int .i64 0, .int .i64 0, .int .i64 0, .int .i64 0, .int .i64 0, .int .i64 0, .int .i64 0] 42
  refine (same03_c v _ _ _ (hv.gr ((Gr.refl w1).alloc #[.int .i64 4, .int .i64 0, .int .i64 0, .int .i64 0, .int .i64 0, .int .i64 0, .int .i64 0, .int .i64 0] 42)) (CxsAt.four (a := ⟨4, 0⟩) (b := ⟨0, 0⟩) (c := ⟨0, 0⟩) (d := ⟨0, 0⟩) Yl_p1)).mono ?_
  rintro e w2 ⟨rfl, g2⟩
  go_wp2_with fail
  go_ret
  exact ⟨rfl, (yp1).trans g2⟩

end Go.Proofs.YtmhcbphkkcmecaaGreat
